import PyProof.Rows.All
import Wide.All
import OpenK.AllK
import Wide.FinOn
import Lean
import PyProof.EqAt
import PyProof.EqKinds
import PyProof.TupleCall
import PyProof.MeetsSeq
import PyProof.NeKinds
import PyProof.TupleOfSeq
import PyProof.ListRange
import PyProof.TupleOfGen
import PyProof.ZipIter
import KE.KRevIter
import PyProof.StrWalks
import PyProof.StrBlock2
import PyProof.MeetsStr
import PyProof.StrCalls2
import PyProof.StrLawsIn
import KE.KIntText
import PyProof.StrLawsTight
import PyProof.StrLawsChain
import PyProof.StrLawsAffix
import PyProof.Rows.StrItems
import PyProof.Rows.ReprOcc
import KE.KDictSum
import PyProof.Rows.SeqMore
import KE.KDictList
import KE.KStateDown
import PyProof.StrBlockI
import PyProof.FactsAll.NoneType_1
import PyProof.FString2
import PySem.Challenge.RW_dipkin_k48_none_longer_shown
set_option Elab.async false
set_option linter.all false
set_option maxRecDepth 100000
set_option maxHeartbeats 4000000
set_option genSizeOfSpec false
local macro_rules | `(tactic| omega) => `(tactic| first | lia | omega (config := {}))
section
open PySem PySem.Spec PyProof.Rows
noncomputable abbrev Ya:=@wpAny_bind
noncomputable abbrev Yb:=@wpAny_pure
noncomputable abbrev Yc:=@if_neg
noncomputable abbrev Yd:=@if_pos
noncomputable abbrev Ye:=@Nat.le_refl
noncomputable abbrev Yf:=@List.getElem?_eq_getElem
noncomputable abbrev Yg:=@List.length_map
noncomputable abbrev Yh:=@Heap.lt_size
noncomputable abbrev Yi:=@Nat.le_trans
noncomputable abbrev Yj:=@Nat.ne_of_lt
noncomputable abbrev Yk:=@List.mem_cons
noncomputable abbrev Yl:=@Heap.get?_push_of_some
noncomputable abbrev Ym:=@List.mem_append_right
noncomputable abbrev Yn:=@List.size_toArray
noncomputable abbrev Yo:=@Option.some.inj
noncomputable abbrev Yp:=@Nat.lt_of_lt_of_le
noncomputable abbrev Yq:=@List.mem_append
noncomputable abbrev Yr:=@List.getElem?_eq_some_iff
noncomputable abbrev Ys:=@Heap.get?_push_size
noncomputable abbrev Yt:=@wpAny_mono
noncomputable abbrev Yu:=@Bool.false_ne_true
noncomputable abbrev Yv:=@Nat.lt_of_le_of_lt
noncomputable abbrev Yw:=@Nat.lt_irrefl
noncomputable abbrev Yx:=@List.getElem?_map
noncomputable abbrev Yy:=@PySem.boot_len
noncomputable abbrev Yz:=@Nat.zero_le
noncomputable abbrev YA:=@List.getElem_mem
noncomputable abbrev YB:=@List.length_append
noncomputable abbrev YC:=@List.map_append
noncomputable abbrev YD:=@List.getD_eq_getElem?_getD
noncomputable abbrev YE:=@List.range_succ
noncomputable abbrev YF:=@List.mem_range
noncomputable abbrev YG:=@List.map_cons
noncomputable abbrev YH:=@List.mem_append_left
noncomputable abbrev YI:=@Nat.lt_succ_of_lt
noncomputable abbrev YJ:=@List.mem_map
noncomputable abbrev YK:=@Array.length_toList
noncomputable abbrev YL:=@Int.toNat_natCast
noncomputable abbrev YM:=@List.append_assoc
noncomputable abbrev YN:=@List.length_cons
noncomputable abbrev YO:=@List.mem_singleton
noncomputable abbrev YQ:=@decide_eq_false
noncomputable abbrev YR:=@List.length_take
noncomputable abbrev YS:=@decide_eq_true
noncomputable abbrev YT:=@List.length_range
noncomputable abbrev YU:=@List.mem_filter
noncomputable abbrev YV:=@Nat.le_of_lt
noncomputable abbrev YW:=@List.mem_cons_of_mem
noncomputable abbrev YX:=@Int.eq_ofNat_of_zero_le
noncomputable abbrev YY:=@List.getElem_of_mem
noncomputable abbrev YZ:=@List.map_map
noncomputable abbrev Y0:=@List.getElem_append_left
noncomputable abbrev Y1:=@List.mem_cons_self
noncomputable abbrev Y2:=@List.getElem?_append_right
noncomputable abbrev Y3:=@List.length_drop
noncomputable abbrev Y4:=@Nat.le_succ
noncomputable abbrev Y5:=@List.getElem_append_right
noncomputable abbrev Y6:=@List.pairwise_cons
noncomputable abbrev Y7:=@List.getElem?_append_left
noncomputable abbrev Y8:=@List.length_filter_le
noncomputable abbrev Y9:=@List.take_append_drop
end
namespace L2
open PySem PySem.Spec PyProof.Rows
noncomputable abbrev Key:=Sum Int Str
noncomputable def Zjb:Key->Value->Bool
 |.inl k,v=>Value.isInt k v
 |.inr x,v=>Value.isStrOf x v
noncomputable def keyH (w:World):Key->Int
 |.inl k=>hashInt k
 |.inr x=>hashStr w x
theorem Z8:∀{k:Key}{v:Value},Zjb k v=true->(∃i t,k=Sum.inl i/\v=Value.int i t)\/(∃x t,k=Sum.inr x/\v=Value.str x t)
 |.inl i,v,h=>by
  obtain⟨t,e⟩:=Value.isInt_shape (k:=i) (v:=v) h
  exact .inl ⟨i,t,rfl,e⟩
 |.inr x,v,h=>by
  obtain⟨t,e⟩:=Value.isStrOf_shape (x:=x) (v:=v) h
  exact .inr ⟨x,t,rfl,e⟩
theorem Zm2 (i:Int) (t:Tok):Zjb (.inl i) (.int i t)=true:=by simp[Zjb,Value.isInt]
theorem Zm3 (x:Str) (t:Tok):Zjb (.inr x) (.str x t)=true:=by simp[Zjb,Value.isStrOf]
theorem key_ll (a b:Int):decide ((Sum.inl a:Key)=Sum.inl b)=(a==b):=by
 by_cases e:a=b
 ·subst e;simp
 ·have h:¬ (Sum.inl a:Key)=Sum.inl b:=λq=>e (Sum.inl.inj q)
  rw[YQ h]
  exact(beq_eq_false_iff_ne.mpr e).symm
theorem key_rr (a b:Str):decide ((Sum.inr a:Key)=Sum.inr b)=decide (a=b):=by
 by_cases e:a=b
 ·subst e;simp
 ·have h:¬ (Sum.inr a:Key)=Sum.inr b:=λq=>e (Sum.inr.inj q)
  rw[YQ h,YQ e]
theorem key_lr (a:Int) (b:Str):decide ((Sum.inl a:Key)=Sum.inr b)=false:=YQ (λq=>nomatch q)
theorem key_rl (a:Str) (b:Int):decide ((Sum.inr a:Key)=Sum.inl b)=false:=YQ (λq=>nomatch q)
noncomputable def ZaV (prog:Program) (w:World):PySem.KeyKind prog w Key where
 is:=Zjb
 hash:=keyH w
 inj:=λv a b ha hb=>by
  rcases Z8 ha with⟨i,t,rfl,rfl⟩|⟨x,t,rfl,rfl⟩
  ·rcases Z8 hb with⟨j,u,rfl,e⟩|⟨y,u,rfl,e⟩
   ·injection e with e1 _;rw[e1]
   ·exact nomatch e
  ·rcases Z8 hb with⟨j,u,rfl,e⟩|⟨y,u,rfl,e⟩
   ·exact nomatch e
   ·injection e with e1 _;rw[e1]
 byValue:=λk v h=>by
  rcases Z8 h with⟨i,t,rfl,rfl⟩|⟨x,t,rfl,rfl⟩<;>rfl
 pyHash:=λhv h=>by
  rcases Z8 hv with⟨i,t,rfl,rfl⟩|⟨x,t,rfl,rfl⟩
  ·exact wpAny_pyHash_int h
  ·exact wpAny_pyHash_str h
 eqBool:=λhu hv h=>by
  rcases Z8 hu with⟨i,t,rfl,rfl⟩|⟨x,t,rfl,rfl⟩
  ·rcases Z8 hv with⟨j,u,rfl,rfl⟩|⟨y,u,rfl,rfl⟩
   ·rw[key_ll]at h;exact wpAny_eqBool_int h
   ·rw[key_lr]at h;exact SeqAt.EqAt.int_str i t y u _ _ _ _ h
  ·rcases Z8 hv with⟨j,u,rfl,rfl⟩|⟨y,u,rfl,rfl⟩
   ·rw[key_rl]at h;exact SeqAt.EqAt.str_int x t j u _ _ _ _ h
   ·rw[key_rr]at h;exact wpAny_eqBool_str h
 «strs»:=λk x t v h=>by
  rcases Z8 h with⟨i,u,rfl,e⟩|⟨y,u,rfl,e⟩
  ·exact nomatch e
  ·injection e with e1 _
   subst e1
   cases v<;>rfl
theorem ZkE (prog:Program) (w:World) (i:Int) (t:Tok):(ZaV prog w).is (.inl i) (.int i t)=true:=Zm2 i t
theorem ZkF (prog:Program) (w:World) (x:Str) (t:Tok):(ZaV prog w).is (.inr x) (.str x t)=true:=Zm3 x t
inductive V where
 |non|bl (b:Bool)|int (i:Int)|str (x:Str)|byt (b:Array UInt8)|flt (b:UInt64)|ref (a:Addr)|ty (n:String)
 deriving DecidableEq
noncomputable def RelV:V->Value->Prop
 |.non,u=>u=Value.none
 |.bl b,u=>u=Value.bool b
 |.int i,u=>∃t,u=Value.int i t
 |.str x,u=>∃t,u=Value.str x t
 |.byt b,u=>∃t,u=Value.bytes b t
 |.flt b,u=>∃t,u=Value.float b t
 |.ref a,u=>u=Value.ref a
 |.ty n,u=>u=Value.type n
noncomputable abbrev Vals:List V->List Value->Prop:=Paired RelV
theorem Vals.length {xs:List V}{us:List Value} (r:Vals xs us):xs.length=us.length:=Paired.length r
theorem Vals.get:∀{xs:List V}{us:List Value}{i:Nat}{x:V},Vals xs us->xs[i]?=some x->∃u,us[i]?=some u/\RelV x u
 |_,_,_,_,.nil,e=>by simp at e
 |_,_,0,_,.cons r _,e=>by simp at e;subst e;exact⟨_,rfl,r⟩
 |_,_,i+1,x,.cons _ t,e=>by
  obtain⟨u,h1,h2⟩:=Vals.get (i:=i) (x:=x) t (by simpa using e)
  exact⟨u,by simpa using h1,h2⟩
theorem Vals.set {x:V}{u:Value} (r:RelV x u):∀{xs:List V}{us:List Value} (i:Nat),Vals xs us->Vals (xs.set i x) (us.set i u)
 |_,_,_,.nil=>.nil
 |_,_,0,.cons _ t=>.cons r t
 |_,_,i+1,.cons q t=>.cons q (Vals.set r i t)
theorem Vals.append:∀{xs ys:List V}{us ws:List Value},Vals xs us->Vals ys ws->Vals (xs++ys) (us++ws)
 |_,_,_,_,.nil,s=>s
 |_,_,_,_,.cons r t,s=>.cons r (Vals.append t s)
theorem Vals.take:∀{xs:List V}{us:List Value} (n:Nat),Vals xs us->Vals (xs.take n) (us.take n)
 |_,_,0,_=>.nil
 |_,_,_+1,.nil=>.nil
 |_,_,n+1,.cons r t=>.cons r (Vals.take n t)
theorem Vals.drop:∀{xs:List V}{us:List Value} (n:Nat),Vals xs us->Vals (xs.drop n) (us.drop n)
 |_,_,0,r=>r
 |_,_,_+1,.nil=>.nil
 |_,_,n+1,.cons _ t=>Vals.drop n t
noncomputable def ZhC:Option V->Option Value->Prop
 |some v,some u=>RelV v u
 |none,none=>True
 |_,_=>False
noncomputable def KV {κ:Type}:List (κ×V)->List (κ×Value)->Prop:=Paired λ(p:κ×V) (q:κ×Value)=>p.1=q.1/\RelV p.2 q.2
noncomputable def kV:Key->V
 |.inl i=>.int i
 |.inr x=>.str x
inductive HO where
 |lst (xs:List V)
 |tup (xs:List V)
 |dK (kvs:List (Key×V))|dT (kvs:List (List Key×V))
 |set (S:Int->Bool) (n:Nat)
 |ins (C dx:Addr) (fs:List (Str×V))
 |own (x:Addr)
 |xd (fs:List (Str×V))
 |met (f x:Addr)
 |rng (lo hi:Int)
 |frz (o:Obj) (u:HO)
 |tbl (ps:Array Value)
 |ext (φ:Heap->Prop)
noncomputable abbrev Hp:=Addr->Option HO
noncomputable def upd (H:Hp) (a:Addr) (o:HO):Hp:=λb=>if b=a then some o else H b
theorem Zc {H:Hp}{a:Addr}{o:HO}:upd H a o a=some o:=by unfold upd;rw[Yd rfl]
theorem Zg {H:Hp}{a b:Addr}{o:HO} (h:b≠a):upd H a o b=H b:=by unfold upd;rw[Yc h]
theorem ne_of {H:Hp}{a b:Addr}{o u:HO} (h:H a=some o) (h':H b=some u) (d:o≠u):a≠b:=by
 intro e;subst e;rw[h]at h';exact d (Yo h')
theorem Zo {H:Hp}{a b:Addr}{o:HO} (h:H a=some o) (h':H b=none):a≠b:=by
 intro e;subst e;rw[h]at h';cases h'
section
variable (P:Program) (w:World)
noncomputable def ZQ (H:Hp) (h:Heap) (a:Addr):HO->Prop
 |.lst xs=>xs.length<=sizeLine/\∃(its:List Value) (n:Nat),Vals xs its/\h.get? a=some {cls:=.type "list",data:=.seq its.toArray n}
 |.tup xs=>xs.length<=sizeLine/\∃its:List Value,Vals xs its/\IsTup h a its.toArray
 |.dK kvs=>kvs.length<=sizeLine/\(a==sysModules)=false/\∃vs,KV kvs vs/\h.DictOf (ZaV P w) a vs
 |.dT kvs=>kvs.length<=sizeLine/\(a==sysModules)=false/\∃xs:List (List Key×Addr×Value),
   Paired (λ(p:List Key×V) (q:List Key×Addr×Value)=>p.1=q.1/\H q.2.1=some (.tup (p.1.map kV))/\RelV p.2 q.2.2) kvs xs /\
   ∃o es ep,h.get? a=some o/\o.ExactDict/\o.data=.dict es ep/\es.toList=xs.map (entryOfKey (tupleKind (ZaV P w)))/\(xs.map (·.1)).Nodup
 |.set S n=>h.SetOf (intKind P w) a S n
 |.ins C dx fs=>H dx=some (.own a)/\fs.length<=1000/\dx≠a/\h.get? a=some (PySem.W.instObj C dx) /\
   ∃mA,h.Ns1 dx mA/\(∀f,ZhC (fs.lookup f) (mA f))/\PySem.Within mA (fs.map (·.1))
 |.own _=>∃o,h.get? a=some o
 |.xd fs=>∃mA,h.Ns1 a mA/\∀f,ZhC (fs.lookup f) (mA f)
 |.rng lo hi=>∃t u v,h.get? a=some {cls:=.type "range",data:=.fields #[.int lo t,.int hi u,.int 1 v]}
 |.frz o u=>h.get? a=some o/\ZQ H h a u
 |.tbl ps=>∃ts:Array Value,h.get? a=some {cls:=.none,data:=.fields ts}/\TriplesOk ts.toList/\∀pos cv,codeAmong pos ts.toList=some cv->∃c oc vs q t t',cv=.ref c/\H c=some (.frz oc (.own a))/\oc.data=.fields vs/\ps[0]?=some (.str q t)/\vs[1]?=some (.str q t')
 |.met f x=>h.get? a=some (PySem.W.methodObj (.ref f) (.ref x))
 |.ext φ=>φ h/\(∃o,h.get? a=some o)/\∀h1 h2:Heap,φ h1->(∀o,h1.get? a=some o->h2.get? a=some o)->φ h2
noncomputable def HOk (H:Hp) (h:Heap):Prop:=∀a o,H a=some o->ZQ P w H h a o
end
section
variable {P:Program}{w:World}{H H':Hp}{h h':Heap}{a:Addr}{o:HO}
theorem ZQ.lt (x:ZQ P w H h a o):a<h.objs.size:=by
 cases o with
 |lst xs=>obtain⟨_,_,_,_,e⟩:=x;exact Yh e
 |tup xs=>obtain⟨_,_,_,p⟩:=x;exact p.lt
 |dK kvs=>obtain⟨_,_,_,_,o,_,_,e,_⟩:=x;exact Yh e
 |dT kvs=>obtain⟨_,_,_,_,o,_,_,e,_⟩:=x;exact Yh e
 |set S n=>obtain⟨o,_,_,_,e,_⟩:=x;exact Yh e
 |ins C dx fs=>obtain⟨_,_,_,e,_⟩:=x;exact Yh e
 |own y=>obtain⟨_,e⟩:=x;exact Yh e
 |xd fs=>obtain⟨_,⟨_,_,_,e,_⟩,_⟩:=x;exact Yh e
 |rng lo hi=>obtain⟨_,_,_,e⟩:=x;exact Yh e
 |frz ob u=>obtain⟨e,_⟩:=x;exact Yh e
 |tbl ps=>obtain⟨_,e,_⟩:=x;exact Yh e
 |met f y=>exact Yh (show h.get? a=some _ from x)
 |ext φ=>obtain⟨_,⟨_,e⟩,_⟩:=x;exact Yh e
theorem Paired.mapP {α β:Type}{F G:α->β->Prop}:∀{l₁:List α}{l₂:List β},Paired F l₁ l₂->(∀a b,F a b->G a b)->Paired G l₁ l₂
 |_,_,.nil,_=>.nil
 |_,_,.cons r t,f=>.cons (f _ _ r) (Paired.mapP t f)
theorem ZQ.Zgr (x:ZQ P w H h a o) (k:∀b u,(b=a\/H b=some (.own a))->h.get? b=some u->h'.get? b=some u)
  (ho:∀b,H b=some (.own a)->H' b=some (.own a)) (ht:∀b xs,H b=some (.tup xs)->H' b=some (.tup xs)) (hz:∀b o u,H b=some (.frz o u)->H' b=some (.frz o u)):ZQ P w H' h' a o:=by
 induction o with
 |lst xs=>obtain⟨z,its,n,r,e⟩:=x;exact⟨z,its,n,r,k _ _ (.inl rfl) e⟩
 |tup xs=>obtain⟨z,its,r,ob,e,c⟩:=x;exact⟨z,its,r,ob,k _ _ (.inl rfl) e,c⟩
 |dK kvs=>obtain⟨z,y,vs,r,ob,es,ep,e,c⟩:=x;exact⟨z,y,vs,r,ob,es,ep,k _ _ (.inl rfl) e,c⟩
 |dT kvs =>
  obtain⟨z,y,xs,r,ob,es,ep,e,c⟩:=x
  exact⟨z,y,xs,Paired.mapP r λp q z=>⟨z.1,ht _ _ z.2.1,z.2.2⟩,ob,es,ep,k _ _ (.inl rfl) e,c⟩
 |set S n=>obtain⟨ob,es,ep,t,e,c⟩:=x;exact⟨ob,es,ep,t,k _ _ (.inl rfl) e,c⟩
 |ins C dx fs =>
  obtain⟨d,z,ne,e,mA,⟨od,es,ep,e2,c⟩,r⟩:=x
  exact⟨ho _ d,z,ne,k _ _ (.inl rfl) e,mA,⟨od,es,ep,k _ _ (.inr d) e2,c⟩,r⟩
 |own y=>obtain⟨ob,e⟩:=x;exact⟨ob,k _ _ (.inl rfl) e⟩
 |xd fs=>obtain⟨mA,⟨od,es,ep,e,c⟩,r⟩:=x;exact⟨mA,⟨od,es,ep,k _ _ (.inl rfl) e,c⟩,r⟩
 |rng lo hi=>obtain⟨t,u,v,e⟩:=x;exact⟨t,u,v,k _ _ (.inl rfl) e⟩
 |frz ob u ih=>obtain⟨e,q⟩:=x;exact⟨k _ _ (.inl rfl) e,ih q⟩
 |tbl ps =>
  obtain⟨ts,e,t3,z⟩:=x
  refine⟨ts,k a _ (.inl rfl) e,t3,λpos cv hc=>?_⟩
  obtain⟨c,oc,vs,q,t,t',e1,e2,r⟩:=z pos cv hc
  exact⟨c,oc,vs,q,t,t',e1,hz _ _ _ e2,r⟩
 |met f y =>
  have e:h.get? a=some (PySem.W.methodObj (.ref f) (.ref y)):=x
  show h'.get? a=some (PySem.W.methodObj (.ref f) (.ref y))
  exact k a _ (.inl rfl) e
 |ext φ=>obtain⟨p,⟨o,e⟩,st⟩:=x;exact⟨st _ _ p λo q=>k _ _ (.inl rfl) q,⟨o,k _ _ (.inl rfl) e⟩,st⟩
theorem HOk.lt (x:HOk P w H h) (e:H a=some o):a<h.objs.size:=(x a o e).lt
theorem HOk.fresh (x:HOk P w H h) (e:h.objs.size<=a):H a=none:=by
 cases q:H a with
 |none=>rfl
 |some u=>exact absurd (Yp (x.lt q) e) (Yw _)
theorem HOk.kept (x:HOk P w H h) (k:∀b u,h.get? b=some u->h'.get? b=some u):HOk P w H h':=λa o e =>
 (x a o e).Zgr (λb u _ q=>k b u q) (λ_ q=>q) (λ_ _ q=>q) λ_ _ _ q=>q
theorem HOk.laid (x:HOk P w H h) (k:∀b u,h.get? b=some u->h'.get? b=some u) (hp:h.objs.size<=a) (new:ZQ P w (upd H a o) h' a o):HOk P w (upd H a o) h':=λb u e=>by
 have hn:=x.fresh hp
 by_cases hb:b=a
 ·subst hb;rw[Zc]at e;cases e;exact new
 ·rw[Zg hb]at e
  exact(x b u e).Zgr (λc v _ q=>k c v q) (λc q=>by rw[Zg (Zo q hn)];exact q) (λc xs q=>by rw[Zg (Zo q hn)];exact q) λc o u q=>by rw[Zg (Zo q hn)];exact q
end
noncomputable def Rd (H:Hp) (a:Addr) (u:HO):Prop:=H a=some u\/∃o,H a=some (.frz o u)
theorem Rd.ok {P:Program}{w:World}{H:Hp}{h:Heap}{a:Addr}{u:HO} (r:Rd H a u) (x:HOk P w H h):ZQ P w H h a u:=by
 rcases r with r|⟨o,r⟩
 ·exact x a u r
 ·obtain⟨_,q⟩:=x a _ r
  exact q
noncomputable def Mut:Option HO->Prop
 |some (.lst _)=>True
 |some (.dK _)=>True
 |some (.dT _)=>True
 |some (.set _ _)=>True
 |some (.ins _ _ _)=>True
 |some (.ext _)=>True
 |_=>False
section
variable {P:Program}{w:World}{H:Hp}{h h':Heap}{x e:Addr}{o':HO}
theorem HOk.write (ok:HOk P w H h) (mu:Mut (H x)) (he:e=x\/H e=some (.own x)) (k:∀b u,b≠e->h.get? b=some u->h'.get? b=some u) (heo:∃u,h'.get? e=some u)
  (new:ZQ P w (upd H x o') h' x o'):HOk P w (upd H x o') h':=λb u q=>by
 have nown:∀c y,H c=some (.own y)->c≠x:=λc y r z=>by subst z;rw[r]at mu;exact mu
 have ntup:∀c xs,H c=some (.tup xs)->c≠x:=λc xs r z=>by subst z;rw[r]at mu;exact mu
 have nfrz:∀c o u,H c=some (.frz o u)->c≠x:=λc o u r z=>by subst z;rw[r]at mu;exact mu
 by_cases hb:b=x
 ·subst hb;rw[Zc]at q;cases q;exact new
 ·rw[Zg hb]at q
  by_cases hbe:b=e
  ·have q':H b=some (.own x):=by
    rcases he with z|z
    ·exact absurd (hbe.trans z) hb
    ·rw[hbe];exact z
   rw[q]at q';cases q'
   obtain⟨v,hv⟩:=heo
   exact⟨v,by rw[hbe];exact hv⟩
  ·refine(ok b u q).Zgr (λc v hc r=>k c v ?_ r) (λc r=>by rw[Zg (nown c b r)];exact r) (λc xs r=>by rw[Zg (ntup c xs r)];exact r) λc o u r=>by rw[Zg (nfrz c o u r)];exact r
   rcases hc with rfl|hc
   ·exact hbe
   ·rintro rfl
    rcases he with z|z
    ·exact nown c b hc z
    ·rw[hc]at z;cases z;exact hb rfl
end
structure Un (fs ex:List Addr) (H H':Hp) (h h':Heap):Prop where
 keep:∀b o,h.get? b=some o->H b=none->b∉fs->b∉ex->h'.get? b=some o
 slot:∀b o,h.get? b=some o->H b=none->b∈fs->b∉ex->∃sl,h'.get? b=some {o with slots:=sl}
 free:∀b o,h.get? b=some o->H b=none->b∉ex->H' b=none
 there:∀b o,h.get? b=some o->b∉ex->∃o',h'.get? b=some o'
 tups:∀b xs,H b=some (.tup xs)->H' b=some (.tup xs)
 frzs:∀b o u,H b=some (.frz o u)->H' b=some (.frz o u)
 tbls:∀b ps,H b=some (.tbl ps)->∃more,H' b=some (.tbl (ps++more))
section
variable {fs fs' ex ex':List Addr}{H H1 H2:Hp}{h h1 h2 h':Heap}{a x e:Addr}{o:HO}
theorem Un.any (u:Un fs ex H H1 h h1) {b:Addr}{ob:Obj} (q:h.get? b=some ob) (n:H b=none) (hx:b∉ex):∃sl,h1.get? b=some {ob with slots:=sl}:=by
 by_cases hb:b∈fs
 ·exact u.slot b ob q n hb hx
 ·exact⟨ob.slots,u.keep b ob q n hb hx⟩
theorem Un.kept (k:∀b u,h.get? b=some u->h'.get? b=some u):Un fs ex H H h h' :=
 ⟨λb ob q _ _ _=>k b ob q,λb ob q _ _ _=>⟨ob.slots,k b ob q⟩,λ_ _ _ n _=>n,λb ob q _=>⟨ob,k b ob q⟩,λ_ _ q=>q,λ_ _ _ q=>q,λ_ ps q=>⟨#[],by rw[q];simp⟩⟩
theorem Un.refl:Un fs ex H H h h:=Un.kept λ_ _ q=>q
theorem Un.laid (k:∀b u,h.get? b=some u->h'.get? b=some u) (hp:h.objs.size<=a) (hn:H a=none):Un fs ex H (upd H a o) h h' where
 keep:=λb u q _ _ _=>k b u q
 slot:=λb u q _ _ _=>⟨u.slots,k b u q⟩
 free:=λb u q n _=>by rw[Zg (Yj (Yp (Yh q) hp))];exact n
 there:=λb u q _=>⟨u,k b u q⟩
 tups:=λb xs q=>by rw[Zg (Zo q hn)];exact q
 frzs:=λb u xs q=>by rw[Zg (Zo q hn)];exact q
 tbls:=λb ps q=>⟨#[],by rw[Zg (Zo q hn),q];simp⟩
theorem Un.write (mu:Mut (H x)) (he:e=x\/H e=some (.own x)) (k:∀b u,b≠e->h.get? b=some u->h'.get? b=some u) (heo:∃u,h'.get? e=some u):Un fs ex H (upd H x o) h h':=by
 have hx:∀b,H b=none->b≠x:=λb n z=>by subst z;rw[n]at mu;exact mu
 have hb:∀b,H b=none->b≠e:=λb n z=>by
  subst z
  rcases he with r|r
  ·exact hx b n r
  ·rw[n]at r;cases r
 have hm:∀b u,H b=some u->¬ Mut (some u)->b≠x:=λb u q nm z=>by subst z;rw[q]at mu;exact nm mu
 refine⟨λb u q n _ _=>k b u (hb b n) q,λb u q n _ _=>⟨u.slots,k b u (hb b n) q⟩,λb u q n _=>by rw[Zg (hx b n)];exact n,λb u q _=>?_,
  λb xs q=>by rw[Zg (hm b _ q λz=>z)];exact q,λb u xs q=>by rw[Zg (hm b _ q λz=>z)];exact q,λb ps q=>⟨#[],by rw[Zg (hm b _ q λz=>z),q];simp⟩⟩
 by_cases hbe:b=e
 ·subst hbe;exact heo
 ·exact⟨u,k b u hbe q⟩
end
noncomputable def trk (h:Heap) (H:Hp):List Addr:=(List.range h.objs.size).filter λa=>(H a).isSome
noncomputable def ZiI (h:Heap) (H:Hp):Heap:=PySem.W.hideAll h (trk h H)
theorem Zm4 (h:Heap) (H:Hp):(ZiI h H).objs.size=h.objs.size:=PySem.W.hideAll_size _ _
theorem ZoO {h:Heap}{H:Hp}{b:Addr}{o:Obj} (e:h.get? b=some o) (n:H b=none):(ZiI h H).get? b=some o :=
 PySem.W.hideAll_get _ e λhm=>by
  have q:(H b).isSome=true:=(YU.mp hm).2
  rw[n]at q;simp at q
theorem Zrj {h:Heap}{H:Hp}{b:Addr}{o:Obj} (e:(ZiI h H).get? b=some o):h.get? b=some o/\H b=none:=by
 have e':h.get? b=some o:=PySem.W.of_hideAll (trk h H) e
 refine⟨e',?_⟩
 cases q:H b with
 |none=>rfl
 |some x =>
  have hm:b∈trk h H:=YU.mpr ⟨YF.mpr (Yh e'),by simp[q]⟩
  have z:(ZiI h H).get? b=none:=PySem.W.hideAll_none (trk h H) hm
  rw[z]at e;cases e
noncomputable def Zrk (g h:Heap) (L:Addr):List (Addr×Obj):=(List.range h.objs.size).filterMap λa=>if a=L\/(g.get? a).isSome=true then none else (h.get? a).map λo=>(a,o)
noncomputable def rest (g h:Heap) (L d:Addr):List (Addr×Obj):=(Zrk g h L).filter λp=>decide (p.1≠d)
structure Mod (K:PySem.W.Frag) (mg:Str->Option Value) (base:Heap):Prop where
 kin:K.In base
 glob:base.Ns mainGlobals mg
 blt:∃mb,base.Ns builtinsNs mb/\∀x:Str,x≠"__name__"->mb x=bootBuiltins x
 nolimit:base.NoLimit
structure Cx where
 prog:Program
 w:World
 K:PySem.W.Frag
 mg:Str->Option Value
 base:Heap
 A:Around
 N:List Str
 s₀:Shared
 H₀:Hp
 env:Env
 outer:List Env
 stack:List Env
 ex:List Addr
 fn:Str->Bool
 calm:Bool
 pn:List (Addr×Obj)
 xe:Value->Shared->Prop
noncomputable def frs (l:List Env):List Addr:=l.filterMap (·.frame)
noncomputable abbrev Cx.fs (X:Cx):List Addr:=frs X.outer
noncomputable def Vis (sc:Scope) (x:Str):Prop:=sc.names.lookup x=some .local\/sc.names.lookup x=some .cell\/sc.names.lookup x=some .free
noncomputable def Loc (sc:Scope) (x:Str):Prop:=sc.names.lookup x=some .local\/sc.names.lookup x=some .cell
noncomputable def Look (env:Env) (h:Heap) (m:Str->Option Value) (x:Str) (u:Value):Prop :=
 (env.kindOf x=some .local/\m x=some u)\/((env.kindOf x=some .cell\/env.kindOf x=some .free)/\∃c,env.cells.lookup x=some c/\h.IsCell c (some u))
structure Cx.Ok (X:Cx):Prop where
 mod:Mod X.K X.mg X.base
 kind:X.env.scope.kind=.function
 glob:X.env.globals=mainGlobals
 blt:X.env.builtins=builtinsNs
 above:X.s₀.heap.objs.size<=X.env.locals
 inj:∀x y c,X.env.cells.lookup x=some c->X.env.cells.lookup y=some c->x=y
 has:∀x,(X.env.kindOf x=some .cell\/X.env.kindOf x=some .free)->∃c,X.env.cells.lookup x=some c
 cab:∀x c,X.fn x=true->X.env.cells.lookup x=some c->X.s₀.heap.objs.size<=c
 hd:X.calm=true->X.A.handled=none
 frames:X.A.frames=some X.stack
 stk:X.stack=X.outer\/(X.stack=X.env::X.outer/\X.env.frame=some X.env.locals)
 exf:∀b∈X.ex,b≠X.env.locals/\∀x c,X.env.cells.lookup x=some c->c≠b
 bs:∀b o,X.base.get? b=some o->X.s₀.heap.get? b=some o/\X.H₀ b=none
 bsz:X.base.objs.size<=X.s₀.heap.objs.size
 noex:∀b o,X.base.get? b=some o->b∉X.ex
 exfs:∀b∈X.ex,b∉X.fs
 funs:X.s₀.heap.FunFrames X.base X.outer
 frf:∀b∈X.fs,X.H₀ b=none
structure Inv (X:Cx) (pins:List (Addr×Obj)) (σ:List (Option V)) (H:Hp) (s:Shared):Prop where
 ok:X.Ok
 os:s.os=X.s₀.os
 bare:AllBare s.gens
 base:Un X.fs X.ex X.H₀ H X.s₀.heap s.heap
 loc:∃m,s.heap.Ns X.env.locals m/\∀(i:Nat) (x:Str) (v:V),X.N[i]?=some x->σ[i]?=some (some v)->Vis X.env.scope x->∃u,RelV v u/\Look X.env s.heap m x u
 cell:∀x c,X.env.cells.lookup x=some c->∃v,s.heap.IsCell c v
 free:H X.env.locals=none
 freeC:∀x c,X.env.cells.lookup x=some c->H c=none
 pin:∀p∈X.pn++pins,s.heap.get? p.1=some p.2/\H p.1=none/\p.1≠X.env.locals/\p.1∉X.fs/\∀v,p.2.data≠.cell v
 hok:HOk X.prog X.w H s.heap
 len:σ.length=X.N.length
section
variable {X:Cx}{pins:List (Addr×Obj)}{σ:List (Option V)}{H H':Hp}{s:Shared}{h':Heap}
theorem Cx.Ok.nofr (ok:X.Ok) {b:Addr}{o:Obj} (e:X.base.get? b=some o):b∉X.fs:=λhb=>by
 have:=(ok.funs.mem hb).1
 rw[e]at this;cases this
theorem Inv.bs (I:Inv X pins σ H s):∀b o,X.base.get? b=some o->s.heap.get? b=some o/\H b=none:=λb o e =>
 ⟨I.base.keep b o (I.ok.bs b o e).1 (I.ok.bs b o e).2 (I.ok.nofr e) (I.ok.noex b o e),I.base.free b o (I.ok.bs b o e).1 (I.ok.bs b o e).2 (I.ok.noex b o e)⟩
theorem Inv.bk (I:Inv X pins σ H s):∀b o,X.base.get? b=some o->s.heap.get? b=some o:=λb o e=>(I.bs b o e).1
theorem Inv.mod (I:Inv X pins σ H s):Mod X.K X.mg X.base:=I.ok.mod
theorem Inv.kIn (I:Inv X pins σ H s):X.K.In s.heap:=I.ok.mod.kin.keeps I.bk
theorem Inv.lt (I:Inv X pins σ H s):X.env.locals<s.heap.objs.size:=let ⟨_,hn,_⟩:=I.loc;hn.lt
theorem Inv.sz (I:Inv X pins σ H s):X.s₀.heap.objs.size<=s.heap.objs.size:=Yi I.ok.above (YV I.lt)
theorem Inv.nofs (I:Inv X pins σ H s) {a:Addr} (h:s.heap.objs.size<=a):a∉X.fs:=λhb=>by
 obtain⟨_,o,ho,_⟩:=I.ok.funs.mem hb
 exact absurd (Yp (Yh ho) (Yi I.sz h)) (Yw _)
theorem Inv.cne (I:Inv X pins σ H s):∀x c,X.env.cells.lookup x=some c->c≠X.env.locals:=λx c e z=>by
 obtain⟨v,o,ho,hd⟩:=I.cell x c e
 obtain⟨m,⟨o',es,ep,ho',hd',_⟩,_⟩:=I.loc
 rw[z,ho']at ho;cases ho;rw[hd']at hd;cases hd
theorem Inv.funs (I:Inv X pins σ H s):s.heap.FunFrames X.base X.outer:=by
 have all:∀(l:List Env),(∀b∈frs l,b∈X.fs)->X.s₀.heap.FunFrames X.base l->s.heap.FunFrames X.base l:=by
  intro l
  induction l with
  |nil=>intro _ _;trivial
  |cons env r ih =>
   intro hs hl
   obtain⟨hk,⟨L,o,hf,hn,ho,hd⟩,hr⟩:=hl
   have hL:L∈X.fs:=hs L (by unfold frs;rw[List.filterMap_cons,hf];exact Y1)
   obtain⟨sl,e⟩:=I.base.slot L o ho (I.ok.frf L hL) hL λz=>I.ok.exfs L z hL
   exact⟨hk,⟨L,_,hf,hn,e,hd⟩,ih (λb hb=>hs b (by unfold frs;rw[List.filterMap_cons,hf];exact YW _ hb)) hr⟩
 exact all X.outer (λ_ hb=>hb) I.ok.funs
theorem Inv.stack (I:Inv X pins σ H s):s.heap.FunFrames X.base X.stack:=by
 rcases I.ok.stk with e|⟨e,hf⟩
 ·rw[e];exact I.funs
 ·rw[e]
  obtain⟨m,hn,_⟩:=I.loc
  refine .cons (by rw[I.ok.kind];decide) hf hn ?_ I.funs
  exact Heap.get?_none_of_le (Yi I.ok.bsz I.ok.above)
theorem Inv.ZdP (I:Inv X pins σ H s):∀b∈frs X.stack,b∈X.env.locals::X.fs:=λb hb=>by
 rcases I.ok.stk with e|⟨e,hf⟩
 ·rw[e]at hb;exact YW _ hb
 ·rw[e]at hb
  unfold frs at hb
  rw[List.filterMap_cons,hf]at hb
  exact hb
theorem Inv.Zht (I:Inv X pins σ H s):∀b∈frs X.stack,H b=none:=λb hb=>by
 rcases Yk.mp (I.ZdP b hb)with e|hb
 ·rw[e];exact I.free
 ·obtain⟨_,o,ho,_⟩:=I.ok.funs.mem hb
  exact I.base.free b o ho (I.ok.frf b hb) λz=>I.ok.exfs b z hb
theorem Inv.step {g':Array GenState}{t':Nat}{d':Drawn}{ch:List Addr} (I:Inv X pins σ H s)
  (hch:∀b∈ch,(b∈X.ex\/X.s₀.heap.objs.size<=b)/\b≠X.env.locals/\(∀x c,X.env.cells.lookup x=some c->c≠b)/\∀p∈X.pn++pins,p.1≠b)
  (keep:∀b o,b≠X.env.locals->b∉X.fs->b∉ch->s.heap.get? b=some o->H b=none->h'.get? b=some o)
  (slot:∀b o,b≠X.env.locals->b∈X.fs->b∉ch->s.heap.get? b=some o->H b=none->∃sl,h'.get? b=some {o with slots:=sl}) (free:∀b o,b∉ch->s.heap.get? b=some o->H b=none->H' b=none)
  (there:∀b o,b∉ch->s.heap.get? b=some o->∃o',h'.get? b=some o')
  (tups:∀b xs,H b=some (.tup xs)->H' b=some (.tup xs)) (frzs:∀b o u,H b=some (.frz o u)->H' b=some (.frz o u)) (tbls:∀b ps,H b=some (.tbl ps)->∃more,H' b=some (.tbl (ps++more)))
  (ns:∀m,s.heap.Ns X.env.locals m->h'.Ns X.env.locals m) (hok:HOk X.prog X.w H' h') (hg:AllBare g') :
  Inv X pins σ H' {s with heap:=h',gens:=g',drawn:=d',toks:=t'}:=by
 have neL:∀b o,X.s₀.heap.get? b=some o->b≠X.env.locals:=λb o e=>Yj (Yp (Yh e) I.ok.above)
 have neC:∀b o,X.s₀.heap.get? b=some o->b∉X.ex->b∉ch:=λb o e hx hb=>by
  rcases(hch b hb).1 with z|z
  ·exact hx z
  ·exact absurd (Yp (Yh e) z) (Yw _)
 have cellK:∀x c,X.env.cells.lookup x=some c->∀v,s.heap.IsCell c v->h'.IsCell c v:=λx c e v ⟨o,ho,hd⟩=>by
  have nch:c∉ch:=λz=>(hch c z).2.2.1 x c e rfl
  by_cases hc:c∈X.fs
  ·obtain⟨sl,q⟩:=slot c o (I.cne x c e) hc nch ho (I.freeC x c e)
   exact⟨_,q,hd⟩
  ·exact⟨o,keep c o (I.cne x c e) hc nch ho (I.freeC x c e),hd⟩
 refine⟨I.ok,I.os,hg,⟨λb o e n hb hx=>?_,λb o e n hb hx=>?_,λb o e n hx=>?_,λb o e hx=>?_,λb xs e=>tups b xs (I.base.tups b xs e),λb o xs e=>frzs b o xs (I.base.frzs b o xs e),λb ps e=>?_⟩,?_,λx c e=>?_,?_,λx c e=>?_,λp hp=>?_,hok,I.len⟩
 ·exact keep b o (neL b o e) hb (neC b o e hx) (I.base.keep b o e n hb hx) (I.base.free b o e n hx)
 ·obtain⟨sl,e1⟩:=I.base.slot b o e n hb hx
  obtain⟨sl',e2⟩:=slot b _ (neL b o e) hb (neC b o e hx) e1 (I.base.free b o e n hx)
  exact⟨sl',e2⟩
 ·obtain⟨o',e1⟩:=I.base.there b o e hx
  exact free b o' (neC b o e hx) e1 (I.base.free b o e n hx)
 ·obtain⟨o',e1⟩:=I.base.there b o e hx
  exact there b o' (neC b o e hx) e1
 ·obtain⟨m1,e1⟩:=I.base.tbls b ps e
  obtain⟨m2,e2⟩:=tbls b _ e1
  exact⟨m1++m2,by rw[e2,Array.append_assoc]⟩
 ·obtain⟨m,hn,hl⟩:=I.loc
  refine⟨m,ns m hn,λi x v e1 e2 e3=>?_⟩
  obtain⟨u,r,l⟩:=hl i x v e1 e2 e3
  refine⟨u,r,?_⟩
  rcases l with l|⟨k,c,e,z⟩
  ·exact .inl l
  ·exact .inr ⟨k,c,e,cellK x c e _ z⟩
 ·obtain⟨v,z⟩:=I.cell x c e
  exact⟨v,cellK x c e v z⟩
 ·obtain⟨m,⟨o,_,_,ho,_⟩,_⟩:=I.loc
  exact free _ o (λz=>(hch _ z).2.1 rfl) ho I.free
 ·obtain⟨v,o,ho,hd⟩:=I.cell x c e
  exact free c o (λz=>(hch c z).2.2.1 x c e rfl) ho (I.freeC x c e)
 ·obtain⟨e,n,ne,nf,d⟩:=I.pin p hp
  have nch:p.1∉ch:=λz=>(hch p.1 z).2.2.2 p hp rfl
  exact⟨keep p.1 p.2 ne nf nch e n,free p.1 p.2 nch e n,ne,nf,d⟩
theorem Inv.un {t':Nat} (I:Inv X pins σ H s) (u:Un X.fs [] H H' s.heap h') (hok:HOk X.prog X.w H' h'):Inv X pins σ H' {s with heap:=h',toks:=t'}:=by
 obtain⟨m,⟨o,es,ep,ho,r⟩,_⟩:=id I.loc
 obtain⟨sl,hL⟩:=u.any ho I.free (by simp)
 exact I.step (g':=s.gens) (d':=s.drawn) (ch:=[]) (λ_ z=>nomatch z) (λb o _ hb _ e n=>u.keep b o e n hb (by simp)) (λb o _ hb _ e n=>u.slot b o e n hb (by simp)) (λb o _ e n=>u.free b o e n (by simp)) (λb o _ e=>u.there b o e (by simp)) u.tups u.frzs u.tbls (λm' hm=>by
  obtain⟨o',es',ep',ho',r'⟩:=hm
  rw[ho]at ho';cases ho'
  exact⟨_,es',ep',hL,r'⟩) hok I.bare
theorem Inv.call {g':Array GenState}{t':Nat}{d':Drawn}{ch:List Addr} (I:Inv X pins σ H s) (u:Un (frs X.stack) ch H H' s.heap h') (hok:HOk X.prog X.w H' h') (hg:AllBare g')
  (hch:∀b∈ch,(b∈X.ex\/X.s₀.heap.objs.size<=b)/\b≠X.env.locals/\(∀x c,X.env.cells.lookup x=some c->c≠b)/\∀p∈X.pn++pins,p.1≠b) :
  Inv X pins σ H' {s with heap:=h',gens:=g',drawn:=d',toks:=t'}:=by
 obtain⟨m,⟨o,es,ep,ho,r⟩,_⟩:=id I.loc
 obtain⟨sl,hL⟩:=u.any ho I.free λz=>(hch _ z).2.1 rfl
 exact I.step (ch:=ch) hch (λb o hL hb hc e n=>u.keep b o e n (λz=>(Yk.mp (I.ZdP b z)).elim hL hb) hc) (λb o _ _ hc e n=>u.any e n hc) (λb o hc e n=>u.free b o e n hc) (λb o hc e=>u.there b o e hc) u.tups u.frzs u.tbls (λm' hm=>by
  obtain⟨o',es',ep',ho',r'⟩:=hm
  rw[ho]at ho';cases ho'
  exact⟨_,es',ep',hL,r'⟩) hok hg
theorem Inv.turned {t':Nat}{it:Addr} (I:Inv X pins σ H s) (k:∀b o,b≠it->s.heap.get? b=some o->h'.get? b=some o) (hn:H it=none) (hL:it≠X.env.locals)
  (h1:it∈X.ex\/X.s₀.heap.objs.size<=it) (h2:∀x c,X.env.cells.lookup x=some c->c≠it) (h3:∀p∈X.pn++pins,p.1≠it):Inv X pins σ H {s with heap:=h',toks:=t'}:=by
 have nit:∀b u,H b=some u->b≠it:=λb u e z=>by rw[z,hn]at e;cases e
 refine I.step (g':=s.gens) (d':=s.drawn) (ch:=[it]) (λb hb=>?_) (λb o _ _ hc e _=>k b o (λz=>hc (by simp[z])) e) (λb o _ _ hc e _=>⟨o.slots,k b o (λz=>hc (by simp[z])) e⟩) (λ_ _ _ _ n=>n)
  (λb o hc e=>⟨o,k b o (λz=>hc (by simp[z])) e⟩) (λ_ _ e=>e) (λ_ _ _ e=>e) (λb ps e=>⟨#[],by rw[e];simp⟩) (λm hm=>?_) (λb u e=>?_) I.bare
 ·have e:b=it:=by simpa using hb
  subst e
  exact⟨h1,hL,h2,h3⟩
 ·obtain⟨o,es,ep,ho,r⟩:=hm
  exact⟨o,es,ep,k _ o (Ne.symm hL) ho,r⟩
 ·refine(I.hok b u e).Zgr (λc v hc q=>k c v ?_ q) (λ_ q=>q) (λ_ _ q=>q) λ_ _ _ q=>q
  rcases hc with z|z
  ·rw[z];exact nit b u e
  ·exact nit c _ z
theorem Inv.tok (I:Inv X pins σ H s) (t:Nat):Inv X pins σ H {s with toks:=t}:=I.un (h':=s.heap) (t':=t) Un.refl I.hok
theorem Inv.kept {t':Nat} (I:Inv X pins σ H s) (k:∀b u,s.heap.get? b=some u->h'.get? b=some u):Inv X pins σ H {s with heap:=h',toks:=t'}:=I.un (Un.kept k) (I.hok.kept k)
theorem Inv.laid {a:Addr}{o:HO}{t':Nat} (I:Inv X pins σ H s) (k:∀b u,s.heap.get? b=some u->h'.get? b=some u) (hp:s.heap.objs.size<=a) (new:ZQ X.prog X.w (upd H a o) h' a o) :
  Inv X pins σ (upd H a o) {s with heap:=h',toks:=t'}:=I.un (Un.laid k hp (I.hok.fresh hp)) (I.hok.laid k hp new)
theorem Inv.write {x e:Addr}{o:HO}{t':Nat} (I:Inv X pins σ H s) (mu:Mut (H x)) (he:e=x\/H e=some (.own x)) (k:∀b u,b≠e->s.heap.get? b=some u->h'.get? b=some u) (heo:∃u,h'.get? e=some u)
  (new:ZQ X.prog X.w (upd H x o) h' x o):Inv X pins σ (upd H x o) {s with heap:=h',toks:=t'}:=I.un (Un.write mu he k heo) (I.hok.write mu he k heo new)
theorem Inv.weak {σ':List (Option V)} (I:Inv X pins σ H s) (hl:σ'.length=σ.length) (w:∀(i:Nat) v,σ'[i]?=some (some v)->σ[i]?=some (some v)):Inv X pins σ' H s :=
 ⟨I.ok,I.os,I.bare,I.base,let ⟨m,hn,hl'⟩:=I.loc;⟨m,hn,λi x v e1 e2 e3=>hl' i x v e1 (w i v e2) e3⟩,I.cell,I.free,I.freeC,I.pin,I.hok,hl.trans I.len⟩
theorem Inv.ZdQ {pins':List (Addr×Obj)} (I:Inv X pins σ H s) (h:∀p∈pins',s.heap.get? p.1=some p.2/\H p.1=none/\p.1≠X.env.locals/\p.1∉X.fs/\∀v,p.2.data≠.cell v):Inv X pins' σ H s :=
 ⟨I.ok,I.os,I.bare,I.base,I.loc,I.cell,I.free,I.freeC,λp hp=>(Yq.mp hp).elim (λz=>I.pin p (YH _ z)) (h p),I.hok,I.len⟩
theorem ZkG {N:List Str} (hN:N.Nodup) {i j:Nat}{x:Str} (a:N[i]?=some x) (b:N[j]?=some x):i=j:=by
 obtain⟨h1,e1⟩:=Yr.mp a
 obtain⟨h2,e2⟩:=Yr.mp b
 exact(List.getElem_inj hN).mp (e1.trans e2.symm)
theorem Zm5 {M:Model}{A:Around}{E:Value->Shared->Prop}{i:Nat}{x:Str}{v:V}{u:Value}{Q:Unit->Shared->Prop} (I:Inv X pins σ H s) (hN:X.N.Nodup) (hi:X.N[i]?=some x) (hx:Loc X.env.scope x) (r:RelV v u)
  (h:∀s',Inv X pins (σ.set i (some v)) H s'->(∃a,Heap.SameBut a s.heap s'.heap/\(a=X.env.locals\/X.env.cells.lookup x=some a))->Q () s') (hf:X.fn x=true\/X.env.scope.names.lookup x=some .local:=by first|exact .inl rfl|exact .inr rfl|assumption):wpAny M A (storeName X.env x u) Q E s:=by
 obtain⟨m,hn,hl⟩:=id I.loc
 have hcls:(X.env.scope.kind==.class||(X.env.scope.kind==.module&&X.env.locals != X.env.globals))=false:=by rw[I.ok.kind];rfl
 have hiσ:i < σ.length:=by rw[I.len];exact(Yr.mp hi).1
 have cne:=I.cne
 have tracked:∀{a:Addr}{h':Heap},(∃o,s.heap.get? a=some o/\H a=none)->Heap.SameBut a s.heap h'->HOk X.prog X.w H h':=λ{a h'} ha hs b ob e=>by
  obtain⟨_,_,hfree⟩:=ha
  refine(I.hok b ob e).Zgr (λc w' hc q=>(hs.2 c ?_).trans q) (λ_ q=>q) (λ_ _ q=>q) λ_ _ _ q=>q
  rintro rfl
  rcases hc with rfl|hc
  ·rw[hfree]at e;cases e
  ·rw[hfree]at hc;cases hc
 rcases hx with hk|hk
 ·refine wpAny_storeName_local hk hn (λh' hn' hs=>?_) hcls
  obtain⟨oL,_,_,hoL,_⟩:=id hn
  refine h _ ⟨I.ok,I.os,I.bare,⟨λb o e n hb hx=>?_,λb o e n hb hx=>?_,I.base.free,λb o e hx=>?_,I.base.tups,I.base.frzs,I.base.tbls⟩,⟨_,hn',λj y v' e1 e2 e3=>?_⟩,λy c e=>?_,I.free,I.freeC,λp hp=>?_,tracked ⟨oL,hoL,I.free⟩ hs,by simpa using I.len⟩ ⟨_,hs,.inl rfl⟩
  ·exact(hs.2 b (Yj (Yp (Yh e) I.ok.above))).trans (I.base.keep b o e n hb hx)
  ·obtain⟨sl,e1⟩:=I.base.slot b o e n hb hx
   exact⟨sl,(hs.2 b (Yj (Yp (Yh e) I.ok.above))).trans e1⟩
  ·obtain⟨o',e1⟩:=I.base.there b o e hx
   exact⟨o',(hs.2 b (Yj (Yp (Yh e) I.ok.above))).trans e1⟩
  ·by_cases hj:j=i
   ·subst hj
    rw[hi]at e1;cases e1
    rw[List.getElem?_set_self hiσ]at e2
    cases e2
    exact⟨u,r,.inl ⟨hk,by simp⟩⟩
   ·rw[List.getElem?_set_ne (Ne.symm hj)]at e2
    obtain⟨u',r',q⟩:=hl j y v' e1 e2 e3
    refine⟨u',r',?_⟩
    rcases q with⟨k,e⟩|⟨k,c,e,z⟩
    ·refine .inl ⟨k,?_⟩
     have:y≠x:=λe=>hj (ZkG hN e1 (e▸hi))
     simp[this,e]
    ·exact .inr ⟨k,c,e,z.sameBut hs (cne y c e)⟩
  ·obtain⟨w',z⟩:=I.cell y c e
   exact⟨w',z.sameBut hs (cne y c e)⟩
  ·obtain⟨e,n,ne,nf,d⟩:=I.pin p hp
   exact⟨(hs.2 p.1 ne).trans e,n,ne,nf,d⟩
 ·have hfn:X.fn x=true:=by
   rcases hf with z|z
   ·exact z
   ·rw[z]at hk;cases hk
  obtain⟨c,hc⟩:=I.ok.has x (.inl hk)
  obtain⟨w',z⟩:=I.cell x c hc
  refine wpAny_storeName_cell I.ok.kind hk hc z (λh' hc' hs=>?_)
  obtain⟨oc,hoc,hocd⟩:=id z
  refine h {s with heap:=h'} ⟨I.ok,I.os,I.bare,⟨λb o e n hb hx=>?_,λb o e n hb hx=>?_,I.base.free,λb o e hx=>?_,I.base.tups,I.base.frzs,I.base.tbls⟩,⟨m,hn.sameBut hs (Ne.symm (cne x c hc)),λj y v' e1 e2 e3=>?_⟩,λy c' e=>?_,I.free,I.freeC,λp hp=>?_,tracked ⟨oc,hoc,I.freeC x c hc⟩ hs,by simpa using I.len⟩ ⟨c,hs,.inr hc⟩
  ·exact(hs.2 b (Yj (Yp (Yh e) (I.ok.cab x c hfn hc)))).trans (I.base.keep b o e n hb hx)
  ·obtain⟨sl,e1⟩:=I.base.slot b o e n hb hx
   exact⟨sl,(hs.2 b (Yj (Yp (Yh e) (I.ok.cab x c hfn hc)))).trans e1⟩
  ·obtain⟨o',e1⟩:=I.base.there b o e hx
   exact⟨o',(hs.2 b (Yj (Yp (Yh e) (I.ok.cab x c hfn hc)))).trans e1⟩
  ·by_cases hj:j=i
   ·subst hj
    rw[hi]at e1;cases e1
    rw[List.getElem?_set_self hiσ]at e2
    cases e2
    exact⟨u,r,.inr ⟨.inl hk,c,hc,hc'⟩⟩
   ·rw[List.getElem?_set_ne (Ne.symm hj)]at e2
    obtain⟨u',r',q⟩:=hl j y v' e1 e2 e3
    refine⟨u',r',?_⟩
    rcases q with q|⟨k,c',e,z'⟩
    ·exact .inl q
    ·refine .inr ⟨k,c',e,z'.sameBut hs ?_⟩
     rintro rfl
     exact hj (ZkG hN e1 (I.ok.inj _ _ _ e hc▸hi))
  ·by_cases hcc:c'=c
   ·subst hcc;exact⟨_,hc'⟩
   ·obtain⟨w2,z2⟩:=I.cell y c' e
    exact⟨w2,z2.sameBut hs hcc⟩
  ·obtain⟨e,n,ne,nf,d⟩:=I.pin p hp
   refine⟨(hs.2 p.1 ?_).trans e,n,ne,nf,d⟩
   intro q
   rw[q,hoc]at e
   have q':oc=p.2:=Yo e
   exact d w' (by rw[<-q'];exact hocd)
theorem Zey {M:Model}{A:Around}{E:Value->Shared->Prop}{i:Nat}{x:Str}{v:V}{u:Value}{Q:Unit->Shared->Prop} (I:Inv X pins σ H s) (hN:X.N.Nodup) (hi:X.N[i]?=some x) (hx:Loc X.env.scope x) (r:RelV v u)
  (h:∀s',Inv X pins (σ.set i (some v)) H s'->Q () s') (hf:X.fn x=true\/X.env.scope.names.lookup x=some .local:=by first|exact .inl rfl|exact .inr rfl|assumption):wpAny M A (storeName X.env x u) Q E s :=
 Zm5 I hN hi hx r (λs' I' _=>h s' I') hf
theorem Inv.ZoP {s':Shared}{ch:List Addr} (I:Inv X pins σ H s) (ho:s'.os=s.os) (u:Un (frs X.stack) ch H H' s.heap s'.heap) (hok:HOk X.prog X.w H' s'.heap) (hg:AllBare s'.gens)
  (hch:∀b∈ch,(b∈X.ex\/X.s₀.heap.objs.size<=b)/\b≠X.env.locals/\(∀x c,X.env.cells.lookup x=some c->c≠b)/\∀p∈X.pn++pins,p.1≠b):Inv X pins σ H' s':=by
 obtain⟨h',g',d',t',o'⟩:=s'
 have e:o'=s.os:=ho
 subst e
 exact I.call (g':=g') (t':=t') (d':=d') u hok hg hch
end
noncomputable abbrev XK:=Value->Option Addr->Hp->Prop
noncomputable abbrev St:=List (Option V)
noncomputable abbrev VK:=V->Hp->Prop
noncomputable abbrev TE:=St->Hp->VK->Prop
noncomputable abbrev TT:=St->Hp->(Bool->Hp->Prop)->Prop
noncomputable abbrev TA:=St->Hp->(List V->Hp->Prop)->Prop
structure Ends where
 nx:St->Hp->Prop
 rt:VK
 bk:St->Hp->Prop:=λ_ _=>False
 ct:St->Hp->Prop:=λ_ _=>False
noncomputable abbrev TS:=Ends->St->Hp->Prop
noncomputable def EP (X:Cx) (pins:List (Addr×Obj)) (σ:St) (Q:VK) (u:Value) (s':Shared):Prop:=∃v H',Inv X pins σ H' s'/\RelV v u/\Q v H'
noncomputable def TP (X:Cx) (pins:List (Addr×Obj)) (σ:St) (Q:Bool->Hp->Prop) (b:Bool) (s':Shared):Prop:=∃H',Inv X pins σ H' s'/\Q b H'
noncomputable def AP (X:Cx) (pins:List (Addr×Obj)) (σ:St) (Q:List V->Hp->Prop) (us:List Value) (s':Shared):Prop:=∃vs H',Inv X pins σ H' s'/\Vals vs us/\Q vs H'
noncomputable def SP (X:Cx) (pins:List (Addr×Obj)) (D:Ends) (f:Flow) (s':Shared):Prop :=
 match f with
 |.next=>∃σ' H',Inv X pins σ' H' s'/\D.nx σ' H'
 |.brk=>∃σ' H',Inv X pins σ' H' s'/\D.bk σ' H'
 |.cont=>∃σ' H',Inv X pins σ' H' s'/\D.ct σ' H'
 |.ret u=>∃v σ' H',Inv X pins σ' H' s'/\RelV v u/\D.rt v H'
noncomputable def PE (X:Cx) (e:Expr) (t:TE):Prop :=
 ∀(pins:List (Addr×Obj)) (s:Shared) (σ:St) (H:Hp) (Q:VK),Inv X pins σ H s->t σ H Q->wpAny (model X.prog X.w) X.A (eval e X.env) (EP X pins σ Q) X.xe s
noncomputable def PT (X:Cx) (e:Expr) (t:TT):Prop :=
 ∀(pins:List (Addr×Obj)) (s:Shared) (σ:St) (H:Hp) (Q:Bool->Hp->Prop),Inv X pins σ H s->t σ H Q->wpAny (model X.prog X.w) X.A (isTrue e X.env (eval e X.env)) (TP X pins σ Q) X.xe s
noncomputable def PW (X:Cx) (e:Expr) (t:TT):Prop :=
 ∀(whole:Sem Value) (pins:List (Addr×Obj)) (s:Shared) (σ:St) (H:Hp) (Q:Bool->Hp->Prop),Inv X pins σ H s->t σ H Q->wpAny (model X.prog X.w) X.A (isTrue e X.env whole) (TP X pins σ Q) X.xe s
theorem PW.pt {X:Cx}{e:Expr}{t:TT} (h:PW X e t):PT X e t:=h _
noncomputable def PA (X:Cx) (es:List Expr) (t:TA):Prop :=
 ∀(pos:Pos) (pins:List (Addr×Obj)) (s:Shared) (σ:St) (H:Hp) (Q:List V->Hp->Prop),Inv X pins σ H s->t σ H Q->wpAny (model X.prog X.w) X.A (spliced (backTo pos (starEach es X.env))) (AP X pins σ Q) X.xe s
noncomputable def PS (X:Cx) (st:Stmt) (t:TS):Prop :=
 ∀(pins:List (Addr×Obj)) (s:Shared) (σ:St) (H:Hp) (D:Ends),Inv X pins σ H s->t D σ H->wpAny (model X.prog X.w) X.A (exec st X.env) (SP X pins D) X.xe s
noncomputable def PSs (X:Cx) (st:List Stmt) (t:TS):Prop :=
 ∀(pins:List (Addr×Obj)) (s:Shared) (σ:St) (H:Hp) (D:Ends),Inv X pins σ H s->t D σ H->wpAny (model X.prog X.w) X.A (execs st X.env) (SP X pins D) X.xe s
theorem thn {α:Type}{t:Sem α}{Q Q':α->Shared->Prop}{M:Model}{A:Around}{E:Value->Shared->Prop}{s:Shared} (h:wpAny M A t Q E s) (hQ:∀a s,Q a s->Q' a s):wpAny M A t Q' E s:=Yt h hQ λ_ _ x=>x
section
variable {X:Cx}
noncomputable def tVar (i:Nat):TE:=fun σ H Q=>∃v,σ[i]?=some (some v)/\Q v H
noncomputable def tC (v:V):TE:=λ_ H Q=>Q v H
theorem pe_var {i:Nat}{x:Str}{pos:Pos} (hN:X.N[i]?=some x) (hv:Vis X.env.scope x) (hd:(x==("__debug__":Str))=false:=by decide) (hcd:(x==("__classdict__":Str))=false:=by decide):PE X (.Name x pos) (tVar i):=by
 intro pins s σ H Q I h
 obtain⟨v,e,h⟩:=h
 obtain⟨m,hn,hl⟩:=I.loc
 obtain⟨u,r,l⟩:=hl i x v hN e hv
 have fin:EP X pins σ Q u s:=⟨v,H,I,r,h⟩
 rcases l with⟨hk,hm⟩|⟨hk,c,hc,hcell⟩
 ·exact wpAny_Name (wpAny_loadName_local I.ok.kind hk hn hm fin) hd
 ·rcases hk with hk|hk
  ·exact wpAny_Name (wpAny_loadName_cell I.ok.kind hk hc hcell fin) hd
  ·exact wpAny_Name (wpAny_loadName_free I.ok.kind hk hc hcell fin hcd) hd
theorem Ze {i j pos}:PE X (.Constant (.int i) j pos) (tC (.int i)):=λ_ _ _ H _ I h=>wpAny_Constant_int ⟨.int i,H,I.tok _,⟨_,rfl⟩,h⟩
theorem Zez {b j pos}:PE X (.Constant (.bool b) j pos) (tC (.bl b)):=λ_ _ _ H _ I h=>Constant_bool ⟨.bl b,H,I,rfl,h⟩
theorem ZjK {j pos}:PE X (.Constant .none j pos) (tC .non):=λ_ _ _ H _ I h=>Constant_none ⟨.non,H,I,rfl,h⟩
noncomputable def Gl (X:Cx) (x:Str):Prop:=X.env.kindOf x=some .globalImplicit
theorem ZjL {E:Value->Shared->Prop}{pins:List (Addr×Obj)}{s:Shared}{σ:St}{H:Hp}{x:Str}{u:Value}{pos:Pos}{Q:Value->Shared->Prop} (I:Inv X pins σ H s) (hg:Gl X x) (hm:X.mg x=some u) (h:Q u s)
  (hd:(x==("__debug__":Str))=false:=by decide):wpAny (model X.prog X.w) X.A (eval (.Name x pos) X.env) Q E s :=
 Calls.Name_function_global I.ok.kind hg (Calls.loadGlobal_global (by rw[I.ok.glob];exact I.mod.glob.keeps I.bk) hm h) hd
theorem Zdf {E:Value->Shared->Prop}{pins:List (Addr×Obj)}{s:Shared}{σ:St}{H:Hp}{x:Str}{u:Value}{pos:Pos}{Q:Value->Shared->Prop} (I:Inv X pins σ H s) (hg:Gl X x) (hm:X.mg x=none) (hv:bootBuiltins x=some u) (h:Q u s)
  (hn:x≠"__name__":=by decide) (hd:(x==("__debug__":Str))=false:=by decide):wpAny (model X.prog X.w) X.A (eval (.Name x pos) X.env) Q E s:=by
 obtain⟨mb,h1,h2⟩:=I.mod.blt
 exact Calls.Name_function_global I.ok.kind hg (Calls.loadGlobal_builtin (by rw[I.ok.glob];exact I.mod.glob.keeps I.bk) hm (by rw[I.ok.blt];exact h1.keeps I.bk) ((h2 x hn).trans hv) h) hd
theorem Zhu {x:Str}{v:V}{u:Value}{pos:Pos} (hg:Gl X x) (hm:X.mg x=none) (hv:bootBuiltins x=some u) (r:RelV v u) (hn:x≠"__name__":=by decide) (hd:(x==("__debug__":Str))=false:=by decide):PE X (.Name x pos) (tC v) :=
 λ_ _ _ H _ I h=>Zdf I hg hm hv ⟨v,H,I,r,h⟩ hn hd
variable {a b:Expr}{ta tb:TE}{pos:Pos}
noncomputable def tB (t:TE):TT:=fun σ H Q=>t σ H λx H1=>∃c,x=.bl c/\Q c H1
theorem Zdg {e:Expr}{t:TE} (h:PE X e t) (he:∀whole,isTrue e X.env whole=(do let v <-whole;standAt e.pos;holding [v] (truthy v)):=by intro _;rfl):PT X e (tB t):=by
 intro pins s σ H Q I hw
 refine isTrue_plain (thn (h pins s σ H _ I hw) λv s1 ⟨x,H1,I1,r1,q1⟩=>?_) (he _)
 obtain⟨d,rfl,q⟩:=q1
 cases r1
 exact wpAny_truthy_bool ⟨H1,I1,q⟩
variable {tA tB':TT}{rest:List Expr}
noncomputable def tAnd (t u:TT):TT:=fun σ H Q=>t σ H λc H1=>if c=true then u σ H1 Q else Q false H1
noncomputable def tOr (t u:TT):TT:=fun σ H Q=>t σ H λc H1=>if c=true then Q true H1 else u σ H1 Q
noncomputable def tNot (t:TT):TT:=fun σ H Q=>t σ H λc H1=>Q (!c) H1
theorem Zmu (ha:PT X a tA):PW X (.BoolOp .And [a] pos) tA:=by
 intro wh pins s σ H Q I h
 refine isTrue_and (thn (ha pins s σ H Q I h) λc s1 e=>?_)
 cases c with
 |true=>exact isTrue_and_nil e
 |false=>exact e
theorem Zgs (ha:PT X a tA):PW X (.BoolOp .Or [a] pos) tA:=by
 intro wh pins s σ H Q I h
 refine isTrue_or (thn (ha pins s σ H Q I h) λc s1 e=>?_)
 cases c with
 |false=>exact isTrue_or_nil e
 |true=>exact e
theorem ZoQ (ha:PT X a tA) (hb:PW X (.BoolOp .And (b::rest) pos) tB'):PW X (.BoolOp .And (a::b::rest) pos) (tAnd tA tB'):=by
 intro wh pins s σ H Q I h
 refine isTrue_and (thn (ha pins s σ H _ I h) λc s1 ⟨H1,I1,q1⟩=>?_)
 cases c with
 |true=>exact hb wh pins s1 σ H1 Q I1 q1
 |false=>exact⟨H1,I1,q1⟩
theorem ZhD (ha:PT X a tA) (hb:PW X (.BoolOp .Or (b::rest) pos) tB'):PW X (.BoolOp .Or (a::b::rest) pos) (tOr tA tB'):=by
 intro wh pins s σ H Q I h
 refine isTrue_or (thn (ha pins s σ H _ I h) λc s1 ⟨H1,I1,q1⟩=>?_)
 cases c with
 |true=>exact⟨H1,I1,q1⟩
 |false=>exact hb wh pins s1 σ H1 Q I1 q1
theorem ZdR (ha:PT X a tA):PT X (.UnaryOp .Not a pos) (tNot tA):=by
 intro pins s σ H Q I h
 exact isTrue_not (ha pins s σ H (λc H1=>Q (!c) H1) I h)
noncomputable def tAndV (ta tb:TE):TE:=fun σ H Q=>ta σ H λx H1=>∃c,x=.bl c/\if c=true then tb σ H1 Q else Q (.bl false) H1
theorem ZlF {op}{t:TE} (h:PE X a t):PE X (.BoolOp op [a] pos) t:=λpins s σ H Q I hw=>BoolOp_one (h pins s σ H Q I hw)
theorem ZjM (ha:PE X a ta) (hb:PE X (.BoolOp .And (b::rest) pos) tb):PE X (.BoolOp .And (a::b::rest) pos) (tAndV ta tb):=by
 intro pins s σ H Q I h
 refine BoolOp_and (thn (ha pins s σ H _ I h) λv s1 ⟨x,H1,I1,r1,q1⟩=>?_)
 obtain⟨c,rfl,q1⟩:=q1
 cases r1
 refine wpAny_truthy_bool ?_
 cases c with
 |true=>exact hb pins s1 σ H1 Q I1 q1
 |false=>exact⟨.bl false,H1,I1,rfl,q1⟩
noncomputable def tIf (t:TT) (ta tb:TE):TE:=fun σ H Q=>t σ H λc H1=>if c=true then ta σ H1 Q else tb σ H1 Q
theorem ZhE {c:Expr} (hc:PT X c tA) (ha:PE X a ta) (hb:PE X b tb):PE X (.IfExp c a b pos) (tIf tA ta tb):=by
 intro pins s σ H Q I h
 refine wpAny_IfExp (thn (hc pins s σ H _ I h) λd s1 ⟨H1,I1,q1⟩=>?_)
 cases d with
 |true=>exact ha pins s1 σ H1 Q I1 q1
 |false=>exact hb pins s1 σ H1 Q I1 q1
end
noncomputable def SqL (K:PySem.W.Frag) (H:Hp) (a:Addr) (xs:List V):Prop :=
 Rd H a (.lst xs) \/
  ∃(o:Obj) (its:Array Value) (n:Nat),K.lookup a=some o/\o.cls=.type "list"/\o.dict=none/\o.data=.seq its n/\its.size<=sizeLine/\Vals xs its.toList
noncomputable def SqT (K:PySem.W.Frag) (H:Hp) (a:Addr) (xs:List V):Prop :=
 Rd H a (.tup xs) \/
  ∃(o:Obj) (its:Array Value) (n:Nat),K.lookup a=some o/\o.cls=.type "tuple"/\o.data=.seq its n/\its.size<=sizeLine/\Vals xs its.toList
noncomputable def absV:Value->Option V
 |.none=>some .non
 |.bool b=>some (.bl b)
 |.int i _=>some (.int i)
 |.str x _=>some (.str x)
 |.bytes b _=>some (.byt b)
 |.float b _=>some (.flt b)
 |.ref a=>some (.ref a)
 |.type n=>some (.ty n)
 |_=>none
theorem RelV.abs {x:V}{u:Value} (r:RelV x u):absV u=some x:=by
 cases x with
 |non=>cases r;rfl
 |bl _=>cases r;rfl
 |int _=>obtain⟨t,rfl⟩:=r;rfl
 |str _=>obtain⟨t,rfl⟩:=r;rfl
 |byt _=>obtain⟨t,rfl⟩:=r;rfl
 |flt _=>obtain⟨t,rfl⟩:=r;rfl
 |ref _=>cases r;rfl
 |ty _=>cases r;rfl
theorem RelV.inj {x y:V}{u:Value} (r:RelV x u) (q:RelV y u):x=y:=Yo (r.abs.symm.trans q.abs)
theorem Vals.inj:∀{xs ys:List V}{us:List Value},Vals xs us->Vals ys us->xs=ys
 |_,_,_,.nil,.nil=>rfl
 |_,_,_,.cons r t,.cons r' t'=>by rw[r.inj r',Vals.inj t t']
section
variable {X:Cx}{pins:List (Addr×Obj)}{σ:St}{H:Hp}{s:Shared}{a:Addr}{xs ys:List V}
theorem SqL.of {K:PySem.W.Frag} (h:H a=some (.lst xs)):SqL K H a xs:=.inl (.inl h)
theorem SqT.of {K:PySem.W.Frag} (h:H a=some (.tup xs)):SqT K H a xs:=.inl (.inl h)
theorem Inv.list (I:Inv X pins σ H s) (h:SqL X.K H a xs):∃its:List Value,Vals xs its/\PlainL s.heap a its.toArray/\xs.length<=sizeLine:=by
 rcases h with h|⟨o,its,n,hk,hc,hd,hs,hz,r⟩
 ·obtain⟨z,its,n,r,e⟩:=h.ok I.hok
  exact⟨its,r,⟨_,n,e,rfl,rfl,rfl⟩,z⟩
 ·refine⟨its.toList,r,⟨o,n,I.kIn a o hk,hc,hd,by simpa using hs⟩,?_⟩
  have e:=r.length
  simp only[YK]at e
  omega
theorem Inv.tuple (I:Inv X pins σ H s) (h:SqT X.K H a xs):∃its:List Value,Vals xs its/\IsTup s.heap a its.toArray/\xs.length<=sizeLine:=by
 rcases h with h|⟨o,its,n,hk,hc,hs,hz,r⟩
 ·obtain⟨z,its,r,p⟩:=h.ok I.hok
  exact⟨its,r,p,z⟩
 ·refine⟨its.toList,r,⟨o,I.kIn a o hk,hc,n,by simpa using hs⟩,?_⟩
  have e:=r.length
  simp only[YK]at e
  omega
theorem Inv.Zcy (I:Inv X pins σ H s) (h:SqL X.K H a xs) (h':SqL X.K H a ys):xs=ys:=by
 obtain⟨its,r,⟨o,n,e,_,_,d⟩,_⟩:=I.list h
 obtain⟨its',r',⟨o',n',e',_,_,d'⟩,_⟩:=I.list h'
 rw[e]at e';cases e'
 rw[d]at d'
 injection d' with d1 _
 have:its=its':=by simpa using congrArg Array.toList d1
 subst this
 exact r.inj r'
theorem Inv.Zjc (I:Inv X pins σ H s) (h:SqT X.K H a xs) (h':SqT X.K H a ys):xs=ys:=by
 obtain⟨its,r,⟨o,e,_,n,d⟩,_⟩:=I.tuple h
 obtain⟨its',r',⟨o',e',_,n',d'⟩,_⟩:=I.tuple h'
 rw[e]at e';cases e'
 rw[d]at d'
 injection d' with d1 _
 have:its=its':=by simpa using congrArg Array.toList d1
 subst this
 exact r.inj r'
end
noncomputable abbrev Cx.ZiJ (X:Cx) (E:Value->Shared->Prop):Cx:={X with xe:=E}
noncomputable abbrev Cx.nox (X:Cx):Cx:=X.ZiJ λ_ _=>False
theorem Cx.Ok.ZiJ {X:Cx} (ok:X.Ok) (E:Value->Shared->Prop):(X.ZiJ E).Ok :=
 ⟨ok.mod,ok.kind,ok.glob,ok.blt,ok.above,ok.inj,ok.has,ok.cab,ok.hd,ok.frames,ok.stk,ok.exf,ok.bs,ok.bsz,ok.noex,ok.exfs,ok.funs,ok.frf⟩
theorem Cx.Ok.ZeA {X:Cx}{E:Value->Shared->Prop} (ok:(X.ZiJ E).Ok):X.Ok :=
 ⟨ok.mod,ok.kind,ok.glob,ok.blt,ok.above,ok.inj,ok.has,ok.cab,ok.hd,ok.frames,ok.stk,ok.exf,ok.bs,ok.bsz,ok.noex,ok.exfs,ok.funs,ok.frf⟩
section
variable {X:Cx}{pins:List (Addr×Obj)}{σ:St}{H:Hp}{s:Shared}{E:Value->Shared->Prop}
theorem Inv.ZiJ (I:Inv X pins σ H s) (E:Value->Shared->Prop):Inv (X.ZiJ E) pins σ H s:=⟨I.ok.ZiJ E,I.os,I.bare,I.base,I.loc,I.cell,I.free,I.freeC,I.pin,I.hok,I.len⟩
theorem Inv.ZeA (I:Inv (X.ZiJ E) pins σ H s):Inv X pins σ H s:=⟨I.ok.ZeA,I.os,I.bare,I.base,I.loc,I.cell,I.free,I.freeC,I.pin,I.hok,I.len⟩
theorem SP.ZeA {D:Ends}{f:Flow}{s':Shared} (h:SP (X.ZiJ E) pins D f s'):SP X pins D f s':=by
 cases f with
 |next=>obtain⟨σ',H',I,q⟩:=h;exact⟨σ',H',I.ZeA,q⟩
 |brk=>obtain⟨σ',H',I,q⟩:=h;exact⟨σ',H',I.ZeA,q⟩
 |cont=>obtain⟨σ',H',I,q⟩:=h;exact⟨σ',H',I.ZeA,q⟩
 |ret u=>obtain⟨v,σ',H',I,r,q⟩:=h;exact⟨v,σ',H',I.ZeA,r,q⟩
end
section
variable {X:Cx}{st:Stmt}{rest:List Stmt}{t u:TS}{e:Expr}{te:TE}{pos:Pos}
noncomputable def tNext:TS:=λD σ H=>D.nx σ H
noncomputable def tSeq (t u:TS):TS:=λD σ H=>t {D with nx:=u D} σ H
theorem ZH:PSs X [] tNext:=λ_ _ σ H _ I h=>wpAny_execs_nil ⟨σ,H,I,h⟩
theorem Zd (h1:PS X st t) (h2:PSs X rest u):PSs X (st::rest) (tSeq t u):=by
 intro pins s σ H D I h
 refine wpAny_execs_cons (thn (h1 pins s σ H {D with nx:=u D} I h) λf s1 q=>?_)
 cases f with
 |next =>
  obtain⟨σ',H',I',q⟩:=q
  exact h2 pins s1 σ' H' D I' q
 |ret v=>exact q
 |brk=>exact q
 |cont=>exact q
theorem Zf (h1:PS X st t):PSs X [st] t:=by
 intro pins s σ H D I h
 refine wpAny_execs_cons (thn (h1 pins s σ H D I h) λf s1 q=>?_)
 cases f with
 |next=>exact wpAny_execs_nil q
 |ret v=>exact q
 |brk=>exact q
 |cont=>exact q
theorem Inv.quiet {pins:List (Addr×Obj)}{σ:St}{H:Hp}{s:Shared} (I:Inv X pins σ H s):interactive X.env=false:=by simp[interactive,I.ok.kind]
noncomputable def tDrop (te:TE):TS:=λD σ H=>te σ H λ_ H1=>D.nx σ H1
theorem Zad (he:PE X e te) (hs:swapsWith e none pos.line X.env=pure false:=by rfl):PS X (.Expr e pos) (tDrop te):=by
 intro pins s σ H D I h
 exact wpAny_Expr_any (thn (he pins s σ H _ I h) λv s1 ⟨x,H1,I1,r1,q1⟩=>⟨σ,H1,I1,q1⟩) I.quiet hs
noncomputable def tRet (te:TE):TS:=λD σ H=>te σ H D.rt
theorem Zr (he:PE X e te):PS X (.Return (some e) pos) (tRet te):=by
 intro pins s σ H D I h
 exact wpAny_Return_some (thn (he pins s σ H _ I h) λv s1 ⟨x,H1,I1,r1,q1⟩=>⟨x,σ,H1,I1,r1,q1⟩)
noncomputable def tIfS (c:TT) (t u:TS):TS:=λD σ H=>c σ H λb H1=>if b=true then t D σ H1 else u D σ H1
theorem Z0 {c:Expr}{a b:List Stmt}{tc:TT} (hc:PT X c tc) (ha:PSs X a t) (hb:PSs X b u):PS X (.If c a b pos) (tIfS tc t u):=by
 intro pins s σ H D I h
 refine wpAny_If (thn (hc pins s σ H _ I h) λd s1 ⟨H1,I1,q1⟩=>?_)
 cases d with
 |true=>exact ha pins s1 σ H1 D I1 q1
 |false=>exact hb pins s1 σ H1 D I1 q1
end
noncomputable abbrev TG:=V->St->Hp->(St->Hp->Prop)->Prop
noncomputable abbrev TGs:=List V->St->Hp->(St->Hp->Prop)->Prop
noncomputable def PG (X:Cx) (target:Expr) (t:TG):Prop :=
 ∀(pins:List (Addr×Obj)) (s:Shared) (σ:St) (H:Hp) (v:V) (u:Value) (Q:St->Hp->Prop),Inv X pins σ H s->RelV v u->t v σ H Q ->
  wpAny (model X.prog X.w) X.A (assign target X.env u) (λ_ s'=>∃σ' H',Inv X pins σ' H' s'/\Q σ' H') X.xe s
noncomputable def PGs (X:Cx) (ts:List Expr) (t:TGs):Prop :=
 ∀(pins:List (Addr×Obj)) (s:Shared) (σ:St) (H:Hp) (vs:List V) (us:List Value) (Q:St->Hp->Prop),Inv X pins σ H s->Vals vs us->t vs σ H Q ->
  wpAny (model X.prog X.w) X.A (assignInOrder ((assignEach ts X.env).map (·.2)) us) (λ_ s'=>∃σ' H',Inv X pins σ' H' s'/\Q σ' H') X.xe s
noncomputable abbrev TSet:=V->V->V->Hp->(Hp->Prop)->Prop
noncomputable def PSet (X:Cx) (t:TSet):Prop :=
 ∀(pins:List (Addr×Obj)) (s:Shared) (σ:St) (H:Hp) (o i v:V) (ov iv u:Value) (Q:Hp->Prop),Inv X pins σ H s->RelV o ov->RelV i iv->RelV v u->t o i v H Q ->
  wpAny (model X.prog X.w) X.A (setItem ov iv u) (λ_ s'=>∃H',Inv X pins σ H' s'/\Q H') X.xe s
noncomputable abbrev TIp:=V->V->Hp->VK->Prop
noncomputable def PIp (X:Cx) (op:Operator) (t:TIp):Prop :=
 ∀(pins:List (Addr×Obj)) (s:Shared) (σ:St) (H:Hp) (x y:V) (v u:Value) (Q:VK),Inv X pins σ H s->RelV x v->RelV y u->t x y H Q ->
  wpAny (model X.prog X.w) X.A (inplaceOp op v u) (EP X pins σ Q) X.xe s
section
variable {X:Cx}{pos:Pos}
noncomputable def gName (i:Nat):TG:=λv σ H Q=>Q (σ.set i (some v)) H
theorem Zl {i:Nat}{x:Str} (hN:X.N.Nodup) (hi:X.N[i]?=some x) (hx:Loc X.env.scope x) (hf:X.fn x=true\/X.env.scope.names.lookup x=some .local:=by first|exact .inl rfl|exact .inr rfl|assumption):PG X (.Name x pos) (gName i):=by
 intro pins s σ H v u Q I r h
 exact wpAny_assign_Name (Zey I hN hi hx r (λs' I'=>⟨_,H,I',h⟩) hf)
noncomputable def gNil:TGs:=λvs σ H Q=>vs=[]/\Q σ H
noncomputable def gCons (t:TG) (u:TGs):TGs:=λvs σ H Q=>∃v r,vs=v::r/\t v σ H fun σ' H'=>u r σ' H' Q
theorem ZbL:PGs X [] gNil:=by
 intro pins s σ H vs us Q I r h
 obtain⟨e,h⟩:=h
 subst e
 cases r
 exact assignInOrder_nil ⟨σ,H,I,h⟩
theorem Zy {e:Expr}{es:List Expr}{t:TG}{u:TGs} (h1:PG X e t) (h2:PGs X es u)
  (hs:(assignEach (e::es) X.env).map (·.2)=assign e X.env::(assignEach es X.env).map (·.2):=by rfl):PGs X (e::es) (gCons t u):=by
 intro pins s σ H vs us Q I r h
 obtain⟨v,vr,e1,h⟩:=h
 subst e1
 cases r with
 |cons r rr =>
  rw[hs]
  refine assignInOrder_cons (thn (h1 pins s σ H _ _ _ I r h) λ_ s1 ⟨σ1,H1,I1,q1⟩=>?_)
  exact h2 pins s1 σ1 H1 _ _ Q I1 rr q1
noncomputable def gTup (K:PySem.W.Frag) (n:Nat) (t:TGs):TG:=λv σ H Q=>∃a xs,v=.ref a/\SqT K H a xs/\xs.length=n/\t xs σ H Q
theorem ZlG {es:List Expr}{k:Nat}{t:TGs}{n:Nat} (hc:X.calm=true) (h:PGs X es t)
  (hn:(assignEach es X.env).length=n:=by rfl) (hst:(assignEach es X.env).findIdx? (·.1)=none:=by rfl):PG X (.Tuple es k pos) (gTup X.K n t):=by
 intro pins s σ H v u Q I r hw
 obtain⟨a,xs,e1,hq,hl,hw⟩:=hw
 subst e1
 cases r
 obtain⟨its,rv,ht,hz⟩:=I.tuple hq
 refine assign_Tuple_tuple (I.ok.hd hc) ht (by simp[hn,<-hl,rv.length]) hst λh' hx=>?_
 have I1:Inv X pins σ H {s with heap:=h'}:=I.kept (t':=s.toks) λb o e=>hx b o (Yj (Yh e)) e
 exact h pins _ σ H xs _ Q I1 (by simpa using rv) hw
noncomputable def gSub (to ti:TE) (t:TSet):TG:=λv σ H Q=>to σ H λo H1=>ti σ H1 λi H2=>t o i v H2 λH3=>Q σ H3
theorem ZhF {o i:Expr}{to ti:TE}{t:TSet} (ho:PE X o to) (hi:PE X i ti) (hs:PSet X t)
  (ha:∀v,assign (.Subscript o i pos) X.env v=(do
   let ov <-holding [v] (eval o X.env)
   let iv <-holding [v,ov] (eval i X.env)
   standAt pos
   holding [v,ov,iv] (setItem ov iv v)
   release [v,ov,iv] []):=by intro _;rfl):PG X (.Subscript o i pos) (gSub to ti t):=by
 intro pins s σ H v u Q I r h
 rw[ha]
 refine Ya (wpAny_holding (thn (ho pins s σ H _ I h) λov s1 ⟨x,H1,I1,r1,q1⟩=>?_))
 refine Ya (wpAny_holding (thn (hi pins s1 σ H1 _ I1 q1) λiv s2 ⟨y,H2,I2,r2,q2⟩=>?_))
 refine Ya (wpAny_standAt (Ya (wpAny_holding (thn (hs pins s2 σ H2 x y v ov iv u _ I2 r1 r2 r q2) λ_ s3 ⟨H3,I3,q3⟩=>?_))))
 exact wpAny_release ⟨σ,H3,I3,q3⟩
noncomputable def tAsg (te:TE) (g:TG):TS:=λD σ H=>te σ H λx H1=>g x σ H1 D.nx
theorem Zgt {tg e:Expr}{te:TE}{g:TG} (he:PE X e te) (hg:PG X tg g) (hs:swapsWithSole [tg] e pos.line X.env=pure false:=by rfl) (hw:swappedStores [tg] e X.env=pure none:=by rfl)
  (h1:(assignEach [tg] X.env).map (·.2)=[assign tg X.env]:=by rfl):PS X (.Assign [tg] e pos) (tAsg te g):=by
 intro pins s σ H D I h
 refine wpAny_Assign_stores (thn (he pins s σ H _ I h) λv s1 ⟨x,H1,I1,r1,q1⟩=>?_) hs hw
 rw[h1]
 exact thn (hg pins s1 σ H1 x v _ I1 r1 q1) λ_ s2 q=>q
theorem Zq {i:Nat}{x:Str}{e:Expr}{te:TE}{pos':Pos} (hN:X.N.Nodup) (hi:X.N[i]?=some x) (hx:Loc X.env.scope x) (he:PE X e te) (hs:swapsWith e (some (.Name x pos')) pos.line X.env=pure false:=by rfl) (hf:X.fn x=true\/X.env.scope.names.lookup x=some .local:=by first|exact .inl rfl|exact .inr rfl|assumption) :
  PS X (.Assign [.Name x pos'] e pos) (tAsg te (gName i)):=by
 intro pins s σ H D I h
 refine wpAny_Assign_Name (thn (he pins s σ H _ I h) λv s1 ⟨y,H1,I1,r1,q1⟩=>?_) hs
 exact Zey I1 hN hi hx r1 (λs2 I2=>⟨_,H1,I2,q1⟩) hf
noncomputable def tPar (i j:Nat) (ta:TA):TS:=λD σ H=>ta σ H λvs H1=>∃v w,vs=[v,w]/\D.nx ((σ.set i (some v)).set j (some w)) H1
theorem ZoR {i j:Nat}{x y:Str}{a b:Expr}{ta:TA}{px py pt:Pos} {kt k2 pt2} (hc:X.calm=true) (hN:X.N.Nodup) (hi:X.N[i]?=some x) (hj:X.N[j]?=some y) (hij:i≠j)
  (hx:X.env.scope.names.lookup x=some .local) (hy:X.env.scope.names.lookup y=some .local) (ha:PA X [a,b] ta)
  (hw:swappedStores [.Tuple [.Name x px,.Name y py] kt pt] (.Tuple [a,b] k2 pt2) X.env=pure (some [x,y]))
  (hs:swapsWithSole [.Tuple [.Name x px,.Name y py] kt pt] (.Tuple [a,b] k2 pt2) pos.line X.env=pure false:=by rfl) :
  PS X (.Assign [.Tuple [.Name x px,.Name y py] kt pt] (.Tuple [a,b] k2 pt2) pos) (tPar i j ta):=by
 intro pins s σ H D I h
 rw[exec_Assign_arm]
 refine Ya (wpAny_standAt ?_)
 rw[hs]
 refine Ya (Yb ?_)
 rw[Yc (by decide)]
 refine Ya (Tuple_ (thn (ha _ pins s σ H _ I h) λus s1 ⟨vs,H1,I1,r1,q1⟩=>?_))
 obtain⟨v,w,e1,q1⟩:=q1
 subst e1
 obtain⟨u1,u2,rfl,rv,rw'⟩:∃u1 u2,us=[u1,u2]/\RelV v u1/\RelV w u2:=by
  cases r1 with
  |cons p q =>
   cases q with
   |cons p' q' =>
    cases q'
    exact⟨_,_,rfl,p,p'⟩
 refine wpAny_newObj_type ?_ (by show 2<=sizeLine;decide)
 have I2:Inv X pins σ H1 {s1 with heap:=s1.heap.push {cls:=.type "tuple",data:=.seq [u1,u2].toArray}}:=I1.kept (t':=s1.toks) λb o e=>Yl _ e
 rw[hw]
 refine Ya (Yb ?_)
 show wpAny (model X.prog X.w) X.A (do rule "assign.swapped-stores";let items <-unpackItems (.ref s1.heap.objs.size) 2 none;assignInOrder [λv=>bindName X.env y v,λv=>bindName X.env x v] items.reverse;pure Flow.next) _ _ _
 refine Ya (wpAny_rule (Ya (unpackItems_tuple (items:=#[u1,u2]) (I.ok.hd hc) (IsTup.new s1.heap _) λh' hx'=>?_)))
 have I3:=I2.kept (h':=h') (t':=s1.toks) λb o e=>hx' b o (Yj (Yh e)) e
 show wpAny _ _ (assignInOrder [λv=>bindName X.env y v,λv=>bindName X.env x v] [u2,u1] >>= λ_=>pure Flow.next) _ _ _
 refine Ya (assignInOrder_cons (wpAny_bindName (Zey I3 hN hj (.inl hy) rw' (λs2 I4=>?_) (.inr hy))))
 refine assignInOrder_cons (wpAny_bindName (Zey I4 hN hi (.inl hx) rv (λs3 I5=>assignInOrder_nil (Yb ?_)) (.inr hx)))
 rw[List.set_comm _ _ (Ne.symm hij)]at I5
 exact⟨_,H1,I5,q1⟩
noncomputable def tAug (i:Nat) (te:TE) (ti:TIp):TS:=λD σ H=>∃x,σ[i]?=some (some x)/\te σ H λy H1=>ti x y H1 λz H2=>D.nx (σ.set i (some z)) H2
theorem ps_aug {i:Nat}{x:Str}{e:Expr}{te:TE}{op:Operator}{ti:TIp}{pos':Pos} (hN:X.N.Nodup) (hi:X.N[i]?=some x) (hx:Loc X.env.scope x) (he:PE X e te) (ho:PIp X op ti) (hf:X.fn x=true\/X.env.scope.names.lookup x=some .local:=by first|exact .inl rfl|exact .inr rfl|assumption) :
  PS X (.AugAssign (.Name x pos') op e pos) (tAug i te ti):=by
 intro pins s σ H D I h
 obtain⟨v,e1,h⟩:=h
 obtain⟨m,hn,hl⟩:=I.loc
 have vis:Vis X.env.scope x:=by rcases hx with k|k;exact .inl k;exact .inr (.inl k)
 obtain⟨u,r,l⟩:=hl i x v hi e1 vis
 refine wpAny_AugAssign_Name ?_
 have go:wpAny (model X.prog X.w) X.A (eval e X.env) (λw s₂=>wpAny (model X.prog X.w) X.A (inplaceOp op u w) (λr s₃=>wpAny (model X.prog X.w) X.A (storeName X.env x r) (λ_=>SP X pins D .next) X.xe s₃) X.xe s₂) X.xe s:=by
  refine thn (he pins s σ H _ I h) λw s1 ⟨y,H1,I1,r1,q1⟩=>?_
  refine thn (ho pins s1 σ H1 v y u w _ I1 r r1 q1) λz s2 ⟨zv,H2,I2,r2,q2⟩=>?_
  exact Zey I2 hN hi hx r2 (λs3 I3=>⟨_,H2,I3,q2⟩) hf
 rcases l with⟨hk,hm⟩|⟨hk,c,hc,hcell⟩
 ·exact wpAny_loadName_local I.ok.kind hk hn hm go
 ·rcases hk with hk|hk
  ·exact wpAny_loadName_cell I.ok.kind hk hc hcell go
  ·rcases hx with k|k
   ·have:X.env.scope.names.lookup x=some .free:=hk
    rw[k]at this;cases this
   ·have:X.env.scope.names.lookup x=some .free:=hk
    rw[k]at this;cases this
noncomputable def ipI (f:Int->Int->Int):TIp:=λx y H Q=>∃i j,x=.int i/\y=.int j/\Q (.int (f i j)) H
theorem ip_sub:PIp X .Sub (ipI λi j=>i-j):=by
 intro pins s σ H x y v u Q I r1 r2 h
 obtain⟨i,j,e1,e2,q⟩:=h
 subst e1;subst e2
 obtain⟨t,rfl⟩:=r1
 obtain⟨t',rfl⟩:=r2
 exact isub_int ⟨.int _,H,I.tok _,⟨_,rfl⟩,q⟩
end
section
variable {X:Cx}{pos:Pos}
noncomputable def ZlH (c:TT) (tb:TS):TS:=λD σ H=>∃W:Nat->St->Hp->Prop,(∃m,W m σ H)/\∀m σ H,W m σ H ->
 c σ H λb H1=>if b=true then ∃N:St->Hp->Prop,(∀σ' H',N σ' H'->∃m',m'<m/\W m' σ' H')/\tb {D with nx:=N,ct:=N,bk:=D.nx} σ H1 else D.nx σ H1
theorem ZhG {c:Expr}{body:List Stmt}{tc:TT}{tb:TS} (hp:PassesOwn (model X.prog X.w) X.A X.env X.xe) (hc:PT X c tc) (hb:PSs X body tb):PS X (.While c body [] pos) (ZlH tc tb):=by
 intro pins s σ H D I h
 obtain⟨W,⟨m0,w0⟩,turn⟩:=h
 refine wpAny_While (codeAny_whileLoop (λn s'=>∃σ' H',Inv X pins σ' H' s'/\W n σ' H') ?_ m0 ⟨σ,H,I,w0⟩)
 rintro n s1 ⟨σ1,H1,I1,w1⟩
 refine wpAny_passesOwn hp (thn (hc pins s1 σ1 H1 _ I1 (turn n σ1 H1 w1)) λb s2 ⟨H2,I2,q2⟩=>?_)
 cases b with
 |true =>
  obtain⟨N,hN,q2⟩:=q2
  rw[Yd rfl]
  refine wpAny_passesOwn hp (thn (hb pins s2 σ1 H2 _ I2 q2) λf s3 q3=>?_)
  cases f with
  |next =>
   obtain⟨σ3,H3,I3,n3⟩:=q3
   obtain⟨m',hm,w3⟩:=hN σ3 H3 n3
   exact⟨m',hm,σ3,H3,I3,w3⟩
  |cont =>
   obtain⟨σ3,H3,I3,n3⟩:=q3
   obtain⟨m',hm,w3⟩:=hN σ3 H3 n3
   exact⟨m',hm,σ3,H3,I3,w3⟩
  |brk=>exact q3
  |ret v=>exact q3
 |false =>
  rw[Yc Yu]
  exact wpAny_execs_nil ⟨σ1,H2,I2,q2⟩
end
structure It where
 go:Nat->Hp->Prop
 yld:Nat->Hp->V->Hp->Prop
 stop:Nat->Hp->Prop
noncomputable def FpOk (X:Cx) (pins:List (Addr×Obj)) (H:Hp) (b:Addr):Prop :=
 H b=none/\b≠X.env.locals/\b∉X.fs/\(b∈X.ex\/X.s₀.heap.objs.size<=b)/\(∀x c,X.env.cells.lookup x=some c->c≠b)/\∀p∈X.pn++pins,p.1≠b
theorem Inv.Zm6 {X:Cx}{pins:List (Addr×Obj)}{σ:St}{H H':Hp}{s:Shared}{b:Addr} (I:Inv X pins σ H s) (hb:s.heap.objs.size<=b) (hn:H' b=none):FpOk X pins H' b:=by
 refine⟨hn,Nat.ne_of_gt (Yp I.lt hb),I.nofs hb,.inr (Yi I.sz hb),λx c e z=>?_,λp hp z=>?_⟩
 ·obtain⟨v,q⟩:=I.cell x c e
  exact absurd (Yp q.lt (by rw[z];exact hb)) (Yw _)
 ·exact absurd (Yp (Yh (I.pin p hp).1) (by rw[z];exact hb)) (Yw _)
structure Turn (P:Program) (w:World) (K:PySem.W.Frag) (tg:Expr) (J:It) (fp:List Addr) (it:Addr) (tn:Nat->Heap->Prop):Prop where
 mem:it∈fp
 obj:∀i h,tn i h->∀b∈fp,∃o,h.get? b=some o/\∀v,o.data≠.cell v
 keep:∀i h h',tn i h->(∀b∈fp,∀o,h.get? b=some o->h'.get? b=some o)->tn i h'
 item:∀(X:Cx),X.prog=P->X.w=w->X.K=K->X.calm=true->∀(i:Nat) (pins:List (Addr×Obj)) (s:Shared) (σ:St) (H:Hp) (E:Value->Shared->Prop),Inv X pins σ H s->(∀b∈fp,FpOk X pins H b)->tn i s.heap->J.go i H ->
  wpAny (model P w) X.A (pyNext (.ref it)) (λr s1=>∃u,r=some u /\
   wpAny (model P w) X.A (letOwnedTupleGo tg (.ref it) u) (λ_ s2=>∃x H',Inv X pins σ H' s2/\RelV x u/\J.yld i H x H'/\tn (i+1) s2.heap/\∀b∈fp,H' b=none) E s1) E s
 done:∀(X:Cx),X.prog=P->X.w=w->X.K=K->X.calm=true->∀(i:Nat) (pins:List (Addr×Obj)) (s:Shared) (σ:St) (H:Hp) (E:Value->Shared->Prop),Inv X pins σ H s->(∀b∈fp,FpOk X pins H b)->tn i s.heap->J.stop i H ->
  wpAny (model P w) X.A (pyNext (.ref it)) (λr s1=>r=none/\Inv X pins σ H s1) E s
 self:∀(A:Around) (i:Nat) (s:Shared) (Q:Value->Shared->Prop) (E:Value->Shared->Prop),tn i s.heap->Q (.ref it) s->wpAny (model P w) A (pyIter (.ref it)) Q E s
noncomputable abbrev TI:=St->Hp->(It->Hp->Prop)->Prop
noncomputable def PIE (X:Cx) (pins:List (Addr×Obj)) (σ:St) (tg:Expr) (R:It->Hp->Prop) (itv:Value) (s2:Shared):Prop :=
 ∃(it:Addr) (fp:List Addr) (tn:Nat->Heap->Prop) (J:It) (H':Hp),itv=.ref it/\Inv X pins σ H' s2/\Turn X.prog X.w X.K tg J fp it tn/\tn 0 s2.heap/\(∀b∈fp,FpOk X pins H' b)/\R J H'
noncomputable def PI (X:Cx) (tg iter:Expr) (wi:TI):Prop :=
 ∀(pins:List (Addr×Obj)) (s:Shared) (σ:St) (H:Hp) (R:It->Hp->Prop),Inv X pins σ H s->wi σ H R ->
  wpAny (model X.prog X.w) X.A (eval iter X.env) (λv s1=>wpAny (model X.prog X.w) X.A (pyIter v) (PIE X pins σ tg R) X.xe s1) X.xe s
theorem ZoS {M : Model} {A : Around} {E : Value → Shared → Prop} {s : Shared} {tg : Expr} {it : Addr} {u : Value} {o : Obj} {n : String} {vs : Array Value} {Q : Unit → Shared → Prop} (ho : s.heap.get? it = some o) (hc : o.cls = .type n) (hd : o.data = .fields vs)
    (hn : ["enumerate", "zip", "dict_itemiterator", "dict_reverseitemiterator", "odict_iterator", "itertools.zip_longest", "itertools.pairwise"].contains n = false) (hQ : Q () s) : wpAny M A (letOwnedTupleGo tg (.ref it) u) Q E s := by
  unfold letOwnedTupleGo
  cases tg <;> first
    | exact Yb hQ
    | (cases u <;> first
        | exact Yb hQ
        | (refine Ya (wpAny_load ho ?_)
           rw [hc, hd]
           show wpAny M A (if (["enumerate", "zip", "dict_itemiterator", "dict_reverseitemiterator", "odict_iterator", "itertools.zip_longest", "itertools.pairwise"].contains n && vs[0]? == some (rawInt _)) = true then _ else _) Q E s
           rw [Yc (by intro h; rw [hn, Bool.false_and] at h; cases h)]
           exact Yb hQ))
noncomputable def Itl (K:PySem.W.Frag) (a:Addr):It :=
 ⟨λi H=>∃xs x,SqL K H a xs/\xs[i]?=some x,λi H x H'=>H'=H/\∀xs,SqL K H a xs->xs[i]?=some x,λi H=>∃xs,SqL K H a xs/\xs.length<=i⟩
noncomputable def Itt (K:PySem.W.Frag) (a:Addr):It :=
 ⟨λi H=>∃xs x,SqT K H a xs/\xs[i]?=some x,λi H x H'=>H'=H/\∀xs,SqT K H a xs->xs[i]?=some x,λi H=>∃xs,SqT K H a xs/\xs.length<=i⟩
noncomputable def Itr (lo:Int) (n:Nat):It:=⟨λi _=>i<n,λi H x H'=>H'=H/\x=.int (lo+i),λi _=>n<=i⟩
theorem Zjd {P:Program}{w:World}{K:PySem.W.Frag}{tg:Expr} (a it:Addr):Turn P w K tg (Itl K a) [it] it (λi h=>h.IsListIter it a i) where
 mem:=by simp
 obj:=λi h st b hb=>by
  have e:b=it:=by simpa using hb
  subst e
  obtain⟨o,e,c,d⟩:=st
  exact⟨o,e,λv z=>by rw[d]at z;cases z⟩
 keep:=λi h h' st k=>st.at λo e=>k it (by simp) o e
 item:=by
  intro X hP hw hK hc i pins s σ H E I hf st hg
  subst hP hw hK
  obtain⟨xs,x,hq,hx⟩:=hg
  obtain⟨its,rv,p,hz⟩:=I.list hq
  obtain⟨u,hu,ru⟩:=rv.get hx
  obtain⟨f0,f1,f2,f3,f4,f5⟩:=hf it (by simp)
  refine wpAny_pyNext_list_item st p.isList (x:=u) (by simpa using hu) λh' st' sb=>?_
  have I1:Inv X pins σ H {s with heap:=h'}:=I.turned (t':=s.toks) (λb o hb e=>(sb.2 b hb).trans e) f0 f1 f3 f4 f5
  obtain⟨o,e,c,d⟩:=id st'
  exact⟨u,rfl,ZoS (s:={s with heap:=h'}) e c d (by decide) ⟨x,H,I1,ru,⟨rfl,λys hy=>by rw[I.Zcy hy hq];exact hx⟩,st',λb hb=>(hf b hb).1⟩⟩
 done:=by
  intro X hP hw hK hc i pins s σ H E I hf st hg
  subst hP hw hK
  obtain⟨xs,hq,hx⟩:=hg
  obtain⟨its,rv,p,hz⟩:=I.list hq
  obtain⟨f0,f1,f2,f3,f4,f5⟩:=hf it (by simp)
  have hl:=rv.length
  exact wpAny_pyNext_list_end (I.ok.hd hc) st p.isList (by simp;omega) λh' eb=>⟨rfl,I.turned (t':=s.toks) (λb o hb e=>eb b o hb e) f0 f1 f3 f4 f5⟩
 self:=λ_ _ _ _ _ st h=>wpAny_pyIter_listiter st h
theorem ZlI {P:Program}{w:World}{K:PySem.W.Frag}{tg:Expr} (a it:Addr):Turn P w K tg (Itt K a) [it] it (λi h=>h.IsTupleIter it a i) where
 mem:=by simp
 obj:=λi h st b hb=>by
  have e:b=it:=by simpa using hb
  subst e
  obtain⟨o,e,c,d⟩:=st
  exact⟨o,e,λv z=>by rw[d]at z;cases z⟩
 keep:=λi h h' st k=>st.at λo e=>k it (by simp) o e
 item:=by
  intro X hP hw hK hc i pins s σ H E I hf st hg
  subst hP hw hK
  obtain⟨xs,x,hq,hx⟩:=hg
  obtain⟨its,rv,p,hz⟩:=I.tuple hq
  obtain⟨u,hu,ru⟩:=rv.get hx
  obtain⟨f0,f1,f2,f3,f4,f5⟩:=hf it (by simp)
  refine wpAny_pyNext_tuple_item st (show s.heap.IsTuple a its.toArray from p) (x:=u) (by simpa using hu) λh' st' sb=>?_
  have I1:Inv X pins σ H {s with heap:=h'}:=I.turned (t':=s.toks) (λb o hb e=>(sb.2 b hb).trans e) f0 f1 f3 f4 f5
  obtain⟨o,e,c,d⟩:=id st'
  exact⟨u,rfl,ZoS (s:={s with heap:=h'}) e c d (by decide) ⟨x,H,I1,ru,⟨rfl,λys hy=>by rw[I.Zjc hy hq];exact hx⟩,st',λb hb=>(hf b hb).1⟩⟩
 done:=by
  intro X hP hw hK hc i pins s σ H E I hf st hg
  subst hP hw hK
  obtain⟨xs,hq,hx⟩:=hg
  obtain⟨its,rv,p,hz⟩:=I.tuple hq
  obtain⟨f0,f1,f2,f3,f4,f5⟩:=hf it (by simp)
  have hl:=rv.length
  exact wpAny_pyNext_tuple_end (I.ok.hd hc) st (show s.heap.IsTuple a its.toArray from p) (by simp;omega) λh' eb=>⟨rfl,I.turned (t':=s.toks) (λb o hb e=>eb b o hb e) f0 f1 f3 f4 f5⟩
 self:=λ_ _ _ _ _ st h=>wpAny_pyIter_tupleiter st h
theorem ZlJ {P:Program}{w:World}{K:PySem.W.Frag}{tg:Expr} (it:Addr) (lo:Int) (n:Nat):Turn P w K tg (Itr lo n) [it] it (λi h=>IsRangeIter h it (lo+(i:Nat)*1) ((n:Int)-(i:Nat)) 1) where
 mem:=by simp
 obj:=λi h st b hb=>by
  have e:b=it:=by simpa using hb
  subst e
  exact⟨_,st,λv z=>by
   have z':Data.fields _=Data.cell v:=z
   cases z'⟩
 keep:=λi h h' st k=>k it (by simp) _ st
 item:=by
  intro X hP hw hK hc i pins s σ H E I hf st hg
  subst hP hw hK
  obtain⟨f0,f1,f2,f3,f4,f5⟩:=hf it (by simp)
  have W:=Walks.range (prog:=X.prog) (w:=X.w) (I.ok.hd hc) it lo 1 n
  refine W.item i s _ _ hg st λv h' tk hv st' kk=>?_
  obtain⟨t,rfl⟩:=hv
  have I1:Inv X pins σ H {s with heap:=h',toks:=tk}:=I.turned (λb o hb e=>kk b o (by simpa using hb) e) f0 f1 f3 f4 f5
  refine⟨_,rfl,ZoS (s:={s with heap:=h',toks:=tk}) (n:="range_iterator") st' rfl rfl (by decide) ⟨.int (lo+i),H,I1,⟨t,?_⟩,⟨rfl,rfl⟩,st',λb hb=>(hf b hb).1⟩⟩
  rw[Int.mul_one]
 done:=by
  intro X hP hw hK hc i pins s σ H E I hf st hg
  subst hP hw hK
  obtain⟨f0,f1,f2,f3,f4,f5⟩:=hf it (by simp)
  exact wpAny_pyNext_range_end (I.ok.hd hc) st (by have:n<=i:=hg;omega) λh' eb=>⟨rfl,I.turned (t':=s.toks) (λb o hb e=>eb b o hb e) f0 f1 f3 f4 f5⟩
 self:=λ_ _ _ _ _ st h=>wpAny_pyIter_rangeiter st h
section
variable {X:Cx}{tg:Expr}
noncomputable def iList (K:PySem.W.Frag) (tl:TE):TI:=fun σ H R=>tl σ H λx H1=>∃a,x=.ref a/\(∃xs,SqL K H1 a xs)/\R (Itl K a) H1
theorem Zci {l:Expr}{tl:TE} (hl:PE X l tl):PI X tg l (iList X.K tl):=by
 intro pins s σ H R I h
 refine thn (hl pins s σ H _ I h) λv s1 ⟨x,H1,I1,r1,q1⟩=>?_
 obtain⟨a,e,⟨xs,hq⟩,q⟩:=q1
 subst e
 cases r1
 obtain⟨its,rv,p,hz⟩:=I1.list hq
 refine wpAny_pyIter_list p.isList ?_
 refine⟨s1.heap.objs.size,[s1.heap.objs.size],_,_,H1,rfl,I1.kept (t':=s1.toks) λb o e=>Yl _ e,Zjd a _,⟨_,Ys _ rfl,rfl,rfl⟩,λb hb=>?_,q⟩
 have e:b=s1.heap.objs.size:=by simpa using hb
 subst e
 exact I1.Zm6 (Ye _) (I1.hok.fresh (Ye _))
theorem ZkH {pins:List (Addr×Obj)}{σ:St}{H:Hp}{s:Shared}{R:It->Hp->Prop}{E:Value->Shared->Prop}{lo hi:Int}{t u v:Tok}{tk:Nat} (I:Inv X pins σ H s) (h1:-(2 ^ 62)<=lo) (h2:lo<2 ^ 62) (h3:-(2 ^ 62)<=hi) (h4:hi<2 ^ 62)
  (q:R (Itr lo (hi-lo).toNat) H):wpAny (model X.prog X.w) X.A (pyIter (.ref s.heap.objs.size)) (PIE X pins σ tg R) E {s with heap:=s.heap.push {cls:=.type "range",data:=.fields #[.int lo t,.int hi u,.int 1 v]},toks:=tk}:=by
 refine wpAny_pyIter_range (IsRange.new ..) (small_one h1 h2 h3 h4) ?_
 have I1:Inv X pins σ H {s with heap:=s.heap.push {cls:=.type "range",data:=.fields #[.int lo t,.int hi u,.int 1 v]},toks:=tk}:=I.kept λb o e=>Yl _ e
 refine⟨(s.heap.push {cls:=.type "range",data:=.fields #[.int lo t,.int hi u,.int 1 v]}).objs.size,[(s.heap.push {cls:=.type "range",data:=.fields #[.int lo t,.int hi u,.int 1 v]}).objs.size],_,_,H,rfl,
  I1.kept (t':=tk) λb o e=>Yl _ e,ZlJ _ lo (hi-lo).toNat,?_,λb hb=>?_,q⟩
 ·have e1:lo+((0:Nat):Int)*1=lo:=by simp
  have e2:(((hi-lo).toNat:Nat):Int)-((0:Nat):Int)=Builtin.Range.rangeSize lo hi 1:=by rw[rangeSize_one];split<;>omega
  show IsRangeIter _ _ (lo+((0:Nat):Int)*1) ((((hi-lo).toNat:Nat):Int)-((0:Nat):Int)) 1
  rw[e1,e2]
  exact Ys _ rfl
 ·have e:b=(s.heap.push {cls:=.type "range",data:=.fields #[.int lo t,.int hi u,.int 1 v]}).objs.size:=by simpa using hb
  subst e
  exact I1.Zm6 (Ye _) (I1.hok.fresh (Ye _))
noncomputable def iRng1 (ta:TA):TI:=fun σ H R=>ta σ H λvs H1=>∃j:Int,vs=[.int j]/\-(2 ^ 62)<=j/\j<2 ^ 62/\R (Itr 0 j.toNat) H1
noncomputable def iRng2 (ta:TA):TI:=fun σ H R=>ta σ H λvs H1=>∃i j:Int,vs=[.int i,.int j]/\(-(2 ^ 62)<=i/\i<2 ^ 62/\-(2 ^ 62)<=j/\j<2 ^ 62)/\R (Itr i (j-i).toNat) H1
theorem ZU {a:Expr}{ta:TA}{p pos:Pos} (hg:Gl X "range") (hm:X.mg "range"=none) (ha:PA X [a] ta) (hs:starEach [a] X.env=[(false,eval a X.env)]:=by rfl):PI X tg (.Call (.Name "range" p) [a] [] pos) (iRng1 ta):=by
 intro pins s σ H R I h
 refine Call_ (Zdf I hg hm boot_range (PyProof.Rows.callWith_type1 (thn (ha pos pins s σ H _ I h) λus s1 ⟨vs,H1,I1,r1,q1⟩=>?_) hs rfl))
 obtain⟨j,e,q1,q2,q⟩:=q1
 subst e
 cases r1 with
 |cons r rr =>
  cases rr
  obtain⟨t,rfl⟩:=r
  exact call_range_1 (ZkH I1 (by omega) (by omega) q1 q2 (by simpa using q))
theorem Zfi {a b:Expr}{ta:TA}{p pos:Pos} (hg:Gl X "range") (hm:X.mg "range"=none) (ha:PA X [a,b] ta) (hs:starEach [a,b] X.env=[(false,eval a X.env),(false,eval b X.env)]:=by rfl) (hs2:starEach [b] X.env=[(false,eval b X.env)]:=by rfl) :
  PI X tg (.Call (.Name "range" p) [a,b] [] pos) (iRng2 ta):=by
 intro pins s σ H R I h
 refine Call_ (Zdf I hg hm boot_range (PyProof.Rows.callWith_type1 (thn (ha pos pins s σ H _ I h) λus s1 ⟨vs,H1,I1,r1,q1⟩=>?_) (by rw[hs,hs2]) (by rw[hs2];rfl)))
 obtain⟨i,j,e,⟨q1,q2,q3,q4⟩,q⟩:=q1
 subst e
 cases r1 with
 |cons r rr =>
  cases rr with
  |cons r' rr =>
   cases rr
   obtain⟨t,rfl⟩:=r
   obtain⟨t',rfl⟩:=r'
   exact call_range_2 (ZkH I1 q1 q2 q3 q4 q)
noncomputable def tFor (wi:TI) (g:TG) (tb:TS):TS:=λD σ H=>wi σ H λJ H1=>∃W:Nat->Nat->St->Hp->Prop,(∃m,W 0 m σ H1)/\∀i m σ H,W i m σ H ->
 (J.stop i H/\D.nx σ H)\/(J.go i H/\∃N:St->Hp->Prop,(∀σ' H',N σ' H'->∃m',m'<m/\W (i+1) m' σ' H')/\∀x H',J.yld i H x H'->g x σ H' fun σ2 H2=>tb {D with nx:=N,ct:=N,bk:=D.nx} σ2 H2)
noncomputable def Zaf (fp:List Addr) (h:Heap):List (Addr×Obj):=fp.filterMap λb=>(h.get? b).map λo=>(b,o)
theorem Zay {fp:List Addr}{h:Heap}{b:Addr}{o:Obj} (hb:b∈fp) (e:h.get? b=some o):(b,o)∈Zaf fp h:=List.mem_filterMap.mpr ⟨b,hb,by rw[e];rfl⟩
theorem Zfj {fp:List Addr}{h:Heap}{p:Addr×Obj} (hp:p∈Zaf fp h):p.1∈fp/\h.get? p.1=some p.2:=by
 obtain⟨b,hb,e⟩:=List.mem_filterMap.mp hp
 cases q:h.get? b with
 |none=>rw[q]at e;cases e
 |some o =>
  rw[q]at e
  have e':(b,o)=p:=Yo e
  subst e'
  exact⟨hb,q⟩
theorem Inv.pinned {pins:List (Addr×Obj)}{σ:St}{H:Hp}{s:Shared}{fp:List Addr} (I:Inv X pins σ H s) (hf:∀b∈fp,FpOk X pins H b) (ho:∀b∈fp,∃o,s.heap.get? b=some o/\∀v,o.data≠.cell v):Inv X (pins++Zaf fp s.heap) σ H s :=
 I.ZdQ λp hp=>(Yq.mp hp).elim (λz=>I.pin p (Ym _ z)) λz=>by
  obtain⟨hb,e⟩:=Zfj z
  obtain⟨f0,f1,f2,_⟩:=hf p.1 hb
  obtain⟨o,e',d⟩:=ho p.1 hb
  rw[e]at e';cases e'
  exact⟨e,f0,f1,f2,d⟩
theorem Inv.Zcz {pins pl:List (Addr×Obj)}{σ:St}{H:Hp}{s:Shared} (I:Inv X (pins++pl) σ H s):Inv X pins σ H s:=I.ZdQ λp hp=>I.pin p (Ym _ (YH _ hp))
theorem Zby {iter:Expr}{body:List Stmt}{wi:TI}{g:TG}{tb:TS}{pos:Pos} (hp:PassesOwn (model X.prog X.w) X.A X.env X.xe) (hc:X.calm=true) (hi:PI X tg iter wi) (hg:PG X tg g) (hb:PSs X body tb)
  (hs:∀x,foldedSetIterable iter X.env x=pure x:=by intro _;rfl):PS X (.For tg iter body [] pos) (tFor wi g tb):=by
 intro pins s σ H D I h
 refine wpAny_For (thn (hi pins s σ H _ I h) λv s1 h1=>thn h1 λitv s2 h2=>?_) hs
 obtain⟨it,fp,tn,J,H2,e,I2,T,st2,f2,W,⟨m0,w0⟩,turn⟩:=h2
 subst e
 -- what stays true of the iterator's objects through the loop
 have stat:∀{H':Hp},(∀b∈fp,H' b=none)->∀b∈fp,FpOk X pins H' b:=λhn b hb=>⟨hn b hb,(f2 b hb).2⟩
 refine codeAny_forLoop_any (λn s'=>∃i σ' H',Inv X pins σ' H' s'/\tn i s'.heap/\(∀b∈fp,H' b=none)/\W i n σ' H') ?_ m0 ⟨0,σ,H2,I2,st2,λb hb=>(f2 b hb).1,w0⟩
 rintro n s3 ⟨i,σ3,H3,I3,st3,fr3,w3⟩
 rcases turn i n σ3 H3 w3 with⟨stop,qn⟩|⟨go,N,hN,step⟩
 ·refine wpAny_passesOwn hp (thn (T.done X rfl rfl rfl hc i pins s3 σ3 H3 X.xe I3 (stat fr3) st3 stop) λr s4 ⟨hr,I4⟩=>?_)
  subst hr
  exact wpAny_execs_nil ⟨σ3,H3,I4,qn⟩
 ·refine wpAny_passesOwn hp (thn (T.item X rfl rfl rfl hc i pins s3 σ3 H3 X.xe I3 (stat fr3) st3 go) λr s4 ⟨u,hr,h4⟩=>?_)
  subst hr
  refine wpAny_passesOwn hp (thn h4 λ_ s5 ⟨x,H5,I5,r5,y5,st5,fr5⟩=>?_)
  have I5':=I5.pinned (stat fr5) (T.obj _ _ st5)
  refine wpAny_passesOwn hp (thn (hg _ s5 σ3 H5 x u _ I5' r5 (step x H5 y5)) λ_ s6 ⟨σ6,H6,I6,q6⟩=>?_)
  refine wpAny_passesOwn hp (thn (hb _ s6 σ6 H6 _ I6 q6) λf s7 q7=>?_)
  have again:∀{σ7:St}{H7:Hp},Inv X (pins++Zaf fp s5.heap) σ7 H7 s7->N σ7 H7->∃m,m<n/\∃i σ' H',Inv X pins σ' H' s7/\tn i s7.heap/\(∀b∈fp,H' b=none)/\W i m σ' H':=λ{σ7 H7} I7 n7=>by
   obtain⟨m',hm,w7⟩:=hN σ7 H7 n7
   refine⟨m',hm,i+1,σ7,H7,I7.Zcz,T.keep _ _ _ st5 λb hb o e=>(I7.pin (b,o) (Ym _ (Ym _ (Zay hb e)))).1,λb hb=>?_,w7⟩
   obtain⟨o,e,d⟩:=T.obj _ _ st5 b hb
   exact(I7.pin (b,o) (Ym _ (Ym _ (Zay hb e)))).2.1
  cases f with
  |next=>obtain⟨σ7,H7,I7,n7⟩:=q7;exact again I7 n7
  |cont=>obtain⟨σ7,H7,I7,n7⟩:=q7;exact again I7 n7
  |brk=>obtain⟨σ7,H7,I7,q7⟩:=q7;exact⟨σ7,H7,I7.Zcz,q7⟩
  |ret v=>obtain⟨x7,σ7,H7,I7,r7,q7⟩:=q7;exact⟨x7,σ7,H7,I7.Zcz,r7,q7⟩
end
theorem Zal {lo:Int}{n:Nat}{g:TG}{tb:TS}{D:Ends}{σ:St}{H:Hp} (Pv:Nat->St->Hp->Prop) (h0:Pv 0 σ H)
  (hs:∀i σ H,i<n->Pv i σ H->g (.int (lo+i)) σ H fun σ2 H2=>tb {D with nx:=Pv (i+1),ct:=Pv (i+1),bk:=D.nx} σ2 H2) (hd:∀σ H,Pv n σ H->D.nx σ H) :
  ∃W:Nat->Nat->St->Hp->Prop,(∃m,W 0 m σ H)/\∀i m σ H,W i m σ H ->
   ((Itr lo n).stop i H/\D.nx σ H)\/((Itr lo n).go i H/\∃N:St->Hp->Prop,(∀σ' H',N σ' H'->∃m',m'<m/\W (i+1) m' σ' H')/\∀x H',(Itr lo n).yld i H x H'->g x σ H' fun σ2 H2=>tb {D with nx:=N,ct:=N,bk:=D.nx} σ2 H2):=by
 refine⟨λi m σ H=>m=n-i/\i<=n/\Pv i σ H,⟨n,by simp,Yz _,h0⟩,?_⟩
 rintro i m σ H ⟨rfl,hi,p⟩
 by_cases hlt:i<n
 ·refine .inr ⟨hlt,Pv (i+1),fun σ' H' p'=>⟨n-(i+1),by omega,rfl,hlt,p'⟩,λx H' y=>?_⟩
  obtain⟨e,y⟩:=y
  subst e y
  exact hs i σ _ hlt p
 ·have e:i=n:=by omega
  subst e
  exact .inl ⟨Ye _,hd σ H p⟩
noncomputable abbrev R2:=V->V->Hp->VK->Prop
noncomputable def OpR (X:Cx) (f:Value->Value->Sem Value) (r:R2):Prop :=
 ∀(pins:List (Addr×Obj)) (s:Shared) (σ:St) (H:Hp) (x y:V) (v u:Value) (Q:VK),Inv X pins σ H s->RelV x v->RelV y u->r x y H Q ->
  wpAny (model X.prog X.w) X.A (f v u) (EP X pins σ Q) X.xe s
noncomputable def UnR (X:Cx) (f:Value->Sem Value) (r:V->Hp->VK->Prop):Prop :=
 ∀(pins:List (Addr×Obj)) (s:Shared) (σ:St) (H:Hp) (x:V) (v:Value) (Q:VK),Inv X pins σ H s->RelV x v->r x H Q ->
  wpAny (model X.prog X.w) X.A (f v) (EP X pins σ Q) X.xe s
noncomputable def Zcg (X:Cx) (f:Value) (r:List V->Hp->VK->Prop):Prop :=
 ∀(pins:List (Addr×Obj)) (s:Shared) (σ:St) (H:Hp) (xs:List V) (us:List Value) (Q:VK),Inv X pins σ H s->Vals xs us->r xs H Q ->
  wpAny (model X.prog X.w) X.A (call f us) (EP X pins σ Q) X.xe s
noncomputable def tOp (r:R2) (ta tb:TE):TE:=fun σ H Q=>ta σ H λx H1=>tb σ H1 λy H2=>r x y H2 Q
noncomputable def tUn (r:V->Hp->VK->Prop) (ta:TE):TE:=fun σ H Q=>ta σ H λx H1=>r x H1 Q
noncomputable def rI (C:Int->Int->Prop) (g:Int->Int->V):R2:=λx y H Q=>∃i j,x=.int i/\y=.int j/\C i j/\Q (g i j) H
noncomputable def rI0 (g:Int->Int->V):R2:=λx y H Q=>∃i j,x=.int i/\y=.int j/\Q (g i j) H
noncomputable def rU (g:Int->V):V->Hp->VK->Prop:=λx H Q=>∃i,x=.int i/\Q (g i) H
section
variable {X:Cx}{a b c:Expr}{ta tb tc:TE}{pos:Pos}
theorem binT (ha:PE X a ta) (hb:PE X b tb) {pins:List (Addr×Obj)}{s:Shared}{σ:St}{H:Hp}{R:V->V->Hp->Prop} (I:Inv X pins σ H s)
  (h:ta σ H λx H1=>tb σ H1 λy H2=>R x y H2) {Q:Value->Shared->Prop}{f:Value->Value->Sem Value}
  (hf:∀v u s2 x y H2,Inv X pins σ H2 s2->RelV x v->RelV y u->R x y H2->wpAny (model X.prog X.w) X.A (f v u) Q X.xe s2) :
  wpAny (model X.prog X.w) X.A (eval a X.env) (λv s₁=>wpAny (model X.prog X.w) X.A (eval b X.env) (λu s₂=>wpAny (model X.prog X.w) X.A (f v u) Q X.xe s₂) X.xe s₁) X.xe s:=by
 refine thn (ha pins s σ H _ I h) λv s1 ⟨x,H1,I1,r1,q1⟩=>?_
 refine thn (hb pins s1 σ H1 _ I1 q1) λu s2 ⟨y,H2,I2,r2,q2⟩=>?_
 exact hf v u s2 x y H2 I2 r1 r2 q2
theorem Zj {op:Operator}{r:R2} (ho:OpR X (binaryOp op) r) (ha:PE X a ta) (hb:PE X b tb):PE X (.BinOp a op b pos) (tOp r ta tb):=by
 intro pins s σ H Q I h
 exact wpAny_BinOp (binT ha hb I h λv u s2 x y H2 I2 rx ry q=>ho pins s2 σ H2 x y v u Q I2 rx ry q)
theorem Zmv {op:UnaryOp}{r:V->Hp->VK->Prop} (ho:UnR X (unaryOp op) r) (ha:PE X a ta):PE X (.UnaryOp op a pos) (tUn r ta):=by
 intro pins s σ H Q I h
 exact UnaryOp_ (thn (ha pins s σ H _ I h) λv s1 ⟨x,H1,I1,r1,q1⟩=>ho pins s1 σ H1 x v Q I1 r1 q1)
theorem opI {f:Value->Value->Sem Value}{C:Int->Int->Prop}{g:Int->Int->Int}
  (rule:∀(i j:Int) (t u:Tok) (s:Shared) (Q:Value->Shared->Prop) (E:Value->Shared->Prop),C i j->Q (.int (g i j) s.toks) {s with toks:=s.toks+1}->wpAny (model X.prog X.w) X.A (f (.int i t) (.int j u)) Q E s) :
  OpR X f (rI C λi j=>.int (g i j)):=by
 intro pins s σ H x y v u Q I rx ry h
 obtain⟨i,j,rfl,rfl,hc,q⟩:=h
 obtain⟨t,rfl⟩:=rx
 obtain⟨t',rfl⟩:=ry
 exact rule i j t t' s _ _ hc ⟨.int (g i j),H,I.tok _,⟨_,rfl⟩,q⟩
theorem opI0 {f:Value->Value->Sem Value}{g:Int->Int->Int}
  (rule:∀(i j:Int) (t u:Tok) (s:Shared) (Q:Value->Shared->Prop) (E:Value->Shared->Prop),Q (.int (g i j) s.toks) {s with toks:=s.toks+1}->wpAny (model X.prog X.w) X.A (f (.int i t) (.int j u)) Q E s) :
  OpR X f (rI0 λi j=>.int (g i j)):=by
 intro pins s σ H x y v u Q I rx ry h
 obtain⟨i,j,rfl,rfl,q⟩:=h
 obtain⟨t,rfl⟩:=rx
 obtain⟨t',rfl⟩:=ry
 exact rule i j t t' s _ _ ⟨.int (g i j),H,I.tok _,⟨_,rfl⟩,q⟩
theorem opB0 {f:Value->Value->Sem Value}{g:Int->Int->Bool}
  (rule:∀(i j:Int) (t u:Tok) (s:Shared) (Q:Value->Shared->Prop) (E:Value->Shared->Prop),Q (.bool (g i j)) s->wpAny (model X.prog X.w) X.A (f (.int i t) (.int j u)) Q E s) :
  OpR X f (rI0 λi j=>.bl (g i j)):=by
 intro pins s σ H x y v u Q I rx ry h
 obtain⟨i,j,rfl,rfl,q⟩:=h
 obtain⟨t,rfl⟩:=rx
 obtain⟨t',rfl⟩:=ry
 exact rule i j t t' s _ _ ⟨.bl (g i j),H,I,rfl,q⟩
noncomputable def ZkI (i j:Int):Prop:=0<=j/\j<=1000000/\i.natAbs<2 ^ 64
theorem ZC:OpR X (binaryOp .Add) (rI0 λi j=>.int (i+j)):=opI0 λ_ _ _ _ _ _ _ q=>add_int q
theorem ZS:OpR X (binaryOp .Sub) (rI0 λi j=>.int (i-j)):=opI0 λ_ _ _ _ _ _ _ q=>sub_int q
theorem Zdh:OpR X (binaryOp .Mod) (rI (λ_ j=>0<j) λi j=>.int (i % j)):=opI λi j _ _ _ _ _ hc q=>by
 have h1:(0:Int)<j:=hc
 exact mod_int' (by omega) (by rw[Int.fmod_eq_emod_of_nonneg i (by omega)];exact q)
theorem ZeB:OpR X (binaryOp .Pow) (rI ZkI λi j=>.int (i ^ j.toNat)):=opI λ_ _ _ _ _ _ _ hc q=>pow_int_small hc.1 hc.2.1 hc.2.2 q
theorem unI {f:Value->Sem Value}{g:Int->Int}
  (rule:∀(i:Int) (t:Tok) (s:Shared) (Q:Value->Shared->Prop) (E:Value->Shared->Prop),Q (.int (g i) s.toks) {s with toks:=s.toks+1}->wpAny (model X.prog X.w) X.A (f (.int i t)) Q E s) :
  UnR X f (rU λi=>.int (g i)):=by
 intro pins s σ H x v Q I rx h
 obtain⟨i,rfl,q⟩:=h
 obtain⟨t,rfl⟩:=rx
 exact rule i t s _ _ ⟨.int (g i),H,I.tok _,⟨_,rfl⟩,q⟩
theorem ZjN:UnR X (unaryOp .USub) (rU λi=>.int (-i)):=unI λ_ _ _ _ _ q=>neg_int q
end
noncomputable def ZkJ:V->V->Bool
 |.non,.non=>true|.non,.int _=>true|.int _,.non=>true|.non,.bl _=>true|.bl _,.non=>true|.non,.str _=>true|.str _,.non=>true
 |.int _,.int _=>true|.bl _,.bl _=>true|.str _,.str _=>true|.byt _,.byt _=>true
 |.int _,.str _=>true|.str _,.int _=>true|.bl _,.str _=>true|.str _,.bl _=>true
 |_,_=>false
noncomputable def rEq:R2:=λx y H Q=>ZkJ x y=true/\Q (.bl (decide (x=y))) H
noncomputable def rNe:R2:=λx y H Q=>ZkJ x y=true/\Q (.bl (!decide (x=y))) H
theorem Zmw {i j:Int}:decide (V.int i=V.int j)=(i==j):=by
 rw[Bool.eq_iff_iff]
 simp
theorem ZoT {i j:Bool}:decide (V.bl i=V.bl j)=(i==j):=by
 rw[Bool.eq_iff_iff]
 simp
theorem Zmx {i j:Str}:decide (V.str i=V.str j)=(i==j):=by
 rw[Bool.eq_iff_iff]
 simp
theorem Zmy {i j:Array UInt8}:decide (V.byt i=V.byt j)=(i.toList==j.toList):=by
 rw[Bool.eq_iff_iff]
 cases i
 cases j
 simp
section
variable {X:Cx}{a b c:Expr}{ta tb tc:TE}{pos:Pos}
theorem ZF {pins:List (Addr×Obj)}{σ:St}{H:Hp}{s:Shared}{Q:VK}{k k':Bool} (I:Inv X pins σ H s) (q:Q (.bl k) H) (e:k=k'):EP X pins σ Q (.bool k') s:=by
 subst e
 exact⟨.bl k,H,I,rfl,q⟩
theorem ZcX:OpR X (compareOp .Eq) rEq:=by
 intro pins s σ H x y v u Q I rx ry h
 obtain⟨hs,q⟩:=h
 cases x with
 |non =>
  cases rx
  cases y with
  |non=>cases ry;exact PySem.EqNone.eq_none_none (ZF I q (by simp))
  |bl j=>cases ry;exact PySem.EqNone.eq_none_bool (ZF I q (by simp))
  |int j=>obtain⟨t',rfl⟩:=ry;exact PySem.EqNone.eq_none_int (ZF I q (by simp))
  |str j=>obtain⟨t',rfl⟩:=ry;exact PySem.EqNone.eq_none_str (ZF I q (by simp))
  |_=>exact absurd (show false=true from hs) Yu
 |bl i =>
  cases rx
  cases y with
  |non=>cases ry;exact PySem.EqNone.eq_bool_none (ZF I q (by simp))
  |bl j=>cases ry;exact eq_bool (ZF I q ZoT)
  |str j=>obtain⟨t',rfl⟩:=ry;exact PySem.EqMixed.eq_bool_str (ZF I q (by simp))
  |_=>exact absurd (show false=true from hs) Yu
 |int i =>
  obtain⟨t,rfl⟩:=rx
  cases y with
  |non=>cases ry;exact PySem.EqNone.eq_int_none (ZF I q (by simp))
  |int j=>obtain⟨t',rfl⟩:=ry;exact eq_int (ZF I q Zmw)
  |str j=>obtain⟨t',rfl⟩:=ry;exact PySem.EqMixed.eq_int_str (ZF I q (by simp))
  |_=>exact absurd (show false=true from hs) Yu
 |str i =>
  obtain⟨t,rfl⟩:=rx
  cases y with
  |non=>cases ry;exact PySem.EqNone.eq_str_none (ZF I q (by simp))
  |bl j=>cases ry;exact PySem.EqMixed.eq_str_bool (ZF I q (by simp))
  |int j=>obtain⟨t',rfl⟩:=ry;exact PySem.EqMixed.eq_str_int (ZF I q (by simp))
  |str j=>obtain⟨t',rfl⟩:=ry;exact eq_str (ZF I q Zmx)
  |_=>exact absurd (show false=true from hs) Yu
 |byt i =>
  obtain⟨t,rfl⟩:=rx
  cases y with
  |byt j=>obtain⟨t',rfl⟩:=ry;exact PySem.W.eq_bytes (ZF I q Zmy)
  |_=>exact absurd (show false=true from hs) Yu
 |_=>cases y<;>exact absurd (show false=true from hs) Yu
theorem op_ne:OpR X (compareOp .NotEq) rNe:=by
 intro pins s σ H x y v u Q I rx ry h
 obtain⟨hs,q⟩:=h
 cases x with
 |non =>
  cases rx
  cases y with
  |non=>cases ry;exact PySem.EqNone.ne_none_none (ZF I q (by simp))
  |bl j=>cases ry;exact PySem.EqNone.ne_none_bool (ZF I q (by simp))
  |int j=>obtain⟨t',rfl⟩:=ry;exact PySem.EqNone.ne_none_int (ZF I q (by simp))
  |str j=>obtain⟨t',rfl⟩:=ry;exact PySem.EqNone.ne_none_str (ZF I q (by simp))
  |_=>exact absurd (show false=true from hs) Yu
 |bl i =>
  cases rx
  cases y with
  |non=>cases ry;exact PySem.EqNone.ne_bool_none (ZF I q (by simp))
  |bl j=>cases ry;exact ne_bool (ZF I q (congrArg not ZoT))
  |str j=>obtain⟨t',rfl⟩:=ry;exact PySem.EqMixed.ne_bool_str (ZF I q (by simp))
  |_=>exact absurd (show false=true from hs) Yu
 |int i =>
  obtain⟨t,rfl⟩:=rx
  cases y with
  |non=>cases ry;exact PySem.EqNone.ne_int_none (ZF I q (by simp))
  |int j=>obtain⟨t',rfl⟩:=ry;exact ne_int (ZF I q (congrArg not Zmw))
  |str j=>obtain⟨t',rfl⟩:=ry;exact PySem.EqMixed.ne_int_str (ZF I q (by simp))
  |_=>exact absurd (show false=true from hs) Yu
 |str i =>
  obtain⟨t,rfl⟩:=rx
  cases y with
  |non=>cases ry;exact PySem.EqNone.ne_str_none (ZF I q (by simp))
  |bl j=>cases ry;exact PySem.EqMixed.ne_str_bool (ZF I q (by simp))
  |int j=>obtain⟨t',rfl⟩:=ry;exact PySem.EqMixed.ne_str_int (ZF I q (by simp))
  |str j=>obtain⟨t',rfl⟩:=ry;exact ne_str (ZF I q (congrArg not Zmx))
  |_=>exact absurd (show false=true from hs) Yu
 |byt i =>
  obtain⟨t,rfl⟩:=rx
  cases y with
  |byt j=>obtain⟨t',rfl⟩:=ry;exact PySem.W.ne_bytes (ZF I q (congrArg not Zmy))
  |_=>exact absurd (show false=true from hs) Yu
 |_=>cases y<;>exact absurd (show false=true from hs) Yu
theorem Zep:OpR X (compareOp .Lt) (rI0 λi j=>.bl (decide (i<j))):=opB0 λ_ _ _ _ _ _ _ q=>lt_int q
theorem Zmz:OpR X (compareOp .LtE) (rI0 λi j=>.bl (decide (i<=j))):=opB0 λ_ _ _ _ _ _ _ q=>le_int q
theorem ZhH:OpR X (compareOp .Gt) (rI0 λi j=>.bl (decide (j<i))):=opB0 λ_ _ _ _ _ _ _ q=>gt_int q
theorem ZoU:OpR X (compareOp .GtE) (rI0 λi j=>.bl (decide (j<=i))):=opB0 λ_ _ _ _ _ _ _ q=>ge_int q
theorem op_isN:OpR X (compareOp .Is) (λx y H Q=>y=.non/\Q (.bl (decide (x=.non))) H):=by
 intro pins s σ H x y v u Q I rx ry h
 obtain⟨rfl,q⟩:=h
 cases ry
 refine is_none_gen (ZF I q ?_)
 cases x<;>first
  |(cases rx;rfl)
  |(obtain⟨t,rfl⟩:=rx;rfl)
theorem Zx (b:Expr) {op:CmpOp} (h:op≠.In:=by decide) (h2:op≠.NotIn:=by decide):behindInMarks op b=false:=by
 have e1:(op==CmpOp.In)=false:=by cases op<;>first|rfl|exact absurd rfl h
 have e2:(op==CmpOp.NotIn)=false:=by cases op<;>first|rfl|exact absurd rfl h2
 cases b<;>simp[behindInMarks,e1,e2]
theorem ZdS {op:CmpOp}{r:R2} (ho:OpR X (compareOp op) r) (ha:PE X a ta) (hb:PE X b tb) (hm:behindInMarks op b=false):PE X (.Compare a [op] [b] pos) (tOp r ta tb):=by
 intro pins s σ H Q I h
 exact wpAny_Compare1 (binT ha hb I h λv u s2 x y H2 I2 rx ry q=>ho pins s2 σ H2 x y v u Q I2 rx ry q) hm
noncomputable def tTest (t:TE):TT:=fun σ H Q=>t σ H λx H'=>∃k,x=.bl k/\Q k H'
theorem Zw {op:CmpOp}{r:R2} (ho:OpR X (compareOp op) r) (ha:PE X a ta) (hb:PE X b tb) (hm:behindInMarks op b=false):PT X (.Compare a [op] [b] pos) (tTest (tOp r ta tb)):=by
 intro pins s σ H Q I h
 refine wpAny_isTrue_Compare1 (thn (ha pins s σ H _ I h) λv s1 ⟨x,H1,I1,r1,q1⟩=>thn (hb pins s1 σ H1 _ I1 q1) λu s2 ⟨y,H2,I2,r2,q2⟩ =>
  thn (ho pins s2 σ H2 x y v u _ I2 r1 r2 q2) λc s3 ⟨z,H3,I3,r3,k,e,q3⟩=>?_) hm
 subst e
 cases r3
 exact wpAny_truthy_bool ⟨H3,I3,q3⟩
noncomputable def tChain (r r':R2) (ta tb tc:TE):TE:=fun σ H Q=>ta σ H λx H1=>tb σ H1 λy H2=>r x y H2 λz H3=>∃k,z=.bl k /\
 (if k=true then tc σ H3 λw' H4=>r' y w' H4 Q else Q (.bl false) H3)
theorem ZoV {op op':CmpOp}{r r':R2} (ho:OpR X (compareOp op) r) (ho':OpR X (compareOp op') r') (ha:PE X a ta) (hb:PE X b tb) (hc:PE X c tc)
  (hm:lastMarks [op,op'] [b,c]=false:=by with_unfolding_all rfl):PT X (.Compare a [op,op'] [b,c] pos) (tTest (tChain r r' ta tb tc)):=by
 intro pins s σ H Q I h
 refine isTrue_chain (thn (ha pins s σ H _ I h) λv s1 ⟨x,H1,I1,r1,q1⟩=>test_link (thn (hb pins s1 σ H1 _ I1 q1) λu s2 ⟨y,H2,I2,r2,q2⟩ =>
  thn (ho pins s2 σ H2 x y v u _ I2 r1 r2 q2) λd s3 ⟨z,H3,I3,r3,k,e,q3⟩=>?_)) hm
 subst e
 cases r3
 refine wpAny_truthy_bool ?_
 cases k with
 |false =>
  obtain⟨k',e',q'⟩:=q3
  cases e'
  exact ite_ff ⟨H3,I3,q'⟩
 |true =>
  refine ite_tt (test_last (thn (hc pins s3 σ H3 _ I3 q3) λw' s4 ⟨z',H4,I4,r4,q4⟩=>thn (ho' pins s4 σ H4 y z' u w' _ I4 r2 r4 q4) λd' s5 ⟨z2,H5,I5,r5,k2,e2,q5⟩=>?_))
  subst e2
  cases r5
  exact wpAny_truthy_bool ⟨H5,I5,q5⟩
theorem ZjO:(sizeLine:Nat)<2 ^ 63:=by rw[sizeLine_eq];decide
theorem vals1 {x:V}{us:List Value} (r:Vals [x] us):∃u,us=[u]/\RelV x u:=by
 cases r with
 |cons r1 r2=>cases r2;exact⟨_,rfl,r1⟩
theorem vals2 {x y:V}{us:List Value} (r:Vals [x,y] us):∃u w',us=[u,w']/\RelV x u/\RelV y w':=by
 cases r with
 |cons r1 r2 =>
  cases r2 with
  |cons r3 r4=>cases r4;exact⟨_,_,rfl,r1,r3⟩
theorem Zgu (hc:X.calm=true):Zcg X (.builtin "max") (λxs H Q=>∃i j,xs=[.int i,.int j]/\Q (.int (if j>i then j else i)) H):=by
 intro pins s σ H xs us Q I r h
 obtain⟨i,j,rfl,q⟩:=h
 obtain⟨u,w',rfl,⟨t,rfl⟩,⟨t',rfl⟩⟩:=vals2 r
 refine max_two_ints (I.ok.hd hc) λh' tk k=>⟨_,H,I.kept k,?_,q⟩
 by_cases hj:j>i
 ·rw[Yd hj,Yd hj];exact⟨_,rfl⟩
 ·rw[Yc hj,Yc hj];exact⟨_,rfl⟩
theorem Zje (hc:X.calm=true):Zcg X (.builtin "min") (λxs H Q=>∃i j,xs=[.int i,.int j]/\Q (.int (if j<i then j else i)) H):=by
 intro pins s σ H xs us Q I r h
 obtain⟨i,j,rfl,q⟩:=h
 obtain⟨u,w',rfl,⟨t,rfl⟩,⟨t',rfl⟩⟩:=vals2 r
 refine min_two_ints (I.ok.hd hc) λh' tk k=>⟨_,H,I.kept k,?_,q⟩
 by_cases hj:j<i
 ·rw[Yd hj,Yd hj];exact⟨_,rfl⟩
 ·rw[Yc hj,Yc hj];exact⟨_,rfl⟩
end
structure ObjM (h:Heap) (x dx C:Addr) (mA:Str->Option Value):Prop where
 obj:h.get? x=some (PySem.W.instObj C dx)
 ns:h.Ns1 dx mA
 ne:dx≠x
theorem Zm7 {h:Heap}{dx:Addr}{mA:Str->Option Value} (n:h.Ns1 dx mA):∃od,h.get? dx=some od/\∀name,PySem.W.lookIn name od=some (mA name):=by
 obtain⟨o,es,ep,ho,hd,hk,_,hm⟩:=n
 refine⟨o,ho,λname=>?_⟩
 have e:=hm name
 unfold nsFind findBy at e
 rw[<-Array.find?_toList]at e
 unfold PySem.W.lookIn
 rw[hd]
 dsimp only
 split
 ·rename_i y q
  rw[q]at e
  exact congrArg some e
 ·rename_i q
  rw[q]at e
  have a:es.toList.any (·.refKey)=false:=by
   rw[List.any_eq_false]
   intro y hy
   obtain⟨z,t,hkey⟩:=hk y (Array.mem_toList_iff.mp hy)
   simp[DictEntry.refKey,hkey]
  have a':¬ es.toList.any (·.refKey)=true:=by rw[a];exact Yu
  rw[Yc a']
  exact congrArg some e
theorem ObjM.look {h:Heap}{x dx C:Addr}{mA:Str->Option Value} (I:ObjM h x dx C mA):∃od,PySem.W.InstAt h x (PySem.W.instObj C dx) C (some od)/\∀name,PySem.W.lookIn name od=some (mA name) :=
 let ⟨od,ho,hl⟩:=Zm7 I.ns
 ⟨od,⟨I.obj,rfl,rfl,ho⟩,hl⟩
noncomputable def putF (f:Str) (v:V):List (Str×V)->List (Str×V)
 |[]=>[(f,v)]
 |(g,x)::r=>if g=f then (g,v)::r else (g,x)::putF f v r
theorem ZhC.some_of {v:V}{o:Option Value} (r:ZhC (some v) o):∃u,o=some u/\RelV v u:=by
 cases o with
 |none=>exact(show False from r).elim
 |some u=>exact⟨u,rfl,r⟩
section
variable {P:Program}{w:World}{H H':Hp}{h h':Heap}{a C dx:Addr}{fs fs':List (Str×V)}
theorem Zrl (hok:HOk P w H h) (e:H a=some (.ins C dx fs)):∃mA,ObjM h a dx C mA/\(∀f,ZhC (fs.lookup f) (mA f))/\PySem.Within mA (fs.map (·.1))/\fs.length<=1000/\H dx=some (.own a):=by
 obtain⟨d,z,ne,ob,mA,n,r,q⟩:=(show ZQ P w H h a (.ins C dx fs)from hok a _ e)
 exact⟨mA,⟨ob,n,ne⟩,r,q,z,d⟩
end
structure Cls (K:PySem.W.Frag) (C:Addr):Prop where
 pg:PySem.W.plainGet K C Str.empty=true
 hd:PySem.W.hasDictIn K C=true
 po:PySem.W.plainOver K C=true
 sa:PySem.W.findIn K (.ref C) "__setattr__"=some (some (.builtin "object.__setattr__"))
theorem Cls.get {K:PySem.W.Frag}{C:Addr} (c:Cls K C) (f:Str):PySem.W.plainGet K C f=true:=c.pg
section
variable {X:Cx}{pins:List (Addr×Obj)}{σ:St}{H:Hp}{s:Shared}{A:Around}{E:Value->Shared->Prop}{Q:Value->Shared->Prop}{c:Value}{b:Bool}
inductive TyOf (K:PySem.W.Frag) (H:Hp):V->Value->Prop where
 |non:TyOf K H .non (.type "NoneType")
 |bl (x:Bool):TyOf K H (.bl x) (.type "bool")
 |int (i:Int):TyOf K H (.int i) (.type "int")
 |str (x:Str):TyOf K H (.str x) (.type "str")
 |flt (x:UInt64):TyOf K H (.flt x) (.type "float")
 |lst {a:Addr}{xs:List V} (e:H a=some (.lst xs)):TyOf K H (.ref a) (.type "list")
 |frz {a:Addr}{o:Obj}{xs:List V} (e:H a=some (.frz o (.lst xs))):TyOf K H (.ref a) (.type "list")
 |tup {a:Addr}{xs:List V} (e:H a=some (.tup xs)):TyOf K H (.ref a) (.type "tuple")
 |dK {a:Addr}{kvs:List (Key×V)} (e:H a=some (.dK kvs)):TyOf K H (.ref a) (.type "dict")
 |dT {a:Addr}{kvs:List (List Key×V)} (e:H a=some (.dT kvs)):TyOf K H (.ref a) (.type "dict")
 |ins {a C dx:Addr}{fs:List (Str×V)} (e:H a=some (.ins C dx fs)) (cl:Cls K C) (ha:PySem.W.findIn K (.ref C) "__class__"=some (some (.builtin "object.__class__")))
   (hn:PySem.W.specialIn K (.builtin "object.__class__") "__get__"=some (some (.builtin "getset_descriptor.__get__"))) (htk:PySem.W.takesIn K (.builtin "object.__class__")=some true)
   (hm:PySem.W.mroIn K C (.type "object")=some true):TyOf K H (.ref a) (.ref C)
theorem Zm8 {x:V}{u t:Value} (I:Inv X pins σ H s) (rx:RelV x u) (ty:TyOf X.K H x t) (e:PySem.W.kitOne X.K t c=some b) (h:∀tk,Q (.bool b) {s with toks:=tk}) :
  wpAny (model X.prog X.w) A (call (.builtin "isinstance") [u,c]) Q E s:=by
 cases ty with
 |non=>cases(show u=Value.none from rx);exact PySem.W.kia_one PySem.W.kitx_none I.kIn True.intro e (λz=>nomatch z) h
 |bl y=>cases(show u=Value.bool y from rx);exact PySem.W.kia_one PySem.W.kitx_bool I.kIn True.intro e (λz=>nomatch z) h
 |int i=>obtain⟨t,q⟩:=(show ∃t,u=Value.int i t from rx);cases q;exact PySem.W.kia_one PySem.W.kitx_int I.kIn True.intro e (λz=>nomatch z) h
 |str y=>obtain⟨t,q⟩:=(show ∃t,u=Value.str y t from rx);cases q;exact PySem.W.kia_one PySem.W.kitx_str I.kIn True.intro e (λz=>nomatch z) h
 |flt y=>obtain⟨t,q⟩:=(show ∃t,u=Value.float y t from rx);cases q;exact PySem.W.kia_one PySem.W.kitx_float I.kIn True.intro e (λz=>nomatch z) h
 |@lst a xs ea =>
  cases(show u=Value.ref a from rx)
  obtain⟨_,_,n,_,h1⟩:=(show ZQ X.prog X.w H s.heap a (.lst xs)from I.hok a _ ea)
  exact PySem.W.kia_one PySem.W.kitx_list I.kIn ⟨_,h1,rfl⟩ e (λz=>nomatch z) h
 |@frz a ob xs ea =>
  cases(show u=Value.ref a from rx)
  obtain⟨_,_,_,n,_,h1⟩:=(show ZQ X.prog X.w H s.heap a (.frz ob (.lst xs))from I.hok a _ ea)
  exact PySem.W.kia_one PySem.W.kitx_list I.kIn ⟨_,h1,rfl⟩ e (λz=>nomatch z) h
 |@tup a xs ea =>
  cases(show u=Value.ref a from rx)
  obtain⟨_,_,_,p⟩:=(show ZQ X.prog X.w H s.heap a (.tup xs)from I.hok a _ ea)
  obtain⟨o,h1,h2,_⟩:=p
  exact PySem.W.kia_one PySem.W.kitx_tuple I.kIn ⟨o,h1,h2⟩ e (λz=>nomatch z) h
 |@dK a kvs ea =>
  cases(show u=Value.ref a from rx)
  obtain⟨_,_,vs,_,p⟩:=(show ZQ X.prog X.w H s.heap a (.dK kvs)from I.hok a _ ea)
  obtain⟨o,es,ep,h1,h2,_⟩:=p
  exact PySem.W.kia_one PySem.W.kitx_dict I.kIn ⟨o,h1,h2.1⟩ e (λz=>nomatch z) h
 |@dT a kvs ea =>
  cases(show u=Value.ref a from rx)
  obtain⟨_,_,xs,_,o,es,ep,h1,h2,_⟩:=(show ZQ X.prog X.w H s.heap a (.dT kvs)from I.hok a _ ea)
  exact PySem.W.kia_one PySem.W.kitx_dict I.kIn ⟨o,h1,h2.1⟩ e (λz=>nomatch z) h
 |@ins a C dx fs ea cl ha hn htk hm =>
  cases(show u=Value.ref a from rx)
  obtain⟨mA,O,_⟩:=Zrl I.hok ea
  obtain⟨od,J,_⟩:=O.look
  exact PySem.W.kia_one (PySem.W.kitx_own (cl.get _) cl.hd ha hn htk hm) I.kIn J e (λz=>nomatch z) h
end
structure Room (k:Nat) (A:Around):Prop where
 hd:A.handled=none
 dp:A.depth+3*k+5<recursionLimit
 un:A.units+16*k+200<cLine
theorem Room.mono {j k:Nat}{A:Around} (r:Room k A) (h:j<=k):Room j A:=⟨r.hd,by have:=r.dp;omega,by have:=r.un;omega⟩
theorem Room.deeper {k:Nat}{A:Around} (r:Room (k+1) A) (env:Env):Room k (A.deeper env) :=
 ⟨r.hd,by have:=r.dp;show A.depth+1+3*k+5 < _;omega,by have:=r.un;show A.units+3+16*k+200 < _;omega⟩
theorem Room.depth {k:Nat}{A:Around} (r:Room k A):A.depth<recursionLimit:=by have:=r.dp;omega
theorem Room.units {k:Nat}{A:Around} (r:Room k A):A.units+64<cLine:=by have:=r.un;omega
noncomputable def tNil:TA:=λ_ H Q=>Q [] H
noncomputable def tCons (ta:TE) (tr:TA):TA:=fun σ H Q=>ta σ H λx H1=>tr σ H1 λxs H2=>Q (x::xs) H2
section
variable {X:Cx}{e:Expr}{es:List Expr}{te:TE}{t:TA}{pos:Pos}
theorem Zb:PA X [] tNil:=λ_ _ _ _ H Q I h=>Calls.spliced_nil ⟨[],H,I,.nil,h⟩
theorem Za (ha:PE X e te) (hr:PA X es t) (hs:starEach (e::es) X.env=(false,eval e X.env)::starEach es X.env:=by rfl):PA X (e::es) (tCons te t):=by
 intro pos pins s σ H Q I h
 rw[hs]
 show wpAny _ _ (spliced ((false,eval e X.env)::backTo pos (starEach es X.env))) _ _ s
 refine Calls.spliced_cons (thn (ha pins s σ H _ I h) λu s1 ⟨x,H1,I1,r1,q1⟩=>?_)
 exact thn (hr pos pins s1 σ H1 _ I1 q1) λus s2 ⟨xs,H2,I2,r2,q2⟩=>⟨x::xs,H2,I2,.cons r1 r2,q2⟩
noncomputable def tTup (t:TA):TE:=fun σ H Q=>t σ H λxs H1=>xs.length<=sizeLine/\∀p,H1 p=none->Q (.ref p) (upd H1 p (.tup xs))
noncomputable def tLst (t:TA):TE:=fun σ H Q=>t σ H λxs H1=>xs.length<=sizeLine/\∀p,H1 p=none->Q (.ref p) (upd H1 p (.lst xs))
theorem Za4 {x1} (h:PA X es t):PE X (.Tuple es x1 pos) (tTup t):=by
 intro pins s σ H Q I hq
 refine wpAny_Tuple_spliced (thn (h pos pins s σ H _ I hq) λus s1 ⟨xs,H1,I1,r,z,q⟩=>⟨by rw[<-r.length];exact z,?_⟩)
 have hf:H1 s1.heap.objs.size=none:=I1.hok.fresh (Ye _)
 refine⟨.ref s1.heap.objs.size,upd H1 s1.heap.objs.size (.tup xs),I1.laid (t':=s1.toks) (λb u e=>Yl _ e) (Ye _) ?_,rfl,q _ hf⟩
 exact⟨z,us,r,⟨_,Ys _ rfl,rfl,_,rfl⟩⟩
theorem ZaT (h:PA X es t):PE X (.List es pos) (tLst t):=by
 intro pins s σ H Q I hq
 refine wpAny_List_spliced (thn (h pos pins s σ H _ I hq) λus s1 ⟨xs,H1,I1,r,z,q⟩=>⟨by rw[<-r.length];exact z,?_⟩)
 have hf:H1 s1.heap.objs.size=none:=I1.hok.fresh (Ye _)
 refine⟨.ref s1.heap.objs.size,upd H1 s1.heap.objs.size (.lst xs),I1.laid (t':=s1.toks) (λb u e=>Yl _ e) (Ye _) ?_,rfl,q _ hf⟩
 exact⟨z,us,0,r,Ys _ rfl⟩
end
noncomputable abbrev Sp:=List V->Hp->VK->XK->Prop
noncomputable abbrev CXT:=List Env->Hp->Shared->XK->Value->Shared->Prop
structure Env0 (P:Program) (w:World) (K:PySem.W.Frag) (mg:Str->Option Value) (base:Heap) (A:Around) (outer:List Env) (s:Shared) (H:Hp):Prop where
 frames:A.frames=some outer
 mod:Mod K mg base
 bs:∀b o,base.get? b=some o->s.heap.get? b=some o/\H b=none
 bsz:base.objs.size<=s.heap.objs.size
 funs:s.heap.FunFrames base outer
 frf:∀b∈frs outer,H b=none
 hok:HOk P w H s.heap
 bare:AllBare s.gens
noncomputable def CE (outer:List Env) (P:Program) (w:World) (H:Hp) (s:Shared) (Q:VK) (u:Value) (s':Shared):Prop :=
 ∃v H',s'.os=s.os/\AllBare s'.gens/\Un (frs outer) [] H H' s.heap s'.heap/\HOk P w H' s'.heap/\RelV v u/\Q v H'
noncomputable def CR (CX:CXT) (outer:List Env) (P:Program) (w:World) (H:Hp) (s:Shared) (Q:VK) (E:XK) (r:Result) (s':Shared):Prop :=
 match r with
 |.ok (.ret u)=>CE outer P w H s Q u s'
 |.ok _=>False
 |.error e=>CX outer H s E e s'
structure FnOk (P:Program) (w:World) (K:PySem.W.Frag) (mg:Str->Option Value) (base:Heap) (CX:CXT) (k:Nat) (f:Addr) (fd:FuncData) (ps:List Str) (sp:Sp):Prop where
 len:∀vs H Q E,sp vs H Q E->vs.length=ps.length
 run:∀(A:Around) (outer:List Env) (s:Shared) (H:Hp) (args:Args) (us:List Value) (vs:List V) (Q:VK) (E:XK),Room k A->Env0 P w K mg base A outer s H->BindsTo s fd args (ps.zip us)->Vals vs us->sp vs H Q E ->
  codeAny (model P w) A (.call (.ref f) args) (CR CX outer P w H s Q E) s
section
variable {X:Cx}{pins:List (Addr×Obj)}{σ:St}{H:Hp}{s s':Shared}
theorem Inv.env0 (I:Inv X pins σ H s):Env0 X.prog X.w X.K X.mg X.base X.A X.stack s H :=
 ⟨I.ok.frames,I.ok.mod,I.bs,Yi I.ok.bsz I.sz,I.stack,I.Zht,I.hok,I.bare⟩
theorem Inv.after {Q:VK}{u:Value} (I:Inv X pins σ H s) (h:CE X.stack X.prog X.w H s Q u s'):EP X pins σ Q u s':=by
 obtain⟨v,H',os,bare,un,hok,r,q⟩:=h
 obtain⟨hh,g,d,t,os'⟩:=s'
 obtain rfl:os'=s.os:=os
 exact⟨v,H',I.call (h':=hh) (g':=g) (d':=d) (t':=t) (ch:=[]) un hok bare (λb z=>absurd z (by simp)),r,q⟩
end
noncomputable def tCall (sp:Sp) (dvs:List V) (E:XK) (t:TA):TE:=fun σ H Q=>t σ H λvs H1=>sp (vs++dvs) H1 Q E
noncomputable def Binds (K:PySem.W.Frag) (fd:FuncData) (ps:List Str) (ds:List Value):Prop :=
 ∀(s:Shared) (us:List Value),K.In s.heap->(us++ds).length=ps.length->BindsTo s fd ⟨us,[]⟩ (ps.zip (us++ds))
theorem Binds.all {K:PySem.W.Frag}{fd:FuncData}{ps:List Str} (h:∀us:List Value,us.length=ps.length->bindArgs fd ⟨us,[]⟩=pure (ps.zip us)):Binds K fd ps []:=λs us _ hl=>by
 rw[List.append_nil]at hl⊢
 exact .of_eq (h us hl)
noncomputable def Passes (CX:CXT) (X:Cx) (E:XK):Prop:=∀(pins:List (Addr×Obj)) (σ:St) (H:Hp) (s:Shared) (e:Value) (s':Shared),Inv X pins σ H s->CX X.stack H s E e s'->X.xe e s'
section
variable {X:Cx}{CX:CXT}{k:Nat}{f C:Addr}{fd:FuncData}{ps:List Str}{sp:Sp}{dvs:List V}{ds:List Value}{E:XK}{x m:Str}{p pos apos:Pos}{e o:Expr}{es:List Expr}{ta:TE}{t:TA}
theorem run_fn {pins:List (Addr×Obj)}{σ:St}{H:Hp}{s:Shared}{Q:VK}{us:List Value}{vs:List V} (F:FnOk X.prog X.w X.K X.mg X.base CX k f fd ps sp) (hr:Room k X.A) (hb:Binds X.K fd ps ds) (hd:Vals dvs ds) (hx:Passes CX X E)
  (I:Inv X pins σ H s) (r:Vals vs us) (h:sp (vs++dvs) H Q E):wpAny (model X.prog X.w) X.A (call (.ref f) us) (EP X pins σ Q) X.xe s:=by
 have r2:Vals (vs++dvs) (us++ds):=r.append hd
 have hl:(us++ds).length=ps.length:=by rw[<-r2.length];exact F.len _ _ _ _ h
 refine wpAny_call (codeAny_mono (F.run X.A X.stack s H ⟨us,[]⟩ (us++ds) (vs++dvs) Q E hr I.env0 (hb s us I.kIn hl) r2 h) λr s' hq=>?_)
 cases r with
 |error e=>exact hx pins σ H s e s' I hq
 |ok fl =>
  cases fl with
  |ret u=>exact I.after hq
  |next=>exact False.elim hq
  |brk=>exact False.elim hq
  |cont=>exact False.elim hq
theorem Zrm (F:FnOk X.prog X.w X.K X.mg X.base CX k f fd ps sp) (hr:Room k X.A) (hg:Gl X x) (hm:X.mg x=some (.ref f)) (hk:PySem.W.keepIn X.K (.ref f)=true) (hb:Binds X.K fd ps ds) (hd:Vals dvs ds) (hx:Passes CX X E)
  (ha:PA X (e::es) t) (hdb:(x==("__debug__":Str))=false:=by decide) (he:starEach (e::es) X.env=(false,eval e X.env)::starEach es X.env:=by rfl) (hpl:(backTo pos (starEach es X.env)).any (·.1)=false:=by rfl) :
  PE X (.Call (.Name x p) (e::es) [] pos) (tCall sp dvs E t):=by
 intro pins s σ H Q I h
 refine wpAny_Call_Name_kw (ZjL I hg hm ?_ hdb)
 refine PySem.W.callWith_K (h₀:=X.base) I.ok.mod.kin hk (thn (ha pos pins s σ H _ I h) λus s1 ⟨vs,H1,I1,r,q⟩=>⟨I1.kIn,?_⟩) he hpl
 exact run_fn F hr hb hd hx I1 r q
end
noncomputable def PK (X:Cx) (kws:List Keyword) (t:TA):Prop :=
 ∀(pos:Pos) (pins:List (Addr×Obj)) (s:Shared) (σ:St) (H:Hp) (Q:List V->Hp->Prop),Inv X pins σ H s->t σ H Q->wpAny (model X.prog X.w) X.A (evalAll ((backToKw pos (keywordEach kws X.env)).map (·.2))) (AP X pins σ Q) X.xe s
section
variable {X:Cx}{CX:CXT}{k:Nat}{f C:Addr}{fd:FuncData}{ps ks:List Str}{sp:Sp}{E:XK}{x m:Str}{p pos apos kpos:Pos}{e o:Expr}{es:List Expr}{kws:List Keyword}{te ta:TE}{t tk:TA}{nm:Option Str}
theorem ZoW:PK X [] tNil:=λ_ _ _ _ H Q I h=>wpAny_evalAll_nil ⟨[],H,I,.nil,h⟩
theorem ZmA (ha:PE X e te) (hr:PK X kws t):PK X (⟨nm,e,kpos⟩::kws) (tCons te t):=by
 intro pos pins s σ H Q I h
 show wpAny _ _ (evalAll ((do let v <-eval e X.env;standAt pos;pure v)::(backToKw pos (keywordEach kws X.env)).map (·.2))) _ _ s
 refine wpAny_evalAll_cons (Ya (thn (ha pins s σ H _ I h) λu s1 ⟨x,H1,I1,r1,q1⟩=>Ya (wpAny_standAt (Yb ?_))))
 exact thn (hr pos pins s1 σ H1 _ I1 q1) λus s2 ⟨xs,H2,I2,r2,q2⟩=>⟨x::xs,H2,I2,.cons r1 r2,q2⟩
variable {g:List Value->List Value->List Value}{gV:List V->List V->List V}
end
structure FnScope (N P:List Str) (sc:Scope):Prop where
 kind:sc.kind=.function
 co:sc.isCoroutine=false
 gen:sc.isGenerator=false
 nd:N.Nodup
 pre:N.take P.length=P
 par:∀x∈P,sc.names.lookup x=some .local\/sc.names.lookup x=some .cell
 nofree:∀y∈sc.names,y.2≠.free
theorem Zjf {kindOf:Str->Option NameKind}{x:Str}:∀{binds:List (Str×Value)}{m:Str->Option Value},(∀v,(x,v)∉binds)->bindL kindOf binds m x=m x
 |[],_,_=>rfl
 |(n,v)::r,m,h=>by
  unfold bindL
  rw[Zjf λw hw=>h w (YW _ hw)]
  split
  ·have:x≠n:=by rintro rfl;exact h v Y1
   simp[this]
  ·rfl
theorem Zjg {kindOf:Str->Option NameKind}{x:Str}:∀{binds:List (Str×Value)}{m:Str->Option Value},(∀v,(x,v)∉binds)->bindC kindOf binds m x=m x
 |[],_,_=>rfl
 |(n,v)::r,m,h=>by
  unfold bindC
  rw[Zjg λw hw=>h w (YW _ hw)]
  split
  ·rfl
  ·have:x≠n:=by rintro rfl;exact h v Y1
   simp[this]
theorem Zjh {kindOf:Str->Option NameKind}{x:Str}{v:Value}:∀{P:List Str}{vs:List Value}{i:Nat}{m:Str->Option Value},P.Nodup->P[i]?=some x->vs[i]?=some v->kindOf x=some .local ->
  bindL kindOf (P.zip vs) m x=some v
 |[],_,_,_,_,h,_,_=>by simp at h
 |_::_,[],_,_,_,_,h,_=>by simp at h
 |p::P,w::vs,0,m,nd,h1,h2,hk=>by
  simp at h1 h2;subst h1;subst h2
  show bindL kindOf ((p,w)::P.zip vs) m p=_
  unfold bindL
  rw[Zjf λv hv=>(List.nodup_cons.mp nd).1 (List.of_mem_zip hv).1,Yd hk]
  simp
 |p::P,w::vs,i+1,m,nd,h1,h2,hk=>by
  show bindL kindOf ((p,w)::P.zip vs) m x=_
  unfold bindL
  exact Zjh (i:=i) (List.nodup_cons.mp nd).2 (by simpa using h1) (by simpa using h2) hk
theorem Zji {kindOf:Str->Option NameKind}{x:Str}{v:Value}:∀{P:List Str}{vs:List Value}{i:Nat}{m:Str->Option Value},P.Nodup->P[i]?=some x->vs[i]?=some v->kindOf x≠some .local ->
  bindC kindOf (P.zip vs) m x=some v
 |[],_,_,_,_,h,_,_=>by simp at h
 |_::_,[],_,_,_,_,h,_=>by simp at h
 |p::P,w::vs,0,m,nd,h1,h2,hk=>by
  simp at h1 h2;subst h1;subst h2
  show bindC kindOf ((p,w)::P.zip vs) m p=_
  unfold bindC
  rw[Zjg λv hv=>(List.nodup_cons.mp nd).1 (List.of_mem_zip hv).1,Yc hk]
  simp
 |p::P,w::vs,i+1,m,nd,h1,h2,hk=>by
  show bindC kindOf ((p,w)::P.zip vs) m x=_
  unfold bindC
  exact Zji (i:=i) (List.nodup_cons.mp nd).2 (by simpa using h1) (by simpa using h2) hk
noncomputable def start (N:List Str) (vs:List V):St:=vs.map some++List.replicate (N.length-vs.length) none
noncomputable def ZfE (CX:CXT) (P:Program) (w:World) (K:PySem.W.Frag) (mg:Str->Option Value) (base:Heap) (N:List Str) (qual:Str) (scope:Scope) (f:Addr) (cd:Value) (A:Around) (outer:List Env) (s:Shared) (H:Hp) (E:XK):Cx where
 prog:=P
 w:=w
 K:=K
 mg:=mg
 base:=base
 A:=A.deeper (envOfC qual scope s.heap.objs.size f cd)
 N:=N
 s₀:=s
 H₀:=H
 env:=envOfC qual scope s.heap.objs.size f cd
 outer:=outer
 stack:=envOfC qual scope s.heap.objs.size f cd::outer
 ex:=[]
 calm:=true
 fn:=λ_=>true
 pn:=[]
 xe:=λe s'=>wpAny (model P w) (A.deeper (envOfC qual scope s.heap.objs.size f cd)) (leaving (envOfC qual scope s.heap.objs.size f cd) e) (λ_ s''=>CX outer H s E e s'') (λe' s''=>CX outer H s E e' s'') s'
theorem ZkK {sc:Scope}{n:Nat}{x:Str} (h:sc.names.lookup x=some .cell):∃c,(cellsFrom n sc.names []).lookup x=some c:=by
 have q:=PySem.W.cellsFrom_some sc.names n [] (.inl h)
 exact Option.isSome_iff_exists.mp q
theorem Zm9 {CX:CXT}{P:Program}{w:World}{K:PySem.W.Frag}{mg:Str->Option Value}{base:Heap}{N ps:List Str}{qual:Str}{scope:Scope}{f:Addr}{cd:Value}{A:Around}{outer:List Env}{s s1:Shared}{H:Hp}{E:XK}{us:List Value}{vs:List V}
  (S:FnScope N ps scope) (hd:A.handled=none) (e0:Env0 P w K mg base A outer s H) (hl:vs.length=ps.length) (r:Vals vs us)
  (x:InCallC s s.heap.objs.size (bindL (envOfC qual scope s.heap.objs.size f cd).kindOf (ps.zip us) λ_=>none) (cellsFrom (s.heap.objs.size+1) scope.names []) (bindC (envOfC qual scope s.heap.objs.size f cd).kindOf (ps.zip us) λ_=>none) s1) :
  Inv (ZfE CX P w K mg base N qual scope f cd A outer s H E) [] (start N vs) H s1:=by
 have hpl:ps.length<=N.length:=by have:=congrArg List.length S.pre;rw[YR]at this;omega
 obtain⟨h1,tk,rfl,hk⟩:=x.done
 have noA:∀b:Addr,b∉(ZfE CX P w K mg base N qual scope f cd A outer s H E).ex:=λb z=>absurd (show b∈([]:List Addr)from z) (by simp)
 refine⟨⟨e0.mod,S.kind,rfl,rfl,Ye _,λy z c h1 h2=>?_,λy hy=>?_,λy c _ h=>?_,λ_=>hd,Around.frames_deeper e0.frames,.inr ⟨rfl,rfl⟩,λb z=>absurd z (noA b),e0.bs,e0.bsz,λb _ _=>noA b,λb z=>absurd z (noA b),e0.funs,e0.frf⟩,
  rfl,e0.bare,Un.kept hk,⟨_,x.toInCall.ns,λi y v h1 h2 h3=>?_⟩,λy c h=>⟨_,x.cell y c h⟩,e0.hok.fresh (Ye _),λy c h=>?_,λp hp=>absurd (show p∈([]:List (Addr×Obj))from hp) (by simp),e0.hok.kept hk,?_⟩
 ·exact name_of_addr x.apart (PySem.mem_of_lookup h1) (PySem.mem_of_lookup h2)
 ·have hy:scope.names.lookup y=some .cell\/scope.names.lookup y=some .free:=hy
  rcases hy with hy|hy
  ·exact ZkK hy
  ·exact absurd rfl (S.nofree _ (PySem.mem_of_lookup hy))
 ·exact YV (x.above y c (PySem.mem_of_lookup h))
 ·have hi:i<vs.length:=by
   unfold start at h2
   by_cases hi:i<vs.length
   ·exact hi
   ·rw[Y2 (by simpa using hi)]at h2
    rw[List.getElem?_replicate]at h2
    split at h2<;>cases h2
  have ha:vs[i]?=some v:=by
   unfold start at h2
   rw[Y7 (by simpa using hi),Yx]at h2
   cases e:vs[i]? with
   |none=>rw[e]at h2;cases h2
   |some a=>rw[e]at h2;cases h2;rfl
  obtain⟨u,hu,rv⟩:=r.get ha
  have hp:ps[i]?=some y:=by
   rw[<-S.pre,List.getElem?_take_of_lt (by omega)];exact h1
  have ndP:ps.Nodup:=by rw[<-S.pre];exact S.nd.sublist (List.take_sublist _ _)
  refine⟨u,rv,?_⟩
  rcases S.par y (List.mem_of_getElem? hp)with k|k
  ·exact .inl ⟨k,Zjh ndP hp hu k⟩
  ·obtain⟨c,e⟩:=ZkK (n:=s.heap.objs.size+1) k
   refine .inr ⟨.inl k,c,e,?_⟩
   have q:=x.cell y c e
   rw[Zji ndP hp hu (by show scope.names.lookup y≠_;rw[k];decide)]at q
   exact q
 ·exact e0.hok.fresh (YV (x.above y c (PySem.mem_of_lookup h)))
 ·unfold start
  show _=N.length
  rw[YB,Yg,List.length_replicate]
  omega
theorem ZoX {CX:CXT}{P:Program}{w:World}{K:PySem.W.Frag}{mg:Str->Option Value}{base:Heap}{k:Nat}{f:Addr}{name qual:Str}{params:Arguments}{body:List Stmt}{scope:Scope}{dV kV doc pm cdv ct oc:Value}{an od:Option Addr}
  {osl:Array (Option Value)}{N ps:List Str}{sp:Sp} (lk:K.lookup f=some ⟨oc,od,.func (PySem.W.fnOf name qual params body scope dV kV doc pm an cdv ct),osl⟩) (hcd:PySem.W.codeIn K cdv qual=true) (S:FnScope N ps scope)
  (len:∀vs H Q E,sp vs H Q E->vs.length=ps.length)
  (hbody:∀(A:Around) (outer:List Env) (s:Shared) (H:Hp) (vs:List V) (Q:VK) (E:XK),Room k (A.deeper (envOfC qual scope s.heap.objs.size f cdv))->sp vs H Q E ->
   ∃t,PSs (ZfE CX P w K mg base N qual scope f cdv A outer s H E) body t/\t {nx:=λ_ H'=>Q .non H',rt:=Q} (start N vs) H) :
  FnOk P w K mg base CX (k+1) f (PySem.W.fnOf name qual params body scope dV kV doc pm an cdv ct) ps sp:=by
 refine⟨len,λA outer s H args us vs Q E hr e0 hb r hsp=>?_⟩
 have hl:=len _ _ _ _ hsp
 have KX:K.In s.heap:=e0.mod.kin.keeps λb o e=>(e0.bs b o e).1
 have lim:s.heap.NoLimit:=e0.mod.nolimit.keeps λb o e=>(e0.bs b o e).1
 have hkind:∀y∈ps.zip us,scope.names.lookup y.1=some .local\/(scope.names.lookup y.1=some .cell/\((cellsFrom (s.heap.objs.size+1) scope.names []).lookup y.1).isSome=true):=λ⟨n,v⟩ hy=>by
  rcases S.par n (List.of_mem_zip hy).1 with q|q
  ·exact .inl q
  ·exact .inr ⟨q,PySem.W.cellsFrom_some _ _ _ (.inl q)⟩
 refine codeAny_call_function hr.depth (KX _ _ lk) rfl S.co S.gen rfl (PySem.W.codeRec_of KX hcd) (hb _ _ _ _ ?_)
 refine wpAny_newFunctionEnv_cells S.kind hkind λenv he s1 x=>?_
 subst he
 refine⟨lim.keeps x.toInCall.keep,codeAny_func ?_⟩
 obtain⟨t,ht,hq⟩:=hbody A outer s H vs Q E (hr.deeper _) hsp
 have I:Inv (ZfE CX P w K mg base N qual scope f cdv A outer s H E) [] (start N vs) H s1:=Zm9 S hr.hd e0 hl r x
 refine Yt (ht [] s1 (start N vs) H _ I hq) (λfl s' hs=>?_) λe s' hs=>hs
 have fin:∀{σ':St}{H':Hp}{v:V}{u:Value},Inv (ZfE CX P w K mg base N qual scope f cdv A outer s H E) [] σ' H' s'->RelV v u->Q v H'->CE outer P w H s Q u s' :=
  λ{σ' H' v u} J rv q=>⟨v,H',J.os,J.bare,J.base,J.hok,rv,q⟩
 cases fl with
 |ret u =>
  obtain⟨v,σ',H',J,rv,q⟩:=hs
  exact fin J rv q
 |next =>
  obtain⟨σ',H',J,q⟩:=hs
  exact fin (v:=V.non) (u:=Value.none) J rfl q
 |brk =>
  obtain⟨_,_,_,q⟩:=hs
  exact False.elim q
 |cont =>
  obtain⟨_,_,_,q⟩:=hs
  exact False.elim q
section
variable {X:Cx}{x:Str}{p pos:Pos}{e:Expr}{es:List Expr}{t:TA}{id T:String}{r:List V->Hp->VK->Prop}
noncomputable def tCB (r:List V->Hp->VK->Prop) (t:TA):TE:=fun σ H Q=>t σ H λvs H1=>r vs H1 Q
theorem Zm (hc:Zcg X (.builtin id) r) (hg:Gl X x) (hm:X.mg x=none) (hv:bootBuiltins x=some (.builtin id)) (ha:PA X (e::es) t) (hn:x≠"__name__":=by decide) (hdb:(x==("__debug__":Str))=false:=by decide)
  (he:starEach (e::es) X.env=(false,eval e X.env)::starEach es X.env:=by rfl) (hpl:(backTo pos (starEach es X.env)).any (·.1)=false:=by rfl):PE X (.Call (.Name x p) (e::es) [] pos) (tCB r t):=by
 intro pins s σ H Q I h
 refine wpAny_Call_Name_kw (Zdf I hg hm hv ?_ hn hdb)
 exact PyProof.Rows.callWith_builtin1 (thn (ha pos pins s σ H _ I h) λus s1 ⟨vs,H1,I1,r1,q1⟩=>hc pins s1 σ H1 vs us Q I1 r1 q1) he hpl
theorem Z1 (hc:Zcg X (.type T) r) (hg:Gl X x) (hm:X.mg x=none) (hv:bootBuiltins x=some (.type T)) (ha:PA X (e::es) t) (hn:x≠"__name__":=by decide) (hdb:(x==("__debug__":Str))=false:=by decide)
  (he:starEach (e::es) X.env=(false,eval e X.env)::starEach es X.env:=by rfl) (hpl:(backTo pos (starEach es X.env)).any (·.1)=false:=by rfl):PE X (.Call (.Name x p) (e::es) [] pos) (tCB r t):=by
 intro pins s σ H Q I h
 refine wpAny_Call_Name_kw (Zdf I hg hm hv ?_ hn hdb)
 exact PyProof.Rows.callWith_type1 (thn (ha pos pins s σ H _ I h) λus s1 ⟨vs,H1,I1,r1,q1⟩=>hc pins s1 σ H1 vs us Q I1 r1 q1) he hpl
end
end L2
namespace HT
open PySem PyProof.Rows
section
open PySem.SeqAt
open PySem.AutoSeq1 (wpAny_loadPart')
open PySem.MeetsSeq PySem.MeetsSeq2 PySem.MeetsSeq3
end
section
variable {prog:Program}{w:World}{A:Around}{E:Value->Shared->Prop}{s:Shared}
theorem Zrn {t b:Addr}{vs ws:List Value}{Q:Value->Shared->Prop} (ht:IsTup s.heap t vs.toArray) (hb:IsTup s.heap b ws.toArray) (hv:vs≠[])
  (h1:ws=[]->Q (.ref t) s) (h2:ws≠[]->Q (.ref s.heap.objs.size) {s with heap:=s.heap.push {cls:=.type "tuple",data:=.seq (vs++ws).toArray}})
  (hsz:vs.length+ws.length<=sizeLine):wpAny (model prog w) A (binaryOp .Add (.ref t) (.ref b)) Q E s:=by
 obtain⟨⟨cls,dd,data,sl⟩,ho,hc,n,hd⟩:=id ht
 obtain⟨⟨cls2,dd2,data2,sl2⟩,ho2,hc2,n2,hd2⟩:=id hb
 simp only at hc hd hc2 hd2
 subst hc hd hc2 hd2
 have e:vs.toArray++ws.toArray=(vs++ws).toArray:=by simp
 by_cases hw:ws=[]
 ·exact concat_meets ⟨_,ho,rfl⟩ ⟨_,ho2,rfl⟩ noFill_tuple_add seq_tuple_add PySem.F.slot_tuple_add PySem.F.entry_tuple_add (PySem.F.args_tuple_add_2 _ _)
   (tuple_addW1 t b vs.toArray ws.toArray n n2 dd dd2 sl sl2 (by simpa using hv) (by simp[hw])) ⟨ho,ho2,h1 hw⟩
 ·refine concat_meets ⟨_,ho,rfl⟩ ⟨_,ho2,rfl⟩ noFill_tuple_add seq_tuple_add PySem.F.slot_tuple_add PySem.F.entry_tuple_add (PySem.F.args_tuple_add_2 _ _)
   (tuple_addW2 t b vs.toArray ws.toArray n n2 dd dd2 sl sl2 (by simpa using hv) (by simpa using hw) (by rw[Yn,Yn];exact hsz)) ⟨ho,ho2,?_⟩
  rw[e]
  exact h2 hw
noncomputable def sIx (n d:Nat):Option Int->Nat
 |none=>d
 |some v=>if v<0 then (v+(n:Int)).toNat else min v.toNat n
theorem ZmB (n d k:Nat):sIx n d (some (k:Int))=min k n:=by
 show(if (k:Int)<0 then ((k:Int)+(n:Int)).toNat else min (k:Int).toNat n)=min k n
 rw[Yc (by omega),YL]
theorem sIx_le (n d:Nat) (hd:d<=n) (o:Option Int):sIx n d o<=n:=by
 cases o with
 |none=>exact hd
 |some v =>
  show(if v<0 then (v+(n:Int)).toNat else min v.toNat n)<=n
  by_cases hv:v<0
  ·rw[Yd hv];omega
  ·rw[Yc hv];exact Nat.min_le_right _ _
theorem ZmC (v:Int) (n d:Nat):(if v<0 then max (v+(n:Int)) 0 else min v (n:Int))=((sIx n d (some v):Nat):Int):=by
 show(if v<0 then max (v+(n:Int)) 0 else min v (n:Int))=(((if v<0 then (v+(n:Int)).toNat else min v.toNat n):Nat):Int)
 by_cases hv:v<0
 ·simp only[Yd hv];omega
 ·simp only[Yc hv];omega
theorem ZlK (lo hi:Option Int) (n:Nat):Builtin.Slice.sliceAdjust lo hi 1 (n:Int)=(((sIx n 0 lo:Nat):Int),((sIx n n hi:Nat):Int)):=by
 have h1:¬ ((1:Int)<0):=by omega
 unfold Builtin.Slice.sliceAdjust
 simp only[h1,if_false]
 refine Prod.ext ?_ ?_
 ·cases lo with
  |none=>rfl
  |some v=>exact ZmC v n 0
 ·cases hi with
  |none=>rfl
  |some v=>exact ZmC v n n
theorem ZlL (i j:Nat):Builtin.Slice.slicePlaces (i:Int) (j:Int) 1=j-i:=by
 unfold Builtin.Slice.slicePlaces
 have h1:(1:Int)>0:=by omega
 simp only[h1,if_true,Int.ediv_one]
 split<;>omega
theorem ZhI {v:Value}{o:Option Int}{Q:Option Int->Shared->Prop} (p:IsPart v o) (h:Q o s):wpAny (model prog w) A (Builtin.Slice.slicePartIndex v) Q E s:=by
 cases p with
 |none=>exact slicePart_none h
 |int i t=>exact slicePart_int h
theorem Zgv {sl:Addr}{vl vu:Value}{lo hi:Option Int}{n:Nat}{Q:Int×Int×Nat->Shared->Prop} (hs:s.heap.IsSliceOf sl vl vu .none) (pl:IsPart vl lo) (pu:IsPart vu hi)
  (h:Q (((sIx n 0 lo:Nat):Int),1,sIx n n hi-sIx n 0 lo) s):wpAny (model prog w) A (Builtin.Slice.sliceApplied (.ref sl) (pure (n:Int))) Q E s:=by
 obtain⟨os,hos,hcs,hds⟩:=id hs
 unfold Builtin.Slice.sliceApplied Builtin.Slice.sliceFields
 refine Ya (Ya (wpAny_field hos hds (x:=vl) rfl (Ya (wpAny_field hos hds (x:=vu) rfl (Ya (wpAny_field hos hds (x:=.none) rfl (Yb ?_)))))))
 refine Ya (slicePart_none ?_)
 show wpAny _ _ (if ((1:Int)==0)=true then _ else _) _ _ s
 rw[Yc (by decide)]
 refine Ya (ZhI pl (Ya (ZhI pu (Ya (Yb ?_)))))
 show wpAny _ _ (match Builtin.Slice.sliceAdjust lo hi 1 (n:Int)with|(lo,hi)=>pure (lo,(1:Int),Builtin.Slice.slicePlaces lo hi 1)) _ _ s
 rw[ZlK lo hi n]
 show wpAny _ _ (pure (((sIx n 0 lo:Nat):Int),(1:Int),Builtin.Slice.slicePlaces ((sIx n 0 lo:Nat):Int) ((sIx n n hi:Nat):Int) 1)) _ _ s
 rw[ZlL]
 exact Yb h
theorem ZoY (xs:Array Value) (i k:Nat):((List.range k).filterMap λ(m:Nat)=>xs[((i:Int)+(m:Int)*1).toNat]?).toArray=((xs.toList.drop i).take k).toArray:=by
 have e:(λ(m:Nat)=>xs[((i:Int)+(m:Int)*1).toNat]?)=λm=>xs[i+m]?:=by
  funext m
  have:((i:Int)+(m:Int)*1).toNat=i+m:=by omega
  rw[this]
 rw[e]
 have:=pick_run xs i k
 rw[List.filterMap_map]at this
 have e2:((λx=>xs[x]?) ∘ λx=>i+x)=λm=>xs[i+m]?:=rfl
 rw[e2]at this
 rw[this]
theorem Zf1 {t sl:Addr}{items:Array Value}{vl vu:Value}{lo hi:Option Int}{Q:Value->Shared->Prop} (ht:IsTup s.heap t items) (hs:s.heap.IsSliceOf sl vl vu .none) (pl:IsPart vl lo) (pu:IsPart vu hi)
  (hw:¬ (sIx items.size 0 lo=0/\sIx items.size items.size hi=items.size))
  (h:Q (.ref s.heap.objs.size) {s with heap:=s.heap.push {cls:=.type "tuple",data:=.seq ((items.toList.drop (sIx items.size 0 lo)).take (sIx items.size items.size hi-sIx items.size 0 lo)).toArray}})
  (hsz:items.size<=sizeLine):wpAny (model prog w) A (getItem (.ref t) (.ref sl)) Q E s:=by
 have htake:sizeOk (.seq ((items.toList.drop (sIx items.size 0 lo)).take (sIx items.size items.size hi-sIx items.size 0 lo)).toArray):=by
  show((items.toList.drop (sIx items.size 0 lo)).take (sIx items.size items.size hi-sIx items.size 0 lo)).toArray.size<=sizeLine
  rw[Yn,YR,Y3,YK]
  omega
 have hj:sIx items.size items.size hi<=items.size:=sIx_le _ _ (Ye _) hi
 obtain⟨os,hos,hcs,hds⟩:=id hs
 have hTs:s.TypeIs (.ref sl) "slice":=⟨os,hos,hcs⟩
 unfold getItem
 try with_reducible refine wpAny_holding ?_
 first|refine Ya (Yb ?_)|skip
 refine Ya (wpAny_sequenceKey ht.typeIs (by decide) ?_)
 refine Ya (wpAny_callSpecial?_slot (name:=Str.ofString "__getitem__") ht.typeIs PyProof.Rows.slot_tuple_getitem
  (wpAny_call_entry PyProof.Rows.slot_tuple_getitem ht.typeIs entry_tuple_getitem ?_ (args_tuple_getitem _ _)))
 show wpAny _ _ (Builtin.Tuple.tupleItemsOf (.ref t) >>= _) _ _ s
 refine Ya (tupleItemsOf_ ht ?_)
 refine Ya (wpAny_typeOf hTs ?_)
 rw[Yd (by decide)]
 refine Ya (Zgv hs pl pu ?_)
 have hno:¬ ((((sIx items.size 0 lo:Nat):Int)==0&&(1:Int)==1&&(sIx items.size items.size hi-sIx items.size 0 lo)==items.size)=true):=by
  intro q
  rw[Bool.and_eq_true,Bool.and_eq_true]at q
  have q1:((sIx items.size 0 lo:Nat):Int)=0:=eq_of_beq q.1.1
  have q2:sIx items.size items.size hi-sIx items.size 0 lo=items.size:=eq_of_beq q.2
  exact hw ⟨by omega,by omega⟩
 show wpAny _ _ (if (((sIx items.size 0 lo:Nat):Int)==0&&(1:Int)==1&&(sIx items.size items.size hi-sIx items.size 0 lo)==items.size)=true then _ else _) _ _ s
 rw[Yc hno,ZoY]
 first
  |exact Ya (m:=Builtin.Tuple.tupleExact _) (wpAny_newObj_type (Yb ⟨_,rfl,Yb h⟩) htake)
  |exact Ya (m:=Builtin.Tuple.tupleExact _) (wpAny_newObj_type (Ya (Yb (Yb ⟨_,rfl,Yb h⟩))) htake)
  |exact Ya (Ya (m:=Builtin.Tuple.tupleExact _) (wpAny_newObj_type (Yb (Yb ⟨_,rfl,Yb h⟩)) htake))
  |exact Ya (Ya (m:=Builtin.Tuple.tupleExact _) (wpAny_newObj_type (Yb ⟨_,rfl,Yb h⟩) htake))
end
end HT
namespace L2
open PySem PySem.Spec PyProof.Rows
noncomputable abbrev TO:=St->Hp->(Option Int->Hp->Prop)->Prop
noncomputable def PO (X:Cx) (e:Option Expr) (t:TO):Prop :=
 ∀(pins:List (Addr×Obj)) (s:Shared) (σ:St) (H:Hp) (Q:Option Int->Hp->Prop),Inv X pins σ H s->t σ H Q ->
  wpAny (model X.prog X.w) X.A (evalPart e X.env) (λu s'=>∃o H',Inv X pins σ H' s'/\IsPart u o/\Q o H') X.xe s
noncomputable def tNoPart:TO:=λ_ H Q=>Q none H
noncomputable def tPart (t:TE):TO:=fun σ H Q=>t σ H λx H1=>∃i,x=.int i/\Q (some i) H1
theorem intsAre_of {ns:List Int}:∀{us:List Value},Vals (ns.map V.int) us->IntsAre us ns:=by
 induction ns with
 |nil=>intro us r;rw[List.map_nil]at r;cases r;exact .nil
 |cons n ns ih =>
  intro us r
  rw[YG]at r
  cases r with
  |cons r1 r2 =>
   obtain⟨t,e⟩:=r1
   subst e
   exact .cons n t (ih r2)
section
variable {X:Cx}{e:Expr}{te:TE}{lo hi:Option Expr}{tl th:TO}{pos p2:Pos}
theorem ZcY:PO X none tNoPart:=by
 intro pins s σ H Q I h
 rw[evalPart_none]
 exact Yb ⟨none,H,I,.none,h⟩
theorem Zae (h:PE X e te):PO X (some e) (tPart te):=by
 intro pins s σ H Q I hw
 rw[evalPart_some]
 refine thn (h pins s σ H _ I hw) λu s1 ⟨x,H1,I1,r1,q1⟩=>?_
 obtain⟨i,rfl,q⟩:=q1
 obtain⟨t,rfl⟩:=r1
 exact⟨some i,H1,I1,.int i t,q⟩
noncomputable def SlR (X:Cx) (r:V->Option Int->Option Int->Hp->VK->Prop):Prop :=
 ∀(pins:List (Addr×Obj)) (s:Shared) (σ:St) (H:Hp) (x:V) (v vl vu:Value) (lo hi:Option Int) (sl:Addr) (Q:VK),Inv X pins σ H s->RelV x v->s.heap.IsSliceOf sl vl vu .none->IsPart vl lo->IsPart vu hi->r x lo hi H Q ->
  ∃T id,typeLookup (.type T) "__getitem__"=pure (some (.builtin id))/\s.TypeIs v T/\wpAny (model X.prog X.w) X.A (getItem v (.ref sl)) (EP X pins σ Q) X.xe s
noncomputable def tSl (r:V->Option Int->Option Int->Hp->VK->Prop) (te:TE) (tl th:TO):TE:=fun σ H Q=>te σ H λx H1=>tl σ H1 λl H2=>th σ H2 λu H3=>r x l u H3 Q
theorem Zak {r:V->Option Int->Option Int->Hp->VK->Prop} (hr:SlR X r) (he:PE X e te) (hl:PO X lo tl) (hu:PO X hi th):PE X (.Subscript e (.Slice lo hi none p2) pos) (tSl r te tl th):=by
 intro pins s σ H Q I h
 refine Subscript_ (thn (he pins s σ H _ I h) λv s1 ⟨x,H1,I1,r1,q1⟩=>?_)
 refine wpAny_Slice (thn (hl pins s1 σ H1 _ I1 q1) λvl s2 ⟨l,H2,I2,pl,q2⟩=>thn (hu pins s2 σ H2 _ I2 q2) λvu s3 ⟨u,H3,I3,pu,q3⟩=>?_)
 rw[evalPart_none]
 refine Yb ?_
 have I4:Inv X pins σ H3 {s3 with heap:=s3.heap.push {cls:=.type "slice",data:=.fields #[vl,vu,.none]}}:=I3.kept (t':=s3.toks) λb ob q=>Yl _ q
 obtain⟨T,id,hT,ht,hg⟩:=hr pins {s3 with heap:=s3.heap.push {cls:=.type "slice",data:=.fields #[vl,vu,.none]}} σ H3 x v vl vu l u s3.heap.objs.size Q I4 r1 (Heap.IsSliceOf.new ..) pl pu q3
 show wpAny (model X.prog X.w) X.A (subscriptTail e (.Slice lo hi none p2) v (.ref s3.heap.objs.size)) (EP X pins σ Q) X.xe {s3 with heap:=s3.heap.push {cls:=.type "slice",data:=.fields #[vl,vu,.none]}}
 exact tail_any (ops:=[.ref s3.heap.objs.size,v]) ht hT hg (by with_unfolding_all rfl)
noncomputable def Zex (xs:List V) (lo hi:Option Int):List V:=(xs.drop (HT.sIx xs.length 0 lo)).take (HT.sIx xs.length xs.length hi-HT.sIx xs.length 0 lo)
theorem ZgW (xs:List V) (lo hi:Option Int):(Zex xs lo hi).length<=xs.length:=by
 unfold Zex
 rw[YR,Y3]
 omega
noncomputable def rSlT (K:PySem.W.Frag):V->Option Int->Option Int->Hp->VK->Prop:=λx lo hi H Q=>∃a xs,x=.ref a/\SqT K H a xs /\
 ¬ (HT.sIx xs.length 0 lo=0/\HT.sIx xs.length xs.length hi=xs.length)/\∀p,H p=none->Q (.ref p) (upd H p (.tup (Zex xs lo hi)))
theorem ZoZ:SlR X (rSlT X.K):=by
 intro pins s σ H x v vl vu lo hi sl Q I rx hs pl pu h
 obtain⟨a,xs,rfl,hx,hw,q⟩:=h
 cases rx
 obtain⟨its,r,ht,hz⟩:=I.tuple hx
 have hlen:its.toArray.size=xs.length:=by rw[Yn];exact r.length.symm
 refine⟨"tuple",_,PyProof.Rows.slot_tuple_getitem.lookup,ht.typeIs,?_⟩
 refine HT.Zf1 ht hs pl pu (by rw[hlen];exact hw) ?_ (by rw[hlen];exact hz)
 rw[hlen]
 refine⟨.ref s.heap.objs.size,_,I.laid (t':=s.toks) (o:=.tup (Zex xs lo hi)) (λb ob q=>Yl _ q) (Ye _) ?_,rfl,q _ (I.hok.fresh (Ye _))⟩
 exact⟨Yi (ZgW xs lo hi) hz,_,(r.drop (HT.sIx xs.length 0 lo)).take (HT.sIx xs.length xs.length hi-HT.sIx xs.length 0 lo),IsTup.new _ _⟩
theorem Vals.ZjP {xs:List V}{us:List Value} (r:Vals xs us):us=[]↔xs=[]:=by
 cases r with
 |nil=>simp
 |cons _ _=>simp
end
noncomputable def ixN (n:Nat) (i:Int):Option Nat:=if 0<=i then (if i<n then some i.toNat else none)else if -(n:Int)<=i then some (i+n).toNat else none
noncomputable def atI {α:Type} (xs:List α) (i:Int):Option α:=(ixN xs.length i).bind λj=>xs[j]?
theorem ZmD {n:Nat}{i:Int}{j:Nat} (h:ixN n i=some j):seqIndex? i n=some j/\j<n/\-(n:Int)<=i/\i<n:=by
 unfold ixN at h
 by_cases h0:0<=i
 ·rw[Yd h0]at h
  by_cases h1:i<n
  ·rw[Yd h1]at h
   have e:i.toNat=j:=Yo h
   exact⟨by rw[seqIndex_of h0 h1,e],by omega,by omega,h1⟩
  ·rw[Yc h1]at h;cases h
 ·rw[Yc h0]at h
  by_cases h1:-(n:Int)<=i
  ·rw[Yd h1]at h
   have e:(i+n).toNat=j:=Yo h
   exact⟨by rw[seqIndex_neg (by omega) h1,e],by omega,h1,by omega⟩
  ·rw[Yc h1]at h;cases h
theorem ZmE {α:Type}{xs:List α}{i:Int}{v:α} (h:atI xs i=some v):∃j,seqIndex? i xs.length=some j/\xs[j]?=some v/\j<xs.length/\-(xs.length:Int)<=i/\i<xs.length:=by
 unfold atI at h
 cases e:ixN xs.length i with
 |none=>rw[e]at h;cases h
 |some j =>
  rw[e]at h
  obtain⟨h1,h2,h3,h4⟩:=ZmD e
  exact⟨j,h1,h,h2,h3,h4⟩
theorem Zhv {α:Type}{xs:List α}{j:Nat}{v:α} (h:xs[j]?=some v):atI xs (j:Int)=some v:=by
 have hj:j<xs.length:=(Yr.mp h).1
 have e:ixN xs.length (j:Int)=some j:=by
  unfold ixN
  rw[Yd (by omega),Yd (by omega)];simp
 unfold atI;rw[e];exact h
noncomputable def Zro (b:Expr):Prop:=∀o i,subscripted b false o i=operate [o,i] (getItem o i)
noncomputable def IxR (X:Cx) (r:R2):Prop :=
 ∀(value slice:Expr) (pins:List (Addr×Obj)) (s:Shared) (σ:St) (H:Hp) (x y:V) (v u:Value) (Q:VK),Inv X pins σ H s->RelV x v->RelV y u->r x y H Q ->
  subscripted slice false v u=operate [v,u] (getItem v u)->wpAny (model X.prog X.w) X.A (subscriptTail value slice v u) (EP X pins σ Q) X.xe s
noncomputable def MtR (X:Cx) (id:String) (r:V->List V->Hp->VK->Prop):Prop :=
 ∀(pins:List (Addr×Obj)) (s:Shared) (σ:St) (H:Hp) (x:V) (xs:List V) (v:Value) (us:List Value) (Q:VK),Inv X pins σ H s->RelV x v->Vals xs us->r x xs H Q ->
  wpAny (model X.prog X.w) X.A (call (.builtin id) (v::us)) (EP X pins σ Q) X.xe s
section
variable {X:Cx}{a b:Expr}{ta tb:TE}{pos:Pos}
theorem IxR.or {r r':R2} (h:IxR X r) (h':IxR X r'):IxR X (λx y H Q=>r x y H Q\/r' x y H Q):=by
 intro value slice pins s σ H x y v u Q I rx ry q hs
 rcases q with q|q
 ·exact h value slice pins s σ H x y v u Q I rx ry q hs
 ·exact h' value slice pins s σ H x y v u Q I rx ry q hs
theorem ZT {r:R2} (hr:IxR X r) (ha:PE X a ta) (hb:PE X b tb) (hs:Zro b):PE X (.Subscript a b pos) (tOp r ta tb):=by
 intro pins s σ H Q I h
 exact Subscript_ (binT ha hb I h λv u s2 x y H2 I2 rx ry q=>hr a b pins s2 σ H2 x y v u Q I2 rx ry q (hs _ _))
noncomputable def rIxL (K:PySem.W.Frag):R2:=λx y H Q=>∃p xs i v,x=.ref p/\y=.int i/\SqL K H p xs/\atI xs i=some v/\Q v H
noncomputable def rIxT (K:PySem.W.Frag):R2:=λx y H Q=>∃p xs i v,x=.ref p/\y=.int i/\SqT K H p xs/\atI xs i=some v/\Q v H
theorem ZK:IxR X (rIxL X.K):=by
 intro value slice pins s σ H x y v u Q I rx ry h hs
 obtain⟨p,xs,i,z,rfl,rfl,hq,he,q⟩:=h
 cases rx
 obtain⟨t,rfl⟩:=ry
 obtain⟨its,r,pl,hz⟩:=I.list hq
 obtain⟨j,h1,h2,h3,h4,h5⟩:=ZmE he
 obtain⟨w,ew,rw'⟩:=r.get h2
 have hl:=r.length
 have hn:=ZjO
 have fin:EP X pins σ Q w s:=⟨z,H,I,rw',q⟩
 by_cases h0:0<=i
 ·have hj:i.toNat=j:=by
   rw[seqIndex_of h0 h5]at h1
   exact Yo h1
  exact item_listR pl.isList h0 (by omega) (by rw[hj];simpa using ew) fin hs
 ·have hj:(i+(its.toArray.size:Int)).toNat=j:=by
   rw[seqIndex_neg (by omega) h4]at h1
   rw[Yn,<-hl]
   exact Yo h1
  exact subscriptTail_builtinR (x:=w) pl.isList.typeIs slot_list_getitem.lookup
   (wpAny_getItem_list_neg (Q:=λr s'=>r=w/\EP X pins σ Q r s') pl.isList (by omega) (by rw[Yn]<;>omega) (by omega) (by rw[hj];simpa using ew) ⟨rfl,fin⟩) hs
theorem ZdT:IxR X (rIxT X.K):=by
 intro value slice pins s σ H x y v u Q I rx ry h hs
 obtain⟨p,xs,i,z,rfl,rfl,hq,he,q⟩:=h
 cases rx
 obtain⟨t,rfl⟩:=ry
 obtain⟨its,r,pl,hz⟩:=I.tuple hq
 obtain⟨j,h1,h2,h3,h4,h5⟩:=ZmE he
 obtain⟨w,ew,rw'⟩:=r.get h2
 have hl:=r.length
 have hn:=ZjO
 have fin:EP X pins σ Q w s:=⟨z,H,I,rw',q⟩
 exact subscriptTail_builtinR (x:=w) pl.typeIs slot_tuple_getitem.lookup
  (getItem_tuple (j:=j) (Q:=λr s'=>r=w/\EP X pins σ Q r s') pl (by omega) (by omega) (by rw[Yn,<-hl];exact h1) (by simpa using ew) ⟨rfl,fin⟩) hs
theorem ZlM (its:List Value) (n j:Nat) (u:Value):Obj.mapSeq (·.setIfInBounds j u) {cls:=.type "list",data:=.seq its.toArray n}={cls:=.type "list",data:=.seq (its.set j u).toArray n}:=by
 simp[Obj.mapSeq]
theorem Inv.lst {pins:List (Addr×Obj)}{σ:St}{H:Hp}{s:Shared}{p:Addr}{xs:List V} (I:Inv X pins σ H s) (h:H p=some (.lst xs)) :
  ∃(its:List Value) (n:Nat),Vals xs its/\s.heap.get? p=some {cls:=.type "list",data:=.seq its.toArray n}/\xs.length<=sizeLine:=by
 obtain⟨z,its,n,r,e⟩:=I.hok p _ h
 exact⟨its,n,r,e,z⟩
theorem Inv.lstUpd {pins:List (Addr×Obj)}{σ:St}{H:Hp}{s:Shared}{p:Addr}{xs ys:List V}{its its':List Value}{n n':Nat}{f:Obj->Obj} (I:Inv X pins σ H s) (h:H p=some (.lst xs))
  (ho:s.heap.get? p=some {cls:=.type "list",data:=.seq its.toArray n}) (hf:f {cls:=.type "list",data:=.seq its.toArray n}={cls:=.type "list",data:=.seq its'.toArray n'}) (r:Vals ys its') (hz:ys.length<=sizeLine) (t:Nat) :
  Inv X pins σ (upd H p (.lst ys)) {s with heap:=s.heap.update p f,toks:=t}:=by
 have e:(s.heap.update p f).get? p=some {cls:=.type "list",data:=.seq its'.toArray n'}:=by
  rw[Heap.get?_update_self f ho (by rw[hf]<;>rfl),hf]
 refine I.write (x:=p) (e:=p) (by rw[h];trivial) (.inl rfl) (λb u hb q=>(Heap.get?_update_other _ _ (Ne.symm hb)).trans q) ⟨_,e⟩ ?_
 exact⟨hz,its',n',r,e⟩
noncomputable def rSetL:V->V->V->Hp->(Hp->Prop)->Prop:=λo i v H Q=>∃p xs k j,o=.ref p/\i=.int k/\H p=some (.lst xs)/\ixN xs.length k=some j/\Q (upd H p (.lst (xs.set j v)))
theorem set_list:PSet X rSetL:=by
 intro pins s σ H o i v ov iv u Q I ro ri rv h
 obtain⟨p,xs,k,j,rfl,rfl,hp,hj,q⟩:=h
 cases ro
 obtain⟨t,rfl⟩:=ri
 obtain⟨its,n,r,ho,hz⟩:=I.lst hp
 obtain⟨h1,h2,h3,h4⟩:=ZmD hj
 have hl:=r.length
 have hn:=ZjO
 have I':Inv X pins σ (upd H p (.lst (xs.set j v))) {s with heap:=s.heap.update p (Obj.mapSeq (·.setIfInBounds j u))} :=
  I.lstUpd hp ho (ZlM its n j u) (r.set rv j) (by rw[List.length_set];exact hz) s.toks
 by_cases h0:0<=k
 ·have hk:k.toNat=j:=by
   rw[seqIndex_of h0 h4]at h1
   exact Yo h1
  exact PySem.W.ki_setAt ho h0 (by omega) (by rw[Yn,<-hl];exact h4) (by rw[hk];exact⟨_,I',q⟩)
 ·have hk:(k+(its.toArray.size:Int)).toNat=j:=by
   rw[seqIndex_neg (by omega) h3]at h1
   rw[Yn,<-hl]
   exact Yo h1
  exact PySem.W.ki_setBack ho (by omega) (by rw[Yn,<-hl];exact h3) (by omega) (by rw[hk];exact⟨_,I',q⟩)
theorem ZjQ (lo hi:Option Int) (n:Nat):(sliceBounds lo hi none n).1=((HT.sIx n 0 lo:Nat):Int)/\(sliceBounds lo hi none n).2.1=((HT.sIx n n hi:Nat):Int)/\(sliceBounds lo hi none n).2.2=1:=by
 refine⟨?_,?_,rfl⟩
 ·cases lo with
  |none=>simp[sliceBounds,HT.sIx]
  |some i =>
   simp only[sliceBounds,HT.sIx,Option.getD_none,show(1:Int)>0 by decide,if_true]
   by_cases h:i<0
   ·simp only[h,if_true]<;>omega
   ·simp only[h,if_false]<;>omega
 ·cases hi with
  |none=>simp[sliceBounds,HT.sIx]
  |some i =>
   simp only[sliceBounds,HT.sIx,Option.getD_none,show(1:Int)>0 by decide,if_true]
   by_cases h:i<0
   ·simp only[h,if_true]<;>omega
   ·simp only[h,if_false]<;>omega
theorem ZiK (its:List Value) (lo hi:Option Int):slicePick its.toArray lo hi none=((its.drop (HT.sIx its.length 0 lo)).take (HT.sIx its.length its.length hi-HT.sIx its.length 0 lo)).toArray:=by
 obtain⟨h1,h2,h3⟩:=ZjQ lo hi its.toArray.size
 unfold slicePick
 rw[h1,h2,h3]
 simp only[sliceRange_one,pick_run,Yn]<;>rfl
noncomputable def rSlL (K:PySem.W.Frag):V->Option Int->Option Int->Hp->VK->Prop:=λx lo hi H Q=>∃a xs,x=.ref a/\SqL K H a xs/\∀p,H p=none->Q (.ref p) (upd H p (.lst (Zex xs lo hi)))
theorem ZbM:SlR X (rSlL X.K):=by
 intro pins s σ H x v vl vu lo hi sl Q I rx hs pl pu h
 obtain⟨a,xs,rfl,hx,q⟩:=h
 cases rx
 obtain⟨its,r,ht,hz⟩:=I.list hx
 have hlen:=r.length
 refine⟨"list",_,slot_list_getitem.lookup,ht.isList.typeIs,?_⟩
 refine wpAny_getItem_list_slice ht.isList hs pl pu .none (by simp) ?_ (by rw[Yn]<;>omega)
 rw[ZiK,<-hlen]
 refine⟨.ref s.heap.objs.size,_,I.laid (t':=s.toks) (o:=.lst (Zex xs lo hi)) (λb ob q=>Yl _ q) (Ye _) ?_,rfl,q _ (I.hok.fresh (Ye _))⟩
 exact⟨Yi (ZgW xs lo hi) hz,_,0,(r.drop (HT.sIx xs.length 0 lo)).take (HT.sIx xs.length xs.length hi-HT.sIx xs.length 0 lo),Ys _ rfl⟩
noncomputable def flatV:V->Bool
 |.non=>true
 |.bl _=>true
 |.int _=>true
 |.str _=>true
 |_=>false
noncomputable def eqV:V->V->Bool
 |.non,.non=>true
 |.bl a,.bl b=>a==b
 |.bl a,.int b=>(if a then 1 else 0)==b
 |.int a,.bl b=>a==(if b then 1 else 0)
 |.int a,.int b=>a==b
 |.str a,.str b=>a==b
 |_,_=>false
theorem Zo0 {A:Around}{s:Shared}{y x:V}{u v:Value} (ry:RelV y u) (rx:RelV x v) (fy:flatV y=true) (fx:flatV x=true):SeqAt.EqAt A s u v (eqV y x):=by
 cases y with
 |non =>
  cases ry
  cases x with
  |non=>cases rx;exact SeqAt.EqAt.same _
  |bl b=>cases rx;exact SeqAt.EqAt.none_bool b
  |int b=>obtain⟨t,rfl⟩:=rx;exact SeqAt.EqAt.none_int b t
  |str b=>obtain⟨t,rfl⟩:=rx;exact SeqAt.EqAt.none_str b t
  |_=>exact absurd (show false=true from fx) Yu
 |bl a =>
  cases ry
  cases x with
  |non=>cases rx;exact SeqAt.EqAt.bool_none a
  |bl b=>cases rx;exact SeqAt.EqAt.bool_bool a b
  |int b=>obtain⟨t,rfl⟩:=rx;exact SeqAt.EqAt.bool_int a b t
  |str b=>obtain⟨t,rfl⟩:=rx;exact SeqAt.EqAt.bool_str a b t
  |_=>exact absurd (show false=true from fx) Yu
 |int a =>
  obtain⟨t',rfl⟩:=ry
  cases x with
  |non=>cases rx;exact SeqAt.EqAt.int_none a t'
  |bl b=>cases rx;exact SeqAt.EqAt.int_bool a t' b
  |int b=>obtain⟨t,rfl⟩:=rx;exact SeqAt.EqAt.int_int a t' b t
  |str b=>obtain⟨t,rfl⟩:=rx;exact SeqAt.EqAt.int_str a t' b t
  |_=>exact absurd (show false=true from fx) Yu
 |str a =>
  obtain⟨t',rfl⟩:=ry
  cases x with
  |non=>cases rx;exact SeqAt.EqAt.str_none a t'
  |bl b=>cases rx;exact SeqAt.EqAt.str_bool a t' b
  |int b=>obtain⟨t,rfl⟩:=rx;exact SeqAt.EqAt.str_int a t' b t
  |str b=>obtain⟨t,rfl⟩:=rx;exact SeqAt.EqAt.str_str a t' b t
  |_=>exact absurd (show false=true from fx) Yu
 |_=>exact absurd (show false=true from fy) Yu
noncomputable def eqU (x:V) (u:Value):Bool:=match u with
 |.none=>eqV .non x
 |.bool b=>eqV (.bl b) x
 |.int i _=>eqV (.int i) x
 |.str z _=>eqV (.str z) x
 |_=>false
theorem Zo1 {x y:V}{u:Value} (r:RelV y u) (f:flatV y=true):eqU x u=eqV y x:=by
 cases y with
 |non=>cases r;rfl
 |bl b=>cases r;rfl
 |int i=>obtain⟨t,rfl⟩:=r;rfl
 |str z=>obtain⟨t,rfl⟩:=r;rfl
 |_=>exact absurd (show false=true from f) Yu
theorem ZkL {A:Around}{s:Shared}{x:V}{v:Value} (rx:RelV x v) (fx:flatV x=true):∀{xs:List V}{us:List Value},Vals xs us->xs.all flatV=true->∀u∈us,SeqAt.EqAt A s u v (eqU x u)
 |_,_,.nil,_=>λu hu=>by cases hu
 |y::xs,u::us,.cons r t,f=>λu' hu=>by
  rw[List.all_cons,Bool.and_eq_true]at f
  rcases Yk.mp hu with rfl|hu
  ·rw[Zo1 r f.1];exact Zo0 r rx f.1 fx
  ·exact ZkL rx fx t f.2 u' hu
theorem ZjR:Zcg X (.builtin "len") (λxs H Q=>∃p ys,xs=[.ref p]/\(SqL X.K H p ys\/SqT X.K H p ys)/\Q (.int ys.length) H):=by
 intro pins s σ H xs us Q I r h
 obtain⟨p,ys,rfl,hq,q⟩:=h
 obtain⟨u,rfl,rx⟩:=vals1 r
 cases rx
 have hn:=ZjO
 rcases hq with hq|hq
 ·obtain⟨its,r',pl,hz⟩:=I.list hq
  have hlen:=r'.length
  exact Calls.call_len_list pl.isList (by simp only[Yn]<;>omega) ⟨.int ys.length,H,I.tok _,⟨s.toks+1,by rw[Yn,hlen]⟩,q⟩
 ·obtain⟨its,r',pl,hz⟩:=I.tuple hq
  have hlen:=r'.length
  exact len_tuple pl (by simp only[Yn]<;>omega) ⟨.int ys.length,H,I.tok _,⟨s.toks+1,by rw[Yn,hlen]⟩,q⟩
theorem ZjS:Zcg X (.type "list") (λxs H Q=>∃p ys,xs=[.ref p]/\(SqL X.K H p ys\/SqT X.K H p ys)/\∀l,H l=none->Q (.ref l) (upd H l (.lst ys))):=by
 intro pins s σ H xs us Q I r h
 obtain⟨p,ys,rfl,hq,q⟩:=h
 obtain⟨u,rfl,rx⟩:=vals1 r
 cases rx
 have fin:∀(its:List Value),Vals ys its->ys.length<=sizeLine->∀(h':Heap) (c':Nat),(∀b o',s.heap.get? b=some o'->h'.get? b=some o') ->
   h'.get? s.heap.objs.size=some {cls:=.type "list",dict:=none,data:=.seq its.toArray c',slots:=#[]}->EP X pins σ Q (.ref s.heap.objs.size) {s with heap:=h'}:=λits r' hz h' c' kp e =>
  ⟨.ref s.heap.objs.size,_,I.laid (t':=s.toks) kp (Ye _) (show ZQ X.prog X.w _ h' _ (.lst ys)from⟨hz,its,c',r',e⟩),rfl,q _ (I.hok.fresh (Ye _))⟩
 rcases hq with hq|hq
 ·obtain⟨its,r',pl,hz⟩:=I.list hq
  have hlen:=r'.length
  obtain⟨o,ho,hc,n,hd⟩:=pl.isList
  exact call_list_seq p (.inl rfl) ho hc hd (λh' c' kp e=>fin its r' hz h' c' kp e) (by simp only[Yn]<;>omega)
 ·obtain⟨its,r',pl,hz⟩:=I.tuple hq
  have hlen:=r'.length
  obtain⟨o,ho,hc,n,hd⟩:=pl
  exact call_list_seq p (.inr rfl) ho hc hd (λh' c' kp e=>fin its r' hz h' c' kp e) (by simp only[Yn]<;>omega)
theorem ZiL:Zcg X (.type "tuple") (λxs H Q=>∃p ys,xs=[.ref p]/\((SqL X.K H p ys/\∀l,H l=none->Q (.ref l) (upd H l (.tup ys)))\/(SqT X.K H p ys/\Q (.ref p) H))):=by
 intro pins s σ H xs us Q I r h
 obtain⟨p,ys,rfl,h⟩:=h
 obtain⟨u,rfl,rx⟩:=vals1 r
 cases rx
 rcases h with⟨hq,q⟩|⟨hq,q⟩
 ·obtain⟨its,r',pl,hz⟩:=I.list hq
  have hlen:=r'.length
  refine call_tuple_list pl.isList (λh' kp=>?_) (by simp only[Yn]<;>omega)
  have I1:Inv X pins σ H {s with heap:=h'}:=I.kept (t':=s.toks) kp
  have I2:Inv X pins σ (upd H h'.objs.size (.tup ys)) {s with heap:=h'.push {cls:=.type "tuple",data:=.seq its.toArray}} :=
   I1.laid (t':=s.toks) (λb o e=>Yl _ e) (Ye _) (show ZQ X.prog X.w _ _ _ (.tup ys)from⟨hz,its,r',IsTup.new _ _⟩)
  exact⟨.ref h'.objs.size,_,I2,rfl,q _ (I1.hok.fresh (Ye _))⟩
 ·obtain⟨its,r',pl,hz⟩:=I.tuple hq
  exact call_tuple_same pl ⟨.ref p,H,I,rfl,q⟩
noncomputable def tyV (K:PySem.W.Frag) (T:String) (x:V) (H:Hp):Prop:=match x with
 |.str _=>T="str"
 |.int _=>T="int"
 |.ref p=>(T="list"/\∃xs,SqL K H p xs)\/(T="tuple"/\∃o,K.lookup p=some o/\o.cls=.type "tuple"/\o.dict=none) \/
   (T="dict"/\((∃kvs,H p=some (.dK kvs))\/∃kvs,H p=some (.dT kvs)))\/(T="set"/\∃S n,H p=some (.set S n))
 |_=>False
theorem tyV_is {pins:List (Addr×Obj)}{σ:St}{H:Hp}{s:Shared}{T:String}{x:V}{v:Value} (I:Inv X pins σ H s) (r:RelV x v) (ty:tyV X.K T x H) :
  s.TypeIs v T/\∀a,v=.ref a->∃ob,s.heap.get? a=some ob/\ob.dict=none:=by
 cases x with
 |str z =>
  obtain⟨t,rfl⟩:=r
  cases(show T="str" from ty)
  exact⟨typeIs_str s z t,λ_ e=>nomatch e⟩
 |int i =>
  obtain⟨t,rfl⟩:=r
  cases(show T="int" from ty)
  exact⟨typeIs_int s i t,λ_ e=>nomatch e⟩
 |ref p =>
  cases r
  rcases ty with⟨rfl,xs,hq⟩|⟨rfl,o,hk,hc,hd⟩|⟨rfl,hk⟩|⟨rfl,S,n,hk⟩
  ·obtain⟨its,_,pl,_⟩:=I.list hq
   refine⟨pl.isList.typeIs,λa e=>?_⟩
   cases e
   obtain⟨o,n,e,c,hd,_⟩:=pl
   exact⟨o,e,hd⟩
  ·refine⟨⟨o,I.kIn p o hk,hc⟩,λa e=>?_⟩
   cases e
   exact⟨o,I.kIn _ o hk,hd⟩
  ·have z:∃o,s.heap.get? p=some o/\o.ExactDict:=by
    rcases hk with⟨kvs,hk⟩|⟨kvs,hk⟩
    ·obtain⟨_,_,_,_,o,_,_,e,ex,_⟩:=I.hok p _ hk
     exact⟨o,e,ex⟩
    ·obtain⟨_,_,_,_,o,_,_,e,ex,_⟩:=I.hok p _ hk
     exact⟨o,e,ex⟩
   obtain⟨o,e,ex⟩:=z
   refine⟨⟨o,e,ex.1⟩,λa e2=>?_⟩
   cases e2
   exact⟨o,e,ex.2.1⟩
  ·obtain⟨o,_,_,_,e,ex,_⟩:=I.hok p _ hk
   refine⟨⟨o,e,ex.1⟩,λa e2=>?_⟩
   cases e2
   exact⟨o,e,ex.2.1⟩
 |_=>exact False.elim ty
noncomputable def tBM (K:PySem.W.Frag) (T:String) (r:V->List V->Hp->VK->Prop) (to:TE) (t:TA):TE:=fun σ H Q=>to σ H λx H1=>tyV K T x H1/\t σ H1 λxs H2=>r x xs H2 Q
variable {o e:Expr}{es:List Expr}{to:TE}{t:TA}{name:Str}{apos cpos:Pos}{T id:String}{r:V->List V->Hp->VK->Prop}
theorem Zch (pa:PlainAttrs T) (slot:Slot T name id) (hty:typeOf (.builtin id)=pure (.type "method_descriptor")) (hm:MtR X id r) (ho:PE X o to) (ha:PA X (e::es) t)
  (hbase:attributeBase o name X.env (eval o X.env)=eval o X.env:=by rfl)
  (hfew:((backTo cpos (starEach (e::es) X.env)).all (λx=>!x.1)&&(backToKw cpos (keywordEach [] X.env)).all (λx=>x.1.isSome)
   && decide ((e::es).length+([]:List Keyword).length+(if ([]:List Keyword).isEmpty then 0 else 1)<30))=true:=by rfl)
  (hline:(apos.endLine==cpos.line)=true:=by rfl) (hs:starEach (e::es) X.env=(false,eval e X.env)::starEach es X.env:=by rfl) (hplain:(backTo cpos (starEach es X.env)).any (·.1)=false:=by rfl) :
  PE X (.Call (.Attribute o name apos) (e::es) [] cpos) (tBM X.K T r to t):=by
 intro pins s σ H Q I h
 refine wpAny_Call_method_late hbase hfew hline rfl (thn (ho pins s σ H _ I h) λv s1 ⟨x,H1,I1,r1,ty,q1⟩=>?_)
 obtain⟨h1,h2⟩:=tyV_is I1 r1 ty
 refine⟨T,id,pa,slot,hty,h1,h2,?_⟩
 have hA:=ha cpos pins s1 σ H1 _ I1 q1
 rw[hs]at hA⊢
 refine Calls.callWith_builtin (by show(false||(backTo cpos (starEach es X.env)).any (·.1))=false;rw[hplain]<;>rfl) (Calls.evalArgs_plain ?_)
 exact thn hA λus s2 ⟨vs,H2,I2,r2,q2⟩=>hm pins s2 σ H2 x vs v us Q I2 r1 r2 q2
end
noncomputable def MtM (X:Cx) (id:String) (r:V->List V->Hp->VK->Prop):Prop :=
 ∀(pins:List (Addr×Obj)) (s:Shared) (σ:St) (H:Hp) (x:V) (xs:List V) (v:Value) (us:List Value) (Q:VK),Inv X pins σ H s->RelV x v->Vals xs us->r x xs H Q ->
  wpAny (model X.prog X.w) X.A (call (.builtin id) (v::us)) (EP X pins σ Q) X.xe s
theorem Vals.one:∀{x:V}{us:List Value},Vals [x] us->∃u,us=[u]/\RelV x u
 |_,_,.cons r .nil=>⟨_,rfl,r⟩
theorem Vals.two:∀{x y:V}{us:List Value},Vals [x,y] us->∃u v,us=[u,v]/\RelV x u/\RelV y v
 |_,_,_,.cons r (.cons q .nil)=>⟨_,_,rfl,r,q⟩
theorem Vals.rep {xs:List V}{us:List Value} (h:Vals xs us):∀k:Nat,Vals (List.replicate k xs).flatten (List.replicate k us).flatten
 |0=>.nil
 |k+1=>by
  rw[List.replicate_succ,List.replicate_succ,List.flatten_cons,List.flatten_cons]
  exact Vals.append h (Vals.rep h k)
theorem foldl_rep (its:List Value):∀(k:Nat) (acc:List Value),
  List.foldl (λx1 x2=>x1++x2) acc.toArray (List.replicate k its.toArray)=(acc++(List.replicate k its).flatten).toArray
 |0,acc=>by simp
 |k+1,acc=>by
  have e:acc.toArray++its.toArray=(acc++its).toArray:=by simp
  have e2:(acc++its)++(List.replicate k its).flatten=acc++(List.replicate (k+1) its).flatten:=by
   rw[List.replicate_succ,List.flatten_cons,YM]
  rw[<-e2,<-foldl_rep its k (acc++its),<-e,List.replicate_succ,List.foldl_cons]
section
variable {X:Cx}{pins:List (Addr×Obj)}{σ:St}{H:Hp}{s:Shared}{l b:Addr}{xs ys zs:List V}
theorem Inv.lset {its its':List Value}{n:Nat}{f:Array Value->Array Value}{t':Nat} (I:Inv X pins σ H s) (hH:H l=some (.lst xs))
  (e:s.heap.get? l=some {cls:=.type "list",data:=.seq its.toArray n}) (hf:f its.toArray=its'.toArray) (hv:Vals ys its') (hz:ys.length<=sizeLine) :
  Inv X pins σ (upd H l (.lst ys)) {s with heap:=s.heap.update l (Obj.mapSeq f),toks:=t'}:=by
 have q:=PySem.IsL.update e f
 rw[hf]at q
 refine I.write (x:=l) (e:=l) (by rw[hH];exact trivial) (.inl rfl) (λb' u hb hu=>(Heap.get?_update_other s.heap (Obj.mapSeq f) (Ne.symm hb)).trans hu) ⟨_,q⟩ ?_
 exact⟨hz,its',_,hv,q⟩
theorem Inv.lnew {its:List Value}{t':Nat} (I:Inv X pins σ H s) (hv:Vals ys its) (hz:ys.length<=sizeLine) :
  Inv X pins σ (upd H s.heap.objs.size (.lst ys)) {s with heap:=s.heap.push {cls:=.type "list",data:=.seq its.toArray},toks:=t'} :=
 I.laid (λ_ _ q=>Yl _ q) (Ye _) ⟨hz,its,0,hv,Ys _ rfl⟩
theorem Inv.fresh (I:Inv X pins σ H s):H s.heap.objs.size=none:=I.hok.fresh (Ye _)
theorem Inv.Zna (I:Inv X pins σ H s) (hH:H l=some (.lst xs)):xs.length<=sizeLine/\∃(its:List Value) (n:Nat),Vals xs its/\xs.length=its.length/\s.heap.get? l=some {cls:=.type "list",data:=.seq its.toArray n}:=by
 obtain⟨z,its,n,r,e⟩:=I.hok l _ hH
 exact⟨z,its,n,r,r.length,e⟩
theorem Zo2 {n:Nat} (h:n<=sizeLine):Builtin.List.listTooLong n=false:=by
 unfold Builtin.List.listTooLong
 exact YQ (by omega)
end
section
variable {X:Cx}
noncomputable def rAppend:V->List V->Hp->VK->Prop:=λx vs H Q=>∃l xs y,x=.ref l/\vs=[y]/\H l=some (.lst xs)/\xs.length<sizeLine/\Q .non (upd H l (.lst (xs++[y])))
theorem Z2:MtM X "list.append" rAppend:=by
 intro pins s σ H x vs v us Q I rx rv h
 obtain⟨l,xs,y,rfl,rfl,hH,hz,q⟩:=h
 cases rx
 obtain⟨u,rfl,ru⟩:=rv.one
 obtain⟨z,its,n,r,hl,e⟩:=I.Zna hH
 refine call_meets F.slot_list_append ⟨_,e,rfl⟩ F.entry_list_append (F.args_list_append_2 _ _) (PySem.list_append l its.toArray n u (by rw[Yn];omega)) ⟨e,?_⟩
 refine⟨.non,_,I.lset (its':=its++[u]) hH e (by simp) (r.append (.cons ru .nil)) ?_,rfl,q⟩
 rw[YB,List.length_singleton]
 omega
noncomputable def rCat:R2:=λx y H Q=>∃l b xs zs,x=.ref l/\y=.ref b/\H l=some (.lst xs)/\H b=some (.lst zs)/\xs.length+zs.length<=sizeLine/\∀p,H p=none->Q (.ref p) (upd H p (.lst (xs++zs)))
theorem Zgw:OpR X (binaryOp .Add) rCat:=by
 intro pins s σ H x y v u Q I rx ry h
 obtain⟨l,b,xs,zs,rfl,rfl,hH,hB,hz,q⟩:=h
 cases rx
 cases ry
 obtain⟨z,its,n,r,hl,e⟩:=I.Zna hH
 obtain⟨z2,its2,n2,r2,hl2,e2⟩:=I.Zna hB
 refine PySem.P.add_list e e2 ?_ (by rw[Yn,Yn];omega)
 have ea:its.toArray++its2.toArray=(its++its2).toArray:=by simp
 rw[ea]
 exact⟨.ref _,_,I.lnew (t':=s.toks) (r.append r2) (by rw[YB];omega),rfl,q _ I.fresh⟩
noncomputable def rRep:R2:=λx y H Q=>∃l k xs,x=.ref l/\y=.int k/\H l=some (.lst xs)/\-(2 ^ 63)<=k/\k<2 ^ 63/\xs.length*k.toNat<=sizeLine /\
 ∀p,H p=none->Q (.ref p) (upd H p (.lst (List.replicate k.toNat xs).flatten))
theorem len_rep {α:Type} (xs:List α) (k:Nat):(List.replicate k xs).flatten.length=k*xs.length:=by
 induction k with
 |zero=>simp
 |succ k ih=>rw[List.replicate_succ,List.flatten_cons,YB,ih,Nat.succ_mul,Nat.add_comm]
theorem op_rep:OpR X (binaryOp .Mult) rRep:=by
 intro pins s σ H x y v u Q I rx ry h
 obtain⟨l,k,xs,rfl,rfl,hH,h1,h2,hz,q⟩:=h
 cases rx
 obtain⟨t,rfl⟩:=ry
 obtain⟨z,its,n,r,hl,e⟩:=I.Zna hH
 have hlen:its.toArray.size*k.toNat<=sizeLine:=by rw[Yn,<-hl];exact hz
 have hcap:¬ its.toArray.size*k.toNat>(2 ^ 63-1) / 8:=by
  have:(sizeLine:Nat)<=(2 ^ 63-1) / 8:=by decide
  omega
 have hfit:¬ (!Builtin.List.listFitsIndex k)=true:=by
  rw[fitsIndex_both h1 h2]
  exact Yu
 have hlong:¬ Builtin.List.listTooLong (its.toArray.size*k.toNat)=true:=by
  rw[Zo2 hlen]
  exact Yu
 have hnew:List.foldl (λx1 x2=>x1++x2) #[] (List.replicate (if its.toArray.isEmpty=true then 0 else k.toNat) its.toArray)=(List.replicate k.toNat its).flatten.toArray:=by
  have f0:∀m:Nat,List.foldl (λx1 x2=>x1++x2) #[] (List.replicate m its.toArray)=(List.replicate m its).flatten.toArray:=λm=>by
   have:=foldl_rep its m []
   rw[List.nil_append]at this
   exact this
  rw[f0]
  cases its with
  |nil=>simp
  |cons a r'=>rw[Yc (by simp)]
 refine wpAny_binaryOp_repeat_ref (T:="list") (U:="int") (by decide) ⟨_,e,rfl⟩ (λs'=>typeIs_int s' k t) noFill_list_mul F.fills_int_mul F.slot_int_rmul repeat_list F.slot_int_index.lookup
  (call_meets F.slot_int_rmul (typeIs_int s k t) F.entry_int_rmul (F.args_int_rmul_2 _ _) (int___rmul___int_list k t l its.toArray n)
   ⟨e,rfl,⟨_,e,rfl⟩,call_meets F.slot_list_mul ⟨_,e,rfl⟩ F.entry_list_mul (F.args_list_mul_2 _ _) (AutoListH.list___mul___list_int_3 l its.toArray n k t hfit hcap hlong) ⟨e,?_⟩⟩)
 rw[hnew]
 exact⟨.ref _,_,I.lnew (t':=s.toks) (r.rep k.toNat) (by rw[len_rep,Nat.mul_comm];exact hz),rfl,q _ I.fresh⟩
end
end L2
namespace Att
open PySem PySem.W PySem.Calls PyProof.Rows
theorem Zhe {P:Params}{h:Heap}:∀(ns:List Int) (vs:List Value),WellAll P h vs (ns.map WData.int)->IntsAre vs ns:=by
 intro ns
 induction ns with
 |nil =>
  intro vs w
  rw[List.map_nil]at w
  cases w
  exact .nil
 |cons n ns ih =>
  intro vs w
  rw[YG]at w
  cases w with
  |cons a b =>
   cases a
   exact .cons _ _ (ih _ b)
theorem Znb {l:OpenLaw}{n:Nat} (hn:l.most=some n) {P:Params}{h:Heap}{args:List WData}{vals:List Value}
  (hpre:l.row.toRowW.claim.pre args=true) (hwl:WellAll P h vals args) :
  ∃a vs ns,vals=[Value.ref a]/\args=[WData.list (ns.map WData.int)]/\h.get? a=some {cls:=.type "list",data:=.seq vs.toArray}/\IntsAre vs ns/\ns.length<=n:=by
 have hsh:WShape.hasAll [] args [.list .int]=true:=(pre_splitW hpre).1
 have hc:l.pre.holds [] {args:=args}=true:=(pre_splitW hpre).2
 obtain⟨d,r,rfl,h1,h2⟩:=hasAllW_cons hsh
 obtain rfl:=hasAllW_nil h2
 obtain⟨xs,rfl,h3⟩:=hasW_list h1
 obtain⟨ns,rfl⟩:=items_int h3
 have hlen:ns.length<=n:=by
  unfold OpenLaw.pre at hc
  have h4:(WTm.not (.lt (.lit (.int (n:Int))) (.len (.arg 0)))).holds [] {args:=[.list (ns.map .int)]}=true:=by
   have h4:=(holds_andW hc).1
   rw[hn]at h4
   exact h4
  have h5:=condW_of h4 (w_not (w_lt w_lit (w_len_list (w_arg rfl))))
  rw[Yg]at h5
  refine Nat.le_of_not_lt λq=>?_
  have q':(n:Int)<((ns.length:Nat):Int):=by omega
  first
   |(rw[YS q']at h5;exact absurd h5 (by decide))
   |(simp at h5;omega)
 cases hwl with
 |cons w1 w2 =>
  cases w2
  cases w1 with
  |list ho hall=>exact⟨_,_,ns,rfl,rfl,ho,Zhe ns _ hall,hlen⟩
theorem Znc (l:OpenLaw) (args:List WData):l.row.toRowW.claim.post args (.bool true) args=true :=
 postW_of (r:=l.row.toRowW) (X:=(true==true))
  (show WShape.has [] (.bool true) .bool=true by first|rfl|decide|simp[WShape.has,WShape.arms,WShape.armsAll])
  (show(WTm.eq .res (.lit (.bool true))).value [] {args:=args,res:=some (.bool true),after:=args}=some (.bool (true==true))from w_eq_bool (w_res rfl) w_lit) rfl
theorem ZkM {l:OpenLaw}{n:Nat}{q:Program}{loose:List Str}{XP:(Str->Option Value)->Heap->Prop}{YP:World->Heap->Prop}{d:DefRec}
  (hn:l.most=some n) (hdf:d.params.defaults=[])
  (call:∀(w:World) (s₀ s₁:Shared) (mg mb:Str->Option Value) (fa:Addr) (o:Obj) (pm cd doc:Value) (a:Addr) (vs:List Value) (ns:List Int),
   Ground q loose [] XP w s₀ mg mb s₁.heap->YP w s₁.heap ->
   s₁.heap.get? fa=some o->o.data=.func (docDef d.name d.params d.body d.scope pm cd doc)->s₁.heap.CodeRec cd d.name->mg d.name=some (.ref fa) ->
   s₁.heap.get? a=some {cls:=.type "list",data:=.seq vs.toArray}->IntsAre vs ns->ns.length<=n->s₁.gens=#[] ->
   codeAny (model l.prog w) callerA (.call (.ref fa) ⟨[.ref a],[]⟩) (λr s'=>r=.ok (.ret (.bool true))/\OldK s₁.heap s'.heap/\s'.os=s₁.os/\AllBare s'.gens) s₁) :
  WalkO q loose XP YP l.row.toRowW d [] (λf vs=>PySem.call f vs):=by
 intro w s₀ s₁ mg mb G Y fa o pm cd doc dV kV ho hd hcd hD hmg hg args vals as hpre hlay hrd hwl hlo
 obtain rfl:dV=.none:=Dflts.none hD hdf
 obtain rfl:kV=.none:=Dflts.noKw hD
 obtain⟨a,vs,ns,rfl,rfl,hobj,hints,hlen⟩:=Znb hn hpre hwl
 refine enter_call (codeAny_mono (call w s₀ s₁ mg mb fa o pm cd doc a vs ns G Y ho (fd_plain hd) hcd hmg hobj hints hlen hg) λr s' hq=>?_)
 obtain⟨rfl,h2,h3,h4⟩:=hq
 exact⟨.inl ⟨.bool true,.bool true,[],rfl,λ_=>rfl,.bool true,Znc l _,λ_=>⟨List.Pairwise.nil,λ_ hm=>(nomatch hm)⟩⟩,h2,h3,h4⟩
end Att
namespace L2
open PySem PySem.Spec PyProof.Rows
theorem Zjj:∀{vs:List Value}{ns:List Int},IntsAre vs ns->Vals (ns.map V.int) vs
 |_,_,.nil=>.nil
 |_,_,.cons n t h=>.cons ⟨t,rfl⟩ (Zjj h)
noncomputable def defArgs (s:Stmt):Arguments:=match s with
 |.FunctionDef _ a _ _ _ _ _ _ _ _=>a
 |_=>{posonlyargs:=[],args:=[],vararg:=none,kwonlyargs:=[],kw_defaults:=[],kwarg:=none,defaults:=[]}
noncomputable def defBody (s:Stmt):List Stmt:=match s with
 |.FunctionDef _ _ b _ _ _ _ _ _ _=>b
 |_=>[]
noncomputable def defScope (s:Stmt):Scope:=match s with
 |.FunctionDef _ _ _ _ _ _ sc _ _ _=>sc
 |_=>{kind:=.function,names:=[],isGenerator:=false,isCoroutine:=false}
noncomputable abbrev E0:XK:=λ_ _ _=>False
structure Fun (K:PySem.W.Frag) (x qual:Str) (st:Stmt) (f:Addr) (fd:FuncData):Prop where
 ex:∃(oc:Value) (od:Option Addr) (kV doc pm:Value) (an:Option Addr) (cdv ct:Value) (osl:Array (Option Value)),
  fd=PySem.W.fnOf x qual (defArgs st) (defBody st) (defScope st) .none kV doc pm an cdv ct/\K.lookup f=some ⟨oc,od,.func fd,osl⟩/\PySem.W.codeIn K cdv qual=true
 kp:PySem.W.keepIn K (.ref f)=true
section
variable {P:Program}{w:World}{K:PySem.W.Frag}{mg:Str->Option Value}{base:Heap}
theorem Fun.binds {x qual:Str}{st:Stmt}{f:Addr}{fd:FuncData}{ps:List Str} (F:Fun K x qual st f fd)
  (h:∀(kV doc pm:Value) (an:Option Addr) (cdv ct:Value) (us:List Value),us.length=ps.length->bindArgs (PySem.W.fnOf x qual (defArgs st) (defBody st) (defScope st) .none kV doc pm an cdv ct) ⟨us,[]⟩=pure (ps.zip us)):Binds K fd ps []:=by
 obtain⟨oc,od,kV,doc,pm,an,cdv,ct,osl,rfl,lk,hcd⟩:=F.ex
 exact .all (h kV doc pm an cdv ct)
theorem ZE {x qual:Str}{st:Stmt}{f:Addr}{oc:Value}{od an:Option Addr}{osl:Array (Option Value)}{kV doc pm cdv ct:Value} (l:K.lookup f=some ⟨oc,od,.func (PySem.W.fnOf x qual (defArgs st) (defBody st) (defScope st) .none kV doc pm an cdv ct),osl⟩)
  (c:PySem.W.codeIn K cdv qual=true) (k:PySem.W.keepIn K (.ref f)=true):Fun K x qual st f (PySem.W.fnOf x qual (defArgs st) (defBody st) (defScope st) .none kV doc pm an cdv ct):=⟨⟨oc,od,kV,doc,pm,an,cdv,ct,osl,rfl,l,c⟩,k⟩
end
theorem hu_of {A:Around}{k:Nat} (hr:Room k A):A.units+1<cLine:=Yv (Nat.add_le_add_left (by decide:1<=64) _) hr.units
section
variable {X:Cx}
theorem pv (i:Nat) {x:Str}{pos:Pos} (hN:X.N[i]?=some x:=by rfl) (hv:Vis X.env.scope x:=by first|exact Or.inl rfl|exact Or.inr (Or.inl rfl)|exact Or.inr (Or.inr rfl)) (hd:(x==("__debug__":Str))=false:=by decide)
  (hcd:(x==("__classdict__":Str))=false:=by decide):PE X (.Name x pos) (tVar i):=pe_var hN hv hd hcd
end
theorem ZW {c A B:Prop} [Decidable c] (h1:c->A) (h2:¬ c->B):if c then A else B:=by
 by_cases h:c
 ·rw[Yd h]
  exact h1 h
 ·rw[Yc h]
  exact h2 h
noncomputable def Zh (H H':Hp):Prop:=∀b o,H b=some o->H' b=some o
theorem Zh.refl (H:Hp):Zh H H:=λ_ _ h=>h
theorem Zh.trans {H H1 H2:Hp} (a:Zh H H1) (b:Zh H1 H2):Zh H H2:=λc o h=>b c o (a c o h)
theorem Zh.free {H H':Hp} (e:Zh H H') {l:Addr} (h:H' l=Option.none):H l=Option.none:=by
 cases q:H l with
 |none=>rfl
 |some o =>
  rw[e l o q]at h
  cases h
theorem Zh.seq {K:PySem.W.Frag}{H H':Hp}{a:Addr}{xs:List V} (e:Zh H H') (h:SqL K H a xs):SqL K H' a xs:=by
 rcases h with(h|⟨o,h⟩)|h
 ·exact .inl (.inl (e _ _ h))
 ·exact .inl (.inr ⟨o,e _ _ h⟩)
 ·exact .inr h
theorem ZdU {env:Env}:∀(names:List (Str×NameKind)) (cs0:List (Str×Addr)),(∀y∈names,y.2=.free->∃c,env.cells.lookup y.1=some c) ->
  ∃cl,(forIn names cs0 (λ(x:Str×NameKind) r=>(do
   match x with
   |(name,kind)=>if (kind==NameKind.free)=true then do let a <-cellOf env name;pure (ForInStep.yield ((name,a)::r))else pure (ForInStep.yield r)):_->_->Sem (ForInStep (List (Str×Addr)))))=pure cl /\
   (∀p∈cl,p∈cs0\/env.cells.lookup p.1=some p.2)/\(∀p∈cs0,p∈cl)/\(∀y∈names,y.2=.free->∃c,(y.1,c)∈cl)
 |[],cs0,_=>⟨cs0,rfl,λp h=>.inl h,λp h=>h,λy h=>by cases h⟩
 |(n,k)::r,cs0,h=>by
  by_cases hk:k=.free
  ·subst hk
   obtain⟨c,hc⟩:=h (n,.free) (.head _) rfl
   obtain⟨cl,e,h1,h2,h3⟩:=ZdU r ((n,c)::cs0) λy hy=>h y (.tail _ hy)
   refine⟨cl,?_,λp hp=>?_,λp hp=>h2 p (.tail _ hp),λy hy hf=>?_⟩
   ·rw[List.forIn_cons]
    have e1:cellOf env n=pure c:=by unfold cellOf;rw[hc]
    simp only[beq_self_eq_true,if_true,e1,pure_bind]
    exact e
   ·rcases h1 p hp with q|q
    ·rcases Yk.mp q with q|q
     ·subst q;exact .inr hc
     ·exact .inl q
    ·exact .inr q
   ·rcases Yk.mp hy with q|q
    ·subst q;exact⟨c,h2 _ (.head _)⟩
    ·exact h3 y q hf
  ·obtain⟨cl,e,h1,h2,h3⟩:=ZdU r cs0 λy hy=>h y (.tail _ hy)
   refine⟨cl,?_,h1,h2,λy hy hf=>?_⟩
   ·rw[List.forIn_cons]
    have e1:(k==NameKind.free)=false:=by cases k<;>first|rfl|exact absurd rfl hk
    simp only[e1,Bool.false_eq_true,if_false,pure_bind]
    exact e
   ·rcases Yk.mp hy with q|q
    ·subst q;exact absurd hf hk
    ·exact h3 y q hf
theorem ZhJ {env:Env}{scope:Scope} (h:∀y∈scope.names,y.2=.free->∃c,env.cells.lookup y.1=some c) :
  ∃cl,closureFor scope env=pure cl/\(∀x c,cl.lookup x=some c->env.cells.lookup x=some c)/\(∀y∈scope.names,y.2=.free->∃c,cl.lookup y.1=some c/\env.cells.lookup y.1=some c):=by
 obtain⟨cl,e,h1,h2,h3⟩:=ZdU (env:=env) scope.names [] h
 have up:∀x c,cl.lookup x=some c->env.cells.lookup x=some c:=λx c q=>by
  rcases h1 _ (PySem.mem_of_lookup q)with z|z
  ·cases z
  ·exact z
 refine⟨cl,?_,up,λy hy hf=>?_⟩
 ·unfold closureFor
  simp only[bind_pure_comp]at e⊢
  rw[e]
  exact pure_bind _ _
 ·obtain⟨c,hc⟩:=h3 y hy hf
  cases q:cl.lookup y.1 with
  |none=>exact absurd (List.lookup_eq_none_iff.mp q _ hc) (by simp)
  |some c'=>exact⟨c',rfl,up _ _ q⟩
noncomputable def compOk (around scope:Scope):Bool :=
 scope.kind==.function&&around.kind==.function&&scope.names.all λy=>match y.2 with
  |.local=>scope.names.lookup y.1==some .local
  |.cell=>false
  |.free=>(scope.names.lookup y.1==some .free)&&(around.names.lookup y.1==some .cell||around.names.lookup y.1==some .free)
  |_=>true
theorem ZeC {a s:Scope} (h:compOk a s=true):s.kind=.function:=by
 simp only[compOk,Bool.and_eq_true,beq_iff_eq]at h;exact h.1.1
theorem Zgx {a s:Scope} (h:compOk a s=true) {y:Str×NameKind} (hy:y∈s.names):(match y.2 with
  |.local=>s.names.lookup y.1==some .local
  |.cell=>false
  |.free=>(s.names.lookup y.1==some .free)&&(a.names.lookup y.1==some .cell||a.names.lookup y.1==some .free)
  |_=>true)=true:=by
 simp only[compOk,Bool.and_eq_true]at h
 exact List.all_eq_true.mp h.2 y hy
theorem ZjT {a s:Scope} (h:compOk a s=true):∀y∈s.names,y.2=.local->s.names.lookup y.1=some .local:=λy hy e=>by
 have q:=Zgx h hy
 rw[e]at q
 exact beq_iff_eq.mp q
theorem ZeD {a s:Scope} (h:compOk a s=true):∀y∈s.names,y.2≠.cell:=λy hy e=>by
 have q:=Zgx h hy
 rw[e]at q
 cases q
theorem ZcZ {a s:Scope} (h:compOk a s=true):∀y∈s.names,y.2=.free->a.names.lookup y.1=some .cell\/a.names.lookup y.1=some .free:=λy hy e=>by
 have q:=Zgx h hy
 rw[e]at q
 simp only[Bool.and_eq_true,Bool.or_eq_true,beq_iff_eq]at q
 exact q.2
theorem ZX {env:Env}:∀{names:List (Str×NameKind)}{x:Str}{k:NameKind},(names.map λ(n,k)=>if (k==NameKind.free&&env.scope.kind==.function&&env.kindOf n==some .cell)then (n,NameKind.cell)else (n,k)).lookup x=some k ->
  ∃k',names.lookup x=some k'/\(k=k'\/(k'=.free/\k=.cell))
 |[],_,_,h=>by simp at h
 |(n,k0)::r,x,k,h=>by
  by_cases hx:x=n
  ·subst hx
   refine⟨k0,by simp,?_⟩
   simp only[YG]at h
   split at h
   ·rename_i hc
    simp only[Bool.and_eq_true,beq_iff_eq]at hc
    simp only[List.lookup_cons_self,Option.some.injEq]at h
    exact .inr ⟨hc.1.1,h.symm⟩
   ·simp only[List.lookup_cons_self,Option.some.injEq]at h
    exact .inl h.symm
  ·have hb:(x==n)=false:=by simpa using hx
   simp only[YG]at h
   have e2:∀k1,((n,k1)::r).lookup x=r.lookup x:=λk1=>by simp[List.lookup_cons,hb]
   split at h<;>(simp only[List.lookup_cons,hb]at h;obtain⟨k',h1,h2⟩:=ZX h;exact⟨k',by rw[e2];exact h1,h2⟩)
noncomputable def Zav (X:Cx) (Nc:List Str) (scope:Scope) (cl:List (Str×Addr)) (C:Addr) (s2:Shared) (H2:Hp) (fp:List Addr):Cx where
 prog:=X.prog
 w:=X.w
 K:=X.K
 mg:=X.mg
 base:=X.base
 A:=X.A
 N:=Nc
 s₀:=s2
 H₀:=H2
 env:=compEnvC scope cl C X.env
 outer:=X.stack
 stack:=X.stack
 ex:=fp
 fn:=λ_=>false
 calm:=X.calm
 pn:=[]
 xe:=λ_ _=>False
noncomputable def iniC (js:List (Option Nat)) (σ:St):St:=js.map λj=>match j with
 |none=>none
 |some i=>(σ[i]?).join
noncomputable def Zaz (N Nc:List Str) (scope:Scope):List (Option Nat)->Nat->Bool
 |[],i=>i==Nc.length
 |none::r,i=>Zaz N Nc scope r (i+1)
 |some j::r,i=>(match Nc[i]?,N[j]? with
  |some x,some y=>x==y&&scope.names.lookup x==some .free
  |_,_=>false)&&Zaz N Nc scope r (i+1)
theorem ZdV {N Nc:List Str}{scope:Scope}:∀{js:List (Option Nat)}{i:Nat},Zaz N Nc scope js i=true->i+js.length=Nc.length
 |[],i,h=>by simpa[Zaz]using h
 |none::r,i,h=>by
  have:=ZdV (js:=r) (i:=i+1) (by simpa[Zaz]using h)
  simp only[YN];omega
 |some j::r,i,h=>by
  simp only[Zaz,Bool.and_eq_true]at h
  have:=ZdV (js:=r) (i:=i+1) h.2
  simp only[YN];omega
theorem Zfk {N Nc:List Str}{scope:Scope}:∀{js:List (Option Nat)}{i k j:Nat},Zaz N Nc scope js i=true->js[k]?=some (some j)->∃x,Nc[i+k]?=some x/\N[j]?=some x/\scope.names.lookup x=some .free
 |[],i,k,j,h,e=>by simp at e
 |none::r,i,0,j,h,e=>by simp at e
 |none::r,i,k+1,j,h,e=>by
  obtain⟨x,h1,h2,h3⟩:=Zfk (js:=r) (i:=i+1) (k:=k) (j:=j) (by simpa[Zaz]using h) (by simpa using e)
  exact⟨x,by rw[<-h1];congr 1;omega,h2,h3⟩
 |some j0::r,i,0,j,h,e=>by
  simp only[Zaz,Bool.and_eq_true]at h
  simp only[List.getElem?_cons_zero,Option.some.injEq]at e
  subst e
  cases e1:Nc[i]? with
  |none=>rw[e1]at h;simp at h
  |some x =>
   cases e2:N[j0]? with
   |none=>rw[e1,e2]at h;simp at h
   |some y =>
    rw[e1,e2]at h
    simp only[Bool.and_eq_true,beq_iff_eq]at h
    exact⟨x,by simpa using e1,by rw[h.1.1],h.1.2⟩
 |some j0::r,i,k+1,j,h,e=>by
  simp only[Zaz,Bool.and_eq_true]at h
  obtain⟨x,h1,h2,h3⟩:=Zfk (js:=r) (i:=i+1) (k:=k) (j:=j) h.2 (by simpa using e)
  exact⟨x,by rw[<-h1];congr 1;omega,h2,h3⟩
section
variable {X:Cx}
theorem lookup_mem {names:List (Str×NameKind)}{x:Str}{k:NameKind} (h:names.lookup x=some k):(x,k)∈names:=PySem.mem_of_lookup h
theorem ZlN {pins:List (Addr×Obj)}{σ:St}{H2:Hp}{s2:Shared}{Nc:List Str}{js:List (Option Nat)}{scope:Scope}{cl:List (Str×Addr)}{fp:List Addr}{h1:Heap}{tk:Nat}{D C:Addr}{oD:Obj}{m:Str->Option Value}
  (I:Inv X pins σ H2 s2) (hok:compOk X.env.scope scope=true) (htk:Zaz X.N Nc scope js 0=true) (up:∀x c,cl.lookup x=some c->X.env.cells.lookup x=some c) (hfr:∀y∈scope.names,y.2=.free->∃c,cl.lookup y.1=some c/\X.env.cells.lookup y.1=some c)
  (hfp:∀b∈fp,FpOk X pins H2 b) (hfl:∀b∈fp,b<s2.heap.objs.size) (hD:D=s2.heap.objs.size) (hC:C=s2.heap.objs.size+1) (old:∀b o,s2.heap.get? b=some o->h1.get? b=some o) (hns:h1.Ns C m) (hoD:h1.get? D=some oD) (hdD:∀v,oD.data≠.cell v) :
  Inv (Zav X Nc scope cl C s2 H2 fp) [(D,oD)] (iniC js σ) H2 {s2 with heap:=h1,toks:=tk}:=by
 have leC:s2.heap.objs.size<=C:=by rw[hC];exact Y4 _
 have leD:s2.heap.objs.size<=D:=Nat.le_of_eq hD.symm
 have kf:∀x,((compEnvC scope cl C X.env).kindOf x=some .cell\/(compEnvC scope cl C X.env).kindOf x=some .free)->∃c,cl.lookup x=some c/\X.env.cells.lookup x=some c:=λx hx=>by
  have:∃k,(compEnvC scope cl C X.env).kindOf x=some k/\(k=.cell\/k=.free):=hx.elim (λq=>⟨_,q,.inl rfl⟩) λq=>⟨_,q,.inr rfl⟩
  obtain⟨k,e,hk⟩:=this
  obtain⟨k',h1,h2⟩:=ZX (show(scope.names.map _).lookup x=some k from e)
  have hm:=lookup_mem h1
  have:k'=.free:=by
   rcases h2 with q|q
   ·subst q
    rcases hk with q|q
    ·subst q;exact absurd rfl (ZeD hok _ hm)
    ·exact q
   ·exact q.1
  subst this
  exact hfr _ hm rfl
 have nC:∀c x,X.env.cells.lookup x=some c->c<s2.heap.objs.size:=λc x e=>by
  obtain⟨v,q⟩:=I.cell x c e
  exact q.lt
 have noB:∀b,b∈fp->b∉frs X.stack:=λb hb q=>by
  rcases Yk.mp (I.ZdP b q)with z|z
  ·exact(hfp b hb).2.1 z
  ·exact(hfp b hb).2.2.1 z
 have okX:(Zav X Nc scope cl C s2 H2 fp).Ok:=by
  refine⟨I.ok.mod,(show scope.kind=.function from ZeC hok),I.ok.glob,I.ok.blt,?_,λx y c e1 e2=>I.ok.inj x y c (up _ _ e1) (up _ _ e2),λx hx=>?_,(λx c e=>nomatch e),I.ok.hd,I.ok.frames,.inl rfl,λb hb=>⟨?_,λx c e=>(hfp b hb).2.2.2.2.1 x c (up _ _ e)⟩,I.bs,Yi I.ok.bsz I.sz,λb o e hb=>?_,λb hb=>noB b hb,I.stack,I.Zht⟩
  ·show s2.heap.objs.size<=C;exact leC
  ·obtain⟨c,q,_⟩:=kf x hx;exact⟨c,q⟩
  ·exact Yj (Yp (hfl b hb) leC)
  ·rcases(hfp b hb).2.2.2.1 with q|q
   ·exact I.ok.noex b o e q
   ·exact absurd (Yp (Yh e) (Yi I.ok.bsz q)) (Yw _)
 refine⟨okX,rfl,I.bare,Un.kept old,⟨m,hns,λi x v e1 e2 e3=>?_⟩,λx c e=>?_,I.hok.fresh leC,λx c e=>I.freeC x c (up _ _ e),λp hp=>?_,I.hok.kept old,?_⟩
 ·have e2':(iniC js σ)[i]?=some (some v):=e2
  unfold iniC at e2'
  rw[Yx]at e2'
  cases q:js[i]? with
  |none=>rw[q]at e2';cases e2'
  |some j0 =>
   cases j0 with
   |none=>rw[q]at e2';cases e2'
   |some j =>
    rw[q]at e2'
    simp only[Option.map_some,Option.some.injEq]at e2'
    have e4:σ[j]?=some (some v):=by
     cases z:σ[j]? with
     |none=>rw[z]at e2';cases e2'
     |some o=>rw[z]at e2';simp only[Option.join_some]at e2';rw[e2']
    obtain⟨y,y1,y2,y3⟩:=Zfk htk q
    rw[Nat.zero_add]at y1
    have:x=y:=Yo ((show Nc[i]?=some x from e1).symm.trans y1)
    subst this
    have hm:=lookup_mem y3
    obtain⟨c,c1,c2⟩:=hfr _ hm rfl
    have hk:=ZcZ hok _ hm rfl
    obtain⟨m0,hn0,hl0⟩:=I.loc
    obtain⟨u,r,l⟩:=hl0 j x v y2 e4 (hk.elim (λz=>.inr (.inl z)) λz=>.inr (.inr z))
    refine⟨u,r,.inr ⟨?_,c,c1,?_⟩⟩
    ·rcases e3 with z|z|z
     ·obtain⟨k',w1,w2⟩:=ZX (show(scope.names.map _).lookup x=some NameKind.local from z)
      rw[y3]at w1;cases w1
      rcases w2 with w|w
      ·cases w
      ·cases w.2
     ·exact .inl z
     ·exact .inr z
    ·rcases l with⟨lk,_⟩|⟨_,c',c3,c4⟩
     ·rcases hk with z|z
      ·rw[show X.env.kindOf x=some .cell from z]at lk;cases lk
      ·rw[show X.env.kindOf x=some .free from z]at lk;cases lk
     ·rw[c2]at c3;cases c3
      obtain⟨oc,w1,w2⟩:=c4
      exact⟨oc,old _ _ w1,w2⟩
 ·obtain⟨v,oc,w1,w2⟩:=I.cell x c (up _ _ e)
  exact⟨v,oc,old _ _ w1,w2⟩
 ·have:p=(D,oD):=by
   have hp':p∈([]++[(D,oD)]:List (Addr×Obj)):=hp
   simpa using hp'
  subst this
  refine⟨hoD,I.hok.fresh leD,(by show D≠C;rw[hD,hC];exact Yj (Nat.lt_succ_self _)),λhb=>?_,hdD⟩
  have hb':D∈frs X.stack:=hb
  obtain⟨_,o,ho,_⟩:=I.stack.mem hb'
  exact absurd (Yp (Yh ho) leD) (Yw _)
 ·have:=ZdV htk
  show(iniC js σ).length=Nc.length
  unfold iniC;rw[Yg];omega
theorem ZeE {prog:Program}{w:World}{A:Around}{R:Result->Shared->Prop}{s:Shared}{elt target iter:Expr}{ifs:List Expr}{scope:Scope}{pos:Pos}{it acc:Value}{env:Env} (I:Nat->Shared->Prop)
  (turn:∀n s,I n s->wpAny (model prog w) A (pyNext it) (λr s₁=>match r with
   |none=>R (.ok .next) s₁
   |some v=>wpAny (model prog w) A (letOwnedTupleGo target it v) (λ_ s₁=>wpAny (model prog w) A (assign target env v) (λ_ s₂ =>
     wpAny (model prog w) A (forIn ifs true λc r=>if r=true then do let ok <-isTrue c env (eval c env);pure (ForInStep.yield ok)else pure (ForInStep.yield r)) (λok s₃ =>
      if ok=true then wpAny (model prog w) A (eval elt env) (λx s₄ =>
       wpAny (model prog w) A (call (.builtin "list.append") [acc,x]) (λ_ s₅=>∃m,m<n/\I m s₅) (λ_ _=>False) s₄) (λ_ _=>False) s₃
      else ∃m,m<n/\I m s₃) (λ_ _=>False) s₂) (λ_ _=>False) s₁) (λ_ _=>False) s₁) (λ_ _=>False) s)
  (n:Nat) (h:I n s) :
  codeAny (model prog w) A (.compLoop (.ListComp elt [⟨target,iter,ifs,0⟩] scope pos) 0 it acc env) R s:=by
 refine codeAny_loop rfl I (λn s hI=>?_) n h
 show wpAny _ A ((compTurn (.ListComp elt [⟨target,iter,ifs,0⟩] scope pos) 0 it acc env).onRaise (λx=>do noteFrame x env;theTreesLotGoes x)) _ _ s
 refine wpAny_noted ?_
 rw[compTurn_list]
 refine Ya (wpAny_standAt (Ya (Yt (turn n s hI) (λr s₁ h₁=>?_) λ_ _ h'=>h'.elim)))
 cases r with
 |none=>exact Yb h₁
 |some v =>
  refine Ya (Yt h₁ (λ_ s₁' h₁=>?_) λ_ _ h'=>h'.elim)
  refine Ya (Yt h₁ (λ_ s₂ h₂=>Ya (Yt h₂ (λok s₃ h₃=>?_) λ_ _ h'=>h'.elim)) λ_ _ h'=>h'.elim)
  cases ok with
  |false=>exact Yb ⟨rfl,h₃⟩
  |true =>
   exact Ya (Ya (Yt h₃ (λx s₄ h₄=>Ya (Yt h₄ (λ_ s₅ h₅=>Yb (Yb ⟨rfl,h₅⟩)) λ_ _ h'=>h'.elim)) λ_ _ h'=>h'.elim))
noncomputable def Zhf (X:Cx) (ifs:List Expr) (t:TT):Prop :=
 ∀(pins:List (Addr×Obj)) (s:Shared) (σ:St) (H:Hp) (Q:Bool->Hp->Prop),Inv X pins σ H s->t σ H Q ->
  wpAny (model X.prog X.w) X.A (forIn ifs true λc r=>if r=true then do let ok <-isTrue c X.env (eval c X.env);pure (ForInStep.yield ok)else pure (ForInStep.yield r)) (TP X pins σ Q) X.xe s
noncomputable def tYes:TT:=λ_ H Q=>Q true H
theorem ZJ:Zhf X [] tYes:=λpins s σ H Q I h=>wpAny_tests_nil ⟨H,I,h⟩
theorem ZhK {c:Expr}{t:TT} (h:PT X c t):Zhf X [c] t:=λpins s σ H Q I hq=>wpAny_tests_one (h pins s σ H Q I hq)
noncomputable def Zb0 (L:List Nat) (σ σ':St):Prop:=σ'.length=σ.length/\∀k,k∉L->σ'[k]?=σ[k]?
noncomputable def Zfr (g:TG) (L:List Nat):Prop:=∀v σ H (Q Q':St->Hp->Prop),(∀σ' H',Zb0 L σ σ'->Q σ' H'->Q' σ' H')->g v σ H Q->g v σ H Q'
noncomputable def ZjU (g:TGs) (L:List Nat):Prop:=∀v σ H (Q Q':St->Hp->Prop),(∀σ' H',Zb0 L σ σ'->Q σ' H'->Q' σ' H')->g v σ H Q->g v σ H Q'
theorem Zb0.refl {L:List Nat}{σ:St}:Zb0 L σ σ:=⟨rfl,λ_ _=>rfl⟩
theorem Zb0.trans {L L':List Nat}{a b c:St} (x:Zb0 L a b) (y:Zb0 L' b c):Zb0 (L++L') a c :=
 ⟨y.1.trans x.1,λk hk=>(y.2 k λz=>hk (Ym _ z)).trans (x.2 k λz=>hk (YH _ z))⟩
theorem Zp {i:Nat}:Zfr (gName i) [i]:=λv σ H Q Q' hq h=>hq _ _ ⟨by simp,λk hk=>by
 rw[List.getElem?_set_ne]
 intro z;subst z;exact hk (by simp)⟩ h
theorem ZbW:ZjU gNil []:=λv σ H Q Q' hq h=>⟨h.1,hq _ _ Zb0.refl h.2⟩
theorem ZD {t:TG}{u:TGs}{L L':List Nat} (h1:Zfr t L) (h2:ZjU u L'):ZjU (gCons t u) (L++L'):=λv σ H Q Q' hq h=>by
 obtain⟨x,r,e,h⟩:=h
 exact⟨x,r,e,h1 _ _ _ _ _ (fun σ' H' k1 q=>h2 _ _ _ _ _ (fun σ2 H2 k2 q2=>hq _ _ (k1.trans k2) q2) q) h⟩
theorem ZbX {K:PySem.W.Frag}{n:Nat}{t:TGs}{L:List Nat} (h:ZjU t L):Zfr (gTup K n t) L:=λv σ H Q Q' hq q=>by
 obtain⟨a,xs,e1,e2,e3,q⟩:=q
 exact⟨a,xs,e1,e2,e3,h _ _ _ _ _ hq q⟩
noncomputable def ZmF (wi:TI) (g:TG) (tt:TT) (te:TE) (js:List (Option Nat)):TE:=fun σ H Q=>wi σ H λJ H1=>∃W:Nat->Nat->List V->Hp->Prop,(∃m,W 0 m [] H1)/\∀i m acc H,W i m acc H ->
 (J.stop i H/\acc.length<=sizeLine/\∀p,H p=none->Q (.ref p) (upd H p (.lst acc))) \/
 (J.go i H/\acc.length<sizeLine/\∀x H',J.yld i H x H'->g x (iniC js σ) H' fun σ2 H2=>tt σ2 H2 λb H3=>if b=true then te σ2 H3 λv H4=>∃m',m'<m/\W (i+1) m' (acc++[v]) H4 else ∃m',m'<m/\W (i+1) m' acc H3)
theorem ZjV {C:Addr}{h:Heap}:Heap.SameBut C h h:=by
 first|exact Heap.SameBut.refl|exact⟨rfl,λ_ _=>rfl⟩
end
end L2
namespace L2
open PySem PySem.Spec PyProof.Rows PySem.W PySem.Builtin.ObjectAttr PySem.Builtin.Getset_descriptor
noncomputable def ZkN (x C:Addr) (h:Heap):Prop:=∃o,h.get? x=some o/\o.cls=.ref C
structure ExK (K:Frag) (C:Addr):Prop where
 dk:hasDictIn K C=true
 ga:findIn K (.ref C) "__getattribute__"=some (some (.builtin "BaseException.__getattribute__"))
 gt:findIn K (.ref C) "__getattr__"=some none
 cl:findIn K (.ref C) "__class__"=some (some (.builtin "object.__class__"))
 gg:specialIn K (.builtin "object.__class__") "__get__"=some (some (.builtin "getset_descriptor.__get__"))
 tk:takesIn K (.builtin "object.__class__")=some true
 mo:mroIn K C (.type "object")=some true
 mb:mroIn K C (.type "BaseException")=some true
section
variable {K:Frag}{x C:Addr}
theorem ZkN.type {M:Model}{h:Heap} (I:ZkN x C h):Looks M h (typeOf (.ref x)) (.ref C):=by
 obtain⟨o,e,c⟩:=I
 exact c▸(Looks.ld e).andThen .now
theorem Zo3 {M:Model}{h:Heap} (X:K.In h) (Z:ExK K C):Looks M h (find (.ref x) (.ref C) "__class__") (.bind (.builtin "getset_descriptor.__get__") (.builtin "object.__class__")):=by
 have L3:=looks_takesIn (M:=M) X Z.tk
 exact(looks_findIn (M:=M) X Z.cl).andThen ((looks_specialIn X Z.gg).andThen
  ((show Looks M h (dataDescriptor? (some (.builtin "object.__class__")) (some (.builtin "getset_descriptor.__get__"))) (some (.builtin "getset_descriptor.__get__",.builtin "object.__class__"))from L3.andThen .now).andThen (Looks.tag .now)))
theorem Zrp {prog:Program}{w:World}{A:Around}{R:Result->Shared->Prop}{s:Shared}{tp:Value} (X:K.In s.heap) (I:ZkN x C s.heap) (Z:ExK K C) (hR:R (.ok (.ret (.ref C))) s) :
  codeAny (model prog w) A (.call (.builtin "getset_descriptor.__get__") ⟨[.builtin "object.__class__",.ref x,tp],[]⟩) R s:=by
 obtain⟨hp,gn,dw,tk,os⟩:=s
 have L0:=I.type (M:=model prog w)
 have L1:=looks_mroIn (M:=model prog w) X Z.mo
 refine codeAny_call_builtin KF.slot_gs.plain KF.entry_gs (KF.slot_gs.check _ _ _ _ _ _ _ _ KF.type_class (KF.args_gs _ _ _) ?_)
 unfold Builtin.«getset_descriptor.__get__» descrGet;rw[dga_obj];refine Ya (Yb ?_)
 unfold descrGetter descrCheckInstance descrNameAndClass isInstance;simp only[KF.owner_class]
 repeat lk
 refine⟨Code.quiet_builtin _ (by decide +kernel),codeAny_builtin KF.entry_class ?_⟩;unfold Builtin.«object.__class__» shownTypeOf
 repeat lk
 exact hR
theorem Znd {prog:Program}{w:World}{A:Around}{E:Value->Shared->Prop}{s:Shared}{tk:Tok}{Q:Fin->Shared->Prop} (X:K.In s.heap) (I:ZkN x C s.heap) (Z:ExK K C) (hQ:Q (.done (.ret (.ref C))) s) :
  wpAny (model prog w) A (Builtin.«object.__getattribute__» ⟨[.ref x,.str "__class__" tk],[]⟩) Q E s:=by
 obtain⟨hp,gn,dw,t,os⟩:=s
 have L0:=I.type (M:=model prog w)
 have L2:=Zo3 (M:=model prog w) (x:=x) X Z
 unfold Builtin.«object.__getattribute__»
 refine Ya (Yb (Ya (Yb (Ya (L0.at (Ya (L2.at ?_)))))))
 show wpAny _ _ (holding _ (call _ _) >>= ret) _ _ _
 exact Ya (wpAny_holding (wpAny_call (Zrp (s:=⟨hp,gn,dw,t,os⟩) X I Z (Yb hQ))))
theorem Zne {M:Model}{A:Around}{E:Value->Shared->Prop}{s:Shared}{nameV:Value}{Q:Unit->Shared->Prop} (X:K.In s.heap) (I:ZkN x C s.heap) (Z:ExK K C) (hq:Q () s) :
  wpAny M A (checkBuiltinCall "BaseException.__getattribute__" ⟨[.ref x,nameV],[]⟩) Q E s:=by
 obtain⟨hp,gn,dw,t,os⟩:=s
 have hk:builtinKind "BaseException.__getattribute__"=some .slot:=by decide +kernel
 have hsplit:splitId "BaseException.__getattribute__"=some ("BaseException","__getattribute__"):=by decide +kernel
 have L0:=I.type (M:=M)
 have L1:=looks_mroIn (M:=M) X Z.mb
 have ha:=F.args_bexc_ga (.ref x) nameV
 simp only[checkBuiltinCall,hk,hsplit]
 refine Ya ?_
 unfold isInstance
 refine Ya (L0.at (L1.at ?_))
 repeat (first|assumption|wp_step)
theorem Znf {prog:Program}{w:World}{A:Around}{E:Value->Shared->Prop}{s:Shared}{Q:Option Value->Shared->Prop} (X:K.In s.heap) (I:ZkN x C s.heap) (Z:ExK K C) (hQ:Q (some (.ref C)) {s with toks:=s.toks+1}) :
  wpAny (model prog w) A (getAttr? (.ref x) "__class__") Q E s:=by
 obtain⟨hp,gn,dw,tk,os⟩:=s
 have L0:=I.type (M:=model prog w)
 have L1:=looks_findIn (M:=model prog w) X Z.ga
 have L3:=looks_findIn (M:=model prog w) X Z.gt
 have hb:=(F.attrBase_ValueError.ga).bind (.ref x)
 unfold getAttr? getAttrBy? getAttrBy;refine Ya (wpAny_mkText (Ya (wpAny_attempt (wpAny_holding (Ya (L0.at (Ya (L1.at ?_))))))))
 show wpAny _ _ (getAttrByItsOwn _ _ _ _ _ _) _ _ _
 unfold getAttrByItsOwn hookBefore
 refine Ya (L3.at ?_)
 refine Ya (wpAny_attempt (wpAny_holding ?_))
 unfold callGetattribute
 show wpAny _ _ (boundAndCalled _ _ _) _ _ _
 unfold boundAndCalled
 rw[hb]
 refine Ya (Yb ?_)
 refine wpAny_call ?_
 refine codeAny_call_builtin F.attrBase_ValueError.ga.plain F.entry_bexc_ga (Zne (s:=⟨hp,gn,dw,tk+1,os⟩) X I Z (Znd (s:=⟨hp,gn,dw,tk+1,os⟩) X I Z ?_))
 exact handed_on rfl (Yb hQ)
theorem Zrq (Z:ExK K C):KitX K (.ref x) (.ref C) (ZkN x C) where
 ty:=λ_ _ _ I=>I.type
 it:=λ_ _ X _=>by
  obtain⟨cdD,hcD,_⟩:=any_some Z.dk
  unfold clsIn at hcD
  split at hcD
  ·rename_i c' d' cd' sl' ho
   intro A' Q' E' s' k q
   unfold isType loadHead;exact Ya (wpAny_loadPart (k _ _ (X _ _ ho)) (Yb q))
  ·cases hcD
 ne:=λh tp dd its n sl X htp=>by
  obtain⟨cdD,hcD,_⟩:=any_some Z.dk
  refine Bool.eq_false_iff.mpr λq=>?_
  have e:C=tp:=Value.ref.inj (beq_iff_eq.mp q);subst e
  unfold clsIn at hcD
  split at hcD
  ·rename_i c' d' cd' sl' ho
   have z:=(X _ _ ho).symm.trans htp;cases z
  ·cases hcD
 ca:=λX I k=>Znf X I Z k
end
noncomputable def ExcO (e C:Addr):HO:=.ext (ZkN e C)
noncomputable def tyIs (K:Frag) (H:Hp) (x:V) (c:Value) (b:Bool):Prop :=
 (∃t,TyOf K H x t/\kitOne K t c=some b)\/∃e C,x=.ref e/\H e=some (ExcO e C)/\ExK K C/\kitOne K (.ref C) c=some b
noncomputable def cOf:V->Option Value
 |.ref a=>some (.ref a)
 |.ty n=>some (.type n)
 |_=>none
section
variable {X:Cx}
noncomputable def rIsi (K:Frag):List V->Hp->VK->Prop:=λxs H Q=>∃x v c b,xs=[x,v]/\cOf v=some c/\tyIs K H x c b/\Q (.bl b) H
theorem Zo4:Zcg X (.builtin "isinstance") (rIsi X.K):=by
 intro pins s σ H xs us Q I r h
 obtain⟨x,v,c,b,rfl,hc,ht,q⟩:=h
 obtain⟨u,u2,rfl,ru,ru2⟩:=r.two
 have e2:u2=c:=by
  cases v with
  |ref a=>have:=(show u2=Value.ref a from ru2);cases hc;exact this
  |ty n=>have:=(show u2=Value.type n from ru2);cases hc;exact this
  |_=>cases hc
 subst e2
 have fin:∀tk,EP X pins σ Q (.bool b) {s with toks:=tk}:=λtk=>⟨.bl b,H,I.tok tk,rfl,q⟩
 rcases ht with⟨t,ty,e⟩|⟨e,C,rfl,hH,Z,e1⟩
 ·exact Zm8 I ru ty e fin
 ·cases(show u=Value.ref e from ru)
  obtain⟨p,_,_⟩:=(show ZQ X.prog X.w H s.heap e (ExcO e C)from I.hok e _ hH)
  exact kia_one (Zrq Z) I.kIn p e1 (λz=>nomatch z) fin
end
end L2
namespace L2
open PySem PySem.Spec PyProof.Rows
structure Fly (P:Program) (w:World) (outer:List Env) (H:Hp) (s:Shared) (H':Hp) (B:Heap) (e:Addr) (C a0:Value) (s':Shared):Prop where
 os:s'.os=s.os
 bare:AllBare s'.gens
 fly:Heap.FlyingW B outer e C a0 s'.heap
 hok:HOk P w H' B
 keep:∀b o,s.heap.get? b=some o->H b=none->b∉frs outer->B.get? b=some o
 slot:∀b o,s.heap.get? b=some o->b∈frs outer->(∀vs,o.data≠.fields vs)->∃sl,s'.heap.get? b=some {o with slots:=sl}
 free:∀b o,s.heap.get? b=some o->H b=none->H' b=none
 there:∀b o,s.heap.get? b=some o->b∉frs outer->∃o',B.get? b=some o'
 tups:∀b xs,H b=some (.tup xs)->H' b=some (.tup xs)
 frzs:∀b o u,H b=some (.frz o u)->H' b=some (.frz o u)
 tbls:∀b ps,H b=some (.tbl ps)->∃more,H' b=some (.tbl (ps++more))
noncomputable def CXE (P:Program) (w:World):CXT:=λouter H s E ev s'=>∃e C a0 H' B,ev=.ref e/\Fly P w outer H s H' B e C a0 s'/\E C none H'
theorem Zv {P:Program}{w:World}{X:Cx}:Passes (CXE P w) X E0:=λ_ _ _ _ _ _ _ ⟨_,_,_,_,_,_,_,z⟩=>z.elim
section
variable {P:Program}{w:World}{K:PySem.W.Frag}{mg:Str->Option Value}{base:Heap}{N:List Str}{qual:Str}{scope:Scope}{f:Addr}{cd:Value}{A:Around}{outer:List Env}{s:Shared}{H:Hp}{E:XK}
theorem ZjW {pins:List (Addr×Obj)}{σ:St}{H1:Hp}{s1:Shared}{h':Heap}{e:Addr}{C:Value}{vs:List Value} (I:Inv (ZfE (CXE P w) P w K mg base N qual scope f cd A outer s H E) pins σ H1 s1)
  (hx:Heap.MadeExcOf s1.heap h' e C vs) (hE:E C none H1):(ZfE (CXE P w) P w K mg base N qual scope f cd A outer s H E).xe (.ref e) {s1 with heap:=h'}:=by
 let env:=envOfC qual scope s.heap.objs.size f cd
 let B:=PySem.W.hideAll s1.heap (frs (env::outer))
 have hin:∀en∈(env::outer),∀b,en.frame=some b->b∈frs (env::outer):=λen he b hb=>List.mem_filterMap.mpr ⟨en,he,hb⟩
 have st:s1.heap.FunFrames base (env::outer):=I.stack
 have loc:∀b,b∈frs (env::outer)->b=s.heap.objs.size\/b∈frs outer:=λb hb=>Yk.mp (I.ZdP b hb)
 have old:∀b o,s.heap.get? b=some o->b∉frs outer->b∉frs (env::outer):=λb o q nb hb=>by
  rcases loc b hb with z|z
  ·exact absurd (Yh q) (by rw[z];exact Yw _)
  ·exact nb z
 have un:Un (frs outer) [] H H1 s.heap s1.heap:=I.base
 have hokB:HOk P w H1 B:=λa o q=>by
  have nf:∀b o,H1 b=some o->b∉frs (env::outer):=λb o z hb=>by
   have:=I.Zht b hb
   rw[this]at z;cases z
  refine(I.hok a o q).Zgr (λb u hb z=>?_) (λ_ z=>z) (λ_ _ z=>z) λ_ _ _ z=>z
  rcases hb with hb|hb
  ·rw[hb]at z⊢;exact PySem.W.hideAll_get _ z (nf a o q)
  ·exact PySem.W.hideAll_get _ z (nf b _ hb)
 refine wpAny_leaves_madeW (base:=B) (h:=s1.heap) (env:=env) (outer:=outer) (L:=s.heap.objs.size) I.ok.frames rfl (λb o q=>PySem.W.of_hideAll _ q) (PySem.W.funFrames_hide st hin) hx λh2 t x1 x2 x3 x4=>?_
 refine⟨e,C,.ref t,H1,B,rfl,⟨I.os,I.bare,x1,hokB,λb o q n nb=>?_,λb o q hb hd=>?_,λb o q n=>un.free b o q n (by simp),λb o q nb=>?_,un.tups,un.frzs,un.tbls⟩,hE⟩
 ·exact PySem.W.hideAll_get _ (un.keep b o q n nb (by simp)) (old b o q nb)
 ·obtain⟨sl,z⟩:=un.slot b o q (I.ok.frf b hb) hb (by simp)
  obtain⟨sl2,z2⟩:=x4 b _ (hx.keeps _ _ z) hd
  exact⟨sl2,z2⟩
 ·obtain⟨o',z⟩:=un.there b o q (by simp)
  exact⟨o',PySem.W.hideAll_get _ z (old b o q nb)⟩
theorem ZmG:Passes (CXE P w) (ZfE (CXE P w) P w K mg base N qual scope f cd A outer s H E) E:=by
 intro pins σ H1 s1 ev s2 I h
 obtain⟨e,C,a0,H',B,rfl,F,hE⟩:=h
 let env:=envOfC qual scope s.heap.objs.size f cd
 have un:Un (frs outer) [] H H1 s.heap s1.heap:=I.base
 have loc:∀b,b∈frs (env::outer)->b=s.heap.objs.size\/b∈frs outer:=λb hb=>Yk.mp (I.ZdP b hb)
 have old:∀b o,s.heap.get? b=some o->b∉frs outer->b∉frs (env::outer):=λb o q nb hb=>by
  rcases loc b hb with z|z
  ·exact absurd (Yh q) (by rw[z];exact Yw _)
  ·exact nb z
 refine wpAny_leaves_onW (env:=env) (outer:=outer) (L:=s.heap.objs.size) I.ok.frames rfl F.fly λh2 x1 x2=>?_
 refine⟨e,C,a0,H',B,rfl,⟨F.os.trans I.os,F.bare,x1,F.hok,λb o q n nb=>F.keep b o (un.keep b o q n nb (by simp)) (un.free b o q n (by simp)) (old b o q nb),λb o q hb hd=>?_,λb o q n=>?_,λb o q nb=>?_,λb xs z=>F.tups b xs (un.tups b xs z),λb o u z=>F.frzs b o u (un.frzs b o u z),λb ps z=>?_⟩,hE⟩
 ·obtain⟨sl,z⟩:=un.slot b o q (I.ok.frf b hb) hb (by simp)
  obtain⟨en,he,hf⟩:=List.mem_filterMap.mp hb
  obtain⟨sl2,z2⟩:=F.slot b _ z (List.mem_filterMap.mpr ⟨en,.tail _ he,hf⟩) hd
  obtain⟨sl3,z3⟩:=x2 b _ z2 hd
  exact⟨sl3,z3⟩
 ·by_cases hb:b∈frs outer
  ·have h1:H1 b=none:=un.free b o q n (by simp)
   obtain⟨sl,z⟩:=un.slot b o q n hb (by simp)
   exact F.free b _ z h1
  ·exact F.free b o (un.keep b o q n hb (by simp)) (un.free b o q n (by simp))
 ·obtain⟨o',z⟩:=un.there b o q (by simp)
  exact F.there b o' z (old b o q nb)
 ·obtain⟨m1,z1⟩:=un.tbls b ps z
  obtain⟨m2,z2⟩:=F.tbls b _ z1
  exact⟨m1++m2,by rw[<-Array.append_assoc];exact z2⟩
end
abbrev bmV:List Value:=[.type "ValueError",.type "Exception",.type "BaseException",.type "object"]
abbrev newV:String:="ValueError.__new__"
theorem own_mk {K:PySem.W.Frag}{h:Heap}{mg:Str->Option Value}{x:Str}{C:Addr} (X:K.In h) (hm:mg x=some (.ref C)) (q:PySem.W.excIn K C bmV newV=true):OwnCls x C bmV newV mg h:=by
 refine⟨hm,?_⟩
 unfold PySem.W.excIn at q;split at q
 ·rename_i dd cd sl ho
  split at q
  ·rename_i C' bm k0 k1 k2 k3 n k5 hmm hs
   simp only[Bool.and_eq_true,beq_iff_eq,Bool.not_eq_true']at q;obtain⟨⟨⟨⟨⟨rfl,rfl⟩,hdel⟩,ht⟩,hok⟩,hni⟩:=q
   obtain⟨nm,bs,mro,ns,qn,hd,sn,sub,ab,col,del⟩:=cd;dsimp only at hmm hdel hok hni;subst hmm hdel
   have hsl:sl=#[k0,k1,k2,k3,some (.builtin newV),k5]:=by obtain⟨l⟩:=sl;simp only at hs;rw[hs]
   subst hsl;exact⟨bm,ns,nm,qn,bs,hd,sn,sub,ab,col,dd,k0,k1,k2,k3,k5,_,X _ _ ho,.of_isNs (PySem.W.isNs_of_in X hok),PySem.W.nsMap_none_of_in X hok hni,PySem.W.tail_of_in X ht⟩
  ·cases q
 ·cases q
section
variable {X:Cx}
noncomputable def tRaise (C:Addr) (E:XK) (t:TA):TS:=λ_ σ H=>t σ H λvs H1=>vs.length<=sizeLine/\E (.ref C) none H1
theorem Zo5 {x:Str}{C:Addr}{np cpos pos:Pos}{e0:Expr}{es:List Expr}{t:TA}{E:XK} (hc:X.calm=true) (hg:Gl X x) (hm:X.mg x=some (.ref C)) (q:PySem.W.excIn X.K C bmV newV=true) (ha:PA X (e0::es) t)
  (hx:∀pins σ H s h' e vs,Inv X pins σ H s->Heap.MadeExcOf s.heap h' e (.ref C) vs->E (.ref C) none H->X.xe (.ref e) {s with heap:=h'})
  (he:starEach (e0::es) X.env=(false,eval e0 X.env)::starEach es X.env:=by rfl) (hpl:(backTo cpos (starEach es X.env)).any (·.1)=false:=by rfl) (hd:(x==("__debug__":Str))=false:=by decide) :
  PS X (.Raise (some (.Call (.Name x np) (e0::es) [] cpos)) none pos) (tRaise C E t):=by
 intro pins s σ H D I h
 obtain⟨tl,Nn,nm,qn,bs,hdct,sn,sub,ab,col,dd,k0,k1,k2,k3,k5,mN,hC,hN,hni,T⟩:=(own_mk (x:=x) I.mod.kin hm q).obj
 refine wpAny_Raise_call_subT (C:=C) (nm:=nm) (q:=qn) (N:=Nn) (bs:=bs) (bm:=tl) (hdct:=hdct) (sn:=sn) (sub:=sub) (ab:=ab) (col:=col) (dd:=dd) (k0:=k0) (k1:=k1) (k2:=k2) (k3:=k3) (k5:=k5)
  PySem.F.excBase_ValueError (mN:=mN) (T.hasType PySem.F.excBase_ValueError.hasBase) (I.ok.hd hc) (by rw[he];show(false||(backTo cpos (starEach es X.env)).any (·.1))=false;rw[hpl];rfl) hni (ZjL I hg hm ⟨rfl,?_⟩ hd)
 have h2:=ha cpos pins s σ H _ I h
 rw[he]at h2⊢
 exact Calls.evalArgs_plain (thn h2 λus s2 ⟨vs,H2,I2,r,z,q2⟩=>⟨rfl,by rw[<-r.length];exact z,I2.bk _ _ hC,hN.keeps I2.bk,T.keeps I2.bk,λh' e hm'=>hx pins σ H2 s2 h' e us I2 hm' q2⟩)
end
section
variable {P:Program}{w:World}{K:PySem.W.Frag}{mg:Str->Option Value}{base:Heap}
theorem Fun.okX {x qual:Str}{st:Stmt}{f:Addr}{fd:FuncData}{N ps:List Str}{k:Nat}{sp:Sp} (F:Fun K x qual st f fd) (S:FnScope N ps (defScope st)) (len:∀vs H Q E,sp vs H Q E->vs.length=ps.length)
  (hbody:∀(cdv:Value) (A:Around) (outer:List Env) (s:Shared) (H:Hp) (vs:List V) (Q:VK) (E:XK),Room k (A.deeper (envOfC qual (defScope st) s.heap.objs.size f cdv))->sp vs H Q E ->
   ∃t,PSs (ZfE (CXE P w) P w K mg base N qual (defScope st) f cdv A outer s H E) (defBody st) t/\t {nx:=λ_ H'=>Q .non H',rt:=Q} (start N vs) H):FnOk P w K mg base (CXE P w) (k+1) f fd ps sp:=by
 obtain⟨oc,od,kV,doc,pm,an,cdv,ct,osl,rfl,lk,hcd⟩:=F.ex
 exact ZoX lk hcd S len λA outer s H vs Q E hr hsp=>hbody cdv A outer s H vs Q E hr hsp
end
end L2
namespace L2
open PySem PySem.Spec PyProof.Rows PySem.W
theorem Zhw:∀{ns:List Int}{us:List Value},Vals (ns.map V.int) us->∃xs:Array (Int×Tok),us.toArray=intItems xs/\xs.toList.map (·.1)=ns
 |[],_,.nil=>⟨#[],by simp[intItems],rfl⟩
 |n::ns,_,.cons (b:=u) r t=>by
  obtain⟨tk,rfl⟩:=(show ∃t,u=Value.int n t from r)
  obtain⟨xs,e1,e2⟩:=Zhw t
  refine⟨#[(n,tk)]++xs,?_,by simp[e2]⟩
  have:∀(l:List Value),(Value.int n tk::l).toArray=#[Value.int n tk]++l.toArray:=λl=>by simp
  rw[this,e1]
  simp[intItems]
section
variable {X:Cx}
theorem Zcj:OpR X (binaryOp .Mult) (rI IntMulOk λi j=>.int (i*j)):=opI λ_ _ _ _ _ _ _ hc q=>mul_int q hc
theorem Zng (hc:X.calm=true):Zcg X (.builtin "min") (λxs H Q=>∃(p:Addr) (ns:List Int),xs=[.ref p]/\SqL X.K H p (ns.map V.int)/\ns≠[]/\∀m,m∈ns->(∀a∈ns,m<=a)->Q (.int m) H):=by
 intro pins s σ H xs us Q I r h
 obtain⟨p,ns,rfl,hp,hne,q⟩:=h
 obtain⟨u,rfl,ru⟩:=r.one
 cases(show u=Value.ref p from ru)
 obtain⟨its,rv,pl,hz⟩:=I.list hp
 obtain⟨ys,e1,e2⟩:=Zhw rv
 have hsz:0<ys.size:=by
  have:=congrArg List.length e2
  rw[Yg,YK]at this
  cases ns with
  |nil=>exact absurd rfl hne
  |cons=>simp at this;omega
 refine min_intList (xs:=ys) (I.ok.hd hc) (e1▸pl.isList) hsz λv h' tk hv k=>?_
 obtain⟨t,rfl⟩:=intItems_at hv
 obtain⟨h1,h2⟩:=argBest_lt (numAt ys) (ys.size-1)
 refine⟨.int _,H,I.kept k,⟨t,rfl⟩,q _ ?_ λa ha=>?_⟩
 ·rw[numAt_eq,e2];exact getD_mem (by rw[<-e2,Yg,YK];omega)
 ·obtain⟨j,hj,rfl⟩:=mem_getD ha
  rw[<-e2,Yg,YK]at hj
  rw[<-e2,<-numAt_eq];exact h2 j (by omega)
noncomputable def PJ (X:Cx) (es:List (Sem Value)) (t:St->Hp->(Hp->Prop)->Prop):Prop :=
 ∀(out:Str) (pins:List (Addr×Obj)) (s:Shared) (σ:St) (H:Hp) (Q:Hp->Prop),out.length+2000*es.length<=100000->Inv X pins σ H s->t σ H Q ->
  wpAny (model X.prog X.w) X.A (joinParts out es) (λu s'=>∃y tk H',u=.str y tk/\Inv X pins σ H' s'/\Q H') X.xe s
theorem pj_nil:PJ X [] (λ_ H Q=>Q H):=λout pins s σ H Q hl I h =>
 joinParts_nil ⟨out,_,H,rfl,I.tok _,h⟩ (by simp at hl;exact Yi hl (by decide))
theorem ZjX {x:Str}{j:Nat}{pos:Pos}{es:List (Sem Value)}{t:St->Hp->(Hp->Prop)->Prop} (hx:x.length<=2000) (h:PJ X es t):PJ X (eval (.Constant (.str x) j pos) X.env::es) t:=by
 intro out pins s σ H Q hl I hq
 have hl':(out++x).length+2000*es.length<=100000:=by rw[PySem.strLen_append];simp at hl;omega
 refine joinParts_cons (Calls.Constant_str ⟨Yi (Yi (Nat.le_add_right _ _) hl') (by decide),?_⟩)
 exact h _ pins _ σ H Q hl' (I.tok _) hq
theorem Znh {i:Int} (h0:0<=i) (h1:i<10 ^ 18):i.natAbs.log2<1920:=by
 by_cases hz:i.natAbs=0
 ·rw[hz];decide
 ·have h3:i.natAbs<2 ^ 60:=by
   have:(2:Nat) ^ 60=1152921504606846976:=by decide
   have h2:(10:Int) ^ 18=1000000000000000000:=by decide
   omega
  exact Yp ((Nat.log2_lt hz).mpr h3) (by decide)
theorem Zo6 {e:Expr}{pos:Pos}{es:List (Sem Value)}{te:TE}{t:St->Hp->(Hp->Prop)->Prop} (he:PE X e te) (h:PJ X es t):PJ X (eval (.FormattedValue e (-1) none pos) X.env::es) (fun σ H Q=>te σ H λx H1=>∃i:Int,x=.int i/\(0<=i/\i<10 ^ 18)/\t σ H1 Q):=by
 intro out pins s σ H Q hl I hq
 refine joinParts_cons (FormattedValue_plain (thn (he pins s σ H _ I hq) λu s1 ⟨x,H1,I1,r1,i,ex,⟨h0,h1⟩,q⟩=>?_))
 subst ex
 obtain⟨tk,rfl⟩:=(show ∃t,u=Value.int i t from r1)
 refine wpAny_formatField_int (Znh h0 h1) ?_
 have hx:(Str.ofString (toString i)).length<=18:=toString_length_le h0 (by decide) h1
 have hl':(out++Str.ofString (toString i)).length+2000*es.length<=100000:=by rw[PySem.strLen_append];simp at hl;omega
 refine⟨Yi (Yi (Nat.le_add_right _ _) hl') (by decide),?_⟩
 exact h _ pins _ σ H1 Q hl' (I1.tok _) q
theorem ZkO (env:Env):∀l:List Expr,(evalEach l env).length=l.length
 |[]=>rfl
 |e::r=>by
  have:evalEach (e::r) env=eval e env::evalEach r env:=rfl
  rw[this,YN,YN,ZkO env r]
theorem Zni {e1 e2:Expr}{rest:List Expr}{pos:Pos}{t:St->Hp->(Hp->Prop)->Prop} (h:PJ X (eval e1 X.env::eval e2 X.env::evalEach rest X.env) t) (hn:rest.length<=20:=by decide) :
  PE X (.JoinedStr (e1::e2::rest) pos) (fun σ H Q=>t σ H λH1=>∀y,Q (.str y) H1):=by
 intro pins s σ H Q I hq
 have hle:=ZkO X.env rest
 refine JoinedStr_many (thn (h Str.empty pins s σ H _ (by simp only[YN,hle];show 0+_<=_;omega) I hq) λu s' ⟨y,tk,H',e,I',q⟩=>?_)
 subst e
 exact⟨.str y,H',I',⟨tk,rfl⟩,q y⟩
end
noncomputable def clsAt (mg:Str->Option Value) (x:Str):Addr:=match mg x with
 |some (.ref C)=>C
 |_=>0
noncomputable def Callee (P:Program) (w:World) (K:Frag) (mg:Str->Option Value) (base:Heap) (x:Str) (k:Nat) (ps:List Str) (sp:Sp):Prop :=
 ∃f fd,mg x=some (.ref f)/\keepIn K (.ref f)=true/\Binds K fd ps []/\FnOk P w K mg base (CXE P w) k f fd ps sp
section
variable {X:Cx}
theorem ZaU {st:Stmt}{t:TS} (h:PS X.nox st t):PS X st t:=λpins s σ H D I hw =>
 Yt (h pins s σ H D (I.ZiJ _) hw) (λ_ _ q=>q.ZeA) λ_ _ z=>False.elim z
theorem Zi {x:Str}{k:Nat}{ps:List Str}{sp:Sp}{E:XK}{e:Expr}{es:List Expr}{t:TA}{p pos:Pos} (C:Callee X.prog X.w X.K X.mg X.base x k ps sp) (hr:Room k X.A) (hg:Gl X x) (hx:Passes (CXE X.prog X.w) X E)
  (ha:PA X (e::es) t) (hdb:(x==("__debug__":Str))=false:=by decide) (he:starEach (e::es) X.env=(false,eval e X.env)::starEach es X.env:=by rfl) (hpl:(backTo pos (starEach es X.env)).any (·.1)=false:=by rfl) :
  PE X (.Call (.Name x p) (e::es) [] pos) (tCall sp [] E t):=by
 obtain⟨f,fd,hm,hk,hb,F⟩:=C
 exact Zrm F hr hg hm hk hb .nil hx ha hdb he hpl
theorem Zrr {P:Program}{w:World}{K:Frag}{mg:Str->Option Value}{base:Heap}{N:List Str}{qual:Str}{scope:Scope}{f:Addr}{cd:Value}{A:Around}{outer:List Env}{s0:Shared}{H0:Hp}{E:XK}{C:Addr} :
  ∀pins σ H s h' e vs,Inv (ZfE (CXE P w) P w K mg base N qual scope f cd A outer s0 H0 E) pins σ H s->Heap.MadeExcOf s.heap h' e (.ref C) vs->E (.ref C) none H->(ZfE (CXE P w) P w K mg base N qual scope f cd A outer s0 H0 E).xe (.ref e) {s with heap:=h'} :=
 λ_ _ _ _ _ _ _ I hx hE=>ZjW I hx hE
end
theorem ZjY:bootBuiltins "max"=some (.builtin "max"):=by decide +kernel
theorem ZjZ:bootBuiltins "min"=some (.builtin "min"):=by decide +kernel
theorem ZbN:bootBuiltins "isinstance"=some (.builtin "isinstance"):=by decide +kernel
theorem Zc0:bootBuiltins "list"=some (.type "list"):=by decide +kernel
theorem ZcA:bootBuiltins "tuple"=some (.type "tuple"):=by decide +kernel
theorem Zrs:bootBuiltins "bool"=some (.type "bool"):=by decide +kernel
section
variable {X:Cx}{pins:List (Addr×Obj)}{σ:St}{H:Hp}{s:Shared}{h':Heap}
theorem Inv.Zj0 {t':Nat}{fp:List Addr} (I:Inv X pins σ H s) (k:∀b o,b∉fp->s.heap.get? b=some o->h'.get? b=some o) (hf:∀b∈fp,FpOk X pins H b):Inv X pins σ H {s with heap:=h',toks:=t'}:=by
 have nit:∀b u,H b=some u->b∉fp:=λb u e z=>by rw[(hf b z).1]at e;cases e
 refine I.step (g':=s.gens) (d':=s.drawn) (ch:=fp) (λb hb=>?_) (λb o _ _ hc e _=>k b o hc e) (λb o _ _ hc e _=>⟨o.slots,k b o hc e⟩) (λ_ _ _ _ n=>n)
  (λb o hc e=>⟨o,k b o hc e⟩) (λ_ _ e=>e) (λ_ _ _ e=>e) (λb ps e=>⟨#[],by rw[e];simp⟩) (λm hm=>?_) (λb u e=>?_) I.bare
 ·obtain⟨_,f1,_,f3,f4,f5⟩:=hf b hb
  exact⟨f3,f1,f4,f5⟩
 ·obtain⟨o,es,ep,ho,r⟩:=hm
  exact⟨o,es,ep,k _ o (λz=>(hf _ z).2.1 rfl) ho,r⟩
 ·refine(I.hok b u e).Zgr (λc v hc q=>k c v ?_ q) (λ_ q=>q) (λ_ _ q=>q) λ_ _ _ q=>q
  rcases hc with z|z
  ·rw[z];exact nit b u e
  ·exact nit c _ z
noncomputable def Itz (K : Frag) (a b : Addr) : It :=
  ⟨fun i H => ∃ xs ys x y, SqL K H a xs ∧ SqL K H b ys ∧ xs[i]? = some x ∧ ys[i]? = some y,
   fun i H v H' => ∃ p x y, H p = none ∧ v = .ref p ∧ H' = upd H p (.tup [x, y]) ∧ (∀ xs, SqL K H a xs → xs[i]? = some x) ∧ ∀ ys, SqL K H b ys → ys[i]? = some y,
   fun i H => ∃ xs ys, SqL K H a xs ∧ SqL K H b ys ∧ (xs.length ≤ i ∨ ys.length ≤ i)⟩
theorem Zo7 {P:Program}{w:World}{K:Frag}{elts:List Expr} {x1}{pos:Pos}{a b z TI TO i1 i2:Addr} (D:ZipApart z TI TO i1 i2 a b) :
  Turn P w K (.Tuple elts x1 pos) (Itz K a b) [z,TI,TO,i1,i2] z (λi h=>IsZip h z TI TO .none/\IsPair h TI (.ref i1) (.ref i2)/\(∃u v,IsPair h TO u v)/\h.IsListIter i1 a i/\h.IsListIter i2 b i) where
 mem:=by simp
 obj:=λi h st c hc=>by
  obtain⟨q1,q2,⟨u,v,q3⟩,⟨o4,q4,_,d4⟩,⟨o5,q5,_,d5⟩⟩:=st
  simp at hc
  rcases hc with rfl|rfl|rfl|rfl|rfl
  ·exact⟨_,q1,λv z=>by cases z⟩
  ·exact⟨_,q2,λv z=>by cases z⟩
  ·exact⟨_,q3,λv z=>by cases z⟩
  ·exact⟨_,q4,λv z=>by rw[d4]at z;cases z⟩
  ·exact⟨_,q5,λv z=>by rw[d5]at z;cases z⟩
 keep:=λi h h' st k=>by
  obtain⟨q1,q2,⟨u,v,q3⟩,q4,q5⟩:=st
  exact⟨k z (by simp) _ q1,k TI (by simp) _ q2,⟨u,v,k TO (by simp) _ q3⟩,q4.at λo e=>k i1 (by simp) o e,q5.at λo e=>k i2 (by simp) o e⟩
 item:=by
  intro X hP hw hK hc i pins s σ H E I hf st hg
  subst hP hw hK
  obtain⟨xs,ys,x,y,qa,qb,hx,hy⟩:=hg
  obtain⟨q1,q2,⟨u0,v0,q3⟩,q4,q5⟩:=st
  obtain⟨is1,r1,p1,_⟩:=I.list qa
  obtain⟨is2,r2,p2,_⟩:=I.list qb
  obtain⟨u,hu,ru⟩:=r1.get hx
  obtain⟨v,hv,rv⟩:=r2.get hy
  refine wpAny_pyNext_zip_item D q1 q2 q3 q4 q5 p1.isList p2.isList (x:=u) (y:=v) (by simpa using hu) (by simpa using hv) λh' a1 a2 a3 a4 a5 a6 a7=>?_
  refine⟨_,rfl,?_⟩
  refine wpAny_letOwnedTupleGo_zip (s:={s with heap:=h'}) a1 λh2 b1 b2=>?_
  have hfr:H s.heap.objs.size=none:=I.hok.fresh (Ye _)
  have I1:Inv X pins σ (upd H s.heap.objs.size (.tup [x,y])) {s with heap:=s.heap.push {cls:=.type "tuple",data:=.seq #[u,v]}}:=by
   refine I.laid (t':=s.toks) (λb u e=>Yl _ e) (Ye _) ?_
   exact⟨by show 2<=sizeLine;decide,[u,v],.cons ru (.cons rv .nil),⟨_,Ys _ rfl,rfl,_,rfl⟩⟩
  have nz:∀c∈[z,TI,TO,i1,i2],c≠s.heap.objs.size:=λc hc e=>by
   have:∃o,s.heap.get? c=some o:=by
    simp at hc
    rcases hc with rfl|rfl|rfl|rfl|rfl
    ·exact⟨_,q1⟩
    ·exact⟨_,q2⟩
    ·exact⟨_,q3⟩
    ·obtain⟨o,q,_⟩:=q4;exact⟨o,q⟩
    ·obtain⟨o,q,_⟩:=q5;exact⟨o,q⟩
   obtain⟨o,q⟩:=this
   exact absurd (Yh q) (by rw[e];exact Yw _)
  have hf1:∀c∈[z,TI,TO,i1,i2],FpOk X pins (upd H s.heap.objs.size (.tup [x,y])) c:=λc hc=>by
   obtain⟨f0,f1,f2,f3,f4,f5⟩:=hf c hc
   exact⟨by rw[Zg (nz c hc)];exact f0,f1,f2,f3,f4,f5⟩
  have I2:Inv X pins σ (upd H s.heap.objs.size (.tup [x,y])) {s with heap:=h2}:=by
   refine Inv.Zj0 (s:={s with heap:=s.heap.push {cls:=.type "tuple",data:=.seq #[u,v]}}) (t':=s.toks) (fp:=[z,TI,TO,i1,i2]) I1 (λc o hc e=>?_) hf1
   simp only[Yk,List.not_mem_nil,or_false,not_or]at hc
   obtain⟨c1,c2,c3,c4,c5⟩:=hc
   refine b2.extBut _ _ c1 ?_
   by_cases hs:c=s.heap.objs.size
   ·subst hs
    have e':(s.heap.push {cls:=.type "tuple",data:=.seq #[u,v]}).get? s.heap.objs.size=some _:=Ys _ rfl
    have ee:o={cls:=.type "tuple",data:=.seq #[u,v]}:=by
     have:=e.symm.trans e'
     exact Yo this
    rw[ee];exact a5
   ·have:s.heap.get? c=some o:=by
     rcases Heap.get?_push_cases e with⟨q,_⟩|q
     ·exact absurd q hs
     ·exact q
    exact a7 c o c1 c3 c4 c5 this
  refine⟨.ref s.heap.objs.size,_,I2,rfl,⟨_,x,y,hfr,rfl,rfl,λxs' q'=>?_,λys' q'=>?_⟩,⟨b1,?_,⟨u,v,?_⟩,?_,?_⟩,λc hc=>(hf1 c hc).1⟩
  ·rw[I.Zcy q' qa];exact hx
  ·rw[I.Zcy q' qb];exact hy
  ·exact b2.extBut _ _ D.TIz (a7 _ _ D.TIz D.TITO D.TIi1 D.TIi2 q2)
  ·exact b2.extBut _ _ D.TOz a2
  ·exact a3.extBut b2.extBut D.i1z
  ·exact a4.extBut b2.extBut D.i2z
 done:=by
  intro X hP hw hK hc i pins s σ H E I hf st hg
  subst hP hw hK
  obtain⟨xs,ys,qa,qb,hx⟩:=hg
  obtain⟨q1,q2,⟨u0,v0,q3⟩,q4,q5⟩:=st
  obtain⟨is1,r1,p1,_⟩:=I.list qa
  obtain⟨is2,r2,p2,_⟩:=I.list qb
  refine wpAny_pyNext_zip_end (I.ok.hd hc) D q1 q2 q3 q4 q5 p1.isList p2.isList ?_ λh' k=>⟨rfl,I.Zj0 (t':=s.toks) (fp:=[z,TI,TO,i1,i2]) (λc o hc e=>?_) hf⟩
  ·rcases hx with hx|hx
   ·left;simp;rw[<-r1.length];exact hx
   ·right;simp;rw[<-r2.length];exact hx
  ·simp only[Yk,List.not_mem_nil,or_false,not_or]at hc
   obtain⟨c1,c2,c3,c4,c5⟩:=hc
   exact k c o c1 c3 c4 c5 e
 self:=λ_ _ _ _ _ st h=>wpAny_pyIter_zip st.1 h
theorem zapart (n a b:Nat) (h1:a<n) (h2:b<n):ZipApart (n+4) (n+2) (n+3) n (n+1) a b:=by
 constructor<;>(show ¬ ((_:Nat)=_);omega)
noncomputable def iZip (K:Frag) (ta:TA):TI:=fun σ H R=>ta σ H λvs H1=>∃a b xs ys,vs=[.ref a,.ref b]/\SqL K H1 a xs/\SqL K H1 b ys/\R (Itz K a b) H1
theorem Znj:bootBuiltins "zip"=some (.type "zip"):=by decide +kernel
theorem pi_zip {elts:List Expr} {x1}{tp:Pos}{e1 e2:Expr}{ta:TA}{p pos:Pos} (hg:Gl X "zip") (hm:X.mg "zip"=none) (ha:PA X [e1,e2] ta) (he:starEach [e1,e2] X.env=(false,eval e1 X.env)::starEach [e2] X.env:=by rfl) (hpl:(backTo pos (starEach [e2] X.env)).any (·.1)=false:=by rfl) :
  PI X (.Tuple elts x1 tp) (.Call (.Name "zip" p) [e1,e2] [] pos) (iZip X.K ta):=by
 intro pins s σ H R I h
 refine wpAny_Call_Name_kw (Zdf I hg hm Znj ?_)
 refine PyProof.Rows.callWith_type1 (thn (ha pos pins s σ H _ I h) λus s1 ⟨vs,H1,I1,r1,a,b,xs,ys,e1,qa,qb,q⟩=>?_) he hpl
 subst e1
 obtain⟨u,v,rfl,ru,rv⟩:=r1.two
 cases(show u=Value.ref a from ru)
 cases(show v=Value.ref b from rv)
 obtain⟨is1,rr1,p1,_⟩:=I1.list qa
 obtain⟨is2,rr2,p2,_⟩:=I1.list qb
 refine call_zip_2 p1.isList p2.isList λh' c1 c2 c3 c4 c5 c6 c7=>?_
 refine wpAny_pyIter_zip c1 ?_
 have l1:a<s1.heap.objs.size:=by obtain⟨o,e,_⟩:=p1.isList;exact Yh e
 have l2:b<s1.heap.objs.size:=by obtain⟨o,e,_⟩:=p2.isList;exact Yh e
 have sm:∀b,s1.heap.objs.size<=b->FpOk X pins H1 b:=λb hb=>I1.Zm6 hb (I1.hok.fresh hb)
 refine⟨_,[s1.heap.objs.size+4,s1.heap.objs.size+2,s1.heap.objs.size+3,s1.heap.objs.size,s1.heap.objs.size+1],_,_,H1,rfl,I1.kept (t':=s1.toks) c7,Zo7 (a:=a) (b:=b) ?_,⟨c1,c2,⟨_,_,c3⟩,c4,c5⟩,λc hc=>?_,q⟩
 ·exact zapart _ _ _ l1 l2
 ·simp at hc
  rcases hc with rfl|rfl|rfl|rfl|rfl<;>exact sm _ (by omega)
end
theorem cxK {CX:CXT}{P:Program}{w:World}{K:Frag}{mg:Str->Option Value}{base:Heap}{N:List Str}{qual:Str}{scope:Scope}{f:Addr}{cd:Value}{A:Around}{outer:List Env}{s:Shared}{H:Hp}{E:XK} :
  (ZfE CX P w K mg base N qual scope f cd A outer s H E).K=K:=rfl
theorem Zh.upd {H H1:Hp}{p:Addr}{o:HO} (h:H p=none) (e:Zh H H1):Zh H (upd H1 p o):=λb u z=>by
 rw[Zg (Zo z h)];exact e b u z
theorem Zh.ZL {H H1:Hp}{p:Addr}{o:HO} (e:Zh H H1) (h:H1 p=none):Zh H (L2.upd H1 p o):=e.upd (e.free h)
theorem Zc1 {X:Cx}{K:Frag}{es:List Expr}{pos:Pos}{k:Nat}{t:TGs}{n:Nat} (hK:X.K=K) (hc:X.calm=true) (h:PGs X es t)
  (hn:(assignEach es X.env).length=n:=by rfl) (hst:(assignEach es X.env).findIdx? (·.1)=none:=by rfl):PG X (.Tuple es k pos) (gTup K n t):=hK▸ZlG hc h hn hst
noncomputable def LoopR (J:It) (g:TG) (tb:TS) (D:Ends) (σ:St) (H1:Hp):Prop:=∃W:Nat->Nat->St->Hp->Prop,(∃m,W 0 m σ H1)/\∀i m σ H,W i m σ H ->
 (J.stop i H/\D.nx σ H)\/(J.go i H/\∃N:St->Hp->Prop,(∀σ' H',N σ' H'->∃m',m'<m/\W (i+1) m' σ' H')/\∀x H',J.yld i H x H'->g x σ H' fun σ2 H2=>tb {D with nx:=N,ct:=N,bk:=D.nx} σ2 H2)
theorem ZmH {wi:TI}{g:TG}{tb:TS}{D:Ends}{σ:St}{H:Hp}:tFor wi g tb D σ H=wi σ H λJ H1=>LoopR J g tb D σ H1:=rfl
noncomputable def Zo8 (c:TT) (tb:TS) (D:Ends) (σ:St) (H:Hp):Prop:=ZlH c tb D σ H
theorem Zjk {c:TT}{tb:TS}{D:Ends}{σ:St}{H:Hp}:ZlH c tb D σ H=Zo8 c tb D σ H:=rfl
noncomputable def Zf2 (J:It) (g:TG) (tt:TT) (te:TE) (σ0:St) (Q:VK) (H1:Hp):Prop:=∃W:Nat->Nat->List V->Hp->Prop,(∃m,W 0 m [] H1)/\∀i m acc H,W i m acc H ->
 (J.stop i H/\acc.length<=sizeLine/\∀p,H p=none->Q (.ref p) (upd H p (.lst acc))) \/
 (J.go i H/\acc.length<sizeLine/\∀x H',J.yld i H x H'->g x σ0 H' fun σ2 H2=>tt σ2 H2 λb H3=>if b=true then te σ2 H3 λv H4=>∃m',m'<m/\W (i+1) m' (acc++[v]) H4 else ∃m',m'<m/\W (i+1) m' acc H3)
theorem ZkP {wi:TI}{g:TG}{tt:TT}{te:TE}{js:List (Option Nat)}{σ:St}{H:Hp}{Q:VK}:ZmF wi g tt te js σ H Q=wi σ H λJ H1=>Zf2 J g tt te (iniC js σ) Q H1:=rfl
noncomputable def CW (n:Nat) (vals:Nat->V) (H1:Hp) (i m:Nat) (acc:List V) (H:Hp):Prop:=m=n-i/\i<=n/\acc=(List.range i).map vals/\Zh H1 H
theorem CW.next {n:Nat}{vals:Nat->V}{H1 H:Hp}{i:Nat}{v:V} (hi:i<n) (hv:v=vals i) (s:Zh H1 H):∃m',m'<n-i/\CW n vals H1 (i+1) m' ((List.range i).map vals++[v]) H :=
 ⟨n-(i+1),by omega,rfl,hi,by rw[YE,YC,hv];rfl,s⟩
theorem comp_map {J:It}{n:Nat}{H1:Hp}{g:TG}{tt:TT}{te:TE}{σ0:St}{Q:VK} (vals:Nat->V) (hn:n<sizeLine) (hgo:∀i H,Zh H1 H->i<n->J.go i H) (hstop:∀H,Zh H1 H->J.stop n H)
  (hb:∀i x H H',i<n->Zh H1 H->J.yld i H x H'->g x σ0 H' fun σ2 H2=>tt σ2 H2 λb H3=>if b=true then te σ2 H3 λv H4=>∃m',m'<n-i/\CW n vals H1 (i+1) m' ((List.range i).map vals++[v]) H4 else ∃m',m'<n-i/\CW n vals H1 (i+1) m' ((List.range i).map vals) H3)
  (hk:∀l H',Zh H1 H'->H' l=none->Q (.ref l) (upd H' l (.lst ((List.range n).map vals)))) :
  Zf2 J g tt te σ0 Q H1:=by
 refine⟨CW n vals H1,⟨n,rfl,Yz _,rfl,Zh.refl _⟩,?_⟩
 rintro i m acc H ⟨rfl,hi,rfl,s⟩
 by_cases h:i<n
 ·refine .inr ⟨hgo i H s h,by simpa using Nat.lt_trans h hn,λx H' y=>hb i x H H' h s y⟩
 ·have e:i=n:=by omega
  subst e
  exact .inl ⟨hstop H s,by simpa using YV hn,λp hp=>hk p H s hp⟩
theorem ZhL {α:Type}{xs:List α}{i:Int}{j:Nat} (h:i=(j:Int)) (hj:j<xs.length):atI xs i=some xs[j]:=by
 subst h
 unfold atI ixN
 rw[Yd (by omega),Yd (by omega)]
 simp
theorem ZmI {α:Type}{xs:List α}{i:Int} (C:α->Prop) (h0:0<=i) (h1:i<xs.length) (h:∀x∈xs,C x):∃v,atI xs i=some v/\C v:=by
 obtain⟨j,rfl⟩:=YX h0
 have hj:j<xs.length:=by omega
 exact⟨xs[j],ZhL rfl hj,h _ (YA hj)⟩
theorem mul_r {a b:Int} (h1:-(2 ^ 64)<b) (h2:b<2 ^ 64):IntMulOk a b:=IntMulOk.of_right (intBits_le_64 h1 h2)
theorem ZkQ {a b:Int} (h1:-(2 ^ 64)<a) (h2:a<2 ^ 64):IntMulOk a b:=IntMulOk.of_left (intBits_le_64 h1 h2)
theorem Zj1 {a b:Int} (ha:Builtin.Int.intBits a<=2 ^ 20) (hb:Builtin.Int.intBits b<=2 ^ 20):IntMulOk a b:=IntMulOk.of_bits ha hb
theorem cp18:ZkI 10 18:=by unfold ZkI;decide
theorem cp59:ZkI 10 59:=by unfold ZkI;decide
noncomputable def Exc (p:Addr) (H H':Hp):Prop:=∀b o,b≠p->H b=some o->H' b=some o
theorem Zh.exc {H H1 H2:Hp}{p:Addr} (s:Zh H H1) (h:H p=none) (e:Exc p H1 H2):Zh H H2:=λb o z=>e b o (Zo z h) (s b o z)
theorem Zh.ZgX {H H':Hp}{p:Addr} (s:Zh H H'):Exc p H H':=λb o _ z=>s b o z
theorem Exc.upd {H:Hp}{p:Addr}{o:HO}:Exc p H (L2.upd H p o):=λb u n z=>by rw[Zg n];exact z
theorem ZM {K:Frag}{H:Hp}{p:Addr}{xs:List V} (h:H p=some (.lst xs)):tyV K "list" (.ref p) H:=.inl ⟨rfl,_,SqL.of h⟩
theorem ZmJ {i j:Int}:ZkJ (.int i) (.int j)=true:=rfl
theorem ZmK {i j:Bool}:ZkJ (.bl i) (.bl j)=true:=rfl
theorem ZmL {i j:Str}:ZkJ (.str i) (.str j)=true:=rfl
theorem ZmM:ZkJ .non .non=true:=rfl
theorem ZmN {i:Int}:ZkJ .non (.int i)=true:=rfl
theorem ZmO {i:Int}:ZkJ (.int i) .non=true:=rfl
section
variable {X:Cx}
noncomputable def rLen (K:Frag):List V->Hp->VK->Prop:=λxs H Q=>∃p ys,xs=[.ref p]/\(SqL K H p ys\/SqT K H p ys)/\Q (.int ys.length) H
theorem Zu {K:Frag} (hK:X.K=K):Zcg X (.builtin "len") (rLen K):=by subst hK;exact ZjR
noncomputable def rLof (K:Frag):List V->Hp->VK->Prop:=λxs H Q=>∃p ys,xs=[.ref p]/\(SqL K H p ys\/SqT K H p ys)/\∀l,H l=none->Q (.ref l) (upd H l (.lst ys))
theorem ZcB {K:Frag} (hK:X.K=K):Zcg X (.type "list") (rLof K):=by subst hK;exact ZjS
noncomputable def rTof (K:Frag):List V->Hp->VK->Prop:=λxs H Q=>∃p ys,xs=[.ref p]/\((SqL K H p ys/\∀l,H l=none->Q (.ref l) (upd H l (.tup ys)))\/(SqT K H p ys/\Q (.ref p) H))
theorem ZdJ {K:Frag} (hK:X.K=K):Zcg X (.type "tuple") (rTof K):=by subst hK;exact ZiL
theorem Zfl {K:Frag} (hK:X.K=K):Zcg X (.builtin "isinstance") (rIsi K):=by subst hK;exact Zo4
end
theorem ZmP {a:Addr}{x:Value}:(cOf (.ref a)=some x)=(.ref a=x):=by simp[cOf]
theorem Zo9 {n:String}{x:Value}:(cOf (.ty n)=some x)=(.type n=x):=by simp[cOf]
noncomputable def Rows (H:Hp) (l:Addr) (rs:List (List Int)):Prop:=∃as:List Addr,H l=some (.lst (as.map V.ref))/\l∉as/\as.length=rs.length/\∀i (h1:i<as.length) (h2:i<rs.length),H as[i]=some (.lst (rs[i].map V.int))
theorem Rows.same {H H':Hp}{l:Addr}{rs:List (List Int)} (R:Rows H l rs) (s:Zh H H'):Rows H' l rs:=by
 obtain⟨as,e,n,hl,h⟩:=R
 exact⟨as,s _ _ e,n,hl,λi h1 h2=>s _ _ (h i h1 h2)⟩
theorem Rows.at {K:Frag}{H:Hp}{l:Addr}{rs:List (List Int)} (R:Rows H l rs) {i:Nat} (h:i<rs.length):∃xs a,SqL K H l xs/\atI xs (i:Int)=some (.ref a)/\H a=some (.lst (rs[i].map V.int)):=by
 obtain⟨as,e,n,hl,hh⟩:=R
 have hi:i<as.length:=by omega
 refine⟨_,as[i],SqL.of e,?_,hh i hi h⟩
 rw[ZhL rfl (by simpa using hi)];simp
theorem Rows.push {H:Hp}{l p:Addr}{rs:List (List Int)}{r:List Int}{as:List Addr} (e:H l=some (.lst (as.map V.ref))) (n:l∉as) (hl:as.length=rs.length) (h:∀i (h1:i<as.length) (h2:i<rs.length),H as[i]=some (.lst (rs[i].map V.int)))
  (hp:H p=some (.lst (r.map V.int))) (np:p≠l):Rows (upd H l (.lst (as.map V.ref++[.ref p]))) l (rs++[r]):=by
 refine⟨as++[p],by rw[Zc];simp,?_,by simp[hl],λi h1 h2=>?_⟩
 ·simp only[Yq,YO,not_or]
  exact⟨n,λz=>np z.symm⟩
 ·by_cases hi:i<as.length
  ·have e1:(as++[p])[i]=as[i]:=Y0 hi
   have e2:(rs++[r])[i]=rs[i]'(by omega):=Y0 (by omega)
   rw[e1,e2,Zg]
   ·exact h i hi (by omega)
   ·intro z;exact n (z▸YA hi)
  ·have e1:(as++[p])[i]=p:=by rw[Y5 (by omega)];simp
   have e2:(rs++[r])[i]=r:=by rw[Y5 (by omega)];simp
   rw[e1,e2,Zg np];exact hp
inductive EqD (K:Frag) (H:Hp):Nat->V->V->Bool->Prop
 |flat {n:Nat}{x y:V} (fx:flatV x=true) (fy:flatV y=true):EqD K H n x y (eqV x y)
 |lst {n:Nat}{a b:Addr}{xs ys:List V} (e:Nat->Bool) (hx:SqL K H a xs) (hy:SqL K H b ys) (hl:xs.length=ys.length) (h:∀j x y,xs[j]?=some x->ys[j]?=some y->EqD K H n x y (e j)):EqD K H (n+1) (.ref a) (.ref b) ((List.range xs.length).all e)
 |len {n:Nat}{a b:Addr}{xs ys:List V} (hx:SqL K H a xs) (hy:SqL K H b ys) (hl:xs.length≠ys.length):EqD K H (n+1) (.ref a) (.ref b) false
 |tup {n:Nat}{a b:Addr}{xs ys:List V} (e:Nat->Bool) (hx:SqT K H a xs) (hy:SqT K H b ys) (h:∀j x y,xs[j]?=some x->ys[j]?=some y->EqD K H n x y (e j)):EqD K H (n+1) (.ref a) (.ref b) ((List.range (min xs.length ys.length)).all e&&xs.length==ys.length)
theorem Zpa {x:V} (h:flatV x=true):eqV x x=true:=by
 cases x<;>first
  |rfl
  |(simp[eqV];done)
  |cases h
section
variable {X:Cx}{pins:List (Addr×Obj)}{σ:St}{H:Hp}{s:Shared}
theorem ZkR (I:Inv X pins σ H s) {n:Nat}{x y:V}{b:Bool} (h:EqD X.K H n x y b):x=y->b=true:=by
 induction h with
 |flat fx fy=>rintro rfl;exact Zpa fx
 |lst e hx hy hl h ih =>
  intro z
  cases z
  have:=I.Zcy hx hy
  subst this
  refine List.all_eq_true.mpr λj hj=>?_
  have hj':=YF.mp hj
  exact ih j _ _ (Yf hj') (Yf hj') rfl
 |len hx hy hl =>
  intro z
  cases z
  have:=I.Zcy hx hy
  subst this
  exact absurd rfl hl
 |tup e hx hy h ih =>
  intro z
  cases z
  have:=I.Zjc hx hy
  subst this
  rw[Nat.min_self]
  have:(List.range _).all e=true:=List.all_eq_true.mpr λj hj=>by
   have hj':=YF.mp hj
   exact ih j _ _ (Yf hj') (Yf hj') rfl
  rw[this];simp
theorem Zj2 (I:Inv X pins σ H s) {n:Nat}{x y:V}{b:Bool} (h:EqD X.K H n x y b):∀(A:Around) (u v:Value),A.units+n<cLine->RelV x u->RelV y v->SeqAt.EqAt A s u v b:=by
 induction h with
 |flat fx fy=>intro A u v _ ru rv;exact Zo0 ru rv fx fy
 |@lst n a b xs ys e hx hy hl h ih =>
  intro A u v hu ru rv
  have hb:=ZkR I (.lst e hx hy hl h)
  cases ru
  cases rv
  by_cases hab:a=b
  ·subst hab
   rw[hb rfl];exact SeqAt.EqAt.same _
  ·obtain⟨is1,r1,p1,_⟩:=I.list hx
   obtain⟨is2,r2,p2,_⟩:=I.list hy
   have e1:=r1.length
   have e2:=r2.length
   have key:=SeqAt.RcAt.lists (A:=A) (s:=s) (e:=e) p1.isList p2.isList (by simp;omega) (by omega) λj h1 h2=>by
    have h1':j<xs.length:=by simpa[e1]using h1
    have h2':j<ys.length:=by simpa[e2]using h2
    obtain⟨u,hu1,ru⟩:=r1.get (Yf h1')
    obtain⟨v,hv1,rv⟩:=r2.get (Yf h2')
    have eu:is1.toArray[j]=u:=by simpa using(Yr.mp hu1).2
    have ev:is2.toArray[j]=v:=by simpa using(Yr.mp hv1).2
    rw[eu,ev]
    exact ih j _ _ (Yf h1') (Yf h2') A.in1 u v (by show A.units+1+n<cLine;omega) ru rv
   have e3:is1.toArray.size=xs.length:=by simp[e1]
   rw[e3]at key
   exact SeqAt.EqAt.of_refs hab key
 |@len n a b xs ys hx hy hl =>
  intro A u v hu ru rv
  cases ru
  cases rv
  have hab:a≠b:=λz=>by subst z;exact hl (congrArg List.length (I.Zcy hx hy))
  obtain⟨is1,r1,p1,_⟩:=I.list hx
  obtain⟨is2,r2,p2,_⟩:=I.list hy
  have e1:=r1.length
  have e2:=r2.length
  exact SeqAt.EqAt.of_refs hab (SeqAt.RcAt.lists_lengths p1.isList p2.isList (by simp;omega) (by omega))
 |@tup n a b xs ys e hx hy h ih =>
  intro A u v hu ru rv
  have hb:=ZkR I (.tup e hx hy h)
  cases ru
  cases rv
  by_cases hab:a=b
  ·subst hab
   rw[hb rfl];exact SeqAt.EqAt.same _
  ·obtain⟨is1,r1,p1,_⟩:=I.tuple hx
   obtain⟨is2,r2,p2,_⟩:=I.tuple hy
   have e1:=r1.length
   have e2:=r2.length
   have key:=SeqAt.RcAt.tuples (A:=A) (s:=s) (e:=e) p1 p2 (by omega) λj h1 h2=>by
    have h1':j<xs.length:=by simpa[e1]using h1
    have h2':j<ys.length:=by simpa[e2]using h2
    obtain⟨u,hu1,ru⟩:=r1.get (Yf h1')
    obtain⟨v,hv1,rv⟩:=r2.get (Yf h2')
    have eu:is1.toArray[j]=u:=by simpa using(Yr.mp hu1).2
    have ev:is2.toArray[j]=v:=by simpa using(Yr.mp hv1).2
    rw[eu,ev]
    exact ih j _ _ (Yf h1') (Yf h2') A.in1 u v (by show A.units+1+n<cLine;omega) ru rv
   have e3:is1.toArray.size=xs.length:=by simp[e1]
   have e4:is2.toArray.size=ys.length:=by simp[e2]
   rw[e3,e4]at key
   exact SeqAt.EqAt.of_refs hab key
end
noncomputable def rEqD (K:Frag) (neg:Bool):R2:=λx y H Q=>∃a b k,x=.ref a/\y=.ref b/\EqD K H 3 x y k/\Q (.bl (if neg then !k else k)) H
section
variable {X:Cx}
theorem ZlO {K:Frag} (hK:X.K=K) {k:Nat} (hr:Room k X.A):OpR X (compareOp .Eq) (rEqD K false):=by
 subst hK
 have hu0:=hr.un
 intro pins s σ H x y v u Q I rx ry h
 obtain⟨a,b,k,rfl,rfl,h,q⟩:=h
 cases rx
 cases ry
 cases h with
 |flat fx fy=>cases fx
 |@lst n _ _ xs ys e hx hy hl h =>
  obtain⟨is1,r1,p1,_⟩:=I.list hx
  obtain⟨is2,r2,p2,_⟩:=I.list hy
  have e1:=r1.length
  have e2:=r2.length
  have e3:is1.toArray.size=xs.length:=by simp[e1]
  refine SeqAt.eq_listAt (e:=e) p1.isList p2.isList (by simp;omega) (by omega) (λj h1 h2=>?_) ⟨.bl _,H,I,rfl,by rw[e3];exact q⟩
  have h1':j<xs.length:=by simpa[e1]using h1
  have h2':j<ys.length:=by simpa[e2]using h2
  obtain⟨u,hu1,ru⟩:=r1.get (Yf h1')
  obtain⟨v,hv1,rv⟩:=r2.get (Yf h2')
  have eu:is1.toArray[j]=u:=by simpa using(Yr.mp hu1).2
  have ev:is2.toArray[j]=v:=by simpa using(Yr.mp hv1).2
  rw[eu,ev]
  exact Zj2 I (h j _ _ (Yf h1') (Yf h2')) X.A.in1 u v (by show X.A.units+1+2<cLine;omega) ru rv
 |@len n _ _ xs ys hx hy hl =>
  obtain⟨is1,r1,p1,_⟩:=I.list hx
  obtain⟨is2,r2,p2,_⟩:=I.list hy
  have e1:=r1.length
  have e2:=r2.length
  exact SeqAt.eq_list_lengthsAt p1.isList p2.isList (by simp;omega) (by omega) ⟨.bl _,H,I,rfl,q⟩
 |@tup n _ _ xs ys e hx hy h =>
  obtain⟨is1,r1,p1,_⟩:=I.tuple hx
  obtain⟨is2,r2,p2,_⟩:=I.tuple hy
  have e1:=r1.length
  have e2:=r2.length
  have e3:is1.toArray.size=xs.length:=by simp[e1]
  have e4:is2.toArray.size=ys.length:=by simp[e2]
  refine SeqAt.eq_tupleAt (e:=e) p1 p2 (by omega) (λj h1 h2=>?_) ⟨.bl _,H,I,rfl,by rw[e3,e4];exact q⟩
  have h1':j<xs.length:=by simpa[e1]using h1
  have h2':j<ys.length:=by simpa[e2]using h2
  obtain⟨u,hu1,ru⟩:=r1.get (Yf h1')
  obtain⟨v,hv1,rv⟩:=r2.get (Yf h2')
  have eu:is1.toArray[j]=u:=by simpa using(Yr.mp hu1).2
  have ev:is2.toArray[j]=v:=by simpa using(Yr.mp hv1).2
  rw[eu,ev]
  exact Zj2 I (h j _ _ (Yf h1') (Yf h2')) X.A.in1 u v (by show X.A.units+1+2<cLine;omega) ru rv
theorem Zj3 {K:Frag} (hK:X.K=K) {k:Nat} (hr:Room k X.A):OpR X (compareOp .NotEq) (rEqD K true):=by
 subst hK
 have hu0:=hr.un
 intro pins s σ H x y v u Q I rx ry h
 obtain⟨a,b,k,rfl,rfl,h,q⟩:=h
 cases rx
 cases ry
 cases h with
 |flat fx fy=>cases fx
 |@lst n _ _ xs ys e hx hy hl h =>
  obtain⟨is1,r1,p1,_⟩:=I.list hx
  obtain⟨is2,r2,p2,_⟩:=I.list hy
  have e1:=r1.length
  have e2:=r2.length
  have e3:is1.toArray.size=xs.length:=by simp[e1]
  refine SeqAt.RcNeAt.lists (e:=e) p1.isList p2.isList (by simp;omega) (by omega) (λj h1 h2=>?_) _ _ _ _ ⟨.bl _,H,I,rfl,by rw[e3];exact q⟩
  have h1':j<xs.length:=by simpa[e1]using h1
  have h2':j<ys.length:=by simpa[e2]using h2
  obtain⟨u,hu1,ru⟩:=r1.get (Yf h1')
  obtain⟨v,hv1,rv⟩:=r2.get (Yf h2')
  have eu:is1.toArray[j]=u:=by simpa using(Yr.mp hu1).2
  have ev:is2.toArray[j]=v:=by simpa using(Yr.mp hv1).2
  rw[eu,ev]
  exact Zj2 I (h j _ _ (Yf h1') (Yf h2')) X.A.in1 u v (by show X.A.units+1+2<cLine;omega) ru rv
 |@len n _ _ xs ys hx hy hl =>
  obtain⟨is1,r1,p1,_⟩:=I.list hx
  obtain⟨is2,r2,p2,_⟩:=I.list hy
  have e1:=r1.length
  have e2:=r2.length
  exact SeqAt.RcNeAt.lists_lengths p1.isList p2.isList (by simp;omega) (by omega) _ _ _ _ ⟨.bl _,H,I,rfl,q⟩
 |@tup n _ _ xs ys e hx hy h =>
  obtain⟨is1,r1,p1,_⟩:=I.tuple hx
  obtain⟨is2,r2,p2,_⟩:=I.tuple hy
  have e1:=r1.length
  have e2:=r2.length
  have e3:is1.toArray.size=xs.length:=by simp[e1]
  have e4:is2.toArray.size=ys.length:=by simp[e2]
  refine SeqAt.RcNeAt.tuples (e:=e) p1 p2 (by omega) (λj h1 h2=>?_) _ _ _ _ ⟨.bl _,H,I,rfl,by rw[e3,e4];exact q⟩
  have h1':j<xs.length:=by simpa[e1]using h1
  have h2':j<ys.length:=by simpa[e2]using h2
  obtain⟨u,hu1,ru⟩:=r1.get (Yf h1')
  obtain⟨v,hv1,rv⟩:=r2.get (Yf h2')
  have eu:is1.toArray[j]=u:=by simpa using(Yr.mp hu1).2
  have ev:is2.toArray[j]=v:=by simpa using(Yr.mp hv1).2
  rw[eu,ev]
  exact Zj2 I (h j _ _ (Yf h1') (Yf h2')) X.A.in1 u v (by show X.A.units+1+2<cLine;omega) ru rv
end
noncomputable def IsI (v:V) (i:Int):Prop:=v=.int i
noncomputable def IsL (K:Frag) (H:Hp) {α:Type} (P:V->α->Prop) (v:V) (as:List α):Prop:=∃a xs,v=.ref a/\SqL K H a xs/\xs.length=as.length/\∀(j:Nat) (x:V) (y:α),xs[j]?=some x->as[j]?=some y->P x y
noncomputable def IsT (K:Frag) (H:Hp) {α:Type} (P:V->α->Prop) (v:V) (as:List α):Prop:=∃a xs,v=.ref a/\SqT K H a xs/\xs.length=as.length/\∀(j:Nat) (x:V) (y:α),xs[j]?=some x->as[j]?=some y->P x y
noncomputable def EqP (K:Frag) (H:Hp) (n:Nat) {α:Type} [DecidableEq α] (P:V->α->Prop):Prop:=∀x y a b,P x a->P y b->EqD K H n x y (decide (a=b))
theorem Zj4 {K:Frag}{H:Hp}{n:Nat}:EqP K H n IsI:=by
 rintro x y a b rfl rfl
 have:=EqD.flat (K:=K) (H:=H) (n:=n) (x:=.int a) (y:=.int b) rfl rfl
 have e:eqV (.int a) (.int b)=decide (a=b):=by simp[eqV,Bool.beq_eq_decide_eq]
 rw[<-e];exact this
theorem all_eq {α:Type} [DecidableEq α] (as bs:List α) (h:as.length=bs.length):(List.range as.length).all (λj=>decide (as[j]?=bs[j]?))=decide (as=bs):=by
 rw[Bool.eq_iff_iff,List.all_eq_true,decide_eq_true_iff]
 constructor
 ·intro q
  refine List.ext_getElem? λj=>?_
  by_cases hj:j<as.length
  ·simpa using q j (YF.mpr hj)
  ·rw[List.getElem?_eq_none (by omega),List.getElem?_eq_none (by omega)]
 ·rintro rfl j _;simp
theorem ZmQ {K:Frag}{H:Hp}{n:Nat}{α:Type} [DecidableEq α] {P:V->α->Prop} (h:EqP K H n P):EqP K H (n+1) (IsL K H P):=by
 rintro x y as bs ⟨a,xs,rfl,hx,lx,px⟩ ⟨b,ys,rfl,hy,ly,py⟩
 by_cases hl:as.length=bs.length
 ·rw[<-all_eq as bs hl,<-lx]
  refine .lst _ hx hy (by omega) λj x y h1 h2=>?_
  have j1:=(Yr.mp h1).1
  have j2:=(Yr.mp h2).1
  have ha:as[j]?=some as[j]:=Yf (by omega)
  have hb:bs[j]?=some bs[j]:=Yf (by omega)
  have:=h x y _ _ (px j _ _ h1 ha) (py j _ _ h2 hb)
  rw[ha,hb]
  simpa using this
 ·have e:decide (as=bs)=false:=by simp;intro z;exact hl (congrArg List.length z)
  rw[e]
  exact .len hx hy (by omega)
theorem ZmR {K:Frag}{H:Hp}{n:Nat}{α:Type} [DecidableEq α] {P:V->α->Prop} (h:EqP K H n P):EqP K H (n+1) (IsT K H P):=by
 rintro x y as bs ⟨a,xs,rfl,hx,lx,px⟩ ⟨b,ys,rfl,hy,ly,py⟩
 have key:=EqD.tup (K:=K) (H:=H) (n:=n) (λj=>decide (as[j]?=bs[j]?)) hx hy λj x y h1 h2=>by
  have j1:=(Yr.mp h1).1
  have j2:=(Yr.mp h2).1
  have ha:as[j]?=some as[j]:=Yf (by omega)
  have hb:bs[j]?=some bs[j]:=Yf (by omega)
  have:=h x y _ _ (px j _ _ h1 ha) (py j _ _ h2 hb)
  rw[ha,hb]
  simpa using this
 have e:((List.range (min xs.length ys.length)).all (λj=>decide (as[j]?=bs[j]?))&&xs.length==ys.length)=decide (as=bs):=by
  rw[lx,ly]
  by_cases hl:as.length=bs.length
  ·rw[<-hl,Nat.min_self,all_eq as bs hl];simp
  ·have e:decide (as=bs)=false:=by simp;intro z;exact hl (congrArg List.length z)
   rw[e]
   simp[hl]
 rw[e]at key
 exact key
theorem ZkS {K:Frag}{H:Hp}{a:Addr}{ns:List Int} (h:SqL K H a (ns.map V.int)):IsL K H IsI (.ref a) ns:=⟨a,_,rfl,h,by simp,λj x y h1 h2=>by
 rw[Yx,h2]at h1
 exact(Yo h1).symm⟩
theorem ZhM {K:Frag}{H:Hp}{a:Addr}{ns:List Int} (h:SqT K H a (ns.map V.int)):IsT K H IsI (.ref a) ns:=⟨a,_,rfl,h,by simp,λj x y h1 h2=>by
 rw[Yx,h2]at h1
 exact(Yo h1).symm⟩
section
variable {X:Cx}
noncomputable def tRngV (ta:TA):TE:=fun σ H Q=>ta σ H λvs H1=>∃j:Int,vs=[.int j]/\-(2 ^ 62)<=j/\j<2 ^ 62/\∀p,H1 p=none->Q (.ref p) (upd H1 p (.rng 0 j))
theorem Znk {a:Expr}{ta:TA}{p pos:Pos} (hg:Gl X "range") (hm:X.mg "range"=none) (ha:PA X [a] ta) (hs:starEach [a] X.env=[(false,eval a X.env)]:=by rfl):PE X (.Call (.Name "range" p) [a] [] pos) (tRngV ta):=by
 intro pins s σ H Q I h
 refine wpAny_Call_Name_kw (Zdf I hg hm boot_range (PyProof.Rows.callWith_type1 (thn (ha pos pins s σ H _ I h) λus s1 ⟨vs,H1,I1,r1,q1⟩=>?_) hs rfl))
 obtain⟨j,e,q1,q2,q⟩:=q1
 subst e
 obtain⟨u,rfl,ru⟩:=r1.one
 obtain⟨t,rfl⟩:=ru
 refine call_range_1 ⟨.ref s1.heap.objs.size,_,I1.laid (λb o e=>Yl _ e) (Ye _) ?_,rfl,q _ (I1.hok.fresh (Ye _))⟩
 exact⟨_,_,_,Ys _ rfl⟩
noncomputable def rLstR:List V->Hp->VK->Prop:=λxs H Q=>∃p j,xs=[.ref p]/\H p=some (.rng 0 j)/\0<=j/\j<=1000/\∀l,H l=none->Q (.ref l) (upd H l (.lst ((List.range j.toNat).map λ(i:Nat)=>V.int (i:Int))))
theorem Zrt {g:Nat->V}{P:Nat->Value->Prop} (hP:∀i v,P i v->RelV (g i) v):∀(n:Nat) (us:List Value),us.length=n->(∀(j:Nat) (v:Value),us[j]?=some v->P j v)->Vals ((List.range n).map g) us:=by
 intro n
 induction n with
 |zero =>
  intro us hl _
  cases us with
  |nil=>exact .nil
  |cons _ _=>cases hl
 |succ n ih =>
  intro us hl h
  have hne:us≠[]:=λz=>by rw[z]at hl;cases hl
  rw[YE,YC,<-List.dropLast_concat_getLast hne]
  have hl2:us.dropLast.length=n:=by rw[List.length_dropLast,hl];rfl
  refine(ih us.dropLast hl2 λj v hj=>?_).append (.cons ?_ .nil)
  ·have hj2:=(Yr.mp hj).1
   refine h j v ?_
   rw[List.getElem?_dropLast]at hj
   split at hj
   ·exact hj
   ·cases hj
  ·refine hP n _ (h n _ ?_)
   rw[List.getLast_eq_getElem]
   rw[Yr]
   refine⟨by omega,?_⟩
   congr 1
   omega
theorem ZiM (hc:X.calm=true):Zcg X (.type "list") rLstR:=by
 intro pins s σ H xs us Q I r h
 obtain⟨p,j,rfl,hp,h0,h1,q⟩:=h
 obtain⟨u,rfl,ru⟩:=r.one
 cases(show u=Value.ref p from ru)
 obtain⟨t,u,v,hob⟩:=(show ∃t u v,s.heap.get? p=some {cls:=.type "range",data:=.fields #[.int 0 t,.int j u,.int 1 v]}from I.hok p _ hp)
 refine call_list_range (n:=j.toNat) (I.ok.hd hc) hob (small_one (by omega) (by omega) (by omega) (by omega)) (by rw[rangeSize_one];split<;>omega) (by omega) λh' tk acc' c' kp hn hacc=>?_
 have hv:Vals ((List.range j.toNat).map λ(i:Nat)=>V.int (i:Int)) acc'.toList:=by
  exact Zrt (g:=λ(i:Nat)=>V.int (i:Int)) (P:=λ(i:Nat) v=>∃t,v=.int (0+(i:Int)*1) t) (λi v h=>by obtain⟨t,e⟩:=h;exact⟨t,by rw[e];simp⟩) _ _ (by rw[YK];exact hacc.1) λk v hk=>hacc.2 k v (by simpa using hk)
 refine⟨.ref s.heap.objs.size,_,I.laid kp (Ye _) ?_,rfl,q _ (I.hok.fresh (Ye _))⟩
 exact⟨by rw[Yg,YT];exact Yi (show j.toNat<=1000 by omega) (by decide),_,c',hv,hn⟩
noncomputable def rAll (K:Frag):List V->Hp->VK->Prop:=λxs H Q=>∃(p:Addr) (bs:List Bool),xs=[.ref p]/\SqL K H p (bs.map V.bl)/\Q (.bl (bs.all id)) H
theorem all_ix (bs:List Bool):(List.range bs.length).all (λi=>bs.getD i false)=bs.all id:=by
 rw[Bool.eq_iff_iff,List.all_eq_true,List.all_eq_true]
 constructor
 ·intro h x hx
  obtain⟨j,hj,rfl⟩:=YY hx
  have:=h j (YF.mpr hj)
  simpa[YD,hj]using this
 ·intro h j hj
  have hj':=YF.mp hj
  have:=h _ (YA hj')
  simpa[YD,hj']using this
theorem ZkT {prog:Program}{w:World}{A:Around}{bs:List Bool}{its:List Value} (r:Vals (bs.map V.bl) its):TruthOf prog w A (λi v=>its.toArray[i]?=some v) (λi=>bs.getD i false):=by
 intro i v s Q E hv hq
 have hv':its[i]?=some v:=by simpa using hv
 have hl:=r.length
 have hi:i<bs.length:=by
  have:=(Yr.mp hv').1
  rw[Yg]at hl;omega
 obtain⟨u,hu,ru⟩:=r.get (i:=i) (x:=V.bl bs[i]) (by rw[Yx,Yf hi];rfl)
 rw[hv']at hu
 cases hu
 cases ru
 refine wpAny_truthy_bool ?_
 simpa[YD,hi]using hq
theorem ZeF {K:Frag} (hK:X.K=K) (hc:X.calm=true):Zcg X (.builtin "all") (rAll K):=by
 subst hK
 intro pins s σ H xs us Q I r h
 obtain⟨p,bs,rfl,hp,q⟩:=h
 obtain⟨u,rfl,ru⟩:=r.one
 cases(show u=Value.ref p from ru)
 obtain⟨its,r',pl,hz⟩:=I.list hp
 have hl:=r'.length
 refine call_all_walk (wpAny_pyIter_list pl.isList ?_)
 have hne:p≠s.heap.objs.size:=by obtain⟨o,e,_⟩:=pl.isList;exact Yj (Yh e)
 refine⟨s.heap.objs.size,_,_,_,_,_,λi=>bs.getD i false,rfl,Walks.list (A:=X.A.in1) (show X.A.in1.handled=none from I.ok.hd hc) _ p hne its.toArray,⟨⟨_,Ys _ rfl,rfl,rfl⟩,pl.isList.push _⟩,ZkT r',λh' tk kp=>?_⟩
 have e1:its.toArray.size=bs.length:=by rw[Yn];rw[Yg]at hl;omega
 rw[e1,all_ix]
 exact⟨.bl _,H,I.kept (t':=tk) λb o e=>kp b o (by simp;exact Yj (Yh e)) (Yl _ e),rfl,q⟩
noncomputable def rIxQ (K:Frag):R2:=λx y H Q=>∃p xs i v,x=.ref p/\y=.int i/\(SqL K H p xs\/SqT K H p xs)/\atI xs i=some v/\Q v H
theorem ix_q {K:Frag} (hK:X.K=K):IxR X (rIxQ K):=by
 subst hK
 intro value slice pins s σ H x y v u Q I rx ry h hs
 refine(ZK.or ZdT) (value:=value) (slice:=slice) pins s σ H x y v u Q I rx ry ?_ hs
 obtain⟨p,xs,i,v,rfl,rfl,hq,ha,q⟩:=h
 rcases hq with hq|hq
 ·exact .inl ⟨p,xs,i,v,rfl,rfl,hq,ha,q⟩
 ·exact .inr ⟨p,xs,i,v,rfl,rfl,hq,ha,q⟩
theorem ZhN:bootBuiltins "all"=some (.builtin "all"):=by decide +kernel
end
noncomputable def Zjl (f:Nat->Int) (a b p:Nat):Prop:=a<=p/\p<=b/\(∀q,a<=q->q<p->f p<f q)/\∀q,p<q->q<=b->f p<=f q
theorem Zjl.join {f:Nat->Int}{a m a' b p q:Nat} (h:Zjl f a m p) (k:Zjl f a' b q) (h1:a<=a') (h2:a'<=m+1) (h3:m<=b):Zjl f a b (if f q<f p then q else p):=by
 obtain⟨p1,p2,p3,p4⟩:=h
 obtain⟨q1,q2,q3,q4⟩:=k
 have pm:∀r,a<=r->r<=m->f p<=f r:=λr r1 r2=>by
  rcases Nat.lt_trichotomy r p with z|z|z
  ·exact Int.le_of_lt (p3 r r1 z)
  ·rw[z];exact Int.le_refl _
  ·exact p4 r z r2
 have qm:∀r,a'<=r->r<=b->f q<=f r:=λr r1 r2=>by
  rcases Nat.lt_trichotomy r q with z|z|z
  ·exact Int.le_of_lt (q3 r r1 z)
  ·rw[z];exact Int.le_refl _
  ·exact q4 r z r2
 split
 ·rename_i hlt
  refine⟨by omega,q2,λr r1 r2=>?_,λr r1 r2=>qm r (by omega) r2⟩
  by_cases z:a'<=r
  ·exact q3 r z r2
  ·have:=pm r r1 (by omega);omega
 ·rename_i hle
  refine⟨p1,by omega,p3,λr r1 r2=>?_⟩
  by_cases z:r<=m
  ·exact p4 r r1 z
  ·have:=qm r (by omega) r2;omega
noncomputable def Zz (f:Nat->Int) (a:Nat):Nat->Nat
 |0=>a
 |c+1=>if f (a+c+1)<f (Zz f a c)then a+c+1 else Zz f a c
theorem Zjm (f:Nat->Int) (a:Nat):Zjl f a a a:=⟨Ye _,Ye _,λq h1 h2=>by omega,λq h1 h2=>by omega⟩
theorem Zhx (f:Nat->Int) (a c:Nat):Zjl f a (a+c) (Zz f a c):=by
 induction c with
 |zero=>exact Zjm f a
 |succ c ih =>
  rw[Zz]
  exact ih.join (Zjm f (a+c+1)) (by omega) (by omega) (by omega)
noncomputable def nth (ns:List Int) (i:Nat):Int:=ns.getD i 0
theorem Zdi {ns:List Int}{i:Nat} (h:i<ns.length):atI (ns.map V.int) (i:Int)=some (V.int (nth ns i)):=by
 rw[ZhL rfl (by simpa using h)]
 simp[nth,YD,h]
theorem Zhy (f:Nat->Int) (a c:Nat):a<=Zz f a c/\Zz f a c<=a+c:=⟨(Zhx f a c).1,(Zhx f a c).2.1⟩
noncomputable def WI (N:Nat) (Pv:Nat->St->Hp->Prop) (m:Nat) (σ:St) (H:Hp):Prop:=∃i,m=N-i/\i<=N/\Pv i σ H
theorem WI.next {N:Nat}{Pv:Nat->St->Hp->Prop}{i:Nat}:∀σ' H',(i+1<=N/\Pv (i+1) σ' H')->∃m',m'<N-i/\WI N Pv m' σ' H':=fun σ' H' h=>⟨N-(i+1),by omega,i+1,rfl,h.1,h.2⟩
theorem Zj5 {c:TT}{tb:TS}{D:Ends}{σ:St}{H:Hp} (N:Nat) (Pv:Nat->St->Hp->Prop) (h0:Pv 0 σ H)
  (hs:∀i σ H,i<=N->Pv i σ H->c σ H λb H1=>if b=true then ∃Nx:St->Hp->Prop,(∀σ' H',Nx σ' H'->∃m',m'<N-i/\WI N Pv m' σ' H')/\tb {D with nx:=Nx,ct:=Nx,bk:=D.nx} σ H1 else D.nx σ H1):Zo8 c tb D σ H:=by
 refine⟨WI N Pv,⟨N,0,rfl,Yz _,h0⟩,?_⟩
 rintro m σ H ⟨i,rfl,hi,p⟩
 exact hs i σ H hi p
theorem Zh.seqT {K:Frag}{H H':Hp}{a:Addr}{xs:List V} (e:Zh H H') (h:SqT K H a xs):SqT K H' a xs:=by
 rcases h with(h|⟨o,h⟩)|h
 ·exact .inl (.inl (e _ _ h))
 ·exact .inl (.inr ⟨o,e _ _ h⟩)
 ·exact .inr h
theorem Zh.q {K:Frag}{H H':Hp}{a:Addr}{xs:List V} (e:Zh H H') (h:SqL K H a xs\/SqT K H a xs):SqL K H' a xs\/SqT K H' a xs:=h.imp e.seq e.seqT
theorem Exc.trans {p:Addr}{H H1 H2:Hp} (a:Exc p H H1) (b:Exc p H1 H2):Exc p H H2:=λc o n z=>b c o n (a c o n z)
theorem Exc.free {p q:Addr}{H H':Hp} (e:Exc p H H') (n:q≠p) (h:H' q=none):H q=none:=by
 cases z:H q with
 |none=>rfl
 |some o=>rw[e q o n z]at h;cases h
theorem Exc.ZiN {p q:Addr}{H H':Hp}{o:HO} (e:Exc p H H') (h:H q=none):Exc p H (L2.upd H' q o):=λb u n z=>by
 rw[Zg (Zo z h)];exact e b u n z
theorem Exc.same {p:Addr}{H H1 H2:Hp} (a:Exc p H H1) (s:Zh H1 H2):Exc p H H2:=a.trans s.ZgX
noncomputable def Zc2 (H0 H:Hp) (l:Addr) (rs:List (List Int)):Prop:=∃as:List Addr,H l=some (.lst (as.map V.ref))/\l∉as/\as.length=rs.length/\(∀i (h1:i<as.length) (h2:i<rs.length),H as[i]=some (.lst (rs[i].map V.int)))/\H0 l=none/\∀a∈as,H0 a=none
theorem Zc2.rows {H0 H:Hp}{l:Addr}{rs:List (List Int)} (R:Zc2 H0 H l rs):Rows H l rs:=by
 obtain⟨as,h1,h2,h3,h4,_⟩:=R
 exact⟨as,h1,h2,h3,h4⟩
theorem Zc2.same {H0 H H':Hp}{l:Addr}{rs:List (List Int)} (R:Zc2 H0 H l rs) (s:Zh H H'):Zc2 H0 H' l rs:=by
 obtain⟨as,e,n,hl,h,z⟩:=R
 exact⟨as,s _ _ e,n,hl,λi h1 h2=>s _ _ (h i h1 h2),z⟩
theorem Zc2.push {H0 H:Hp}{l p:Addr}{rs:List (List Int)}{r:List Int}{as:List Addr} (e:H l=some (.lst (as.map V.ref))) (n:l∉as) (hl:as.length=rs.length) (h:∀i (h1:i<as.length) (h2:i<rs.length),H as[i]=some (.lst (rs[i].map V.int)))
  (z1:H0 l=none) (z2:∀a∈as,H0 a=none) (hp:H p=some (.lst (r.map V.int))) (np:p≠l) (zp:H0 p=none):Zc2 H0 (upd H l (.lst (as.map V.ref++[.ref p]))) l (rs++[r]):=by
 obtain⟨bs,q1,q2,q3,q4⟩:=Rows.push e n hl h hp np
 rw[Zc]at q1
 have e2:bs=as++[p]:=by
  have q1':(as++[p]).map V.ref=bs.map V.ref:=by
   have:=HO.lst.inj (Yo q1)
   simpa using this
  have inj:∀(u v:List Addr),u.map V.ref=v.map V.ref->u=v:=by
   intro u
   induction u with
   |nil=>intro v hv;cases v with|nil=>rfl|cons _ _=>cases hv
   |cons x u ih =>
    intro v hv
    cases v with
    |nil=>cases hv
    |cons y v =>
     rw[YG,YG]at hv
     injection hv with h1 h2
     injection h1 with h1
     rw[h1,ih v h2]
  exact(inj _ _ q1').symm
 subst e2
 refine⟨as++[p],Zc.trans (by simp),q2,q3,q4,z1,λa ha=>?_⟩
 rcases Yq.mp ha with ha|ha
 ·exact z2 a ha
 ·have:a=p:=by simpa using ha
  rw[this];exact zp
theorem Zc2.nil {H:Hp}{p:Addr} (hp:H p=none):Zc2 H (upd H p (.lst [])) p []:=⟨[],Zc,by simp,rfl,λi h1 h2=>absurd h1 (by simp),hp,λa ha=>nomatch ha⟩
section
variable {X:Cx}{a b c d:Expr}{ta tb tc td:TE}{pos:Pos}
noncomputable def tChain3 (r r' r'':R2) (ta tb tc td:TE):TE:=fun σ H Q=>ta σ H λx H1=>tb σ H1 λy H2=>r x y H2 λz H3=>∃k,z=.bl k /\
 (if k=true then tc σ H3 λy' H4=>r' y y' H4 λz' H5=>∃k',z'=.bl k'/\(if k'=true then td σ H5 λy'' H6=>r'' y' y'' H6 Q else Q (.bl false) H5)else Q (.bl false) H3)
theorem Znl {op op' op'':CmpOp}{r r' r'':R2} (ho:OpR X (compareOp op) r) (ho':OpR X (compareOp op') r') (ho'':OpR X (compareOp op'') r'') (ha:PE X a ta) (hb:PE X b tb) (hc:PE X c tc) (hd:PE X d td)
  (hm:lastMarks [op,op',op''] [b,c,d]=false:=by with_unfolding_all rfl):PE X (.Compare a [op,op',op''] [b,c,d] pos) (tChain3 r r' r'' ta tb tc td):=by
 intro pins s σ H Q I h
 refine Compare_chain (thn (ha pins s σ H _ I h) λv s1 ⟨x,H1,I1,r1,q1⟩=>chain_link (thn (hb pins s1 σ H1 _ I1 q1) λu s2 ⟨y,H2,I2,r2,q2⟩ =>
  thn (ho pins s2 σ H2 x y v u _ I2 r1 r2 q2) λd s3 ⟨z,H3,I3,r3,k,e,q3⟩=>?_)) hm
 subst e
 cases r3
 refine wpAny_truthy_bool ?_
 cases k with
 |false=>exact ite_ff ⟨.bl false,H3,I3,rfl,q3⟩
 |true =>
  refine ite_tt (chain_link (thn (hc pins s3 σ H3 _ I3 q3) λu' s4 ⟨y',H4,I4,r4,q4⟩=>thn (ho' pins s4 σ H4 y y' u u' _ I4 r2 r4 q4) λd' s5 ⟨z',H5,I5,r5,k',e',q5⟩=>?_))
  subst e'
  cases r5
  refine wpAny_truthy_bool ?_
  cases k' with
  |false=>exact ite_ff ⟨.bl false,H5,I5,rfl,q5⟩
  |true=>exact ite_tt (chain_last (thn (hd pins s5 σ H5 _ I5 q5) λw' s6 ⟨z'',H6,I6,r6,q6⟩=>ho'' pins s6 σ H6 y' z'' u' w' Q I6 r4 r6 q6))
noncomputable def iSeq (K:Frag) (tl:TE):TI:=fun σ H R=>tl σ H λx H1=>∃a,x=.ref a/\(((∃xs,SqL K H1 a xs)/\R (Itl K a) H1)\/((∃xs,SqT K H1 a xs)/\R (Itt K a) H1))
theorem ZlP {tg l:Expr}{tl:TE}{K:Frag} (hK:X.K=K) (hl:PE X l tl):PI X tg l (iSeq K tl):=by
 subst hK
 intro pins s σ H R I h
 refine thn (hl pins s σ H _ I h) λv s1 ⟨x,H1,I1,r1,q1⟩=>?_
 obtain⟨a,e,q1⟩:=q1
 subst e
 cases r1
 rcases q1 with⟨⟨xs,hq⟩,q⟩|⟨⟨xs,hq⟩,q⟩
 ·obtain⟨its,rv,p,hz⟩:=I1.list hq
  refine wpAny_pyIter_list p.isList ?_
  refine⟨s1.heap.objs.size,[s1.heap.objs.size],_,_,H1,rfl,I1.kept (t':=s1.toks) λb o e=>Yl _ e,Zjd a _,⟨_,Ys _ rfl,rfl,rfl⟩,λb hb=>?_,q⟩
  have e:b=s1.heap.objs.size:=by simpa using hb
  subst e
  exact I1.Zm6 (Ye _) (I1.hok.fresh (Ye _))
 ·obtain⟨its,rv,p,hz⟩:=I1.tuple hq
  refine wpAny_pyIter_tuple (show s1.heap.IsTuple a its.toArray from p) ?_
  refine⟨s1.heap.objs.size,[s1.heap.objs.size],_,_,H1,rfl,I1.kept (t':=s1.toks) λb o e=>Yl _ e,ZlI a _,⟨_,Ys _ rfl,rfl,rfl⟩,λb hb=>?_,q⟩
  have e:b=s1.heap.objs.size:=by simpa using hb
  subst e
  exact I1.Zm6 (Ye _) (I1.hok.fresh (Ye _))
end
noncomputable def CA (n:Nat) (Pv:Nat->List V->Hp->Prop) (i m:Nat) (acc:List V) (H:Hp):Prop:=m=n-i/\i<=n/\acc.length<=i/\Pv i acc H
theorem CA.take {n:Nat}{Pv:Nat->List V->Hp->Prop}{i:Nat}{acc:List V}{v:V}{H:Hp} (hi:i<n) (hl:acc.length<=i) (h:Pv (i+1) (acc++[v]) H):∃m',m'<n-i/\CA n Pv (i+1) m' (acc++[v]) H:=⟨n-(i+1),by omega,rfl,hi,by simp;omega,h⟩
theorem CA.skip {n:Nat}{Pv:Nat->List V->Hp->Prop}{i:Nat}{acc:List V}{H:Hp} (hi:i<n) (hl:acc.length<=i) (h:Pv (i+1) acc H):∃m',m'<n-i/\CA n Pv (i+1) m' acc H:=⟨n-(i+1),by omega,rfl,hi,by omega,h⟩
theorem ZdK {J:It}{n:Nat}{H1:Hp}{g:TG}{tt:TT}{te:TE}{σ0:St}{Q:VK} (Pv:Nat->List V->Hp->Prop) (hn:n<sizeLine) (h0:Pv 0 [] H1) (hgo:∀i acc H,Pv i acc H->i<n->J.go i H) (hstop:∀acc H,Pv n acc H->J.stop n H)
  (hb:∀i x acc H H',i<n->acc.length<=i->Pv i acc H->J.yld i H x H'->g x σ0 H' fun σ2 H2=>tt σ2 H2 λb H3=>if b=true then te σ2 H3 λv H4=>∃m',m'<n-i/\CA n Pv (i+1) m' (acc++[v]) H4 else ∃m',m'<n-i/\CA n Pv (i+1) m' acc H3)
  (hk:∀l acc H',Pv n acc H'->acc.length<=n->H' l=none->Q (.ref l) (upd H' l (.lst acc))):Zf2 J g tt te σ0 Q H1:=by
 refine⟨CA n Pv,⟨n,rfl,Yz _,Ye _,h0⟩,?_⟩
 rintro i m acc H ⟨rfl,hi,hl,p⟩
 by_cases h:i<n
 ·exact .inr ⟨hgo i acc H p h,by omega,λx H' y=>hb i x acc H H' h hl p y⟩
 ·have e:i=n:=by omega
  subst e
  exact .inl ⟨hstop acc H p,by omega,λq hq=>hk q acc H p hl hq⟩
section
variable {X:Cx}
noncomputable def rInsert:V->List V->Hp->VK->Prop:=λx vs H Q=>∃l xs i y,x=.ref l/\vs=[.int i,y]/\H l=some (.lst xs)/\0<=i/\i<2 ^ 62/\xs.length<sizeLine/\Q .non (upd H l (.lst (xs.take i.toNat++y::xs.drop i.toNat)))
theorem Vals.Zpb:∀{xs:List V}{us:List Value} (k:Nat),Vals xs us->Vals (xs.take k) (us.take k)
 |_,_,0,_=>by simp;exact .nil
 |_,_,_+1,.nil=>.nil
 |_,_,k+1,.cons r h=>.cons r (Vals.Zpb k h)
theorem Vals.dropN:∀{xs:List V}{us:List Value} (k:Nat),Vals xs us->Vals (xs.drop k) (us.drop k)
 |_,_,0,h=>by simpa using h
 |_,_,_+1,.nil=>.nil
 |_,_,k+1,.cons _ h=>Vals.dropN k h
theorem Znm:MtM X "list.insert" rInsert:=by
 intro pins s σ H x vs v us Q I rx rv h
 obtain⟨l,xs,i,y,rfl,rfl,hH,h1,h2,hz,q⟩:=h
 cases rx
 obtain⟨u,u2,rfl,ru,ru2⟩:=rv.two
 obtain⟨t,rfl⟩:=ru
 obtain⟨z,its,n,r,hl,e⟩:=I.Zna hH
 have hf:¬ (!Builtin.List.listFitsIndex i)=true:=by
  unfold Builtin.List.listFitsIndex
  have a1:decide (-(2 ^ 63:Int)<=i)=true:=YS (by omega)
  have a2:decide (i<(2 ^ 63:Int))=true:=YS (by omega)
  rw[a1,a2];decide
 refine call_meets F.slot_list_insert ⟨_,e,rfl⟩ F.entry_list_insert (F.args_list_insert_3 _ _ _) (AutoListH.list_insert_list_int_val_1 l its.toArray n i t u2 hf (by rw[Yn];omega)) ⟨e,?_⟩
 refine⟨.non,_,I.lset (its':=its.take i.toNat++u2::its.drop i.toNat) (ys:=xs.take i.toNat++y::xs.drop i.toNat) hH e ?_ ((r.Zpb _).append (.cons ru2 (r.dropN _))) ?_,rfl,q⟩
 ·show((its.toArray.extract 0 (if i<0 then (i+((its.toArray.size:Nat):Int)).toNat else min i.toNat its.toArray.size)).push u2++its.toArray.extract (if i<0 then (i+((its.toArray.size:Nat):Int)).toNat else min i.toNat its.toArray.size))=_
  rw[Yc (by omega)]
  have e1:its.take (min i.toNat its.length)=its.take i.toNat:=by
   by_cases hh:i.toNat<=its.length
   ·rw[Nat.min_eq_left hh]
   ·rw[Nat.min_eq_right (by omega),List.take_of_length_le (by omega),List.take_of_length_le (by omega)]
  have e2:its.drop (min i.toNat its.length)=its.drop i.toNat:=by
   by_cases hh:i.toNat<=its.length
   ·rw[Nat.min_eq_left hh]
   ·rw[Nat.min_eq_right (by omega),List.drop_of_length_le (by omega),List.drop_of_length_le (by omega)]
  apply Array.ext'
  simp[e1,e2]
  exact List.take_of_length_le (by rw[Y3];omega)
 ·rw[YB,YN,YR,Y3];omega
noncomputable def rIndex (K:Frag):V->List V->Hp->VK->Prop:=λx vs H Q=>∃(l:Addr) (ns:List Int) (k:Int),x=.ref l/\vs=[.int k]/\SqL K H l (ns.map V.int)/\ns.length<=100000/\k∈ns/\Q (.int (ns.idxOf k:Nat)) H
theorem Zpc {K:Frag} (hK:X.K=K):MtM X "list.index" (rIndex K):=by
 subst hK
 intro pins s σ H x vs v us Q I rx rv h
 obtain⟨l,ns,k,rfl,rfl,hH,hz,hk,q⟩:=h
 cases rx
 obtain⟨u,rfl,ru⟩:=rv.one
 obtain⟨t,rfl⟩:=ru
 obtain⟨its,r,pl,_⟩:=I.list hH
 have hi:IntsAre its ns:=intsAre_of r
 have hlen:=r.length
 rw[Yg]at hlen
 obtain⟨⟨cls,dd,data,sl⟩,ho,hc,n,hd⟩:=pl.isList
 simp only at hc hd
 subst hc hd
 have hj:ns.idxOf k<ns.length:=List.idxOf_lt_length_iff.mpr hk
 refine call_meets F.slot_list_index ⟨_,ho,rfl⟩ F.entry_list_index (F.args_list_index_2 _ _)
  (SeqAt.list_indexAt l its.toArray n dd sl (.int k t) (isInt k) (ns.idxOf k) (by rw[Yn];omega) (by omega) ?_ ?_) ⟨ho,λy hy=>(eq_isInt k t hi y (by simpa using hy)).at _ _,⟨.int _,H,I.tok _,⟨_,rfl⟩,q⟩⟩
 ·show isInt k its[ns.idxOf k]=true
  rw[isInt_at k hi _ (by omega) hj]
  simpa using List.getElem_idxOf hj
 ·intro j hjs hlt
  show isInt k its[j]=false
  rw[isInt_at k hi j (by simpa using hjs) (by omega)]
  exact ne_of_lt_idxOf hlt _
end
theorem Zru (xs:List V) (a b:Nat) (h1:a<=b) (h2:b<=xs.length):Zex xs (some (a:Int)) (some (b:Int))=(xs.drop a).take (b-a):=by
 unfold Zex HT.sIx
 have e1:min a xs.length=a:=Nat.min_eq_left (by omega)
 have e2:min b xs.length=b:=Nat.min_eq_left h2
 simp[e1,e2]
 rw[Yc (by omega),Yc (by omega)]
noncomputable def ZA (H:Hp) (p:Addr):Prop:=∃x:Int,H p=some (.lst [.int x])/\0<=x
theorem ZA.ne {H:Hp}{p q:Addr} (P:ZA H p) (h:H q=none):q≠p:=by
 obtain⟨x,e,_⟩:=P
 exact(Zo e h).symm
theorem ZA.same {H H':Hp}{p:Addr} (P:ZA H p) (s:Zh H H'):ZA H' p:=by
 obtain⟨x,e,r⟩:=P
 exact⟨x,s _ _ e,r⟩
theorem ZA.upd {H:Hp}{p q:Addr}{o:HO} (P:ZA H p) (h:H q=none):ZA (L2.upd H q o) p:=P.same ((Zh.refl H).upd h)
theorem ZA.ZiN {H:Hp}{p q:Addr}{o:HO} (P:ZA H p) (h:q≠p):ZA (L2.upd H q o) p:=by
 obtain⟨x,e,r⟩:=P
 exact⟨x,by rw[Zg h.symm];exact e,r⟩
theorem cp60:ZkI 10 60:=by unfold ZkI;decide
theorem qm1:IntMulOk (10 ^ Int.toNat 60) (10 ^ Int.toNat 60):=Zj1 (by decide +kernel) (by decide +kernel)
theorem qm2:IntMulOk (10 ^ Int.toNat 60*10 ^ Int.toNat 60) (10 ^ Int.toNat 60):=Zj1 (by decide +kernel) (by decide +kernel)
theorem qm3:IntMulOk (10 ^ Int.toNat 60*10 ^ Int.toNat 60*10 ^ Int.toNat 60) (10 ^ Int.toNat 60):=Zj1 (by decide +kernel) (by decide +kernel)
theorem qm4:(0:Int)<10 ^ Int.toNat 60*10 ^ Int.toNat 60*10 ^ Int.toNat 60*10 ^ Int.toNat 60:=by decide +kernel
end L2
namespace L2
noncomputable def Zaj (f:Nat->Int) (p q:Nat):Prop:=q<p/\f q<=f p/\∀r,q<r->r<p->f p<f r
noncomputable def Zaw (f:Nat->Int) (n p r:Nat):Prop:=p<r/\r<n/\f r<f p/\∀s,p<s->s<r->f p<=f s
noncomputable def ZdW (f:Nat->Int) (p:Nat):Prop:=∀q,q<p->f p<f q
noncomputable def ZeG (f:Nat->Int) (n p:Nat):Prop:=∀r,p<r->r<n->f p<=f r
noncomputable def ZaD (f:Nat->Int) (n p:Nat) (e:Int):Prop :=
 (ZdW f p/\ZeG f n p/\e=-1)\/(∃q,Zaj f p q/\ZeG f n p/\e=q)\/(∃r,ZdW f p/\Zaw f n p r/\e=r) \/
 ∃q r,Zaj f p q/\Zaw f n p r/\e=if f q<=f r then (r:Int)else q
theorem ZkU {P:Nat->Prop} [DecidablePred P] (i:Nat):∀d r,r+d=i->P r->∃t,r<=t/\t<=i/\P t/\∀s,t<s->s<=i->¬ P s:=by
 intro d
 induction d with
 |zero=>intro r e h;exact⟨r,Ye _,by omega,h,λs h1 h2=>by omega⟩
 |succ d ih =>
  intro r e h
  by_cases hx:∃t,r<t/\t<=i/\P t
  ·obtain⟨t,h1,h2,h3⟩:=hx
   -- step to r+1 by cases
   by_cases h4:P (r+1)
   ·obtain⟨u,u1,u2,u3,u4⟩:=ih (r+1) (by omega) h4
    exact⟨u,by omega,u2,u3,u4⟩
   ·-- go on from the next one
    have gen:∀k t,t+k=i->r<t->P t->∃u,r<=u/\u<=i/\P u/\∀s,u<s->s<=i->¬ P s:=by
     intro k
     induction k with
     |zero=>intro t e h1 h3;exact⟨t,by omega,by omega,h3,λs h1 h2=>by omega⟩
     |succ k ihk =>
      intro t e h1 h3
      by_cases hy:∃s,t<s/\s<=i/\P s
      ·-- the last one of the rest
       have key:∀m,m<=i->(∃s,t<s/\s<=m/\P s)->∃u,t<u/\u<=m/\P u/\∀s,u<s->s<=m->¬ P s:=by
        intro m
        induction m with
        |zero=>rintro _ ⟨s,h5,h6,_⟩;omega
        |succ m ihm =>
         rintro hm ⟨s,h5,h6,h7⟩
         by_cases hp:P (m+1)
         ·exact⟨m+1,by omega,Ye _,hp,λs h1 h2=>by omega⟩
         ·have hs:s<=m:=by
           rcases Nat.lt_or_ge m s with z|z
           ·have:s=m+1:=by omega
            rw[this]at h7;exact absurd h7 hp
           ·exact z
          obtain⟨u,u1,u2,u3,u4⟩:=ihm (by omega) ⟨s,h5,hs,h7⟩
          refine⟨u,u1,by omega,u3,λs' h1 h2=>?_⟩
          by_cases e:s'=m+1
          ·rw[e];exact hp
          ·exact u4 s' h1 (by omega)
       obtain⟨u,u1,u2,u3,u4⟩:=key i (Ye _) hy
       exact⟨u,by omega,u2,u3,u4⟩
      ·exact⟨t,by omega,by omega,h3,λs h1 h2 h5=>hy ⟨s,h1,h2,h5⟩⟩
    exact gen (i-t) t (by omega) h1 h3
  ·exact⟨r,Ye _,by omega,h,λs h1 h2 h3=>hx ⟨s,h1,h2,h3⟩⟩
theorem ZlQ {P:Nat->Prop} [DecidablePred P] {n r:Nat} (hr:r<n) (h:P r):∃t,r<=t/\t<n/\P t/\∀s,t<s->s<n->¬ P s:=by
 obtain⟨t,h1,h2,h3,h4⟩:=ZkU (P:=P) (n-1) (n-1-r) r (by omega) h
 exact⟨t,h1,by omega,h3,λs a b=>h4 s a (by omega)⟩
noncomputable def Zpd (f:Nat->Int) (i:Nat) (sp:List Nat):Prop:=sp.Pairwise (· < ·)/\∀q,q∈sp↔q<i/\∀r,q<r->r<i->f q<=f r
theorem Zj6 (f:Nat->Int) (p:Nat):ZdW f p\/∃q,Zaj f p q:=by
 by_cases h:∃q,q<p/\f q<=f p
 ·obtain⟨q,h1,h2⟩:=h
  obtain⟨t,_,t2,t3,t4⟩:=ZlQ (P:=λq=>f q<=f p) h1 h2
  exact .inr ⟨t,t2,t3,λr a b=>by have:=t4 r a b;omega⟩
 ·exact .inl λq hq=>by
   have:¬ (f q<=f p):=λz=>h ⟨q,hq,z⟩
   omega
theorem Znn {f:Nat->Int}{i p q:Nat} (hp:p<i) (ho:∀r,p<r->r<i->f p<=f r) (h:Zaj f p q):(∀r,q<r->r<i->f q<=f r)/\∀s,q<s->s<p->¬ ∀r,s<r->r<i->f s<=f r:=by
 obtain⟨h1,h2,h3⟩:=h
 refine⟨λr a b=>?_,λs a b z=>?_⟩
 ·rcases Nat.lt_trichotomy r p with c|c|c
  ·have:=h3 r a c;omega
  ·rw[c];exact h2
  ·have:=ho r c b;omega
 ·have:=z p b hp
  have:=h3 s a b
  omega
theorem ZlR {f:Nat->Int}{i:Nat}{A B:List Nat} (hs:Zpd f i (A++B)) (hA:∀q∈A,f q<=f i) (hB:∀q∈B,f i<f q) :
  Zpd f (i+1) (A++[i])/\ZaD f (i+1) i (match A.getLast? with|some q=>(q:Int)|none=>-1)/\∀p e,p<i->ZaD f i p e->ZaD f (i+1) p (if B.head?=some p then (i:Int)else e):=by
 obtain⟨hso,hm⟩:=hs
 have hAB:=List.pairwise_append.mp hso
 have noNx:ZeG f (i+1) i:=λr a b=>by omega
 refine⟨⟨?_,λq=>?_⟩,?_,λp e hp he=>?_⟩
 ·refine List.pairwise_append.mpr ⟨hAB.1,List.pairwise_singleton _ _,λa ha b hb=>?_⟩
  have:b=i:=by simpa using hb
  rw[this]
  exact((hm a).mp (YH _ ha)).1
 ·rw[Yq,YO]
  constructor
  ·rintro(h|h)
   ·obtain⟨h1,h2⟩:=(hm q).mp (YH _ h)
    refine⟨by omega,λr a b=>?_⟩
    by_cases e:r=i
    ·rw[e];exact hA q h
    ·exact h2 r a (by omega)
   ·subst h;exact⟨by omega,λr a b=>by omega⟩
  ·rintro⟨h1,h2⟩
   by_cases e:q=i
   ·exact .inr e
   ·have hq:q∈A++B:=(hm q).mpr ⟨by omega,λr a b=>h2 r a (by omega)⟩
    rcases Yq.mp hq with h|h
    ·exact .inl h
    ·have:=hB q h
     have:=h2 i (by omega) (by omega)
     omega
 ·-- the elder of i
  rcases Zj6 f i with h|⟨q,h⟩
  ·have hA0:A=[]:=by
    cases A with
    |nil=>rfl
    |cons a r =>
     have h1:=((hm a).mp (by simp)).1
     have:=hA a (by simp)
     have:=h a h1
     omega
   rw[hA0]
   exact .inl ⟨h,noNx,rfl⟩
  ·have ho:∀r,q<r->r<i->f q<=f r:=λr a b=>by have:=h.2.2 r a b;have:=h.2.1;omega
   have hqA:q∈A:=by
    rcases Yq.mp ((hm q).mpr ⟨h.1,ho⟩)with z|z
    ·exact z
    ·have:=hB q z;have:=h.2.1;omega
   have hlast:A.getLast?=some q:=by
    have hne:A≠[]:=λz=>by rw[z]at hqA;cases hqA
    rw[List.getLast?_eq_some_getLast hne]
    congr 1
    have hl:A.getLast hne∈A:=List.getLast_mem hne
    -- q<=last,and last is not past q
    by_cases e:A.getLast hne=q
    ·exact e
    ·exfalso
     have hlt:q<A.getLast hne:=by
      have hd:=List.dropLast_concat_getLast hne
      have hq2:q∈A.dropLast:=by
       rw[<-hd]at hqA
       rcases Yq.mp hqA with z|z
       ·exact z
       ·exact absurd (by simpa using z) (Ne.symm e)
      have hp2:=hAB.1
      rw[<-hd]at hp2
      exact(List.pairwise_append.mp hp2).2.2 q hq2 _ (by simp)
     have h1:=((hm (A.getLast hne)).mp (YH _ hl)).1
     have:=h.2.2 _ hlt h1
     have:=hA _ hl
     omega
   rw[hlast]
   exact .inr (.inl ⟨q,h,noNx,rfl⟩)
 ·-- the elder of an earlier place
  have nxt:∀r,Zaw f i p r->Zaw f (i+1) p r:=λr ⟨a,b,c,d⟩=>⟨a,by omega,c,d⟩
  by_cases hop:ZeG f i p
  ·have hmem:p∈A++B:=(hm p).mpr ⟨hp,hop⟩
   by_cases hlt:f i<f p
   ·have hnx:Zaw f (i+1) p i:=⟨hp,by omega,hlt,λs a b=>hop s a b⟩
    have hpB:p∈B:=by
     rcases Yq.mp hmem with z|z
     ·have:=hA p z;omega
     ·exact z
    obtain⟨b0,Br,rfl⟩:∃b0 Br,B=b0::Br:=by
     cases B with
     |nil=>cases hpB
     |cons b0 Br=>exact⟨b0,Br,rfl⟩
    have hhead:(b0::Br).head?=some b0:=rfl
    rw[hhead]
    rcases Zj6 f p with hn|⟨q,hq⟩
    ·-- nothing ahead: p is the first of all
     have e0:b0=p:=by
      by_cases z:b0=p
      ·exact z
      ·exfalso
       have hpr:p∈Br:=by
        rcases Yk.mp hpB with y|y
        ·exact absurd y.symm z
        ·exact y
       have hlt2:b0<p:=(Y6.mp hAB.2.1).1 p hpr
       have:=((hm b0).mp (by simp)).2 p hlt2 hp
       have:=hn b0 hlt2
       omega
     rw[Yd (by rw[e0])]
     exact .inr (.inr (.inl ⟨i,hn,hnx,rfl⟩))
    ·obtain⟨hq1,hq2⟩:=Znn hp hop hq
     have hqm:q∈A++b0::Br:=(hm q).mpr ⟨Nat.lt_trans hq.1 hp,hq1⟩
     by_cases hqi:f q<=f i
     ·-- q is kept: p is the first of B
      have e0:b0=p:=by
       by_cases z:b0=p
       ·exact z
       ·exfalso
        have hpr:p∈Br:=by
         rcases Yk.mp hpB with y|y
         ·exact absurd y.symm z
         ·exact y
        have hlt2:b0<p:=(Y6.mp hAB.2.1).1 p hpr
        have hb0:=(hm b0).mp (by simp)
        have hqA:q∈A:=by
         rcases Yq.mp hqm with y|y
         ·exact y
         ·have:=hB q y;omega
        have hqb:q<b0:=hAB.2.2 q hqA b0 (by simp)
        exact hq2 b0 hqb hlt2 hb0.2
      rw[Yd (by rw[e0])]
      refine .inr (.inr (.inr ⟨q,i,hq,hnx,?_⟩))
      rw[Yd hqi]
     ·-- q goes,too: the elder stays
      have hqB:q∈b0::Br:=by
       rcases Yq.mp hqm with y|y
       ·exact absurd (hA q y) hqi
       ·exact y
      have hne:b0≠p:=by
       intro z
       subst z
       rcases Yk.mp hqB with y|y
       ·have:=hq.1;omega
       ·have:=(Y6.mp hAB.2.1).1 q y
        have:=hq.1;omega
      rw[Yc (by intro z;exact hne (Yo z))]
      have ee:e=q:=by
       rcases he with⟨h1,_,_⟩|⟨q',h1,_,h3⟩|⟨r,h1,_,_⟩|⟨q',r,_,h2,_⟩
       ·have:=h1 q hq.1;have:=hq.2.1;omega
       ·have:q'=q:=by
         rcases Nat.lt_trichotomy q' q with y|y|y
         ·have:=h1.2.2 q y hq.1;have:=hq.2.1;omega
         ·exact y
         ·have:=hq.2.2 q' y h1.1;have:=h1.2.1;omega
        rw[h3,this]
       ·have:=h1 q hq.1;have:=hq.2.1;omega
       ·have:=hop r h2.1 h2.2.1;have:=h2.2.2.1;omega
      refine .inr (.inr (.inr ⟨q,i,hq,hnx,?_⟩))
      rw[Yc hqi,ee]
   ·-- still open: not of B
    have hnn:ZeG f (i+1) p:=λr a b=>by
     by_cases z:r=i
     ·rw[z];omega
     ·exact hop r a (by omega)
    have hne:B.head?≠some p:=λz=>by
     have:p∈B:=List.mem_of_head? z
     have:=hB p this
     omega
    rw[Yc hne]
    rcases he with⟨h1,_,h3⟩|⟨q,h1,_,h3⟩|⟨r,_,h2,_⟩|⟨q,r,_,h2,_⟩
    ·exact .inl ⟨h1,hnn,h3⟩
    ·exact .inr (.inl ⟨q,h1,hnn,h3⟩)
    ·have:=hop r h2.1 h2.2.1;have:=h2.2.2.1;omega
    ·have:=hop r h2.1 h2.2.1;have:=h2.2.2.1;omega
  ·-- shut already
   have hne:B.head?≠some p:=λz=>hop ((hm p).mp (Ym _ (List.mem_of_head? z))).2
   rw[Yc hne]
   rcases he with⟨_,h2,_⟩|⟨q,_,h2,_⟩|⟨r,h1,h2,h3⟩|⟨q,r,h1,h2,h3⟩
   ·exact absurd h2 hop
   ·exact absurd h2 hop
   ·exact .inr (.inr (.inl ⟨r,h1,nxt r h2,h3⟩))
   ·exact .inr (.inr (.inr ⟨q,r,h1,nxt r h2,h3⟩))
end L2
namespace L2
open PySem PySem.Spec PyProof.Rows PySem.W
theorem ZhO {α β:Type}{f g:α->Option β}:∀{l:List α},(∀x∈l,f x=g x)->l.filterMap f=l.filterMap g
 |[],_=>rfl
 |x::r,h=>by rw[List.filterMap_cons,List.filterMap_cons,h x (Y1 ..),ZhO λy hy=>h y (YW _ hy)]
theorem Zno (its:List Value) (k:Nat) (hk:k<=its.length) (start:Nat):(its.zipIdx start).filterMap (λxk=>if (decide (((start+k:Nat):Int)<=(xk.2:Int))&&decide ((xk.2:Int)<((start+its.length:Nat):Int))&&(((xk.2:Int)-((start+k:Nat):Int)) % 1==0))=true then none else some xk.1)=its.take k:=by
 induction its generalizing k start with
 |nil=>simp
 |cons x r ih =>
  rw[List.zipIdx_cons,List.filterMap_cons]
  cases k with
  |zero =>
   have h1:(decide (((start+0:Nat):Int)<=(start:Int))&&decide ((start:Int)<((start+(x::r).length:Nat):Int))&&(((start:Int)-((start+0:Nat):Int)) % 1==0))=true:=by
    simp;omega
   simp only[h1,if_true]
   have:=ih 0 (by omega) (start+1)
   rw[List.take_zero]at this⊢
   rw[<-this]
   refine ZhO λxk hxk=>?_
   have hm:=List.mem_zipIdx hxk
   have e1:(decide (((start+0:Nat):Int)<=(xk.2:Int)))=(decide (((start+1+0:Nat):Int)<=(xk.2:Int))):=by
    rw[decide_eq_decide];omega
   have e2:((start+(x::r).length:Nat):Int)=((start+1+r.length:Nat):Int):=by simp;omega
   have e3:(((xk.2:Int)-((start+0:Nat):Int)) % 1==0)=(((xk.2:Int)-((start+1+0:Nat):Int)) % 1==0):=by simp[Int.emod_one]
   rw[e1,e2,e3]
  |succ k =>
   have h1:(decide (((start+(k+1):Nat):Int)<=(start:Int))&&decide ((start:Int)<((start+(x::r).length:Nat):Int))&&(((start:Int)-((start+(k+1):Nat):Int)) % 1==0))=false:=by
    have:decide (((start+(k+1):Nat):Int)<=(start:Int))=false:=YQ (by omega)
    rw[this];rfl
   simp only[h1,Bool.false_eq_true,if_false]
   rw[List.take_succ_cons]
   congr 1
   have:=ih k (by simpa using hk) (start+1)
   rw[<-this]
   refine ZhO λxk hxk=>?_
   have e1:((start+(k+1):Nat):Int)=((start+1+k:Nat):Int):=by omega
   have e2:((start+(x::r).length:Nat):Int)=((start+1+r.length:Nat):Int):=by simp;omega
   rw[e1,e2]
section
variable {X:Cx}{e st:Expr}{te ts:TE}{pos pos1 p2:Pos}
noncomputable def tDelT (te ts:TE):TS:=λD σ H=>te σ H λx H1=>ts σ H1 λz H2=>∃(l:Addr) (xs:List V) (k:Nat),x=.ref l/\z=.int k/\H2 l=some (.lst xs)/\k<=xs.length/\D.nx σ (upd H2 l (.lst (xs.take k)))
theorem ZlS (he:PE X e te) (hs:PE X st ts):PS X (.Delete [.Subscript e (.Slice (some st) none none p2) pos1] pos) (tDelT te ts):=by
 intro pins s σ H D I h
 refine wpAny_Delete (wpAny_deleteEach_cons ?_)
 show wpAny _ _ (eval e X.env >>= λov=>holding [ov] (eval (.Slice (some st) none none p2) X.env) >>= λiv=>(do standAt pos1;holding [ov,iv] (delItem ov iv);release [ov,iv] [])) _ _ _
 refine Ya (thn (he pins s σ H _ I h) λv s1 ⟨x,H1,I1,r1,q1⟩=>?_)
 refine Ya (wpAny_holding ?_)
 refine wpAny_Slice ?_
 rw[evalPart_some]
 refine thn (hs pins s1 σ H1 _ I1 q1) λvs s2 ⟨z,H2,I2,r2,l,xs,k,e1,e2,hx,hk,q⟩=>?_
 subst e1 e2
 obtain⟨tk,rfl⟩:=r2
 cases r1
 rw[evalPart_none]
 refine Yb ?_
 refine Yb ?_
 have I4:Inv X pins σ H2 {s2 with heap:=s2.heap.push {cls:=.type "slice",data:=.fields #[.int k tk,.none,.none]}}:=I2.kept (t':=s2.toks) λb ob q=>Yl _ q
 have hsl:({s2 with heap:=s2.heap.push {cls:=.type "slice",data:=.fields #[.int k tk,.none,.none]}}:Shared).heap.get? s2.heap.objs.size=some {cls:=.type "slice",data:=.fields #[.int k tk,.none,.none]}:=Ys _ rfl
 obtain⟨z,its,n,r,hlen,hob⟩:=I4.Zna hx
 generalize ({s2 with heap:=s2.heap.push {cls:=.type "slice",data:=.fields #[.int k tk,.none,.none]}}:Shared)=s4 at I4 hsl hob⊢
 have hT:s4.TypeIs (.ref l) "list":=⟨_,hob,rfl⟩
 have hTs:s4.TypeIs (.ref s2.heap.objs.size) "slice":=⟨_,hsl,rfl⟩
 refine Ya (wpAny_standAt (Ya (wpAny_holding ?_)))
 refine wpAny_delItem_slot hT (by decide) F.slot_list_delitem (wpAny_call_entry F.slot_list_delitem hT F.entry_list_delitem ?_ (F.args_list_delitem_2 _ _))
 show wpAny _ _ (Builtin.List.listSubscript? (.ref s2.heap.objs.size) >>= _) _ _ s4
 refine Ya ?_;unfold Builtin.List.listSubscript?;refine Ya (wpAny_specialOf hTs slice_no_index ?_)
 simp only[Option.isNone_none,if_true];refine Yb ?_
 show wpAny _ _ (typeOf (.ref s2.heap.objs.size) >>= _) _ _ s4
 refine Ya (wpAny_typeOf hTs ?_);rw[Yc (by decide),listSliceParts_eq]
 refine Ya (Ya (wpAny_field hsl rfl (x:=.none) rfl (Ya (wpAny_listPart (k:=none) .none ?_))));rw[Yc (show ¬ ((rawPart none==rawInt 0)=true)from Yu)]
 refine Ya (wpAny_field hsl rfl (x:=.int k tk) rfl (Ya (wpAny_listPart (.int (k:Int) tk) ?_)))
 refine Ya (wpAny_field hsl rfl (x:=.none) rfl (Ya (wpAny_listPart (k:=none) .none (Yb ?_))))
 refine Ya (m:=Builtin.List.listItems (.ref l)) ?_;unfold Builtin.List.listItems
 refine Ya (wpAny_seqItems hob rfl (Yb ?_));refine Ya (wpAny_of_eq (sliceIndices_raw (some (k:Int)) none none its.toArray.size (by simp)) (Ya (wpAny_rule ?_)))
 have hb:sliceBounds (some (k:Int)) none none its.toArray.size=((k:Int),((its.length:Nat):Int),1):=by
  unfold sliceBounds
  simp
  omega
 rw[hb]
 have hf:∀f:Array Value->Array Value,(∀ys:Array Value,f ys=(ys.toList.zipIdx.filterMap λxk=>if (decide ((k:Int)<=(xk.2:Int))&&decide ((xk.2:Int)<((its.length:Nat):Int))&&(((xk.2:Int)-(k:Int)) % 1==0))=true then none else some xk.1).toArray)->f its.toArray=(its.take k).toArray:=λf h=>by
  rw[h]
  congr 1
  have:=Zno its k (by omega) 0
  simpa using this
 refine Ya (m:=updateSeq l _) ?_
 refine wpAny_updateSeq (n:=n) hob rfl ?_ (by rw[Yn];omega) ?_
 ·refine Ya (wpAny_letGo (Yb ⟨_,rfl,?_⟩))
  refine wpAny_release (wpAny_deleteEach_nil ⟨σ,_,I4.lset hx hob (hf _ λys=>rfl) (r.Zpb k) ?_,q⟩)
  rw[YR];omega
 ·rw[Yn]
  refine Yi (List.length_filterMap_le _ _) ?_
  rw[List.length_zipIdx]
  show its.length<=sizeLine+1
  omega
end
theorem Zaj.unique {f:Nat->Int}{p q q':Nat} (h:Zaj f p q) (k:Zaj f p q'):q=q':=by
 rcases Nat.lt_trichotomy q q' with z|z|z
 ·have:=h.2.2 q' z k.1;have:=k.2.1;omega
 ·exact z
 ·have:=k.2.2 q z h.1;have:=h.2.1;omega
theorem Zaw.unique {f:Nat->Int}{n p r r':Nat} (h:Zaw f n p r) (k:Zaw f n p r'):r=r':=by
 rcases Nat.lt_trichotomy r r' with z|z|z
 ·have:=k.2.2.2 r h.1 z;have:=h.2.2.1;omega
 ·exact z
 ·have:=h.2.2.2 r' k.1 z;have:=k.2.2.1;omega
theorem Zaj.no {f:Nat->Int}{p q:Nat} (h:Zaj f p q) (k:ZdW f p):False:=by have:=k q h.1;have:=h.2.1;omega
theorem Zaw.no {f:Nat->Int}{n p r:Nat} (h:Zaw f n p r) (k:ZeG f n p):False:=by have:=k r h.1 h.2.1;have:=h.2.2.1;omega
noncomputable def ZfF (ns:List Int) (es:List Int):Prop:=es.length=ns.length/\∀p,p<ns.length->ZaD (nth ns) ns.length p (es.getD p 0)
end L2
namespace L2
noncomputable def Over (f:Nat->Int) (o p:Nat):Prop:=(o<p/\∀r,o<r->r<=p->f o<=f r)\/(p<o/\∀r,p<=r->r<o->f o<f r)
theorem Over.irrefl {f:Nat->Int}{p:Nat}:¬ Over f p p:=by rintro(⟨h,_⟩|⟨h,_⟩)<;>omega
theorem Over.trans {f:Nat->Int}{o e p:Nat} (h:Over f o e) (k:Over f e p):Over f o p:=by
 rcases h with⟨h1,h2⟩|⟨h1,h2⟩<;>rcases k with⟨k1,k2⟩|⟨k1,k2⟩
 ·refine .inl ⟨by omega,λr r1 r2=>?_⟩
  by_cases z:r<=e
  ·exact h2 r r1 z
  ·have:=k2 r (by omega) r2;have:=h2 e h1 (Ye _);omega
 ·have he:=h2 e h1 (Ye _)
  rcases Nat.lt_trichotomy o p with z|z|z
  ·exact .inl ⟨z,λr r1 r2=>h2 r r1 (by omega)⟩
  ·have:=k2 p (Ye _) k1;subst z;omega
  ·exact .inr ⟨z,λr r1 r2=>by have:=k2 r r1 (by omega);omega⟩
 ·have he:=h2 e (Ye _) h1
  rcases Nat.lt_trichotomy o p with z|z|z
  ·exact .inl ⟨z,λr r1 r2=>by have:=k2 r (by omega) r2;omega⟩
  ·have:=k2 p k1 (Ye _);subst z;omega
  ·exact .inr ⟨z,λr r1 r2=>h2 r (by omega) r2⟩
 ·refine .inr ⟨by omega,λr r1 r2=>?_⟩
  by_cases z:r<e
  ·have:=k2 r r1 z;have:=h2 e (Ye _) h1;omega
  ·exact h2 r (by omega) r2
theorem ZfG {f:Nat->Int}{n p:Nat}{e:Int} (hp:p<n) (h:ZaD f n p e):e=-1\/∃q:Nat,e=q/\q<n/\Over f q p:=by
 have pv:∀q,Zaj f p q->Over f q p:=λq h=>.inl ⟨h.1,λr r1 r2=>by
  by_cases z:r=p
  ·rw[z];exact h.2.1
  ·have:=h.2.2 r r1 (by omega);have:=h.2.1;omega⟩
 have nx:∀q,Zaw f n p q->Over f q p:=λq h=>.inr ⟨h.1,λr r1 r2=>by
  by_cases z:r=p
  ·rw[z];exact h.2.2.1
  ·have:=h.2.2.2 r (by omega) r2;have:=h.2.2.1;omega⟩
 rcases h with⟨_,_,h⟩|⟨q,h1,_,h⟩|⟨r,_,h1,h⟩|⟨q,r,h1,h2,h⟩
 ·exact .inl h
 ·exact .inr ⟨q,h,by have:=h1.1;omega,pv q h1⟩
 ·exact .inr ⟨r,h,h1.2.1,nx r h1⟩
 ·by_cases z:f q<=f r
  ·rw[Yd z]at h;exact .inr ⟨r,h,h2.2.1,nx r h2⟩
  ·rw[Yc z]at h;exact .inr ⟨q,h,by have:=h1.1;omega,pv q h1⟩
theorem Zjn {f:Nat->Int}{n p o:Nat}{e:Int} (hp:p<n) (ho:o<n) (h:ZaD f n p e) (hO:Over f o p):∃q:Nat,e=q/\q<n/\(o=q\/Over f o q):=by
 rcases hO with⟨o1,o2⟩|⟨o1,o2⟩
 ·have op:=o2 p o1 (Ye _)
  have pv:∀q,Zaj f p q->o=q\/(o<q/\Over f o q/\f o<=f q):=λq h=>by
   rcases Nat.lt_trichotomy o q with z|z|z
   ·have:=h.1;exact .inr ⟨z,.inl ⟨z,λr r1 r2=>o2 r r1 (by omega)⟩,o2 q z (by omega)⟩
   ·exact .inl z
   ·have:=h.2.2 o z o1;omega
  rcases h with⟨h1,_,h⟩|⟨q,h1,_,h⟩|⟨r,h1,_,h⟩|⟨q,r,h1,h2,h⟩
  ·have:=h1 o o1;omega
  ·refine⟨q,h,by have:=h1.1;omega,?_⟩
   rcases pv q h1 with z|z
   ·exact .inl z
   ·exact .inr z.2.1
  ·have:=h1 o o1;omega
  ·by_cases z:f q<=f r
   ·rw[Yd z]at h
    refine⟨r,h,h2.2.1,.inr (.inl ⟨by have:=h2.1;omega,λs s1 s2=>?_⟩)⟩
    by_cases sp:s<=p
    ·exact o2 s s1 sp
    ·by_cases sr:s=r
     ·rw[sr]
      rcases pv q h1 with y|y
      ·rw[y];exact z
      ·have:=y.2.2;omega
     ·have:=h2.2.2.2 s (by omega) (by omega);omega
   ·rw[Yc z]at h
    refine⟨q,h,by have:=h1.1;omega,?_⟩
    rcases pv q h1 with z|z
    ·exact .inl z
    ·exact .inr z.2.1
 ·have op:=o2 p (Ye _) o1
  have nx:∀r,Zaw f n p r->o=r\/(r<o/\Over f o r/\f o<f r):=λr h=>by
   rcases Nat.lt_trichotomy o r with z|z|z
   ·have:=h.2.2.2 o o1 z;omega
   ·exact .inl z
   ·have:=h.1;exact .inr ⟨z,.inr ⟨z,λs s1 s2=>o2 s (by omega) s2⟩,o2 r (by omega) z⟩
  rcases h with⟨_,h1,h⟩|⟨q,_,h1,h⟩|⟨r,_,h1,h⟩|⟨q,r,h1,h2,h⟩
  ·have:=h1 o o1 ho;omega
  ·have:=h1 o o1 ho;omega
  ·refine⟨r,h,h1.2.1,?_⟩
   rcases nx r h1 with z|z
   ·exact .inl z
   ·exact .inr z.2.1
  ·by_cases z:f q<=f r
   ·rw[Yd z]at h
    refine⟨r,h,h2.2.1,?_⟩
    rcases nx r h2 with z|z
    ·exact .inl z
    ·exact .inr z.2.1
   ·rw[Yc z]at h
    refine⟨q,h,by have:=h1.1;omega,.inr (.inr ⟨by have:=h1.1;omega,λs s1 s2=>?_⟩)⟩
    by_cases sp:p<=s
    ·exact o2 s sp s2
    ·by_cases sq:s=q
     ·rw[sq]
      rcases nx r h2 with y|y
      ·rw[y];omega
      ·have:=y.2.2;omega
     ·have:=h1.2.2 s (by omega) (by omega);omega
theorem ZkV {f:Nat->Int}{n p o q:Nat} (hp:p<n) (ho:o<n) (h:ZaD f n p (q:Int)):Over f o p↔o=q\/Over f o q:=by
 refine⟨λk=>?_,λk=>?_⟩
 ·obtain⟨q',e,_,z⟩:=Zjn hp ho h k
  have:q'=q:=by omega
  rw[this]at z;exact z
 ·rcases ZfG hp h with z|⟨q',e,_,z⟩
  ·omega
  ·have:q'=q:=by omega
   rw[this]at z
   rcases k with k|k
   ·rw[k];exact z
   ·exact k.trans z
theorem Zjo {f:Nat->Int}{n p o:Nat} (hp:p<n) (ho:o<n) (h:ZaD f n p (-1)):¬ Over f o p:=λk=>by
 obtain⟨q',e,_,z⟩:=Zjn hp ho h k
 omega
theorem ZhP {P Q:Nat->Bool}:∀n,(∀o,o<n->P o=Q o)->(List.range n).countP P=(List.range n).countP Q
 |0,_=>rfl
 |n+1,h=>by
  rw[YE,List.countP_append,List.countP_append,ZhP n (λo ho=>h o (by omega))]
  simp[List.countP_cons,h n (by omega)]
theorem ZfH {P Q:Nat->Bool}{e:Nat}:∀n,e<n->(∀o,o<n->(P o=true↔o=e\/Q o=true))->Q e=false->(List.range n).countP P=(List.range n).countP Q+1
 |0,h,_,_=>by omega
 |n+1,h,hi,hq=>by
  rw[YE,List.countP_append,List.countP_append]
  by_cases z:e=n
  ·have e1:(List.range n).countP P=(List.range n).countP Q:=ZhP n λo ho=>by
    have:=hi o (by omega)
    cases hP:P o<;>cases hQ:Q o<;>simp[hP,hQ]at this<;>first|rfl|omega
   have hPn:P n=true:=(hi n (by omega)).mpr (.inl z.symm)
   rw[z]at hq
   rw[e1];simp[List.countP_cons,hPn,hq]
  ·rw[ZfH n (by omega) (λo ho=>hi o (by omega)) hq]
   have:=hi n (by omega)
   have hn:P n=Q n:=by
    cases hP:P n<;>cases hQ:Q n<;>simp[hP,hQ]at this<;>first|rfl|omega
   simp[List.countP_cons,hn];omega
theorem Zpe {P:Nat->Bool}{e n:Nat} (he:e<n) (h:P e=false):(List.range n).countP P<n:=by
 have h1:=ZfH (P:=λo=>decide (o=e)||P o) (Q:=P) n he (λo _=>by simp) h
 have h2:=List.countP_le_length (p:=λo=>decide (o=e)||P o) (l:=List.range n)
 rw[h1,YT]at h2
 omega
noncomputable def Za5 (T:List Int):Nat->Int->List Nat
 |0,_=>[]
 |k+1,at_=>if 0<=at_/\at_<T.length then at_.toNat::Za5 T k (nth T at_.toNat)else []
open Classical in
noncomputable def dep (f:Nat->Int) (n p:Nat):Nat:=(List.range n).countP λo=>decide (Over f o p)
theorem dep_lt {f:Nat->Int}{n p:Nat} (hp:p<n):dep f n p<n:=by
 classical
 exact Zpe hp (by simpa using Over.irrefl)
theorem Znp {f:Nat->Int}{n p q:Nat} (hp:p<n) (h:ZaD f n p (q:Int)):dep f n p=dep f n q+1:=by
 classical
 have hq:q<n:=by
  rcases ZfG hp h with z|⟨q',e,z,_⟩<;>omega
 exact ZfH n hq (λo ho=>by simpa using ZkV hp ho h) (by simpa using Over.irrefl)
theorem Zrv {f:Nat->Int}{n p:Nat} (hp:p<n) (h:ZaD f n p (-1)):dep f n p=0:=by
 classical
 unfold dep
 rw[List.countP_eq_zero]
 intro o ho
 simpa using Zjo hp (by simpa using ho) h
theorem ZkW {ns T:List Int} (hT:ZfF ns T):∀k p,p<ns.length->dep (nth ns) ns.length p<=k->(∀o,o∈Za5 T k (nth T p)↔o<ns.length/\Over (nth ns) o p)/\(Za5 T k (nth T p)).length=dep (nth ns) ns.length p
 |k,p,hp,hk=>by
  have hE:ZaD (nth ns) ns.length p (nth T p):=hT.2 p hp
  rcases ZfG hp hE with z|⟨q,e,hq,hO⟩
  ·have e0:Za5 T k (nth T p)=[]:=by
    cases k with
    |zero=>rfl
    |succ k=>rw[Za5,Yc (by omega)]
   rw[e0]
   rw[z]at hE
   exact⟨λo=>⟨λh=>by simp at h,λh=>absurd h.2 (Zjo hp h.1 hE)⟩,by rw[Zrv hp hE];rfl⟩
  ·rw[e]at hE
   have hd:=Znp hp hE
   obtain⟨k',rfl⟩:∃k',k=k'+1:=⟨k-1,by omega⟩
   have ih:=ZkW hT k' q hq (by omega)
   have eT:((q:Nat):Int).toNat=q:=by omega
   rw[Za5,e,Yd ⟨by omega,by rw[hT.1];omega⟩,eT]
   refine⟨λo=>?_,by simp[ih.2,hd]⟩
   rw[Yk,ih.1 o]
   refine⟨λh=>?_,λh=>?_⟩
   ·rcases h with h|h
    ·rw[h];exact⟨hq,hO⟩
    ·exact⟨h.1,h.2.trans hO⟩
   ·rcases(ZkV hp h.1 hE).mp h.2 with z|z
    ·exact .inl z
    ·exact .inr ⟨h.1,z⟩
end L2
namespace L2
open PySem PySem.Spec PyProof.Rows PySem.W
noncomputable def Zhg (es:List Int) (A B:List Nat) (i:Nat):List Int:=match A.getLast? with
 |some q=>(match B.head? with|some b=>es.set b i|none=>es).set i (q:Int)
 |none=>match B.head? with|some b=>es.set b i|none=>es
noncomputable def ZO (l:List Nat):List V:=l.map λq=>V.int (q:Nat)
theorem Zf3 (l:List Int) (a p:Nat) (v:Int) (h:p<l.length):(l.set a v).getD p 0=if a=p then v else l.getD p 0:=by
 rw[YD,YD]
 by_cases e:a=p
 ·subst e;rw[Yd rfl,List.getElem?_set_self h];rfl
 ·rw[Yc e,List.getElem?_set_ne e]
theorem Zpf (es:List Int) (A B:List Nat) (i:Nat):(Zhg es A B i).length=es.length:=by
 unfold Zhg
 cases A.getLast?<;>cases B.head?<;>simp
theorem ZmS (es:List Int) (A B:List Nat) (i p:Nat) (hp:p<es.length) (hb:∀b,B.head?=some b->b≠i):(Zhg es A B i).getD p 0=if p=i then (match A.getLast? with|some q=>(q:Int)|none=>es.getD i 0)else if B.head?=some p then (i:Int)else es.getD p 0:=by
 unfold Zhg
 cases hA:A.getLast? with
 |none =>
  cases hB:B.head? with
  |none =>
   by_cases e:p=i
   ·rw[Yd e,e]
   ·rw[Yc e,Yc (by simp)]
  |some b =>
   show(es.set b i).getD p 0=_
   rw[Zf3 _ _ _ _ hp]
   by_cases e:p=i
   ·rw[Yd e,Yc (by rw[e];exact hb b hB),e]
   ·rw[Yc e]
    by_cases e2:b=p
    ·rw[Yd e2,Yd (by rw[e2])]
    ·rw[Yc e2,Yc (by intro z;exact e2 (Yo z))]
 |some q =>
  cases hB:B.head? with
  |none =>
   show(es.set i q).getD p 0=_
   rw[Zf3 _ _ _ _ hp]
   by_cases e:p=i
   ·rw[Yd e,Yd e.symm]
   ·rw[Yc e,Yc (λz=>e z.symm),Yc (by simp)]
  |some b =>
   show((es.set b i).set i q).getD p 0=_
   rw[Zf3 _ _ _ _ (by simpa using hp),Zf3 _ _ _ _ hp]
   by_cases e:p=i
   ·rw[Yd e,Yd e.symm]
   ·rw[Yc e,Yc (λz=>e z.symm)]
    by_cases e2:b=p
    ·rw[Yd e2,Yd (by rw[e2])]
    ·rw[Yc e2,Yc (by intro z;exact e2 (Yo z))]
theorem Zpg:∀(l:List Nat) (i lo:Nat),l.Pairwise (· < ·)->(∀q∈l,lo<=q/\q<i)->l.length+lo<=i\/l=[]
 |[],_,_,_,_=>.inr rfl
 |q::r,i,lo,h,hq=>by
  have h1:=hq q (by simp)
  have hr:=Y6.mp h
  rcases Zpg r i (q+1) hr.2 (λx hx=>⟨hr.1 x hx,(hq x (by simp[hx])).2⟩)with z|z
  ·left;simp;omega
  ·left;rw[z];simp;omega
theorem Z3 (l:List Nat):(ZO l).length=l.length:=by simp[ZO]
theorem Zgy (a b:List Nat):ZO (a++b)=ZO a++ZO b:=by simp[ZO]
theorem ZeH {l:List Nat}{j q:Nat} (h:l[j]?=some q):atI (ZO l) (j:Int)=some (V.int (q:Nat)):=by
 have hj:=(Yr.mp h).1
 have e:=(Yr.mp h).2
 rw[ZhL rfl (by rw[Z3];exact hj)]
 simp[ZO,e]
theorem Zhz {n j:Nat} (h:j<n):ixN n (j:Int)=some j:=by
 unfold ixN
 rw[Yd (by omega),Yd (by omega)];simp
noncomputable def wayI (T:List Int) (p:Nat):List Int:=(Za5 T T.length (nth T p)).map λq=>((q:Nat):Int)
theorem ZkX (T:List Int):∀k a,(Za5 T k a).length<=k
 |0,_=>by simp[Za5]
 |k+1,a=>by
  rw[Za5]
  split
  ·have:=ZkX T k (nth T a.toNat);simp;omega
  ·simp
noncomputable def ZaS (T:List Int):Nat->Int->Int
 |0,a=>a
 |j+1,a=>if 0<=a/\a<T.length then ZaS T j (nth T a.toNat)else a
theorem Zjp (T:List Int):∀j a,0<=ZaS T j a->ZaS T j a<T.length->(Za5 T j a).length=j->Za5 T (j+1) a=Za5 T j a++[(ZaS T j a).toNat]/\ZaS T (j+1) a=nth T (ZaS T j a).toNat
 |0,a,h0,h1,_=>by
  have h0':0<=a:=h0
  have h1':a<T.length:=h1
  constructor
  ·simp[Za5,ZaS,h0',h1']
  ·simp[ZaS,h0',h1']
 |j+1,a,h0,h1,hl=>by
  rw[Za5]at hl
  by_cases z:0<=a/\a<T.length
  ·rw[Yd z]at hl
   have e1:ZaS T (j+1) a=ZaS T j (nth T a.toNat):=by rw[ZaS,Yd z]
   rw[e1]at h0 h1
   have ih:=Zjp T j (nth T a.toNat) h0 h1 (by simpa using hl)
   constructor
   ·rw[Za5,Yd z,ih.1,Za5.eq_def T (j+1) a]
    simp only[Yd z,e1];simp
   ·rw[ZaS,Yd z,ih.2,e1]
  ·rw[Yc z]at hl;simp at hl
theorem Zjq (T:List Int):∀j k a,j<=k->(Za5 T j a).length=j->¬ (0<=ZaS T j a/\ZaS T j a<T.length)->Za5 T k a=Za5 T j a
 |0,k,a,_,_,h=>by
  have h':¬ (0<=a/\a<T.length):=h
  cases k with
  |zero=>rfl
  |succ k=>rw[show Za5 T 0 a=[]from rfl,Za5,Yc h']
 |j+1,k,a,hk,hl,h=>by
  rw[Za5]at hl
  by_cases z:0<=a/\a<T.length
  ·rw[Yd z]at hl
   rw[ZaS,Yd z]at h
   obtain⟨k',rfl⟩:∃k',k=k'+1:=⟨k-1,by omega⟩
   rw[Za5,Yd z,Zjq T j k' _ (by omega) (by simpa using hl) h,Za5,Yd z]
  ·rw[Yc z]at hl;simp at hl
theorem ZaE {a b:TS}{D:Ends}{σ:St}{H:Hp} (Mid:St->Hp->Prop) (h1:∀R:St->Hp->Prop,(∀σ' H',Mid σ' H'->R σ' H')->a {D with nx:=R} σ H) (h2:∀σ' H',Mid σ' H'->b D σ' H'):tSeq a b D σ H:=h1 _ h2
theorem Zj7 (xs:List V) (j:Nat):Zex xs none (some (j:Int))=xs.take j:=by
 have h:¬ ((j:Int)<0):=by omega
 unfold Zex HT.sIx
 simp only[Yc h,List.drop_zero,Nat.sub_zero]
 rw[List.take_eq_take_iff]
 omega
theorem Zjr (xs:List V) (j:Nat):Zex xs (some (j:Int)) none=xs.drop j:=by
 have h:¬ ((j:Int)<0):=by omega
 unfold Zex HT.sIx
 simp only[Yc h,YL]
 by_cases z:j<=xs.length
 ·rw[Nat.min_eq_left z]
  exact List.take_of_length_le (by rw[Y3];omega)
 ·rw[Nat.min_eq_right (by omega),Nat.sub_self,List.take_zero,List.drop_eq_nil_of_le (show xs.length<=j by omega)]
end L2
namespace L2
open PySem PySem.Spec PyProof.Rows
structure CellsOf (cl:List (Str×Addr)) (n0:Nat) (cs:List (Str×Addr)) (h0 h:Heap) (done:List (Str×NameKind)):Prop where
 old:∀b o,h0.get? b=some o->h.get? b=some o
 sz:n0<=h.objs.size
 mem:∀p∈cs,p∈cl\/(n0<=p.2/\p.2<h.objs.size/\h.IsCell p.2 none)
 inj:∀p∈cs,∀q∈cs,n0<=p.2->p.2=q.2->p.1=q.1
 own:∀y∈done,y.2=.cell->∃c,cs.lookup y.1=some c/\n0<=c
 oth:∀x,(∀y∈done,y.2=.cell->y.1≠x)->cs.lookup x=cl.lookup x
theorem Zgz {M:Model}{A:Around}{E:Value->Shared->Prop}{cl:List (Str×Addr)}{n0:Nat}{h0:Heap} (hcl:∀p∈cl,p.2<n0):∀(names:List (Str×NameKind)) (cs:List (Str×Addr)) (done:List (Str×NameKind)) (s:Shared),CellsOf cl n0 cs h0 s.heap done ->
  wpAny M A (forIn names cs λ(x:Str×NameKind) (r:List (Str×Addr))=>(match x with
   |(name,kind)=>if (kind==NameKind.cell)=true then do
     let a <-alloc {cls:=.type "cell",data:=.cell none}
     pure (ForInStep.yield ((name,a)::r))
    else pure (ForInStep.yield r):Sem (ForInStep (List (Str×Addr))))) (λcs' s'=>∃h',s'={s with heap:=h'}/\CellsOf cl n0 cs' h0 h' (done++names)) E s
 |[],cs,done,s,I=>by
  rw[List.forIn_nil,List.append_nil]
  exact Yb ⟨s.heap,rfl,I⟩
 |(n,k)::r,cs,done,s,I=>by
  rw[List.forIn_cons]
  by_cases hk:k=.cell
  ·subst hk
   simp only[beq_self_eq_true,if_true]
   refine Ya (Ya (wpAny_alloc (Yb ?_)))
   have hget:(s.heap.push {cls:=.type "cell",data:=.cell none}).get? s.heap.objs.size=some {cls:=.type "cell",data:=.cell none}:=Ys _ rfl
   have I':CellsOf cl n0 ((n,s.heap.objs.size)::cs) h0 (s.heap.push {cls:=.type "cell",data:=.cell none}) (done++[(n,.cell)]):=by
    refine⟨λb o e=>Yl _ (I.old b o e),by rw[Heap.size_push];exact Nat.le_succ_of_le I.sz,λp hp=>?_,λp hp q hq hn e=>?_,λy hy hc=>?_,λx hx=>?_⟩
    ·rcases Yk.mp hp with z|z
     ·subst z
      exact .inr ⟨I.sz,by rw[Heap.size_push];exact Nat.lt_succ_self _,_,hget,rfl⟩
     ·rcases I.mem p z with w|⟨w1,w2,o,w3,w4⟩
      ·exact .inl w
      ·exact .inr ⟨w1,by rw[Heap.size_push];exact YI w2,o,Yl _ w3,w4⟩
    ·have lt:∀p∈cs,p.2<s.heap.objs.size:=λp hp=>by
      rcases I.mem p hp with w|w
      ·exact Yp (hcl p w) I.sz
      ·exact w.2.1
     rcases Yk.mp hp with z|z<;>rcases Yk.mp hq with z'|z'
     ·rw[z,z']
     ·subst z;exact absurd (show s.heap.objs.size<s.heap.objs.size from(show s.heap.objs.size=q.2 from e)▸lt q z') (Yw _)
     ·subst z';exact absurd (show s.heap.objs.size<s.heap.objs.size from(show p.2=s.heap.objs.size from e)▸lt p z) (Yw _)
     ·exact I.inj p z q z' hn e
    ·rcases Yq.mp hy with z|z
     ·obtain⟨c,e1,e2⟩:=I.own y z hc
      by_cases hx:y.1=n
      ·exact⟨s.heap.objs.size,by rw[hx];simp,I.sz⟩
      ·have hb:(y.1==n)=false:=by simpa using hx
       exact⟨c,by simp only[List.lookup_cons,hb];exact e1,e2⟩
     ·have:y=(n,.cell):=by simpa using z
      subst this
      exact⟨s.heap.objs.size,by simp,I.sz⟩
    ·have hxn:n≠x:=hx (n,.cell) (by simp) rfl
     have hb:(x==n)=false:=by simpa using hxn.symm
     simp only[List.lookup_cons,hb]
     exact I.oth x λy hy=>hx y (YH _ hy)
   refine thn (Zgz hcl r _ _ {s with heap:=s.heap.push {cls:=.type "cell",data:=.cell none}} I') λcs' s' ⟨h',e1,e2⟩=>⟨h',e1,?_⟩
   rw[YM]at e2
   exact e2
  ·have e1:(k==NameKind.cell)=false:=by cases k<;>first|rfl|exact absurd rfl hk
   simp only[e1,Bool.false_eq_true,if_false]
   refine Ya (Yb ?_)
   have I':CellsOf cl n0 cs h0 s.heap (done++[(n,k)]):=by
    refine⟨I.old,I.sz,I.mem,I.inj,λy hy hc=>?_,λx hx=>I.oth x λy hy=>hx y (YH _ hy)⟩
    rcases Yq.mp hy with z|z
    ·exact I.own y z hc
    ·have:y=(n,k):=by simpa using z
     subst this
     exact absurd hc hk
   refine thn (Zgz hcl r _ _ s I') λcs' s' ⟨h',e1,e2⟩=>⟨h',e1,?_⟩
   rw[YM]at e2
   exact e2
theorem ZlT {M:Model}{A:Around}{E:Value->Shared->Prop}{s:Shared}{scope:Scope}{globals:Addr}{cl:List (Str×Addr)}{qual:Str}{around:Env}{Q:Env->Shared->Prop} (hcl:∀p∈cl,p.2<s.heap.objs.size)
  (h:∀cs h',CellsOf cl (s.heap.objs.size+1) cs (s.heap.push {cls:=.type "dict",data:=.dict #[]}) h' scope.names->Q {scope:=scope,locals:=s.heap.objs.size,globals:=globals,cells:=cs,qual:=qual,func:=none,code:=around.code,frame:=around.frame,builtins:=around.builtins} {s with heap:=h'}) :
  wpAny M A (newFunctionEnv scope globals cl [] qual none .none (some around)) Q E s:=by
 unfold newFunctionEnv
 refine Ya (wpAny_alloc ?_)
 refine Ya (thn (Zgz (cl:=cl) (n0:=s.heap.objs.size+1) (h0:=s.heap.push {cls:=.type "dict",data:=.dict #[]}) (λp hp=>YI (hcl p hp)) scope.names cl [] {s with heap:=s.heap.push {cls:=.type "dict",data:=.dict #[]}} ⟨λb o e=>e,by rw[Heap.size_push];exact Ye _,λp hp=>.inl hp,λp hp q hq hn e=>absurd (hcl p hp) (Nat.not_lt_of_le (Nat.le_of_succ_le hn)),λy hy=>(nomatch hy),λx hx=>rfl⟩) λcs s' ⟨h',e1,e2⟩=>?_)
 subst e1
 rw[List.nil_append]at e2
 exact Ya (Yb (Yb (h cs h' e2)))
noncomputable def Zbj (around scope:Scope):Bool :=
 scope.kind==.function&&around.kind==.function&&scope.names.all λy=>match y.2 with
  |.local=>scope.names.lookup y.1==some .local
  |.cell=>scope.names.lookup y.1==some .cell
  |.free=>(scope.names.lookup y.1==some .free)&&(around.names.lookup y.1==some .cell||around.names.lookup y.1==some .free)
  |_=>true
theorem Zf4 {a s:Scope} (h:Zbj a s=true):s.kind=.function:=by
 simp only[Zbj,Bool.and_eq_true,beq_iff_eq]at h;exact h.1.1
theorem ZfI {a s:Scope} (h:Zbj a s=true) {y:Str×NameKind} (hy:y∈s.names):(match y.2 with
  |.local=>s.names.lookup y.1==some .local
  |.cell=>s.names.lookup y.1==some .cell
  |.free=>(s.names.lookup y.1==some .free)&&(a.names.lookup y.1==some .cell||a.names.lookup y.1==some .free)
  |_=>true)=true:=by
 simp only[Zbj,Bool.and_eq_true]at h
 exact List.all_eq_true.mp h.2 y hy
theorem ZiO {a s:Scope} (h:Zbj a s=true):∀y∈s.names,y.2=.local->s.names.lookup y.1=some .local:=λy hy e=>by
 have q:=ZfI h hy
 rw[e]at q
 exact beq_iff_eq.mp q
theorem Zj8 {a s:Scope} (h:Zbj a s=true):∀y∈s.names,y.2=.cell->s.names.lookup y.1=some .cell:=λy hy e=>by
 have q:=ZfI h hy
 rw[e]at q
 exact beq_iff_eq.mp q
theorem ZdX {a s:Scope} (h:Zbj a s=true):∀y∈s.names,y.2=.free->s.names.lookup y.1=some .free/\(a.names.lookup y.1=some .cell\/a.names.lookup y.1=some .free):=λy hy e=>by
 have q:=ZfI h hy
 rw[e]at q
 simp only[Bool.and_eq_true,Bool.or_eq_true,beq_iff_eq]at q
 exact q
noncomputable def ZaF (X:Cx) (Nc:List Str) (scope:Scope) (cs:List (Str×Addr)) (C:Addr) (s2:Shared) (H2:Hp) (fp:List Addr):Cx :=
 {Zav X Nc scope cs C s2 H2 fp with fn:=λx=>scope.names.lookup x==some .cell}
theorem ZkY {env:Env}{scope:Scope} (h:∀y∈scope.names,y.2=.free->∃c,env.cells.lookup y.1=some c) :
  ∃cl,closureFor scope env=pure cl/\(∀p∈cl,env.cells.lookup p.1=some p.2)/\(∀y∈scope.names,y.2=.free->∃c,cl.lookup y.1=some c/\env.cells.lookup y.1=some c):=by
 obtain⟨cl,e,h1,h2,h3⟩:=ZdU (env:=env) scope.names [] h
 have up:∀p∈cl,env.cells.lookup p.1=some p.2:=λp q=>by
  rcases h1 _ q with z|z
  ·cases z
  ·exact z
 refine⟨cl,?_,up,λy hy hf=>?_⟩
 ·unfold closureFor
  simp only[bind_pure_comp]at e⊢
  rw[e]
  exact pure_bind _ _
 ·obtain⟨c,hc⟩:=h3 y hy hf
  cases q:cl.lookup y.1 with
  |none=>exact absurd (List.lookup_eq_none_iff.mp q _ hc) (by simp)
  |some c'=>exact⟨c',rfl,up _ (PySem.mem_of_lookup q)⟩
section
variable {X:Cx}
theorem ZkZ {pins:List (Addr×Obj)}{σ:St}{H2:Hp}{s2:Shared}{Nc:List Str}{js:List (Option Nat)}{scope:Scope}{cs:List (Str×Addr)}{fp:List Addr}{h1:Heap}{tk:Nat}{D C:Addr}{oD:Obj}{m:Str->Option Value}
  (I:Inv X pins σ H2 s2) (hok:Zbj X.env.scope scope=true) (htk:Zaz X.N Nc scope js 0=true) (up:∀x c,cs.lookup x=some c->X.env.cells.lookup x=some c\/(C<c/\h1.IsCell c none)) (hinj:∀x y c,cs.lookup x=some c->cs.lookup y=some c->x=y) (hown:∀y∈scope.names,y.2=.cell->∃c,cs.lookup y.1=some c/\C<c) (hfr:∀y∈scope.names,y.2=.free->∃c,cs.lookup y.1=some c/\X.env.cells.lookup y.1=some c)
  (hfp:∀b∈fp,FpOk X pins H2 b) (hfl:∀b∈fp,b<s2.heap.objs.size) (hD:D=s2.heap.objs.size) (hC:C=s2.heap.objs.size+1) (old:∀b o,s2.heap.get? b=some o->h1.get? b=some o) (hns:h1.Ns C m) (hoD:h1.get? D=some oD) (hdD:∀v,oD.data≠.cell v) :
  Inv (ZaF X Nc scope cs C s2 H2 fp) [(D,oD)] (iniC js σ) H2 {s2 with heap:=h1,toks:=tk}:=by
 have leC:s2.heap.objs.size<=C:=by rw[hC];exact Y4 _
 have leD:s2.heap.objs.size<=D:=Nat.le_of_eq hD.symm
 have kf:∀x,((compEnvC scope cs C X.env).kindOf x=some .cell\/(compEnvC scope cs C X.env).kindOf x=some .free)->∃c,cs.lookup x=some c:=λx hx=>by
  have:∃k,(compEnvC scope cs C X.env).kindOf x=some k/\(k=.cell\/k=.free):=hx.elim (λq=>⟨_,q,.inl rfl⟩) λq=>⟨_,q,.inr rfl⟩
  obtain⟨k,e,hk⟩:=this
  obtain⟨k',h1,h2⟩:=ZX (show(scope.names.map _).lookup x=some k from e)
  have hm:=lookup_mem h1
  have:k'=.free\/k'=.cell:=by
   rcases h2 with q|q
   ·subst q
    exact hk.symm
   ·exact .inl q.1
  rcases this with z|z
  ·subst z
   obtain⟨c,q,_⟩:=hfr _ hm rfl
   exact⟨c,q⟩
  ·subst z
   obtain⟨c,q,_⟩:=hown _ hm rfl
   exact⟨c,q⟩
 have nC:∀c x,X.env.cells.lookup x=some c->c<s2.heap.objs.size:=λc x e=>by
  obtain⟨v,q⟩:=I.cell x c e
  exact q.lt
 have noB:∀b,b∈fp->b∉frs X.stack:=λb hb q=>by
  rcases Yk.mp (I.ZdP b q)with z|z
  ·exact(hfp b hb).2.1 z
  ·exact(hfp b hb).2.2.1 z
 have okX:(ZaF X Nc scope cs C s2 H2 fp).Ok:=by
  refine⟨I.ok.mod,(show scope.kind=.function from Zf4 hok),I.ok.glob,I.ok.blt,?_,λx y c e1 e2=>hinj x y c e1 e2,λx hx=>?_,(λx c e1 e2=>?_),I.ok.hd,I.ok.frames,.inl rfl,λb hb=>⟨?_,λx c e=>(up _ _ e).elim (λz=>(hfp b hb).2.2.2.2.1 x c z) λz=>Nat.ne_of_gt (Nat.lt_trans (Yp (hfl b hb) leC) z.1)⟩,I.bs,Yi I.ok.bsz I.sz,λb o e hb=>?_,λb hb=>noB b hb,I.stack,I.Zht⟩
  ·show s2.heap.objs.size<=C;exact leC
  ·exact kf x hx
  ·have hm:=lookup_mem (beq_iff_eq.mp (show(scope.names.lookup x==some NameKind.cell)=true from e1))
   obtain⟨c',q1,q2⟩:=hown _ hm rfl
   have:c=c':=Yo ((show cs.lookup x=some c from e2).symm.trans q1)
   rw[this]
   exact Yi leC (YV q2)
  ·exact Yj (Yp (hfl b hb) leC)
  ·rcases(hfp b hb).2.2.2.1 with q|q
   ·exact I.ok.noex b o e q
   ·exact absurd (Yp (Yh e) (Yi I.ok.bsz q)) (Yw _)
 refine⟨okX,rfl,I.bare,Un.kept old,⟨m,hns,λi x v e1 e2 e3=>?_⟩,λx c e=>?_,I.hok.fresh leC,λx c e=>(up _ _ e).elim (λz=>I.freeC x c z) λz=>I.hok.fresh (Yi leC (YV z.1)),λp hp=>?_,I.hok.kept old,?_⟩
 ·have e2':(iniC js σ)[i]?=some (some v):=e2
  unfold iniC at e2'
  rw[Yx]at e2'
  cases q:js[i]? with
  |none=>rw[q]at e2';cases e2'
  |some j0 =>
   cases j0 with
   |none=>rw[q]at e2';cases e2'
   |some j =>
    rw[q]at e2'
    simp only[Option.map_some,Option.some.injEq]at e2'
    have e4:σ[j]?=some (some v):=by
     cases z:σ[j]? with
     |none=>rw[z]at e2';cases e2'
     |some o=>rw[z]at e2';simp only[Option.join_some]at e2';rw[e2']
    obtain⟨y,y1,y2,y3⟩:=Zfk htk q
    rw[Nat.zero_add]at y1
    have:x=y:=Yo ((show Nc[i]?=some x from e1).symm.trans y1)
    subst this
    have hm:=lookup_mem y3
    obtain⟨c,c1,c2⟩:=hfr _ hm rfl
    have hk:=(ZdX hok _ hm rfl).2
    obtain⟨m0,hn0,hl0⟩:=I.loc
    obtain⟨u,r,l⟩:=hl0 j x v y2 e4 (hk.elim (λz=>.inr (.inl z)) λz=>.inr (.inr z))
    refine⟨u,r,.inr ⟨?_,c,c1,?_⟩⟩
    ·rcases e3 with z|z|z
     ·obtain⟨k',w1,w2⟩:=ZX (show(scope.names.map _).lookup x=some NameKind.local from z)
      rw[y3]at w1;cases w1
      rcases w2 with w|w
      ·cases w
      ·cases w.2
     ·exact .inl z
     ·exact .inr z
    ·rcases l with⟨lk,_⟩|⟨_,c',c3,c4⟩
     ·rcases hk with z|z
      ·rw[show X.env.kindOf x=some .cell from z]at lk;cases lk
      ·rw[show X.env.kindOf x=some .free from z]at lk;cases lk
     ·rw[c2]at c3;cases c3
      obtain⟨oc,w1,w2⟩:=c4
      exact⟨oc,old _ _ w1,w2⟩
 ·rcases up _ _ e with z|z
  ·obtain⟨v,oc,w1,w2⟩:=I.cell x c z
   exact⟨v,oc,old _ _ w1,w2⟩
  ·exact⟨_,z.2⟩
 ·have:p=(D,oD):=by
   have hp':p∈([]++[(D,oD)]:List (Addr×Obj)):=hp
   simpa using hp'
  subst this
  refine⟨hoD,I.hok.fresh leD,(by show D≠C;rw[hD,hC];exact Yj (Nat.lt_succ_self _)),λhb=>?_,hdD⟩
  have hb':D∈frs X.stack:=hb
  obtain⟨_,o,ho,_⟩:=I.stack.mem hb'
  exact absurd (Yp (Yh ho) leD) (Yw _)
 ·have:=ZdV htk
  show(iniC js σ).length=Nc.length
  unfold iniC;rw[Yg];omega
theorem Zjs {pins:List (Addr×Obj)}{σ:St}{H:Hp}{s:Shared}{tg elt iter:Expr}{ifs:List Expr}{scope:Scope}{pos:Pos}{wi:TI}{g:TG}{tt:TT}{te:TE}{Nc:List Str}{js:List (Option Nat)}{use:Option (Value->Sem Unit)}{Q:VK}{QQ:Value->Shared->Prop}
  (hc:X.calm=true) (hok:Zbj X.env.scope scope=true) (htk:Zaz X.N Nc scope js 0=true) (hi:PI X tg iter wi)
  (hg:∀cl C s2 H2 fp,PG (ZaF X Nc scope cl C s2 H2 fp) tg g) (ht:∀cl C s2 H2 fp,Zhf (ZaF X Nc scope cl C s2 H2 fp) ifs tt) (he:∀cl C s2 H2 fp,PE (ZaF X Nc scope cl C s2 H2 fp) elt te)
  (hs:∀x,foldedSetIterable iter X.env x=pure x) {L:List Nat} (ho:Zfr g L) (hL:(L.all λk=>js[k]?==some none)=true) (I:Inv X pins σ H s) (h:ZmF wi g tt te js σ H Q)
  (fin:∀(D C:Addr) (H' H2:Hp) (s2 s':Shared) (xs:List V) (m:Str->Option Value),Inv X pins σ H2 s2->H' C=none->C=D+1->D=s2.heap.objs.size->s'.heap.Ns C m->(∀h',Heap.SameBut C s'.heap h'->Inv X pins σ (upd H' D (.lst xs)) {s' with heap:=h'})->Q (.ref D) (upd H' D (.lst xs)) ->
   compPost (model X.prog X.w) X.A X.xe use QQ (.ref D) C (.ok .next) s') :
  wpAny (model X.prog X.w) X.A (comprehension (.ListComp elt [⟨tg,iter,ifs,0⟩] scope pos) scope X.env (firstIterPos [⟨tg,iter,ifs,0⟩] pos) (newList []) false (eval iter X.env) use) QQ X.xe s:=by
 have hcells:∀y∈scope.names,y.2=.free->∃c,X.env.cells.lookup y.1=some c:=λy hy hf=>I.ok.has y.1 (ZdX hok y hy hf).2
 obtain⟨cl,hcl,upM,hfr0⟩:=ZkY hcells
 have hk:=Zf4 hok
 refine wpAny_comprehension_free (use:=use) rfl hs hcl hk (ZiO hok) (thn (hi pins s σ H _ I h) λv s1 h1=>thn h1 λitv s2 h2=>?_)
 obtain⟨it,fp,tn,J,H2,e,I2,T,st2,f2,W,⟨m0,w0⟩,turn⟩:=h2
 subst e
 have clt:∀p∈cl,p.2<s2.heap.objs.size:=λp hp=>by
  obtain⟨v,q⟩:=I2.cell p.1 p.2 (upM p hp)
  exact q.lt
 refine wpAny_newObj_type (ZlT (λp hp=>?_) λcs h₁ CO=>?_)
 ·show p.2<(s2.heap.push _).objs.size
  rw[Heap.size_push];exact YI (clt p hp)
 dsimp only at CO⊢
 generalize hH2:s2.heap.push {cls:=.type "list",dict:=none,data:=.seq ([]:List Value).toArray}=HH at CO⊢
 have hC:HH.objs.size=s2.heap.objs.size+1:=by rw[<-hH2,Heap.size_push]
 have hcl':∀p∈cl,p.2<HH.objs.size:=λp hp=>by rw[hC];exact YI (clt p hp)
 have hns₁:h₁.Ns HH.objs.size (λ_=>none):=⟨_,#[],_,CO.old _ _ (Ys _ rfl),rfl,λe he=>absurd he (by simp),λn=>rfl⟩
 have up:∀x c,cs.lookup x=some c->X.env.cells.lookup x=some c\/(HH.objs.size<c/\h₁.IsCell c none):=λx c e=>by
  rcases CO.mem _ (PySem.mem_of_lookup e)with z|z
  ·exact .inl (upM _ z)
  ·exact .inr ⟨z.1,z.2.2⟩
 have hinj:∀x y c,cs.lookup x=some c->cs.lookup y=some c->x=y:=λx y c e1 e2=>by
  have m1:=PySem.mem_of_lookup e1
  have m2:=PySem.mem_of_lookup e2
  rcases CO.mem _ m1 with z|z
  ·rcases CO.mem _ m2 with z'|z'
   ·exact I2.ok.inj x y c (upM _ z) (upM _ z')
   ·exact absurd (hcl' _ z) (Nat.not_lt_of_le (Nat.le_of_succ_le z'.1))
  ·exact CO.inj _ m1 _ m2 z.1 rfl
 have hfr:∀y∈scope.names,y.2=.free->∃c,cs.lookup y.1=some c/\X.env.cells.lookup y.1=some c:=λy hy hf=>by
  obtain⟨c,q1,q2⟩:=hfr0 y hy hf
  refine⟨c,?_,q2⟩
  rw[CO.oth y.1 λy' hy' hc' z=>?_]
  ·exact q1
  ·have w1:=Zj8 hok y' hy' hc'
   have w2:=(ZdX hok y hy hf).1
   rw[z,w2]at w1;cases w1
 have hfl:∀b∈fp,b<s2.heap.objs.size:=λb hb=>by
  obtain⟨o,ho,_⟩:=T.obj 0 _ st2 b hb
  exact Yh ho
 have hDC:s2.heap.objs.size≠HH.objs.size:=by rw[hC];exact Yj (Nat.lt_succ_self _)
 have old:∀b o,s2.heap.get? b=some o->h₁.get? b=some o:=λb o e=>CO.old b o (Yl _ (hH2▸Yl _ e))
 have hacc:h₁.get? s2.heap.objs.size=some {cls:=.type "list",dict:=none,data:=.seq ([]:List Value).toArray}:=CO.old _ _ (Yl _ (hH2▸Ys _ rfl))
 have I4:=ZkZ (Nc:=Nc) (js:=js) (tk:=s2.toks) I2 hok htk up hinj (λy hy hc=>CO.own y hy hc) hfr f2 hfl rfl hC old hns₁ hacc (by intro v z;cases z)
 have st4:tn 0 h₁:=T.keep _ _ _ st2 λb _ o e=>old b o e
 generalize hXc:ZaF X Nc scope cs HH.objs.size s2 H2 fp=Xc at I4
 have hXA:Xc.A=X.A:=by rw[<-hXc];rfl
 have hXe:Xc.env=compEnvC scope cs HH.objs.size X.env:=by rw[<-hXc];rfl
 have hXp:Xc.prog=X.prog:=by rw[<-hXc];rfl
 have hXw:Xc.w=X.w:=by rw[<-hXc];rfl
 have hXx:Xc.xe=λ_ _=>False:=by rw[<-hXc];rfl
 have hXk:Xc.K=X.K:=by rw[<-hXc];rfl
 have hXcalm:Xc.calm=true:=by rw[<-hXc];exact hc
 have fpok:∀{pl:List (Addr×Obj)}{H':Hp},(∀p∈pl,s2.heap.objs.size<=p.1)->(∀b∈fp,H' b=none)->∀b∈fp,FpOk Xc pl H' b:=λ{pl H'} hpl hn b hb=>by
  have k1:b≠HH.objs.size:=Yj (by rw[hC];exact YI (hfl b hb))
  have k2:b∉frs X.stack:=λq=>by
   rcases Yk.mp (I2.ZdP b q)with z|z
   ·exact(f2 b hb).2.1 z
   ·exact(f2 b hb).2.2.1 z
  rw[<-hXc]
  refine⟨hn b hb,k1,k2,.inl hb,λx c e=>(up _ _ e).elim (λz=>(f2 b hb).2.2.2.2.1 x c z) λz=>Nat.ne_of_gt (Nat.lt_trans (by rw[hC];exact YI (hfl b hb)) z.1),λp hp=>?_⟩
  have hp':p∈pl:=by simpa[ZaF,Zav]using hp
  exact Nat.ne_of_gt (Yp (hfl b hb) (hpl p hp'))
 have gX:PG Xc tg g:=hXc▸hg cs HH.objs.size s2 H2 fp
 have tX:Zhf Xc ifs tt:=hXc▸ht cs HH.objs.size s2 H2 fp
 have eX:PE Xc elt te:=hXc▸he cs HH.objs.size s2 H2 fp
 have hs0:Xc.s₀=s2:=by rw[<-hXc];rfl
 have hh0:Xc.H₀=H2:=by rw[<-hXc];rfl
 have hfs:Xc.fs=frs X.stack:=by rw[<-hXc];rfl
 have hex:Xc.ex=fp:=by rw[<-hXc];rfl
 have loop:codeAny (model X.prog X.w) X.A (.compLoop (.ListComp elt [⟨tg,iter,ifs,0⟩] scope pos) 0 (.ref it) (.ref s2.heap.objs.size) (compEnvC scope cs HH.objs.size X.env)) (compPost (model X.prog X.w) X.A X.xe use QQ (.ref s2.heap.objs.size) HH.objs.size)
   {s2 with heap:=h₁,toks:=s2.toks}:=by
  refine ZeE (λn s'=>∃i acc its nn H',Inv Xc [(s2.heap.objs.size,{cls:=.type "list",dict:=none,data:=.seq (its:List Value).toArray nn})] (iniC js σ) H' s'/\Vals acc its/\acc.length<=sizeLine/\tn i s'.heap/\(∀b∈fp,H' b=none)/\W i n acc H') ?_ m0
   ⟨0,[],[],0,H2,I4,.nil,Yz _,st4,λb hb=>(f2 b hb).1,w0⟩
  rintro n s3 ⟨i,acc,its,nn,H3,I3,va,hlen,st3,fr3,w3⟩
  have pg:∀p∈([(s2.heap.objs.size,{cls:=.type "list",dict:=none,data:=.seq its.toArray nn})]:List (Addr×Obj)),s2.heap.objs.size<=p.1:=λp hp=>by
   simp only[Yk,List.not_mem_nil,or_false]at hp
   subst hp;exact Ye _
  rcases turn i n acc H3 w3 with⟨stop,hl,qn⟩|⟨go,hl,step⟩
  ·have q:=T.done Xc hXp hXw hXk hXcalm i _ s3 (iniC js σ) H3 (λ_ _=>False) I3 (fpok pg fr3) st3 stop
   rw[hXA]at q
   refine thn q λr s4 ⟨hr,I5⟩=>?_
   subst hr
   have hpin:=I5.pin _ (Ym _ (.head _))
   obtain⟨m5,hn5,_⟩:=I5.loc
   rw[hXe]at hn5
   refine fin _ _ H3 H2 s2 s4 acc m5 I2 (by have:=I5.free;rw[hXe]at this;exact this) hC rfl hn5 (λh' hsb=>?_) (qn _ hpin.2.1)
   have same:∀b o,b≠HH.objs.size->s4.heap.get? b=some o->h'.get? b=some o:=λb o hb e=>hsb.extBut b o hb e
   have un:=I5.base
   rw[hfs,hex,hh0,hs0]at un
   have lt:∀b o,s2.heap.get? b=some o->b<s2.heap.objs.size:=λb o e=>Yh e
   have neC:∀b o,s2.heap.get? b=some o->b≠HH.objs.size:=λb o e=>Yj (by rw[hC];exact YI (lt b o e))
   have neD:∀b o,s2.heap.get? b=some o->b≠s2.heap.objs.size:=λb o e=>Yj (lt b o e)
   have trkC:∀b o,H3 b=some o->b≠HH.objs.size:=λb o e z=>by
    have:=I5.free;rw[hXe]at this;rw[z,show H3 HH.objs.size=none from this]at e;cases e
   refine I2.ZoP (s':={s4 with heap:=h'}) (ch:=fp) (I5.os.trans (by rw[hs0])) ⟨λb o e n hb hx=>same _ _ (neC b o e) (un.keep b o e n hb hx),λb o e n hb hx=>?_,λb o e n hx=>by rw[Zg (neD b o e)];exact un.free b o e n hx,λb o e hx=>?_,λb xs e=>?_,λb o u e=>?_,λb ps e=>?_⟩ (λa o e=>?_) I5.bare λb hb=>⟨(f2 b hb).2.2.2.1,(f2 b hb).2.1,(f2 b hb).2.2.2.2.1,(f2 b hb).2.2.2.2.2⟩
   ·obtain⟨sl,z⟩:=un.slot b o e n hb hx
    exact⟨sl,same _ _ (neC b o e) z⟩
   ·obtain⟨o',z⟩:=un.there b o e hx
    exact⟨o',same _ _ (neC b o e) z⟩
   ·rw[Zg (Yj (I2.hok.lt e))];exact un.tups b xs e
   ·rw[Zg (Yj (I2.hok.lt e))];exact un.frzs b o u e
   ·obtain⟨more,z⟩:=un.tbls b ps e
    exact⟨more,by rw[Zg (Yj (I2.hok.lt e))];exact z⟩
   ·by_cases ha:a=s2.heap.objs.size
    ·subst ha
     rw[Zc]at e;cases e
     exact⟨hl,its,nn,va,same _ _ hDC hpin.1⟩
    ·rw[Zg ha]at e
     have q:=I5.hok a o e
     rw[hXp,hXw]at q
     refine q.Zgr (λb u hb z=>same b u ?_ z) (λb z=>by rw[Zg];exact z;intro y;subst y;rw[hpin.2.1]at z;cases z) (λb xs z=>by rw[Zg];exact z;intro y;subst y;rw[hpin.2.1]at z;cases z) λb o u z=>by rw[Zg];exact z;intro y;subst y;rw[hpin.2.1]at z;cases z
     rcases hb with hb|hb
     ·subst hb;exact trkC _ _ e
     ·exact trkC _ _ hb
  ·have q:=T.item Xc hXp hXw hXk hXcalm i _ s3 (iniC js σ) H3 (λ_ _=>False) I3 (fpok pg fr3) st3 go
   rw[hXA]at q
   refine thn q λr s4 ⟨u,hr,h4⟩=>?_
   subst hr
   refine thn h4 λ_ s5 ⟨x,H5,I5,r5,y5,st5,fr5⟩=>?_
   have I5':=I5.pinned (fpok pg fr5) (T.obj _ _ st5)
   have again:∀{σ7:St}{H7:Hp}{s7:Shared}{acc7:List V}{its7:List Value}{n7:Nat}{m:Nat},Inv Xc ([(s2.heap.objs.size,{cls:=.type "list",dict:=none,data:=.seq its7.toArray n7})]++Zaf fp s5.heap) σ7 H7 s7->Vals acc7 its7->acc7.length<=sizeLine->W (i+1) m acc7 H7->σ7.length=(iniC js σ).length->(∀(k:Nat) v,(iniC js σ)[k]?=some (some v)->σ7[k]?=some (some v)) ->
     ∃i acc its nn H',Inv Xc [(s2.heap.objs.size,{cls:=.type "list",dict:=none,data:=.seq (its:List Value).toArray nn})] (iniC js σ) H' s7/\Vals acc its/\acc.length<=sizeLine/\tn i s7.heap/\(∀b∈fp,H' b=none)/\W i m acc H':=λ{σ7 H7 s7 acc7 its7 n7 m} I7 v7 l7 w7 hl7 hw7=>by
    refine⟨i+1,acc7,its7,n7,H7,(I7.weak hl7.symm hw7).Zcz,v7,l7,T.keep _ _ _ st5 λb hb o e=>(I7.pin (b,o) (Ym _ (Ym _ (Zay hb e)))).1,λb hb=>?_,w7⟩
    obtain⟨o,e,d⟩:=T.obj _ _ st5 b hb
    exact(I7.pin (b,o) (Ym _ (Ym _ (Zay hb e)))).2.1
   have keep:∀{σ6:St},Zb0 L (iniC js σ) σ6->σ6.length=(iniC js σ).length/\∀(k:Nat) v,(iniC js σ)[k]?=some (some v)->σ6[k]?=some (some v):=λ{σ6} hk=>⟨hk.1,λk v e=>by
    rw[hk.2 k]
    ·exact e
    ·intro z
     have q:=List.all_eq_true.mp hL k z
     simp only[beq_iff_eq]at q
     unfold iniC at e
     rw[Yx,q]at e
     cases e⟩
   have q6:=gX _ s5 (iniC js σ) H5 x u _ I5' r5 (ho _ _ _ _ _ (fun σ' H' kk z=>And.intro kk z) (step x H5 y5))
   rw[hXe,hXA,hXp,hXw,hXx]at q6
   refine thn q6 λ_ s6 ⟨σ6,H6,I6,k6,q6⟩=>?_
   obtain⟨kl,kv⟩:=keep k6
   have q7:=tX _ s6 σ6 H6 _ I6 q6
   rw[hXe,hXA,hXp,hXw,hXx]at q7
   refine thn q7 λb s7 ⟨H7,I7,q7⟩=>?_
   cases b with
   |false =>
    obtain⟨m',hm,w7⟩:=q7
    exact⟨m',hm,again I7 va hlen w7 kl kv⟩
   |true =>
    have q8:=eX _ s7 σ6 H7 _ I7 q7
    rw[hXe,hXA,hXp,hXw,hXx]at q8
    refine thn q8 λy s8 ⟨v8,H8,I8,r8,m',hm,w8⟩=>?_
    have pinD:=I8.pin _ (Ym _ (YH _ (.head _)))
    have hnf:∀p∈Zaf fp s5.heap,p.1≠s2.heap.objs.size:=λp hp=>by
     obtain⟨z,_⟩:=Zfj hp
     exact Yj (hfl _ z)
    have va':=va.length
    refine call_meets F.slot_list_append ⟨_,pinD.1,rfl⟩ F.entry_list_append (F.args_list_append_2 _ _) (PySem.list_append s2.heap.objs.size its.toArray nn y (by rw[Yn];omega)) ⟨pinD.1,?_⟩
    have e9:=PySem.IsL.update pinD.1 (λa=>a.push y)
    have e9':its.toArray.push y=(its++[y]).toArray:=by simp
    dsimp only at e9
    rw[e9']at e9
    have I8':Inv Xc (Zaf fp s5.heap) σ6 H8 s8:=I8.ZdQ λp hp=>I8.pin p (Ym _ (Ym _ hp))
    have hXpn:Xc.pn=[]:=by rw[<-hXc];rfl
    have hXs:s2.heap.objs.size∉frs X.stack:=by rw[<-hfs];exact pinD.2.2.2.1
    have I9:=I8'.turned (t':=s8.toks) (it:=s2.heap.objs.size) (h':=s8.heap.update s2.heap.objs.size (Obj.mapSeq λa=>a.push y)) (λb o hb e=>(Heap.get?_update_other s8.heap _ (Ne.symm hb)).trans e) pinD.2.1 pinD.2.2.1
     (.inr (by rw[hs0];exact Ye _)) (λx c e=>by
      rw[hXe]at e
      intro z
      rcases up _ _ e with y|y
      ·obtain⟨v,q⟩:=I2.cell x c y
       exact absurd q.lt (by rw[z];exact Yw _)
      ·have:=y.1
       rw[z,hC]at this
       exact absurd this (Nat.not_lt_of_le (Y4 _))) (λp hp=>by rw[hXpn,List.nil_append]at hp;exact hnf p hp)
    have I10:=I9.ZdQ (pins':=[(s2.heap.objs.size,{cls:=.type "list",dict:=none,data:=.seq (its++[y]).toArray _})]++Zaf fp s5.heap) λp hp=>by
     rcases Yq.mp hp with z|z
     ·simp only[Yk,List.not_mem_nil,or_false]at z
      subst z
      exact⟨e9,pinD.2.1,pinD.2.2.1,pinD.2.2.2.1,by intro v z;cases z⟩
     ·exact I9.pin p (Ym _ z)
    exact⟨m',hm,again I10 (va.append (.cons r8 .nil)) (by rw[YB,List.length_singleton];omega) w8 kl kv⟩
 exact codeAny_compStart_list loop (T.self _ 0 _ _ _ st4 loop)
theorem ZN {tg elt iter:Expr}{ifs:List Expr}{scope:Scope}{pos:Pos}{wi:TI}{g:TG}{tt:TT}{te:TE} (Nc:List Str) (js:List (Option Nat)) {L:List Nat}
  (hc:X.calm=true) (hok:Zbj X.env.scope scope=true) (htk:Zaz X.N Nc scope js 0=true) (hi:PI X tg iter wi)
  (hg:∀cl C s2 H2 fp,PG (ZaF X Nc scope cl C s2 H2 fp) tg g) (ht:∀cl C s2 H2 fp,Zhf (ZaF X Nc scope cl C s2 H2 fp) ifs tt) (he:∀cl C s2 H2 fp,PE (ZaF X Nc scope cl C s2 H2 fp) elt te)
  (ho:Zfr g L) (hL:(L.all λk=>js[k]?==some none)=true:=by rfl) (hs:∀x,foldedSetIterable iter X.env x=pure x:=by intro _;rfl):PE X (.ListComp elt [⟨tg,iter,ifs,0⟩] scope pos) (ZmF wi g tt te js):=by
 intro pins s σ H Q I h
 rw[eval_ListComp]
 exact Zjs (use:=none) hc hok htk hi hg ht he hs ho hL I h λD C H' H2 s2 s' xs m I2 hHC e1 e2 hn hI q=>⟨m,hn,λh' hsb=>⟨.ref D,_,hI h' hsb,rfl,q⟩⟩
theorem Zk0 {i:Nat}{x:Str}{pos' spos:Pos}{tg elt iter:Expr}{ifs:List Expr}{scope:Scope}{pos:Pos}{wi:TI}{g:TG}{tt:TT}{te:TE} (Nc:List Str) (js:List (Option Nat)) {L:List Nat}
  (hN:X.N.Nodup) (hxi:X.N[i]?=some x) (hx:Loc X.env.scope x)
  (hc:X.calm=true) (hok:Zbj X.env.scope scope=true) (htk:Zaz X.N Nc scope js 0=true) (hi:PI X tg iter wi)
  (hg:∀cl C s2 H2 fp,PG (ZaF X Nc scope cl C s2 H2 fp) tg g) (ht:∀cl C s2 H2 fp,Zhf (ZaF X Nc scope cl C s2 H2 fp) ifs tt) (he:∀cl C s2 H2 fp,PE (ZaF X Nc scope cl C s2 H2 fp) elt te)
  (ho:Zfr g L) (hL:(L.all λk=>js[k]?==some none)=true:=by rfl) (hs:∀x,foldedSetIterable iter X.env x=pure x:=by intro _;rfl)
  (hsw:swapsWith (.ListComp elt [⟨tg,iter,ifs,0⟩] scope pos) (some (.Name x pos')) spos.line X.env=pure true:=by rfl)
  (hf:X.fn x=true\/X.env.scope.names.lookup x=some .local:=by first|exact .inl rfl|exact .inr rfl|assumption) :
  PS X (.Assign [.Name x pos'] (.ListComp elt [⟨tg,iter,ifs,0⟩] scope pos) spos) (tAsg (ZmF wi g tt te js) (gName i)):=by
 intro pins s σ H D I h
 rw[exec_Assign_Name_used _ _ _ _ hsw]
 refine Ya (wpAny_standAt (Ya ?_))
 show wpAny _ _ (comprehension _ _ _ _ _ _ _ _ >>= _) _ _ _
 refine Ya (thn (Q:=λ_ s'=>∃σ' H',Inv X pins σ' H' s'/\D.nx σ' H') (Zjs (Q:=λv H1=>gName i v σ H1 D.nx) (use:=some (assign (.Name x pos') X.env)) hc hok htk hi hg ht he hs ho hL I h ?_) λ_ s' ⟨σ',H',I',q⟩=>Yb (Yb ⟨σ',H',I',q⟩))
 intro D' C H' H2 s2 s' xs m I2 hHC e1 e2 hn hI q
 obtain⟨oC,es,ep,hoC,hdC,hrest⟩:=id hn
 have leC:s2.heap.objs.size<=C:=by rw[e1,e2];exact Y4 _
 have ltC:s2.heap.objs.size<C:=by rw[e1,e2];exact Nat.lt_succ_self _
 have neDC:C≠D':=by rw[e2];exact Nat.ne_of_gt ltC
 have fresh:s2.heap.get? C=none:=by
  cases e:s2.heap.get? C with
  |none=>rfl
  |some o=>exact absurd (Yp (Yh e) leC) (Yw _)
 have neL:C≠X.env.locals:=Nat.ne_of_gt (Yp I2.lt leC)
 have nfs:C∉X.fs:=I2.nofs leC
 have ncl:∀x c,X.env.cells.lookup x=some c->c≠C:=λx c e z=>by
  obtain⟨v,q⟩:=I2.cell x c e
  exact absurd (Yp q.lt leC) (by rw[z];exact Yw _)
 have npn:∀p∈X.pn++pins,p.1≠C:=λp hp z=>by
  have:=(I2.pin p hp).1
  rw[z,fresh]at this;cases this
 have hH:(upd H' D' (HO.lst xs)) C=none:=by rw[Zg neDC];exact hHC
 have I0:=hI s'.heap ZjV
 have I1:Inv X (pins++[(C,oC)]) σ (upd H' D' (.lst xs)) s':=I0.ZdQ λp hp=>by
  rcases Yq.mp hp with z|z
  ·exact I0.pin p (Ym _ z)
  ·simp only[Yk,List.not_mem_nil,or_false]at z
   subst z
   exact⟨hoC,hH,neL,nfs,λv z=>by rw[hdC]at z;cases z⟩
 show wpAny _ _ _ _ _ _
 refine thn (Zl (X:=X) (i:=i) hN hxi hx hf (pins++[(C,oC)]) s' σ _ (.ref D') (.ref D') _ I1 rfl q) λ_ s3 ⟨σ3,H3,I3,q3⟩=>?_
 have pC:=I3.pin (C,oC) (Ym _ (Ym _ (.head _)))
 refine⟨m,⟨oC,es,ep,pC.1,hdC,hrest⟩,λh' hsb=>⟨σ3,H3,?_,q3⟩⟩
 exact I3.Zcz.turned (t':=s3.toks) (it:=C) (λb o hb e=>hsb.extBut b o hb e) pC.2.1 neL (.inr (Yi I2.sz leC)) ncl npn
end
end L2
namespace L2
open PySem PySem.Spec PyProof.Rows PySem.W
noncomputable def CF (n:Nat) (P:Nat->Bool) (vals:Nat->V) (H1:Hp) (i m:Nat) (acc:List V) (H:Hp):Prop:=m=n-i/\i<=n/\acc=((List.range i).filter P).map vals/\Zh H1 H
theorem CF.take {n:Nat}{P:Nat->Bool}{vals:Nat->V}{H1 H:Hp}{i:Nat}{v:V} (hi:i<n) (hP:P i=true) (hv:v=vals i) (s:Zh H1 H):∃m',m'<n-i/\CF n P vals H1 (i+1) m' (((List.range i).filter P).map vals++[v]) H :=
 ⟨n-(i+1),by omega,rfl,hi,by rw[YE,List.filter_append,YC,hv];simp[hP],s⟩
theorem CF.skip {n:Nat}{P:Nat->Bool}{vals:Nat->V}{H1 H:Hp}{i:Nat} (hi:i<n) (hP:P i=false) (s:Zh H1 H):∃m',m'<n-i/\CF n P vals H1 (i+1) m' (((List.range i).filter P).map vals) H :=
 ⟨n-(i+1),by omega,rfl,hi,by rw[YE,List.filter_append,YC];simp[hP],s⟩
theorem Znq {J:It}{n:Nat}{H1:Hp}{g:TG}{tt:TT}{te:TE}{σ0:St}{Q:VK} (P:Nat->Bool) (vals:Nat->V) (hn:n<sizeLine) (hgo:∀i H,Zh H1 H->i<n->J.go i H) (hstop:∀H,Zh H1 H->J.stop n H)
  (hb:∀i x H H',i<n->Zh H1 H->J.yld i H x H'->g x σ0 H' fun σ2 H2=>tt σ2 H2 λb H3=>if b=true then te σ2 H3 λv H4=>∃m',m'<n-i/\CF n P vals H1 (i+1) m' (((List.range i).filter P).map vals++[v]) H4 else ∃m',m'<n-i/\CF n P vals H1 (i+1) m' (((List.range i).filter P).map vals) H3)
  (hk:∀l H',Zh H1 H'->H' l=none->Q (.ref l) (upd H' l (.lst (((List.range n).filter P).map vals)))) :
  Zf2 J g tt te σ0 Q H1:=by
 refine⟨CF n P vals H1,⟨n,rfl,Yz _,rfl,Zh.refl _⟩,?_⟩
 rintro i m acc H ⟨rfl,hi,rfl,s⟩
 have hlen:(((List.range i).filter P).map vals).length<=n:=by
  rw[Yg]
  have:=Y8 P (List.range i)
  rw[YT]at this
  omega
 by_cases h:i<n
 ·exact .inr ⟨hgo i H s h,by omega,λx H' y=>hb i x H H' h s y⟩
 ·have:i=n:=by omega
  subst this
  exact .inl ⟨hstop H s,by omega,λp hp=>hk p H s hp⟩
theorem ZmT {ns T:List Int} (hT:ZfF ns T) {p o:Nat} (hp:p<ns.length):(o:Int)∈wayI T p↔o<ns.length/\Over (nth ns) o p:=by
 rw[<-(ZkW hT T.length p hp (by rw[hT.1];exact YV (dep_lt hp))).1 o]
 unfold wayI
 rw[YJ]
 refine⟨λ⟨q,hq,e⟩=>?_,λh=>⟨o,h,rfl⟩⟩
 have:q=o:=by omega
 rw[<-this];exact hq
theorem atI_m1 {xs:List V}{v:V} (h:0<xs.length) (hv:xs[xs.length-1]?=some v):atI xs (-1)=some v:=by
 have e:ixN xs.length (-1)=some (xs.length-1):=by
  unfold ixN
  rw[Yc (by omega),Yd (by omega)]
  congr 1
  omega
 unfold atI
 rw[e]
 exact hv
end L2
namespace HT
open PySem PyProof.Rows
section
open PySem.SeqAt
open PySem.AutoSeq1 (wpAny_loadPart')
open PySem.MeetsSeq PySem.MeetsSeq2 PySem.MeetsSeq3
variable {prog:Program}{w:World}{A:Around}{E:Value->Shared->Prop}{s:Shared}
end
end HT
namespace L2
open PySem PySem.Spec PyProof.Rows PySem.W
noncomputable def way (T:List Int) (p:Nat):List Nat:=Za5 T T.length (nth T p)
theorem Zk1 (T:List Int) (p:Nat):wayI T p=(way T p).map λq=>((q:Nat):Int):=rfl
section
variable {X:Cx}{pins:List (Addr×Obj)}{σ:St}{H:Hp}{s:Shared}{h':Heap}
theorem Inv.Zrw {t':Nat}{fp:List Addr}{T:Addr}{o:HO} (I:Inv X pins σ H s) (k:∀b u,b∉fp->s.heap.get? b=some u->h'.get? b=some u) (hf:∀b∈fp,FpOk X pins H b) (hT:s.heap.objs.size<=T) (new:ZQ X.prog X.w (upd H T o) h' T o) :
  Inv X pins σ (upd H T o) {s with heap:=h',toks:=t'}:=by
 have nit:∀b u,H b=some u->b∉fp:=λb u e z=>by rw[(hf b z).1]at e;cases e
 have hfr:H T=none:=I.hok.fresh hT
 have neT:∀b u,s.heap.get? b=some u->b≠T:=λb u e z=>absurd (Yh e) (by rw[z];exact Nat.not_lt_of_le hT)
 have neH:∀b u,H b=some u->b≠T:=λb u e z=>by rw[z,hfr]at e;cases e
 refine I.step (g':=s.gens) (d':=s.drawn) (ch:=fp) (λb hb=>?_) (λb o _ _ hc e _=>k b o hc e) (λb o _ _ hc e _=>⟨o.slots,k b o hc e⟩) (λb u _ e n=>by rw[Zg (neT b u e)];exact n)
  (λb o hc e=>⟨o,k b o hc e⟩) (λb xs e=>by rw[Zg (neH b _ e)];exact e) (λb o u e=>by rw[Zg (neH b _ e)];exact e) (λb ps e=>⟨#[],by rw[Zg (neH b _ e),e];simp⟩) (λm hm=>?_) (λb u e=>?_) I.bare
 ·obtain⟨_,f1,_,f3,f4,f5⟩:=hf b hb
  exact⟨f3,f1,f4,f5⟩
 ·obtain⟨o,es,ep,ho,r⟩:=hm
  exact⟨o,es,ep,k _ o (λz=>(hf _ z).2.1 rfl) ho,r⟩
 ·by_cases z:b=T
  ·subst z
   rw[Zc]at e;cases e
   exact new
  ·rw[Zg z]at e
   refine(I.hok b u e).Zgr (λc v hc q=>k c v ?_ q) (λc q=>?_) (λc xs q=>?_) λc o u q=>?_
   ·rcases hc with y|y
    ·rw[y];exact nit b u e
    ·exact nit c _ y
   ·rw[Zg (neH _ _ q)];exact q
   ·rw[Zg (neH _ _ q)];exact q
   ·rw[Zg (neH _ _ q)];exact q
noncomputable def Ite (K : Frag) (a : Addr) : It :=
  ⟨fun i H => ∃ xs x, SqL K H a xs ∧ xs[i]? = some x,
   fun i H v H' => ∃ p x, H p = none ∧ v = .ref p ∧ H' = upd H p (.tup [.int (i : Int), x]) ∧ ∀ xs, SqL K H a xs → xs[i]? = some x,
   fun i H => ∃ xs, SqL K H a xs ∧ xs.length = i⟩
theorem Znr {P:Program}{w:World}{K:Frag}{elts:List Expr} {x1}{pos:Pos}{a e it:Addr} (h1:e≠it) (h2:a≠e) (h3:a≠it) :
  Turn P w K (.Tuple elts x1 pos) (Ite K a) [e,it] e (λi h=>(∃old,IsEnum h e it (i:Int) old)/\h.IsListIter it a i) where
 mem:=by simp
 obj:=λi h st c hc=>by
  obtain⟨⟨old,q1⟩,⟨o4,q4,_,d4⟩⟩:=st
  simp at hc
  rcases hc with rfl|rfl
  ·exact⟨_,q1,λv z=>by cases z⟩
  ·exact⟨_,q4,λv z=>by rw[d4]at z;cases z⟩
 keep:=λi h h' st k=>by
  obtain⟨⟨old,q1⟩,q4⟩:=st
  exact⟨⟨old,k e (by simp) _ q1⟩,q4.at λo z=>k it (by simp) o z⟩
 item:=by
  intro X hP hw hK hc i pins s σ H E I hf st hg
  subst hP hw hK
  obtain⟨xs,x,qa,hx⟩:=hg
  obtain⟨is1,r1,p1,hz1⟩:=I.list qa
  obtain⟨u,hu,ru⟩:=r1.get hx
  have W:=WalksT.enumerate (prog:=X.prog) (w:=X.w) (I.ok.hd hc) e it a h1 h2 h3 is1.toArray
  have hi:i<is1.toArray.size:=by
   have:=(Yr.mp hu).1
   simpa using this
  refine W.item i s _ E hi ⟨st.1,st.2,p1.isList⟩ λT vals h' tk Pt hT hTup Mid keep=>⟨_,rfl,W.go elts x1 pos i T _ _ E Mid λh2' St2 keep2=>?_⟩
  obtain⟨t,y,hy,rfl⟩:=Pt
  have hyu:y=u:=by
   have:is1[i]?=some y:=by simpa using hy
   rw[hu]at this;exact(Yo this).symm
  subst hyu
  have nT:=W.apart i T h' Mid
  have hfr:H T=none:=I.hok.fresh hT
  have kk:∀b o,b∉[e,it]->s.heap.get? b=some o->h2'.get? b=some o:=λb o hb q=>keep2 b o hb (keep b o hb q)
  have nTe:∀c∈[e,it],c≠T:=λc hc z=>nT (z▸hc)
  refine⟨.ref T,_,Inv.Zrw (s:=s) (t':=tk) (o:=.tup [.int (i:Int),x]) I kk hf hT ?_,rfl,⟨T,x,hfr,rfl,rfl,λxs' q'=>?_⟩,⟨?_,St2.2.1⟩,λc hc=>?_⟩
  ·obtain⟨oT,q1,q2,n,q3⟩:=hTup
   exact⟨by show 2<=sizeLine;decide,[.int (i:Int) t,y],.cons ⟨t,rfl⟩ (.cons ru .nil),⟨oT,keep2 T oT nT q1,q2,n,q3⟩⟩
  ·rw[I.Zcy q' qa];exact hx
  ·obtain⟨old,q⟩:=St2.1
   exact⟨old,by rw[show(((i+1:Nat)):Int)=(i:Int)+1 by omega]at *;exact q⟩
  ·rw[Zg (nTe c hc)];exact(hf c hc).1
 done:=by
  intro X hP hw hK hc i pins s σ H E I hf st hg
  subst hP hw hK
  obtain⟨xs,qa,hx⟩:=hg
  obtain⟨is1,r1,p1,_⟩:=I.list qa
  have W:=WalksT.enumerate (prog:=X.prog) (w:=X.w) (I.ok.hd hc) e it a h1 h2 h3 is1.toArray
  have hi:i=is1.toArray.size:=by
   have:=r1.length
   simp;omega
  refine W.done s _ E ?_ λh' tk keep=>⟨rfl,I.Zj0 (t':=tk) (fp:=[e,it]) (λc o hc q=>keep c o hc q) hf⟩
  rw[<-hi]
  exact⟨st.1,st.2,p1.isList⟩
 self:=λA i s Q E st h=>by
  obtain⟨⟨old,q⟩,_⟩:=st
  exact wpAny_pyIter_enum q h
noncomputable def iEnum (K:Frag) (ta:TA):TI:=fun σ H R=>ta σ H λvs H1=>∃a xs,vs=[.ref a]/\SqL K H1 a xs/\R (Ite K a) H1
theorem ZlU:bootBuiltins "enumerate"=some (.type "enumerate"):=by decide +kernel
theorem ZhA {K:Frag}{elts:List Expr} {x1}{tp:Pos}{e1:Expr}{ta:TA}{p pos:Pos} (hK:X.K=K) (hg:Gl X "enumerate") (hm:X.mg "enumerate"=none) (ha:PA X [e1] ta) (hs:starEach [e1] X.env=[(false,eval e1 X.env)]:=by rfl) :
  PI X (.Tuple elts x1 tp) (.Call (.Name "enumerate" p) [e1] [] pos) (iEnum K ta):=by
 subst hK
 intro pins s σ H R I h
 refine wpAny_Call_Name_kw (Zdf I hg hm ZlU ?_)
 refine PyProof.Rows.callWith_type1 (thn (ha pos pins s σ H _ I h) λus s1 ⟨vs,H1,I1,r1,a,xs,e1,qa,q⟩=>?_) hs rfl
 subst e1
 obtain⟨u,rfl,ru⟩:=r1.one
 cases(show u=Value.ref a from ru)
 obtain⟨is1,rr1,p1,_⟩:=I1.list qa
 refine call_enumerate_list p1.isList λh' c1 c2 c3 c4=>?_
 have l1:a<s1.heap.objs.size:=by obtain⟨o,e,_⟩:=p1.isList;exact Yh e
 have sm:∀b,s1.heap.objs.size<=b->FpOk X pins H1 b:=λb hb=>I1.Zm6 hb (I1.hok.fresh hb)
 have n1:s1.heap.objs.size+1≠s1.heap.objs.size:=by show ¬ ((_:Nat)=_);omega
 have n2:a≠s1.heap.objs.size+1:=Yj (YI l1)
 have n3:a≠s1.heap.objs.size:=Yj l1
 have T:=Znr (P:=X.prog) (w:=X.w) (K:=X.K) (elts:=elts) (x1:=x1) (pos:=tp) n1 n2 n3
 refine T.self _ 0 _ _ _ ⟨⟨_,c1⟩,c2⟩ ?_
 refine⟨_,[s1.heap.objs.size+1,s1.heap.objs.size],_,_,H1,rfl,I1.kept (t':=s1.toks) c4,T,⟨⟨_,c1⟩,c2⟩,λc hc=>?_,q⟩
 simp at hc
 rcases hc with rfl|rfl<;>exact sm _ (by omega)
end
theorem Zns {prog:Program}{w:World}{A:Around}{R:Result->Shared->Prop}{I:Addr}{fp wr:List Addr}{n:Nat}{P:Nat->Value->Prop}{St:Nat->Heap->Prop} (W:Walks prog w A.in1 I fp wr n P St) (bt:Nat->Nat->Bool) (hc:CmpOf prog w A.in1 .Gt P bt)
  (S:Addr) (hS:S∉fp) (dk:Str) (d:Value) (h0:Heap) (s0:Shared)
  (hR0:n=0->∀h' tk,(∀b o,b∉wr->b≠S->h0.get? b=some o->h'.get? b=some o)->R (.ok (.ret d)) {s0 with heap:=h',toks:=tk})
  (hR:0<n->∀v h' tk,P (argBest bt (n-1)) v->(∀b o,b∉wr->b≠S->h0.get? b=some o->h'.get? b=some o)->R (.ok (.ret v)) {s0 with heap:=h',toks:=tk}) :
  ∀(k j:Nat) (h:Heap) (tk:Nat),n-j=k->j<=n->St j h->(∀b o,b∉wr->b≠S->h0.get? b=some o->h.get? b=some o) ->
   ((j=0/\∃c,h.get? S=some {cls:=.type "list",data:=.seq #[] c})\/(0<j/\∃vb c,P (argBest bt (j-1)) vb/\h.get? S=some {cls:=.type "list",data:=.seq #[vb,vb] c})) ->
   codeAny (model prog w) A (.builtin "max.loop" {pos:=[.ref I,.none,.ref S],kw:=[(dk,d)]}) R {s0 with heap:=h,toks:=tk}:=by
 intro k
 induction k with
 |zero =>
  intro j h tk hk hj hst keep hb
  refine codeAny_builtin F.entry_max_loop ?_
  have hjn:j=n:=by omega
  subst hjn
  rcases hb with⟨hj0,c,hb⟩|⟨hj0,vb,c,hvb,hb⟩
  ·show wpAny _ _ (_ >>= _) _ _ _
   refine Ya (wpAny_seqItems hb rfl ?_)
   refine Ya (wpAny_tryCatch (W.done _ _ _ hst λh' tk' kp=>?_))
   refine Ya (wpAny_rule (Yb ?_))
   exact hR0 hj0 h' tk' λb o hb1 hb2 e=>kp b o hb1 (keep b o hb1 hb2 e)
  ·show wpAny _ _ (_ >>= _) _ _ _
   refine Ya (wpAny_seqItems hb rfl ?_)
   refine Ya (wpAny_tryCatch (W.done _ _ _ hst λh' tk' kp=>?_))
   have hS':S∉wr:=λz=>hS (W.sub S z)
   have hb':=kp S _ hS' hb
   refine Ya (wpAny_updateSeq hb' rfl ?_ (show 2<=sizeLine by decide) (Yz _))
   refine Ya (wpAny_letGo (Yb ?_))
   refine hR hj0 vb _ tk' hvb λb o hb1 hb2 e=>?_
   exact(Heap.get?_update_other _ _ (Ne.symm hb2)).trans (kp b o hb1 (keep b o hb1 hb2 e))
 |succ k ih =>
  intro j h tk hk hj hst keep hb
  refine codeAny_builtin F.entry_max_loop ?_
  have hjn:j<n:=by omega
  have hS':S∉wr:=λz=>hS (W.sub S z)
  rcases hb with⟨hj0,c,hb⟩|⟨hj0,vb,c,hvb,hb⟩
  ·show wpAny _ _ (_ >>= _) _ _ _
   refine Ya (wpAny_seqItems hb rfl ?_)
   refine Ya (wpAny_tryCatch (W.item j _ _ _ hjn hst λv h' tk' hv hst' kp=>?_))
   have hb':=kp S _ hS' hb
   refine Ya (Yb ?_)
   refine Ya (wpAny_updateSeq hb' rfl ?_ (Yz _) (show 2<=sizeLine+1 by decide))
   refine Yb ⟨rfl,?_⟩
   have e9:=PySem.IsL.update hb' (λ_=>#[v,v])
   refine ih (j+1) _ tk' (by omega) (by omega) (W.frame _ _ _ hst' λb hb1 o e=>?_) (λb o hb1 hb2 e=>?_) (.inr ⟨by omega,v,_,?_,e9⟩)
   ·exact(Heap.get?_update_other _ _ (show S≠b from λz=>hS (by rw[z];exact hb1))).trans e
   ·exact(Heap.get?_update_other _ _ (Ne.symm hb2)).trans (kp b o hb1 (keep b o hb1 hb2 e))
   ·rw[hj0];rw[hj0]at hv;exact hv
  ·show wpAny _ _ (_ >>= _) _ _ _
   refine Ya (wpAny_seqItems hb rfl ?_)
   refine Ya (wpAny_tryCatch (W.item j _ _ _ hjn hst λv h' tk' hv hst' kp=>?_))
   have hb':=kp S _ hS' hb
   obtain⟨j',rfl⟩:∃j',j=j'+1:=⟨j-1,by omega⟩
   have hvb':P (argBest bt j') vb:=hvb
   have eA:argBest bt (j'+1)=if bt (j'+1) (argBest bt j')=true then j'+1 else argBest bt j':=rfl
   refine Ya (Yb ?_)
   refine Ya (wpAny_tryCatch (wpAny_holding (Ya (hc (j'+1) (argBest bt j') v vb _ _ _ hv hvb' (Ya (wpAny_holding (wpAny_truthy_bool (Ya (wpAny_letGo (Yb ?_))))))))))
   by_cases z:bt (j'+1) (argBest bt j')=true
   ·rw[Yd z]
    refine Ya (wpAny_updateSeq hb' rfl ?_ (show 2<=sizeLine by decide) (show 2<=sizeLine+1 by decide))
    refine Ya (wpAny_letGo (Yb ⟨rfl,?_⟩))
    have e9:=PySem.IsL.update hb' (λ_=>#[v,v])
    refine ih (j'+1+1) _ tk' (by omega) (by omega) (W.frame _ _ _ hst' λb hb1 o e=>?_) (λb o hb1 hb2 e=>?_) (.inr ⟨by omega,v,_,?_,e9⟩)
    ·exact(Heap.get?_update_other _ _ (show S≠b from λz=>hS (by rw[z];exact hb1))).trans e
    ·exact(Heap.get?_update_other _ _ (Ne.symm hb2)).trans (kp b o hb1 (keep b o hb1 hb2 e))
    ·show P (argBest bt (j'+1)) v
     rw[eA,Yd z];exact hv
   ·rw[Yc z]
    refine Ya (wpAny_letGo (Yb ⟨rfl,?_⟩))
    refine ih (j'+1+1) _ tk' (by omega) (by omega) hst' (λb o hb1 hb2 e=>kp b o hb1 (keep b o hb1 hb2 e)) (.inr ⟨by omega,vb,_,?_,hb'⟩)
    show P (argBest bt (j'+1)) vb
    rw[eA,Yc z];exact hvb'
theorem Znt (a d:Value):argsOk "max" {pos:=[a],kw:=[("default",d)]}:=by first|rfl|decide
theorem Znu {prog:Program}{w:World}{A:Around}{E Q:Value->Shared->Prop}{s:Shared}{l:Addr}{xs:Array (Int×Tok)}{d:Value} (hA:A.handled=none) (hl:s.heap.IsList l (intItems xs))
  (q0:xs.size=0->∀h' tk,(∀b o,s.heap.get? b=some o->h'.get? b=some o)->Q d {s with heap:=h',toks:=tk})
  (q1:0<xs.size->∀v h' tk,(intItems xs)[argBest (λi j=>decide (numAt xs i>numAt xs j)) (xs.size-1)]?=some v->(∀b o,s.heap.get? b=some o->h'.get? b=some o)->Q v {s with heap:=h',toks:=tk}) :
  wpAny (model prog w) A (call (.builtin "max") [.ref l] [("default",d)]) Q E s:=by
 refine wpAny_call (codeAny_call_builtin_code rfl ?_)
 have hck:checkBuiltinCall "max" {pos:=[.ref l],kw:=[("default",d)]}=pure ():=by
  unfold checkBuiltinCall
  rw[F.kind_max]
  exact Znt (.ref l) d
 rw[hck]
 refine Yb (codeAny_builtin F.entry_max ?_)
 show wpAny _ _ (_ >>= _) _ _ _
 have hbp:Builtin.Builtins.bindParams "max" ["key","default"] 0 {kw:=[("default",d)]}=pure [none,some d]:=by
  first|rfl|with_unfolding_all rfl|(simp[Builtin.Builtins.bindParams];done)
 refine Ya (wpAny_of_eq hbp (Ya (Yb (Ya (wpAny_pyIter_list hl ?_)))))
 refine Ya (wpAny_newObj_type ?_)
 refine Yb ⟨rfl,?_⟩
 have hlt:l<s.heap.objs.size:=by obtain⟨o,e,_⟩:=hl;exact Yh e
 have n1:l≠s.heap.objs.size:=Yj hlt
 have esz:(s.heap.push {cls:=.type "list_iterator",data:=.fields #[.ref l,.int 0 0]}).objs.size=s.heap.objs.size+1:=Heap.size_push _ _
 have old:∀b o,s.heap.get? b=some o->((s.heap.push {cls:=.type "list_iterator",data:=.fields #[.ref l,.int 0 0]}).push {cls:=.type "list",data:=.seq #[]}).get? b=some o:=λb o e=>Yl _ (Yl _ e)
 have ne:∀b o,s.heap.get? b=some o->b∉[s.heap.objs.size]/\b≠(s.heap.push {cls:=.type "list_iterator",data:=.fields #[.ref l,.int 0 0]}).objs.size:=λb o e=>by
  have:=Yh e
  refine⟨λz=>?_,λz=>?_⟩
  ·have:b=s.heap.objs.size:=by simpa using z
   exact absurd (Yh e) (by rw[this];exact Yw _)
  ·rw[z,esz]at this
   exact absurd this (Nat.not_lt_of_le (Y4 _))
 have W:=Walks.list (prog:=prog) (w:=w) (A:=A.in1) hA s.heap.objs.size l n1 (intItems xs)
 have hitm:(intItems xs).size=xs.size:=by simp[intItems]
 refine Zns W (λi j=>decide (numAt xs i>numAt xs j)) (CmpOf.ints_gt (numAt xs) λi v h=>intItems_at h) _ ?_ "default" d _ s (λz h' tk kp=>?_) (λz v h' tk hv kp=>?_) (intItems xs).size 0 _ _ rfl (Yz _) ⟨?_,?_⟩ (λb o _ _ e=>e) (.inl ⟨rfl,_,Ys _ rfl⟩)
 ·rw[esz]
  simp only[Yk,List.not_mem_nil,or_false,not_or]
  exact⟨Nat.ne_of_gt (Nat.lt_succ_self _),Nat.ne_of_gt (YI hlt)⟩
 ·exact q0 (by omega) h' tk λb o e=>kp b o (ne b o e).1 (ne b o e).2 (old b o e)
 ·exact q1 (by omega) v h' tk (by rw[<-hitm];exact hv) λb o e=>kp b o (ne b o e).1 (ne b o e).2 (old b o e)
 ·exact⟨_,Yl _ (Ys _ rfl),rfl,rfl⟩
 ·obtain⟨o,e,r⟩:=hl
  exact⟨o,old _ _ e,r⟩
theorem Znv {prog:Program}{w:World}{A:Around}{R:Result->Shared->Prop}{I:Addr}{fp wr:List Addr}{n:Nat}{P:Nat->Value->Prop}{St:Nat->Heap->Prop} (W:Walks prog w A.in1 I fp wr n P St) (bt:Nat->Nat->Bool) (hc:CmpOf prog w A.in1 .Lt P bt)
  (S:Addr) (hS:S∉fp) (dk:Str) (d:Value) (h0:Heap) (s0:Shared)
  (hR0:n=0->∀h' tk,(∀b o,b∉wr->b≠S->h0.get? b=some o->h'.get? b=some o)->R (.ok (.ret d)) {s0 with heap:=h',toks:=tk})
  (hR:0<n->∀v h' tk,P (argBest bt (n-1)) v->(∀b o,b∉wr->b≠S->h0.get? b=some o->h'.get? b=some o)->R (.ok (.ret v)) {s0 with heap:=h',toks:=tk}) :
  ∀(k j:Nat) (h:Heap) (tk:Nat),n-j=k->j<=n->St j h->(∀b o,b∉wr->b≠S->h0.get? b=some o->h.get? b=some o) ->
   ((j=0/\∃c,h.get? S=some {cls:=.type "list",data:=.seq #[] c})\/(0<j/\∃vb c,P (argBest bt (j-1)) vb/\h.get? S=some {cls:=.type "list",data:=.seq #[vb,vb] c})) ->
   codeAny (model prog w) A (.builtin "min.loop" {pos:=[.ref I,.none,.ref S],kw:=[(dk,d)]}) R {s0 with heap:=h,toks:=tk}:=by
 intro k
 induction k with
 |zero =>
  intro j h tk hk hj hst keep hb
  refine codeAny_builtin F.entry_min_loop ?_
  have hjn:j=n:=by omega
  subst hjn
  rcases hb with⟨hj0,c,hb⟩|⟨hj0,vb,c,hvb,hb⟩
  ·show wpAny _ _ (_ >>= _) _ _ _
   refine Ya (wpAny_seqItems hb rfl ?_)
   refine Ya (wpAny_tryCatch (W.done _ _ _ hst λh' tk' kp=>?_))
   refine Ya (wpAny_rule (Yb ?_))
   exact hR0 hj0 h' tk' λb o hb1 hb2 e=>kp b o hb1 (keep b o hb1 hb2 e)
  ·show wpAny _ _ (_ >>= _) _ _ _
   refine Ya (wpAny_seqItems hb rfl ?_)
   refine Ya (wpAny_tryCatch (W.done _ _ _ hst λh' tk' kp=>?_))
   have hS':S∉wr:=λz=>hS (W.sub S z)
   have hb':=kp S _ hS' hb
   refine Ya (wpAny_updateSeq hb' rfl ?_ (show 2<=sizeLine by decide) (Yz _))
   refine Ya (wpAny_letGo (Yb ?_))
   refine hR hj0 vb _ tk' hvb λb o hb1 hb2 e=>?_
   exact(Heap.get?_update_other _ _ (Ne.symm hb2)).trans (kp b o hb1 (keep b o hb1 hb2 e))
 |succ k ih =>
  intro j h tk hk hj hst keep hb
  refine codeAny_builtin F.entry_min_loop ?_
  have hjn:j<n:=by omega
  have hS':S∉wr:=λz=>hS (W.sub S z)
  rcases hb with⟨hj0,c,hb⟩|⟨hj0,vb,c,hvb,hb⟩
  ·show wpAny _ _ (_ >>= _) _ _ _
   refine Ya (wpAny_seqItems hb rfl ?_)
   refine Ya (wpAny_tryCatch (W.item j _ _ _ hjn hst λv h' tk' hv hst' kp=>?_))
   have hb':=kp S _ hS' hb
   refine Ya (Yb ?_)
   refine Ya (wpAny_updateSeq hb' rfl ?_ (Yz _) (show 2<=sizeLine+1 by decide))
   refine Yb ⟨rfl,?_⟩
   have e9:=PySem.IsL.update hb' (λ_=>#[v,v])
   refine ih (j+1) _ tk' (by omega) (by omega) (W.frame _ _ _ hst' λb hb1 o e=>?_) (λb o hb1 hb2 e=>?_) (.inr ⟨by omega,v,_,?_,e9⟩)
   ·exact(Heap.get?_update_other _ _ (show S≠b from λz=>hS (by rw[z];exact hb1))).trans e
   ·exact(Heap.get?_update_other _ _ (Ne.symm hb2)).trans (kp b o hb1 (keep b o hb1 hb2 e))
   ·rw[hj0];rw[hj0]at hv;exact hv
  ·show wpAny _ _ (_ >>= _) _ _ _
   refine Ya (wpAny_seqItems hb rfl ?_)
   refine Ya (wpAny_tryCatch (W.item j _ _ _ hjn hst λv h' tk' hv hst' kp=>?_))
   have hb':=kp S _ hS' hb
   obtain⟨j',rfl⟩:∃j',j=j'+1:=⟨j-1,by omega⟩
   have hvb':P (argBest bt j') vb:=hvb
   have eA:argBest bt (j'+1)=if bt (j'+1) (argBest bt j')=true then j'+1 else argBest bt j':=rfl
   refine Ya (Yb ?_)
   refine Ya (wpAny_tryCatch (wpAny_holding (Ya (hc (j'+1) (argBest bt j') v vb _ _ _ hv hvb' (Ya (wpAny_holding (wpAny_truthy_bool (Ya (wpAny_letGo (Yb ?_))))))))))
   by_cases z:bt (j'+1) (argBest bt j')=true
   ·rw[Yd z]
    refine Ya (wpAny_updateSeq hb' rfl ?_ (show 2<=sizeLine by decide) (show 2<=sizeLine+1 by decide))
    refine Ya (wpAny_letGo (Yb ⟨rfl,?_⟩))
    have e9:=PySem.IsL.update hb' (λ_=>#[v,v])
    refine ih (j'+1+1) _ tk' (by omega) (by omega) (W.frame _ _ _ hst' λb hb1 o e=>?_) (λb o hb1 hb2 e=>?_) (.inr ⟨by omega,v,_,?_,e9⟩)
    ·exact(Heap.get?_update_other _ _ (show S≠b from λz=>hS (by rw[z];exact hb1))).trans e
    ·exact(Heap.get?_update_other _ _ (Ne.symm hb2)).trans (kp b o hb1 (keep b o hb1 hb2 e))
    ·show P (argBest bt (j'+1)) v
     rw[eA,Yd z];exact hv
   ·rw[Yc z]
    refine Ya (wpAny_letGo (Yb ⟨rfl,?_⟩))
    refine ih (j'+1+1) _ tk' (by omega) (by omega) hst' (λb o hb1 hb2 e=>kp b o hb1 (keep b o hb1 hb2 e)) (.inr ⟨by omega,vb,_,?_,hb'⟩)
    show P (argBest bt (j'+1)) vb
    rw[eA,Yc z];exact hvb'
theorem Znw (a d:Value):argsOk "min" {pos:=[a],kw:=[("default",d)]}:=by first|rfl|decide
theorem Znx {prog:Program}{w:World}{A:Around}{E Q:Value->Shared->Prop}{s:Shared}{l:Addr}{xs:Array (Int×Tok)}{d:Value} (hA:A.handled=none) (hl:s.heap.IsList l (intItems xs))
  (q0:xs.size=0->∀h' tk,(∀b o,s.heap.get? b=some o->h'.get? b=some o)->Q d {s with heap:=h',toks:=tk})
  (q1:0<xs.size->∀v h' tk,(intItems xs)[argBest (λi j=>decide (numAt xs i<numAt xs j)) (xs.size-1)]?=some v->(∀b o,s.heap.get? b=some o->h'.get? b=some o)->Q v {s with heap:=h',toks:=tk}) :
  wpAny (model prog w) A (call (.builtin "min") [.ref l] [("default",d)]) Q E s:=by
 refine wpAny_call (codeAny_call_builtin_code rfl ?_)
 have hck:checkBuiltinCall "min" {pos:=[.ref l],kw:=[("default",d)]}=pure ():=by
  unfold checkBuiltinCall
  rw[F.kind_min]
  exact Znw (.ref l) d
 rw[hck]
 refine Yb (codeAny_builtin F.entry_min ?_)
 show wpAny _ _ (_ >>= _) _ _ _
 have hbp:Builtin.Builtins.bindParams "min" ["key","default"] 0 {kw:=[("default",d)]}=pure [none,some d]:=by
  first|rfl|with_unfolding_all rfl|(simp[Builtin.Builtins.bindParams];done)
 refine Ya (wpAny_of_eq hbp (Ya (Yb (Ya (wpAny_pyIter_list hl ?_)))))
 refine Ya (wpAny_newObj_type ?_)
 refine Yb ⟨rfl,?_⟩
 have hlt:l<s.heap.objs.size:=by obtain⟨o,e,_⟩:=hl;exact Yh e
 have n1:l≠s.heap.objs.size:=Yj hlt
 have esz:(s.heap.push {cls:=.type "list_iterator",data:=.fields #[.ref l,.int 0 0]}).objs.size=s.heap.objs.size+1:=Heap.size_push _ _
 have old:∀b o,s.heap.get? b=some o->((s.heap.push {cls:=.type "list_iterator",data:=.fields #[.ref l,.int 0 0]}).push {cls:=.type "list",data:=.seq #[]}).get? b=some o:=λb o e=>Yl _ (Yl _ e)
 have ne:∀b o,s.heap.get? b=some o->b∉[s.heap.objs.size]/\b≠(s.heap.push {cls:=.type "list_iterator",data:=.fields #[.ref l,.int 0 0]}).objs.size:=λb o e=>by
  have:=Yh e
  refine⟨λz=>?_,λz=>?_⟩
  ·have:b=s.heap.objs.size:=by simpa using z
   exact absurd (Yh e) (by rw[this];exact Yw _)
  ·rw[z,esz]at this
   exact absurd this (Nat.not_lt_of_le (Y4 _))
 have W:=Walks.list (prog:=prog) (w:=w) (A:=A.in1) hA s.heap.objs.size l n1 (intItems xs)
 have hitm:(intItems xs).size=xs.size:=by simp[intItems]
 refine Znv W (λi j=>decide (numAt xs i<numAt xs j)) (CmpOf.ints_lt (numAt xs) λi v h=>intItems_at h) _ ?_ "default" d _ s (λz h' tk kp=>?_) (λz v h' tk hv kp=>?_) (intItems xs).size 0 _ _ rfl (Yz _) ⟨?_,?_⟩ (λb o _ _ e=>e) (.inl ⟨rfl,_,Ys _ rfl⟩)
 ·rw[esz]
  simp only[Yk,List.not_mem_nil,or_false,not_or]
  exact⟨Nat.ne_of_gt (Nat.lt_succ_self _),Nat.ne_of_gt (YI hlt)⟩
 ·exact q0 (by omega) h' tk λb o e=>kp b o (ne b o e).1 (ne b o e).2 (old b o e)
 ·exact q1 (by omega) v h' tk (by rw[<-hitm];exact hv) λb o e=>kp b o (ne b o e).1 (ne b o e).2 (old b o e)
 ·exact⟨_,Yl _ (Ys _ rfl),rfl,rfl⟩
 ·obtain⟨o,e,r⟩:=hl
  exact⟨o,old _ _ e,r⟩
section
variable {X:Cx}
noncomputable def tMaxD (K:Frag) (ta td:TA):TE:=fun σ H Q=>ta σ H λvs H1=>td σ H1 λzs H2=>∃(p:Addr) (ns:List Int) (d:Int),vs=[.ref p]/\zs=[.int d]/\SqL K H2 p (ns.map V.int)/\(ns=[]->Q (.int d) H2)/\(ns≠[]->∀m,m∈ns->(∀a∈ns,a<=m)->Q (.int m) H2)
theorem Zrx {K:Frag}{e:Expr}{kws:List Keyword}{ta td:TA}{p pos:Pos} (hK:X.K=K) (hc:X.calm=true) (hg:Gl X "max") (hm:X.mg "max"=none) (ha:PA X [e] ta) (hd:PK X kws td)
  (he:starEach [e] X.env=(false,eval e X.env)::starEach [] X.env:=by rfl) (hpl:(backTo pos (starEach [e] X.env)).any (·.1)=false:=by rfl) (hall:(backToKw pos (keywordEach kws X.env)).all (·.1.isSome)=true:=by rfl)
  (hnn:(backToKw pos (keywordEach kws X.env)).any (·.1.isNone)=false:=by rfl) (hks:(backToKw pos (keywordEach kws X.env)).filterMap (·.1)=[(("default":String):Str)]:=by rfl) (hb:backTo pos (starEach [e] X.env)=(false,eval e X.env)::backTo pos (starEach [] X.env):=by rfl) :
  PE X (.Call (.Name "max" p) [e] kws pos) (tMaxD K ta td):=by
 subst hK
 intro pins s σ H Q I h
 refine wpAny_Call_Name_kw (Zdf I hg hm ZjY ?_)
 refine PyProof.Rows.callWith_kw (thn (ha pos pins s σ H _ I h) λus s1 ⟨vs,H1,I1,r1,q1⟩=>?_) hb hpl hall hnn
 refine thn (hd pos pins s1 σ H1 _ I1 q1) λws s2 ⟨zs,H2,I2,r2,pp,ns,d,e1,e2,hp,q0,qm⟩=>?_
 subst e1 e2
 obtain⟨u,rfl,ru⟩:=r1.one
 obtain⟨v,rfl,rv⟩:=r2.one
 cases(show u=Value.ref pp from ru)
 rw[hks]
 obtain⟨its,rr,pl,hz⟩:=I2.list hp
 obtain⟨ys,e1,e2⟩:=Zhw rr
 have hsz:ys.size=ns.length:=by
  have:=congrArg List.length e2
  rw[Yg,YK]at this
  exact this
 refine Znu (xs:=ys) (I2.ok.hd hc) (e1▸pl.isList) (λz h' tk k=>?_) (λz v' h' tk hv k=>?_)
 ·exact⟨.int d,H2,I2.kept k,rv,q0 (List.length_eq_zero_iff.mp (by omega))⟩
 ·obtain⟨t,rfl⟩:=intItems_at hv
  obtain⟨h1,h2⟩:=argBest_gt (numAt ys) (ys.size-1)
  refine⟨.int _,H2,I2.kept k,⟨t,rfl⟩,qm (λy=>by have h3:ys.size=0:=(by rw[hsz,y];rfl);omega) _ ?_ λa ha=>?_⟩
  ·rw[numAt_eq,e2];exact getD_mem (by omega)
  ·obtain⟨j,hj,rfl⟩:=mem_getD ha
   rw[<-e2,<-numAt_eq];exact h2 j (by omega)
end
section
variable {X:Cx}
noncomputable def tMinD (K:Frag) (ta td:TA):TE:=fun σ H Q=>ta σ H λvs H1=>td σ H1 λzs H2=>∃(p:Addr) (ns:List Int) (d:Int),vs=[.ref p]/\zs=[.int d]/\SqL K H2 p (ns.map V.int)/\(ns=[]->Q (.int d) H2)/\(ns≠[]->∀m,m∈ns->(∀a∈ns,m<=a)->Q (.int m) H2)
theorem Zry {K:Frag}{e:Expr}{kws:List Keyword}{ta td:TA}{p pos:Pos} (hK:X.K=K) (hc:X.calm=true) (hg:Gl X "min") (hm:X.mg "min"=none) (ha:PA X [e] ta) (hd:PK X kws td)
  (he:starEach [e] X.env=(false,eval e X.env)::starEach [] X.env:=by rfl) (hpl:(backTo pos (starEach [e] X.env)).any (·.1)=false:=by rfl) (hall:(backToKw pos (keywordEach kws X.env)).all (·.1.isSome)=true:=by rfl)
  (hnn:(backToKw pos (keywordEach kws X.env)).any (·.1.isNone)=false:=by rfl) (hks:(backToKw pos (keywordEach kws X.env)).filterMap (·.1)=[(("default":String):Str)]:=by rfl) (hb:backTo pos (starEach [e] X.env)=(false,eval e X.env)::backTo pos (starEach [] X.env):=by rfl) :
  PE X (.Call (.Name "min" p) [e] kws pos) (tMinD K ta td):=by
 subst hK
 intro pins s σ H Q I h
 refine wpAny_Call_Name_kw (Zdf I hg hm ZjZ ?_)
 refine PyProof.Rows.callWith_kw (thn (ha pos pins s σ H _ I h) λus s1 ⟨vs,H1,I1,r1,q1⟩=>?_) hb hpl hall hnn
 refine thn (hd pos pins s1 σ H1 _ I1 q1) λws s2 ⟨zs,H2,I2,r2,pp,ns,d,e1,e2,hp,q0,qm⟩=>?_
 subst e1 e2
 obtain⟨u,rfl,ru⟩:=r1.one
 obtain⟨v,rfl,rv⟩:=r2.one
 cases(show u=Value.ref pp from ru)
 rw[hks]
 obtain⟨its,rr,pl,hz⟩:=I2.list hp
 obtain⟨ys,e1,e2⟩:=Zhw rr
 have hsz:ys.size=ns.length:=by
  have:=congrArg List.length e2
  rw[Yg,YK]at this
  exact this
 refine Znx (xs:=ys) (I2.ok.hd hc) (e1▸pl.isList) (λz h' tk k=>?_) (λz v' h' tk hv k=>?_)
 ·exact⟨.int d,H2,I2.kept k,rv,q0 (List.length_eq_zero_iff.mp (by omega))⟩
 ·obtain⟨t,rfl⟩:=intItems_at hv
  obtain⟨h1,h2⟩:=argBest_lt (numAt ys) (ys.size-1)
  refine⟨.int _,H2,I2.kept k,⟨t,rfl⟩,qm (λy=>by have h3:ys.size=0:=(by rw[hsz,y];rfl);omega) _ ?_ λa ha=>?_⟩
  ·rw[numAt_eq,e2];exact getD_mem (by omega)
  ·obtain⟨j,hj,rfl⟩:=mem_getD ha
   rw[<-e2,<-numAt_eq];exact h2 j (by omega)
end
section
variable {X:Cx}
noncomputable def rIndexF (K:Frag):V->List V->Hp->VK->Prop:=λx vs H Q=>∃(l:Addr) (xs:List V) (y:V) (j:Nat),x=.ref l/\vs=[y]/\SqL K H l xs/\xs.length<=100000/\xs.all flatV=true/\flatV y=true/\(∃z,xs[j]?=some z/\eqV z y=true)/\(∀(i:Nat) (z:V),i<j->xs[i]?=some z->eqV z y=false)/\Q (.int (j:Nat)) H
theorem Zny {K:Frag} (hK:X.K=K):MtM X "list.index" (rIndexF K):=by
 subst hK
 intro pins s σ H x vs v us Q I rx rv h
 obtain⟨l,xs,y,j,rfl,rfl,hH,hz,hf,hy,⟨z,hz1,hz2⟩,hb,q⟩:=h
 cases rx
 obtain⟨u,rfl,ru⟩:=rv.one
 obtain⟨its,r,pl,_⟩:=I.list hH
 have hlen:=r.length
 obtain⟨⟨cls,dd,data,sl⟩,ho,hc,n,hd⟩:=pl.isList
 simp only at hc hd
 subst hc hd
 have hj:j<xs.length:=(Yr.mp hz1).1
 have at_:∀(i:Nat) (hi:i<its.length) (w:V),xs[i]?=some w->eqU y its[i]=eqV w y:=λi hi w hw=>by
  obtain⟨u',hu',r'⟩:=r.get hw
  have e:its[i]=u':=by
   rw[Yf hi]at hu';exact Yo hu'
  rw[e]
  exact Zo1 r' (List.all_eq_true.mp hf w (List.mem_of_getElem? hw))
 refine call_meets F.slot_list_index ⟨_,ho,rfl⟩ F.entry_list_index (F.args_list_index_2 _ _)
  (SeqAt.list_indexAt l its.toArray n dd sl u (eqU y) j (by rw[Yn];omega) (by omega) ?_ ?_) ⟨ho,λw hw=>ZkL ru hy r hf w (by simpa using hw),⟨.int _,H,I.tok _,⟨_,rfl⟩,q⟩⟩
 ·show eqU y its[j]=true
  rw[at_ j (by omega) z hz1];exact hz2
 ·intro i his hlt
  show eqU y its[i]=false
  have hi:i<its.length:=by simpa using his
  rw[at_ i hi xs[i] (Yf (by omega))]
  exact hb i _ hlt (Yf (by omega))
end
noncomputable def ZlV (f g:Nat->Int) (n:Nat):Prop:=∀a c,a+c<n->Zz f a c=Zz g a c
noncomputable def ZcW (ns:List Int) (a c:Nat):List Int:=(ns.drop a).take c
theorem ZhQ {ns:List Int}{a c:Nat} (h:a+c<=ns.length):(ZcW ns a c).length=c:=by
 unfold ZcW;rw[YR,Y3];omega
theorem ZeI {ns:List Int}{a c i:Nat} (h:i<c):nth (ZcW ns a c) i=nth ns (a+i):=by
 simp[nth,ZcW,YD,List.getElem?_take,List.getElem?_drop,h]
noncomputable def ZZ (f:Nat->Int) (n s:Nat):List Int:=(List.range (n-s)).map λa=>(Zz f a s:Int)-(a:Int)
noncomputable def Zck (f:Nat->Int) (n:Nat):List (List Int):=(List.range n).map (ZZ f n)
noncomputable def Zb1 (f:Nat->Int) (n s:Nat):List Int:=(List.range (n-s)).map λa=>(Zz f a s:Int)
theorem Zk2 (f:Nat->Int) (n:Nat):Zb1 f n 0=(List.range n).map λ(a:Nat)=>(a:Int):=by simp[Zb1,Zz]
theorem Zj9 (f:Nat->Int) (n i:Nat):(List.range (i+1)).map (ZZ f n)=(List.range i).map (ZZ f n)++[ZZ f n i]:=by rw[YE,YC];rfl
noncomputable def Zb2 (f g:Nat->Int) (x y size a m:Nat):Prop:=a+m<size/\(Zz f (x+a) m:Int)-(x+a:Nat)≠(Zz g (y+a) m:Int)-(y+a:Nat)/\(∀m',m'<m->∀a',a'+m'<size->(Zz f (x+a') m':Int)-(x+a':Nat)=(Zz g (y+a') m':Int)-(y+a':Nat)) /\
 ∀a',a'<a->(Zz f (x+a') m:Int)-(x+a':Nat)=(Zz g (y+a') m:Int)-(y+a':Nat)
noncomputable def ZlW (f g:Nat->Int) (x y size:Nat):Prop:=∀m a,a+m<size->(Zz f (x+a) m:Int)-(x+a:Nat)=(Zz g (y+a) m:Int)-(y+a:Nat)
theorem ZlX {f:Nat->Int}{n s a:Nat} (h:a<n-s):nth (Zb1 f n s) a=Zz f a s:=by simp[nth,Zb1,YD,h]
theorem ZcC (f:Nat->Int) (n s:Nat):(Zb1 f n s).length=n-s:=by simp[Zb1]
theorem ZlY (f:Nat->Int) (a i:Nat):(if f (a+i)<f (Zz f a (i-1))then a+i else Zz f a (i-1))=Zz f a i:=by
 cases i with
 |zero=>simp[Zz]
 |succ k=>simp[Zz,Nat.add_assoc]
theorem Zfm {P:Nat->Prop}:∀n,¬ (∀j,j<n->P j)->∃j,j<n/\¬ P j/\∀i,i<j->P i
 |0,h=>absurd (λj hj=>by omega) h
 |n+1,h=>by
  by_cases z:∀j,j<n->P j
  ·exact⟨n,by omega,λy=>h λj hj=>by
    by_cases e:j=n
    ·rw[e];exact y
    ·exact z j (by omega),z⟩
  ·obtain⟨j,h1,h2,h3⟩:=Zfm n z
   exact⟨j,by omega,h2,h3⟩
theorem ZdY {f:Nat->Int}{n i:Nat}{K:Frag}{H:Hp}{l:Addr} (R:Rows H l (Zck f n)) (h:i<n):∃xs a,SqL K H l xs/\atI xs (i:Int)=some (.ref a)/\H a=some (.lst ((ZZ f n i).map V.int)):=by
 have h':i<(Zck f n).length:=by simpa[Zck]using h
 obtain⟨xs,a,h1,h2,h3⟩:=R.at (K:=K) h'
 exact⟨xs,a,h1,h2,by rw[h3];simp[Zck]⟩
section
variable {X:Cx}
noncomputable def rOr (r1 r2:R2):R2:=λx y H Q=>r1 x y H Q\/r2 x y H Q
theorem op_orR {op:Value->Value->Sem Value}{r1 r2:R2} (h1:OpR X op r1) (h2:OpR X op r2):OpR X op (rOr r1 r2):=λpins s σ H x y v u Q I rx ry h=>h.elim (h1 pins s σ H x y v u Q I rx ry) (h2 pins s σ H x y v u Q I rx ry)
end
open Classical in
noncomputable def ZeJ (f:Nat->Int) (p:Nat):Int:=if h:∃q,Zaj f p q then (Classical.choose h:Nat)else -1
open Classical in
noncomputable def Zf5 (f:Nat->Int) (n p:Nat):Int:=if h:∃r,Zaw f n p r then (Classical.choose h:Nat)else (n:Int)
theorem Zjt {f:Nat->Int}{p q:Nat} (h:Zaj f p q):ZeJ f p=q:=by
 have hx:∃q,Zaj f p q:=⟨q,h⟩
 unfold ZeJ
 rw[dif_pos hx,(Classical.choose_spec hx).unique h]
theorem ZmU {f:Nat->Int}{p:Nat} (h:ZdW f p):ZeJ f p=-1:=by
 unfold ZeJ
 rw[dif_neg λ⟨q,hq⟩=>hq.no h]
theorem Znz {f:Nat->Int}{n p r:Nat} (h:Zaw f n p r):Zf5 f n p=r:=by
 have hx:∃r,Zaw f n p r:=⟨r,h⟩
 unfold Zf5
 rw[dif_pos hx,(Classical.choose_spec hx).unique h]
theorem Zrz {f:Nat->Int}{n p:Nat} (h:ZeG f n p):Zf5 f n p=n:=by
 unfold Zf5
 rw[dif_neg λ⟨q,hq⟩=>hq.no h]
theorem Zf6 {f:Nat->Int}{n p:Nat}{e:Int} (h:ZaD f n p e):(ZdW f p\/∃q,Zaj f p q)/\(ZeG f n p\/∃r,Zaw f n p r):=by
 rcases h with⟨h1,h2,_⟩|⟨q,h1,h2,_⟩|⟨r,h1,h2,_⟩|⟨q,r,h1,h2,_⟩
 ·exact⟨.inl h1,.inl h2⟩
 ·exact⟨.inr ⟨q,h1⟩,.inl h2⟩
 ·exact⟨.inl h1,.inr ⟨r,h2⟩⟩
 ·exact⟨.inr ⟨q,h1⟩,.inr ⟨r,h2⟩⟩
theorem Zaj.over {f:Nat->Int}{p q:Nat} (h:Zaj f p q):Over f q p:=.inl ⟨h.1,λr r1 r2=>by
 by_cases z:r=p
 ·rw[z];exact h.2.1
 ·have:=h.2.2 r r1 (by omega);have:=h.2.1;omega⟩
theorem Zaw.over {f:Nat->Int}{n p q:Nat} (h:Zaw f n p q):Over f q p:=.inr ⟨h.1,λr r1 r2=>by
 by_cases z:r=p
 ·rw[z];exact h.2.2.1
 ·have:=h.2.2.2 r (by omega) r2;have:=h.2.2.1;omega⟩
theorem Zph {ns T:List Int} (hT:ZfF ns T) {p:Nat} (hp:p<ns.length):let L:=(wayI T p).filter λo=>decide (o<(p:Int))
  (L=[]->ZeJ (nth ns) p=-1)/\(L≠[]->∀m,m∈L->(∀a∈L,a<=m)->m=ZeJ (nth ns) p):=by
 intro L
 have hL:∀o:Nat,(o:Int)∈L↔o<p/\o<ns.length/\Over (nth ns) o p:=λo=>by
  rw[YU,ZmT hT hp,decide_eq_true_eq]
  exact⟨λh=>⟨by omega,h.1⟩,λh=>⟨h.2,by omega⟩⟩
 have hN:∀m∈L,∃o:Nat,m=o:=λm hm=>by
  have:=(YU.mp hm).1
  rw[Zk1]at this
  obtain⟨o,_,e⟩:=YJ.mp this
  exact⟨o,e.symm⟩
 rcases(Zf6 (hT.2 p hp)).1 with h|⟨q,h⟩
 ·refine⟨λ_=>ZmU h,λhne m hm _=>?_⟩
  obtain⟨o,rfl⟩:=hN m hm
  obtain⟨h1,_,h2⟩:=(hL o).mp hm
  have:=h o h1
  rcases h2 with⟨_,k⟩|⟨z,_⟩
  ·have:=k p h1 (Ye _);omega
  ·omega
 ·have hq:(q:Int)∈L:=(hL q).mpr ⟨h.1,by have:=h.1;omega,h.over⟩
  refine⟨λe=>by rw[e]at hq;simp at hq,λ_ m hm hmax=>?_⟩
  rw[Zjt h]
  obtain⟨o,rfl⟩:=hN m hm
  obtain⟨h1,_,h2⟩:=(hL o).mp hm
  have hqo:=hmax _ hq
  by_cases z:o=q
  ·rw[z]
  ·have:=h.2.2 o (by omega) h1
   rcases h2 with⟨_,k⟩|⟨z,_⟩
   ·have:=k p h1 (Ye _);omega
   ·omega
theorem Zpi {ns T:List Int} (hT:ZfF ns T) {p:Nat} (hp:p<ns.length):let L:=(wayI T p).filter λo=>decide ((p:Int)<o)
  (L=[]->Zf5 (nth ns) ns.length p=ns.length)/\(L≠[]->∀m,m∈L->(∀a∈L,m<=a)->m=Zf5 (nth ns) ns.length p):=by
 intro L
 have hL:∀o:Nat,(o:Int)∈L↔p<o/\o<ns.length/\Over (nth ns) o p:=λo=>by
  rw[YU,ZmT hT hp,decide_eq_true_eq]
  exact⟨λh=>⟨by omega,h.1⟩,λh=>⟨h.2,by omega⟩⟩
 have hN:∀m∈L,∃o:Nat,m=o:=λm hm=>by
  have:=(YU.mp hm).1
  rw[Zk1]at this
  obtain⟨o,_,e⟩:=YJ.mp this
  exact⟨o,e.symm⟩
 rcases(Zf6 (hT.2 p hp)).2 with h|⟨q,h⟩
 ·refine⟨λ_=>Zrz h,λhne m hm _=>?_⟩
  obtain⟨o,rfl⟩:=hN m hm
  obtain⟨h1,h3,h2⟩:=(hL o).mp hm
  have:=h o h1 h3
  rcases h2 with⟨z,_⟩|⟨_,k⟩
  ·omega
  ·have:=k p (Ye _) h1;omega
 ·have hq:(q:Int)∈L:=(hL q).mpr ⟨h.1,h.2.1,h.over⟩
  refine⟨λe=>by rw[e]at hq;simp at hq,λ_ m hm hmin=>?_⟩
  rw[Znz h]
  obtain⟨o,rfl⟩:=hN m hm
  obtain⟨h1,h3,h2⟩:=(hL o).mp hm
  have hqo:=hmin _ hq
  by_cases z:o=q
  ·rw[z]
  ·have:=h.2.2.2 o h1 (by omega)
   rcases h2 with⟨z,_⟩|⟨_,k⟩
   ·omega
   ·have:=k p (Ye _) h1;omega
noncomputable def ZR (f:Nat->Int) (p:Nat):Int:=if 0<=ZeJ f p then (p:Int)-ZeJ f p else 0
noncomputable def Zc3 (ns:List Int):List Int:=(List.range ns.length).map (ZR (nth ns))
theorem ZgA (ns:List Int):(Zc3 ns).length=ns.length:=by simp[Zc3]
noncomputable def ZaW (H:Hp) (l:Addr) (n:Nat) (ps:Nat->Int×Int):Prop:=∃qs:List Addr,H l=some (.lst (qs.map V.ref))/\qs.length=n/\∀(j:Nat) (q:Addr),qs[j]?=some q->H q=some (.tup [.int (ps j).1,.int (ps j).2])
theorem ZaW.same {H H':Hp}{l:Addr}{n:Nat}{ps:Nat->Int×Int} (h:ZaW H l n ps) (s:Zh H H'):ZaW H' l n ps:=by
 obtain⟨qs,h1,h2,h3⟩:=h
 exact⟨qs,s _ _ h1,h2,λj q hq=>s _ _ (h3 j q hq)⟩
theorem ZaW.push {H:Hp}{l q:Addr}{n:Nat}{ps:Nat->Int×Int} (h:ZaW H l n ps) (hq:H q=some (.tup [.int (ps n).1,.int (ps n).2])):∃xs:List V,H l=some (.lst xs)/\xs.length=n/\ZaW (upd H l (.lst (xs++[.ref q]))) l (n+1) ps:=by
 obtain⟨qs,h1,h2,h3⟩:=h
 have hne:∀a o,H a=some (.tup o)->a≠l:=λa o ha z=>by rw[z,h1]at ha;cases ha
 refine⟨_,h1,by simp[h2],qs++[q],by rw[Zc];simp,by simp[h2],λj a ha=>?_⟩
 by_cases z:j<qs.length
 ·rw[Y7 z]at ha
  have:=h3 j a ha
  rw[Zg (hne _ _ this)];exact this
 ·have hj:=(Yr.mp ha).1
  rw[YB]at hj
  have:j=n:=by simp at hj;omega
  subst this
  rw[Y2 (by omega),h2]at ha
  simp at ha
  rw[<-ha,Zg (hne _ _ hq)];exact hq
theorem ZlZ {J:It}{n:Nat}{g:TG}{tb:TS}{D:Ends}{σ:St}{H:Hp} (Pv:Nat->St->Hp->Prop) (h0:Pv 0 σ H) (hgo:∀i σ H,i<n->Pv i σ H->J.go i H) (hstop:∀σ H,Pv n σ H->J.stop n H)
  (hs:∀i x σ H H',i<n->Pv i σ H->J.yld i H x H'->g x σ H' fun σ2 H2=>tb {D with nx:=Pv (i+1),ct:=Pv (i+1),bk:=D.nx} σ2 H2) (hd:∀σ H,Pv n σ H->D.nx σ H):LoopR J g tb D σ H:=by
 refine⟨λi m σ H=>m=n-i/\i<=n/\Pv i σ H,⟨n,by simp,Yz _,h0⟩,?_⟩
 rintro i m σ H ⟨rfl,hi,p⟩
 by_cases hlt:i<n
 ·exact .inr ⟨hgo i σ H hlt p,Pv (i+1),fun σ' H' p'=>⟨n-(i+1),by omega,rfl,hlt,p'⟩,λx H' y=>hs i x σ H H' hlt p y⟩
 ·have:i=n:=by omega
  subst this
  exact .inl ⟨hstop σ H p,hd σ H p⟩
theorem Zpj (L:List Int):L=(List.range L.length).map λi=>L.getD i 0:=by
 refine List.ext_getElem (by simp) λj h1 h2=>?_
 simp[YD,h1]
theorem Zju {K:Frag}{a:Addr}{L:List Int}{H1:Hp}{Q:VK}{tt:TT}{σr:St} (P:Int->Bool) (ha:H1 a=some (.lst (L.map V.int))) (hn:L.length<=1000)
  (ht:∀(x:Int) (H:Hp) (R:Bool->Hp->Prop),R (P x) H->tt (some (V.int x)::σr) H R)
  (hk:∀l H',Zh H1 H'->H' l=none->Q (.ref l) (upd H' l (.lst ((L.filter P).map V.int)))) :
  Zf2 (Itl K a) (gName 0) tt (tVar 0) (none::σr) Q H1:=by
 refine Znq (n:=L.length) (λi=>P (L.getD i 0)) (λi=>V.int (L.getD i 0)) (Yv hn (by decide)) (λi Hx s hi=>⟨_,_,SqL.of (s _ _ ha),Yf (by simpa using hi)⟩) (λHx s=>⟨_,SqL.of (s _ _ ha),by simp⟩) ?_ ?_
 ·rintro i x Hx Hy hi s ⟨rfl,hx⟩
  have ex:=hx _ (SqL.of (s _ _ ha))
  rw[Yx,Yf hi]at ex
  cases ex
  have eg:L.getD i 0=L[i]:=by simp[YD,hi]
  refine ht _ _ _ ?_
  cases hP:P L[i]with
  |true =>
   rw[Yd rfl]
   exact⟨_,rfl,CF.take hi (by rw[eg];exact hP) (by rw[eg]) s⟩
  |false =>
   rw[Yc (by simp)]
   exact CF.skip hi (by rw[eg];exact hP) s
 ·intro l H' s hl
  have:=hk l H' s hl
  have e:((List.range L.length).filter λi=>P (L.getD i 0)).map (λi=>V.int (L.getD i 0))=(L.filter P).map V.int:=by
   conv=>rhs;rw[Zpj L,List.filter_map,YZ]
   rfl
  rw[e];exact this
end L2
namespace PySem
open Sem (wp)
end PySem
namespace L2
open PySem PySem.Spec PyProof.Rows PySem.W
section
variable {prog:Program}{w:World}{A:Around}{E:Value->Shared->Prop}{s:Shared}{z TI TO i1 i2 l1 l2:Addr}{k1 k2:Nat}{xs ys:Array Value}{a b:Value}
noncomputable def Zpk (h:Heap) (l:Addr):String:=match h.get? l with
 |some o=>if o.cls=.type "tuple" then "tuple_iterator" else "list_iterator"
 |none=>"list_iterator"
noncomputable abbrev zq1 (h:Heap) (l1:Addr):Heap:=h.push {cls:=.type (Zpk h l1),data:=.fields #[.ref l1,.int 0 0]}
noncomputable abbrev zq2 (h:Heap) (l1 l2:Addr):Heap:=(zq1 h l1).push {cls:=.type (Zpk (zq1 h l1) l2),data:=.fields #[.ref l2,.int 0 0]}
end
theorem ZiP {F:Nat->Int}{n k:Nat} (h:k<n):nth ((List.range n).map F) k=F k:=by simp[nth,YD,h]
noncomputable def CDivL (i j:Int):Prop:=0<j/\j<18446744073709551616
theorem ZcD {X:Cx}:OpR X (binaryOp .FloorDiv) (rI CDivL λi j=>.int (i / j)):=opI λi j _ _ _ _ _ hc q=>by
 have h1:(0:Int)<j:=hc.1
 have h2:j<18446744073709551616:=hc.2
 refine floordiv_int (by omega) (by rw[Int.fdiv_eq_ediv_of_nonneg i (by omega)];exact q) (.inl (PyProof.noPylong_of_log2 ?_))
 have h3:j.natAbs<2 ^ 64:=by omega
 have:j.natAbs.log2<64:=(Nat.log2_lt (by omega)).mpr h3
 omega
end L2
namespace L2
open PySem PySem.Spec PyProof.Rows PySem.W
theorem Zpl (xs:List V) {a c:Nat} (h1:a<=c) (h2:c<=xs.length):Zex xs (some (a:Int)) (some (c:Int))=(xs.drop a).take (c-a):=by
 unfold Zex
 rw[HT.ZmB,HT.ZmB,Nat.min_eq_left h2,Nat.min_eq_left (Yi h1 h2)]
theorem Zk3 (ns:List Int) {a c:Nat} (h1:a<=c) (h2:c<=ns.length):Zex (ns.map V.int) (some (a:Int)) (some (c:Int))=(ZcW ns a (c-a)).map V.int:=by
 rw[Zpl _ h1 (by simpa using h2)]
 unfold ZcW
 rw[List.map_take,List.map_drop]
noncomputable def sw (d:Int) (k:Nat):Int:=if d<=k then d else 0
theorem Za9 (f:Nat->Int) (p:Nat):(ZdW f p/\ZR f p=0)\/∃q,Zaj f p q/\ZR f p=(p:Int)-q:=by
 rcases Zj6 f p with h|⟨q,h⟩
 ·exact .inl ⟨h,by unfold ZR;rw[ZmU h,Yc (by omega)]⟩
 ·exact .inr ⟨q,h,by unfold ZR;rw[Zjt h,Yd (by omega)]⟩
theorem ZdZ (f:Nat->Int) (p:Nat):0<=ZR f p/\ZR f p<=p:=by
 rcases Za9 f p with⟨_,e⟩|⟨q,h,e⟩
 ·omega
 ·have:=h.1;omega
theorem Zk4 {f g:Nat->Int}{x i:Nat} (h:∀k,k<=i->g k=f (x+k)):ZR g i=sw (ZR f (x+i)) i:=by
 rcases Za9 f (x+i)with⟨h1,e⟩|⟨q,h1,e⟩
 ·have:ZdW g i:=λk hk=>by rw[h k (by omega),h i (Ye _)];exact h1 (x+k) (by omega)
  rw[e]
  rcases Za9 g i with⟨_,e2⟩|⟨r,h2,_⟩
  ·rw[e2];unfold sw;rw[Yd (by omega)]
  ·exact absurd this (λz=>h2.no z)
 ·rw[e]
  obtain⟨q1,q2,q3⟩:=h1
  unfold sw
  by_cases hx:x<=q
  ·rw[Yd (by omega)]
   have:Zaj g i (q-x):=⟨by omega,by rw[h _ (by omega),h i (Ye _),show x+(q-x)=q by omega];exact q2,λr r1 r2=>by rw[h r (by omega),h i (Ye _)];exact q3 (x+r) (by omega) (by omega)⟩
   rcases Za9 g i with⟨h2,_⟩|⟨r,h2,e2⟩
   ·exact(this.no h2).elim
   ·have:=h2.unique this;omega
  ·rw[Yc (by omega)]
   have:ZdW g i:=λk hk=>by rw[h k (by omega),h i (Ye _)];exact q3 (x+k) (by omega) (by omega)
   rcases Za9 g i with⟨_,e2⟩|⟨r,h2,_⟩
   ·exact e2
   ·exact(h2.no this).elim
theorem Zk5 {ns:List Int}{a c i:Nat} (h:i<c):ZR (nth (ZcW ns a c)) i=sw (ZR (nth ns) (a+i)) i:=Zk4 λk hk=>ZeI (by omega)
noncomputable def KinD (f g:Nat->Int) (m:Nat):Prop:=∀i,i<m->ZR f i=ZR g i
theorem ZnA {ns:List Int}{m:Nat} (h:m<ns.length):nth (Zc3 ns) m=ZR (nth ns) m:=ZiP h
theorem Zl0 {bs:List Nat}{i:Nat} (h:bs.length=i+1):atI (ZO bs) (-1)=some (V.int ((bs.getD i 0:Nat):Int)):=by
 refine atI_m1 (by rw[Z3];omega) ?_
 rw[Z3,h,Nat.add_sub_cancel]
 simp[ZO,YD,h]
end L2
namespace L2
open PySem PySem.Spec PyProof.Rows PySem.W
structure FunD (K:PySem.W.Frag) (x qual:Str) (st:Stmt) (f:Addr) (fd:FuncData) (dV:Value):Prop where
 ex:∃(oc:Value) (od:Option Addr) (kV doc pm:Value) (an:Option Addr) (cdv ct:Value) (osl:Array (Option Value)),
  fd=PySem.W.fnOf x qual (defArgs st) (defBody st) (defScope st) dV kV doc pm an cdv ct/\K.lookup f=some ⟨oc,od,.func fd,osl⟩/\PySem.W.codeIn K cdv qual=true
 kp:PySem.W.keepIn K (.ref f)=true
section
variable {P:Program}{w:World}{K:PySem.W.Frag}{mg:Str->Option Value}{base:Heap}
theorem FunD.okX {x qual:Str}{st:Stmt}{f:Addr}{fd:FuncData}{dV:Value}{N ps:List Str}{k:Nat}{sp:Sp} (F:FunD K x qual st f fd dV) (S:FnScope N ps (defScope st)) (len:∀vs H Q E,sp vs H Q E->vs.length=ps.length)
  (hbody:∀(cdv:Value) (A:Around) (outer:List Env) (s:Shared) (H:Hp) (vs:List V) (Q:VK) (E:XK),Room k (A.deeper (envOfC qual (defScope st) s.heap.objs.size f cdv))->sp vs H Q E ->
   ∃t,PSs (ZfE (CXE P w) P w K mg base N qual (defScope st) f cdv A outer s H E) (defBody st) t/\t {nx:=λ_ H'=>Q .non H',rt:=Q} (start N vs) H):FnOk P w K mg base (CXE P w) (k+1) f fd ps sp:=by
 obtain⟨oc,od,kV,doc,pm,an,cdv,ct,osl,rfl,lk,hcd⟩:=F.ex
 exact ZoX lk hcd S len λA outer s H vs Q E hr hsp=>hbody cdv A outer s H vs Q E hr hsp
theorem FunD.binds {x qual:Str}{st:Stmt}{f:Addr}{fd:FuncData}{D:Addr}{ps:List Str}{ds:List Value}{oc:Value}{od:Option Addr}{items:Array Value}{ep:Nat}{sl:Array (Option Value)} (F:FunD K x qual st f fd (.ref D))
  (lk:K.lookup D=some ⟨oc,od,.seq items ep,sl⟩)
  (h:∀(kV doc pm:Value) (an:Option Addr) (cdv ct:Value) (us:List Value),(us++ds).length=ps.length->∃k,bindArgs (PySem.W.fnOf x qual (defArgs st) (defBody st) (defScope st) (.ref D) kV doc pm an cdv ct) ⟨us,[]⟩=seqItems? (.ref D) >>= k/\k (some items)=pure (ps.zip (us++ds))):Binds K fd ps ds:=by
 obtain⟨oc,od,kV,doc,pm,an,cdv,ct,osl,rfl,lf,hcd⟩:=F.ex
 intro s us KX hl
 obtain⟨k,h1,h2⟩:=h kV doc pm an cdv ct us hl
 exact BindsTo.of_defaults rfl (KX _ _ lk) rfl h1 h2
theorem ZrA {x qual:Str}{st:Stmt}{f:Addr}{oc:Value}{od an:Option Addr}{osl:Array (Option Value)}{dV kV doc pm cdv ct:Value} (l:K.lookup f=some ⟨oc,od,.func (PySem.W.fnOf x qual (defArgs st) (defBody st) (defScope st) dV kV doc pm an cdv ct),osl⟩)
  (c:PySem.W.codeIn K cdv qual=true) (k:PySem.W.keepIn K (.ref f)=true):FunD K x qual st f (PySem.W.fnOf x qual (defArgs st) (defBody st) (defScope st) dV kV doc pm an cdv ct) dV:=⟨⟨oc,od,kV,doc,pm,an,cdv,ct,osl,rfl,l,c⟩,k⟩
end
noncomputable def ZrB (P:Program) (w:World) (K:Frag) (mg:Str->Option Value) (base:Heap) (x:Str) (k:Nat) (ps:List Str) (dvs:List V) (sp:Sp):Prop :=
 ∃f fd ds,mg x=some (.ref f)/\keepIn K (.ref f)=true/\Binds K fd ps ds/\Vals dvs ds/\FnOk P w K mg base (CXE P w) k f fd ps sp
theorem Zk6 (f:Nat->Int) (a c:Nat):Zz f a (c+1)=if sw (ZR f (a+c+1)) (c+1)=0 then a+c+1 else Zz f a c:=by
 obtain⟨l1,l2,l3,l4⟩:=Zhx f a c
 rw[Zz]
 generalize Zz f a c=m at *
 rcases Za9 f (a+c+1)with⟨h,e⟩|⟨q,⟨q1,q2,q3⟩,e⟩
 ·rw[e,Yd (h m (by omega)),Yd]
  unfold sw;split<;>rfl
 ·rw[e]
  by_cases hq:a<=q
  ·have hm:f m<=f q:=by
    by_cases z:q<m
    ·have:=l3 q hq z;omega
    ·by_cases y:q=m
     ·rw[y];exact Int.le_refl _
     ·exact l4 q (by omega) (by omega)
   rw[Yc (by omega),Yc]
   unfold sw;rw[Yd (by omega)];omega
  ·rw[Yd (q3 m (by omega) (by omega)),Yd]
   unfold sw;rw[Yc (by omega)]
theorem ZlV.kinD {f g:Nat->Int}{n:Nat} (h:ZlV f g n):KinD f g n:=by
 intro i hi
 have key:∀k,0<k->k<=i->(sw (ZR f i) k=0↔sw (ZR g i) k=0):=λk k0 k1=>by
  have e:=h (i-k) (k-1+1) (by omega)
  rw[Zk6,Zk6]at e
  rw[show i-k+(k-1)+1=i by omega,show k-1+1=k by omega]at e
  have b1:=(Zhy f (i-k) (k-1)).2
  have b2:=(Zhy g (i-k) (k-1)).2
  by_cases z:sw (ZR f i) k=0
  ·rw[Yd z]at e
   by_cases y:sw (ZR g i) k=0
   ·exact⟨λ_=>y,λ_=>z⟩
   ·rw[Yc y]at e;omega
  ·rw[Yc z]at e
   by_cases y:sw (ZR g i) k=0
   ·rw[Yd y]at e;omega
   ·exact⟨λw=>absurd w z,λw=>absurd w y⟩
 have b1:=ZdZ f i
 have b2:=ZdZ g i
 generalize ZR f i=d at *
 generalize ZR g i=d' at *
 apply Classical.byContradiction
 intro ne
 have main:∀x y:Int,0<=x->x<=i->0<=y->y<=i->(∀k:Nat,0<k->k<=i->(sw x k=0↔sw y k=0))->¬ x<y:=λx y x0 x1 y0 y1 kk hlt=>by
  by_cases hx:x=0
  ·have:=(kk y.toNat (by omega) (by omega)).mp (by rw[hx];unfold sw;split<;>rfl)
   unfold sw at this
   rw[Yd (by omega)]at this;omega
  ·have:=(kk x.toNat (by omega) (by omega)).mpr (by unfold sw;rw[Yc (by omega)])
   unfold sw at this
   rw[Yd (by omega)]at this;omega
 by_cases hlt:d<d'
 ·exact main d d' b1.1 b1.2 b2.1 b2.2 key hlt
 ·exact main d' d b2.1 b2.2 b1.1 b1.2 (λk h1 h2=>(key k h1 h2).symm) (by omega)
theorem ZnB {f g:Nat->Int}{s n:Nat} (h:∀k,k<n->g k=f (s+k)) (a:Nat):∀c,a+c<n->Zz f (s+a) c=s+Zz g a c:=by
 intro c
 induction c with
 |zero=>intro _;rfl
 |succ c ih =>
  intro k
  have b:=(Zhy g a c).2
  rw[Zz,Zz,ih (by omega),<-h (Zz g a c) (by omega),show s+a+c+1=s+(a+c+1) by omega,<-h (a+c+1) (by omega)]
  split<;>rfl
noncomputable def ZI (H:Hp) (l:Addr) (rs:List (List Int)):Prop:=∃as:List Addr,H l=some (.lst (as.map V.ref))/\as.length=rs.length/\∀i (h1:i<as.length) (h2:i<rs.length),H as[i]=some (.tup (rs[i].map V.int))
theorem ZI.same {H H':Hp}{l:Addr}{rs:List (List Int)} (R:ZI H l rs) (s:Zh H H'):ZI H' l rs:=by
 obtain⟨as,h1,h2,h3⟩:=R
 exact⟨as,s _ _ h1,h2,λi i1 i2=>s _ _ (h3 i i1 i2)⟩
theorem ZI.isL {K:Frag}{H:Hp}{l:Addr}{rs:List (List Int)} (R:ZI H l rs):IsL K H (IsT K H IsI) (.ref l) rs:=by
 obtain⟨as,h1,h2,h3⟩:=R
 refine⟨l,_,rfl,SqL.of h1,by simp[h2],λj x y e1 e2=>?_⟩
 have j2:=(Yr.mp e2).1
 have j1:j<as.length:=by omega
 rw[Yx,Yf j1]at e1
 rw[Yf j2]at e2
 cases e1
 cases e2
 exact ZhM (SqT.of (h3 j j1 j2))
theorem ZhR {f:Nat->Int}{n s a:Nat} (h:a<n-s):atI ((ZZ f n s).map V.int) (a:Int)=some (V.int ((Zz f a s:Int)-(a:Int))):=by
 rw[Zdi (by simpa[ZZ]using h)]
 simp[nth,ZZ,YD,h]
noncomputable def Once (k:Nat) (ss ls:List Int):Prop:=ss=((List.range k).map λ(j:Nat)=>(j:Int)).filter (λj=>decide (j∉ls))/\ls=((List.range k).map λ(j:Nat)=>(j:Int)).filter (λj=>decide (j∈ls))
noncomputable instance (k:Nat) (ss ls:List Int):Decidable (Once k ss ls):=inferInstanceAs (Decidable (_/\_))
theorem ZI.walk {K:Frag}{H1:Hp}{d:Addr}{rs:List (List Int)} (R:ZI H1 d rs):(∀i H,Zh H1 H->i<rs.length->(Itl K d).go i H)/\(∀H,Zh H1 H->(Itl K d).stop rs.length H) /\
  ∀i x H H' (h:i<rs.length),Zh H1 H->(Itl K d).yld i H x H'->H'=H/\∃a,x=.ref a/\H a=some (.tup (rs[i].map V.int)):=by
 obtain⟨as,e,hl,hh⟩:=R
 refine⟨λi H s hi=>⟨_,V.ref (as[i]'(by omega)),SqL.of (s _ _ e),by simp[show i<as.length by omega]⟩,λH s=>⟨_,SqL.of (s _ _ e),by simp[hl]⟩,λi x H H' hi s y=>?_⟩
 obtain⟨e1,y⟩:=y
 have h1:=y _ (SqL.of (s _ _ e))
 rw[Yx,Yf (show i<as.length by omega)]at h1
 cases h1
 exact⟨e1,_,rfl,s _ _ (hh i (by omega) hi)⟩
theorem ZI.sq {K:Frag}{H:Hp}{l:Addr}{rs:List (List Int)} (R:ZI H l rs):∃xs,SqL K H l xs:=by
 obtain⟨as,e,_⟩:=R
 exact⟨_,SqL.of e⟩
theorem ZnC {K:Frag}{H:Hp}{n:Nat}{a c:Addr}{xs:List V} (h1:H a=some (.lst xs)) (h2:H c=some (.lst [])):EqD K H (n+1) (.ref a) (.ref c) (decide (xs=[])):=by
 cases xs with
 |nil =>
  have:=EqD.lst (K:=K) (H:=H) (n:=n) (λ_=>true) (SqL.of h1) (SqL.of h2) rfl λj x y e1 e2=>by simp at e1
  simpa using this
 |cons x xs =>
  have:=EqD.len (K:=K) (H:=H) (n:=n) (SqL.of h1) (SqL.of h2) (by simp)
  simpa using this
section
variable {N:Nat}{k:Nat->Int}{cmp:Nat->Nat->(Bool->Shared->Prop)->Shared->Prop}{s:Shared}{p:Array Nat}
noncomputable def kk (k:Nat->Int) (p:Array Nat) (i:Nat):Int:=k (p.getD i 0)
end
theorem ZhS (l:List Nat) (y:Nat):atI (ZO (l++[y])) (-1)=some (V.int (y:Nat)):=by
 have:=Zl0 (bs:=l++[y]) (i:=l.length) (by simp)
 rw[this];simp[YD]
theorem Zk7 {ns:List Int}{a c:Nat} (h:a+c<=ns.length) {x:Int}:x∈ZcW ns a c↔∃k,k<c/\x=nth ns (a+k):=by
 have hl:(ZcW ns a c).length=c:=ZhQ h
 constructor
 ·intro hx
  obtain⟨k,hk,rfl⟩:=YY hx
  refine⟨k,by omega,?_⟩
  rw[<-ZeI (ns:=ns) (a:=a) (c:=c) (show k<c by omega)]
  simp[nth,YD,hk]
 ·rintro⟨k,hk,rfl⟩
  rw[<-ZeI (ns:=ns) (a:=a) hk]
  have:nth (ZcW ns a c) k=(ZcW ns a c)[k]'(by omega):=by simp[nth,YD,show k<(ZcW ns a c).length by omega]
  rw[this]
  exact YA _
end L2
namespace L2
open PySem PySem.Spec PyProof.Rows PySem.W
end L2
namespace L2
noncomputable def Ok:Nat->List Nat->Prop
 |_,[]=>True
 |st,d::ds=>d<=st/\Ok (st-d+1) ds
end L2
namespace L2
open PySem PySem.Spec PyProof.Rows PySem.W
end L2
namespace L2
open PySem PySem.Spec PyProof.Rows PySem.W
end L2
namespace L2
open PySem PySem.Spec PyProof.Rows
section
variable {κ:Type} [DecidableEq κ]
noncomputable def Zcl (kvs:List (κ×V)) (k:κ):Option V:=(kvs.find? λkv=>decide (kv.1=k)).map (·.2)
noncomputable def putK (kvs:List (κ×V)) (k:κ) (v:V):List (κ×V) :=
 if (kvs.any λkv=>decide (kv.1=k))=true then kvs.map (λkv=>if kv.1=k then (kv.1,v)else kv)else kvs++[(k,v)]
theorem ZbY {p:κ×V}{r:List (κ×V)}{k:κ} (e:p.1=k):Zcl (p::r) k=some p.2:=by simp[Zcl,List.find?_cons,e]
theorem ZbZ {p:κ×V}{r:List (κ×V)}{k:κ} (e:¬ p.1=k):Zcl (p::r) k=Zcl r k:=by simp[Zcl,List.find?_cons,e]
theorem Zf7 (k:κ):∀kvs:List (κ×V),(kvs.any λkv=>decide (kv.1=k))=(Zcl kvs k).isSome
 |[]=>rfl
 |p::r=>by
  rw[List.any_cons]
  by_cases e:p.1=k
  ·simp only[ZbY e,YS e,Bool.true_or,Option.isSome_some]
  ·rw[ZbZ e,YQ e,Bool.false_or];exact Zf7 k r
theorem Zjv (k j:κ) (y:V):∀kvs:List (κ×V),Zcl kvs k=none->Zcl (kvs++[(k,y)]) j=if j=k then some y else Zcl kvs j
 |[],_=>by
  by_cases e:k=j
  ·rw[Yd e.symm];exact ZbY (p:=(k,y)) e
  ·rw[Yc (λz=>e z.symm)];exact ZbZ (p:=(k,y)) e
 |p::r,hn=>by
  rw[List.cons_append]
  have hk:¬ p.1=k:=λz=>by rw[ZbY z]at hn;cases hn
  rw[ZbZ hk]at hn
  have ih:=Zjv k j y r hn
  by_cases e:p.1=j
  ·rw[ZbY e,ZbY e,Yc (λz=>hk (e.trans z))]
  ·rw[ZbZ e,ZbZ e,ih]
theorem Zk8 (kvs:List (κ×V)) (k:κ) (v:V):(putK kvs k v).length<=kvs.length+1:=by
 unfold putK
 split
 ·rw[Yg];omega
 ·rw[YB,YN,List.length_nil];omega
theorem Zpm {kvs:List (κ×V)}{k:κ} (v:V) (h:Zcl kvs k=none):putK kvs k v=kvs++[(k,v)]:=by
 unfold putK
 rw[Zf7,h]
 exact Yc (by decide)
theorem ZhC.ZnD {o:Option V}{u:Option Value} (r:ZhC o u):o.isSome=u.isSome:=by
 cases o with
 |none=>cases u with
  |none=>rfl
  |some _=>exact(show False from r).elim
 |some _=>cases u with
  |none=>exact(show False from r).elim
  |some _=>rfl
theorem KV.val {kvs:List (κ×V)}{vs:List (κ×Value)} (r:KV kvs vs) (k:κ):ZhC (Zcl kvs k) (valueAt vs k):=by
 unfold KV at r
 induction r with
 |nil=>exact True.intro
 |@cons p q ps qs h t ih =>
  obtain⟨h1,h2⟩:=h
  by_cases e:p.1=k
  ·have e':q.1=k:=h1.symm.trans e
   have b:valueAt (q::qs) k=some q.2:=by simp[valueAt,List.find?_cons,e']
   rw[ZbY e,b];exact h2
  ·have e':¬ q.1=k:=λz=>e (h1.trans z)
   have b:valueAt (q::qs) k=valueAt qs k:=by simp[valueAt,List.find?_cons,e']
   rw[ZbZ e,b];exact ih
end
theorem kV_is {P:Program}{w:World}{k:Key}{u:Value} (r:RelV (kV k) u):(ZaV P w).is k u=true:=by
 cases k with
 |inl i=>obtain⟨t,e⟩:=(show ∃t,u=Value.int i t from r);subst e;exact ZkE P w i t
 |inr x=>obtain⟨t,e⟩:=(show ∃t,u=Value.str x t from r);subst e;exact ZkF P w x t
theorem Zjw {P:Program}{w:World}:∀{ks:List Key}{us:List Value},Vals (ks.map kV) us->ItemsAre (ZaV P w) ks us
 |[],_,r=>by rw[List.map_nil]at r;cases r;exact .nil
 |k::ks,_,r=>by
  rw[YG]at r
  cases r with
  |cons h t=>exact .cons (kV_is h) (Zjw t)
noncomputable abbrev KT (H:Hp):List (List Key×V)->List (List Key×Addr×Value)->Prop:=Paired λp q=>p.1=q.1/\H q.2.1=some (.tup (p.1.map kV))/\RelV p.2 q.2.2
theorem KT.val {H:Hp}{kvs:List (List Key×V)}{xs:List (List Key×Addr×Value)} (r:KT H kvs xs) (k:List Key):ZhC (Zcl kvs k) ((atKey xs k).map (·.2)):=by
 induction r with
 |nil=>exact True.intro
 |@cons p q ps qs h t ih =>
  obtain⟨h1,_,h2⟩:=h
  by_cases e:p.1=k
  ·have e':q.1=k:=h1.symm.trans e
   have b:atKey (q::qs) k=some q.2:=by simp[atKey,List.find?_cons,e']
   rw[ZbY e,b];exact h2
  ·have e':¬ q.1=k:=λz=>e (h1.trans z)
   have b:atKey (q::qs) k=atKey qs k:=by simp[atKey,List.find?_cons,e']
   rw[ZbZ e,b];exact ih
theorem KT.repl {H:Hp}{kvs:List (List Key×V)}{xs:List (List Key×Addr×Value)} (r:KT H kvs xs) (k:List Key) {y:V}{u:Value} (ry:RelV y u) :
  KT H (kvs.map λkv=>if kv.1=k then (kv.1,y)else kv) (xs.map (putAt k u)):=by
 induction r with
 |nil=>exact .nil
 |@cons p q ps qs h t ih =>
  rw[YG,YG]
  refine .cons ?_ ih
  obtain⟨h1,h2,h3⟩:=h
  unfold putAt
  by_cases e:p.1=k
  ·rw[Yd e,Yd (h1.symm.trans e)];exact⟨h1,h2,ry⟩
  ·rw[Yc e,Yc (λz=>e (h1.trans z))];exact⟨h1,h2,h3⟩
theorem KT.put {H:Hp}{kvs:List (List Key×V)}{xs:List (List Key×Addr×Value)} (r:KT H kvs xs) (k:List Key) {b:Addr}{y:V}{u:Value} (hb:H b=some (.tup (k.map kV))) (ry:RelV y u) :
  KT H (putK kvs k y) (storedH xs k b u):=by
 have e:(kvs.any λkv=>decide (kv.1=k))=(atKey xs k).isSome:=by
  rw[Zf7,(r.val k).ZnD,Option.isSome_map]
 unfold putK storedH
 rw[e]
 by_cases q:(atKey xs k).isSome=true
 ·rw[Yd q,Yd q];exact r.repl k ry
 ·rw[Yc q,Yc q];exact Paired.snoc r ⟨rfl,hb,ry⟩
theorem KT.keeps {H H':Hp}{kvs:List (List Key×V)}{xs:List (List Key×Addr×Value)} (r:KT H kvs xs) (ht:∀b ys,H b=some (.tup ys)->H' b=some (.tup ys)):KT H' kvs xs :=
 Paired.mapP r λ_ _ z=>⟨z.1,ht _ _ z.2.1,z.2.2⟩
section
variable {P:Program}{w:World}{H:Hp}{h:Heap}{a:Addr}
theorem rd_of {u:HO} (ok:HOk P w H h) (e:Rd H a u):ZQ P w H h a u:=e.ok ok
theorem Zpn {kvs:List (Key×V)} (ok:HOk P w H h) (e:Rd H a (.dK kvs)):kvs.length<=sizeLine/\(a==sysModules)=false/\∃vs,KV kvs vs/\h.DictOf (ZaV P w) a vs :=
 show ZQ P w H h a (.dK kvs)from rd_of ok e
theorem Zl1 {ks:List Key} (ok:HOk P w H h) (e:H a=some (.tup (ks.map kV))):(tupleKind (ZaV P w)).is h ks a:=by
 obtain⟨_,its,r,o,h1,h2,n,h3⟩:=(show ZQ P w H h a (.tup (ks.map kV))from ok a _ e)
 exact⟨o,its.toArray,n,h1,h2,h3,by simpa using Zjw r⟩
theorem ZmV {kvs:List (List Key×V)} (ok:HOk P w H h) (e:Rd H a (.dT kvs)):kvs.length<=sizeLine/\(a==sysModules)=false /\
  ∃xs,KT H kvs xs/\h.DictOfH (tupleKind (ZaV P w)) a xs:=by
 obtain⟨z,y,xs,r,o,es,ep,h1,h2,h3,h4,h5⟩:=(show ZQ P w H h a (.dT kvs)from rd_of ok e)
 refine⟨z,y,xs,r,o,es,ep,h1,h2,h3,h4,λx hx=>?_,h5⟩
 have all:∀{l:List (List Key×V)}{m:List (List Key×Addr×Value)},KT H l m->∀x∈m,(tupleKind (ZaV P w)).is h x.1 x.2.1:=by
  intro l m q
  induction q with
  |nil=>intro x hx;exact nomatch hx
  |@cons p q ps qs hq t ih =>
   intro x hx
   rcases Yk.mp hx with e|hx
   ·subst e
    exact Zl1 ok (by rw[<-hq.1];exact hq.2.1)
   ·exact ih x hx
 exact all r x hx
theorem dt_of {kvs:List (List Key×V)} (ok:HOk P w H h) (e:H a=some (.dT kvs)):kvs.length<=sizeLine/\(a==sysModules)=false /\
  ∃xs,KT H kvs xs/\h.DictOfH (tupleKind (ZaV P w)) a xs:=ZmV ok (.inl e)
end
noncomputable def Zl2 (H:Hp) (a:Addr) (y:V) (r:Option V):Prop :=
 (∃kvs k,Rd H a (.dK kvs)/\y=kV k/\r=Zcl kvs k)\/∃kvs k b,Rd H a (.dT kvs)/\y=.ref b/\H b=some (.tup (k.map kV))/\r=Zcl kvs k
theorem Zl2.t {H:Hp}{a b:Addr}{kvs:List (List Key×V)}{k:List Key} (e:H a=some (.dT kvs)) (eb:H b=some (.tup (k.map kV))):Zl2 H a (.ref b) (Zcl kvs k):=.inr ⟨kvs,k,b,.inl e,rfl,eb,rfl⟩
section
variable {X:Cx}{pins:List (Addr×Obj)}{σ:St}{H:Hp}{s:Shared}{a:Addr}{y v:V}{u r:Value}{o:Option V}{A:Around}{E:Value->Shared->Prop}
theorem Inv.big (I:Inv X pins σ H s):sysModules<s.heap.objs.size:=by
 have h:mainGlobals<s.heap.objs.size:=(I.mod.glob.keeps I.bk).lt
 exact Nat.lt_trans (by decide) h
theorem ZnE {Q:Value->Shared->Prop} (hu:A.units+1<cLine) (I:Inv X pins σ H s) (g:Zl2 H a y (some v)) (ry:RelV y u) (h:∀w' s',Inv X pins σ H s'->RelV v w'->Q w' s') :
  wpAny (model X.prog X.w) A (getItem (.ref a) u) Q E s:=by
 rcases g with⟨kvs,k,e,ey,l⟩|⟨kvs,k,b,e,ey,eb,l⟩
 ·subst ey
  obtain⟨z,hd,vs,rel,dd⟩:=Zpn I.hok e
  obtain⟨w',hw,rw'⟩:=ZhC.some_of (v:=v) (o:=valueAt vs k) (by rw[l];exact rel.val k)
  exact wpAny_getItem_of (kV_is ry) dd.mapOf hw (h w' _ (I.tok _) rw')
 ·subst ey
  cases(show u=Value.ref b from ry)
  obtain⟨z,hd,xs,rel,dd⟩:=ZmV I.hok e
  obtain⟨w',hw,rw'⟩:=ZhC.some_of (v:=v) (o:=(atKey xs k).map (·.2)) (by rw[l];exact rel.val k)
  obtain⟨p,hp,hp2⟩:=Option.map_eq_some_iff.mp hw
  refine wpAny_getItem_heap (tupleKind_room_in1 hu) (Zl1 I.hok eb) dd hp ?_
  rw[hp2]
  exact h w' _ (I.tok _) rw'
theorem ZrC {h':Heap}{t':Nat}{ob:HO} (I:Inv X pins σ H s) (mu:Mut (H a)) (hs:Heap.SameBut a s.heap h') (he:∃q,h'.get? a=some q) (new:ZQ X.prog X.w (upd H a ob) h' a ob) :
  Inv X pins σ (upd H a ob) {s with heap:=h',toks:=t'} :=
 I.write (x:=a) (e:=a) mu (.inl rfl) (λb q hb z=>(hs.2 b hb).trans z) he new
end
noncomputable def NoSl (i:Expr):Prop:=∀ov iv,subscripted i false ov iv=operate [ov,iv] (getItem ov iv)
theorem ZrD {prog:Program}{w:World}{A:Around}{E:Value->Shared->Prop}{s:Shared}{env:Env}{value slice:Expr}{pos:Pos}{T id:String}{Q:Value->Shared->Prop}
  (hl:typeLookup (.type T) "__getitem__"=pure (some (.builtin id))) (hs:NoSl slice)
  (h:wpAny (model prog w) A (eval value env) (λo s₁=>wpAny (model prog w) A (eval slice env) (λi s₂=>s₂.TypeIs o T/\wpAny (model prog w) A (getItem o i) Q E s₂) E s₁) E s) :
  wpAny (model prog w) A (eval (.Subscript value slice pos) env) Q E s:=by
 refine Subscript_ (Yt h (λo s₁ h₁=>Yt h₁ (λi s₂ h₂=>?_) λ_ _ x=>x) λ_ _ x=>x)
 obtain⟨hT,h₂⟩:=h₂
 unfold subscriptTail
 refine Ya ?_
 rw[getitemInPython_of_ne hT.not_modules]
 refine Ya (wpAny_specialOf hT hl ?_)
 have fin:wpAny (model prog w) A (subscripted slice false o i) (λr s₃=>wpAny (model prog w) A (letTemporaryGo value o r >>= λ_=>pure r) Q E s₃) E s₂:=by
  rw[hs o i]
  exact wpAny_operating (Yt h₂ (λr s₃ h₃=>Ya (wpAny_letTemporaryGo (Yb h₃))) λ_ _ x=>x)
 first
  |exact Yb (Ya fin)
  |exact Ya (Yb (Ya fin))
  |exact Ya fin
theorem Zk9 {X:Cx}{pins:List (Addr×Obj)}{σ:St}{H:Hp}{s:Shared}{a:Addr}{y:V}{o:Option V} (I:Inv X pins σ H s) (g:Zl2 H a y o):s.TypeIs (.ref a) "dict":=by
 rcases g with⟨kvs,k,e,_,_⟩|⟨kvs,k,b,e,_,_,_⟩
 ·obtain⟨_,_,vs,_,dd⟩:=Zpn I.hok e
  exact dd.typeIs
 ·obtain⟨_,_,xs,_,dd⟩:=ZmV I.hok e
  exact dd.typeIs
noncomputable def tDGet (td ty:TE):TE:=fun σ H Q=>td σ H λx H1=>ty σ H1 λy H2=>∃a v,x=.ref a/\Zl2 H2 a y (some v)/\Q v H2
section
variable {X:Cx}{o i e value:Expr}{pos pos' tpos:Pos}{td ty tv:TE}
theorem ZrE (hu:X.A.units+1<cLine) (ho:PE X o td) (hi:PE X i ty) (hs:NoSl i):PE X (.Subscript o i pos) (tDGet td ty):=by
 intro pins s σ H Q I h
 refine ZrD PySem.F.slot_dict_getitem.lookup hs (thn (ho pins s σ H _ I h) λu s1 ⟨x,H1,I1,rx,q1⟩=>thn (hi pins s1 σ H1 _ I1 q1) λiv s2 ⟨y,H2,I2,ry,a,v,ex,g,q2⟩=>?_)
 subst ex
 obtain rfl:u=Value.ref a:=rx
 exact⟨Zk9 I2 g,ZnE hu I2 g ry λw' s3 I3 rw'=>⟨v,H2,I3,rw',q2⟩⟩
end
theorem Zpo {P:Program}{w:World}{H:Hp} (h:Heap) (hb:sysModules<h.objs.size):ZQ P w H (h.push {cls:=.type "dict",data:=.dict #[]}) h.objs.size (.dT []) :=
 ⟨Yz _,beq_eq_false_iff_ne.mpr (Ne.symm (Yj hb)),[],.nil,_,#[],0,Ys _ rfl,⟨rfl,rfl,rfl⟩,rfl,rfl,List.nodup_nil⟩
noncomputable def tDNewT:TE:=λ_ H Q=>∀p,H p=none->Q (.ref p) (upd H p (.dT []))
section
variable {X:Cx}{pos:Pos}
theorem Zpp:PE X (.Dict [] [] pos) tDNewT:=λpins s σ H Q I h =>
 wpAny_Dict_empty ⟨.ref s.heap.objs.size,_,I.laid (a:=s.heap.objs.size) (o:=.dT []) (t':=s.toks) (λ_ _ q=>Yl _ q) (Ye _) (Zpo s.heap I.big),rfl,h _ (I.hok.fresh (Ye _))⟩
end
structure M2 (X:Cx) (o:Expr) (m:Str) (apos:Pos) (e f:Expr) (cpos:Pos):Prop where
 base:attributeBase o m X.env (eval o X.env)=eval o X.env
 few:((backTo cpos (starEach [e,f] X.env)).all (λx=>!x.1)&&(backToKw cpos (keywordEach [] X.env)).all (λx=>x.1.isSome)
  && decide (([e,f]:List Expr).length+([]:List Keyword).length+(if ([]:List Keyword).isEmpty then 0 else 1)<30))=true
 line:(apos.endLine==cpos.line)=true
 trees:backTo cpos (starEach [e,f] X.env)=[(false,eval e X.env),(false,eval f X.env)]
noncomputable def IsD (H:Hp) (a:Addr):Prop:=(∃kvs,Rd H a (.dK kvs))\/∃kvs,Rd H a (.dT kvs)
theorem Zpq {X:Cx}{pins:List (Addr×Obj)}{σ:St}{H:Hp}{s:Shared}{a:Addr} (I:Inv X pins σ H s) (d:IsD H a) :
  s.TypeIs (.ref a) "dict"/\(∀b,Value.ref a=.ref b->∃ob,s.heap.get? b=some ob/\ob.dict=none)/\(a==sysModules)=false:=by
 rcases d with⟨kvs,e⟩|⟨kvs,e⟩
 ·obtain⟨_,hd,vs,_,dd⟩:=Zpn I.hok e
  refine⟨dd.typeIs,λb q=>?_,hd⟩
  cases q
  obtain⟨ob,_,_,h1,h2,_⟩:=dd
  exact⟨ob,h1,h2.2.1⟩
 ·obtain⟨_,hd,xs,_,dd⟩:=ZmV I.hok e
  refine⟨dd.typeIs,λb q=>?_,hd⟩
  cases q
  obtain⟨ob,_,_,h1,h2,_⟩:=dd
  exact⟨ob,h1,h2.2.1⟩
section
variable {κ:Type} [DecidableEq κ]
theorem Zpr {kvs:List (κ×V)}{k:κ} (h:Zcl kvs k=none):¬ k∈kvs.map (·.1):=by
 intro m
 obtain⟨p,hp,e⟩:=YJ.mp m
 have q:(kvs.any λkv=>decide (kv.1=k))=true:=List.any_eq_true.mpr ⟨p,hp,YS e⟩
 rw[Zf7,h]at q
 exact absurd q (by simp)
theorem ZmW:∀{l:List κ}{k:κ},l.Nodup->¬ k∈l->(l++[k]).Nodup
 |[],k,_,_=>by simp
 |a::r,k,h,hk=>by
  obtain⟨h1,h2⟩:=List.nodup_cons.mp h
  show(a::(r++[k])).Nodup
  refine List.nodup_cons.mpr ⟨λm=>?_,ZmW h2 λm=>hk (Yk.mpr (Or.inr m))⟩
  rcases Yq.mp m with q|q
  ·exact h1 q
  ·exact hk (Yk.mpr (Or.inl (YO.mp q).symm))
end
end L2
namespace L2
open PySem PySem.Spec PyProof.Rows PySem.W PySem.Calls
end L2
namespace L2
open PySem PySem.Spec PyProof.Rows PySem.W
theorem ZrF {M:Program}{w:World}{A:Around}{E:Value->Shared->Prop}{s:Shared}{t b:Addr}{vs ws:List Value}{Q:Value->Shared->Prop} (ht:IsTup s.heap t vs.toArray) (hb:IsTup s.heap b ws.toArray) (hv:vs=[]) (h:Q (.ref b) s):wpAny (model M w) A (binaryOp .Add (.ref t) (.ref b)) Q E s:=by
 obtain⟨⟨k1,d1,x1,l1⟩,e1,c1,n1,y1⟩:=id ht
 obtain⟨⟨k2,d2,x2,l2⟩,e2,c2,n2,y2⟩:=id hb
 simp only at c1 y1 c2 y2
 subst c1 y1 c2 y2
 exact concat_meets ⟨_,e1,rfl⟩ ⟨_,e2,rfl⟩ noFill_tuple_add seq_tuple_add PySem.F.slot_tuple_add PySem.F.entry_tuple_add (PySem.F.args_tuple_add_2 _ _) (tuple_addW0 t b vs.toArray ws.toArray n1 n2 d1 d2 l1 l2 (by simp[hv])) ⟨e1,e2,h⟩
section
variable {X:Cx}
noncomputable def rCatU:R2:=λx y H Q=>∃(a b:Addr) (xs ys:List V),x=.ref a/\y=.ref b/\H a=some (.tup xs)/\H b=some (.tup ys)/\xs.length+ys.length<=sizeLine/\∀(p:Addr) H',Zh H H'->H' p=some (.tup (xs++ys))->Q (.ref p) H'
theorem Zka:OpR X (binaryOp .Add) rCatU:=by
 intro pins s σ H x y v u Q I rx ry h
 obtain⟨a,b,xs,ys,rfl,rfl,ha,hb,hz,q⟩:=h
 cases rx
 cases ry
 obtain⟨its,r1,p1,_⟩:=I.tuple (SqT.of ha)
 obtain⟨its2,r2,p2,_⟩:=I.tuple (SqT.of hb)
 by_cases hx:xs=[]
 ·exact ZrF p1 p2 (r1.ZjP.mpr hx) ⟨.ref b,H,I,rfl,q b H (Zh.refl H) (by rw[hx];exact hb)⟩
 refine HT.Zrn p1 p2 (λz=>hx (r1.ZjP.mp z)) (λz=>⟨.ref a,H,I,rfl,q a H (Zh.refl H) (by rw[r2.ZjP.mp z,List.append_nil];exact ha)⟩) (λz=>?_) (by rw[<-r1.length,<-r2.length];exact hz)
 refine⟨.ref s.heap.objs.size,_,I.laid (t':=s.toks) (o:=.tup (xs++ys)) (λb ob q=>Yl _ q) (Ye _) ?_,rfl,q _ _ ((Zh.refl H).upd (I.hok.fresh (Ye _))) Zc⟩
 exact⟨by rw[YB];exact hz,_,r1.append r2,IsTup.new _ _⟩
end
noncomputable def sF (r:Addr) (f:Int) (t:Addr):List (Str×V):=putF "tree" (.ref t) (putF "first" (.int f) (putF "row" (.ref r) []))
section
variable {X:Cx}
theorem pe_bmK {K:Frag}{T:String}{id:String}{name:Str}{r:V->List V->Hp->VK->Prop}{o e:Expr}{es:List Expr}{to:TE}{t:TA}{apos cpos:Pos} (hK:X.K=K) (pa:PlainAttrs T) (slot:Slot T name id) (hty:typeOf (.builtin id)=pure (.type "method_descriptor")) (hm:MtM X id r) (ho:PE X o to) (ha:PA X (e::es) t)
  (hbase:attributeBase o name X.env (eval o X.env)=eval o X.env:=by rfl)
  (hfew:((backTo cpos (starEach (e::es) X.env)).all (λx=>!x.1)&&(backToKw cpos (keywordEach [] X.env)).all (λx=>x.1.isSome)
   && decide ((e::es).length+([]:List Keyword).length+(if ([]:List Keyword).isEmpty then 0 else 1)<30))=true:=by rfl)
  (hline:(apos.endLine==cpos.line)=true:=by rfl) (hs:starEach (e::es) X.env=(false,eval e X.env)::starEach es X.env:=by rfl) (hplain:(backTo cpos (starEach es X.env)).any (·.1)=false:=by rfl) :
  PE X (.Call (.Attribute o name apos) (e::es) [] cpos) (tBM K T r to t):=by
 subst hK
 exact Zch pa slot hty hm ho ha hbase hfew hline hs hplain
end
end L2
namespace L2
open PySem PySem.Spec PyProof.Rows PySem.W PySem.Calls
noncomputable def ZcE (h:Heap) (d:Addr) (vs:List Value) (ep:Nat):Prop:=∃(o:Obj) (es:Array DictEntry),h.get? d=some o/\o.cls=.type "dict"/\o.data=.dict es ep/\es.toList.map (·.val)=vs
theorem ZcE.moved {h h':Heap}{d:Addr}{vs:List Value}{ep:Nat} (x:ZcE h d vs ep) (k:∀o,h.get? d=some o->h'.get? d=some o):ZcE h' d vs ep :=
 let ⟨o,es,a,r⟩:=x;⟨o,es,k o a,r⟩
theorem ZcE.lt {h:Heap}{d:Addr}{vs:List Value}{ep:Nat} (x:ZcE h d vs ep):d<h.objs.size:=let ⟨_,_,a,_⟩:=x;Yh a
section
variable {prog:Program}{w:World}{A:Around}{E:Value->Shared->Prop}{s:Shared}{va dd ja:Addr}{vs:List Value}{ep i:Nat}
theorem ZnF {Q:Value->Shared->Prop} (hv:s.heap.IsValuesView va dd) (hm:ZcE s.heap dd vs ep)
  (kQ:Q (.ref s.heap.objs.size) {s with heap:=s.heap.push {cls:=.type "dict_valueiterator",data:=.fields #[.ref dd,.int 0 0,.int vs.length 0,.int ep 0]}}) :
  wpAny (model prog w) A (pyIter (.ref va)) Q E s:=by
 obtain⟨o1,g1,c1,f1⟩:=id hv
 obtain⟨o2,es,g2,c2,f2,e2⟩:=id hm
 refine wpAny_pyIter_slot hv.typeIs PySem.F.slot_dict_values_iter (wpAny_call_entry PySem.F.slot_dict_values_iter hv.typeIs PySem.F.entry_dict_values_iter ?_ (PySem.F.args_dict_values_iter_1 _))
 unfold Builtin.«dict_values.__iter__»;refine Ya (Yb (Ya ?_));unfold Builtin.Dict_items.dictOf
 refine Ya (wpAny_field g1 f1 (x:=.ref dd) rfl (Yb (Ya ?_)))
 unfold Builtin.Dict_items.newIterator;refine Ya (wpAny_dictEntries g2 f2 (Ya (wpAny_dictEpoch g2 f2 ?_)))
 have z1:es.size=vs.length:=by rw[<-e2];simp
 have z2:Builtin.Dict_items.ownsTuple "dict_valueiterator"=false:=by decide
 simp only[z2,Bool.false_eq_true,if_false]
 refine wpAny_newObj_type (Yb ⟨_,rfl,"dict_valueiterator",_,⟨_,Ys _ rfl,rfl⟩,PySem.F.slot_dict_valueiterator_next.lookup,?_⟩)
 simpa[rawInt,z1]using kQ
theorem ZnG {x:Value}{Q:Option Value->Shared->Prop} (hi:s.heap.IsValIter ja dd i vs.length ep) (hm:ZcE s.heap dd vs ep) (hx:vs[i]?=some x)
  (kQ:∀h',h'.IsValIter ja dd (i+1) vs.length ep->Heap.SameBut ja s.heap h'->Q (some x) {s with heap:=h'}):wpAny (model prog w) A (pyNext (.ref ja)) Q E s:=by
 obtain⟨o1,g1,c1,f1⟩:=id hi
 obtain⟨o2,es,g2,c2,f2,e2⟩:=id hm
 have z1:es.size=vs.length:=by rw[<-e2];simp
 have z2:Builtin.Dict_items.ownsTuple "dict_valueiterator"=false:=by decide
 have hl:i<es.size:=by
  rw[z1]
  exact(Yr.mp hx).1
 have hval:es[i].val=x:=by
  rw[<-e2,Yx,Array.getElem?_toList,Array.getElem?_eq_getElem hl]at hx
  exact Yo hx
 unfold pyNext
 refine Ya (wpAny_attempt (wpAny_callSpecial?_slot (name:=Str.ofString "__next__") hi.typeIs PySem.F.slot_dict_valueiterator_next (wpAny_call_entry PySem.F.slot_dict_valueiterator_next hi.typeIs PySem.F.entry_dict_valueiterator_next ?_ (PySem.F.args_dict_valueiterator_next_1 _))))
 refine Ya (Yb (Ya (Ya ?_)))
 first|refine Ya (wpAny_typeNameOfWhole_valiter hi.typeIs (Yb (Ya (wpAny_fieldsOf g1 f1 ?_))))|refine Ya (wpAny_typeNameOf_valiter hi.typeIs (Yb (Ya (wpAny_fieldsOf g1 f1 ?_))))
 simp only[z2,Bool.false_eq_true,if_false]
 show wpAny _ _ (if (Value.ref dd==Value.none)=true then _ else _) _ _ s
 rw[Yc (show ¬ ((Value.ref dd==Value.none)=true)from Yu)]
 refine Ya (Yb (Ya (wpAny_dictEntries g2 f2 ?_)))
 rw[Yc (by rw[z1];simp)]
 refine Ya (Yb (Ya (wpAny_dictEpoch g2 f2 ?_)))
 rw[Yc (by simp)]
 refine Yb ?_
 simp only[show ¬ ((i:Int)<0)from by omega,if_false,YL,Array.getElem?_eq_getElem hl]
 refine Ya ?_
 first|refine Ya (wpAny_typeNameOfWhole_valiter hi.typeIs (Yb (Ya (wpAny_isOneOf_valiter hi.typeIs ?_))))|refine Ya (wpAny_typeNameOf_valiter hi.typeIs (Yb (Ya (wpAny_isOneOf_valiter hi.typeIs ?_))))
 show wpAny _ _ (setField (.ref ja) 1 (rawInt ((i:Int)+1)) >>= _) _ _ s
 refine Ya (wpAny_setField g1 f1 (by simp) ?_)
 have g3:(s.heap.update ja (Obj.mapFields (·.setIfInBounds 1 (rawInt ((i:Int)+1))))).IsValIter ja dd (i+1) vs.length ep :=
  ⟨_,Heap.get?_update_self _ g1 (Obj.isFreed_of_fields (Obj.data_mapFields f1 _)),(Obj.cls_mapFields ..).trans c1,by rw[Obj.data_mapFields f1];simp[rawInt]⟩
 refine Ya (wpAny_holding (Ya (wpAny_isOneOf_valiter (s:={s with heap:=s.heap.update ja (Obj.mapFields (·.setIfInBounds 1 (rawInt ((i:Int)+1))))}) g3.typeIs ?_)))
 refine Ya (wpAny_isOneOf_valiter (s:={s with heap:=s.heap.update ja (Obj.mapFields (·.setIfInBounds 1 (rawInt ((i:Int)+1))))}) g3.typeIs ?_)
 show wpAny _ _ (pure es[i].val) _ _ _;exact Yb (Yb ⟨_,rfl,Yb (hval▸kQ _ g3 (Heap.SameBut.update ..))⟩)
theorem Zkb {Q:Option Value->Shared->Prop} (nh:A.handled=none) (hi:s.heap.IsValIter ja dd i vs.length ep) (hm:ZcE s.heap dd vs ep) (hx:vs[i]?=none)
  (kQ:∀h',Heap.ExtBut ja s.heap h'->Q none {s with heap:=h'}):wpAny (model prog w) A (pyNext (.ref ja)) Q E s:=by
 obtain⟨o1,g1,c1,f1⟩:=id hi
 obtain⟨o2,es,g2,c2,f2,e2⟩:=id hm
 have z1:es.size=vs.length:=by rw[<-e2];simp
 have z2:Builtin.Dict_items.ownsTuple "dict_valueiterator"=false:=by decide
 unfold pyNext
 refine Ya (wpAny_attempt (wpAny_callSpecial?_slot (name:=Str.ofString "__next__") hi.typeIs PySem.F.slot_dict_valueiterator_next (wpAny_call_entry PySem.F.slot_dict_valueiterator_next hi.typeIs PySem.F.entry_dict_valueiterator_next ?_ (PySem.F.args_dict_valueiterator_next_1 _))))
 refine Ya (Yb (Ya (Ya ?_)))
 first|refine Ya (wpAny_typeNameOfWhole_valiter hi.typeIs (Yb (Ya (wpAny_fieldsOf g1 f1 ?_))))|refine Ya (wpAny_typeNameOf_valiter hi.typeIs (Yb (Ya (wpAny_fieldsOf g1 f1 ?_))))
 simp only[z2,Bool.false_eq_true,if_false]
 show wpAny _ _ (if (Value.ref dd==Value.none)=true then _ else _) _ _ s
 rw[Yc (show ¬ ((Value.ref dd==Value.none)=true)from Yu)]
 refine Ya (Yb (Ya (wpAny_dictEntries g2 f2 ?_)))
 rw[Yc (by rw[z1];simp)]
 refine Ya (Yb (Ya (wpAny_dictEpoch g2 f2 ?_)))
 rw[Yc (by simp)]
 refine Yb ?_
 have ge:es.size<=i:=by rw[z1];simpa using hx
 simp only[show ¬ ((i:Int)<0)from by omega,if_false,YL,Array.getElem?_eq_none ge]
 refine Ya ?_
 first|refine Ya (wpAny_typeNameOfWhole_valiter hi.typeIs (Yb ?_))|refine Ya (wpAny_typeNameOf_valiter hi.typeIs (Yb ?_))
 show wpAny _ _ (setField (.ref ja) 0 .none >>= _) _ _ s
 refine Ya (wpAny_setField g1 f1 (by simp) ?_)
 show wpAny _ _ (newExc (.type "StopIteration") [] >>= _) _ _ _;refine Ya ?_
 simp only[newExc,newTuple]
 refine Ya (wpAny_newObj_type ?_ (by size_fits));refine Ya (m:=firstArgMember _ _) (wpAny_of_eq (a:=Value.none) (by first|rfl|(simp only[firstArgMember];rfl)) (wpAny_newObj_type ?_ (by size_fits)))
 simp only[raiseNew]
 refine Ya (wpAny_handled ?_);rw[show A.in1.handled=none from nh]
 refine(Ya (Yb (wpAny_throw ?_)))
 refine Ya (wpAny_isInstance (b:=true) (T:="StopIteration") ⟨_,Ys _ rfl,rfl⟩ isSubtype_stop (Yb (kQ _ ?_)))
 exact((Heap.SameBut.update ..).extBut.push _).push _
theorem Zl3 (nh:A.handled=none) (I dd:Addr) (hne:dd≠I) (vs:List Value) (ep:Nat) :
  Walks prog w A I [I,dd] [I] vs.length (λi x=>vs[i]?=some x) (λi h=>h.IsValIter I dd i vs.length ep/\ZcE h dd vs ep) where
 sub:=λb mb=>by simp at mb;simp[mb]
 frame:=λ_ _ _ st hk=>⟨let ⟨o,e,r⟩:=st.1;⟨o,hk I (by simp) o e,r⟩,st.2.moved λo e=>hk dd (by simp) o e⟩
 item:=λi s Q E hi st kQ=>by
  have hx:vs[i]?=some vs[i]:=Yf hi
  refine ZnG st.1 st.2 hx λh' g1 g2=>?_
  exact kQ _ h' s.toks hx ⟨g1,st.2.moved λo e=>g2.extBut dd o hne e⟩ λb o mb e=>g2.extBut b o (λh=>mb (by simp[h])) e
 done:=λs Q E st kQ=>Zkb nh st.1 st.2 (by simp) λh' he'=>kQ h' s.toks λb o mb e=>he' b o (λh=>mb (by simp[h])) e
 self:=λ_ _ _ _ st0 kQ=>wpAny_pyIter_valiter st0.1 kQ
theorem Zps:KdlSrc prog w "dict_values" va dd vs.length (λi x=>vs[i]?=some x) (λh=>h.IsValuesView va dd/\ZcE h dd vs ep) where
 type:=λ_ x0=>x0.1.typeIs
 there:=λ_ hm=>⟨let ⟨_,a,_⟩:=hm.1;Yh a,hm.2.lt⟩
 keep:=λ_ _ hm hk=>⟨let ⟨o,a,x⟩:=hm.1;⟨o,hk va (.inl rfl) o a,x⟩,hm.2.moved λo e=>hk dd (.inr rfl) o e⟩
 notList:=by decide
 notTuple:=by decide
 hint:=λ_ _ _ _ x0 hq=>kdl_hint_values x0.1.typeIs hq
 iter:=λ_ _ nh hm=>⟨_,_,(λ_ _ hq=>ZnF hm.1 hm.2 hq),Zl3 nh _ dd (Yj hm.2.lt) vs ep,⟨⟨_,Ys _ rfl,rfl,rfl⟩,hm.2.moved λo e=>Yl _ e⟩⟩
end
section
variable {prog:Program}{w:World}{K:Type} [DecidableEq K] {knd:HeapKind prog w K}{A:Around}{E:Value->Shared->Prop}{s:Shared}{dd ka:Addr}{k:K}{xs:List (K×Addr×Value)}{df:Value}
theorem Zkc {Q:Value->Shared->Prop} (hu:knd.room A) (hkey:knd.is s.heap k ka) (hm:s.heap.DictOfH knd dd xs) (hz:xs.length<=sizeLine)
  (h1:∀p,atKey xs k=some p->Q p.2 {s with toks:=s.toks+knd.draws k})
  (h2:atKey xs k=none->∀h',h'.DictOfH knd dd (storedH xs k ka df)->Heap.SameBut dd s.heap h'->Q df {s with heap:=h',toks:=s.toks+knd.draws k}) :
  wpAny (model prog w) A (dictSetDefault dd (.ref ka) df) Q E s:=by
 obtain⟨o,es,ep,g1,g2,g3,g4,g5,g6⟩:=hm
 unfold dictSetDefault;try with_reducible refine wpAny_holding ?_
 refine Ya (knd.pyHash hu hkey (Ya (wpAny_dictFind_heap (s:={s with toks:=s.toks+knd.draws k}) hu hkey g1 g3 g4 g5 g6 (λno=>?_) (λj p hj=>?_))))
 ·have nk:=atKey_none_of_get no
  have no':=not_mem_keys_of_get no
  refine Ya (wpAny_rule (Ya (wpAny_updateDictKeys (hz:=by have e:=size_of_entries g4;omega) (s:={s with toks:=s.toks+knd.draws k}) g1 g3 (Yb (h2 nk _ ⟨_,_,ep+1,Heap.get?_update_self _ g1 (Obj.isFreed_of_dict (Obj.data_mapDictKeys g3 _)),g2.mapDictKeys _,Obj.data_mapDictKeys g3 _,?_,?_,?_⟩ (Heap.SameBut.update ..))))))
  ·rw[storedH_new nk];simp[g4,entryOfKey]
  ·rw[storedH_new nk];intro x hx
   rcases Yq.mp hx with hx|hx0
   ·exact knd.keeps (g5 x hx) g1 g3 (Heap.SameBut.update ..)
   ·rw[YO.mp hx0];exact knd.keeps hkey g1 g3 (Heap.SameBut.update ..)
  ·rw[storedH_new nk,YC,List.nodup_append]
   refine⟨g6,by simp,λx hx y hy e=>?_⟩
   have ey:y=k:=by simpa using hy
   exact no' (ey▸e▸hx)
 ·refine Ya (wpAny_dictEntries (s:={s with toks:=s.toks+knd.draws k}) g1 g3 ?_)
  rw[entry_at g4 j,hj]
  exact Ya (wpAny_rule (Yb (h1 p (atKey_of_get g6 hj))))
theorem ZfJ (knd:HeapKind prog w K) (dd ka:Addr) (hd:(dd==sysModules)=false) (df:Value) :
  MeetsIn prog w (Builtin.«dict.setdefault» ⟨[.ref dd,.ref ka,df],[]⟩) (λA R s=>knd.room A.in1/\∃k xs,knd.is s.heap k ka/\s.heap.DictOfH knd dd xs/\xs.length<=sizeLine /\
   (∀p,atKey xs k=some p->R (.ok (.ret p.2)) {s with toks:=s.toks+knd.draws k}) /\
   (atKey xs k=none->∀h',h'.DictOfH knd dd (storedH xs k ka df)->Heap.SameBut dd s.heap h'->R (.ok (.ret df)) {s with heap:=h',toks:=s.toks+knd.draws k})) :=
 .of_wp λA R s ⟨hu,k,xs,hkey,hm,hz,h1,h2⟩=>by
  unfold Builtin.«dict.setdefault»;refine Ya ?_;unfold Builtin.Dict.keyAndDefault
  refine(Ya (wpAny_notOrdered_dict hm.typeIs ?_))
  show wpAny _ _ (pure (dd,Value.ref ka,some df)) _ _ s
  refine Yb ?_
  show wpAny _ _ (if (dd==sysModules)=true then _ else (dictSetDefault dd (.ref ka) df >>= _)) _ _ s
  rw[Yc (show ¬ (dd==sysModules)=true from hd▸Yu)]
  exact Ya (Zkc hu hkey hm hz (λp hp=>Yb ⟨p.2,rfl,h1 p hp⟩) λhn h' hm' hs'=>Yb ⟨df,rfl,h2 hn h' hm' hs'⟩)
end
section
variable {X:Cx}{o e f:Expr}{apos cpos:Pos}{td ty tx:TE}
noncomputable def tDSetD (td ty tx:TE):TE:=fun σ H Q=>td σ H λx H1=>∃a,x=.ref a/\IsD H1 a/\ty σ H1 λy H2=>tx σ H2 λz H3=>∃kvs k b,H3 a=some (.dT kvs)/\y=.ref b/\H3 b=some (.tup (k.map kV))/\kvs.length<sizeLine /\
 (∀v,Zcl kvs k=some v->Q v H3)/\(Zcl kvs k=none->Q z (upd H3 a (.dT (kvs++[(k,z)]))))
theorem Zpt (hu:X.A.units+1<cLine) (ho:PE X o td) (he:PE X e ty) (hf:PE X f tx) (m:M2 X o "setdefault" apos e f cpos):PE X (.Call (.Attribute o "setdefault" apos) [e,f] [] cpos) (tDSetD td ty tx):=by
 intro pins s σ H Q I h
 refine wpAny_Call_method m.base m.few m.line PySem.F.plainAttrs_dict PySem.F.slot_dict_setdefault PySem.F.type_dict_setdefault (thn (ho pins s σ H _ I h) λu s1 ⟨x,H1,I1,rx,a,ex,d,q1⟩=>?_)
 subst ex
 obtain rfl:u=Value.ref a:=rx
 obtain⟨t1,t2,_⟩:=Zpq I1 d
 refine⟨t1,t2,?_⟩
 rw[m.trees]
 refine Calls.callWith_builtin rfl (Calls.evalArgs_plain (Calls.spliced_cons (thn (he pins s1 σ H1 _ I1 q1) λiv s2 ⟨y,H2,I2,ry,q2⟩ =>
  Calls.spliced_cons (thn (hf pins s2 σ H2 _ I2 q2) λfv s3 ⟨z,H3,I3,rz,kvs,k,b,ea,ey,eb,hl,q3,q4⟩=>Calls.spliced_nil ?_))))
 subst ey
 cases(show iv=Value.ref b from ry)
 obtain⟨z1,hd,xs,rel,dd⟩:=dt_of I3.hok ea
 have hz:xs.length<=sizeLine:=by rw[<-Paired.length rel];exact z1
 have hv:=rel.val k
 refine call_meetsIn PySem.F.slot_dict_setdefault dd.typeIs PySem.F.entry_dict_setdefault (PySem.F.args_dict_setdefault_3 _ _ _) (ZfJ (tupleKind (ZaV X.prog X.w)) a b hd fv) ⟨tupleKind_room_in1 hu,k,xs,Zl1 I3.hok eb,dd,hz,λp hp=>?_,λhn h' dd' hs=>?_⟩
 ·rw[hp]at hv
  cases l:Zcl kvs k with
  |none=>rw[l]at hv;exact absurd hv (by intro z;cases z)
  |some v =>
   rw[l]at hv
   exact⟨v,H3,I3.tok _,hv,q3 v l⟩
 ·rw[hn]at hv
  cases l:Zcl kvs k with
  |some v=>rw[l]at hv;exact absurd hv (by intro z;cases z)
  |none =>
   obtain⟨q,es,ep,hq,h2,h3,h4,_,h5⟩:=dd'
   rw[<-Zpm z l]at q4
   have hl':(putK kvs k z).length<=sizeLine:=by have:=Zk8 kvs k z;omega
   refine⟨z,_,ZrC (ob:=.dT (putK kvs k z)) I3 (by rw[ea];exact True.intro) hs ⟨q,hq⟩ ⟨hl',hd,_,(rel.put k eb rz).keeps λc ys ec=>?_,q,es,ep,hq,h2,h3,h4,h5⟩,rz,q4 l⟩
   rw[Zg (ne_of ec ea (λz=>nomatch z))]
   exact ec
end
section
variable {X:Cx}{o:Expr}{apos cpos:Pos}{td:TE}
noncomputable def ZhT (v d:Addr):Heap->Prop:=λh=>h.IsValuesView v d
theorem Zl4 {prog:Program}{w:World} (dd:Addr) (hd:(dd==sysModules)=false) :
  MeetsIn prog w (Builtin.«dict.values» ⟨[.ref dd],[]⟩) (λ_ R s=>s.TypeIs (.ref dd) "dict" /\
   R (.ok (.ret (.ref s.heap.objs.size))) {s with heap:=s.heap.push {cls:=.type "dict_values",data:=.fields #[.ref dd]}}) :=
 .of_wp λA R s ⟨ht,h⟩=>by
  refine Ya ?_;unfold Builtin.Dict.noArgs
  refine Ya (wpAny_notOrdered_dict ht ?_)
  show wpAny _ _ (pure dd) _ _ s
  refine Yb ?_
  show wpAny _ _ (Builtin.Dict.showsAll dd >>= _) _ _ s
  unfold Builtin.Dict.showsAll;rw[Yc (show ¬ (dd==sysModules)=true from hd▸Yu)]
  exact Ya (Yb (Ya (wpAny_newObj_type (Yb ⟨_,rfl,h⟩))))
noncomputable def tDVals (td:TE):TE:=fun σ H Q=>td σ H λx H1=>∃a kvs,x=.ref a/\H1 a=some (.dT kvs)/\∀v,H1 v=none->Q (.ref v) (upd H1 v (.ext (ZhT v a)))
theorem Zpu (ho:PE X o td) (hbase:attributeBase o "values" X.env (eval o X.env)=eval o X.env:=by rfl) (hline:(apos.endLine==cpos.line)=true:=by rfl):PE X (.Call (.Attribute o "values" apos) [] [] cpos) (tDVals td):=by
 intro pins s σ H Q I h
 refine wpAny_Call_method0_late hbase hline (thn (ho pins s σ H _ I h) λu s1 ⟨x,H1,I1,rx,a,kvs,ex,ea,q⟩=>?_)
 subst ex
 obtain rfl:u=Value.ref a:=rx
 obtain⟨t1,t2,hd⟩:=Zpq I1 (.inr ⟨kvs,.inl ea⟩)
 refine⟨"dict",_,PySem.F.plainAttrs_dict,PySem.F.slot_dict_values,PySem.F.type_dict_values,t1,t2,Calls.callWith_builtin rfl (PySem.evalArgs_none ?_)⟩
 refine call_meetsIn PySem.F.slot_dict_values t1 PySem.F.entry_dict_values (PySem.F.args_dict_values_1 _) (Zl4 a hd) ⟨t1,?_⟩
 refine⟨.ref s1.heap.objs.size,_,I1.laid (t':=s1.toks) (a:=s1.heap.objs.size) (o:=.ext (ZhT s1.heap.objs.size a)) (λb o e=>Yl _ e) (Ye _) ⟨⟨_,Ys _ rfl,rfl,rfl⟩,⟨_,Ys _ rfl⟩,λh1 h2 e k=>?_⟩,rfl,q _ (I1.hok.fresh (Ye _))⟩
 obtain⟨o,a1,a2⟩:=e
 exact⟨o,k o a1,a2⟩
theorem ZrG {H:Hp}{kvs:List (List Key×V)}{xs:List (List Key×Addr×Value)} (r:KT H kvs xs):Vals (kvs.map (·.2)) (xs.map (·.2.2)):=by
 induction r with
 |nil=>exact .nil
 |cons h t ih=>exact .cons h.2.2 ih
noncomputable def rLVals:List V->Hp->VK->Prop:=λxs H Q=>∃(v a:Addr) (kvs:List (List Key×V)),xs=[.ref v]/\H v=some (.ext (ZhT v a))/\H a=some (.dT kvs)/\∀l,H l=none->Q (.ref l) (upd H l (.lst (kvs.map (·.2))))
theorem ZhU (hc:X.calm=true):Zcg X (.type "list") rLVals:=by
 intro pins s σ H xs us Q I r h
 obtain⟨v,a,kvs,rfl,hv,ha,q⟩:=h
 obtain⟨u,rfl,ru⟩:=r.one
 cases(show u=Value.ref v from ru)
 obtain⟨hz,lo,ys,rel,o,es,ep,g1,g2,g3,g4,g5,g6⟩:=dt_of I.hok ha
 have hV:s.heap.IsValuesView v a:=(show ZQ X.prog X.w H s.heap v (.ext (ZhT v a))from I.hok v _ hv).1
 have hA:ZcE s.heap a (ys.map (·.2.2)) ep:=⟨o,es,g1,g2.1,g3,by rw[g4,YZ];rfl⟩
 have hl:(ys.map (·.2.2)).length<=sizeLine:=by rw[Yg,<-Paired.length rel];exact hz
 refine kdl_call (A:=X.A) Zps (I.ok.hd hc) ⟨hV,hA⟩ hl λh' tk acc c kp hS hacc=>?_
 have eacc:acc.toList=ys.map (·.2.2):=by
  refine List.ext_getElem? λi=>?_
  rw[Array.getElem?_toList]
  rcases Nat.lt_or_ge i acc.size with hi|hi
  ·have:=hacc.2 i acc[i] (Array.getElem?_eq_getElem hi)
   rw[this,Array.getElem?_eq_getElem hi]
  ·rw[Array.getElem?_eq_none hi,List.getElem?_eq_none (by rw[<-hacc.1];exact hi)]
 have hsz:s.heap.objs.size<h'.objs.size:=Yh hS
 refine⟨.ref s.heap.objs.size,_,I.laid (t':=tk) (a:=s.heap.objs.size) (o:=.lst (kvs.map (·.2))) kp (Ye _) ⟨by rw[Yg];exact hz,acc.toList,c,by rw[eacc];exact ZrG rel,by rw[hS,Array.toArray_toList]⟩,rfl,q _ (I.hok.fresh (Ye _))⟩
end
theorem ZmX {κ:Type} [DecidableEq κ] {k:κ}{v:V}:∀{kvs:List (κ×V)},Zcl kvs k=some v->∃(i:Nat) (h:i<kvs.length),kvs[i]=(k,v)
 |[],h=>by simp[Zcl]at h
 |p::r,h=>by
  by_cases e:p.1=k
  ·rw[ZbY e]at h
   exact⟨0,by simp,by cases p;cases e;cases h;rfl⟩
  ·rw[ZbZ e]at h
   obtain⟨i,h1,h2⟩:=ZmX h
   exact⟨i+1,by simpa using h1,by simpa using h2⟩
noncomputable def Zk (E:Nat->Nat->Bool) (j:Nat):List Nat:=(List.range j).filter λa=>(List.range a).all λb=>!E b a
noncomputable def Zdj (E:Nat->Nat->Bool) (j f:Nat):List Nat:=(List.range j).filter λb=>E b f
theorem Zjx (E:Nat->Nat->Bool) (j f:Nat):Zdj E (j+1) f=Zdj E j f++(if E j f=true then [j]else []):=by
 unfold Zdj
 rw[YE,List.filter_append]
 by_cases e:E j f=true
 ·simp[e]
 ·simp[e]
theorem Zla {E:Nat->Nat->Bool}{j b:Nat} (hb:b<j) (e:E b j=true):Zk E (j+1)=Zk E j:=by
 unfold Zk
 rw[YE,List.filter_append]
 have:((List.range j).all λb=>!E b j)=false:=by
  rw[Bool.eq_false_iff];intro h
  have:=List.all_eq_true.mp h b (YF.mpr hb)
  rw[e]at this;cases this
 simp[this]
theorem Zlb {E:Nat->Nat->Bool}{j:Nat} (h:∀b,b<j->E b j=false):Zk E (j+1)=Zk E j++[j]:=by
 unfold Zk
 rw[YE,List.filter_append]
 have:((List.range j).all λb=>!E b j)=true:=List.all_eq_true.mpr λb hb=>by rw[h b (YF.mp hb)];rfl
 simp[this]
theorem Zba {E:Nat->Nat->Bool}{j f:Nat}:f∈Zk E j↔f<j/\∀b,b<f->E b f=false:=by
 unfold Zk
 rw[YU,YF,List.all_eq_true]
 constructor
 ·rintro⟨a,b⟩
  exact⟨a,λc hc=>by have:=b c (YF.mpr hc);simpa using this⟩
 ·rintro⟨a,b⟩
  exact⟨a,λc hc=>by rw[b c (YF.mp hc)];rfl⟩
theorem ZhV {E:Nat->Nat->Bool} (tr:∀a b c,E a b=true->E b c=true->E a c=true) (rf:∀a,E a a=true) (j:Nat):∀a,a<j->∃f,f∈Zk E j/\E f a=true/\f<=a:=by
 intro a
 induction a using Nat.strongRecOn with
 |ind a ih =>
  intro ha
  by_cases h:∀b,b<a->E b a=false
  ·exact⟨a,Zba.mpr ⟨ha,h⟩,rf a,Ye _⟩
  ·obtain⟨b,hb⟩:=Classical.not_forall.mp h
   obtain⟨hb1,hb2⟩:=Classical.not_imp.mp hb
   have hb3:E b a=true:=by cases e:E b a with|true=>rfl|false=>exact absurd e hb2
   obtain⟨f,f1,f2,f3⟩:=ih b hb1 (by omega)
   exact⟨f,f1,tr _ _ _ f2 hb3,by omega⟩
theorem ZiQ (E:Nat->Nat->Bool) (j:Nat):(Zk E j).Nodup:=List.Pairwise.filter _ List.nodup_range
end L2
namespace L2
open PySem PySem.Spec PyProof.Rows PySem.W
noncomputable def ZnH (K:Frag) (f:Addr):Option Addr:=match K.lookup f with
 |some ⟨_,_,.func fd,_⟩=>(match fd.code with|.ref c=>some c|_=>none)
 |_=>none
noncomputable def tabOf (K:Frag) (c:Addr):Addr:=match K.lookup c with
 |some ⟨_,_,.fields vs,_⟩=>(match (vs[11]?:Option Value)with|some (.ref P)=>P|_=>0)
 |_=>0
noncomputable def Zlc (K:Frag) (mg:Str->Option Value) (x:Str):Addr:=match mg x with
 |some (.ref f)=>(match ZnH K f with|some c=>tabOf K c|none=>0)
 |_=>0
noncomputable def ZhW (q:Str):HO:=.tbl #[.str q 0]
noncomputable def BM (mg:Str->Option Value) (base:Heap):Prop :=
 ∃bm o,mg "__builtins__"=some (.ref bm)/\bm≠builtinsNs/\bm≠mainGlobals/\base.get? bm=some o/\o.cls=.type "module"/\o.dict=some builtinsNs/\o.data=.plain
noncomputable def LamO (env:Env) (P:Addr) (q:Str) (params:Arguments) (body:Expr) (scope:Scope) (H:Hp) (f:Addr):Prop :=
 ∃c oc vs t cl pm ctv,H f=some (.frz (kla_obj "<lambda>" q params body scope cl pm c ctv) (.own f))/\H c=some (.frz oc (.own P))/\oc.data=.fields vs/\vs[1]?=some (.str q t) /\
  (∀x c,cl.lookup x=some c->env.cells.lookup x=some c)/\(∀y∈scope.names,y.2=.free->∃c,cl.lookup y.1=some c/\env.cells.lookup y.1=some c)
structure LamIn (X:Cx) (P:Addr) (q:Str):Prop where
 code:∃c,X.env.code=.ref c/\codeHdIn X.K c P=true
 bm:BM X.mg X.base
 ql:X.env.qual++"<lambda>"=q
theorem Zl5 {pos:Pos}{a b:Int}{c cv:Value}:∀(l:List Value),TriplesOk l->codeAmong pos (l++[rawInt a,rawInt b,c])=some cv->codeAmong pos l=some cv\/cv=c:=by
 intro l h e
 fun_induction TriplesOk l with
 |case1 =>
  simp only[List.nil_append,codeAmong,rawInt]at e
  split at e
  ·cases e;exact .inr rfl
  ·cases e
 |case2 a' t b' u x rest ih =>
  simp only[List.cons_append,codeAmong]at e⊢
  split at e
  ·rename_i hc;rw[Yd hc];exact .inl e
  ·rename_i hc;rw[Yc hc];exact ih h e
 |case3 l h1 h2=>exact h.elim
section
variable {X:Cx}
theorem Inv.lam {pins:List (Addr×Obj)}{σ:St}{H:Hp}{s:Shared}{h':Heap}{t':Nat}{P c f:Addr}{q:Str}{oc fo:Obj}{ts:Array Value}{vs:Array Value}{tq:Tok}
  (I:Inv X pins σ H s) (hP:H P=some (ZhW q)) (k:∀b o,b≠P->s.heap.get? b=some o->h'.get? b=some o) (hts:h'.get? P=some (tabObj ts)) (h3:TriplesOk ts.toList)
  (hc:H c=some (.frz oc (.own P))\/s.heap.objs.size<=c) (hcP:c≠P) (hoc:h'.get? c=some oc) (hd:oc.data=.fields vs) (hv:vs[1]?=some (.str q tq)) (hf:s.heap.objs.size<=f) (hfc:f≠c) (hfo:h'.get? f=some fo)
  (hcodes:∀pos cv,codeAmong pos ts.toList=some cv->cv=.ref c\/∃c2 oc vs t t',cv=.ref c2/\H c2=some (.frz oc (.own P))/\oc.data=.fields vs/\vs[1]?=some (.str q t)/\t'=(0:Tok)) :
  Inv X pins σ (upd (upd H c (.frz oc (.own P))) f (.frz fo (.own f))) {s with heap:=h',toks:=t'}:=by
 have hPlt:P<s.heap.objs.size:=I.hok.lt hP
 have hfP:f≠P:=λz=>by rw[z]at hf;exact absurd (Yp hPlt hf) (Yw _)
 have hfn:H f=none:=I.hok.fresh hf
 have up:∀b o,H b=some o->upd (upd H c (.frz oc (.own P))) f (.frz fo (.own f)) b=some o:=λb o e=>by
  have nf:b≠f:=Zo e hfn
  rw[Zg nf]
  rcases hc with hc|hc
  ·by_cases z:b=c
   ·subst z;rw[Zc,<-e,hc]
   ·rw[Zg z];exact e
  ·rw[Zg (Zo e (I.hok.fresh hc))];exact e
 have un:Un X.fs [] H (upd (upd H c (.frz oc (.own P))) f (.frz fo (.own f))) s.heap h':=by
  have nP:∀b,H b=none->b≠P:=λb n z=>by rw[z,hP]at n;cases n
  refine⟨λb o e n _ _=>k b o (nP b n) e,λb o e n _ _=>⟨o.slots,k b o (nP b n) e⟩,λb o e n _=>?_,λb o e _=>?_,λb xs e=>up _ _ e,λb o u e=>up _ _ e,λb ps e=>⟨#[],by rw[up _ _ e];simp⟩⟩
  ·have lt:=Yh e
   have nf:b≠f:=λz=>by rw[z]at lt;exact absurd (Yp lt hf) (Yw _)
   have nc:b≠c:=λz=>by
    rcases hc with hc|hc
    ·rw[z,hc]at n;cases n
    ·rw[z]at lt;exact absurd (Yp lt hc) (Yw _)
   rw[Zg nf,Zg nc];exact n
  ·by_cases z:b=P
   ·subst z;exact⟨_,hts⟩
   ·exact⟨o,k b o z e⟩
 refine I.un un λb o e=>?_
 by_cases zf:b=f
 ·subst zf
  rw[Zc]at e;cases e
  exact⟨hfo,_,hfo⟩
 rw[Zg zf]at e
 by_cases zc:b=c
 ·subst zc
  rw[Zc]at e;cases e
  exact⟨hoc,_,hoc⟩
 rw[Zg zc]at e
 by_cases zP:b=P
 ·subst zP
  rw[hP]at e;cases e
  refine⟨ts,hts,h3,λpos cv hcv=>?_⟩
  rcases hcodes pos cv hcv with rfl|⟨c2,oc2,vs2,t2,t2',e1,e2,e3,e4,_⟩
  ·exact⟨c,oc,vs,q,0,tq,rfl,by rw[Zg (Ne.symm hfc),Zc],hd,rfl,hv⟩
  ·exact⟨c2,oc2,vs2,q,0,t2,e1,up _ _ e2,e3,rfl,e4⟩
 ·refine(I.hok b o e).Zgr (λb2 u hb z=>k b2 u ?_ z) (λb2 z=>up _ _ z) (λb2 xs z=>up _ _ z) λb2 o2 u2 z=>up _ _ z
  rcases hb with rfl|hb
  ·exact zP
  ·intro z;rw[z,hP]at hb;cases hb
noncomputable def tLam (env:Env) (P:Addr) (q:Str) (params:Arguments) (body:Expr) (scope:Scope):TE:=λ_ H Q=>H P=some (ZhW q)/\∀f H',H f=none->Zh H H'->LamO env P q params body scope H' f->Q (.ref f) H'
theorem pe_lam {P:Addr}{q:Str}{params:Arguments}{body:Expr}{scope:Scope}{pos:Pos} (L:LamIn X P q) (hok:compOk X.env.scope scope=true) (hdef:defaultsOf params X.env=([],[]):=by rfl) :
  PE X (.Lambda params body scope pos) (tLam X.env P q params body scope):=by
 intro pins s σ H Q I h
 obtain⟨hP,h⟩:=h
 obtain⟨c0,hc0,hcd⟩:=L.code
 have C:CodeHd s.heap c0 P:=codeHd_of_K I.kIn hcd
 obtain⟨bm,ob,b1,b2,b3,b4,b5,b6,b7⟩:=L.bm
 have hbm:=I.bs bm ob b4
 have bP:bm≠P:=λz=>by rw[z,hP]at hbm;cases hbm.2
 have gP:mainGlobals≠P:=λz=>by
  obtain⟨o,es,ep,e,_⟩:=I.ok.mod.glob
  have:=(I.bs _ _ e).2
  rw[z,hP]at this;cases this
 have hg:s.heap.Ns mainGlobals X.mg:=I.ok.mod.glob.keeps I.bk
 have hb:s.heap.BuiltinsAt X.mg P:=⟨bm,ob,b1,b2,b3,bP,hbm.1,b5,b6,b7⟩
 obtain⟨ts,hts,h3,hco⟩:=I.hok P _ hP
 obtain⟨cl,hcl,up,hfr⟩:=ZhJ (env:=X.env) (scope:=scope) λy hy hf=>I.ok.has y.1 ((ZcZ hok y hy hf).elim (λz=>.inl z) λz=>.inr z)
 have hco':∀pos cv,codeAmong pos ts.toList=some cv->∃c2 oc vs t t',cv=.ref c2/\H c2=some (.frz oc (.own P))/\oc.data=.fields vs/\vs[1]?=some (.str q t)/\t'=(0:Tok):=λpos cv e=>by
  obtain⟨c,oc,vs,q',t,t',e1,e2,e3,e4,e5⟩:=hco pos cv e
  have e4':some (Value.str q (0:Tok))=some (Value.str q' t):=e4
  cases e4'
  exact⟨c,oc,vs,t',0,e1,e2,e3,e5,rfl⟩
 refine kla_eval hdef ?_
 rw[L.ql]
 cases hca:codeAmong pos ts.toList with
 |some cv =>
  obtain⟨c,oc,vs,tq,t',rfl,e2,e3,e4,_⟩:=hco' pos cv hca
  refine kla_makeFunctionHit (mg:=X.mg) hcl I.ok.glob hg hc0 C hts h3 hca hb λctv h' tk hk hsz=>?_
  have hoc:s.heap.get? c=some oc:=(I.hok c _ e2).1
  have hcP:c≠P:=λz=>by rw[z,hP]at e2;cases e2
  have lt:=Yh hoc
  have kk:∀b o,s.heap.get? b=some o->(h'.push {cls:=.type "function",data:=.func (kla_fn "<lambda>" q params body scope cl ((X.mg "__name__").getD .none) (.ref c) ctv)}).get? b=some o:=λb o e=>Yl _ (hk b o e)
  have J:=I.lam (t':=tk) (f:=h'.objs.size) hP (λb o _ e=>kk b o e) (kk _ _ hts) h3 (.inl e2) hcP (kk _ _ hoc) e3 e4 hsz (λz=>by rw[<-z]at lt;exact absurd (Yp lt hsz) (Yw _)) (Ys _ rfl) λp2 cv2 z=>.inr (hco' p2 cv2 z)
  have hfn:H h'.objs.size=none:=I.hok.fresh hsz
  have ne:c≠h'.objs.size:=Yj (Yp lt hsz)
  refine⟨.ref h'.objs.size,_,J,rfl,h _ _ hfn (λb o e=>?_) ⟨c,oc,vs,tq,cl,_,ctv,Zc,by rw[Zg ne,Zc],e3,e4,up,hfr⟩⟩
  rw[Zg (Zo e hfn)]
  by_cases z:b=c
  ·subst z;rw[Zc,<-e,e2]
  ·rw[Zg z];exact e
 |none =>
  refine kla_makeFunction (mg:=X.mg) hcl I.ok.glob hg hc0 C hts h3 hca gP hb λc ctv h' tk hx hge hlt hrec htb=>?_
  obtain⟨c2,oc,vs,tq,e2,hoc,e3,e4⟩:=hrec
  cases e2
  have hsz:s.heap.objs.size<=h'.objs.size:=Yi hge (YV hlt)
  have kk:∀b o,h'.get? b=some o->(h'.push (kla_obj "<lambda>" q params body scope cl ((X.mg "__name__").getD .none) c ctv)).get? b=some o:=λb o e=>Yl _ e
  have hPlt:P<s.heap.objs.size:=I.hok.lt hP
  have hcP:c≠P:=λz=>by rw[z]at hge;exact absurd (Yp hPlt hge) (Yw _)
  have tl:(ts++#[rawInt pos.line,rawInt pos.col,Value.ref c]).toList=ts.toList++[rawInt pos.line,rawInt pos.col,Value.ref c]:=by simp
  have J:=I.lam (t':=tk) (f:=h'.objs.size) (ts:=ts++#[rawInt pos.line,rawInt pos.col,.ref c]) hP (λb o nb e=>kk b o (hx b o nb e)) (kk _ _ htb) (by rw[tl];exact TriplesOk_snoc _ _ _ _ h3) (.inr hge) hcP (kk _ _ hoc) e3 e4 hsz (Nat.ne_of_gt hlt) (Ys _ rfl) λp2 cv2 z=>by
   rw[tl]at z
   rcases Zl5 ts.toList h3 z with y|y
   ·exact .inr (hco' p2 cv2 y)
   ·exact .inl y
  have hfn:H h'.objs.size=none:=I.hok.fresh hsz
  have hcn:H c=none:=I.hok.fresh hge
  refine⟨.ref h'.objs.size,_,J,rfl,h _ _ hfn (λb o e=>?_) ⟨c,oc,vs,tq,cl,_,ctv,Zc,by rw[Zg (Yj hlt),Zc],e3,e4,up,hfr⟩⟩
  rw[Zg (Zo e hfn),Zg (Zo e hcn)];exact e
end
noncomputable def lamQ (x:Str):Str:=(x++".<locals>.")++"<lambda>"
noncomputable def ZnI (K:Frag) (mg:Str->Option Value) (x:Str) (H:Hp):Prop:=H (Zlc K mg x)=some (ZhW (lamQ x))
theorem ZnI.same {K:Frag}{mg:Str->Option Value}{x:Str}{H H':Hp} (h:ZnI K mg x H) (s:Zh H H'):ZnI K mg x H':=s _ _ h
noncomputable def LamD (K:Frag) (mg:Str->Option Value) (x:Str) (f:Addr):Prop:=∃c,ZnH K f=some c/\codeHdIn K c (Zlc K mg x)=true
section
variable {P:Program}{w:World}{K:Frag}{mg:Str->Option Value}{base:Heap}
theorem Fun.okL {x qual:Str}{st:Stmt}{f:Addr}{fd:FuncData}{N ps:List Str}{k:Nat}{sp:Sp} (F:Fun K x qual st f fd) (L:LamD K mg qual f) (B:BM mg base) (S:FnScope N ps (defScope st)) (len:∀vs H Q E,sp vs H Q E->vs.length=ps.length)
  (hbody:∀(cdv:Value) (A:Around) (outer:List Env) (s:Shared) (H:Hp) (vs:List V) (Q:VK) (E:XK),LamIn (ZfE (CXE P w) P w K mg base N qual (defScope st) f cdv A outer s H E) (Zlc K mg qual) (lamQ qual)->Room k (A.deeper (envOfC qual (defScope st) s.heap.objs.size f cdv))->sp vs H Q E ->
   ∃t,PSs (ZfE (CXE P w) P w K mg base N qual (defScope st) f cdv A outer s H E) (defBody st) t/\t {nx:=λ_ H'=>Q .non H',rt:=Q} (start N vs) H):FnOk P w K mg base (CXE P w) (k+1) f fd ps sp:=by
 obtain⟨oc,od,kV,doc,pm,an,cdv,ct,osl,rfl,lk,hcd⟩:=F.ex
 obtain⟨c,h1,h2⟩:=L
 have e:cdv=.ref c:=by
  unfold ZnH at h1
  rw[lk]at h1
  dsimp only at h1
  cases cdv<;>first|(cases h1;rfl)|(cases h1;done)
 exact ZoX lk hcd S len λA outer s H vs Q E hr hsp=>hbody cdv A outer s H vs Q E ⟨⟨c,e,h2⟩,B,rfl⟩ hr hsp
end
theorem Zpv {b:Addr}{q:Str}:∀{l:List (Addr×Str)},l.lookup b=some q->(b,q)∈l
 |[],e=>by cases e
 |(c,y)::r,e=>by
  rw[List.lookup_cons]at e
  cases hb:b==c with
  |true=>rw[hb]at e;cases e;rw[eq_of_beq hb];exact Y1
  |false=>rw[hb]at e;exact YW _ (Zpv e)
theorem ZrH {K:Frag}{mg:Str->Option Value}{x:Str}{f c T:Addr}{oc1 oc2:Value}{od1 od2:Option Addr}{fd:FuncData}{sl1 sl2:Array (Option Value)}{vs:Array Value} (hm:mg x=some (.ref f)) (l1:K.lookup f=some ⟨oc1,od1,.func fd,sl1⟩) (e:fd.code=.ref c) (l2:K.lookup c=some ⟨oc2,od2,.fields vs,sl2⟩) (h11:vs[11]?=some (.ref T)):Zlc K mg x=T/\ZnH K f=some c:=by
 have h1:ZnH K f=some c:=by
  unfold ZnH
  rw[l1]
  dsimp only
  rw[e]
 refine⟨?_,h1⟩
 unfold Zlc
 rw[hm]
 dsimp only
 rw[h1]
 dsimp only
 unfold tabOf
 rw[l2]
 dsimp only
 rw[h11]
theorem ZnJ {P:Program}{w:World}{K:Frag}{mg mb:Str->Option Value}{CX:CXT}{k:Nat}{fa a:Addr}{fd:FuncData}{x:Str}{sp:Sp}{s₁:Shared}{vs:List Value}{ns:List Int}{tabs:List (Addr×Str)}
  (KX:K.In s₁.heap) (hns:s₁.heap.Ns mainGlobals mg) (hb:s₁.heap.Ns builtinsNs mb) (hbb:∀x:Str,x≠"__name__"->mb x=bootBuiltins x) (hlim:s₁.heap.NoLimit) (hg:s₁.gens=#[]) (hbm:BM mg s₁.heap)
  (ha:s₁.heap.get? a=some {cls:=.type "list",data:=.seq vs.toArray}) (hi:IntsAre vs ns) (hl:ns.length<=sizeLine) (hr:Room k callerA)
  (hT:∀p∈tabs,s₁.heap.get? p.1=some (tabObj #[])/\K.lookup p.1=none/\∃c,codeHdIn K c p.1=true) (nd:(tabs.map (·.1)).Nodup)
  (F:∀base:Heap,K.In base->base.Ns mainGlobals mg->BM mg base->FnOk P w K mg base CX k fa fd [x] sp) (hbind:∀(s:Shared) (u:Value),BindsTo s fd ⟨[u],[]⟩ [(x,u)])
  (hsp:∀H:Hp,SqL K H a (ns.map V.int)->(∀p∈tabs,H p.1=some (ZhW p.2))->sp [.ref a] H (λv _=>v=.bl true) λ_ _ _=>False)
  (hCX:∀H e s',CX [] H s₁ (λ_ _ _=>False) e s'->False) :
  codeAny (model P w) callerA (.call (.ref fa) ⟨[.ref a],[]⟩) (λr s'=>r=.ok (.ret (.bool true))/\OldK s₁.heap s'.heap/\s'.os=s₁.os/\AllBare s'.gens) s₁:=by
 have rv:=Zjj hi
 have lenV:=hi.length
 have tmem:∀b q,tabs.lookup b=some q->(b,q)∈tabs:=λb q e=>Zpv e
 have tlook:∀p∈tabs,tabs.lookup p.1=some p.2:=by
  clear hT hsp tmem
  induction tabs with
  |nil=>intro p hp;cases hp
  |cons t r ih =>
   intro p hp
   rw[YG,List.nodup_cons]at nd
   rcases Yk.mp hp with rfl|hp
   ·rw[List.lookup_cons,beq_self_eq_true]
   ·have:(p.1==t.1)=false:=beq_eq_false_iff_ne.mpr λz=>nd.1 (YJ.mpr ⟨p,hp,z⟩)
    rw[List.lookup_cons,this]
    exact ih nd.2 p hp
 have core:∀H:Hp,SqL K H a (ns.map V.int)->HOk P w H s₁.heap->(∀b,H b=none\/(b=a/\K.lookup a=none/\∃o xs,H b=some (.frz o (.lst xs)))\/∃q,(b,q)∈tabs/\H b=some (ZhW q))->(∀p∈tabs,H p.1=some (ZhW p.2)) ->
   codeAny (model P w) callerA (.call (.ref fa) ⟨[.ref a],[]⟩) (λr s'=>r=.ok (.ret (.bool true))/\OldK s₁.heap s'.heap/\s'.os=s₁.os/\AllBare s'.gens) s₁:=by
  intro H hS hok hA hTb
  have base_of:∀{b:Addr}{o:Obj},s₁.heap.get? b=some o->H b=none->(ZiI s₁.heap H).get? b=some o:=λe n=>ZoO e n
  have noA:∀{b:Addr}{o:Obj},s₁.heap.get? b=some o->o.cls≠.type "list"->o.cls≠.none->H b=none:=λ{b o} e d1 d2=>by
   rcases hA b with z|⟨z,_⟩|⟨q,z,_⟩
   ·exact z
   ·subst z;rw[ha]at e;cases e;exact absurd rfl d1
   ·rw[(hT _ z).1]at e;cases e;exact absurd rfl d2
  have noD:∀{b:Addr}{o:Obj}{es:Array DictEntry}{ep:Nat},s₁.heap.get? b=some o->o.data=.dict es ep->H b=none:=λ{b o es ep} e d=>by
   rcases hA b with z|⟨z,_⟩|⟨q,z,_⟩
   ·exact z
   ·subst z;rw[ha]at e;cases e;cases d
   ·rw[(hT _ z).1]at e;cases e;cases d
  have nsK:∀{b:Addr}{m:Str->Option Value},s₁.heap.Ns b m->(ZiI s₁.heap H).Ns b m:=λ{b m} ⟨o,es,ep,e,d,r⟩=>⟨o,es,ep,base_of e (noD e d),d,r⟩
  have hKb:K.In (ZiI s₁.heap H):=λb o e=>base_of (KX b o e) (by
   rcases hA b with z|⟨z,zk,_⟩|⟨q,z,_⟩
   ·exact z
   ·subst z;rw[zk]at e;cases e
   ·rw[(hT _ z).2.1]at e;cases e)
  have hM:Mod K mg (ZiI s₁.heap H):=⟨hKb,nsK hns,⟨mb,nsK hb,hbb⟩,let ⟨mc,h1,h2⟩:=hlim;⟨mc,nsK h1,h2⟩⟩
  have hB:BM mg (ZiI s₁.heap H):=by
   obtain⟨bm,ob,b1,b2,b3,b4,b5,b6,b7⟩:=hbm
   exact⟨bm,ob,b1,b2,b3,base_of b4 (noA b4 (by rw[b5];decide) (by rw[b5];nofun)),b5,b6,b7⟩
  have e0:Env0 P w K mg (ZiI s₁.heap H) callerA [] s₁ H:=⟨rfl,hM,λb o e=>Zrj e,Nat.le_of_eq (Zm4 _ _),trivial,λb hb=>absurd (show b∈([]:List Addr)from hb) (by simp),hok,.of_eq hg⟩
  refine codeAny_mono ((F _ hKb (nsK hns) hB).run callerA [] s₁ H ⟨[.ref a],[]⟩ [.ref a] [.ref a] _ _ hr e0 (hbind s₁ (.ref a)) (.cons rfl .nil) (hsp H hS hTb)) λr s' h=>?_
  cases r with
  |error e=>exact(hCX H e s' h).elim
  |ok fl =>
   cases fl with
   |next=>exact False.elim h
   |brk=>exact False.elim h
   |cont=>exact False.elim h
   |ret u =>
    obtain⟨v,H',os,bare,un,hok',r',q⟩:=h
    have q':v=.bl true:=q
    subst q'
    obtain rfl:u=Value.bool true:=r'
    have old:∀b o,s₁.heap.get? b=some o->asItWas s₁.heap s'.heap b o/\∃o',s'.heap.get? b=some o':=λb o e=>by
     rcases hA b with z|⟨_,_,ob,xs,z⟩|⟨q,zm,z⟩
     ·have:=un.keep b o e z (by intro y;exact absurd (show b∈([]:List Addr)from y) (by simp)) (by simp)
      exact⟨.inl this,o,this⟩
     ·have z2:=un.frzs b ob _ z
      obtain⟨e1,_⟩:=hok b _ z
      obtain⟨e2,_⟩:=hok' b _ z2
      rw[e]at e1;cases e1
      exact⟨.inl e2,o,e2⟩
     ·obtain⟨more,z2⟩:=un.tbls b _ z
      obtain⟨ts,e2,_⟩:=hok' b _ z2
      obtain⟨t1,_,c,t3⟩:=hT _ zm
      have t1':s₁.heap.get? b=some (tabObj #[]):=t1
      rw[e]at t1';cases t1'
      refine⟨.inr (.inl ⟨((codeHd_of_K KX t3).tab t1).isCodeTable,rfl,#[],ts,rfl,by rw[Array.empty_append];exact e2⟩),_,e2⟩
    exact⟨rfl,⟨λb o e=>(old b o e).1,λb o e=>(old b o e).2⟩,os,bare⟩
 have neA:∀q,(a,q)∉tabs:=λq z=>by
  have:=(hT _ z).1
  rw[show((a,q):Addr×Str).1=a from rfl,ha]at this;cases this
 have tabok:∀(H:Hp) (b:Addr) (q:Str),(b,q)∈tabs->ZQ P w H s₁.heap b (ZhW q):=λH b q z=>⟨#[],(hT _ z).1,trivial,λpos cv e=>by cases e⟩
 cases hk:K.lookup a with
 |some o =>
  have e:=KX a o hk
  rw[ha]at e
  cases e
  refine core (λb=>(tabs.lookup b).map ZhW) (.inr ⟨_,vs.toArray,_,hk,rfl,rfl,rfl,by rw[Yn,lenV];exact hl,by simpa using rv⟩) (λb u z=>?_) (λb=>?_) λp hp=>by rw[tlook p hp];rfl
  ·dsimp only at z
   cases q:tabs.lookup b with
   |none=>rw[q]at z;cases z
   |some y=>rw[q]at z;cases z;exact tabok _ b y (tmem b y q)
  ·cases q:tabs.lookup b with
   |none=>exact .inl rfl
   |some y=>exact .inr (.inr ⟨y,tmem b y q,rfl⟩)
 |none =>
  refine core (λb=>if b=a then some (.frz {cls:=.type "list",data:=.seq vs.toArray} (.lst (ns.map V.int)))else (tabs.lookup b).map ZhW) (.inl (.inr ⟨{cls:=.type "list",data:=.seq vs.toArray},Yd rfl⟩)) (λb u z=>?_) (λb=>?_) λp hp=>?_
  ·by_cases hb:b=a
   ·have z':=(Yd hb).symm.trans z
    cases z'
    subst hb
    exact⟨ha,by rw[Yg];exact hl,vs,_,rv,ha⟩
   ·have z':=(Yc hb).symm.trans z
    cases q:tabs.lookup b with
    |none=>rw[q]at z';cases z'
    |some y=>rw[q]at z';cases z';exact tabok _ b y (tmem b y q)
  ·by_cases hb:b=a
   ·exact .inr (.inl ⟨hb,hk,_,_,Yd hb⟩)
   ·cases q:tabs.lookup b with
    |none=>exact .inl (by rw[Yc hb];rfl)
    |some y=>exact .inr (.inr ⟨y,tmem b y q,by rw[Yc hb];rfl⟩)
  ·have:p.1≠a:=λz=>neA p.2 (by rw[<-z];exact hp)
   rw[Yc this,tlook p hp];rfl
theorem Zpw {l:OpenLaw}{n k:Nat}{q:Program}{loose:List Str}{XP:(Str->Option Value)->Heap->Prop}{YP:World->Heap->Prop}{d:DefRec}{K:Params->Frag}{CX:World->CXT}{sp:World->(Str->Option Value)->Sp}{x:Str}{ts:List Addr}{tabs:Frag->(Str->Option Value)->List (Addr×Str)}
  (hn:l.most=some n) (hn2:n<=sizeLine) (hdf:d.params.defaults=[]) (hr:Room k callerA)
  (hY:∀(w:World) (h:Heap),YP w h->(K w.params).In h) (hY2:∀(w:World) (h:Heap),YP w h->∀P∈ts,h.get? P=some (tabObj #[]))
  (F:∀(w:World) (mg:Str->Option Value) (fa:Addr) (h:Heap),(K w.params).In h->h.Ns mainGlobals mg->mg d.name=some (.ref fa) ->
   ∃fd:FuncData,(∀(s:Shared) (u:Value),BindsTo s fd ⟨[u],[]⟩ [(x,u)])/\(∀p∈tabs (K w.params) mg,p.1∈ts/\(K w.params).lookup p.1=none/\∃c,codeHdIn (K w.params) c p.1=true)/\((tabs (K w.params) mg).map (·.1)).Nodup /\
    ∀base:Heap,(K w.params).In base->base.Ns mainGlobals mg->BM mg base->FnOk l.prog w (K w.params) mg base (CX w) k fa fd [x] (sp w mg))
  (hsp:∀(w:World) (mg:Str->Option Value) (H:Hp) (a:Addr) (ns:List Int),ns.length<=n->SqL (K w.params) H a (ns.map V.int)->(∀p∈tabs (K w.params) mg,H p.1=some (ZhW p.2))->sp w mg [.ref a] H (λv _=>v=.bl true) λ_ _ _=>False)
  (hCX:∀(w:World) (H:Hp) (s:Shared) (e:Value) (s':Shared),CX w [] H s (λ_ _ _=>False) e s'->False) :
  WalkO q loose XP YP l.row.toRowW d [] (λf vs=>PySem.call f vs):=by
 refine Att.ZkM hn hdf λw s₀ s₁ mg mb fa o pm cd doc a vs ns G Y ho hd hcd hmg hobj hints hlen hg=>?_
 have KX:=hY w _ Y
 have TX:=hY2 w _ Y
 obtain⟨fd,hb,hT,nd,hF⟩:=F w mg fa _ KX G.T.g hmg
 have hbm:BM mg s₁.heap:=by
  obtain⟨bm,ob,b1,b2,b3,b4,b5,b6⟩:=G.T.bmain
  have bG:bm≠mainGlobals:=λz=>by
   obtain⟨o,es,ep,e,hd,_⟩:=G.T.g
   rw[z,e]at b3;cases b3;rw[hd]at b6;cases b6
  exact⟨bm,ob,b1,b2,bG,b3,b4,b5,b6⟩
 exact ZnJ KX G.T.g G.T.b G.T.builtins G.T.nolimit hg hbm hobj hints (Yi hlen hn2) hr (λp hp=>⟨TX _ (hT p hp).1,(hT p hp).2⟩) nd hF hb (λH hS hTb=>hsp w mg H a ns hlen hS hTb) λH e s'=>hCX w H s₁ e s'
section
variable {ky:Keyed->Int}
noncomputable def Srt (ky:Keyed->Int) (l:List Keyed):Prop:=l.Pairwise (λx y=>ky x<=ky y)
variable {a b out:List Keyed}{ia ib:Nat}
noncomputable def Gd (ky:Keyed->Int) (a b res:List Keyed):Prop:=res.Perm (a++b)/\Srt ky res
variable {prog:Program}{w:World}{A:Around}{E:Value->Shared->Prop}{s:Shared}{κ:SortKind}{P:Keyed->Prop}
end
section
variable {ky:Keyed->Int}
noncomputable def kp (ky:Keyed->Int) (a:Array Keyed) (i:Nat):Int:=ky (a.getD i (Value.none,Value.none))
theorem kp_at {a:Array Keyed}{i:Nat} (h:i<a.size):kp ky a i=ky a[i]:=by unfold kp;simp[Array.getD,h]
noncomputable def SoR (ky:Keyed->Int) (a:Array Keyed) (l r:Nat):Prop:=∀i j,l<=i->i<=j->j<r->kp ky a i<=kp ky a j
structure Chg (a a':Array Keyed) (l r:Nat):Prop where
 perm:a'.Perm a
 same:∀i,i<l\/r<=i->a'[i]?=a[i]?
variable {prog:Program}{w:World}{A:Around}{E:Value->Shared->Prop}{s:Shared}{κ:SortKind}{P:Keyed->Prop}
end
section
variable {ky:Keyed->Int}
variable {a a':Array Keyed}
theorem ZmY (base:Nat):∀(m:List Keyed) (n:Nat) (a:Array Keyed),base+n+m.length<=a.size ->
  (List.foldl (λ(a:Array Keyed) (x:Keyed×Nat)=>a.setIfInBounds (base+x.2) x.1) a (m.zipIdx n)).toList=a.toList.take (base+n)++m++a.toList.drop (base+n+m.length)
 |[],n,a,h=>by simp
 |x::m,n,a,h=>by
  simp only[YN]at h
  rw[List.zipIdx_cons,List.foldl_cons,ZmY base m (n+1) _ (by simp;omega)]
  simp only[Array.toList_setIfInBounds,YN]
  have e1:(a.toList.set (base+n) x).take (base+(n+1))=a.toList.take (base+n)++[x]:=by
   rw[<-Nat.add_assoc,List.take_add_one,List.take_set,List.getElem?_set]
   rw[List.set_eq_of_length_le (by simp;omega)]
   simp[show base+n<a.size by omega]
  have e2:(a.toList.set (base+n) x).drop (base+(n+1)+m.length)=a.toList.drop (base+n+(m.length+1)):=by
   rw[List.drop_set_of_lt (by omega)]
   congr 1;omega
  rw[e1,e2]
  simp
variable {prog:Program}{w:World}{A:Around}{E:Value->Shared->Prop}{s:Shared}{κ:SortKind}{P:Keyed->Prop}
theorem laid {base mid r:Nat}{res:Array Keyed} (h1:base<=mid) (h2:mid<=r) (h3:r<=a.size) (hg:Gd ky (a.extract base mid).toList (a.extract mid r).toList res.toList) :
  ∃a':Array Keyed,List.foldl (λ(a:Array Keyed) (x:Keyed×Nat)=>a.setIfInBounds (base+x.2) x.1) a res.toList.zipIdx=a'/\Chg a a' base r/\SoR ky a' base r/\∀j,base<=j->j<r->∃t,base<=t/\t<r/\kp ky a' j=kp ky a t:=by
 have hlen:res.toList.length=r-base:=by
  have:=hg.1.length_eq
  simp only[YB,YK,Array.size_extract]at this⊢;omega
 have key:=ZmY base res.toList 0 a (by omega)
 have hb:base+0+res.toList.length=r:=by omega
 rw[hb,Nat.add_zero]at key
 refine⟨_,rfl,⟨?_,?_⟩,?_,?_⟩
 ·rw[Array.perm_iff_toList_perm,key]
  have e:a.toList=a.toList.take base++((a.extract base mid).toList++(a.extract mid r).toList)++a.toList.drop r:=by
   simp only[Array.toList_extract,List.extract_eq_drop_take]
   have:(a.toList.drop base).take (mid-base)++(a.toList.drop mid).take (r-mid)=(a.toList.drop base).take (r-base):=by
    have e2:r-base=(mid-base)+(r-mid):=by omega
    rw[e2,List.take_add,List.drop_drop]
    congr 3;omega
   rw[this]
   have e3:a.toList.drop r=(a.toList.drop base).drop (r-base):=by rw[List.drop_drop];congr 1;omega
   rw[e3,YM,Y9,Y9]
  conv=>rhs;rw[e]
  exact List.Perm.append_right _ (List.Perm.append_left _ hg.1)
 ·intro i hi
  rw[<-Array.getElem?_toList,<-Array.getElem?_toList,key]
  have hl0:(a.toList.take base).length=base:=by simp;omega
  rcases hi with hi|hi
  ·rw[YM,Y7 (by omega),List.getElem?_take_of_lt hi]
  ·rw[Y2 (by simp;simp at hlen;omega),List.getElem?_drop]
   congr 1
   simp only[YB,hl0,hlen];omega
 all_goals
  have atm:∀j,(hj0:base<=j)->(hj:j<r)->kp ky (List.foldl (λ(a:Array Keyed) (x:Keyed×Nat)=>a.setIfInBounds (base+x.2) x.1) a res.toList.zipIdx) j=ky (res.toList[j-base]'(by omega)):=by
   intro j j1 j2
   have hl0:(a.toList.take base).length=base:=by simp;omega
   have:(List.foldl (λ(a:Array Keyed) (x:Keyed×Nat)=>a.setIfInBounds (base+x.2) x.1) a res.toList.zipIdx)[j]?=some (res.toList[j-base]'(by omega)):=by
    rw[<-Array.getElem?_toList,key,YM,Y2 (by omega),Y7 (by omega),hl0,Yf (by omega)]
   unfold kp
   rw[Array.getD_eq_getD_getElem?,this];rfl
 ·intro i j hi hij hj
  rw[atm i hi (by omega),atm j (by omega) hj]
  by_cases e:i=j
  ·subst e;exact Int.le_refl _
  ·exact List.pairwise_iff_getElem.mp hg.2 _ _ _ _ (by omega)
 ·intro j j1 j2
  rw[atm j j1 j2]
  have hm:(res.toList[j-base]'(by omega))∈(a.extract base mid).toList++(a.extract mid r).toList:=(List.Perm.mem_iff hg.1).mp (YA _)
  rcases Yq.mp hm with hm|hm
  ·obtain⟨t,ht,e⟩:=List.mem_iff_getElem.mp hm
   simp only[YK,Array.size_extract]at ht
   simp only[Array.getElem_toList,Array.getElem_extract]at e
   exact⟨base+t,by omega,by omega,by rw[kp_at (by omega),e,Array.getElem_toList]⟩
  ·obtain⟨t,ht,e⟩:=List.mem_iff_getElem.mp hm
   simp only[YK,Array.size_extract]at ht
   simp only[Array.getElem_toList,Array.getElem_extract]at e
   exact⟨mid+t,by omega,by omega,by rw[kp_at (by omega),e,Array.getElem_toList]⟩
end
end L2
namespace L2
open PySem PySem.Spec PyProof.Rows
section
variable {prog:Program}{w:World}{A:Around}{R:Result->Shared->Prop}{s:Shared}{elt tg iter tg1 iter1:Expr}{ifs ifs1:List Expr}{scope:Scope}{pos:Pos}{it acc:Value}{env:Env}
theorem Zkd (hs1:∀env x,foldedSetIterable iter1 env x=pure x) (I:Nat->Shared->Prop)
  (turn:∀n s,I n s->wpAny (model prog w) A (pyNext it) (λr s₁=>match r with
   |none=>R (.ok .next) s₁
   |some v=>wpAny (model prog w) A (letOwnedTupleGo tg it v) (λ_ s₁=>wpAny (model prog w) A (assign tg env v) (λ_ s₂ =>
     wpAny (model prog w) A (forIn ifs true λc r=>if r=true then do let ok <-isTrue c env (eval c env);pure (ForInStep.yield ok)else pure (ForInStep.yield r)) (λok s₃ =>
      if ok=true then wpAny (model prog w) A (eval iter1 env) (λx s₄=>wpAny (model prog w) A (pyIter x) (λit2 s₅ =>
       wpAny (model prog w) A (runOwn (.compStart (.ListComp elt [⟨tg,iter,ifs,0⟩,⟨tg1,iter1,ifs1,0⟩] scope pos) 1 it2 acc env) env) (λ_ s₆=>∃m,m<n/\I m s₆) (λ_ _=>False) s₅) (λ_ _=>False) s₄) (λ_ _=>False) s₃
      else ∃m,m<n/\I m s₃) (λ_ _=>False) s₂) (λ_ _=>False) s₁) (λ_ _=>False) s₁) (λ_ _=>False) s)
  (n:Nat) (h:I n s) :
  codeAny (model prog w) A (.compLoop (.ListComp elt [⟨tg,iter,ifs,0⟩,⟨tg1,iter1,ifs1,0⟩] scope pos) 0 it acc env) R s:=by
 refine codeAny_loop rfl I (λn s hI=>?_) n h
 show wpAny _ A ((compTurn (.ListComp elt [⟨tg,iter,ifs,0⟩,⟨tg1,iter1,ifs1,0⟩] scope pos) 0 it acc env).onRaise (λx=>do noteFrame x env;theTreesLotGoes x)) _ _ s
 refine wpAny_noted ?_
 refine Ya (m:=standAt iter.pos) (wpAny_standAt (Ya (m:=pyNext it) (Yt (turn n s hI) (λr s₁ h₁=>?_) λ_ _ h'=>h'.elim)))
 cases r with
 |none=>exact Yb h₁
 |some v =>
  refine Ya (m:=letOwnedTupleGo tg it v) (Yt h₁ (λ_ s₁' h₁=>?_) λ_ _ h'=>h'.elim)
  refine Ya (m:=assign tg env v) (Yt h₁ (λ_ s₂ h₂=>Ya (Yt h₂ (λok s₃ h₃=>?_) λ_ _ h'=>h'.elim)) λ_ _ h'=>h'.elim)
  cases ok with
  |false=>exact Yb ⟨rfl,h₃⟩
  |true =>
   refine Ya (m:=eval iter1 env) (Yt h₃ (λx s₄ h₄=>?_) λ_ _ h'=>h'.elim)
   refine Ya (m:=standAt iter1.pos) (wpAny_standAt ?_)
   refine Ya (m:=foldedSetIterable iter1 env x) ?_
   rw[hs1]
   refine Yb ?_
   refine Ya (m:=holding [x] (pyIter x)) (wpAny_holding (Yt h₄ (λit2 s₅ h₅=>?_) λ_ _ h'=>h'.elim))
   exact Ya (m:=runOwn _ env) (Yt h₅ (λ_ s₆ h₆=>Yb ⟨rfl,h₆⟩) λ_ _ h'=>h'.elim)
theorem Zke (I:Nat->Shared->Prop)
  (turn:∀n s,I n s->wpAny (model prog w) A (pyNext it) (λr s₁=>match r with
   |none=>R (.ok .next) s₁
   |some v=>wpAny (model prog w) A (letOwnedTupleGo tg1 it v) (λ_ s₁=>wpAny (model prog w) A (assign tg1 env v) (λ_ s₂ =>
     wpAny (model prog w) A (forIn ifs1 true λc r=>if r=true then do let ok <-isTrue c env (eval c env);pure (ForInStep.yield ok)else pure (ForInStep.yield r)) (λok s₃ =>
      if ok=true then wpAny (model prog w) A (eval elt env) (λx s₄ =>
       wpAny (model prog w) A (call (.builtin "list.append") [acc,x]) (λ_ s₅=>∃m,m<n/\I m s₅) (λ_ _=>False) s₄) (λ_ _=>False) s₃
      else ∃m,m<n/\I m s₃) (λ_ _=>False) s₂) (λ_ _=>False) s₁) (λ_ _=>False) s₁) (λ_ _=>False) s)
  (n:Nat) (h:I n s) :
  codeAny (model prog w) A (.compLoop (.ListComp elt [⟨tg,iter,ifs,0⟩,⟨tg1,iter1,ifs1,0⟩] scope pos) 1 it acc env) R s:=by
 refine codeAny_loop rfl I (λn s hI=>?_) n h
 show wpAny _ A ((compTurn (.ListComp elt [⟨tg,iter,ifs,0⟩,⟨tg1,iter1,ifs1,0⟩] scope pos) 1 it acc env).onRaise (λx=>do noteFrame x env;theTreesLotGoes x)) _ _ s
 refine wpAny_noted ?_
 refine Ya (m:=standAt iter1.pos) (wpAny_standAt (Ya (m:=pyNext it) (Yt (turn n s hI) (λr s₁ h₁=>?_) λ_ _ h'=>h'.elim)))
 cases r with
 |none=>exact Yb h₁
 |some v =>
  refine Ya (m:=letOwnedTupleGo tg1 it v) (Yt h₁ (λ_ s₁' h₁=>?_) λ_ _ h'=>h'.elim)
  refine Ya (m:=assign tg1 env v) (Yt h₁ (λ_ s₂ h₂=>Ya (Yt h₂ (λok s₃ h₃=>?_) λ_ _ h'=>h'.elim)) λ_ _ h'=>h'.elim)
  cases ok with
  |false=>exact Yb ⟨rfl,h₃⟩
  |true =>
   exact Ya (m:=(do let x <-eval elt env;let _ <-call (.builtin "list.append") [acc,x];pure ())) (Ya (Yt h₃ (λx s₄ h₄=>Ya (Yt h₄ (λ_ s₅ h₅=>Yb (Yb ⟨rfl,h₅⟩)) λ_ _ h'=>h'.elim)) λ_ _ h'=>h'.elim))
theorem ZhX
  (h0:codeAny (model prog w) A (.compLoop (.ListComp elt [⟨tg,iter,ifs,0⟩,⟨tg1,iter1,ifs1,0⟩] scope pos) 1 it acc env) R s)
  (h:wpAny (model prog w) A (pyIter it) (λit' s'=>codeAny (model prog w) A (.compLoop (.ListComp elt [⟨tg,iter,ifs,0⟩,⟨tg1,iter1,ifs1,0⟩] scope pos) 1 it' acc env) R s') (λ_ _=>False) s) :
  codeAny (model prog w) A (.compStart (.ListComp elt [⟨tg,iter,ifs,0⟩,⟨tg1,iter1,ifs1,0⟩] scope pos) 1 it acc env) R s:=by
 refine codeAny_of_tree ?_
 show wpAny _ _ ((compStart (.ListComp elt [⟨tg,iter,ifs,0⟩,⟨tg1,iter1,ifs1,0⟩] scope pos) 1 it acc env).onRaise (λx=>do noteFrame x env;standAt theWindowsPlace)) _ _ s
 refine wpAny_onRaise (Yt (E:=λ_ _=>False) ?_ (λ_ _ q=>q) λ_ _ z=>z.elim)
 unfold compStart
 show wpAny _ _ (ask >>= _) _ _ s
 refine Ya (wpAny_askSetting (wpAny_ite ?_))
 split
 ·first
   |exact Ya (Yb (Yb (And.intro rfl h0)))
   |exact Yb (And.intro rfl h0)
 ·first
   |exact Ya (wpAny_rule (Ya (wpAny_standAt (Ya (Yt h (λit' s' h'=>Yb (And.intro rfl h')) λ_ _ x=>x)))))
   |(refine Ya (wpAny_rule ?_);show wpAny _ _ (standAt iter1.pos >>= _) _ _ s;exact Ya (wpAny_standAt (Ya (Yt h (λit' s' h'=>Yb (And.intro rfl h')) λ_ _ x=>x))))
end
noncomputable def Zkf (J2:It) (g1:TG) (tt1:TT) (te:TE) (σ2:St) (acc:List V) (F:List V->Hp->Prop) (H4:Hp):Prop:=∃W2:Nat->Nat->List V->Hp->Prop,(∃m2,W2 0 m2 acc H4)/\∀j m2 acc2 H5,W2 j m2 acc2 H5 ->
 (J2.stop j H5/\F acc2 H5) \/
 (J2.go j H5/\acc2.length<sizeLine/\∀x2 H6,J2.yld j H5 x2 H6->g1 x2 σ2 H6 fun σ3 H7=>tt1 σ3 H7 λb2 H8=>if b2=true then te σ3 H8 λv H9=>∃m',m'<m2/\W2 (j+1) m' (acc2++[v]) H9 else ∃m',m'<m2/\W2 (j+1) m' acc2 H8)
noncomputable def Zl6 (J:It) (g:TG) (tt:TT) (wi1:TI) (g1:TG) (tt1:TT) (te:TE) (σ0:St) (Q:VK) (H1:Hp):Prop:=∃W:Nat->Nat->List V->Hp->Prop,(∃m,W 0 m [] H1)/\∀i m acc H,W i m acc H ->
 (J.stop i H/\acc.length<=sizeLine/\∀p,H p=none->Q (.ref p) (upd H p (.lst acc))) \/
 (J.go i H/\acc.length<=sizeLine/\∀x H',J.yld i H x H'->g x σ0 H' fun σ2 H2=>tt σ2 H2 λb H3=>if b=true then wi1 σ2 H3 λJ2 H4=>Zkf J2 g1 tt1 te σ2 acc (λacc2 H5=>∃m',m'<m/\W (i+1) m' acc2 H5) H4 else ∃m',m'<m/\W (i+1) m' acc H3)
noncomputable def Zl7 (wi:TI) (g:TG) (tt:TT) (wi1:TI) (g1:TG) (tt1:TT) (te:TE) (js:List (Option Nat)):TE:=fun σ H Q=>wi σ H λJ H1=>Zl6 J g tt wi1 g1 tt1 te (iniC js σ) Q H1
theorem Zjy {wi wi1:TI}{g g1:TG}{tt tt1:TT}{te:TE}{js:List (Option Nat)}{σ:St}{H:Hp}{Q:VK}:Zl7 wi g tt wi1 g1 tt1 te js σ H Q=wi σ H λJ H1=>Zl6 J g tt wi1 g1 tt1 te (iniC js σ) Q H1:=rfl
section
variable {X:Cx}
theorem ZnK {pins:List (Addr×Obj)}{σ:St}{H:Hp}{s:Shared}{tg elt iter tg1 iter1:Expr}{ifs ifs1:List Expr}{scope:Scope}{pos:Pos}{wi wi1:TI}{g g1:TG}{tt tt1:TT}{te:TE}{Nc:List Str}{js:List (Option Nat)}{use:Option (Value->Sem Unit)}{Q:VK}{QQ:Value->Shared->Prop}
  (hc:X.calm=true) (hok:compOk X.env.scope scope=true) (htk:Zaz X.N Nc scope js 0=true) (hi:PI X tg iter wi)
  (hg:∀cl C s2 H2 fp,PG (Zav X Nc scope cl C s2 H2 fp) tg g) (ht:∀cl C s2 H2 fp,Zhf (Zav X Nc scope cl C s2 H2 fp) ifs tt) (hi1:∀cl C s2 H2 fp,PI (Zav X Nc scope cl C s2 H2 fp) tg1 iter1 wi1) (hg1:∀cl C s2 H2 fp,PG (Zav X Nc scope cl C s2 H2 fp) tg1 g1) (ht1:∀cl C s2 H2 fp,Zhf (Zav X Nc scope cl C s2 H2 fp) ifs1 tt1) (he:∀cl C s2 H2 fp,PE (Zav X Nc scope cl C s2 H2 fp) elt te)
  (hs:∀x,foldedSetIterable iter X.env x=pure x) (hs1:∀env x,foldedSetIterable iter1 env x=pure x) {L L1:List Nat} (ho:Zfr g L) (ho1:Zfr g1 L1) (hL:(L.all λk=>js[k]?==some none)=true) (hL1:(L1.all λk=>js[k]?==some none&&!L.contains k)=true) (I:Inv X pins σ H s) (h:Zl7 wi g tt wi1 g1 tt1 te js σ H Q)
  (fin:∀(D C:Addr) (H' H2:Hp) (s2 s':Shared) (xs:List V) (m:Str->Option Value),Inv X pins σ H2 s2->H' C=none->C=D+1->D=s2.heap.objs.size->s'.heap.Ns C m->(∀h',Heap.SameBut C s'.heap h'->Inv X pins σ (upd H' D (.lst xs)) {s' with heap:=h'})->Q (.ref D) (upd H' D (.lst xs)) ->
   compPost (model X.prog X.w) X.A X.xe use QQ (.ref D) C (.ok .next) s') :
  wpAny (model X.prog X.w) X.A (comprehension (.ListComp elt [⟨tg,iter,ifs,0⟩,⟨tg1,iter1,ifs1,0⟩] scope pos) scope X.env (firstIterPos [⟨tg,iter,ifs,0⟩,⟨tg1,iter1,ifs1,0⟩] pos) (newList []) false (eval iter X.env) use) QQ X.xe s:=by
 have hcells:∀y∈scope.names,y.2=.free->∃c,X.env.cells.lookup y.1=some c:=λy hy hf=>I.ok.has y.1 (ZcZ hok y hy hf)
 obtain⟨cl,hcl,up,hfr⟩:=ZhJ hcells
 have hk:=ZeC hok
 have hcell:=ZeD hok
 refine wpAny_comprehension_free (use:=use) rfl hs hcl hk (ZjT hok) (thn (hi pins s σ H _ I h) λv s1 h1=>thn h1 λitv s2 h2=>?_)
 obtain⟨it,fp,tn,J,H2,e,I2,T,st2,f2,W,⟨m0,w0⟩,turn⟩:=h2
 subst e
 refine wpAny_newObj_type (wpAny_newFunctionEnv hcell (by intro y hy;simp at hy) (λh₁ hns₁ hsb₁=>?_) hk)
 dsimp only at hns₁ hsb₁⊢
 generalize hH2:s2.heap.push {cls:=.type "list",dict:=none,data:=.seq ([]:List Value).toArray}=HH at hns₁ hsb₁⊢
 have hC:HH.objs.size=s2.heap.objs.size+1:=by rw[<-hH2,Heap.size_push]
 have hfl:∀b∈fp,b<s2.heap.objs.size:=λb hb=>by
  obtain⟨o,ho,_⟩:=T.obj 0 _ st2 b hb
  exact Yh ho
 have hDC:s2.heap.objs.size≠HH.objs.size:=by rw[hC];exact Yj (Nat.lt_succ_self _)
 have old:∀b o,s2.heap.get? b=some o->h₁.get? b=some o:=λb o e=>hsb₁.extBut b o (by rw[hC];exact Yj (YI (Yh e))) (Yl _ (hH2▸Yl _ e))
 have hacc:h₁.get? s2.heap.objs.size=some {cls:=.type "list",dict:=none,data:=.seq ([]:List Value).toArray}:=hsb₁.extBut _ _ hDC (Yl _ (hH2▸Ys _ rfl))
 have I4:=ZlN (Nc:=Nc) (js:=js) (tk:=s2.toks+([]:List (Str×Value)).length) I2 hok htk up hfr f2 hfl rfl hC old hns₁ hacc (by intro v z;cases z)
 have st4:tn 0 h₁:=T.keep _ _ _ st2 λb _ o e=>old b o e
 generalize hXc:Zav X Nc scope cl HH.objs.size s2 H2 fp=Xc at I4
 have hXA:Xc.A=X.A:=by rw[<-hXc];rfl
 have hXe:Xc.env=compEnvC scope cl HH.objs.size X.env:=by rw[<-hXc];rfl
 have hXp:Xc.prog=X.prog:=by rw[<-hXc];rfl
 have hXw:Xc.w=X.w:=by rw[<-hXc];rfl
 have hXx:Xc.xe=λ_ _=>False:=by rw[<-hXc];rfl
 have hXk:Xc.K=X.K:=by rw[<-hXc];rfl
 have hXcalm:Xc.calm=true:=by rw[<-hXc];exact hc
 have fpok:∀{pl:List (Addr×Obj)}{H':Hp},(∀p∈pl,s2.heap.objs.size<=p.1)->(∀b∈fp,H' b=none)->∀b∈fp,FpOk Xc pl H' b:=λ{pl H'} hpl hn b hb=>by
  have k1:b≠HH.objs.size:=Yj (by rw[hC];exact YI (hfl b hb))
  have k2:b∉frs X.stack:=λq=>by
   rcases Yk.mp (I2.ZdP b q)with z|z
   ·exact(f2 b hb).2.1 z
   ·exact(f2 b hb).2.2.1 z
  rw[<-hXc]
  refine⟨hn b hb,k1,k2,.inl hb,λx c e=>(f2 b hb).2.2.2.2.1 x c (up _ _ e),λp hp=>?_⟩
  have hp':p∈pl:=by simpa[Zav]using hp
  exact Nat.ne_of_gt (Yp (hfl b hb) (hpl p hp'))
 have gX:PG Xc tg g:=hXc▸hg cl HH.objs.size s2 H2 fp
 have tX:Zhf Xc ifs tt:=hXc▸ht cl HH.objs.size s2 H2 fp
 have iX:PI Xc tg1 iter1 wi1:=hXc▸hi1 cl HH.objs.size s2 H2 fp
 have gX1:PG Xc tg1 g1:=hXc▸hg1 cl HH.objs.size s2 H2 fp
 have tX1:Zhf Xc ifs1 tt1:=hXc▸ht1 cl HH.objs.size s2 H2 fp
 have eX:PE Xc elt te:=hXc▸he cl HH.objs.size s2 H2 fp
 have hs0:Xc.s₀=s2:=by rw[<-hXc];rfl
 have hh0:Xc.H₀=H2:=by rw[<-hXc];rfl
 have hfs:Xc.fs=frs X.stack:=by rw[<-hXc];rfl
 have hex:Xc.ex=fp:=by rw[<-hXc];rfl
 have loop:codeAny (model X.prog X.w) X.A (.compLoop (.ListComp elt [⟨tg,iter,ifs,0⟩,⟨tg1,iter1,ifs1,0⟩] scope pos) 0 (.ref it) (.ref s2.heap.objs.size) (compEnvC scope cl HH.objs.size X.env)) (compPost (model X.prog X.w) X.A X.xe use QQ (.ref s2.heap.objs.size) HH.objs.size)
   {s2 with heap:=h₁,toks:=s2.toks+([]:List (Str×Value)).length}:=by
  refine Zkd hs1 (λn s'=>∃i acc its nn H',Inv Xc [(s2.heap.objs.size,{cls:=.type "list",dict:=none,data:=.seq (its:List Value).toArray nn})] (iniC js σ) H' s'/\Vals acc its/\acc.length<=sizeLine/\tn i s'.heap/\(∀b∈fp,H' b=none)/\W i n acc H') ?_ m0
   ⟨0,[],[],0,H2,I4,.nil,Yz _,st4,λb hb=>(f2 b hb).1,w0⟩
  rintro n s3 ⟨i,acc,its,nn,H3,I3,va,hlen,st3,fr3,w3⟩
  have pg:∀p∈([(s2.heap.objs.size,{cls:=.type "list",dict:=none,data:=.seq its.toArray nn})]:List (Addr×Obj)),s2.heap.objs.size<=p.1:=λp hp=>by
   simp only[Yk,List.not_mem_nil,or_false]at hp
   subst hp;exact Ye _
  rcases turn i n acc H3 w3 with⟨stop,hl,qn⟩|⟨go,hl,step⟩
  ·have q:=T.done Xc hXp hXw hXk hXcalm i _ s3 (iniC js σ) H3 (λ_ _=>False) I3 (fpok pg fr3) st3 stop
   rw[hXA]at q
   refine thn q λr s4 ⟨hr,I5⟩=>?_
   subst hr
   have hpin:=I5.pin _ (Ym _ (.head _))
   obtain⟨m5,hn5,_⟩:=I5.loc
   rw[hXe]at hn5
   refine fin _ _ H3 H2 s2 s4 acc m5 I2 (by have:=I5.free;rw[hXe]at this;exact this) hC rfl hn5 (λh' hsb=>?_) (qn _ hpin.2.1)
   have same:∀b o,b≠HH.objs.size->s4.heap.get? b=some o->h'.get? b=some o:=λb o hb e=>hsb.extBut b o hb e
   have un:=I5.base
   rw[hfs,hex,hh0,hs0]at un
   have lt:∀b o,s2.heap.get? b=some o->b<s2.heap.objs.size:=λb o e=>Yh e
   have neC:∀b o,s2.heap.get? b=some o->b≠HH.objs.size:=λb o e=>Yj (by rw[hC];exact YI (lt b o e))
   have neD:∀b o,s2.heap.get? b=some o->b≠s2.heap.objs.size:=λb o e=>Yj (lt b o e)
   have trkC:∀b o,H3 b=some o->b≠HH.objs.size:=λb o e z=>by
    have:=I5.free;rw[hXe]at this;rw[z,show H3 HH.objs.size=none from this]at e;cases e
   refine I2.ZoP (s':={s4 with heap:=h'}) (ch:=fp) (I5.os.trans (by rw[hs0])) ⟨λb o e n hb hx=>same _ _ (neC b o e) (un.keep b o e n hb hx),λb o e n hb hx=>?_,λb o e n hx=>by rw[Zg (neD b o e)];exact un.free b o e n hx,λb o e hx=>?_,λb xs e=>?_,λb o u e=>?_,λb ps e=>?_⟩ (λa o e=>?_) I5.bare λb hb=>⟨(f2 b hb).2.2.2.1,(f2 b hb).2.1,(f2 b hb).2.2.2.2.1,(f2 b hb).2.2.2.2.2⟩
   ·obtain⟨sl,z⟩:=un.slot b o e n hb hx
    exact⟨sl,same _ _ (neC b o e) z⟩
   ·obtain⟨o',z⟩:=un.there b o e hx
    exact⟨o',same _ _ (neC b o e) z⟩
   ·rw[Zg (Yj (I2.hok.lt e))];exact un.tups b xs e
   ·rw[Zg (Yj (I2.hok.lt e))];exact un.frzs b o u e
   ·obtain⟨more,z⟩:=un.tbls b ps e
    exact⟨more,by rw[Zg (Yj (I2.hok.lt e))];exact z⟩
   ·by_cases ha:a=s2.heap.objs.size
    ·subst ha
     rw[Zc]at e;cases e
     exact⟨hl,its,nn,va,same _ _ hDC hpin.1⟩
    ·rw[Zg ha]at e
     have q:=I5.hok a o e
     rw[hXp,hXw]at q
     refine q.Zgr (λb u hb z=>same b u ?_ z) (λb z=>by rw[Zg];exact z;intro y;subst y;rw[hpin.2.1]at z;cases z) (λb xs z=>by rw[Zg];exact z;intro y;subst y;rw[hpin.2.1]at z;cases z) λb o u z=>by rw[Zg];exact z;intro y;subst y;rw[hpin.2.1]at z;cases z
     rcases hb with hb|hb
     ·subst hb;exact trkC _ _ e
     ·exact trkC _ _ hb
  ·have q:=T.item Xc hXp hXw hXk hXcalm i _ s3 (iniC js σ) H3 (λ_ _=>False) I3 (fpok pg fr3) st3 go
   rw[hXA]at q
   refine thn q λr s4 ⟨u,hr,h4⟩=>?_
   subst hr
   refine thn h4 λ_ s5 ⟨x,H5,I5,r5,y5,st5,fr5⟩=>?_
   have I5':=I5.pinned (fpok pg fr5) (T.obj _ _ st5)
   have again:∀{σ7:St}{H7:Hp}{s7:Shared}{acc7:List V}{its7:List Value}{n7:Nat}{m:Nat},Inv Xc ([(s2.heap.objs.size,{cls:=.type "list",dict:=none,data:=.seq its7.toArray n7})]++Zaf fp s5.heap) σ7 H7 s7->Vals acc7 its7->acc7.length<=sizeLine->W (i+1) m acc7 H7->σ7.length=(iniC js σ).length->(∀(k:Nat) v,(iniC js σ)[k]?=some (some v)->σ7[k]?=some (some v)) ->
     ∃i acc its nn H',Inv Xc [(s2.heap.objs.size,{cls:=.type "list",dict:=none,data:=.seq (its:List Value).toArray nn})] (iniC js σ) H' s7/\Vals acc its/\acc.length<=sizeLine/\tn i s7.heap/\(∀b∈fp,H' b=none)/\W i m acc H':=λ{σ7 H7 s7 acc7 its7 n7 m} I7 v7 l7 w7 hl7 hw7=>by
    refine⟨i+1,acc7,its7,n7,H7,(I7.weak hl7.symm hw7).Zcz,v7,l7,T.keep _ _ _ st5 λb hb o e=>(I7.pin (b,o) (Ym _ (Ym _ (Zay hb e)))).1,λb hb=>?_,w7⟩
    obtain⟨o,e,d⟩:=T.obj _ _ st5 b hb
    exact(I7.pin (b,o) (Ym _ (Ym _ (Zay hb e)))).2.1
   have keep:∀{σ6:St},Zb0 L (iniC js σ) σ6->σ6.length=(iniC js σ).length/\∀(k:Nat) v,(iniC js σ)[k]?=some (some v)->σ6[k]?=some (some v):=λ{σ6} hk=>⟨hk.1,λk v e=>by
    rw[hk.2 k]
    ·exact e
    ·intro z
     have q:=List.all_eq_true.mp hL k z
     simp only[beq_iff_eq]at q
     unfold iniC at e
     rw[Yx,q]at e
     cases e⟩
   have q6:=gX _ s5 (iniC js σ) H5 x u _ I5' r5 (ho _ _ _ _ _ (fun σ' H' kk z=>And.intro kk z) (step x H5 y5))
   rw[hXe,hXA,hXp,hXw,hXx]at q6
   refine thn q6 λ_ s6 ⟨σ6,H6,I6,k6,q6⟩=>?_
   obtain⟨kl,kv⟩:=keep k6
   have q7:=tX _ s6 σ6 H6 _ I6 q6
   rw[hXe,hXA,hXp,hXw,hXx]at q7
   refine thn q7 λb s7 ⟨H7,I7,q7⟩=>?_
   cases b with
   |false =>
    obtain⟨m',hm,w7⟩:=q7
    exact⟨m',hm,again I7 va hlen w7 kl kv⟩
   |true =>
    have q8:=iX _ s7 σ6 H7 _ I7 q7
    rw[hXe,hXA,hXp,hXw,hXx]at q8
    refine thn q8 λy s8 h8=>thn h8 λitv s9 h9=>?_
    obtain⟨it2,fp2,tn2,J2,H9,rfl,I9,T2,st9,f9,W2,⟨m2,w2⟩,turn2⟩:=h9
    rw[hXp,hXw]at T2
    have kv1:∀{σ':St},Zb0 L1 σ6 σ'->σ'.length=σ6.length/\∀(k:Nat) v,σ6[k]?=some (some v)->σ'[k]?=some (some v):=λ{σ'} hk=>⟨hk.1,λk v e=>by
     rw[hk.2 k]
     ·exact e
     ·intro z
      have q:=List.all_eq_true.mp hL1 k z
      simp only[Bool.and_eq_true,beq_iff_eq,Bool.not_eq_true']at q
      have hk6:=k6.2 k (λzz=>by rw[List.contains_iff_mem.mpr zz]at q;cases q.2)
      rw[hk6]at e
      unfold iniC at e
      rw[Yx,q.1]at e
      cases e⟩
    have loop2:codeAny (model X.prog X.w) X.A (.compLoop (.ListComp elt [⟨tg,iter,ifs,0⟩,⟨tg1,iter1,ifs1,0⟩] scope pos) 1 (.ref it2) (.ref s2.heap.objs.size) (compEnvC scope cl HH.objs.size X.env)) (λr s'=>match r with
      |.ok _=>∃m,m<n/\∃i acc its nn H',Inv Xc [(s2.heap.objs.size,{cls:=.type "list",dict:=none,data:=.seq (its:List Value).toArray nn})] (iniC js σ) H' s'/\Vals acc its/\acc.length<=sizeLine/\tn i s'.heap/\(∀b∈fp,H' b=none)/\W i m acc H'
      |.error _=>False) s9:=by
     refine Zke (λn2 s'=>∃j acc2 its2 nn2 H',Inv Xc ([(s2.heap.objs.size,{cls:=.type "list",dict:=none,data:=.seq (its2:List Value).toArray nn2})]++Zaf fp s5.heap) σ6 H' s'/\Vals acc2 its2/\acc2.length<=sizeLine/\tn2 j s'.heap/\(∀b∈fp2,H' b=none)/\W2 j n2 acc2 H') ?_ m2
      ⟨0,acc,its,nn,H9,I9,va,hlen,st9,λb hb=>(f9 b hb).1,w2⟩
     rintro n2 sA ⟨j,acc2,its2,nn2,HA,IA,va2,hlen2,stA,frA,wA⟩
     have fpok2:∀{its3:List Value}{nn3:Nat}{H':Hp},(∀b∈fp2,H' b=none)->∀b∈fp2,FpOk Xc ([(s2.heap.objs.size,{cls:=.type "list",dict:=none,data:=.seq its3.toArray nn3})]++Zaf fp s5.heap) H' b:=λ{its3 nn3 H'} hn b hb=>by
      obtain⟨z1,z2,z3,z4,z5,z6⟩:=f9 b hb
      refine⟨hn b hb,z2,z3,z4,z5,λp hp=>?_⟩
      rcases Yq.mp hp with z|z
      ·exact z6 p (YH _ z)
      ·rcases Yq.mp z with z|z
       ·simp only[Yk,List.not_mem_nil,or_false]at z
        subst z
        exact z6 (s2.heap.objs.size,{cls:=.type "list",dict:=none,data:=.seq its.toArray nn}) (Ym _ (YH _ (.head _)))
       ·exact z6 p (Ym _ (Ym _ z))
     rcases turn2 j n2 acc2 HA wA with⟨stop,m',hm,wN⟩|⟨go,hl,step⟩
     ·have q:=T2.done Xc hXp hXw rfl hXcalm j _ sA σ6 HA (λ_ _=>False) IA (fpok2 frA) stA stop
      rw[hXA]at q
      refine thn q λr sB ⟨hr,IB⟩=>?_
      subst hr
      exact⟨m',hm,again IB va2 hlen2 wN kl kv⟩
     ·have q:=T2.item Xc hXp hXw rfl hXcalm j _ sA σ6 HA (λ_ _=>False) IA (fpok2 frA) stA go
      rw[hXA]at q
      refine thn q λr sB ⟨u2,hr,hB⟩=>?_
      subst hr
      refine thn hB λ_ sC ⟨x2,HC,IC,rC,yC,stC,frC⟩=>?_
      have IC':=IC.pinned (fpok2 frC) (T2.obj _ _ stC)
      have again2:∀{σ7:St}{H7:Hp}{s7:Shared}{acc7:List V}{its7:List Value}{n7:Nat}{m:Nat},Inv Xc (([(s2.heap.objs.size,{cls:=.type "list",dict:=none,data:=.seq its7.toArray n7})]++Zaf fp s5.heap)++Zaf fp2 sC.heap) σ7 H7 s7->Vals acc7 its7->acc7.length<=sizeLine->W2 (j+1) m acc7 H7->σ7.length=σ6.length->(∀(k:Nat) v,σ6[k]?=some (some v)->σ7[k]?=some (some v)) ->
        ∃j acc2 its2 nn2 H',Inv Xc ([(s2.heap.objs.size,{cls:=.type "list",dict:=none,data:=.seq (its2:List Value).toArray nn2})]++Zaf fp s5.heap) σ6 H' s7/\Vals acc2 its2/\acc2.length<=sizeLine/\tn2 j s7.heap/\(∀b∈fp2,H' b=none)/\W2 j m acc2 H':=λ{σ7 H7 s7 acc7 its7 n7 m} I7 v7 l7 w7 hl7 hw7=>by
       refine⟨j+1,acc7,its7,n7,H7,(I7.weak hl7.symm hw7).Zcz,v7,l7,T2.keep _ _ _ stC λb hb o e=>(I7.pin (b,o) (Ym _ (Ym _ (Zay hb e)))).1,λb hb=>?_,w7⟩
       obtain⟨o,e,d⟩:=T2.obj _ _ stC b hb
       exact(I7.pin (b,o) (Ym _ (Ym _ (Zay hb e)))).2.1
      have qD:=gX1 _ sC σ6 HC x2 u2 _ IC' rC (ho1 _ _ _ _ _ (fun σ' H' kk z=>And.intro kk z) (step x2 HC yC))
      rw[hXe,hXA,hXp,hXw,hXx]at qD
      refine thn qD λ_ sD ⟨σD,HD,ID,kD,qD⟩=>?_
      obtain⟨kl1,kv1'⟩:=kv1 kD
      have qE:=tX1 _ sD σD HD _ ID qD
      rw[hXe,hXA,hXp,hXw,hXx]at qE
      refine thn qE λb sE ⟨HE,IE,qE⟩=>?_
      cases b with
      |false =>
       obtain⟨m',hm,wE⟩:=qE
       exact⟨m',hm,again2 IE va2 hlen2 wE kl1 kv1'⟩
      |true =>
       have qF:=eX _ sE σD HE _ IE qE
       rw[hXe,hXA,hXp,hXw,hXx]at qF
       refine thn qF λy sF ⟨vF,HF,IF,rF,m',hm,wF⟩=>?_
       have pinD:=IF.pin _ (Ym _ (YH _ (YH _ (.head _))))
       have hnf:∀p∈Zaf fp s5.heap++Zaf fp2 sC.heap,p.1≠s2.heap.objs.size:=λp hp=>by
        rcases Yq.mp hp with z|z
        ·obtain⟨z,_⟩:=Zfj z
         exact Yj (hfl _ z)
        ·obtain⟨z,_⟩:=Zfj z
         obtain⟨_,_,_,_,_,z6⟩:=f9 _ z
         exact λzz=>z6 _ (Ym _ (YH _ (.head _))) zz.symm
       have va':=va2.length
       refine call_meets F.slot_list_append ⟨_,pinD.1,rfl⟩ F.entry_list_append (F.args_list_append_2 _ _) (PySem.list_append s2.heap.objs.size its2.toArray nn2 y (by rw[Yn];omega)) ⟨pinD.1,?_⟩
       have e9:=PySem.IsL.update pinD.1 (λa=>a.push y)
       have e9':its2.toArray.push y=(its2++[y]).toArray:=by simp
       dsimp only at e9
       rw[e9']at e9
       have I8':Inv Xc (Zaf fp s5.heap++Zaf fp2 sC.heap) σD HF sF:=IF.ZdQ λp hp=>IF.pin p (Ym _ (by rw[YM];exact Ym _ hp))
       have hXpn:Xc.pn=[]:=by rw[<-hXc];rfl
       have I9:=I8'.turned (t':=sF.toks) (it:=s2.heap.objs.size) (h':=sF.heap.update s2.heap.objs.size (Obj.mapSeq λa=>a.push y)) (λb o hb e=>(Heap.get?_update_other sF.heap _ (Ne.symm hb)).trans e) pinD.2.1 pinD.2.2.1
        (.inr (by rw[hs0];exact Ye _)) (λx c e=>by
         rw[hXe]at e
         intro z
         obtain⟨v,q⟩:=I2.cell x c (up _ _ e)
         exact absurd q.lt (by rw[z];exact Yw _)) (λp hp=>by rw[hXpn,List.nil_append]at hp;exact hnf p hp)
       have I10:=I9.ZdQ (pins':=([(s2.heap.objs.size,{cls:=.type "list",dict:=none,data:=.seq (its2++[y]).toArray _})]++Zaf fp s5.heap)++Zaf fp2 sC.heap) λp hp=>by
        rw[YM]at hp
        rcases Yq.mp hp with z|z
        ·simp only[Yk,List.not_mem_nil,or_false]at z
         subst z
         exact⟨e9,pinD.2.1,pinD.2.2.1,pinD.2.2.2.1,by intro v z;cases z⟩
        ·exact I9.pin p (Ym _ z)
       exact⟨m',hm,again2 I10 (va2.append (.cons rF .nil)) (by rw[YB,List.length_singleton];omega) wF kl1 kv1'⟩
    refine wpAny_runOwn ?_
    refine codeAny_mono (ZhX loop2 (T2.self _ 0 _ _ _ st9 loop2)) λr s' hr=>?_
    cases r with
    |ok f=>exact hr
    |error e=>exact hr.elim
 exact codeAny_compStart_list loop (T.self _ 0 _ _ _ st4 loop)
theorem Zpx {tg elt iter tg1 iter1:Expr}{ifs ifs1:List Expr}{scope:Scope}{pos:Pos}{wi wi1:TI}{g g1:TG}{tt tt1:TT}{te:TE} (Nc:List Str) (js:List (Option Nat)) {L L1:List Nat}
  (hc:X.calm=true) (hok:compOk X.env.scope scope=true) (htk:Zaz X.N Nc scope js 0=true) (hi:PI X tg iter wi)
  (hg:∀cl C s2 H2 fp,PG (Zav X Nc scope cl C s2 H2 fp) tg g) (ht:∀cl C s2 H2 fp,Zhf (Zav X Nc scope cl C s2 H2 fp) ifs tt) (hi1:∀cl C s2 H2 fp,PI (Zav X Nc scope cl C s2 H2 fp) tg1 iter1 wi1) (hg1:∀cl C s2 H2 fp,PG (Zav X Nc scope cl C s2 H2 fp) tg1 g1) (ht1:∀cl C s2 H2 fp,Zhf (Zav X Nc scope cl C s2 H2 fp) ifs1 tt1) (he:∀cl C s2 H2 fp,PE (Zav X Nc scope cl C s2 H2 fp) elt te)
  (ho:Zfr g L) (ho1:Zfr g1 L1) (hL:(L.all λk=>js[k]?==some none)=true:=by rfl) (hL1:(L1.all λk=>js[k]?==some none&&!L.contains k)=true:=by rfl) (hs:∀x,foldedSetIterable iter X.env x=pure x:=by intro _;rfl) (hs1:∀env x,foldedSetIterable iter1 env x=pure x:=by intro _ _;rfl):PE X (.ListComp elt [⟨tg,iter,ifs,0⟩,⟨tg1,iter1,ifs1,0⟩] scope pos) (Zl7 wi g tt wi1 g1 tt1 te js):=by
 intro pins s σ H Q I h
 rw[eval_ListComp]
 exact ZnK (use:=none) hc hok htk hi hg ht hi1 hg1 ht1 he hs hs1 ho ho1 hL hL1 I h λD C H' H2 s2 s' xs m I2 hHC e1 e2 hn hI q=>⟨m,hn,λh' hsb=>⟨.ref D,_,hI h' hsb,rfl,q⟩⟩
end
end L2
namespace L2
open PySem PySem.Spec PyProof.Rows PySem.W
noncomputable def ZY (H:Hp) (acc:List V) (rs:List (List Int)):Prop:=∃as:List Addr,acc=as.map V.ref/\as.length=rs.length/\∀i (h1:i<as.length) (h2:i<rs.length),H as[i]=some (.tup (rs[i].map V.int))
theorem ZY.nil {H:Hp}:ZY H [] []:=⟨[],rfl,rfl,λi h=>absurd h (by simp)⟩
theorem ZY.same {H H':Hp}{acc:List V}{rs:List (List Int)} (h:ZY H acc rs) (s:Zh H H'):ZY H' acc rs:=by
 obtain⟨as,e,l,k⟩:=h
 exact⟨as,e,l,λi h1 h2=>s _ _ (k i h1 h2)⟩
theorem ZY.len {H:Hp}{acc:List V}{rs:List (List Int)} (h:ZY H acc rs):acc.length=rs.length:=by
 obtain⟨as,e,l,k⟩:=h
 rw[e,Yg,l]
theorem ZY.snoc {H:Hp}{acc:List V}{rs:List (List Int)}{u:Addr}{r:List Int} (h:ZY H acc rs) (hu:H u=some (.tup (r.map V.int))):ZY H (acc++[V.ref u]) (rs++[r]):=by
 obtain⟨as,e,l,k⟩:=h
 refine⟨as++[u],by rw[e];simp,by simp[l],λi h1 h2=>?_⟩
 by_cases c:i<as.length
 ·rw[Y0 c,Y0 (by omega)];exact k i c (by omega)
 ·have:i=as.length:=by simp at h1;omega
  subst this
  rw[List.getElem_concat_length,Y5 (by omega)]
  simpa[l]using hu
  rfl
theorem ZY.at {H:Hp}{acc:List V}{rs:List (List Int)}{l:Addr} (h:ZY H acc rs) (hl:H l=none):ZI (upd H l (.lst acc)) l rs:=by
 obtain⟨as,e,ln,k⟩:=h
 refine⟨as,by rw[Zc,e],ln,λi h1 h2=>?_⟩
 rw[Zg (λz=>by have:=k i h1 h2;rw[z,hl]at this;cases this)]
 exact k i h1 h2
noncomputable def C2W (n:Nat) (U:Nat->List (List Int)) (H1:Hp) (i m:Nat) (acc:List V) (H:Hp):Prop:=m=n-i/\i<=n/\ZY H acc (U i)/\Zh H1 H
theorem C2W.next {n:Nat}{U:Nat->List (List Int)}{H1 H:Hp}{i:Nat}{acc:List V} (hi:i<n) (t:ZY H acc (U (i+1))) (s:Zh H1 H):∃m',m'<n-i/\C2W n U H1 (i+1) m' acc H:=⟨n-(i+1),by omega,rfl,hi,t,s⟩
theorem Zl8 {J:It}{g:TG}{tt:TT}{wi1:TI}{g1:TG}{tt1:TT}{te:TE}{σ0:St}{Q:VK}{H1:Hp} (n:Nat) (U:Nat->List (List Int)) (h0:U 0=[]) (hl:∀i,i<=n->(U i).length<=100000)
  (hgo:∀i H,Zh H1 H->i<n->J.go i H) (hstop:∀H,Zh H1 H->J.stop n H)
  (hb:∀i x acc H H',i<n->ZY H acc (U i)->Zh H1 H->J.yld i H x H'->g x σ0 H' fun σ2 H2=>tt σ2 H2 λb H3=>if b=true then wi1 σ2 H3 λJ2 H4=>Zkf J2 g1 tt1 te σ2 acc (λacc2 H5=>∃m',m'<n-i/\C2W n U H1 (i+1) m' acc2 H5) H4 else ∃m',m'<n-i/\C2W n U H1 (i+1) m' acc H3)
  (hk:∀l acc H',Zh H1 H'->H' l=none->ZY H' acc (U n)->Q (.ref l) (upd H' l (.lst acc))):Zl6 J g tt wi1 g1 tt1 te σ0 Q H1:=by
 refine⟨C2W n U H1,⟨n,rfl,Yz _,by rw[h0];exact ZY.nil,Zh.refl _⟩,?_⟩
 rintro i m acc H ⟨rfl,hi,t,s⟩
 have hlen:acc.length<=sizeLine:=Yi (t.len▸hl i hi) (by decide)
 by_cases h:i<n
 ·exact .inr ⟨hgo i H s h,hlen,λx H' y=>hb i x acc H H' h t s y⟩
 ·have e:i=n:=by omega
  subst e
  exact .inl ⟨hstop H s,hlen,λp hp=>hk p acc H s hp t⟩
theorem Zpy {J2:It}{g1:TG}{tt1:TT}{te:TE}{σ2:St}{acc:List V}{F:List V->Hp->Prop}{H4:Hp} (k:Nat) (V':Nat->List (List Int)) (h0:ZY H4 acc (V' 0)) (hl:∀j,j<=k->(V' j).length<=100000)
  (hgo:∀j H,Zh H4 H->j<k->J2.go j H) (hstop:∀H,Zh H4 H->J2.stop k H)
  (hb:∀j x acc2 H5 H6,j<k->ZY H5 acc2 (V' j)->Zh H4 H5->J2.yld j H5 x H6->g1 x σ2 H6 fun σ3 H7=>tt1 σ3 H7 λb2 H8=>if b2=true then te σ3 H8 λv H9=>∃m',m'<k-j/\C2W k V' H4 (j+1) m' (acc2++[v]) H9 else ∃m',m'<k-j/\C2W k V' H4 (j+1) m' acc2 H8)
  (hF:∀acc2 H5,ZY H5 acc2 (V' k)->Zh H4 H5->F acc2 H5):Zkf J2 g1 tt1 te σ2 acc F H4:=by
 refine⟨C2W k V' H4,⟨k,rfl,Yz _,h0,Zh.refl _⟩,?_⟩
 rintro j m acc2 H ⟨rfl,hj,t,s⟩
 have hlen:acc2.length<sizeLine:=Yv (t.len▸hl j hj) (by decide)
 by_cases h:j<k
 ·exact .inr ⟨hgo j H s h,hlen,λx H' y=>hb j x acc2 H H' h t s y⟩
 ·have e:j=k:=by omega
  subst e
  exact .inl ⟨hstop H s,hF acc2 H t s⟩
end L2
namespace L2
open PySem PySem.Spec PyProof.Rows PySem.W PySem.Calls
end L2
namespace L2
open PySem PySem.Spec PyProof.Rows PySem.W
theorem le1 {n:Nat}{us:List Value} (e:us.length=n+1):∃a t,us=a::t/\t.length=n:=by
 cases us with
 |nil=>cases e
 |cons a t=>exact⟨a,t,rfl,Nat.succ.inj e⟩
theorem le0 {us:List Value} (e:us.length=0):us=[]:=List.length_eq_zero_iff.mp e
end L2
namespace L2
open PySem PySem.Spec PyProof.Rows PySem.W PyProof
theorem Zpz {K:Frag}{n:String}{C:Addr}{b:Bool} (h1:hasDictIn K C=true) (h2:typeIn K (.ref C)=some (.type "type")) (h3:subIn K (.type n) (.ref C)=some b):kitOne K (.type n) (.ref C)=some b:=by
 obtain⟨cd,hc,_⟩:=any_some h1
 unfold kitOne
 rw[Yc (by intro z;exact nomatch (beq_iff_eq.mp z))]
 unfold kitCls
 dsimp only
 rw[Yd (by rw[hc,h2];rfl)]
 exact h3
end L2
namespace L2
open PySem PySem.Spec PyProof.Rows PySem.W
end L2
namespace HT
open PySem PyProof.Rows
section
open PySem.SeqAt
open PySem.AutoSeq1 (wpAny_loadPart')
open PySem.MeetsSeq PySem.MeetsSeq2 PySem.MeetsSeq3
end
end HT
namespace L2
open PySem PySem.Spec PyProof.Rows PySem.W
end L2
namespace L2
open PySem PySem.Spec PyProof.Rows PySem.W PyProof
noncomputable def ZdL (cs:List Addr) (H:Hp):Hp:=λb=>if b∈cs then none else H b
noncomputable def onC (cs:List Addr) (H H1:Hp):Hp:=λb=>if b∈cs then H b else H1 b
theorem Zfn {cs:List Addr}{H:Hp}{b:Addr} (h:b∈cs):ZdL cs H b=none:=Yd h
theorem Z9 {cs:List Addr}{H:Hp}{b:Addr} (h:b∉cs):ZdL cs H b=H b:=Yc h
theorem Zl9 {cs:List Addr}{H H1:Hp}{b:Addr} (h:b∈cs):onC cs H H1 b=H b:=Yd h
theorem Zc4 {cs:List Addr}{H H1:Hp}{b:Addr} (h:b∉cs):onC cs H H1 b=H1 b:=Yc h
noncomputable def CellsIn (cs:List Addr) (H:Hp):Prop:=∀b∈cs,∃o v,H b=some (.frz o (.own b))/\o.data=.cell v
theorem CellsIn.out {cs:List Addr}{H:Hp} (h:CellsIn cs H) {b:Addr}{u:HO} (e:H b=some u) (n:∀o v,u=.frz o (.own b)->o.data=.cell v->False):b∉cs:=λhb=>by
 obtain⟨o,v,e2,e3⟩:=h b hb
 rw[e]at e2
 exact n o v (Yo e2) e3
theorem ZQ.stayF {P:Program}{w:World}{H H':Hp}{h h':Heap}{a:Addr}{o:HO} (x:ZQ P w H h a o) (k:∀b u,(b=a\/H b=some (.own a))->h.get? b=some u->h'.get? b=some u)
  (ho:∀b,H b=some (.own a)->H' b=some (.own a)) (ht:∀b xs,H b=some (.tup xs)->H' b=some (.tup xs)) (hz:∀b o u vs,o.data=.fields vs->H b=some (.frz o u)->H' b=some (.frz o u)):ZQ P w H' h' a o:=by
 induction o with
 |lst xs=>obtain⟨z,its,n,r,e⟩:=x;exact⟨z,its,n,r,k _ _ (.inl rfl) e⟩
 |tup xs=>obtain⟨z,its,r,ob,e,c⟩:=x;exact⟨z,its,r,ob,k _ _ (.inl rfl) e,c⟩
 |dK kvs=>obtain⟨z,y,vs,r,ob,es,ep,e,c⟩:=x;exact⟨z,y,vs,r,ob,es,ep,k _ _ (.inl rfl) e,c⟩
 |dT kvs =>
  obtain⟨z,y,xs,r,ob,es,ep,e,c⟩:=x
  exact⟨z,y,xs,Paired.mapP r λp q z=>⟨z.1,ht _ _ z.2.1,z.2.2⟩,ob,es,ep,k _ _ (.inl rfl) e,c⟩
 |set S n=>obtain⟨ob,es,ep,t,e,c⟩:=x;exact⟨ob,es,ep,t,k _ _ (.inl rfl) e,c⟩
 |ins C dx fs =>
  obtain⟨d,z,ne,e,mA,⟨od,es,ep,e2,c⟩,r⟩:=x
  exact⟨ho _ d,z,ne,k _ _ (.inl rfl) e,mA,⟨od,es,ep,k _ _ (.inr d) e2,c⟩,r⟩
 |own y=>obtain⟨ob,e⟩:=x;exact⟨ob,k _ _ (.inl rfl) e⟩
 |xd fs=>obtain⟨mA,⟨od,es,ep,e,c⟩,r⟩:=x;exact⟨mA,⟨od,es,ep,k _ _ (.inl rfl) e,c⟩,r⟩
 |rng lo hi=>obtain⟨t,u,v,e⟩:=x;exact⟨t,u,v,k _ _ (.inl rfl) e⟩
 |frz ob u ih=>obtain⟨e,q⟩:=x;exact⟨k _ _ (.inl rfl) e,ih q⟩
 |tbl ps =>
  obtain⟨ts,e,t3,z⟩:=x
  refine⟨ts,k a _ (.inl rfl) e,t3,λpos cv hc=>?_⟩
  obtain⟨c,oc,vs,q,t,t',e1,e2,e3,r⟩:=z pos cv hc
  exact⟨c,oc,vs,q,t,t',e1,hz _ _ _ _ e3 e2,e3,r⟩
 |met f y =>
  have e:h.get? a=some (PySem.W.methodObj (.ref f) (.ref y)):=x
  show h'.get? a=some (PySem.W.methodObj (.ref f) (.ref y))
  exact k a _ (.inl rfl) e
 |ext φ=>obtain⟨p,⟨o,e⟩,st⟩:=x;exact⟨st _ _ p λo q=>k _ _ (.inl rfl) q,⟨o,k _ _ (.inl rfl) e⟩,st⟩
theorem HOk.ZdL {P:Program}{w:World}{H:Hp}{h h':Heap}{cs:List Addr} (x:HOk P w H h) (hc:CellsIn cs H) (k:∀b o,h.get? b=some o->h'.get? b=some o):HOk P w (ZdL cs H) h':=λa o e=>by
 by_cases ha:a∈cs
 ·rw[Zfn ha]at e;cases e
 rw[Z9 ha]at e
 refine(x a o e).stayF (λb u _ z=>k b u z) (λb z=>?_) (λb xs z=>?_) λb ob u vs hd z=>?_
 ·rw[Z9 (hc.out z λ_ _ y _=>nomatch y)];exact z
 ·rw[Z9 (hc.out z λ_ _ y _=>nomatch y)];exact z
 ·rw[Z9 (hc.out z λo v y q=>by cases y;rw[hd]at q;cases q)];exact z
theorem HOk.onC {P:Program}{w:World}{H H':Hp}{h:Heap}{cs:List Addr} (x:HOk P w H' h) (hn:∀b∈cs,H' b=none) (hc:∀b∈cs,∃o,H b=some (.frz o (.own b))/\h.get? b=some o):HOk P w (onC cs H H') h:=λa o e=>by
 by_cases ha:a∈cs
 ·rw[Zl9 ha]at e
  obtain⟨ob,e1,e2⟩:=hc a ha
  rw[e1]at e;cases e
  exact⟨e2,ob,e2⟩
 rw[Zc4 ha]at e
 have up:∀b u,H' b=some u->L2.onC cs H H' b=some u:=λb u z=>by
  rw[Zc4 (λhb=>by rw[hn b hb]at z;cases z)];exact z
 exact(x a o e).Zgr (λb u _ z=>z) (λb z=>up _ _ z) (λb xs z=>up _ _ z) λb ob u z=>up _ _ z
noncomputable def FnV (P:Program) (w:World) (K:Frag) (mg:Str->Option Value) (base:Heap) (k:Nat) (f:Addr) (sp:V->Hp->VK->Prop):Prop :=
 ∀(A:Around) (outer:List Env) (s:Shared) (H:Hp) (u:Value) (v:V) (Q:VK),Room k A->Env0 P w K mg base A outer s H->RelV v u->sp v H Q->codeAny (model P w) A (.call (.ref f) ⟨[u],[]⟩) (λr s'=>∃u',r=.ok (.ret u')/\CE outer P w H s Q u' s') s
noncomputable def Zld (H:Hp) (f:Addr):Prop:=∃oc od fd sl u,H f=some (.frz ⟨oc,od,.func fd,sl⟩ u)
theorem Zld.same {H H':Hp}{f:Addr} (h:Zld H f) (s:Zh H H'):Zld H' f:=let ⟨a,b,c,d,e,z⟩:=h;⟨a,b,c,d,e,s _ _ z⟩
section
variable {X:Cx}
noncomputable def Zma (P:Program) (w:World) (K:Frag) (mg:Str->Option Value) (base:Heap) (k:Nat) (tf:TE) (t:TA):TE:=fun σ H Q=>tf σ H λy H1=>∃f,y=.ref f/\Zld H1 f/\t σ H1 λvs H2=>∃v sp,vs=[v]/\Zld H2 f/\FnV P w K mg base k f sp/\sp v H2 Q
theorem Zle {k:Nat}{fx e:Expr}{tf:TE}{t:TA}{pos:Pos} (hr:Room k X.A) (hf:PE X fx tf) (ha:PA X [e] t)
  (hev:eval (.Call fx [e] [] pos) X.env=(do callWith pos (<-eval fx X.env) [] (backTo pos (starEach [e] X.env)) (backToKw pos (keywordEach [] X.env))):=by rfl)
  (he:starEach [e] X.env=(false,eval e X.env)::starEach [] X.env:=by rfl) (hpl:(backTo pos (starEach [] X.env)).any (·.1)=false:=by rfl):PE X (.Call fx [e] [] pos) (Zma X.prog X.w X.K X.mg X.base k tf t):=by
 intro pins s σ H Q I h
 refine Call_ (thn (hf pins s σ H _ I h) λv s1 ⟨y,H1,I1,r1,f,ey,hF1,q1⟩=>?_) hev
 subst ey
 cases r1
 have fat:∀{H:Hp}{s:Shared}{σ:St},Inv X pins σ H s->Zld H f->FnAt f s.heap:=λI ⟨oc,od,fd,sl,u,z⟩=>⟨oc,od,fd,sl,(I.hok f _ z).1⟩
 refine callWith_F (fat I1 hF1) (thn (ha pos pins s1 σ H1 _ I1 q1) λus s2 ⟨vs,H2,I2,r,v,sp,ev,hF2,hV,q⟩=>⟨fat I2 hF2,?_⟩) he hpl
 subst ev
 obtain⟨u,rfl,ru⟩:=r.one
 exact wpAny_call (codeAny_mono (hV X.A X.stack s2 H2 u v Q hr I2.env0 ru q) λr s' ⟨u',hr',z⟩=>by subst hr';exact I2.after z)
end
noncomputable def ZeK (P:Program) (w:World) (K:Frag) (mg:Str->Option Value) (base:Heap) (A':Around) (outer:List Env) (Nc:List Str) (q:Str) (scope:Scope) (cl:List (Str×Addr)) (L f c:Addr) (s:Shared) (H:Hp):Cx where
 prog:=P
 w:=w
 K:=K
 mg:=mg
 base:=base
 A:=A'.deeper (envX q scope L f (.ref c) cl)
 N:=Nc
 s₀:=s
 H₀:=H
 env:=envX q scope L f (.ref c) cl
 outer:=outer
 stack:=envX q scope L f (.ref c) cl::outer
 ex:=[]
 fn:=λ_=>false
 calm:=true
 pn:=[]
 xe:=λ_ _=>False
structure LamSF (fr:List Str) (params:Arguments) (body:Expr) (scope:Scope) (pn:Str):Prop where
 cell:∀y∈scope.names,y.2≠.cell
 kind:scope.kind=.function
 frs:∀x∈fr,scope.names.lookup x=some .free
 pl:scope.names.lookup pn=some .local
 co:scope.isCoroutine=false
 gen:scope.isGenerator=false
 bd:∀(q:Str) (cl:List (Str×Addr)) (pm cd ctv u:Value),bindArgs (kla_fn "<lambda>" q params body scope cl pm cd ctv) ⟨[u],[]⟩=pure [(pn,u)]
noncomputable def ZpA (Hz:Hp) (cs:List Addr) (vals:St) (tb:TE):V->Hp->VK->Prop:=λv H Q=>(∀b o u,Hz b=some (.frz o u)->H b=some (.frz o u))/\tb (some v::vals) (ZdL cs H) λx H'=>(∀b∈cs,H' b=none)->Q x (onC cs H H')
theorem ZrI {P:Program}{w:World}{K:Frag}{mg:Str->Option Value}{base:Heap}{k:Nat}{fr:List Str}{q pn:Str}{params:Arguments}{body:Expr}{scope:Scope}{tb:TE}{Hz:Hp}{f c P0:Addr}{oc:Obj}{vs:Array Value}{t:Tok}{cl:List (Str×Addr)}{pm ctv:Value}{vals:St}{cs:List Addr}
  (S:LamSF fr params body scope pn) (hbody:∀(A':Around) (outer:List Env) (cl:List (Str×Addr)) (L f c:Addr) (s:Shared) (H:Hp),Room k (ZeK P w K mg base A' outer (pn::fr) q scope cl L f c s H).A->PE (ZeK P w K mg base A' outer (pn::fr) q scope cl L f c s H) body tb)
  (e1:Hz f=some (.frz (kla_obj "<lambda>" q params body scope cl pm c ctv) (.own f))) (e2:Hz c=some (.frz oc (.own P0))) (e3:oc.data=.fields vs) (e4:vs[1]?=some (.str q t))
  (inj:∀x y a,cl.lookup x=some a->cl.lookup y=some a->x=y) (hfr:∀y∈scope.names,y.2=.free->∃a,cl.lookup y.1=some a) (hin:∀x a,cl.lookup x=some a->a∈cs) (hcs:CellsIn cs Hz)
  (hv:∀(i:Nat) (x:Str) (v:V) (a:Addr),fr[i]?=some x->vals[i]?=some (some v)->cl.lookup x=some a->∃u o,RelV v u/\Hz a=some (.frz o (.own a))/\o.data=.cell (some u)) (hl:vals.length=fr.length) :
  FnV P w K mg base (k+1) f (ZpA Hz cs vals tb):=by
 intro A outer s H u v Q hr E r ⟨hz,h⟩
 have hfo:=(E.hok f _ (hz _ _ _ e1)).1
 have hoc:=(E.hok c _ (hz _ _ _ e2)).1
 have hcs':CellsIn cs H:=λb hb=>by
  obtain⟨o,v,z1,z2⟩:=hcs b hb
  exact⟨o,v,hz _ _ _ z1,z2⟩
 refine kla_callFunE hr.depth hfo rfl S.co S.gen rfl ⟨c,oc,vs,t,rfl,hoc,e3,e4⟩ ?_
 show wpAny _ _ (bindArgs (kla_fn "<lambda>" q params body scope cl pm (.ref c) ctv) ⟨[u],[]⟩) _ _ _
 rw[S.bd]
 refine Yb (wpAny_newFunctionEnv (λx hx=>S.cell x hx) (λx hx=>?_) (λh₁ hns hsb=>⟨(E.mod.nolimit.keeps λb o z=>(E.bs b o z).1).fresh _ hsb,?_⟩) S.kind)
 ·have:x=(pn,u):=by simpa using hx
  subst this;exact S.pl
 show codeAny _ _ (.expr body (envX q scope s.heap.objs.size f (.ref c) cl)) _ _
 have old:∀b o,s.heap.get? b=some o->h₁.get? b=some o:=λb o e=>hsb.extBut b o (Yj (Yh e)) (Yl _ e)
 have lt0:∀b u,H b=some u->b<s.heap.objs.size:=λb u z=>E.hok.lt z
 have kf:∀x,((envX q scope s.heap.objs.size f (.ref c) cl).kindOf x=some .cell\/(envX q scope s.heap.objs.size f (.ref c) cl).kindOf x=some .free)->∃c,cl.lookup x=some c:=λx hx=>by
  rcases hx with z|z
  ·exact absurd rfl (S.cell _ (lookup_mem (show scope.names.lookup x=some .cell from z)))
  ·exact hfr _ (lookup_mem (show scope.names.lookup x=some .free from z)) rfl
 have noA:∀b:Addr,b∉(ZeK P w K mg base A outer (pn::fr) q scope cl s.heap.objs.size f c s (ZdL cs H)).ex:=λb z=>absurd (show b∈([]:List Addr)from z) (by simp)
 have offN:∀b,H b=none->ZdL cs H b=none:=λb z=>by
  unfold ZdL;split
  ·rfl
  ·exact z
 have J:Inv (ZeK P w K mg base A outer (pn::fr) q scope cl s.heap.objs.size f c s (ZdL cs H)) [] (some v::vals) (ZdL cs H) {s with heap:=h₁,toks:=s.toks+[(pn,u)].length}:=by
  refine⟨⟨E.mod,S.kind,rfl,rfl,Ye _,inj,(λx hx=>kf x hx),(λx c e=>nomatch e),(λ_=>hr.hd),Around.frames_deeper E.frames,.inr ⟨rfl,rfl⟩,λb z=>absurd z (noA b),λb o z=>⟨(E.bs b o z).1,offN _ (E.bs b o z).2⟩,E.bsz,λb _ _=>noA b,λb z=>absurd z (noA b),E.funs,λb hb=>offN _ (E.frf b hb)⟩,
   rfl,E.bare,Un.kept old,⟨_,hns,λi x v' z1 z2 z3=>?_⟩,λx c z=>?_,offN _ (E.hok.fresh (Ye _)),λx c z=>Zfn (hin x c z),λp hp=>absurd (show p∈([]:List (Addr×Obj))from hp) (by simp),E.hok.ZdL hcs' old,?_⟩
  ·cases i with
   |zero =>
    have ex:pn=x:=Yo z1
    have ev:v=v':=Yo (Yo z2)
    subst ex ev
    exact⟨u,r,.inl ⟨S.pl,by simp⟩⟩
   |succ i =>
    have z1':fr[i]?=some x:=z1
    have z2':vals[i]?=some (some v'):=z2
    have hm:=S.frs x (List.mem_of_getElem? z1')
    obtain⟨a,ha⟩:=hfr _ (lookup_mem hm) rfl
    obtain⟨u',o,r',y1,y2⟩:=hv i x v' a z1' z2' ha
    exact⟨u',r',.inr ⟨.inr hm,a,ha,o,old _ _ (E.hok a _ (hz _ _ _ y1)).1,y2⟩⟩
  ·obtain⟨o,v,y1,y2⟩:=hcs' c (hin x c z)
   exact⟨v,o,old _ _ (E.hok c _ y1).1,y2⟩
  ·show vals.length+1=fr.length+1
   rw[hl]
 refine kla_codeExpr (Yt (hbody A outer cl _ f c s _ (hr.deeper _) [] _ _ _ _ J h) (λv' s' ⟨x,H',J',r',q'⟩=>⟨v',rfl,x,onC cs H H',J'.os,J'.bare,?_,?_,r',q' λb hb=>?_⟩) λ_ _ z=>z.elim)
 ·have ub:Un (frs outer) [] (ZdL cs H) H' s.heap s'.heap:=J'.base
  have inH:∀b∈cs,∃o,H b=some (.frz o (.own b)):=λb hb=>by obtain⟨o,_,z,_⟩:=hcs' b hb;exact⟨o,z⟩
  refine⟨λb o z n hb hx=>ub.keep b o z (offN b n) hb hx,λb o z n hb hx=>ub.slot b o z (offN b n) hb hx,λb o z n hx=>?_,ub.there,λb xs z=>?_,λb o u z=>?_,λb ps z=>?_⟩
  ·rw[Zc4 (λhb=>by obtain⟨o,y⟩:=inH b hb;rw[n]at y;cases y)]
   exact ub.free b o z (offN b n) hx
  ·have n:=hcs'.out z λ_ _ y _=>nomatch y
   rw[Zc4 n]
   exact ub.tups b xs (by rw[Z9 n];exact z)
  ·by_cases hb:b∈cs
   ·rw[Zl9 hb];exact z
   ·rw[Zc4 hb]
    exact ub.frzs b o u (by rw[Z9 hb];exact z)
  ·have n:=hcs'.out z λ_ _ y _=>nomatch y
   rw[Zc4 n]
   exact ub.tbls b ps (by rw[Z9 n];exact z)
 ·have ub:Un (frs outer) [] (ZdL cs H) H' s.heap s'.heap:=J'.base
  have hn:∀b∈cs,H' b=none:=λb hb=>by
   obtain⟨o,_,z,_⟩:=hcs' b hb
   exact ub.free b o (E.hok b _ z).1 (Zfn hb) (by simp)
  refine J'.hok.onC hn λb hb=>?_
  obtain⟨o,_,z,_⟩:=hcs' b hb
  exact⟨o,z,ub.keep b o (E.hok b _ z).1 (Zfn hb) (λy=>by rw[E.frf b y]at z;cases z) (by simp)⟩
 ·have ub:Un (frs outer) [] (ZdL cs H) H' s.heap s'.heap:=J'.base
  obtain⟨o,_,z,_⟩:=hcs' b hb
  exact ub.free b o (E.hok b _ z).1 (Zfn hb) (by simp)
theorem ZpB {cs:List Addr}{H H':Hp} (s:Zh (ZdL cs H) H'):Zh H (onC cs H H'):=λb o z=>by
 by_cases hb:b∈cs
 ·rw[Zl9 hb];exact z
 ·rw[Zc4 hb];exact s _ _ (by rw[Z9 hb];exact z)
theorem onC_at {cs:List Addr}{H H':Hp}{b:Addr}{o:HO} (h:∀b∈cs,H' b=none) (z:H' b=some o):onC cs H H' b=some o:=by
 rw[Zc4 (λhb=>by rw[h b hb]at z;cases z)];exact z
theorem ZpC {x:Str}{a:Addr}:∀{cl:List (Str×Addr)},cl.lookup x=some a->(x,a)∈cl
 |[],h=>nomatch h
 |(y,b)::r,h=>by
  by_cases e:x=y
  ·subst e
   rw[List.lookup_cons_self]at h
   rw[Yo h];exact Y1
  ·rw[List.lookup_cons,show(x==y)=false from by simpa using e]at h
   exact YW _ (ZpC h)
structure Lent (cs:List Addr) (H1 H2:Hp):Prop where
 out:∀b,b∉cs->H2 b=H1 b
 was:∀b∈cs,H1 b=none
 is:CellsIn cs H2
theorem Lent.same {cs:List Addr}{H1 H2:Hp} (L:Lent cs H1 H2):Zh H1 H2:=λb o z=>by
 rw[L.out b (λhb=>by rw[L.was b hb]at z;cases z)];exact z
theorem Lent.back {cs:List Addr}{H1 H2 H3:Hp} (L:Lent cs H1 H2) (s:Zh H2 H3):Zh H1 (ZdL cs H3):=λb o z=>by
 rw[Z9 (λhb=>by rw[L.was b hb]at z;cases z)];exact s _ _ (L.same _ _ z)
theorem Lent.tup {cs:List Addr}{H1 H2 H3:Hp} (L:Lent cs H1 H2) (s:Zh H2 H3) {t:Addr}{xs:List V} (z:H3 t=some (.tup xs)):ZdL cs H3 t=some (.tup xs):=by
 rw[Z9 (λhb=>by
  obtain⟨o,v,e,_⟩:=L.is t hb
  rw[s _ _ e]at z;cases z)];exact z
noncomputable def ZnL (js:List Nat) (σ:St):St:=js.map λj=>(σ[j]?).join
noncomputable def Zkg (P:Program) (w:World) (K:Frag) (mg:Str->Option Value) (base:Heap) (k:Nat) (env:Env) (P0:Addr) (q:Str) (params:Arguments) (body:Expr) (scope:Scope) (js:List Nat) (tb:TE) (sp:Sp) (E:XK) (t:TA):TE:=fun σ H Q=>t σ H λvs H1=>∃f,vs.getLast?=some (.ref f)/\LamO env P0 q params body scope H1 f /\
 ∀(cs:List Addr) (H2:Hp),Lent cs H1 H2->Zld H2 f->FnV P w K mg base (k+1) f (ZpA H2 cs (ZnL js σ) tb)->sp vs H2 (λx H3=>Q x (ZdL cs H3)) E
section
variable {X:Cx}
theorem ZpD {k m:Nat}{x q pn:Str}{f0:Addr}{fd:FuncData}{ps fr:List Str}{js:List Nat}{params:Arguments}{body:Expr}{scope:Scope}{P0:Addr}{tb:TE}{sp:Sp}{t:TA}{p pos:Pos}{e:Expr}{es:List Expr}
  (S:LamSF fr params body scope pn) (hok:compOk X.env.scope scope=true) (hjs:js.map (X.N[·]?)=fr.map some) (hfn:∀x,X.fn x=true)
  (hbody:∀(A':Around) (outer:List Env) (cl:List (Str×Addr)) (L f c:Addr) (s:Shared) (H:Hp),Room k (ZeK X.prog X.w X.K X.mg X.base A' outer (pn::fr) q scope cl L f c s H).A->PE (ZeK X.prog X.w X.K X.mg X.base A' outer (pn::fr) q scope cl L f c s H) body tb)
  (F:FnOk X.prog X.w X.K X.mg X.base (CXE X.prog X.w) m f0 fd ps sp) (hr:Room m X.A) (hg:Gl X x) (hm:X.mg x=some (.ref f0)) (hk:PySem.W.keepIn X.K (.ref f0)=true) (hb:Binds X.K fd ps [])
  (ha:PA X (e::es) t) (hdb:(x==("__debug__":Str))=false:=by decide) (he:starEach (e::es) X.env=(false,eval e X.env)::starEach es X.env:=by rfl) (hpl:(backTo pos (starEach es X.env)).any (·.1)=false:=by rfl) :
  PE X (.Call (.Name x p) (e::es) [] pos) (Zkg X.prog X.w X.K X.mg X.base k X.env P0 q params body scope js tb sp E0 t):=by
 intro pins s σ H Q I h
 refine wpAny_Call_Name_kw (ZjL I hg hm ?_ hdb)
 refine PySem.W.callWith_K (h₀:=X.base) I.ok.mod.kin hk (thn (ha pos pins s σ H _ I h) λus s1 ⟨vs,H1,I1,r,f,ef,L,hsp⟩=>⟨I1.kIn,?_⟩) he hpl
 obtain⟨c,oc,vv,tk,cl,pm,ctv,e1,e2,e3,e4,up,hfr⟩:=L
 let cs:List Addr:=(cl.map (·.2)).filter λa=>@decide (∃x,cl.lookup x=some a) (Classical.propDecidable _)
 have mcs:∀a,a∈cs↔∃x,cl.lookup x=some a:=λa=>by
  show a∈List.filter _ _↔_
  rw[YU,@decide_eq_true_iff _ (Classical.propDecidable _)]
  refine⟨λz=>z.2,λz=>⟨?_,z⟩⟩
  obtain⟨x,hx⟩:=z
  exact YJ.mpr ⟨(x,a),ZpC hx,rfl⟩
 have cIn:∀a∈cs,∃o v,s1.heap.get? a=some o/\o.data=.cell v/\H1 a=none/\X.s₀.heap.objs.size<=a:=λa ha=>by
  obtain⟨x,hx⟩:=(mcs a).mp ha
  obtain⟨v,o,z1,z2⟩:=I1.cell x a (up _ _ hx)
  exact⟨o,v,z1,z2,I1.freeC x a (up _ _ hx),I1.ok.cab x a (hfn x) (up _ _ hx)⟩
 let H2:Hp:=λb=>if b∈cs then (s1.heap.get? b).map (λo=>.frz o (.own b))else H1 b
 have h2in:∀b∈cs,∀o,s1.heap.get? b=some o->H2 b=some (.frz o (.own b)):=λb hb o z=>by
  show(if b∈cs then _ else _)=_
  rw[Yd hb,z];rfl
 have h2out:∀b,b∉cs->H2 b=H1 b:=λb hb=>Yc hb
 have LT:Lent cs H1 H2:=⟨h2out,λb hb=>(cIn b hb).choose_spec.choose_spec.2.2.1,λb hb=>by
  obtain⟨o,v,z1,z2,_⟩:=cIn b hb
  exact⟨o,v,h2in b hb o z1,z2⟩⟩
 have up2:=LT.same
 have hok2:HOk X.prog X.w H2 s1.heap:=λa o z=>by
  by_cases ha:a∈cs
  ·obtain⟨ob,v,z1,_⟩:=cIn a ha
   rw[h2in a ha ob z1]at z;cases z
   exact⟨z1,ob,z1⟩
  ·rw[h2out a ha]at z
   exact(I1.hok a o z).Zgr (λ_ _ _ q=>q) (λb q=>up2 _ _ q) (λb xs q=>up2 _ _ q) λb ob u q=>up2 _ _ q
 have E1:=I1.env0
 have nfs:∀b∈frs X.stack,b∉cs:=λb hb hc=>by
  obtain⟨o,v,z1,z2,_,z4⟩:=cIn b hc
  obtain⟨x,hx⟩:=(mcs b).mp hc
  rcases Yk.mp (I1.ZdP b hb)with z|z
  ·exact I1.cne x b (up _ _ hx) z
  ·obtain⟨_,o',ho',_⟩:=I1.ok.funs.mem z
   exact absurd (Yp (Yh ho') z4) (Yw _)
 have E2:Env0 X.prog X.w X.K X.mg X.base X.A X.stack s1 H2:=by
  refine⟨E1.frames,E1.mod,λb o z=>⟨(E1.bs b o z).1,?_⟩,E1.bsz,E1.funs,λb hb=>?_,hok2,E1.bare⟩
  ·rw[h2out b (λhc=>by
    obtain⟨_,_,_,_,_,z4⟩:=cIn b hc
    exact absurd (Yp (Yh z) (Yi I1.ok.bsz z4)) (Yw _))]
   exact(E1.bs b o z).2
  ·rw[h2out b (nfs b hb)];exact E1.frf b hb
 have hV:FnV X.prog X.w X.K X.mg X.base (k+1) f (ZpA H2 cs (ZnL js σ) tb):=by
  refine ZrI (vals:=ZnL js σ) S hbody (up2 _ _ e1) (up2 _ _ e2) e3 e4 (λx y a z1 z2=>I1.ok.inj x y a (up _ _ z1) (up _ _ z2)) (λy hy hf=>let ⟨c,z,_⟩:=hfr y hy hf;⟨c,z⟩) (λx a z=>(mcs a).mpr ⟨x,z⟩) LT.is ?hv ?hl
  case hl =>
   have:=congrArg List.length hjs
   simpa[ZnL]using this
  case hv =>
   intro i x v a z1 z2 z3
   have hj:(js.map (X.N[·]?))[i]?=some (some x):=by rw[hjs,Yx,z1];rfl
   rw[Yx]at hj
   cases hji:js[i]? with
   |none=>rw[hji]at hj;cases hj
   |some j =>
    rw[hji]at hj
    have hN:X.N[j]?=some x:=Yo hj
    unfold ZnL at z2
    rw[Yx,hji]at z2
    have hσ:(σ[j]?).join=some v:=Yo z2
    have hσ2:σ[j]?=some (some v):=by
     cases w:σ[j]? with
     |none=>rw[w]at hσ;cases hσ
     |some o=>rw[w]at hσ;rw[show o=some v from hσ]
    have hm:=lookup_mem (S.frs x (List.mem_of_getElem? z1))
    have hkd:=ZcZ hok _ hm rfl
    obtain⟨m0,hn0,hl0⟩:=I1.loc
    obtain⟨u',r',l⟩:=hl0 j x v hN hσ2 (hkd.elim (λz=>.inr (.inl z)) λz=>.inr (.inr z))
    obtain⟨c2,y1,y2⟩:=hfr _ hm rfl
    rw[y1]at z3;cases z3
    rcases l with⟨lk,_⟩|⟨_,c',c3,oc',w1,w2⟩
    ·rcases hkd with z|z
     ·rw[show X.env.kindOf x=some .cell from z]at lk;cases lk
     ·rw[show X.env.kindOf x=some .free from z]at lk;cases lk
    ·rw[y2]at c3;cases c3
     exact⟨u',oc',r',h2in _ ((mcs _).mpr ⟨x,y1⟩) oc' w1,w2⟩
 have h2:=hsp cs H2 LT ⟨_,_,_,_,_,up2 _ _ e1⟩ hV
 have hl:(us++[]).length=ps.length:=by
  rw[List.append_nil,<-r.length]
  exact F.len _ _ _ _ h2
 have hb1:=hb s1 us I1.kIn hl
 rw[List.append_nil]at hb1
 refine wpAny_call (codeAny_mono (F.run X.A X.stack s1 H2 ⟨us,[]⟩ us vs _ E0 hr E2 hb1 r h2) λr s' hq=>?_)
 cases r with
 |error e =>
  obtain⟨_,_,_,_,_,_,_,z⟩:=hq
  exact z.elim
 |ok fl =>
  cases fl with
  |next=>exact False.elim hq
  |brk=>exact False.elim hq
  |cont=>exact False.elim hq
  |ret u =>
   obtain⟨v,H3,os,bare,un,hok3,rv,q⟩:=hq
   have c3:CellsIn cs H3:=λb hb=>by
    obtain⟨o,v,z1,z2⟩:=LT.is b hb
    exact⟨o,v,un.frzs _ _ _ z1,z2⟩
   have nc:∀b o,H1 b=some o->b∉cs:=λb o z hc=>by rw[LT.was b hc]at z;cases z
   refine⟨v,ZdL cs H3,I1.ZoP (ch:=[]) os ⟨λb o z n hb hx=>?_,λb o z n hb hx=>un.slot b o z (by rw[h2out b (nfs b hb)];exact n) hb hx,λb o z n hx=>?_,un.there,λb xs z=>?_,λb o u z=>?_,λb ps z=>?_⟩ (hok3.ZdL c3 λ_ _ z=>z) bare (λb z=>absurd z (by simp)),rv,q⟩
   ·by_cases hc:b∈cs
    ·obtain⟨o',v',z1,z2,_⟩:=cIn b hc
     rw[z1]at z;cases z
     exact(hok3 b _ (un.frzs _ _ _ (h2in b hc _ z1))).1
    ·exact un.keep b o z (by rw[h2out b hc];exact n) hb hx
   ·by_cases hc:b∈cs
    ·exact Zfn hc
    ·rw[Z9 hc]
     exact un.free b o z (by rw[h2out b hc];exact n) hx
   ·rw[Z9 (nc b _ z)]
    exact un.tups b xs (by rw[h2out b (nc b _ z)];exact z)
   ·rw[Z9 (nc b _ z)]
    exact un.frzs b o u (by rw[h2out b (nc b _ z)];exact z)
   ·rw[Z9 (nc b _ z)]
    exact un.tbls b ps (by rw[h2out b (nc b _ z)];exact z)
structure LamSL (X:Cx) (fr:List Str) (js:List Nat) (params:Arguments) (body:Expr) (scope:Scope) (pn:Str):Prop where
 ok:compOk X.env.scope scope=true
 js:js.map (X.N[·]?)=fr.map some
 frs:(fr.all λx=>scope.names.lookup x==some .free)=true
 pl:scope.names.lookup pn=some .local
 co:scope.isCoroutine=false
 gen:scope.isGenerator=false
 bd:∀(q:Str) (cl:List (Str×Addr)) (pm cd ctv u:Value),bindArgs (kla_fn "<lambda>" q params body scope cl pm cd ctv) ⟨[u],[]⟩=pure [(pn,u)]
 fn:∀x,X.fn x=true
theorem ZnM {k m:Nat}{x q pn:Str}{ps fr:List Str}{js:List Nat}{params:Arguments}{body:Expr}{scope:Scope}{lpos:Pos}{P0:Addr}{tb:TE}{sp:Sp}{t:TA}{p pos:Pos}{e:Expr}
  (S:LamSL X fr js params body scope pn)
  (hbody:∀(A':Around) (outer:List Env) (cl:List (Str×Addr)) (L f c:Addr) (s:Shared) (H:Hp),Room k (ZeK X.prog X.w X.K X.mg X.base A' outer (pn::fr) q scope cl L f c s H).A->PE (ZeK X.prog X.w X.K X.mg X.base A' outer (pn::fr) q scope cl L f c s H) body tb)
  (C:Callee X.prog X.w X.K X.mg X.base x m ps sp) (hr:Room m X.A) (hg:Gl X x) (ha:PA X [e,.Lambda params body scope lpos] t) (hdb:(x==("__debug__":Str))=false:=by decide)
  (he:starEach [e,.Lambda params body scope lpos] X.env=(false,eval e X.env)::starEach [.Lambda params body scope lpos] X.env:=by rfl) (hpl:(backTo pos (starEach [.Lambda params body scope lpos] X.env)).any (·.1)=false:=by rfl) :
  PE X (.Call (.Name x p) [e,.Lambda params body scope lpos] [] pos) (Zkg X.prog X.w X.K X.mg X.base k X.env P0 q params body scope js tb sp E0 t):=by
 obtain⟨f,fd,hm,hk,hb,F⟩:=C
 exact ZpD (fr:=fr) (pn:=pn) ⟨λy hy=>ZeD S.ok y hy,ZeC S.ok,λx hx=>beq_iff_eq.mp (List.all_eq_true.mp S.frs x hx),S.pl,S.co,S.gen,S.bd⟩ S.ok S.js S.fn hbody F hr hg hm hk hb ha hdb he hpl
end
end L2
namespace PySem.SeqAt
open PySem Sem
open MeetsSeq PyProof.Rows
theorem ZhY (l:Addr) (items:Array Value) (n:Nat) (dd:Option Addr) (sl:Array (Option Value)) (x:Value) (e:Value->Bool) (i j:Nat) (t:Tok) (hij:i<=j) (hj:j<items.size) (hsmall:(j:Int)<2 ^ 63-1)
  (hit:e items[j]=true) (hno:∀m (hm:m<items.size),i<=m->m<j->e items[m]=false) :
  Meets (Builtin.«list.index» ⟨[.ref l,x,.int (i:Int) t],[]⟩)
   (λA R s=>s.heap.get? l=some {cls:=.type "list",dict:=dd,data:=.seq items n,slots:=sl}/\(∀y,y∈items->EqAt A.in1 s y x (e y))/\R (.ok (.ret (.int j s.toks))) {s with toks:=s.toks+1}):=by
 intro prog w A R s h
 obtain⟨hp,g,d,tk,os⟩:=s;obtain⟨hl,he,h⟩:=h
 wp_walk using wpAny_loadPart' hl
 have a1:((λi:Int=>if i<0 then max 0 (i+(items.size:Int))else i) ((some (i:Int)).getD 0))=((i:Nat):Int):=Yc (by show ¬ ((i:Int)<0);omega)
 have a2:((λi:Int=>if i<0 then max 0 (i+(items.size:Int))else i) ((none:Option Int).getD (2 ^ 63-1)))=2 ^ 63-1:=by simp
 rw[a1,a2]
 exact⟨plainId_quiet plain_index_loop _,codeAny_builtin entry_index_loop (by
  rw[Around.under_plainId plain_index_loop _]
  exact index_loopAt l items n dd sl x e (2 ^ 63-1) j hj hsmall hit (j-i) i rfl hij hno prog w A R _ ⟨hl,he,h⟩)⟩
end PySem.SeqAt
namespace L2
open PySem PySem.Spec PyProof.Rows PySem.W
noncomputable def Zkh (K:Frag):V->List V->Hp->VK->Prop:=λx vs H Q=>∃(l:Addr) (ns:List Int) (k:Int) (i j:Nat),x=.ref l/\vs=[.int k,.int (i:Int)]/\SqL K H l (ns.map V.int)/\ns.length<=100000/\i<=j/\ns[j]?=some k/\(∀m,i<=m->m<j->ns[m]?≠some k)/\Q (.int (j:Nat)) H
section
variable {X:Cx}
theorem ZnN {K:Frag} (hK:X.K=K):MtM X "list.index" (Zkh K):=by
 subst hK
 intro pins s σ H x vs v us Q I rx rv h
 obtain⟨l,ns,k,i,j,rfl,rfl,hH,hz,hij,hjk,hno,q⟩:=h
 cases rx
 obtain⟨u,u2,rfl,ru,ru2⟩:=rv.two
 obtain⟨t,rfl⟩:=ru
 obtain⟨t2,rfl⟩:=ru2
 obtain⟨its,r,pl,_⟩:=I.list hH
 have hi:IntsAre its ns:=intsAre_of r
 have hlen:=r.length
 rw[Yg]at hlen
 obtain⟨⟨cls,dd,data,sl⟩,ho,hc,n,hd⟩:=pl.isList
 simp only at hc hd
 subst hc hd
 obtain⟨hj,hjk⟩:=Yr.mp hjk
 refine call_meets F.slot_list_index ⟨_,ho,rfl⟩ F.entry_list_index (F.args_list_index_3 _ _ _)
  (SeqAt.ZhY l its.toArray n dd sl (.int k t) (isInt k) i j t2 hij (by rw[Yn];omega) (by omega) ?_ ?_) ⟨ho,λy hy=>(eq_isInt k t hi y (by simpa using hy)).at _ _,⟨.int _,H,I.tok _,⟨_,rfl⟩,q⟩⟩
 ·show isInt k its[j]=true
  rw[isInt_at k hi _ (by omega) hj]
  simpa using hjk
 ·intro m hms him hlt
  show isInt k its[m]=false
  have hm:m<ns.length:=by omega
  rw[isInt_at k hi m (by simpa using hms) hm]
  have:=hno m him hlt
  rw[Yf hm]at this
  simpa using λe=>this (by rw[e])
variable {e st:Expr}{te ts:TE}{pos p2:Pos}
noncomputable def ZpE (K:Frag) (te ts:TE):TE:=fun σ H Q=>te σ H λx H1=>ts σ H1 λz H2=>∃a xs k,x=.ref a/\z=.int k/\0<k/\SqL K H2 a xs/\∀p ys,ys.length<=xs.length->(∀y∈ys,y∈xs)->H2 p=none->Q (.ref p) (upd H2 p (.lst ys))
theorem Vals.picks {xs:List V}{us:List Value} (h:Vals xs us):∀ks:List Nat,Vals (ks.filterMap λk=>xs[k]?) (ks.filterMap λk=>us[k]?)
 |[]=>.nil
 |k::ks=>by
  have ih:=Vals.picks h ks
  have hl:=h.length
  by_cases hk:k<xs.length
  ·obtain⟨u,hu,ru⟩:=h.get (Yf hk)
   rw[List.filterMap_cons,List.filterMap_cons,Yf hk,hu]
   exact .cons ru ih
  ·rw[List.filterMap_cons,List.filterMap_cons,List.getElem?_eq_none (by omega),List.getElem?_eq_none (by omega)]
   exact ih
theorem Zki {K:Frag} (hK:X.K=K) (he:PE X e te) (hs:PE X st ts):PE X (.Subscript e (.Slice none none (some st) p2) pos) (ZpE K te ts):=by
 subst hK
 intro pins s σ H Q I h
 refine Subscript_ (thn (he pins s σ H _ I h) λv s1 ⟨x,H1,I1,r1,q1⟩=>?_)
 refine wpAny_Slice ?_
 rw[evalPart_none]
 refine Yb ?_
 refine Yb ?_
 rw[evalPart_some]
 refine thn (hs pins s1 σ H1 _ I1 q1) λvs s2 ⟨z,H2,I2,r2,a,xs,k,e1,e2,hk,hx,q⟩=>?_
 subst e1 e2
 obtain⟨tk,rfl⟩:=r2
 cases r1
 have I4:Inv X pins σ H2 {s2 with heap:=s2.heap.push {cls:=.type "slice",data:=.fields #[.none,.none,.int k tk]}}:=I2.kept (t':=s2.toks) λb ob q=>Yl _ q
 show wpAny (model X.prog X.w) X.A (subscriptTail e (.Slice none none (some st) p2) (.ref a) (.ref s2.heap.objs.size)) (EP X pins σ Q) X.xe {s2 with heap:=s2.heap.push {cls:=.type "slice",data:=.fields #[.none,.none,.int k tk]}}
 obtain⟨its,r,ht,hz⟩:=I4.list hx
 have hlen:=r.length
 refine tail_any (ops:=[.ref a,.ref s2.heap.objs.size]) ht.isList.typeIs slot_list_getitem.lookup ?_ (by with_unfolding_all rfl)
 refine wpAny_getItem_list_slice (s:={s2 with heap:=s2.heap.push {cls:=.type "slice",data:=.fields #[.none,.none,.int k tk]}}) ht.isList (Heap.IsSliceOf.new ..) .none .none (.int k tk) (by simp;omega) ?_ (by rw[Yn]<;>omega)
 have hsz:=slicePick_size_le its.toArray none none (some k)
 have hv:=r.picks (sliceRange (sliceBounds none none (some k) its.toArray.size).1 (sliceBounds none none (some k) its.toArray.size).2.1 (sliceBounds none none (some k) its.toArray.size).2.2)
 have hle:=hv.length
 rw[Yn]at hle
 unfold slicePick at hsz⊢
 rw[Yn,Yn]at hsz
 have e3:(λj:Nat=>its.toArray[j]?)=λj:Nat=>its[j]?:=by funext j;simp
 rw[e3]at hsz⊢
 refine⟨.ref _,_,I4.laid (t':=s2.toks) (o:=.lst ((sliceRange (sliceBounds none none (some k) its.toArray.size).1 (sliceBounds none none (some k) its.toArray.size).2.1 (sliceBounds none none (some k) its.toArray.size).2.2).filterMap λj=>xs[j]?)) (λb ob q=>Yl _ q) (Ye _) ?_,rfl,q _ _ ?_ ?_ (I4.hok.fresh (Ye _))⟩
 ·exact⟨by rw[Yn];omega,_,0,hv,Ys _ rfl⟩
 ·rw[Yn];omega
 ·intro y hy
  obtain⟨m,_,hm⟩:=List.mem_filterMap.mp hy
  exact List.mem_of_getElem? hm
end
end L2
namespace K48
open PySem PySem.Spec PyProof.Rows L2
open PySem.W (nsIn mg_of fnOf keepIn codeIn mg_none_of)
local macro_rules | `(tactic| walk_at "rd") => `(tactic| simp only [tIfS, tNot, tTest, tChain, rI0, rI, rU, tVar, tC, tB, tIf, tAndV, tCall, tCons, tNil, tAsg, tSeq, tRet, tNext, tOp, tUn, tAnd, tOr, tDrop, gName, gSub, tAug, tCB, tSl, tRaise, tLst, tTup, L2.start, tYes, gTup, gCons, gNil, iniC, Option.join_some, Option.join_none, rEq, rNe, ZmJ, ZmK, ZmL, ZmM, ZmN, ZmO, tBM, Bool.true_eq_false, YG, List.map_nil, List.cons_append, List.nil_append, YN, List.length_nil, List.replicate, List.append_nil, List.set_cons_zero, List.set_cons_succ, List.getElem?_cons_zero, List.getElem?_cons_succ, Option.some.injEq, V.int.injEq, V.bl.injEq, V.ref.injEq, List.cons.injEq, and_true, true_and, exists_eq_left, exists_eq_left', exists_and_left, exists_eq, decide_eq_true_eq, Bool.not_eq_true', decide_eq_false_iff_not, cxK, and_assoc, Bool.false_eq_true, ↓reduceIte, ZmH, Zjk, ZkP, iRng1, iRng2, iList, iZip, rIxL, rIxT, rSetL, rCat, rIsi, tDelT, tPar, rInsert, rIndex, rLen, rLof, rTof, tChain3, iSeq, rEqD, tRngV, rLstR, iEnum, tMaxD, tMinD, rIndexF, rOr, rAll, rIxQ, rSlL, tPart, tNoPart, tSl, ipI, rAppend, rRep, ZmP, Zo9, V.str.injEq, tDGet, rCatU, tDNewT, tDSetD, tDVals, rLVals, tLam, Zjy, Zma, Zkg, Zkh, ZpE])
noncomputable def top (i:Nat):Stmt:=PySem.Challenge.pw_dipkin_k48_none_longer_shown.main.body.getD i (.Pass ⟨0,0,0,0⟩)
noncomputable abbrev Zag:Stmt:=top 4
noncomputable abbrev ZaG:Stmt:=top 5
noncomputable abbrev ZdM:Stmt:=top 6
noncomputable abbrev Zbb:Stmt:=top 7
noncomputable abbrev Zcw:Stmt:=top 8
noncomputable abbrev Zbz:Stmt:=top 9
noncomputable abbrev ZaH:Stmt:=top 10
noncomputable abbrev s_settle:Stmt:=top 12
noncomputable abbrev s_tree_of:Stmt:=top 13
noncomputable abbrev s_way_up:Stmt:=top 14
noncomputable abbrev s_fences_of:Stmt:=top 15
noncomputable abbrev Z4:Stmt:=top 17
noncomputable abbrev Z5:Stmt:=top 19
noncomputable abbrev Zam:Stmt:=top 20
noncomputable abbrev Zah:Stmt:=top 22
noncomputable abbrev Zbc:Stmt:=top 23
noncomputable abbrev ZbA:Stmt:=top 24
noncomputable abbrev Zcx:Stmt:=top 25
noncomputable abbrev Z6:Stmt:=top 26
noncomputable abbrev Zan:Stmt:=top 27
noncomputable abbrev Zao:Stmt:=top 28
noncomputable abbrev ZaI:Stmt:=top 29
noncomputable abbrev Zbd:Stmt:=top 31
noncomputable abbrev Zbe:Stmt:=top 32
noncomputable abbrev ZbB:Stmt:=top 33
noncomputable abbrev Zap:Stmt:=top 34
noncomputable abbrev ZaJ:Stmt:=top 35
noncomputable abbrev Zaq:Stmt:=top 36
noncomputable abbrev Zai:Stmt:=top 37
noncomputable abbrev Zbf:Stmt:=top 38
noncomputable abbrev ZaK:Stmt:=top 39
noncomputable abbrev Zbg:Stmt:=top 40
noncomputable abbrev ZP:Stmt:=top 41
noncomputable abbrev Zar:Stmt:=top 42
noncomputable abbrev s_law:Stmt:=top 43
structure Txt (K:PySem.W.Frag) (mg:Str->Option Value):Prop where
 b_all:mg "all"=none
 b_bool:mg "bool"=none
 b_enumerate:mg "enumerate"=none
 b_isinstance:mg "isinstance"=none
 b_len:mg "len"=none
 b_list:mg "list"=none
 b_max:mg "max"=none
 b_min:mg "min"=none
 b_range:mg "range"=none
 b_tuple:mg "tuple"=none
 b_zip:mg "zip"=none
 c_DipError:mg "DipError"=some (.ref (clsAt mg "DipError"))
 x_DipError:PySem.W.excIn K (clsAt mg "DipError") bmV newV=true
 c_Empty:mg "Empty"=some (.ref (clsAt mg "Empty"))
 x_Empty:PySem.W.excIn K (clsAt mg "Empty") bmV newV=true
 ty_tuple:PySem.W.kitOne K (.type "tuple") (.ref (clsAt mg "DipError"))=some false
 ty_list:PySem.W.kitOne K (.type "list") (.ref (clsAt mg "DipError"))=some false
noncomputable def tabsL (K:PySem.W.Frag) (mg:Str->Option Value):List (Addr×Str):=[(Zlc K mg "longest_twice",lamQ "longest_twice")]
noncomputable abbrev SpT:=PySem.W.Frag->(Str->Option Value)->Sp
noncomputable def spLaw (K:PySem.W.Frag) (mg:Str->Option Value):Sp:=λvs H Q E=>∃(a:Addr) (ns:List Int),vs=[.ref a]/\SqL K H a (ns.map V.int)/\ns.length<=63/\(∀p∈tabsL K mg,H p.1=some (ZhW p.2))/\∀H',Q (.bl true) H'
noncomputable def ZaX:SpT:=λK mg vs H Q E=>∃(r:Addr) (ns:List Int) (k:Int),vs=[.ref r,.int k]/\(SqL K H r (ns.map V.int)\/SqT K H r (ns.map V.int))/\ns.length<=1000/\0<=k/\k<=1000/\(k<=ns.length->Q .non H)/\((ns.length:Int)<k->E (.ref (clsAt mg "Empty")) none H)
noncomputable def Zd0:SpT:=λK mg vs H Q E=>∃(a:Addr) (ns:List Int) (k:Int),vs=[.ref a,.int k]/\SqL K H a (ns.map V.int)/\0<=k/\k<=100/\∀p H',H p=none->Zh H H'->ZA H' p->Q (.ref p) H'
noncomputable def ZaL:SpT:=λK mg vs H Q E=>∃(p:Addr) (many:Int),vs=[.ref p,.int many]/\0<many/\many<=1000000001/\ZA H p/\∀d H',0<=d->d<many->ZA H' p->Exc p H H'->Q (.int d) H'
noncomputable def sp__law_row:SpT:=λK mg vs H Q E=>∃(p:Addr) (most:Int),vs=[.ref p,.int most]/\0<=most/\most<=1000/\ZA H p/\∀(r:Addr) (ns:List Int) H',H r=none->(ns.length:Int)<=most->H' r=some (.lst (ns.map V.int))->ZA H' p->Exc p H H'->Q (.ref r) H'
noncomputable def sp_settle:SpT:=λK mg vs H Q E=>∃(el sp:Addr) (es:List Int) (A B:List Nat) (i:Nat),vs=[.ref el,.ref sp,.int i,.int A.length]/\H el=some (.lst (es.map V.int))/\H sp=some (.lst (ZO (A++B)))/\el≠sp/\i<es.length/\(∀q∈A++B,q<es.length)/\(A++B).length<=1000 /\
 ∀H',(∀b o,b≠el->b≠sp->H b=some o->H' b=some o)->H' el=some (.lst ((Zhg es A B i).map V.int))->H' sp=some (.lst (ZO (A++[i])))->Q .non H'
noncomputable def sp_tree_of:SpT:=λK mg vs H Q E=>∃(r:Addr) (ns:List Int),vs=[.ref r]/\(SqL K H r (ns.map V.int)\/SqT K H r (ns.map V.int))/\ns.length<=1000/\∀(t:Addr) (es:List Int) H',ZfF ns es->Zh H H'->H' t=some (.tup (es.map V.int))->Q (.ref t) H'
noncomputable def sp_way_up:SpT:=λK mg vs H Q E=>∃(t:Addr) (T:List Int) (p:Nat),vs=[.ref t,.int p]/\H t=some (.tup (T.map V.int))/\T.length<=1000/\p<T.length/\∀(w:Addr) H',H w=none->Zh H H'->H' w=some (.lst ((wayI T p).map V.int))->Q (.ref w) H'
noncomputable def sp_fences_of:SpT:=λK mg vs H Q E=>∃(t:Addr) (ns T:List Int),vs=[.ref t]/\H t=some (.tup (T.map V.int))/\ZfF ns T/\ns.length<=1000/\∀(l:Addr) H',Zh H H'->ZaW H' l ns.length (λp=>(ZeJ (nth ns) p,Zf5 (nth ns) ns.length p))->Q (.ref l) H'
noncomputable def ZbC:SpT:=λK mg vs H Q E=>∃(t:Addr) (ns T:List Int),vs=[.ref t]/\H t=some (.tup (T.map V.int))/\ZfF ns T/\ns.length<=1000/\∀(l:Addr) H',H l=none->Zh H H'->H' l=some (.lst ((Zc3 ns).map V.int))->Q (.ref l) H'
noncomputable def ZbD:SpT:=λK mg vs H Q E=>∃(r:Addr) (ns:List Int),vs=[.ref r]/\(SqL K H r (ns.map V.int)\/SqT K H r (ns.map V.int))/\ns.length<=1000/\∀(l:Addr) H',H l=none->Zh H H'->H' l=some (.lst ((Zc3 ns).map V.int))->Q (.ref l) H'
noncomputable def ZcF:SpT:=λK mg vs H Q E=>∃(d:Int) (k:Nat),vs=[.int d,.int k]/\Q (.int (sw d k)) H
noncomputable def Zab (ns:List Int) (c a:Nat):List Int:=(List.range c).map λi=>sw (ZR (nth ns) (a+i)) i
noncomputable def ZG (n c:Nat):Nat:=n+1-c
noncomputable def Zs (ns:List Int) (c:Nat):Nat->Nat->Bool:=λa b=>decide (Zab ns c a=Zab ns c b)
noncomputable def Zcm (ns:List Int) (c:Nat):List (List Nat):=(Zk (Zs ns c) (ZG ns.length c)).map (Zdj (Zs ns c) (ZG ns.length c))
noncomputable def ZrJ (H0 H:Hp) (l:Addr) (rs:List (List Nat)):Prop:=∃as:List Addr,H l=some (.lst (as.map V.ref))/\as.Nodup/\l∉as/\as.length=rs.length/\(∀i (h1:i<as.length) (h2:i<rs.length),H as[i]=some (.lst (ZO rs[i])))/\H0 l=none/\∀a∈as,H0 a=none
noncomputable def KeysAt (H:Hp) (l:Addr) (m:Nat) (f:Nat->List Int):Prop:=∃as:List Addr,H l=some (.lst (as.map V.ref))/\as.length=m/\∀i (h:i<as.length),H as[i]=some (.tup ((f i).map V.int))
noncomputable def Zb3:SpT:=λK mg vs H Q E=>∃(l:Addr) (ns:List Int) (c:Nat),vs=[.ref l,.int (c:Int)]/\H l=some (.lst ((Zc3 ns).map V.int))/\ns.length<=1000/\1<=c/\c<=2000/\∀(q:Addr) H',H q=none->Zh H H'->KeysAt H' q (ZG ns.length c) (Zab ns c)->Q (.ref q) H'
noncomputable def Zd1:SpT:=λK mg vs H Q E=>∃(l:Addr) (ns:List Int) (c:Nat),vs=[.ref l,.int (c:Int)]/\H l=some (.lst ((Zc3 ns).map V.int))/\ns.length<=1000/\1<=c/\c<=2000/\∀(q:Addr) H',Zh H H'->ZrJ H H' q (Zcm ns c)->Q (.ref q) H'
noncomputable def Zlf (E:Nat->Nat->Bool) (m:Nat):Option (Nat×Nat)->Prop
 |none=>∀a b,a<b->b<m->E a b=false
 |some (a,b)=>a<b/\b<m/\E a b=true/\(∀x y,x<y->y<m->E x y=true->a<=x)/\∀y,a<y->y<m->E a y=true->b<=y
noncomputable def PrAt (H:Hp) (y:V):Option (Nat×Nat)->Prop
 |none=>y=.non
 |some (a,b)=>∃t,y=.ref t/\H t=some (.tup [.int (a:Int),.int (b:Int)])
noncomputable def ZeL:SpT:=λK mg vs H Q E=>∃(l:Addr) (ns:List Int) (c:Nat),vs=[.ref l,.int (c:Int)]/\H l=some (.lst ((Zc3 ns).map V.int))/\ns.length<=1000/\1<=c/\c<=2000/\∀(y:V) (o:Option (Nat×Nat)) H',Zlf (Zs ns c) (ZG ns.length c) o->PrAt H' y o->Zh H H'->Q y H'
noncomputable def ZfK (P:Program) (w:World) (K:PySem.W.Frag) (mg:Str->Option Value) (base:Heap):Sp:=λvs H Q E=>∃(f:Addr) (most:Nat) (sp:V->Hp->VK->Prop) (PrO:Nat->Option (Nat×Nat)->Prop),vs=[.int (most:Int),.ref f]/\Zld H f/\FnV P w K mg base 7 f sp/\1<=most/\most<=1000/\(∀o,PrO 1 o->o≠none)/\(∀(n:Nat) (H1:Hp) (R:VK),1<=n->n<=most->Zh H H1->(∀y o H2,Zh H1 H2->PrO n o->PrAt H2 y o->R y H2)->sp (.int (n:Int)) H1 R)/\∀(t:Addr) (c a b:Nat) H',Zh H H'->1<=c->c<=most->PrO c (some (a,b))->(c<most->PrO (c+1) none)->H' t=some (.tup [.int (c:Int),.int (a:Int),.int (b:Int)])->Q (.ref t) H'
noncomputable def ZhZ (ns:List Int) (c a b:Nat):Prop:=1<=c/\c<ns.length/\Zlf (Zs ns c) (ZG ns.length c) (some (a,b))/\Zlf (Zs ns (c+1)) (ZG ns.length (c+1)) none
noncomputable def ZaM:SpT:=λK mg vs H Q E=>∃(r:Addr) (ns:List Int),vs=[.ref r]/\(SqL K H r (ns.map V.int)\/SqT K H r (ns.map V.int))/\ns.length<=1000/\ZnI K mg "longest_twice" H/\(ns.length<2->E (.ref (clsAt mg "Empty")) none H)/\(2<=ns.length->∀(t:Addr) (c a b:Nat) H',Zh H H'->ZhZ ns c a b->H' t=some (.tup [.int (c:Int),.int (a:Int),.int (b:Int)])->Q (.ref t) H')
noncomputable def Zbk:SpT:=λK mg vs H Q E=>∃(p r:Addr) (xs:List V),vs=[.ref p,.ref r]/\ZA H p/\r≠p/\H r=some (.lst xs)/\xs.length<=1000/\∀(u:Addr) H',H u=none->(H' u=some (.lst xs)\/H' u=some (.tup xs))->ZA H' p->Exc p H H'->Q (.ref u) H'
noncomputable def ZgB:SpT:=λK mg vs H Q E=>∃(r:Addr) (ns:List Int) (i j:Nat),vs=[.ref r,.int i,.int j]/\(SqL K H r (ns.map V.int)\/SqT K H r (ns.map V.int))/\i<ns.length/\j<ns.length/\Q (.int ((if nth ns j<nth ns i then j else i:Nat):Int)) H
noncomputable def Zcn:SpT:=λK mg vs H Q E=>∃(r:Addr) (ns:List Int),vs=[.ref r]/\(SqL K H r (ns.map V.int)\/SqT K H r (ns.map V.int))/\ns.length<=1000/\∀(l:Addr) H',Zh H H'->Rows H' l (Zck (nth ns) ns.length)->Q (.ref l) H'
noncomputable def ZfL:SpT:=λK mg vs H Q E=>∃(l l':Addr) (f g:Nat->Int) (n n' x y size:Nat),vs=[.ref l,.ref l',.int x,.int y,.int size]/\Rows H l (Zck f n)/\Rows H l' (Zck g n')/\x+size<=n/\y+size<=n'/\n<=1000/\n'<=1000 /\
 (ZlW f g x y size->∀H',Zh H H'->Q .non H')/\(∀a m,Zb2 f g x y size a m->∀(t:Addr) H',Zh H H'->H' t=some (.tup [.int (a:Nat),.int ((a+m:Nat):Int)])->Q (.ref t) H')
noncomputable def TupsU (H:Hp) (l:Addr) (rs:List (List Int)):Prop:=∃as:List Addr,H l=some (.tup (as.map V.ref))/\as.length=rs.length/\∀i (h1:i<as.length) (h2:i<rs.length),H as[i]=some (.tup (rs[i].map V.int))
noncomputable def Zf8 (H:Hp) (l:Addr) (rs:List (List Int)):Prop:=ZI H l rs\/TupsU H l rs
theorem Zf8.same {H H':Hp}{l:Addr}{rs:List (List Int)} (R:Zf8 H l rs) (s:Zh H H'):Zf8 H' l rs:=by
 rcases R with R|⟨as,h1,h2,h3⟩
 ·exact .inl (R.same s)
 ·exact .inr ⟨as,s _ _ h1,h2,λi i1 i2=>s _ _ (h3 i i1 i2)⟩
noncomputable def WalkT (it:It) (H1:Hp) (rs:List (List Int)):Prop:=(∀i H,Zh H1 H->i<rs.length->it.go i H)/\(∀H,Zh H1 H->it.stop rs.length H) /\
  ∀i x H H' (h:i<rs.length),Zh H1 H->it.yld i H x H'->H'=H/\∃a,x=.ref a/\H a=some (.tup (rs[i].map V.int))
theorem Zf8.seq {K:PySem.W.Frag}{H1:Hp}{d:Addr}{rs:List (List Int)}{g:TG}{tt:TT}{te:TE}{σ0:L2.St}{Q:VK} (R:Zf8 H1 d rs) (h:∀it,WalkT it H1 rs->Zf2 it g tt te σ0 Q H1):((∃xs,SqL K H1 d xs)/\Zf2 (Itl K d) g tt te σ0 Q H1)\/((∃xs,SqT K H1 d xs)/\Zf2 (Itt K d) g tt te σ0 Q H1):=by
 rcases R with R|⟨as,e,hl,hh⟩
 ·exact .inl ⟨R.sq,h _ R.walk⟩
 ·refine .inr ⟨⟨_,SqT.of e⟩,h _ ⟨λi H s hi=>⟨_,V.ref (as[i]'(by omega)),SqT.of (s _ _ e),by simp[show i<as.length by omega]⟩,λH s=>⟨_,SqT.of (s _ _ e),by simp[hl]⟩,λi x H H' hi s y=>?_⟩⟩
  obtain⟨e1,y⟩:=y
  have h1:=y _ (SqT.of (s _ _ e))
  rw[Yx,Yf (show i<as.length by omega)]at h1
  cases h1
  exact⟨e1,_,rfl,s _ _ (hh i (by omega) hi)⟩
noncomputable def Zdk:SpT:=λK mg vs H Q E=>∃n a b:Int,vs=[.int n,.int a,.int b]/\((0<=a/\a<=b/\b<n)->Q (.bl true) H)/\(¬ (0<=a/\a<=b/\b<n)->Q (.bl false) H)
noncomputable def Zdl:SpT:=λK mg vs H Q E=>∃(l:Addr) (os:List (List Int)),vs=[.ref l]/\Zf8 H l os/\os.length<=1000/\∀H',Zh H H'->Q (.bl true) H'
noncomputable def pF (m a:Nat):List (List Int):=(List.range (m-(a+1))).map λb=>[(a:Int),((a+1+b:Nat):Int)]
noncomputable def Zbl (m:Nat):List (List Int):=(List.range m).flatMap (pF m)
noncomputable def Zbm:SpT:=λK mg vs H Q E=>∃m:Nat,vs=[.int (m:Int)]/\m<=100/\∀(l:Addr) H',H l=none->ZI H' l (Zbl m)->Zh H H'->Q (.ref l) H'
noncomputable def ZbE (f:Nat->Int) (size x y:Nat) (a b:Int):Prop:=0<=a/\a<=b/\b<size/\(Zz f (x+a.toNat) (b-a).toNat:Int)-(x:Int)≠(Zz f (y+a.toNat) (b-a).toNat:Int)-(y:Int)
noncomputable def ZpF (f:Nat->Int) (n size:Nat) (rs:List (List Int)):Prop:=rs.map (λr=>r.take 2)=Zbl (n+1-size)/\∀r∈rs,ZbE f size (r.getD 0 0).toNat (r.getD 1 0).toNat (r.getD 2 0) (r.getD 3 0)
noncomputable def ZgY (f:Nat->Int) (n size:Nat) (rs:List (List Int)):Prop:=rs.map (λr=>r.take 2)=Zbl (n+1-size)/\∀r∈rs,∃x y a w:Nat,r=[(x:Int),(y:Int),(a:Int),((a+w:Nat):Int)]/\Zb2 f f x y size a w
noncomputable def ZcG:SpT:=λK mg vs H Q E=>∃(r:Addr) (ns:List Int),vs=[.ref r]/\(SqL K H r (ns.map V.int)\/SqT K H r (ns.map V.int))/\ns.length<=100/\ZnI K mg "longest_twice" H/\(ns.length<2->E (.ref (clsAt mg "Empty")) none H)/\(2<=ns.length->∀(l:Addr) (c a b:Nat) (rs:List (List Int)) H',Zh H H'->H l=none->ZhZ ns c a b->ZI H' l rs->ZgY (nth ns) ns.length (c+1) rs->Q (.ref l) H')
noncomputable def ZeM:SpT:=λK mg vs H Q E=>∃(l l':Addr) (f:Nat->Int) (n x y a m:Nat),vs=[.ref l,.ref l',.int x,.int y,.int a,.int ((a+m:Nat):Int)]/\Rows H l (Zck f n)/\Rows H l' (Zck f n)/\x+a+m<n/\y+a+m<n/\n<=1000/\Q (.bl (decide ((Zz f (x+a) m:Int)-(x+a:Nat)≠(Zz f (y+a) m:Int)-(y+a:Nat)))) H
noncomputable def Zdm:SpT:=λK mg vs H Q E=>∃(r:Addr) (ns:List Int) (a m:Nat),vs=[.ref r,.int (a:Int),.int ((a+m:Nat):Int)]/\H r=some (.lst (ns.map V.int))/\a+m<ns.length/\ns.length<=1000/\∀H',Zh H H'->Q (.int (Zz (nth ns) a m:Nat)) H'
noncomputable def Zbn:SpT:=λK mg vs H Q E=>∃(r t:Addr) (ns:List Int) (size x y:Nat) (a b:Int),vs=[.ref r,.int (size:Int),.ref t]/\H r=some (.lst (ns.map V.int))/\H t=some (.tup [.int (x:Int),.int (y:Int),.int a,.int b])/\x+size<=ns.length/\y+size<=ns.length/\ns.length<=1000/\∀(c:Bool) H',Zh H H'->(c=true↔ZbE (nth ns) size x y a b)->Q (.bl c) H'
noncomputable def ZaY:SpT:=λK mg vs H Q E=>∃(r:Addr) (ns:List Int) (size x y a w:Nat),vs=[.ref r,.int (size:Int),.int (x:Int),.int (y:Int)]/\H r=some (.lst (ns.map V.int))/\x+size<=ns.length/\y+size<=ns.length/\ns.length<=1000/\1<=size/\Zb2 (nth ns) (nth ns) x y size a w/\∀(t:Addr) H',Zh H H'->H' t=some (.tup [.int (a:Int),.int ((a+w:Nat):Int)])->Q (.ref t) H'
noncomputable def Zco:SpT:=λK mg vs H Q E=>∃(r:Addr) (ns:List Int) (size:Nat),vs=[.ref r,.int (size:Int)]/\H r=some (.lst (ns.map V.int))/\1<=size/\size<=ns.length+1/\ns.length<=50/\∀(l:Addr) H',H l=none->ZI H' l (Zbl (ns.length+1-size))->Zh H H'->Q (.ref l) H'
noncomputable def Zh0 (rs:List (List Int)):Prop:=rs.length<=1000/\∀r∈rs,r.length=4
noncomputable def ZbO:SpT:=λK mg vs H Q E=>∃(r l:Addr) (ns:List Int) (size:Nat) (rs:List (List Int)),vs=[.ref r,.int (size:Int),.ref l]/\H r=some (.lst (ns.map V.int))/\ZI H l rs/\Zh0 rs/\1<=size/\size<=ns.length+1/\ns.length<=50/\∀(c:Bool) H',Zh H H'->(c=true↔ZpF (nth ns) ns.length size rs)->Q (.bl c) H'
noncomputable def Zdn:SpT:=λK mg vs H Q E=>∃(r l:Addr) (ns:List Int) (size:Nat) (rs:List (List Int)),vs=[.ref r,.int (size:Int),.ref l]/\(SqL K H r (ns.map V.int)\/SqT K H r (ns.map V.int))/\Zf8 H l rs/\Zh0 rs/\1<=size/\size<=ns.length+1/\ns.length<=50/\∀(c:Bool) H',Zh H H'->(c=true↔ZpF (nth ns) ns.length size rs)->Q (.bl c) H'
noncomputable def Zd2:SpT:=λK mg vs H Q E=>∃(p l:Addr) (rs:List (List Int)),vs=[.ref p,.ref l]/\ZA H p/\l≠p/\ZI H l rs/\rs.length<=990/\(∀r∈rs,r.length=4)/\∀(l':Addr) (rs':List (List Int)) H',H l'=none->ZI H' l' rs'->rs'.length<=rs.length+1->(∀r∈rs',r.length=4)->ZA H' p->Exc p H H'->Q (.ref l') H'
noncomputable def Za6:SpT:=λK mg vs H Q E=>∃(r l:Addr) (ns:List Int) (size:Nat) (rs:List (List Int)),vs=[.ref r,.ref l,.int (size:Int)]/\H r=some (.lst (ns.map V.int))/\ZI H l rs/\Zh0 rs/\ZgY (nth ns) ns.length size rs/\1<=size/\size<=ns.length+1/\ns.length<=50/\∀H',Zh H H'->Q (.bl true) H'
noncomputable def ZcH:SpT:=λK mg vs H Q E=>∃(p r l:Addr) (ns:List Int) (size:Nat) (rs:List (List Int)),vs=[.ref p,.ref r,.int (size:Int),.ref l]/\ZA H p/\r≠p/\l≠p/\H r=some (.lst (ns.map V.int))/\ZI H l rs/\Zh0 rs/\1<=size/\size<=ns.length+1/\ns.length<=50/\∀H',ZA H' p->Exc p H H'->Q (.bl true) H'
section
variable {P:Program}{w:World}{K:PySem.W.Frag}{mg:Str->Option Value}{base:Heap}
theorem Zhh:FnScope ["row","fewest"] ["row","fewest"] (defScope Zag):=⟨rfl,rfl,rfl,by decide +kernel,rfl,by decide +kernel,by decide +kernel⟩
theorem ZiR:FnScope ["many","a","b"] ["many","a","b"] (defScope ZaG):=⟨rfl,rfl,rfl,by decide +kernel,rfl,by decide +kernel,by decide +kernel⟩
theorem ZnO:FnScope ["row","one","other"] ["row","one","other"] (defScope ZdM):=⟨rfl,rfl,rfl,by decide +kernel,rfl,by decide +kernel,by decide +kernel⟩
theorem Zbo:FnScope ["row","table","lows","size"] ["row"] (defScope Zbb):=⟨rfl,rfl,rfl,by decide +kernel,rfl,by decide +kernel,by decide +kernel⟩
theorem ZcI:FnScope ["ones","others","one","other","size","more","here","there","a"] ["ones","others","one","other","size"] (defScope Zcw):=⟨rfl,rfl,rfl,by decide +kernel,rfl,by decide +kernel,by decide +kernel⟩
theorem Zlg:FnScope ["ones","others","one","other","a","b"] ["ones","others","one","other","a","b"] (defScope Zbz):=⟨rfl,rfl,rfl,by decide +kernel,rfl,by decide +kernel,by decide +kernel⟩
theorem ZiS:FnScope ["entries"] ["entries"] (defScope ZaH):=⟨rfl,rfl,rfl,by decide +kernel,rfl,by decide +kernel,by decide +kernel⟩
theorem sc_settle:FnScope ["elders","spine","place","keep"] ["elders","spine","place","keep"] (defScope s_settle):=⟨rfl,rfl,rfl,by decide +kernel,rfl,by decide +kernel,by decide +kernel⟩
theorem sc_tree_of:FnScope ["row","elders","spine","place","keep"] ["row"] (defScope s_tree_of):=⟨rfl,rfl,rfl,by decide +kernel,rfl,by decide +kernel,by decide +kernel⟩
theorem sc_way_up:FnScope ["tree","place","way","at"] ["tree","place"] (defScope s_way_up):=⟨rfl,rfl,rfl,by decide +kernel,rfl,by decide +kernel,by decide +kernel⟩
theorem sc_fences_of:FnScope ["tree","fences","place","way","ahead","behind"] ["tree"] (defScope s_fences_of):=⟨rfl,rfl,rfl,by decide +kernel,rfl,by decide +kernel,by decide +kernel⟩
theorem ZgC:FnScope ["tree"] ["tree"] (defScope Z4):=⟨rfl,rfl,rfl,by decide +kernel,rfl,by decide +kernel,by decide +kernel⟩
theorem ZgD:FnScope ["row"] ["row"] (defScope Z5):=⟨rfl,rfl,rfl,by decide +kernel,rfl,by decide +kernel,by decide +kernel⟩
theorem Zh1:FnScope ["distance","size"] ["distance","size"] (defScope Zam):=⟨rfl,rfl,rfl,by decide +kernel,rfl,by decide +kernel,by decide +kernel⟩
theorem Zb4:FnScope ["told","size","keys","a"] ["told","size"] (defScope Zah):=⟨rfl,rfl,rfl,by decide +kernel,rfl,by decide +kernel,by decide +kernel⟩
theorem Zcp:FnScope ["told","size","groups","a","key"] ["told","size"] (defScope Zbc):=⟨rfl,rfl,rfl,by decide +kernel,rfl,by decide +kernel,by decide +kernel⟩
theorem ZgZ:FnScope ["told","size","group"] ["told","size"] (defScope ZbA):=⟨rfl,rfl,rfl,by decide +kernel,rfl,by decide +kernel,by decide +kernel⟩
theorem Za7:FnScope ["most","pair_at","size","pair","above","middle","found"] ["most","pair_at"] (defScope Zcx):=⟨rfl,rfl,rfl,by decide +kernel,rfl,by decide +kernel,by decide +kernel⟩
theorem ZdN:FnScope ["row","told"] ["row"] (defScope Z6):=⟨rfl,rfl,rfl,by decide +kernel,rfl,by decide +kernel,by decide +kernel⟩
theorem Zh2:FnScope ["many"] ["many"] (defScope Zan):=⟨rfl,rfl,rfl,by decide +kernel,rfl,by decide +kernel,by decide +kernel⟩
theorem ZcJ:FnScope ["row","size","steps"] ["row"] (defScope Zao):=⟨rfl,rfl,rfl,by decide +kernel,rfl,by decide +kernel,by decide +kernel⟩
theorem Zdo:FnScope ["row","size","shown","beginnings","steps"] ["row","size","shown"] (defScope ZaI):=⟨rfl,rfl,rfl,by decide +kernel,rfl,by decide +kernel,by decide +kernel⟩
theorem Zaa:FnScope ["script","k","cell","seed","number","turn"] ["script","k"] (defScope Zbd):=⟨rfl,rfl,rfl,by decide +kernel,rfl,by decide +kernel,by decide +kernel⟩
theorem Zf9:FnScope ["pot","many","digit"] ["pot","many"] (defScope Zbe):=⟨rfl,rfl,rfl,by decide +kernel,rfl,by decide +kernel,by decide +kernel⟩
theorem ZaA:FnScope ["pot","most","many","kind","turn","row","k"] ["pot","most"] (defScope ZbB):=⟨rfl,rfl,rfl,by decide +kernel,rfl,by decide +kernel,by decide +kernel⟩
theorem Zh3:FnScope ["pot","some"] ["pot","some"] (defScope Zap):=⟨rfl,rfl,rfl,by decide +kernel,rfl,by decide +kernel,by decide +kernel⟩
theorem ZiT:FnScope ["row","a","b"] ["row","a","b"] (defScope ZaJ):=⟨rfl,rfl,rfl,by decide +kernel,rfl,by decide +kernel,by decide +kernel⟩
theorem ZaB:FnScope ["row","size","entry","one","other","a","b"] ["row","size","entry"] (defScope Zaq):=⟨rfl,rfl,rfl,by decide +kernel,rfl,by decide +kernel,by decide +kernel⟩
theorem Zb5:FnScope ["row","size","one","other","wide","a"] ["row","size","one","other"] (defScope Zai):=⟨rfl,rfl,rfl,by decide +kernel,rfl,by decide +kernel,by decide +kernel⟩
theorem Zga:FnScope ["row","size","many"] ["row","size"] (defScope Zbf):=⟨rfl,rfl,rfl,by decide +kernel,rfl,by decide +kernel,by decide +kernel⟩
theorem ZiU:FnScope ["row","size","shown"] ["row","size","shown"] (defScope ZaK):=⟨rfl,rfl,rfl,by decide +kernel,rfl,by decide +kernel,by decide +kernel⟩
theorem ZaN:FnScope ["pot","shown","bent","way","at","entry","spot"] ["pot","shown"] (defScope Zbg):=⟨rfl,rfl,rfl,by decide +kernel,rfl,by decide +kernel,by decide +kernel⟩
theorem Za8:FnScope ["row","shown","size","some"] ["row","shown","size"] (defScope ZP):=⟨rfl,rfl,rfl,by decide +kernel,rfl,by decide +kernel,by decide +kernel⟩
theorem ZcK:FnScope ["pot","row","size","shown","handed","told"] ["pot","row","size","shown"] (defScope Zar):=⟨rfl,rfl,rfl,by decide +kernel,rfl,by decide +kernel,by decide +kernel⟩
theorem sc_law:FnScope ["script","k","pot","row","size","shown","kept","turn","some"] ["script"] (defScope s_law):=⟨rfl,rfl,rfl,by decide +kernel,rfl,by decide +kernel,by decide +kernel⟩
theorem Zkj {f:Addr}{fd:FuncData} (F:Fun K "_law_deal" "_law_deal" Zbd f fd) (T:Txt K mg):FnOk P w K mg base (CXE P w) 1 f fd ["script","k"] (Zd0 K mg):=by
 refine F.okX Zaa (λvs H Q E h=>?_) (λcdv A outer s H vs Q E hr h=>?_)
 ·obtain⟨a,ns,k,rfl,_⟩:=h;rfl
 obtain⟨a,ns,k,rfl,hS,h0,h1,k1⟩:=h
 refine⟨_,(Zd (Zq (i:=2) Zaa.nd rfl (Or.inl rfl) Ze)
   (Zd (Z0 (Zw Zep (pv 1) (Zm (Zu (K:=K) rfl) rfl T.b_len Yy (Za (pv 0) Zb)) (Zx _)) (Zf (Zq (i:=2) Zaa.nd rfl (Or.inl rfl) (Zj Zdh (ZT ZK (pv 0) (pv 1) (λ_ _=>rfl)) (Zj Zcj (Zj Zcj (Zj Zcj (Zj ZeB Ze Ze) (Zj ZeB Ze Ze)) (Zj ZeB Ze Ze)) (Zj ZeB Ze Ze))))) ZH)
   (Zd (Z0 (Zw ZoU (pv 2) (Zj ZeB Ze Ze) (Zx _)) (Zf (Zr (ZaT (Za (Zj ZS (pv 2) (Zj ZeB Ze Ze)) Zb)))) ZH)
   (Zd (Zq (i:=3) Zaa.nd rfl (Or.inl rfl) (Zj ZC (Zj ZC (Zj Zdh (pv 2) Ze) (Zj Zcj Ze (pv 1))) Ze))
   (Zd (Zq (i:=4) Zaa.nd rfl (Or.inl rfl) Ze)
   (Zd (ZaU (Zby PassesOwn.never rfl (ZU rfl T.b_range (Za Ze Zb)) (Zl (i:=5) Zaa.nd rfl (Or.inl rfl)) (Zd (Zq (i:=3) Zaa.nd rfl (Or.inl rfl) (Zj Zdh (Zj ZC (Zj Zcj (pv 3) Ze) Ze) Ze))
   (Zf (Zq (i:=4) Zaa.nd rfl (Or.inl rfl) (Zj ZC (Zj Zcj (pv 4) Ze) (Zj Zdh (Zj ZcD (Zj Zdh (Zj Zcj (pv 3) (pv 3)) Ze) Ze) Ze)))))))
   (Zf (Zr (ZaT (Za (pv 4) Zb)))))))))),?_⟩
 simp only[tIfS,tNot,tTest,tChain,rI0,rI,rU,tVar,tC,tB,tIf,tAndV,tCall,tCons,tNil,tAsg,tSeq,tRet,tNext,tOp,tUn,tAnd,tOr,tDrop,gName,gSub,tAug,tCB,tSl,tRaise,tLst,tTup,L2.start,tYes,gTup,gCons,gNil,iniC,Option.join_some,Option.join_none,rEq,rNe,ZmJ,ZmK,ZmL,ZmM,ZmN,ZmO,tBM,Bool.true_eq_false,YG,List.map_nil,List.cons_append,List.nil_append,YN,List.length_nil,List.replicate,List.append_nil,List.set_cons_zero,List.set_cons_succ,List.getElem?_cons_zero,List.getElem?_cons_succ,Option.some.injEq,V.int.injEq,V.bl.injEq,V.ref.injEq,List.cons.injEq,and_true,true_and,exists_eq_left,exists_eq_left',exists_and_left,exists_eq,decide_eq_true_eq,Bool.not_eq_true',decide_eq_false_iff_not,cxK,and_assoc,Bool.false_eq_true,↓reduceIte,ZmH,Zjk,ZkP,iRng1,iRng2,iList,iZip,rIxL,rIxT,rSetL,rCat,rIsi,tDelT,tPar,rInsert,rIndex,rLen,rLof,rTof,tChain3,iSeq,rEqD,tRngV,rLstR,iEnum,tMaxD,tMinD,rIndexF,rOr,rAll,rIxQ,rSlL,tPart,tNoPart,tSl,ipI,rAppend,rRep,ZmP,Zo9,V.str.injEq,tDGet,rCatU,tDNewT,tDSetD,tDVals,rLVals,tLam,Zjy,Zma,Zkg,Zkh,ZpE,cp18,cp60,qm1,qm2,qm3,qm4]
 have fin:∀g:Int,0<=g->∀p,H p=none->Q (V.ref p) (upd H p (.lst [V.int g])):=λg hg p hp=>k1 p _ hp ((Zh.refl H).upd hp) ⟨_,Zc,hg⟩
 refine⟨_,.inl hS,ZW (λhk=>?_) (λhk=>?_)⟩
 case' refine_1 =>
  obtain⟨j,hj0⟩:=YX h0
  have hj:j<(ns.map V.int).length:=by omega
  refine⟨_,hS,_,ZhL hj0 hj,ns[j]'(by simpa using hj),by simp,ZW (λc=>⟨by decide,fin _ (Int.sub_nonneg.mpr c)⟩) (λ_=>⟨by decide,ZkQ (by decide) (by decide),by decide,by decide,?_⟩)⟩
 case' refine_2 =>
  refine ZW (λz=>absurd z (by decide)) (λ_=>⟨by decide,ZkQ (by decide) (by decide),by decide,by decide,?_⟩)
 all_goals
  refine Zal (λi σ H'=>∃v2 g o v5,σ=[some (.ref a),some (.int k),v2,some (.int o),some (.int g),v5]/\0<=g/\H'=H) ⟨_,0,_,none,rfl,Int.le_refl _,rfl⟩ ?_ ?_
  ·rintro i σ H' hi ⟨v2,g,o,v5,rfl,hg,rfl⟩
   walk_at "rd"
   have b1:=Int.emod_nonneg (o*48271+12345) (b:=2147483647) (by decide)
   have b2:=Int.emod_lt_of_pos (o*48271+12345) (b:=2147483647) (by decide)
   refine⟨mul_r (by decide) (by decide),by decide,mul_r (by decide) (by decide),ZkQ (by omega) (by omega),by decide,⟨by decide,by decide⟩,by decide,?_⟩
   have b3:=Int.emod_nonneg ((o*48271+12345) % 2147483647*((o*48271+12345) % 2147483647) % 2147483629 / 64) (b:=16777216) (by decide)
   have b4:=Int.mul_nonneg hg (show(0:Int)<=16777216 by decide)
   omega
  ·rintro σ H' ⟨v2,g,o,v5,rfl,hg,rfl⟩
   walk_at "rd"
   exact⟨by decide,fin g hg⟩
theorem Zkk {f:Addr}{fd:FuncData} (F:Fun K "_law_take" "_law_take" Zbe f fd) (T:Txt K mg):FnOk P w K mg base (CXE P w) 1 f fd ["pot","many"] (ZaL K mg):=by
 refine F.okX Zf9 (λvs H Q E h=>?_) (λcdv A outer s H vs Q E hr h=>?_)
 ·obtain⟨p,many,rfl,_⟩:=h;rfl
 obtain⟨p,many,rfl,h0,h1,⟨x,hp,hx⟩,k1⟩:=h
 refine⟨_,(Zd (Zq (i:=2) Zf9.nd rfl (Or.inl rfl) (Zj Zdh (ZT ZK (pv 0) Ze (λ_ _=>rfl)) (pv 1)))
   (Zd (Zgt (Zj ZcD (ZT ZK (pv 0) Ze (λ_ _=>rfl)) (pv 1)) (ZhF (pv 0) Ze set_list (λ_=>rfl)))
   (Zf (Zr (pv 2))))),?_⟩
 walk_at "rd"
 refine⟨_,SqL.of hp,_,rfl,_,rfl,h0,?_⟩
 refine⟨_,SqL.of hp,_,rfl,_,rfl,⟨h0,by omega⟩,_,hp,_,rfl,?_⟩
 exact k1 _ _ (Int.emod_nonneg _ (by omega)) (Int.emod_lt_of_pos _ h0) ⟨_,Zc,Int.ediv_nonneg hx (by omega)⟩ Exc.upd
theorem Zlh {f:Addr}{fd:FuncData} (F:Fun K "_law_row" "_law_row" ZbB f fd) (Zn:Callee P w K mg base "_law_take" 1 ["pot","many"] (ZaL K mg)) (T:Txt K mg):FnOk P w K mg base (CXE P w) 2 f fd ["pot","most"] (sp__law_row K mg):=by
 refine F.okX ZaA (λvs H Q E h=>?_) (λcdv A outer s H vs Q E hr h=>?_)
 ·obtain⟨p,most,rfl,_⟩:=h;rfl
 obtain⟨p,most,rfl,h0,h1,hP,k1⟩:=h
 refine⟨_,(Zd (Zq (i:=2) ZaA.nd rfl (Or.inl rfl) (Zi Zn (hr.mono (by decide)) rfl Zv (Za (pv 0) (Za (Zj ZC (pv 1) Ze) Zb))))
   (Zd (Zq (i:=3) ZaA.nd rfl (Or.inl rfl) (Zi Zn (hr.mono (by decide)) rfl Zv (Za (pv 0) (Za Ze Zb))))
   (Zd (Zq (i:=4) ZaA.nd rfl (Or.inl rfl) (Zj ZC Ze (Zi Zn (hr.mono (by decide)) rfl Zv (Za (pv 0) (Za Ze Zb)))))
   (Zd (Zq (i:=5) ZaA.nd rfl (Or.inr rfl) (ZaT Zb))
   (Zd (ZaU (Zby PassesOwn.never rfl (ZU rfl T.b_range (Za (pv 2) Zb)) (Zl (i:=6) ZaA.nd rfl (Or.inl rfl)) (Zf (Z0 (Zw Zep (pv 3) Ze (Zx _)) (Zf (Zad (Zch PySem.F.plainAttrs_list PySem.F.slot_list_append PySem.F.type_list_append Z2 (pv 5) (Za (Zi Zn (hr.mono (by decide)) rfl Zv (Za (pv 0) (Za (pv 4) Zb))) Zb)))) (Zf (Z0 (Zw ZcX (pv 3) Ze (Zx _)) (Zf (Zad (Zch PySem.F.plainAttrs_list PySem.F.slot_list_insert PySem.F.type_list_insert Znm (pv 5) (Za (Zi Zn (hr.mono (by decide)) rfl Zv (Za (pv 0) (Za (Zj ZC (pv 6) Ze) Zb))) (Za (pv 6) Zb))))) (Zf (Z0 (Zw ZcX (pv 3) Ze (Zx _)) (Zf (Zad (Zch PySem.F.plainAttrs_list PySem.F.slot_list_append PySem.F.type_list_append Z2 (pv 5) (Za (Zj ZS (Zj Zdh (pv 6) (pv 4)) (Zj ZcD (pv 6) (pv 4))) Zb)))) (Zf (Z0 (Zw ZcX (pv 3) Ze (Zx _)) (Zf (Zad (Zch PySem.F.plainAttrs_list PySem.F.slot_list_append PySem.F.type_list_append Z2 (pv 5) (Za (ZT ZK (ZaT (Za (pv 6) (Za (Zmv ZjN (pv 6)) Zb))) (Zj Zdh (pv 4) Ze) (λ_ _=>rfl)) Zb)))) (Zf (Z0 (Zw ZcX (pv 3) Ze (Zx _)) (Zf (Zad (Zch PySem.F.plainAttrs_list PySem.F.slot_list_append PySem.F.type_list_append Z2 (pv 5) (Za (Zj Zcj (Zj ZS (Zi Zn (hr.mono (by decide)) rfl Zv (Za (pv 0) (Za Ze Zb))) Ze) (Zj ZeB Ze Ze)) Zb)))) (Zf (Zad (Zch PySem.F.plainAttrs_list PySem.F.slot_list_append PySem.F.type_list_append Z2 (pv 5) (Za (Zj ZS (Zi Zn (hr.mono (by decide)) rfl Zv (Za (pv 0) (Za Ze Zb))) Ze) Zb))))))))))))))))
   (Zd (Z0 (Zw ZcX (pv 3) Ze (Zx _)) (Zf (Zq (i:=5) ZaA.nd rfl (Or.inr rfl) (ZN ["k","row"] [none,some 5] rfl rfl rfl (ZU rfl T.b_range (Za (pv 2) Zb)) (λ_ _ _ _ _=>(Zl (i:=0) (show(["k","row"]:List Str).Nodup from by decide +kernel) rfl (Or.inl rfl))) (λ_ _ _ _ _=>ZJ) (λ_ _ _ _ _=>(pe_bmK (K:=K) rfl PySem.F.plainAttrs_list PySem.F.slot_list_index PySem.F.type_list_index (Zpc (K:=K) rfl) (pv 1) (Za (pv 0) Zb))) Zp))) ZH)
   (Zf (Zr (pv 5))))))))),?_⟩
 refine ZaE (fun σ Hx=>∃m:Int,σ=[some (.ref p),some (.int most),some (.int m),none,none,none,none]/\0<=m/\m<=most/\ZA Hx p/\Exc p H Hx) (λR hR=>?_) ?_
 ·walk_at "rd"
  exact⟨p,_,rfl,by omega,by omega,hP,λd H1 d0 d1 P1 e1=>hR _ _ ⟨d,rfl,d0,by omega,P1,e1⟩⟩
 rintro σ H1 ⟨many,rfl,m0,m1,P1,e1⟩
 refine ZaE (fun σ Hx=>∃k:Int,σ=[some (.ref p),some (.int most),some (.int many),some (.int k),none,none,none]/\0<=k/\k<8/\ZA Hx p/\Exc p H Hx) (λR hR=>?_) ?_
 ·walk_at "rd"
  exact⟨p,_,rfl,by decide,by decide,P1,λd H2 d0 d1 P2 e2=>hR _ _ ⟨d,rfl,d0,d1,P2,e1.trans e2⟩⟩
 clear P1 e1 H1
 rintro σ H1 ⟨kd,rfl,d0,d1,P1,e1⟩
 refine ZaE (fun σ Hx=>∃t:Int,σ=[some (.ref p),some (.int most),some (.int many),some (.int kd),some (.int t),none,none]/\2<=t/\t<6/\ZA Hx p/\Exc p H Hx) (λR hR=>?_) ?_
 ·walk_at "rd"
  exact⟨p,_,rfl,by decide,by decide,P1,λd H2 d0 d1 P2 e2=>⟨d,rfl,hR _ _ ⟨_,rfl,by omega,by omega,P2,e1.trans e2⟩⟩⟩
 clear P1 e1 H1
 rintro σ H1 ⟨tn,rfl,t0,t1,P1,e1⟩
 refine ZaE (fun σ Hx=>∃q:Addr,σ=[some (.ref p),some (.int most),some (.int many),some (.int kd),some (.int tn),some (.ref q),none]/\H q=none/\q≠p/\Hx q=some (.lst [])/\ZA Hx p/\Exc p H Hx) (λR hR=>?_) ?_
 ·walk_at "rd"
  exact⟨Yz _,λq hq=>hR _ _ ⟨q,rfl,e1.free (P1.ne hq) hq,P1.ne hq,Zc,P1.upd hq,e1.same ((Zh.refl H1).upd hq)⟩⟩
 clear P1 e1 H1
 rintro σ H1 ⟨q,rfl,zq,nqp,hq1,P1,e1⟩
 refine ZaE (fun σ Hx=>∃(ns:List Int) (v6:Option V),σ=[some (.ref p),some (.int most),some (.int many),some (.int kd),some (.int tn),some (.ref q),v6]/\(ns.length:Int)=many/\(kd=3->∀j:Nat,(j:Int)<many->(j:Int)∈ns)/\Hx q=some (.lst (ns.map V.int))/\ZA Hx p/\Exc p H Hx) (λR hR=>?_) ?_
 ·walk_at "rd"
  refine⟨by omega,by omega,?_⟩
  refine Zal (λi σ Hx=>∃(ns:List Int) (v6:Option V),σ=[some (.ref p),some (.int most),some (.int many),some (.int kd),some (.int tn),some (.ref q),v6]/\ns.length=i/\(kd=3->∀j:Nat,j<i->(j:Int)∈ns)/\Hx q=some (.lst (ns.map V.int))/\ZA Hx p/\Exc p H Hx) ⟨[],none,rfl,rfl,(λ_ j hj=>absurd hj (by omega)),hq1,P1,e1⟩ ?_ ?_
  ·rintro i σ Hx hi ⟨ns,v6,rfl,hl,hin,hqx,Px,ex⟩
   have hi':i<1000:=by omega
   have hb:(ns.map V.int).length<sizeLine:=Yv (show _<=1000 by rw[Yg];omega) (by decide)
   have app:kd≠3->∀(y:Int) (Hy:Hp),Hy q=some (.lst (ns.map V.int))->ZA Hy p->Exc p H Hy->∃x_1,Hy q=some (HO.lst x_1)/\x_1.length<sizeLine/\∃ns':List Int,ns'.length=i+1/\(kd=3->∀(j:Nat),j<i+1->(j:Int)∈ns')/\upd Hy q (HO.lst (x_1++[V.int y])) q=some (HO.lst (List.map V.int ns'))/\ZA (upd Hy q (HO.lst (x_1++[V.int y]))) p/\Exc p H (upd Hy q (HO.lst (x_1++[V.int y]))):=λn3 y Hy hy Py ey =>
    ⟨_,hy,hb,ns++[y],by simp[hl],(λz=>absurd z n3),by rw[Zc];simp,Py.ZiN nqp,ey.ZiN zq⟩
   walk_at "rd"
   refine ZW (λk3=>⟨ZM hqx,p,_,rfl,by omega,by omega,Px,λd H2 d0 d1 P2 e2=>app (by omega) d H2 (e2 _ _ nqp hqx) P2 (ex.trans e2)⟩) λk3=>?_
   refine ZW (λk4=>⟨ZM hqx,p,_,rfl,by omega,by omega,Px,λd H2 d0 d1 P2 e2=>?_⟩) λk4=>?_
   ·refine⟨_,d,rfl,e2 _ _ nqp hqx,d0,by omega,hb,ns.take d.toNat++(0+(i:Int))::ns.drop d.toNat,by simp;omega,λ_ j hj=>?_,by rw[Zc];simp,P2.ZiN nqp,(ex.trans e2).ZiN zq⟩
    by_cases ej:j=i
    ·rw[ej];simp
    ·have hm:=hin k4 j (by omega)
     rw[<-Y9 d.toNat ns]at hm
     rcases Yq.mp hm with z|z
     ·exact YH _ z
     ·exact Ym _ (YW _ z)
   refine ZW (λk5=>⟨ZM hqx,by omega,⟨by omega,by omega⟩,app k4 _ Hx hqx Px ex⟩) λk5=>?_
   refine ZW (λk6=>⟨ZM hqx,by decide,λu hu=>⟨by decide,?_⟩⟩) λk6=>?_
   ·obtain⟨v,hv,y,rfl⟩:=ZmI (xs:=[V.int (0+(i:Int)),V.int (-(0+(i:Int)))]) (i:=tn % 2) (λv=>∃y:Int,v=V.int y) (by omega) (by show _<((2:Nat):Int);omega) (by
     intro x hx
     simp only[Yk,List.not_mem_nil,or_false]at hx
     rcases hx with rfl|rfl<;>exact⟨_,rfl⟩)
    have g:=(Zh.refl Hx).upd (o:=.lst [V.int (0+(i:Int)),V.int (-(0+(i:Int)))]) hu
    exact⟨_,SqL.of Zc,_,hv,app k4 y _ (g _ _ hqx) (Px.same g) (ex.same g)⟩
   exact ZW (λk7=>⟨ZM hqx,p,_,rfl,by decide,by decide,Px,λd H2 d0 d1 P2 e2=>⟨d,rfl,cp59,ZkQ (by omega) (by omega),app k4 _ H2 (e2 _ _ nqp hqx) P2 (ex.trans e2)⟩⟩) λk7=>⟨ZM hqx,p,_,rfl,by decide,by decide,Px,λd H2 d0 d1 P2 e2=>⟨d,rfl,app k4 _ H2 (e2 _ _ nqp hqx) P2 (ex.trans e2)⟩⟩
  ·rintro σ Hx ⟨ns,v6,rfl,hl,hin,hqx,Px,ex⟩
   exact hR _ _ ⟨ns,v6,rfl,by omega,(λz j hj=>hin z j (by omega)),hqx,Px,ex⟩
 clear P1 e1 hq1 H1
 rintro σ H1 ⟨ns,v6,rfl,hl,hin,hq1,P1,e1⟩
 refine ZaE (fun σ Hx=>∃(q:Addr) (ns:List Int) (v6:Option V),σ=[some (.ref p),some (.int most),some (.int many),some (.int kd),some (.int tn),some (.ref q),v6]/\H q=none/\(ns.length:Int)=many/\Hx q=some (.lst (ns.map V.int))/\ZA Hx p/\Exc p H Hx) (λR hR=>?_) ?_
 ·walk_at "rd"
  refine ZW (λk3=>⟨by omega,by omega,?_⟩) λk3=>hR _ _ ⟨q,ns,v6,rfl,zq,hl,hq1,P1,e1⟩
  refine comp_map (n:=many.toNat) (λj=>V.int ((ns.idxOf ((j:Nat):Int):Nat):Int)) (Yv (show _<=1000 by omega) (by decide)) (λj Hx s hj=>hj) (λHx s=>Ye _) ?_ ?_
  ·rintro j x Hx Hy hj s ⟨rfl,rfl⟩
   have e0:((0:Int)+(j:Int))=(j:Int):=by omega
   rw[e0]
   walk_at "rd"
   exact⟨ZM (s _ _ hq1),_,SqL.of (s _ _ hq1),by omega,hin k3 j (by omega),CW.next hj rfl s⟩
  ·intro l Hx s hlx
   have em:(List.range many.toNat).map (λj=>V.int ((ns.idxOf ((j:Nat):Int):Nat):Int))=((List.range many.toNat).map λj=>((ns.idxOf ((j:Nat):Int):Nat):Int)).map V.int:=by rw[YZ];rfl
   rw[em]
   exact hR _ _ ⟨l,_,v6,rfl,e1.free ((P1.same s).ne hlx) (s.free hlx),by simp;omega,Zc,(P1.same s).upd hlx,(e1.same s).same ((Zh.refl Hx).upd hlx)⟩
 rintro σ H2 ⟨q2,ms,v6',rfl,zq2,hl2,hq2,P2,e2⟩
 walk_at "rd"
 exact k1 q2 ms _ zq2 (by omega) hq2 P2 e2
theorem Zeq {f:Addr}{fd:FuncData}{dV:Value} (F:FunD K "need_numbers" "need_numbers" Zag f fd dV) (T:Txt K mg):FnOk P w K mg base (CXE P w) 1 f fd ["row","fewest"] (ZaX K mg):=by
 refine F.okX Zhh (λvs H Q E h=>?_) (λcdv A outer s H vs Q E hr h=>?_)
 ·obtain⟨r,ns,k,rfl,_⟩:=h;rfl
 obtain⟨r,ns,k,rfl,hS,hn,h0,h1,k1,k2⟩:=h
 refine⟨_,(Zf (Z0 (Zw Zep (Zm (Zu (K:=K) rfl) rfl T.b_len Yy (Za (pv 0) Zb)) (pv 1) (Zx _)) (Zf (Zo5 rfl rfl T.c_Empty T.x_Empty (Za (Zni (ZjX (by decide) (Zo6 (Zm (Zu (K:=K) rfl) rfl T.b_len Yy (Za (pv 0) Zb)) (ZjX (by decide) (Zo6 (pv 1) (ZjX (by decide) pj_nil)))))) Zb) Zrr)) ZH)),?_⟩
 walk_at "rd"
 have eN:(ns.map V.int).length=ns.length:=Yg ..
 exact⟨_,hS,ZW (λz=>⟨_,hS,by omega,by rw[eN];omega,h0,by omega,λy=>⟨by decide,k2 (by rw[eN]at z;exact z)⟩⟩) λz=>k1 (by rw[eN]at z;omega)⟩
theorem ok_settle {f:Addr}{fd:FuncData} (F:Fun K "settle" "settle" s_settle f fd) (T:Txt K mg):FnOk P w K mg base (CXE P w) 1 f fd ["elders","spine","place","keep"] (sp_settle K mg):=by
 refine F.okX sc_settle (λvs H Q E h=>?_) (λcdv A outer s H vs Q E hr h=>?_)
 ·obtain⟨el,sp,es,A,B,i,rfl,_⟩:=h;rfl
 obtain⟨el,sp,es,A',B,i,rfl,hel,hsp,hne,hi,hq,hlen,k1⟩:=h
 refine⟨_,(Zd (Z0 (Zw Zep (pv 3) (Zm (Zu (K:=K) rfl) rfl T.b_len Yy (Za (pv 1) Zb)) (Zx _)) (Zf (Zgt (pv 2) (ZhF (pv 0) (ZT ZK (pv 1) (pv 3) (λ_ _=>rfl)) set_list (λ_=>rfl)))) ZH)
   (Zd (Z0 (Zw ZhH (pv 3) Ze (Zx _)) (Zf (Zgt (ZT ZK (pv 1) (Zj ZS (pv 3) Ze) (λ_ _=>rfl)) (ZhF (pv 0) (pv 2) set_list (λ_=>rfl)))) ZH)
   (Zd (ZlS (pv 1) (pv 3))
   (Zf (Zad (Zch PySem.F.plainAttrs_list PySem.F.slot_list_append PySem.F.type_list_append Z2 (pv 1) (Za (pv 2) Zb))))))),?_⟩
 walk_at "rd"
 have hb1:(ZO A').length<sizeLine:=by
  rw[Z3]
  rw[YB]at hlen
  exact Yv (show _<=1000 by omega) (by decide)
 have etk:List.take A'.length (ZO (A'++B))=ZO A':=by
  rw[Zgy]
  have:A'.length=(ZO A').length:=(Z3 A').symm
  rw[this,List.take_left]
 have hle:A'.length<=(ZO (A'++B)).length:=by rw[Z3,YB];omega
 have esn:ZO A'++[V.int (i:Nat)]=ZO (A'++[i]):=by rw[Zgy];rfl
 refine⟨_,.inl (SqL.of hsp),?_⟩
 rw[Z3,YB]
 -- the end: behind the two stores
 have fin:∀(es1:List Int) (Hx:Hp),(∀b o,b≠el->b≠sp->H b=some o->Hx b=some o)->Hx el=some (.lst (es1.map V.int))->Hx sp=some (.lst (ZO (A'++B)))->es1=Zhg es A' B i ->
   ∃(xs:List V) (k:Nat),(A'.length:Int)=(k:Int)/\Hx sp=some (HO.lst xs)/\k<=xs.length/\tyV K "list" (V.ref sp) (upd Hx sp (HO.lst (List.take k xs)))/\∃x,upd Hx sp (HO.lst (List.take k xs)) sp=some (HO.lst x)/\x.length<sizeLine/\Q V.non (upd (upd Hx sp (HO.lst (List.take k xs))) sp (HO.lst (x++[V.int (i:Nat)]))):=by
  intro es1 Hx h1 h2 h3 h4
  refine⟨_,A'.length,rfl,h3,hle,ZM Zc,_,Zc,by rw[etk];exact hb1,k1 _ (λb o n1 n2 z=>by rw[Zg n2,Zg n2];exact h1 b o n1 n2 z) (by rw[Zg hne,Zg hne,h2,h4]) (by rw[Zc,etk,esn])⟩
 -- elders[place]=spine[keep-1]
 have mid:∀(es1:List Int) (Hx:Hp),(∀b o,b≠el->b≠sp->H b=some o->Hx b=some o)->Hx el=some (.lst (es1.map V.int))->es1.length=es.length->Hx sp=some (.lst (ZO (A'++B)))->∀q,A'.getLast?=some q->es1.set i (q:Int)=Zhg es A' B i ->
   ∃x,SqL K Hx sp x/\∃x_1,atI x ((A'.length:Int)-1)=some x_1/\∃x,Hx el=some (HO.lst x)/\∃x_2,ixN x.length (i:Int)=some x_2/\∃(xs:List V) (k:Nat),(A'.length:Int)=(k:Int)/\upd Hx el (HO.lst (x.set x_2 x_1)) sp=some (HO.lst xs)/\k<=xs.length/\tyV K "list" (V.ref sp) (upd (upd Hx el (HO.lst (x.set x_2 x_1))) sp (HO.lst (List.take k xs))) /\
    ∃x_3,upd (upd Hx el (HO.lst (x.set x_2 x_1))) sp (HO.lst (List.take k xs)) sp=some (HO.lst x_3)/\x_3.length<sizeLine/\Q V.non (upd (upd (upd Hx el (HO.lst (x.set x_2 x_1))) sp (HO.lst (List.take k xs))) sp (HO.lst (x_3++[V.int (i:Nat)]))):=by
  intro es1 Hx h1 h2 hl1 h3 q hq h4
  have hpos:0<A'.length:=by
   cases A' with
   |nil=>cases hq
   |cons _ _=>simp
  have hat:(A'++B)[A'.length-1]?=some q:=by
   rw[Y7 (by omega)]
   rw[List.getLast?_eq_getElem?]at hq;exact hq
  have ei:((A'.length:Int)-1)=((A'.length-1:Nat):Int):=by omega
  refine⟨_,SqL.of h3,_,by rw[ei];exact ZeH hat,_,h2,i,by rw[Yg,hl1];exact Zhz hi,?_⟩
  have em:(es1.map V.int).set i (V.int (q:Nat))=(es1.set i (q:Int)).map V.int:=by rw[List.map_set]
  rw[em]
  exact fin _ _ (λb o n1 n2 z=>by rw[Zg n1];exact h1 b o n1 n2 z) Zc (by rw[Zg hne.symm];exact h3) h4
 cases B with
 |nil =>
  rw[Yc (by simp)]
  cases hq:A'.getLast? with
  |none =>
   have:A'=[]:=List.getLast?_eq_none_iff.mp hq
   rw[Yc (by rw[this];simp)]
   exact fin es H (λb o _ _ z=>z) hel hsp (by unfold Zhg;rw[hq];rfl)
  |some q =>
   have:A'≠[]:=λz=>by rw[z]at hq;cases hq
   rw[Yd (by have:=List.length_pos_iff.mpr this;omega)]
   exact mid es H (λb o _ _ z=>z) hel rfl hsp q hq (by unfold Zhg;rw[hq];rfl)
 |cons b Br =>
  rw[Yd (by simp;omega)]
  have hat:(A'++b::Br)[A'.length]?=some b:=by rw[Y2 (Ye _)];simp
  have hbn:b<es.length:=hq b (by simp)
  refine⟨_,SqL.of hsp,_,ZeH hat,_,_,rfl,hel,b,by rw[Yg];exact Zhz hbn,?_⟩
  have em:(es.map V.int).set b (V.int (i:Nat))=(es.set b (i:Int)).map V.int:=by rw[List.map_set]
  rw[em]
  cases hq2:A'.getLast? with
  |none =>
   have:A'=[]:=List.getLast?_eq_none_iff.mp hq2
   rw[Yc (by rw[this];simp)]
   exact fin (es.set b i) _ (λc o n1 n2 z=>by rw[Zg n1];exact z) Zc (by rw[Zg hne.symm];exact hsp) (by unfold Zhg;rw[hq2];rfl)
  |some q =>
   have:A'≠[]:=λz=>by rw[z]at hq2;cases hq2
   rw[Yd (by have:=List.length_pos_iff.mpr this;omega)]
   exact mid (es.set b i) _ (λc o n1 n2 z=>by rw[Zg n1];exact z) Zc (by simp) (by rw[Zg hne.symm];exact hsp) q hq2 (by unfold Zhg;rw[hq2];rfl)
theorem ok_tree_of {f:Addr}{fd:FuncData} (F:Fun K "tree_of" "tree_of" s_tree_of f fd) (Zif:Callee P w K mg base "settle" 1 ["elders","spine","place","keep"] (sp_settle K mg)) (T:Txt K mg):FnOk P w K mg base (CXE P w) 2 f fd ["row"] (sp_tree_of K mg):=by
 refine F.okX sc_tree_of (λvs H Q E h=>?_) (λcdv A outer s H vs Q E hr h=>?_)
 ·obtain⟨r,ns,rfl,_⟩:=h;rfl
 obtain⟨r,ns,rfl,hS,hn,k1⟩:=h
 refine⟨_,(Zd (Zq (i:=1) sc_tree_of.nd rfl (Or.inl rfl) (Zj op_rep (ZaT (Za (Zmv ZjN Ze) Zb)) (Zm (Zu (K:=K) rfl) rfl T.b_len Yy (Za (pv 0) Zb))))
   (Zd (Zq (i:=2) sc_tree_of.nd rfl (Or.inl rfl) (ZaT Zb))
   (Zd (ZaU (Zby PassesOwn.never rfl (ZU rfl T.b_range (Za (Zm (Zu (K:=K) rfl) rfl T.b_len Yy (Za (pv 0) Zb)) Zb)) (Zl (i:=3) sc_tree_of.nd rfl (Or.inl rfl)) (Zd (Zq (i:=4) sc_tree_of.nd rfl (Or.inl rfl) (Zm (Zu (K:=K) rfl) rfl T.b_len Yy (Za (pv 2) Zb)))
   (Zd (ZaU (ZhG PassesOwn.never (PW.pt (ZoQ (Zw ZhH (pv 4) Ze (Zx _)) (Zmu (Zw ZhH (ZT (ix_q (K:=K) rfl) (pv 0) (ZT ZK (pv 2) (Zj ZS (pv 4) Ze) (λ_ _=>rfl)) (λ_ _=>rfl)) (ZT (ix_q (K:=K) rfl) (pv 0) (pv 3) (λ_ _=>rfl)) (Zx _))))) (Zf (ps_aug (i:=4) sc_tree_of.nd rfl (Or.inl rfl) Ze ip_sub))))
   (Zf (Zad (Zi Zif (hr.mono (by decide)) rfl Zv (Za (pv 1) (Za (pv 2) (Za (pv 3) (Za (pv 4) Zb)))))))))))
   (Zf (Zr (Z1 (ZdJ (K:=K) rfl) rfl T.b_tuple ZcA (Za (pv 1) Zb))))))),?_⟩
 walk_at "rd"
 have eL:(ns.map V.int).length=ns.length:=Yg ..
 refine⟨by decide,λp hp=>⟨_,((Zh.refl H).upd hp).q hS,_,Zc,by omega,by rw[eL];omega,?_,λel hel=>⟨Yz _,λsp hsp=>?_⟩⟩⟩
 ·exact Yi (show _<=1000 by simp;omega) (by decide)
 have s0:Zh H (upd (upd (upd H p (.lst [V.int (-1)])) el (.lst (List.replicate (((ns.map V.int).length:Nat):Int).toNat [V.int (-1)]).flatten)) sp (.lst [])):=(((Zh.refl H).upd hp).ZL hel).ZL hsp
 refine⟨_,s0.q hS,by omega,by rw[eL];omega,?_⟩
 have en:(((ns.map V.int).length:Nat):Int).toNat=ns.length:=by rw[eL];omega
 have hel0:(upd (upd (upd H p (.lst [V.int (-1)])) el (.lst (List.replicate (((ns.map V.int).length:Nat):Int).toNat [V.int (-1)]).flatten)) sp (.lst [])) el=some (.lst ((List.replicate ns.length (-1:Int)).map V.int)):=by
  have:=((Zh.refl _).ZL (o:=.lst []) hsp) el _ Zc
  rw[this,en];simp
 have hsp0:(upd (upd (upd H p (.lst [V.int (-1)])) el (.lst (List.replicate (((ns.map V.int).length:Nat):Int).toNat [V.int (-1)]).flatten)) sp (.lst [])) sp=some (.lst (ZO [])):=Zc
 have nes:el≠sp:=λz=>by
  subst z
  rw[Zc]at hsp;cases hsp
 have zel:H el=none:=((Zh.refl H).upd hp).free hel
 have zsp:H sp=none:=(((Zh.refl H).upd hp).ZL hel).free hsp
 rw[en]at hel0 hsp0 s0⊢
 generalize (upd (upd (upd H p (.lst [V.int (-1)])) el (.lst (List.replicate ns.length [V.int (-1)]).flatten)) sp (.lst []))=H0 at s0 hel0 hsp0⊢
 refine Zal (λi σ Hx=>∃(es:List Int) (S:List Nat) (v3 v4:Option V),σ=[some (.ref r),some (.ref el),some (.ref sp),v3,v4]/\Zh H Hx/\Hx el=some (.lst (es.map V.int))/\Hx sp=some (.lst (ZO S))/\es.length=ns.length/\Zpd (nth ns) i S/\(∀p e,p<i->e=es.getD p 0->ZaD (nth ns) i p e)/\∀p,i<=p->p<ns.length->es.getD p 0=-1)
  ⟨List.replicate ns.length (-1),[],none,none,rfl,s0,hel0,hsp0,by simp,⟨List.Pairwise.nil,λq=>by simp⟩,λp e hp=>by omega,λp _ hp=>by simp[YD,hp]⟩ ?_ ?_
 ·rintro i σ Hx hi ⟨es,S,v3,v4,rfl,sx,hxe,hxs,hesl,hS2,hE,hE2⟩
  walk_at "rd"
  have hin:i<ns.length:=by omega
  have hSl:S.length<=1000:=by
   rcases Zpg S i 0 hS2.1 (λq hq=>⟨Yz _,((hS2.2 q).mp hq).1⟩)with z|z
   ·omega
   ·rw[z];simp
  refine⟨_,.inl (SqL.of hxs),?_⟩
  rw[Z3]
  refine Zj5 S.length (λj σ Hy=>∃A B,S=A++B/\B.length=j/\(∀q∈B,nth ns i<nth ns q)/\σ=[some (.ref r),some (.ref el),some (.ref sp),some (.int (0+(i:Int))),some (.int (A.length:Nat))]/\Hy=Hx) ⟨S,[],by simp,rfl,(λq hq=>absurd hq (by simp)),rfl,rfl⟩ ?_
  rintro j σ Hy hj ⟨A,B,hAB,hBl,hBg,rfl,rfl⟩
  walk_at "rd"
  have hmem:∀q,q∈A++B->q<i:=λq hq=>((hS2.2 q).mp (by rw[hAB];exact hq)).1
  have hix:(0+(i:Int))=(i:Int):=by omega
  rw[hix]
  by_cases hA0:A=[]
  case' pos =>
   rw[Yc (by rw[hA0];simp)]
   have hA:∀q∈A,nth ns q<=nth ns i:=λq hq=>absurd hq (by rw[hA0];simp)
  case' neg =>
   obtain⟨q,Al,rfl⟩:∃q Al,A=Al++[q]:=⟨A.getLast hA0,A.dropLast,(List.dropLast_concat_getLast hA0).symm⟩
   have hal:(Al++[q]).length=Al.length+1:=by simp
   rw[Yd (by rw[hal];omega)]
   have eiA:(((Al++[q]).length:Nat):Int)-1=(Al.length:Int):=by rw[hal];omega
   have hat:S[Al.length]?=some q:=by
    rw[hAB,YM,Y2 (Ye _)];simp
   have hqi:q<i:=hmem q (by simp)
   refine⟨_,SqL.of hxs,_,by rw[eiA];exact ZeH hat,_,_,rfl,sx.q hS,_,Zdi (by omega),_,sx.q hS,_,Zdi hin,_,rfl,_,rfl,ZW (λhlt=>?_) (λhge=>?_)⟩
   ·have hj2:j+1<=S.length:=by rw[hAB,YB,hal];omega
    refine⟨_,WI.next,hj2,Al,q::B,by rw[hAB];simp,by simp[hBl],λx hx=>?_,by rw[eiA],rfl⟩
    rcases Yk.mp hx with z|z
    ·rw[z];exact hlt
    ·exact hBg x z
   have hA:∀x∈Al++[q],nth ns x<=nth ns i:=λx hx=>by
    by_cases z:x=q
    ·rw[z];omega
    ·have hxa:x∈Al:=by
      rcases Yq.mp hx with y|y
      ·exact y
      ·exact absurd (by simpa using y) z
     have hpw:=hS2.1
     rw[hAB]at hpw
     have hxq:x<q:=(List.pairwise_append.mp (List.pairwise_append.mp hpw).1).2.2 x hxa q (by simp)
     have:=((hS2.2 x).mp (by rw[hAB];exact YH _ hx)).2 q hxq hqi
     omega
   generalize Al++[q]=A at hA hAB hmem hA0⊢
  all_goals
   have SS:=ZlR (f:=nth ns) (i:=i) (A:=A) (B:=B) (by rw[<-hAB];exact hS2) hA hBg
   refine⟨el,sp,es,A,B,i,rfl,hxe,by rw[<-hAB];exact hxs,nes,by omega,λq hq=>by have:=hmem q hq;omega,by rw[<-hAB];exact hSl,λH' q1 q2 q3=>?_⟩
   have hbi:∀b,B.head?=some b->b≠i:=λb hb=>by
    have:=hmem b (Ym _ (List.mem_of_head? hb));omega
   refine⟨λb o z=>q1 b o (Zo z zel) (Zo z zsp) (sx b o z),Zhg es A B i,q2,A++[i],q3,by rw[Zpf];exact hesl,SS.1,λp e hp he=>?_,λp hp1 hp2=>?_⟩
   ·rw[ZmS _ _ _ _ _ (by omega) hbi]at he
    by_cases z:p=i
    ·subst z
     rw[Yd rfl,hE2 p (Ye _) (by omega)]at he
     rw[he];exact SS.2.1
    ·rw[Yc z]at he
     rw[he]
     exact SS.2.2 p _ (by omega) (hE p _ (by omega) rfl)
   ·rw[ZmS _ _ _ _ _ (by omega) hbi,Yc (by omega),Yc (λz=>?_)]
    ·exact hE2 p (by omega) hp2
    ·have:=hmem p (Ym _ (List.mem_of_head? z));omega
 ·rintro σ Hx ⟨es,S,v3,v4,rfl,sx,hxe,hxs,hesl,hS2,hE,hE2⟩
  walk_at "rd"
  exact⟨_,.inl ⟨SqL.of hxe,λt ht=>k1 t es _ ⟨hesl,λp hp=>hE p _ hp rfl⟩ (sx.ZL ht) Zc⟩⟩
theorem ok_way_up {f:Addr}{fd:FuncData} (F:Fun K "way_up" "way_up" s_way_up f fd) (T:Txt K mg):FnOk P w K mg base (CXE P w) 1 f fd ["tree","place"] (sp_way_up K mg):=by
 refine F.okX sc_way_up (λvs H Q E h=>?_) (λcdv A outer s H vs Q E hr h=>?_)
 ·obtain⟨t,T,p,rfl,_⟩:=h;rfl
 obtain⟨t,T',p,rfl,ht,hn,hp,k1⟩:=h
 refine⟨_,(Zd (Zq (i:=2) sc_way_up.nd rfl (Or.inl rfl) (ZaT Zb))
   (Zd (Zq (i:=3) sc_way_up.nd rfl (Or.inl rfl) (ZT ZdT (pv 0) (pv 1) (λ_ _=>rfl)))
   (Zd (ZaU (ZhG PassesOwn.never (PW.pt (ZoQ (ZoV Zmz Zep Ze (pv 3) (Zm (Zu (K:=K) rfl) rfl T.b_len Yy (Za (pv 0) Zb))) (Zmu (Zw Zep (Zm (Zu (K:=K) rfl) rfl T.b_len Yy (Za (pv 2) Zb)) (Zm (Zu (K:=K) rfl) rfl T.b_len Yy (Za (pv 0) Zb)) (Zx _))))) (Zd (Zad (Zch PySem.F.plainAttrs_list PySem.F.slot_list_append PySem.F.type_list_append Z2 (pv 2) (Za (pv 3) Zb)))
   (Zf (Zq (i:=3) sc_way_up.nd rfl (Or.inl rfl) (ZT ZdT (pv 0) (pv 3) (λ_ _=>rfl)))))))
   (Zf (Zr (pv 2)))))),?_⟩
 walk_at "rd"
 refine⟨Yz _,λl hl=>⟨_,SqT.of (((Zh.refl H).upd hl) _ _ ht),_,Zdi hp,?_⟩⟩
 refine Zj5 T'.length (λj σ Hx=>Zh H Hx/\Hx l=some (.lst (ZO (Za5 T' j (nth T' p))))/\(Za5 T' j (nth T' p)).length=j/\σ=[some (.ref t),some (.int p),some (.ref l),some (.int (ZaS T' j (nth T' p)))]) ⟨(Zh.refl H).upd hl,Zc,rfl,rfl⟩ ?_
 rintro j σ Hx hj ⟨sx,hxl,hjl,rfl⟩
 walk_at "rd"
 have hlen:(ZO (Za5 T' j (nth T' p))).length=j:=by rw[Z3];exact hjl
 have eL:(T'.map V.int).length=T'.length:=Yg ..
 have done:(j=T'.length\/¬ (0<=ZaS T' j (nth T' p)/\ZaS T' j (nth T' p)<T'.length))->Q (.ref l) Hx:=λz=>by
  refine k1 l Hx hl sx ?_
  have:Za5 T' T'.length (nth T' p)=Za5 T' j (nth T' p):=by
   rcases z with z|z
   ·rw[<-z]
   ·exact Zjq T' j _ _ hj hjl z
  rw[hxl];unfold wayI;rw[this];simp[ZO]
 refine ZW (λh0=>⟨_,.inr (SqT.of (sx _ _ ht)),ZW (λh1=>⟨_,.inl (SqL.of hxl),_,.inr (SqT.of (sx _ _ ht)),ZW (λh2=>?_) λh2=>done (.inl (by rw[hlen,eL]at h2;omega))⟩) λh1=>done (.inr (by rw[eL]at h1;omega))⟩) λh0=>done (.inr (by omega))
 rw[eL]at h1;rw[hlen,eL]at h2
 obtain⟨a1,a2⟩:=Zjp T' j (nth T' p) h0 h1 hjl
 have ei:ZaS T' j (nth T' p)=(((ZaS T' j (nth T' p)).toNat:Nat):Int):=by omega
 have nlt:t≠l:=Zo ht hl
 refine⟨_,WI.next,ZM hxl,_,hxl,by rw[hlen];exact Yv (show _<=1000 by omega) (by decide),_,SqT.of (by rw[Zg nlt];exact sx _ _ ht),_,(congrArg (atI _) ei).trans (Zdi (by omega)),by omega,sx.upd hl,?_,?_,?_⟩
 ·rw[Zc,a1,Zgy]
  have:ZO [(ZaS T' j (nth T' p)).toNat]=[V.int (ZaS T' j (nth T' p))]:=by rw[ei];simp[ZO]
  rw[this]
 ·rw[a1];simp[hjl]
 ·rw[a2]
theorem ok_fences_of {f:Addr}{fd:FuncData} (F:Fun K "fences_of" "fences_of" s_fences_of f fd) (Zig:Callee P w K mg base "way_up" 1 ["tree","place"] (sp_way_up K mg)) (T:Txt K mg):FnOk P w K mg base (CXE P w) 2 f fd ["tree"] (sp_fences_of K mg):=by
 refine F.okX sc_fences_of (λvs H Q E h=>?_) (λcdv A outer s H vs Q E hr h=>?_)
 ·obtain⟨t,ns,T,rfl,_⟩:=h;rfl
 obtain⟨t,ns,T',rfl,ht,hT,hn,k1⟩:=h
 refine⟨_,(Zd (Zq (i:=1) sc_fences_of.nd rfl (Or.inl rfl) (ZaT Zb))
   (Zd (ZaU (Zby PassesOwn.never rfl (ZU rfl T.b_range (Za (Zm (Zu (K:=K) rfl) rfl T.b_len Yy (Za (pv 0) Zb)) Zb)) (Zl (i:=2) sc_fences_of.nd rfl (Or.inr rfl)) (Zd (Zq (i:=3) sc_fences_of.nd rfl (Or.inl rfl) (Zi Zig (hr.mono (by decide)) rfl Zv (Za (pv 0) (Za (pv 2) Zb))))
   (Zd (Zq (i:=4) sc_fences_of.nd rfl (Or.inl rfl) (Zrx (K:=K) rfl rfl rfl T.b_max (Za (ZN ["elder","place"] [none,some 2] rfl rfl rfl (Zci (pv 3)) (λ_ _ _ _ _=>(Zl (i:=0) (show(["elder","place"]:List Str).Nodup from by decide +kernel) rfl (Or.inl rfl))) (λ_ _ _ _ _=>ZhK (Zw Zep (pv 0) (pv 1) (Zx _))) (λ_ _ _ _ _=>(pv 0)) Zp) Zb) (ZmA (Zmv ZjN Ze) ZoW)))
   (Zd (Zq (i:=5) sc_fences_of.nd rfl (Or.inl rfl) (Zry (K:=K) rfl rfl rfl T.b_min (Za (ZN ["elder","place"] [none,some 2] rfl rfl rfl (Zci (pv 3)) (λ_ _ _ _ _=>(Zl (i:=0) (show(["elder","place"]:List Str).Nodup from by decide +kernel) rfl (Or.inl rfl))) (λ_ _ _ _ _=>ZhK (Zw ZhH (pv 0) (pv 1) (Zx _))) (λ_ _ _ _ _=>(pv 0)) Zp) Zb) (ZmA (Zm (Zu (K:=K) rfl) rfl T.b_len Yy (Za (pv 0) Zb)) ZoW)))
   (Zf (Zad (Zch PySem.F.plainAttrs_list PySem.F.slot_list_append PySem.F.type_list_append Z2 (pv 1) (Za (Za4 (Za (pv 4) (Za (pv 5) Zb))) Zb)))))))))
   (Zf (Zr (pv 1))))),?_⟩
 walk_at "rd"
 have eT:T'.length=ns.length:=hT.1
 have eL:(T'.map V.int).length=T'.length:=Yg ..
 refine⟨Yz _,λp hp=>?_⟩
 have s0:Zh H (upd H p (.lst [])):=(Zh.refl H).upd hp
 refine⟨_,.inr (SqT.of (s0 _ _ ht)),by omega,by rw[eL];omega,?_⟩
 have en:(((T'.map V.int).length:Nat):Int).toNat=ns.length:=by rw[eL];omega
 rw[en]
 have h0:ZaW (upd H p (.lst [])) p 0 (λp=>(ZeJ (nth ns) p,Zf5 (nth ns) ns.length p)):=⟨[],Zc,rfl,λj q hq=>by simp at hq⟩
 generalize upd H p (.lst [])=H0 at s0 h0⊢
 refine Zal (λi σ Hx=>∃v2 v3 v4 v5,σ=[some (.ref t),some (.ref p),v2,v3,v4,v5]/\ZaW Hx p i (λp=>(ZeJ (nth ns) p,Zf5 (nth ns) ns.length p))/\Zh H Hx) ⟨_,_,_,_,rfl,h0,s0⟩ ?_ ?_
 ·rintro i σ Hx hi ⟨v2,v3,v4,v5,rfl,hP,sx⟩
  have e0:((0:Int)+(i:Int))=(i:Int):=by omega
  rw[e0]
  have hpi:i<ns.length:=hi
  have hw1:(wayI T' i).length<=1000:=by simp only[wayI,Yg];exact Yi (ZkX _ _ _) (by omega)
  refine ZaE (fun σ Hy=>∃w:Addr,σ=[some (.ref t),some (.ref p),some (.int (i:Int)),some (.ref w),v4,v5]/\Hy w=some (.lst ((wayI T' i).map V.int))/\ZaW Hy p i (λp=>(ZeJ (nth ns) p,Zf5 (nth ns) ns.length p))/\Zh H Hy) (λR hR=>?_) ?_
  ·walk_at "rd"
   exact⟨t,T',i,rfl,sx _ _ ht,by omega,by omega,λw H1 hw s1 h1=>hR _ _ ⟨w,rfl,h1,hP.same s1,sx.trans s1⟩⟩
  rintro σ Hy ⟨w,rfl,hw,hP1,sy⟩
  refine ZaE (fun σ Hz=>σ=[some (.ref t),some (.ref p),some (.int (i:Int)),some (.ref w),some (.int (ZeJ (nth ns) i)),v5]/\Hz w=some (.lst ((wayI T' i).map V.int))/\ZaW Hz p i (λp=>(ZeJ (nth ns) p,Zf5 (nth ns) ns.length p))/\Zh H Hz) (λR hR=>?_) ?_
  ·walk_at "rd"
   refine⟨⟨_,SqL.of hw⟩,Zju (λo=>decide (o<(i:Int))) hw hw1 (λx Hy R hR=>?_) λl H2 s2 hl=>?_⟩
   ·walk_at "rd"
    exact hR
   have FA:=Zph hT hpi
   have g:=s2.ZL (o:=.lst (((wayI T' i).filter λo=>decide (o<(i:Int))).map V.int)) hl
   refine⟨l,rfl,_,SqL.of Zc,λe=>?_,λhne m hm hmax=>?_⟩
   ·rw[<-FA.1 e]
    exact hR _ _ ⟨rfl,g _ _ hw,hP1.same g,sy.trans g⟩
   ·rw[FA.2 hne m hm hmax]
    exact hR _ _ ⟨rfl,g _ _ hw,hP1.same g,sy.trans g⟩
  clear hw hP1 sy Hy
  rintro σ Hy ⟨rfl,hw,hP1,sy⟩
  refine ZaE (fun σ Hz=>σ=[some (.ref t),some (.ref p),some (.int (i:Int)),some (.ref w),some (.int (ZeJ (nth ns) i)),some (.int (Zf5 (nth ns) ns.length i))]/\ZaW Hz p i (λp=>(ZeJ (nth ns) p,Zf5 (nth ns) ns.length p))/\Zh H Hz) (λR hR=>?_) ?_
  ·walk_at "rd"
   refine⟨⟨_,SqL.of hw⟩,Zju (λo=>decide ((i:Int)<o)) hw hw1 (λx Hy R hR=>?_) λl H2 s2 hl=>?_⟩
   ·walk_at "rd"
    exact hR
   have FB:=Zpi hT hpi
   have g:=s2.ZL (o:=.lst (((wayI T' i).filter λo=>decide ((i:Int)<o)).map V.int)) hl
   refine⟨_,.inr (SqT.of ((sy.trans g) _ _ ht)),l,rfl,_,SqL.of Zc,λe=>?_,λhne m hm hmin=>?_⟩
   ·rw[eL,eT,<-FB.1 e]
    exact hR _ _ ⟨rfl,hP1.same g,sy.trans g⟩
   ·rw[FB.2 hne m hm hmin]
    exact hR _ _ ⟨rfl,hP1.same g,sy.trans g⟩
  clear hw hP1 sy Hy
  rintro σ Hy ⟨rfl,hP1,sy⟩
  walk_at "rd"
  obtain⟨qs,hq1,hq2,hq3⟩:=id hP1
  refine⟨ZM hq1,by decide,λq hq=>?_⟩
  have g:=(Zh.refl Hy).upd (o:=.tup [.int (ZeJ (nth ns) i),.int (Zf5 (nth ns) ns.length i)]) hq
  obtain⟨xs,hx1,hx2,hx3⟩:=(hP1.same g).push (q:=q) Zc
  have zp:H p=none:=hp
  refine⟨xs,hx1,Yv (show _<=1000 by omega) (by decide),hx3,λb o z=>?_⟩
  rw[Zg (Zo z zp)]
  exact(sy.trans g) b o z
 ·rintro σ Hx ⟨v2,v3,v4,v5,rfl,hP,sx⟩
  walk_at "rd"
  exact k1 p Hx sx hP
theorem ZgE {f:Addr}{fd:FuncData} (F:Fun K "distance_list" "distance_list" Z4 f fd) (ZeP:Callee P w K mg base "fences_of" 2 ["tree"] (sp_fences_of K mg)) (T:Txt K mg):FnOk P w K mg base (CXE P w) 3 f fd ["tree"] (ZbC K mg):=by
 refine F.okX ZgC (λvs H Q E h=>?_) (λcdv A outer s H vs Q E hr h=>?_)
 ·obtain⟨t,ns,T,rfl,_⟩:=h;rfl
 obtain⟨t,ns,T',rfl,ht,hT,hn,k1⟩:=h
 refine⟨_,(Zf (Zr (ZN ["place","ahead","behind"] [none,none,none] rfl rfl rfl (ZhA (K:=K) rfl rfl T.b_enumerate (Za (Zi ZeP (hr.mono (by decide)) rfl Zv (Za (pv 0) Zb)) Zb)) (λ_ _ _ _ _=>(Zc1 (K:=K) (n:=2) rfl rfl (Zy (Zl (i:=0) (show(["place","ahead","behind"]:List Str).Nodup from by decide +kernel) rfl (Or.inl rfl)) (Zy (Zc1 (K:=K) (n:=2) rfl rfl (Zy (Zl (i:=1) (show(["place","ahead","behind"]:List Str).Nodup from by decide +kernel) rfl (Or.inl rfl)) (Zy (Zl (i:=2) (show(["place","ahead","behind"]:List Str).Nodup from by decide +kernel) rfl (Or.inl rfl)) ZbL))) ZbL)))) (λ_ _ _ _ _=>ZJ) (λ_ _ _ _ _=>(ZhE (Zw ZoU (pv 1) Ze (Zx _)) (Zj ZS (pv 0) (pv 1)) Ze)) (ZbX (ZD Zp (ZD (ZbX (ZD Zp (ZD Zp ZbW))) ZbW)))))),?_⟩
 walk_at "rd"
 refine⟨t,ns,T',rfl,ht,hT,hn,λl H1 s1 hP=>?_⟩
 obtain⟨qs,h1,h2,h3⟩:=hP
 refine⟨l,rfl,_,SqL.of h1,comp_map (n:=ns.length) (λq=>V.int (ZR (nth ns) q)) (Yv (show _<=1000 by omega) (by decide)) (λj Hx s hj=>⟨_,_,SqL.of (s _ _ h1),Yf (by simpa[h2]using hj)⟩) (λHx s=>⟨_,SqL.of (s _ _ h1),by simp[h2]⟩) ?_ ?_⟩
 ·rintro j x Hx Hy hj s ⟨p,x,hp,rfl,rfl,hx⟩
  have hx1:=hx _ (SqL.of (s _ _ h1))
  obtain⟨q,hq⟩:∃q,qs[j]?=some q:=⟨qs[j]'(by omega),Yf (by omega)⟩
  rw[Yx,hq]at hx1
  cases hx1
  have hq1:=s _ _ (h3 j q hq)
  have hq2:=((Zh.refl Hx).upd (o:=.tup [.int (j:Int),.ref q]) hp) _ _ hq1
  walk_at "rd"
  refine⟨_,SqT.of Zc,rfl,_,_,rfl,_,_,rfl,_,rfl,_,SqT.of hq2,rfl,_,_,rfl,_,_,rfl,rfl,rfl,_,rfl,ZW (λz=>⟨_,rfl,_,rfl,CW.next hj ?_ (s.ZL hp)⟩) λz=>CW.next hj ?_ (s.ZL hp)⟩
  ·unfold ZR;rw[Yd z]
  ·unfold ZR;rw[Yc z]
 ·intro l' Hx s hl'
  have ed:(List.range ns.length).map (λq=>V.int (ZR (nth ns) q))=(Zc3 ns).map V.int:=by simp[Zc3]
  rw[ed]
  exact k1 l' _ ((s1.trans s).free hl') ((s1.trans s).ZL hl') Zc
theorem ZgF {f:Addr}{fd:FuncData} (F:Fun K "row_distances" "row_distances" Z5 f fd) (ZgH:Callee P w K mg base "tree_of" 2 ["row"] (sp_tree_of K mg)) (Zb6:Callee P w K mg base "distance_list" 3 ["tree"] (ZbC K mg)) (T:Txt K mg):FnOk P w K mg base (CXE P w) 4 f fd ["row"] (ZbD K mg):=by
 refine F.okX ZgD (λvs H Q E h=>?_) (λcdv A outer s H vs Q E hr h=>?_)
 ·obtain⟨r,ns,rfl,_⟩:=h;rfl
 obtain⟨r,ns,rfl,hS,hn,k1⟩:=h
 refine⟨_,(Zf (Zr (Zi Zb6 (hr.mono (by decide)) rfl Zv (Za (Zi ZgH (hr.mono (by decide)) rfl Zv (Za (pv 0) Zb)) Zb)))),?_⟩
 walk_at "rd"
 exact⟨r,ns,rfl,hS,hn,λt es H1 hT s1 ht=>⟨t,ns,es,rfl,ht,hT,hn,λl H2 zl s2 hl=>k1 l _ (s1.free zl) (s1.trans s2) hl⟩⟩
theorem Zh4 {f:Addr}{fd:FuncData} (F:Fun K "seen_within" "seen_within" Zam f fd) (T:Txt K mg):FnOk P w K mg base (CXE P w) 1 f fd ["distance","size"] (ZcF K mg):=by
 refine F.okX Zh1 (λvs H Q E h=>?_) (λcdv A outer s H vs Q E hr h=>?_)
 ·obtain⟨d,k,rfl,_⟩:=h;rfl
 obtain⟨d,k,rfl,k1⟩:=h
 refine⟨_,(Zf (Zr (ZhE (Zw Zmz (pv 0) (pv 1) (Zx _)) (pv 0) Ze))),?_⟩
 walk_at "rd"
 unfold sw at k1
 by_cases h:d<=k
 ·rw[Yd h]at k1⊢;exact k1
 ·rw[Yc h]at k1⊢;exact k1
theorem kk_map (xs:List Int):(xs.map (Sum.inl:Int->Key)).map kV=xs.map V.int:=by rw[YZ];rfl
theorem ZpG:∀{xs ys:List Int},xs.map (Sum.inl:Int->Key)=ys.map Sum.inl->xs=ys
 |[],[],_=>rfl
 |[],_::_,h=>by cases h
 |_::_,[],h=>by cases h
 |x::xs,y::ys,h=>by
  rw[YG,YG]at h
  injection h with h1 h2
  injection h1 with h1
  rw[h1,ZpG h2]
noncomputable def Zdp (H0 H:Hp) (p:Addr) (ns:List Int) (c j:Nat):Prop:=∃(kvs:List (List Key×V)) (as:List Addr),H p=some (.dT kvs)/\kvs.map (·.1)=(Zk (Zs ns c) j).map (λf=>(Zab ns c f).map Sum.inl)/\kvs.map (·.2)=as.map V.ref/\as.Nodup/\(∀i (h1:i<as.length) (h2:i<(Zk (Zs ns c) j).length),H as[i]=some (.lst (ZO (Zdj (Zs ns c) j (Zk (Zs ns c) j)[i]))))/\(∀a∈as,H0 a=none)
theorem Zdp.same {H0 H H':Hp}{p:Addr}{ns:List Int}{c j:Nat} (h:Zdp H0 H p ns c j) (s:Zh H H'):Zdp H0 H' p ns c j:=by
 obtain⟨kvs,as,h1,h2,h3,h4,h5,h6⟩:=h
 exact⟨kvs,as,s _ _ h1,h2,h3,h4,λi a b=>s _ _ (h5 i a b),h6⟩
theorem Zt {ns:List Int}{c a b:Nat}:Zs ns c a b=true↔Zab ns c a=Zab ns c b:=decide_eq_true_iff
theorem ZnP {ns:List Int}{c j f g:Nat} (hf:f∈Zk (Zs ns c) j) (hg:g∈Zk (Zs ns c) j) (e:Zab ns c f=Zab ns c g):f=g:=by
 have h1:=(Zba.mp hf).2
 have h2:=(Zba.mp hg).2
 rcases Nat.lt_trichotomy f g with h|h|h
 ·have:=h2 f h;rw[Zt.mpr e]at this;cases this
 ·exact h
 ·have:=h1 g h;rw[Zt.mpr e.symm]at this;cases this
theorem ZhS (xs:List Nat) (j:Nat):ZO (xs++[j])=ZO xs++[V.int (j:Int)]:=by unfold ZO;rw[YC];rfl
theorem ZpH (E:Nat->Nat->Bool) (j f:Nat):(Zdj E j f).length<=j:=by
 unfold Zdj
 refine Yi (Y8 _ _) ?_
 rw[YT];exact Ye _
theorem Zdp.old {H0 H:Hp}{p:Addr}{ns:List Int}{c j:Nat} (hG:Zdp H0 H p ns c j) {kvs:List (List Key×V)} (hp:H p=some (.dT kvs)) {v:V} (hv:Zcl kvs ((Zab ns c j).map Sum.inl)=some v) :
  ∃a xs,v=.ref a/\a≠p/\H0 a=none/\H a=some (.lst xs)/\xs.length<=j/\Zdp H0 (upd H a (.lst (xs++[V.int (j:Int)]))) p ns c (j+1):=by
 obtain⟨kvs',as,h1,h2,h3,h4,h5,h6⟩:=hG
 rw[h1]at hp;cases hp
 obtain⟨i,hi,e⟩:=ZmX hv
 have l1:kvs.length=(Zk (Zs ns c) j).length:=by simpa using congrArg List.length h2
 have l2:kvs.length=as.length:=by simpa using congrArg List.length h3
 have hF:i<(Zk (Zs ns c) j).length:=by omega
 have hA:i<as.length:=by omega
 have e1:(Zab ns c (Zk (Zs ns c) j)[i]).map (Sum.inl:Int->Key)=(Zab ns c j).map Sum.inl:=by
  have:=congrArg (λ(l:List (List Key))=>l[i]?) h2
  simp only[Yx,Yf hi,Yf hF,Option.map_some,e]at this
  exact(Yo this).symm
 have e2:v=V.ref as[i]:=by
  have:=congrArg (λ(l:List V)=>l[i]?) h3
  simp only[Yx,Yf hi,Yf hA,Option.map_some,e]at this
  exact Yo this
 have ek:=ZpG e1
 have mF:=YA hF
 have lF:=(Zba.mp mF).1
 have eF:Zk (Zs ns c) (j+1)=Zk (Zs ns c) j:=Zla lF (Zt.mpr ek)
 have hL:=h5 i hA hF
 have np:as[i]≠p:=λz=>by rw[z,h1]at hL;cases hL
 refine⟨as[i],_,e2,np,h6 _ (YA hA),hL,by rw[Z3];exact ZpH _ _ _,kvs,as,by rw[Zg (Ne.symm np)];exact h1,by rw[eF];exact h2,h3,h4,λi' a b=>?_,h6⟩
 have b':i'<(Zk (Zs ns c) j).length:=by rw[eF]at b;exact b
 have eg:(Zk (Zs ns c) (j+1))[i']=(Zk (Zs ns c) j)[i']:=by simp only[eF]
 rw[eg,Zjx]
 by_cases z:i'=i
 ·subst z
  rw[Zc,Yd (Zt.mpr ek.symm),ZhS]
 ·rw[Zg (λy=>z ((List.getElem_inj h4).mp y)),Yc,List.append_nil]
  ·exact h5 i' a b'
  ·intro y
   have:=ZnP (YA b') mF ((Zt.mp y).symm.trans ek.symm)
   exact z ((List.getElem_inj (ZiQ _ _)).mp this)
theorem Zdp.new {H0 Hb H:Hp}{p l:Addr}{ns:List Int}{c j:Nat} (hG:Zdp H0 Hb p ns c j) (s:Zh Hb H) (hlb:Hb l=none) (hl:H l=some (.lst [])) (hl0:H0 l=none) {kvs:List (List Key×V)} (hp:H p=some (.dT kvs)) (hv:Zcl kvs ((Zab ns c j).map Sum.inl)=none) :
  Zdp H0 (upd (upd H p (.dT (kvs++[((Zab ns c j).map Sum.inl,V.ref l)]))) l (.lst ([]++[V.int (j:Int)]))) p ns c (j+1):=by
 obtain⟨kvs',as,h1,h2,h3,h4,h5,h6⟩:=hG
 have h1':=s _ _ h1
 rw[h1']at hp;cases hp
 have nlp:p≠l:=λz=>by rw[z,hlb]at h1;cases h1
 have l1:kvs.length=(Zk (Zs ns c) j).length:=by simpa using congrArg List.length h2
 have l2:kvs.length=as.length:=by simpa using congrArg List.length h3
 have no:=Zpr hv
 rw[h2]at no
 have noE:∀b,b<j->Zs ns c b j=false:=by
  intro b hb
  rw[Bool.eq_false_iff];intro z
  obtain⟨f,f1,f2,f3⟩:=ZhV (E:=Zs ns c) (λa b c h1 h2=>Zt.mpr ((Zt.mp h1).trans (Zt.mp h2))) (λa=>Zt.mpr rfl) j b hb
  have e:Zab ns c f=Zab ns c j:=(Zt.mp f2).trans (Zt.mp z)
  exact no (YJ.mpr ⟨f,f1,by rw[e]⟩)
 have eF:=Zlb noE
 have nin:l∉as:=λz=>by
  obtain⟨i,hi,e⟩:=YY z
  have:=h5 i hi (by omega)
  rw[e,hlb]at this;cases this
 refine⟨_,as++[l],by rw[Zg nlp,Zc],by rw[eF,YC,YC,h2];rfl,by rw[YC,YC,h3];rfl,ZmW h4 nin,λi a b=>?_,λa ha=>?_⟩
 ·have b':i<(Zk (Zs ns c) j++[j]).length:=by rw[<-eF];exact b
  have eg:(Zk (Zs ns c) (j+1))[i]=(Zk (Zs ns c) j++[j])[i]:=by simp only[eF]
  rw[eg,Zjx]
  by_cases z:i<as.length
  ·have z':i<(Zk (Zs ns c) j).length:=by omega
   rw[Y0 z,Y0 z']
   have h7:=h5 i z z'
   have nl:as[i]≠l:=λy=>nin (y▸YA z)
   rw[Zg nl,Zg (λy=>by rw[y,h1]at h7;cases h7),Yc,List.append_nil]
   ·exact s _ _ h7
   ·intro y
    have:=noE _ (Zba.mp (YA z')).1
    rw[Zt.mpr (Zt.mp y).symm]at this;cases this
  ·have ei:i=as.length:=by simp at a;omega
   subst ei
   rw[Y5 (Ye _)]
   simp only[Nat.sub_self,List.getElem_cons_zero]
   have e3:(Zk (Zs ns c) j++[j])[as.length]=j:=by
    rw[Y5 (by omega)]
    simp only[show as.length-(Zk (Zs ns c) j).length=0 by omega,List.getElem_cons_zero]
   rw[e3,Zc,Yd (Zt.mpr rfl)]
   have e4:Zdj (Zs ns c) j j=[]:=by
    unfold Zdj
    rw[List.filter_eq_nil_iff]
    intro b hb
    rw[noE b (YF.mp hb)];exact Yu
   rw[e4];rfl
 ·rcases Yq.mp ha with ha|ha
  ·exact h6 a ha
  ·rw[YO.mp ha];exact hl0
theorem Zmb {ns:List Int}{c i:Nat} (h:i<(Zcm ns c).length) (h2:i<(Zk (Zs ns c) (ZG ns.length c)).length):(Zcm ns c)[i]=Zdj (Zs ns c) (ZG ns.length c) (Zk (Zs ns c) (ZG ns.length c))[i]:=List.getElem_map _
theorem ZpI (ns:List Int) {c a:Nat} (e:a+c<=ns.length):(ZcW (Zc3 ns) a c).map V.int=(List.range c).map (λi=>V.int (ZR (nth ns) (a+i))):=by
 refine(List.ext_getElem (by rw[Yg,ZhQ (by rw[ZgA];omega),Yg,YT]) λj h1 h2=>?_)
 have hj:j<c:=by simpa using h2
 rw[List.getElem_map,List.getElem_map,List.getElem_range]
 congr 1
 have e1:=ZeI (ns:=Zc3 ns) (a:=a) hj
 rw[ZnA (by omega)]at e1
 rw[<-e1]
 unfold nth
 rw[YD,Yf (by simpa using h1)];rfl
theorem Zhi {f:Addr}{fd:FuncData} (F:Fun K "stretch_keys" "stretch_keys" Zah f fd) (Zdq:Callee P w K mg base "seen_within" 1 ["distance","size"] (ZcF K mg)) (T:Txt K mg):FnOk P w K mg base (CXE P w) 2 f fd ["told","size"] (Zb3 K mg):=by
 refine F.okX Zb4 (λvs H Q E h=>?_) (λcdv A outer s H vs Q E hr h=>?_)
 ·obtain⟨l,ns,c,rfl,_⟩:=h;rfl
 obtain⟨l,ns,c,rfl,hl,hn,hc1,hc2,k1⟩:=h
 refine⟨_,(Zd (Zq (i:=2) Zb4.nd rfl (Or.inl rfl) (ZaT Zb))
   (Zd (ZaU (Zby PassesOwn.never rfl (ZU rfl T.b_range (Za (Zj ZC (Zj ZS (Zm (Zu (K:=K) rfl) rfl T.b_len Yy (Za (pv 0) Zb)) (pv 1)) Ze) Zb)) (Zl (i:=3) Zb4.nd rfl (Or.inl rfl)) (Zf (Zad (Zch PySem.F.plainAttrs_list PySem.F.slot_list_append PySem.F.type_list_append Z2 (pv 2) (Za (Z1 (ZdJ (K:=K) rfl) rfl T.b_tuple ZcA (Za (ZN ["at","distance"] [none,none] rfl rfl rfl (ZhA (K:=K) rfl rfl T.b_enumerate (Za (Zak ZbM (pv 0) (Zae (pv 3)) (Zae (Zj ZC (pv 3) (pv 1)))) Zb)) (λ_ _ _ _ _=>(Zc1 (K:=K) (n:=2) rfl rfl (Zy (Zl (i:=0) (show(["at","distance"]:List Str).Nodup from by decide +kernel) rfl (Or.inl rfl)) (Zy (Zl (i:=1) (show(["at","distance"]:List Str).Nodup from by decide +kernel) rfl (Or.inl rfl)) ZbL)))) (λ_ _ _ _ _=>ZJ) (λ_ _ _ _ _=>(Zi Zdq (hr.mono (by decide)) rfl Zv (Za (pv 1) (Za (pv 0) Zb)))) (ZbX (ZD Zp (ZD Zp ZbW)))) Zb)) Zb))))))
   (Zf (Zr (pv 2))))),?_⟩
 walk_at "rd"
 refine⟨Yz _,λp hp=>?_⟩
 have s0:=(Zh.refl H).upd (o:=.lst []) hp
 have eD:((Zc3 ns).map V.int).length=ns.length:=by rw[Yg,ZgA]
 refine⟨_,.inl (SqL.of (s0 _ _ hl)),by omega,by omega,?_⟩
 rw[eD,show((ns.length:Int)-(c:Int)+1).toNat=ZG ns.length c by unfold ZG;omega]
 have hm:ZG ns.length c<=1000:=by unfold ZG;omega
 refine ZlZ (n:=ZG ns.length c) (λa σ Hz=>∃(v3:Option V) (as:List Addr),σ=[some (.ref l),some (.int (c:Int)),some (.ref p),v3]/\Hz p=some (.lst (as.map V.ref))/\as.length=a/\(∀i (h:i<as.length),Hz as[i]=some (.tup ((Zab ns c i).map V.int)))/\Zh H Hz) ⟨none,[],rfl,Zc,rfl,(λi h=>absurd h (by simp)),s0⟩ (λa σ Hz ha _=>by show _ < _;omega) (fun σ Hz _=>by show _<=_;omega) ?_ ?_
 ·rintro a x σ Hz Hw ha ⟨v3,as,rfl,hz,hal,hk,sz⟩ ⟨rfl,rfl⟩
  walk_at "rd"
  have hac:a+c<=ns.length:=by unfold ZG at ha;omega
  refine⟨ZM hz,_,SqL.of (sz _ _ hl),λl2 hl2=>?_⟩
  rw[show(0:Int)+(a:Int)=((a:Nat):Int) by omega,show((a:Nat):Int)+(c:Int)=((a+c:Nat):Int) by omega,Zk3 (Zc3 ns) (by omega) (by rw[ZgA];omega),show a+c-a=c by omega,ZpI ns hac]
  have g1:=(Zh.refl Hw).upd (o:=.lst ((List.range c).map (λi=>V.int (ZR (nth ns) (a+i))))) hl2
  refine⟨_,SqL.of Zc,?_⟩
  have hL:=Zc (H:=Hw) (a:=l2) (o:=.lst ((List.range c).map (λi=>V.int (ZR (nth ns) (a+i)))))
  generalize upd Hw l2 (.lst ((List.range c).map (λi=>V.int (ZR (nth ns) (a+i)))))=H1 at g1 hL⊢
  refine comp_map (n:=c) (λi=>V.int (sw (ZR (nth ns) (a+i)) i)) (Yv (show _<=1000 by omega) (by decide)) (λj Hx s hj=>⟨_,_,SqL.of (s _ _ hL),Yf (by simpa using hj)⟩) (λHx s=>⟨_,SqL.of (s _ _ hL),by simp⟩) ?_ ?_
  ·rintro j v Hx Hy hj s ⟨q,x,hq,rfl,rfl,hx⟩
   have ex:=hx _ (SqL.of (s _ _ hL))
   rw[Yx,List.getElem?_range hj]at ex
   cases ex
   walk_at "rd"
   exact⟨_,SqT.of Zc,rfl,_,_,rfl,_,_,rfl,rfl,_,j,rfl,CW.next hj rfl (s.ZL hq)⟩
  intro q Hx s hq
  have hz1:=(g1.trans s) _ _ hz
  have npq:q≠p:=λe=>by rw[e,hz1]at hq;cases hq
  refine⟨q,rfl,_,.inl ⟨SqL.of Zc,λt ht=>?_⟩⟩
  have eK:(List.range c).map (λi=>V.int (sw (ZR (nth ns) (a+i)) i))=(Zab ns c a).map V.int:=by unfold Zab;rw[YZ];rfl
  rw[eK]at ht⊢
  have g2:=((g1.trans s).ZL (o:=.lst ((Zab ns c a).map V.int)) hq).ZL (o:=.tup ((Zab ns c a).map V.int)) ht
  have hT:=Zc (H:=upd Hx q (.lst ((Zab ns c a).map V.int))) (a:=t) (o:=.tup ((Zab ns c a).map V.int))
  generalize upd (upd Hx q (.lst ((Zab ns c a).map V.int))) t (.tup ((Zab ns c a).map V.int))=H2 at g2 hT⊢
  have hp2:=g2 _ _ hz
  have nt:t≠p:=λe=>by rw[e,hp2]at hT;cases hT
  refine⟨_,hp2,Yv (show _<=1000 by rw[Yg];omega) (by decide),as++[t],by rw[Zc];simp,by simp[hal],λi h=>?_,λx o hx=>?_⟩
  ·by_cases e:i<as.length
   ·rw[Y0 e]
    have h3:=g2 _ _ (hk i e)
    rw[Zg (λe2=>by rw[e2,hp2]at h3;cases h3)];exact h3
   ·have ei:i=as.length:=by simp at h;omega
    subst ei
    rw[Y5 (Ye _)]
    simp only[Nat.sub_self,List.getElem_cons_zero]
    rw[Zg nt,hal];exact hT
  ·rw[Zg (λe=>by rw[e,hp]at hx;cases hx)]
   exact(sz.trans g2) _ _ hx
 ·rintro σ Hz ⟨v3,as,rfl,hz,hal,hk,sz⟩
  walk_at "rd"
  exact k1 p Hz hp sz ⟨as,hz,hal,hk⟩
theorem Zkl {f:Addr}{fd:FuncData} (F:Fun K "groups_by" "groups_by" Zbc f fd) (ZcL:Callee P w K mg base "stretch_keys" 2 ["told","size"] (Zb3 K mg)) (T:Txt K mg):FnOk P w K mg base (CXE P w) 3 f fd ["told","size"] (Zd1 K mg):=by
 refine F.okX Zcp (λvs H Q E h=>?_) (λcdv A outer s H vs Q E hr h=>?_)
 ·obtain⟨l,ns,c,rfl,_⟩:=h;rfl
 obtain⟨l,ns,c,rfl,hl,hn,hc1,hc2,k1⟩:=h
 refine⟨_,(Zd (Zq (i:=2) Zcp.nd rfl (Or.inl rfl) Zpp)
   (Zd (ZaU (Zby PassesOwn.never rfl (ZhA (K:=K) rfl rfl T.b_enumerate (Za (Zi ZcL (hr.mono (by decide)) rfl Zv (Za (pv 0) (Za (pv 1) Zb))) Zb)) (ZlG (n:=2) rfl (Zy (Zl (i:=3) Zcp.nd rfl (Or.inl rfl)) (Zy (Zl (i:=4) Zcp.nd rfl (Or.inl rfl)) ZbL))) (Zd (Zad (Zpt (hu_of hr) (pv 2) (pv 4) (ZaT Zb) ⟨rfl,rfl,rfl,rfl⟩))
   (Zf (Zad (Zch PySem.F.plainAttrs_list PySem.F.slot_list_append PySem.F.type_list_append Z2 (ZrE (hu_of hr) (pv 2) (pv 4) (λ_ _=>rfl)) (Za (pv 3) Zb)))))))
   (Zf (Zr (Z1 (ZhU rfl) rfl T.b_list Zc0 (Za (Zpu (pv 2)) Zb)))))),?_⟩
 walk_at "rd"
 intro p hp
 have s0:=(Zh.refl H).upd (o:=.dT []) hp
 have hp0:=Zc (H:=H) (a:=p) (o:=.dT [])
 generalize upd H p (.dT [])=H0 at s0 hp0⊢
 have hm:ZG ns.length c<=1000:=by unfold ZG;omega
 refine⟨l,ns,c,rfl,s0 _ _ hl,hn,hc1,hc2,λq H1 zq s1 hK=>⟨q,rfl,?_⟩⟩
 obtain⟨ks,hq,hkl,hks⟩:=hK
 refine⟨_,SqL.of hq,?_⟩
 have nqp:q≠p:=λe=>by rw[e,hp0]at zq;cases zq
 have hp1:=s1 _ _ hp0
 have nkp:∀i (h:i<ks.length),ks[i]≠p:=λi h e=>by have:=hks i h;rw[e,hp1]at this;cases this
 have sH:=s0.trans s1
 refine ZlZ (n:=ZG ns.length c) (λj σ Hz=>∃(v3 v4:Option V),σ=[some (.ref l),some (.int (c:Int)),some (.ref p),v3,v4]/\Zdp H1 Hz p ns c j/\Exc p H1 Hz) ⟨none,none,rfl,⟨[],[],hp1,rfl,rfl,List.nodup_nil,(λi h1 _=>absurd h1 (by simp)),(λa ha=>by cases ha)⟩,(Zh.refl H1).ZgX⟩ (λj σ Hz hj ⟨_,_,_,_,hE⟩=>⟨_,_,SqL.of (hE _ _ nqp hq),Yf (by rw[Yg,hkl];exact hj)⟩) (fun σ Hz ⟨_,_,_,_,hE⟩=>⟨_,SqL.of (hE _ _ nqp hq),by rw[Yg,hkl]⟩) ?_ ?_
 ·rintro j v σ Hz Hw hj ⟨v3,v4,rfl,hG,hE⟩ ⟨t,x,ht,rfl,rfl,hx⟩
  have hjk:j<ks.length:=by omega
  have ex:=hx _ (SqL.of (hE _ _ nqp hq))
  rw[Yx,Yf hjk]at ex
  cases ex
  walk_at "rd"
  refine⟨_,SqT.of Zc,rfl,_,_,rfl,_,_,rfl,rfl,?_⟩
  have g1:=(Zh.refl Hz).upd (o:=.tup [V.int (j:Int),V.ref ks[j]]) ht
  generalize upd Hz t (.tup [V.int (j:Int),V.ref ks[j]])=Hb at g1⊢
  have hGb:=hG.same g1
  obtain⟨kvs,as,hd,hd2,hd3,hd4⟩:=id hGb
  have hkl:kvs.length<=1000:=by
   have l1:kvs.length=(Zk (Zs ns c) j).length:=by simpa using congrArg List.length hd2
   have:(Zk (Zs ns c) j).length<=j:=by
    unfold Zk
    refine Yi (Y8 _ _) ?_
    rw[YT];exact Ye _
   omega
  refine⟨.inr ⟨_,.inl hd⟩,Yz _,λy hy=>?_⟩
  have g2:=(Zh.refl Hb).upd (o:=.lst []) hy
  have hy2:=Zc (H:=Hb) (a:=y) (o:=.lst [])
  generalize upd Hb y (.lst [])=Hc at g2 hy2⊢
  have gg:=g1.trans g2
  have hE2:Exc p H1 Hc:=hE.same gg
  have hkj:Hc ks[j]=some (.tup (((Zab ns c j).map (Sum.inl:Int->Key)).map kV)):=by rw[kk_map];exact hE2 _ _ (nkp j hjk) (hks j hjk)
  have hdc:=g2 _ _ hd
  have nyp:y≠p:=λe=>by rw[e,hd]at hy;cases hy
  have hy0:H1 y=none:=by
   cases e:H1 y with
   |none=>rfl
   |some o=>have:=(hE.same g1) _ _ nyp e;rw[hy]at this;cases this
  refine⟨kvs,hdc,_,_,rfl,hkj,Yv hkl (by decide),λv hv=>?_,λhv=>?_⟩
  ·obtain⟨a,xs,rfl,nap,ha0,ha,hxl,hG2⟩:=(hGb.same g2).old hdc hv
   refine⟨_,(Zl2.t hdc hkj) |> (λz=>by rw[hv]at z;exact z),ZM ha,a,rfl,xs,ha,Yv (show _<=1000 by omega) (by decide),hG2,λx o nx hx=>?_⟩
   rw[Zg (λe=>by rw[e,ha0]at hx;cases hx)];exact hE2 _ _ nx hx
  ·have nky:ks[j]≠p:=nkp j hjk
   refine⟨V.ref y,?_,ZM (by rw[Zg nyp];exact hy2),y,rfl,[],by rw[Zg nyp];exact hy2,by decide,hGb.new g2 hy hy2 hy0 hdc hv,λx o nx hx=>?_⟩
   ·have:=Zl2.t (H:=upd Hc p (.dT (kvs++[((Zab ns c j).map Sum.inl,V.ref y)]))) Zc (b:=ks[j]) (k:=(Zab ns c j).map Sum.inl) (by rw[Zg nky];exact hkj)
    rw[Zjv _ _ _ _ hv,Yd rfl]at this
    exact this
   ·rw[Zg (λe=>by rw[e,hy0]at hx;cases hx),Zg nx];exact hE2 _ _ nx hx
 ·rintro σ Hz ⟨v3,v4,rfl,hG,hE⟩
  walk_at "rd"
  obtain⟨kvs,as,hd,hd2,hd3,hd4,hd5,hd6⟩:=hG
  refine⟨kvs,hd,λv hv=>⟨p,Zc,kvs,?_,λq2 hq2=>?_⟩⟩
  ·rw[Zg (λe=>by rw[<-e,hd]at hv;cases hv)];exact hd
  have sz:Zh H Hz:=λx o hx=>hE _ _ (λe=>by rw[e,hp]at hx;cases hx) (sH _ _ hx)
  have g1:=(Zh.refl Hz).upd (o:=.ext (ZhT v p)) hv
  have g2:=g1.ZL (o:=.lst (kvs.map (·.2))) hq2
  have l1:kvs.length=(Zk (Zs ns c) (ZG ns.length c)).length:=by simpa using congrArg List.length hd2
  have l2:kvs.length=as.length:=by simpa using congrArg List.length hd3
  refine k1 q2 _ (sz.trans g2) ⟨as,by rw[Zc];exact congrArg (λz=>some (HO.lst z)) hd3,hd4,λz=>?_,?_,λi a b=>?_,(sz.trans g1).free hq2,λa ha=>sH.free (hd6 a ha)⟩
  ·obtain⟨i,hi,e⟩:=YY z
   have:=g1 _ _ (hd5 i hi (by omega))
   rw[e,hq2]at this;cases this
  ·unfold Zcm
   rw[Yg];omega
  ·have b':i<(Zk (Zs ns c) (ZG ns.length c)).length:=by unfold Zcm at b;simpa using b
   rw[Zmb b b']
   exact g2 _ _ (hd5 i a b')
theorem ZmZ {as:List Addr}{i:Nat} (h:i<as.length):atI (as.map V.ref) (i:Int)=some (V.ref as[i]):=by
 exact Zhv (by rw[Yx,Yf h];rfl)
theorem Zh5 (E:Nat->Nat->Bool) (m:Nat):(Zk E m).Pairwise (· < ·):=List.Pairwise.filter _ List.pairwise_lt_range
theorem Zli (E:Nat->Nat->Bool) (m f:Nat):(Zdj E m f).Pairwise (· < ·):=List.Pairwise.filter _ List.pairwise_lt_range
theorem Zh6 {E:Nat->Nat->Bool}{m f b:Nat}:b∈Zdj E m f↔b<m/\E b f=true:=by
 unfold Zdj
 rw[YU,YF]
theorem two_in {L:List Nat}{x y:Nat} (hx:x∈L) (hy:y∈L) (h:x≠y):1<L.length:=by
 match L,hx,hy with
 |[a],hx,hy=>exact absurd ((YO.mp hx).trans (YO.mp hy).symm) h
 |_::_::_,_,_=>simp
theorem pw_le {L:List Nat} (h:L.Pairwise (· < ·)) {i j:Nat} (hi:i<L.length) (hj:j<L.length) (hij:i<=j):L[i]<=L[j]:=by
 rcases Nat.lt_or_ge i j with z|z
 ·exact YV (List.pairwise_iff_getElem.mp h i j hi hj z)
 ·have:i=j:=by omega
  subst this;exact Ye _
section
variable {E:Nat->Nat->Bool}
theorem ZpJ (rf:∀a,E a a=true) (tr:∀a b c,E a b=true->E b c=true->E a c=true) (sy:∀a b,E a b=true->E b a=true) {m x y:Nat} (hxy:x<y) (hy:y<m) (h:E x y=true):∃(i:Nat) (hi:i<(Zk E m).length),(Zk E m)[i]<=x/\1<(Zdj E m (Zk E m)[i]).length:=by
 obtain⟨f,f1,f2,f3⟩:=ZhV tr rf m x (by omega)
 obtain⟨i,hi,rfl⟩:=YY f1
 exact⟨i,hi,f3,two_in (Zh6.mpr ⟨by omega,sy _ _ f2⟩) (Zh6.mpr ⟨hy,sy _ _ (tr _ _ _ f2 h)⟩) (by omega)⟩
theorem ZrK (rf:∀a,E a a=true) (tr:∀a b c,E a b=true->E b c=true->E a c=true) (sy:∀a b,E a b=true->E b a=true) {m:Nat} (h:∀(i:Nat) (hi:i<(Zk E m).length),(Zdj E m (Zk E m)[i]).length<=1):Zlf E m none:=λx y hxy hy=>by
 rw[Bool.eq_false_iff];intro z
 obtain⟨i,hi,_,h2⟩:=ZpJ rf tr sy hxy hy z
 have:=h i hi;omega
theorem ZrL (rf:∀a,E a a=true) (tr:∀a b c,E a b=true->E b c=true->E a c=true) (sy:∀a b,E a b=true->E b a=true) {m j:Nat} (hj:j<(Zk E m).length) (h:∀(i:Nat) (hi:i<(Zk E m).length),i<j->(Zdj E m (Zk E m)[i]).length<=1) {a b:Nat}{r:List Nat} (hg:Zdj E m (Zk E m)[j]=a::b::r):Zlf E m (some (a,b)):=by
 have hs:=Zli E m (Zk E m)[j]
 have hF:=Zba.mp (YA hj)
 have hma:∀x,x∈a::b::r↔x<m/\E x (Zk E m)[j]=true:=λx=>by rw[<-hg];exact Zh6
 rw[hg]at hs
 obtain⟨s1,s2⟩:=Y6.mp hs
 obtain⟨s3,_⟩:=Y6.mp s2
 have ha:=(hma a).mp (by simp)
 have hb:=(hma b).mp (by simp)
 have ea:a<=(Zk E m)[j]:=by
  have:=(hma _).mpr ⟨hF.1,rf _⟩
  rcases Yk.mp this with z|z
  ·omega
  ·have:=s1 _ z;omega
 refine⟨s1 b (by simp),hb.1,tr _ _ _ ha.2 (sy _ _ hb.2),λx y hxy hy hE=>?_,λy hy hym hE=>?_⟩
 ·obtain⟨i,hi,f3,h2⟩:=ZpJ rf tr sy hxy hy hE
  rcases Nat.lt_or_ge i j with z|z
  ·have:=h i hi z;omega
  ·have:=pw_le (Zh5 E m) hj hi z;omega
 ·have:=(hma y).mpr ⟨hym,tr _ _ _ (sy _ _ hE) ha.2⟩
  rcases Yk.mp this with z|z
  ·omega
  ·rcases Yk.mp z with z|z
   ·omega
   ·have:=s3 y z;omega
theorem ZrM {m:Nat}:∀{o o':Option (Nat×Nat)},Zlf E m o->Zlf E m o'->o=o'
 |none,none,_,_=>rfl
 |none,some (a,b),h,g=>by have:=h a b g.1 g.2.1;rw[g.2.2.1]at this;cases this
 |some (a,b),none,g,h=>by have:=h a b g.1 g.2.1;rw[g.2.2.1]at this;cases this
 |some (a,b),some (c,d),h,g=>by
  obtain⟨h1,h2,h3,h4,h5⟩:=h
  obtain⟨g1,g2,g3,g4,g5⟩:=g
  have e:a=c:=Nat.le_antisymm (h4 c d g1 g2 g3) (g4 a b h1 h2 h3)
  subst e
  rw[Nat.le_antisymm (h5 d g1 g2 g3) (g5 b h1 h2 h3)]
end
theorem aK_rf (ns:List Int) (c a:Nat):Zs ns c a a=true:=Zt.mpr rfl
theorem aK_tr (ns:List Int) (c a b d:Nat) (h1:Zs ns c a b=true) (h2:Zs ns c b d=true):Zs ns c a d=true:=Zt.mpr ((Zt.mp h1).trans (Zt.mp h2))
theorem aK_sy (ns:List Int) (c a b:Nat) (h:Zs ns c a b=true):Zs ns c b a=true:=Zt.mpr (Zt.mp h).symm
theorem ZrN (ns ms:List Int) (a b:Nat):Zab ns 1 a=Zab ms 1 b:=by
 have:∀(ns:List Int) a,Zab ns 1 a=[0]:=λns a=>by
  unfold Zab
  rw[show List.range 1=[0]from rfl,YG,List.map_nil]
  congr 1
  unfold sw
  have:=(ZdZ (nth ns) (a+0)).1
  split<;>omega
 rw[this,this]
theorem ZpK {ns ms:List Int}{c a b:Nat} (h:Zab ns (c+1) a=Zab ms (c+1) b):Zab ns c a=Zab ms c b:=by
 unfold Zab at *
 rw[YE,YC,YC]at h
 exact(List.append_inj h (by simp)).1
theorem Zlj {ns ms:List Int}{c:Nat}:∀{d a b:Nat},Zab ns (c+d) a=Zab ms (c+d) b->Zab ns c a=Zab ms c b
 |0,_,_,h=>h
 |d+1,_,_,h=>Zlj (d:=d) (ZpK h)
theorem Zh7 {ns:List Int}{c a b c' a' b':Nat} (h:ZhZ ns c a b) (g:ZhZ ns c' a' b'):c=c'/\a=a'/\b=b':=by
 have key:∀{c a b c' a' b':Nat},ZhZ ns c a b->ZhZ ns c' a' b'->¬ c<c':=λ{c a b c' a' b'} h g z=>by
  obtain⟨h1,h2,h3,h4⟩:=h
  obtain⟨g1,g2,g3,g4⟩:=g
  have e:Zab ns (c+1+(c'-(c+1))) a'=Zab ns (c+1+(c'-(c+1))) b':=by rw[show c+1+(c'-(c+1))=c' by omega];exact Zt.mp g3.2.2.1
  have:=h4 a' b' g3.1 (by have:=g3.2.1;unfold ZG at *;omega)
  rw[Zt.mpr (Zlj e)]at this;cases this
 have e:c=c':=by
  rcases Nat.lt_trichotomy c c' with z|z|z
  ·exact absurd z (key h g)
  ·exact z
  ·exact absurd z (key g h)
 subst e
 have:=ZrM h.2.2.1 g.2.2.1
 cases this
 exact⟨rfl,rfl,rfl⟩
theorem prOn {cs:List Addr}{H H':Hp}{y:V}{o:Option (Nat×Nat)} (hz:∀b∈cs,H' b=none) (h:PrAt H' y o):PrAt (onC cs H H') y o:=by
 match o,h with
 |none,h=>exact h
 |some (a,b),⟨t,e,ht⟩=>exact⟨t,e,onC_at hz ht⟩
theorem Zlk {f:Addr}{fd:FuncData} (F:Fun K "twice_at" "twice_at" ZbA f fd) (ZeQ:Callee P w K mg base "groups_by" 3 ["told","size"] (Zd1 K mg)) (T:Txt K mg):FnOk P w K mg base (CXE P w) 4 f fd ["told","size"] (ZeL K mg):=by
 refine F.okX ZgZ (λvs H Q E h=>?_) (λcdv A outer s H vs Q E hr h=>?_)
 ·obtain⟨l,ns,c,rfl,_⟩:=h;rfl
 obtain⟨l,ns,c,rfl,hl,hn,hc1,hc2,k1⟩:=h
 refine⟨_,(Zd (ZaU (Zby PassesOwn.never rfl (Zci (Zi ZeQ (hr.mono (by decide)) rfl Zv (Za (pv 0) (Za (pv 1) Zb)))) (Zl (i:=2) ZgZ.nd rfl (Or.inl rfl)) (Zf (Z0 (Zw ZhH (Zm (Zu (K:=K) rfl) rfl T.b_len Yy (Za (pv 2) Zb)) Ze (Zx _)) (Zf (Zr (Za4 (Za (ZT ZK (pv 2) Ze (λ_ _=>rfl)) (Za (ZT ZK (pv 2) Ze (λ_ _=>rfl)) Zb))))) ZH))))
   (Zf (Zr ZjK))),?_⟩
 walk_at "rd"
 refine⟨l,ns,c,rfl,hl,hn,hc1,hc2,λq H1 s1 hN=>⟨q,rfl,?_⟩⟩
 obtain⟨as,hq,_,_,hlen,hat,_,_⟩:=hN
 have hm:ZG ns.length c<=1000:=by unfold ZG;omega
 have lG:(Zcm ns c).length=(Zk (Zs ns c) (ZG ns.length c)).length:=Yg ..
 have gl:∀(i:Nat) (hi:i<(Zcm ns c).length) (hi2:i<(Zk (Zs ns c) (ZG ns.length c)).length),(Zcm ns c)[i]=Zdj (Zs ns c) (ZG ns.length c) (Zk (Zs ns c) (ZG ns.length c))[i]:=λi hi hi2=>List.getElem_map _
 generalize Zcm ns c=G at hlen hat lG gl
 generalize hE:Zs ns c=E0' at lG gl k1
 generalize ZG ns.length c=m at hm lG gl k1
 have rf:∀a,E0' a a=true:=λa=>by rw[<-hE];exact aK_rf ns c a
 have tr:∀a b d,E0' a b=true->E0' b d=true->E0' a d=true:=λa b d=>by rw[<-hE];exact aK_tr ns c a b d
 have sy:∀a b,E0' a b=true->E0' b a=true:=λa b=>by rw[<-hE];exact aK_sy ns c a b
 refine⟨⟨_,SqL.of hq⟩,?_⟩
 refine ZlZ (n:=as.length) (λj σ Hx=>∃v2,σ=[some (.ref l),some (.int (c:Int)),v2]/\(∀(i:Nat) (hi:i<(Zk E0' m).length),i<j->(Zdj E0' m (Zk E0' m)[i]).length<=1)/\Hx=H1) ⟨_,rfl,(λi hi z=>absurd z (by omega)),rfl⟩ (λj σ Hx hj ⟨_,_,_,e⟩=>by subst e;exact⟨_,_,SqL.of hq,Yf (by rw[Yg];exact hj)⟩) (fun σ Hx ⟨_,_,_,e⟩=>by subst e;exact⟨_,SqL.of hq,by rw[Yg];exact Ye _⟩) ?_ ?_
 ·rintro j x σ Hx Hy hj ⟨v2,rfl,hp,rfl⟩ ⟨rfl,hx⟩
  have ex:=hx _ (SqL.of hq)
  rw[Yx,Yf hj]at ex
  cases ex
  have hjF:j<(Zk E0' m).length:=by omega
  have hg:=hat j hj (by omega)
  rw[gl j (by omega) hjF]at hg
  walk_at "rd"
  refine⟨_,.inl (SqL.of hg),ZW (λz=>?_) λz i hi hij=>?_⟩
  ·rw[Z3]at z
   obtain⟨a,b,r,e⟩:∃a b r,Zdj E0' m (Zk E0' m)[j]=a::b::r:=by
    generalize Zdj E0' m (Zk E0' m)[j]=g at z
    match g,z with
    |a::b::r,_=>exact⟨a,b,r,rfl⟩
    |[_],z=>simp at z
    |[],z=>simp at z
   have tw:=ZrL rf tr sy hjF (λi hi y=>hp i hi y) e
   rw[e]at hg
   exact⟨_,SqL.of hg,_,ZeH (j:=0) rfl,_,SqL.of hg,_,ZeH (j:=1) rfl,by decide,λq hq=>k1 _ (some (a,b)) _ tw ⟨q,rfl,Zc⟩ (s1.ZL hq)⟩
  ·by_cases e:i=j
   ·subst e;rw[Z3]at z;omega
   ·exact hp i hi (by omega)
 ·rintro σ Hx ⟨v2,rfl,hp,rfl⟩
  walk_at "rd"
  exact k1 _ none _ (ZrK rf tr sy λi hi=>hp i hi (by omega)) rfl s1
theorem Zmc {f:Addr}{fd:FuncData} (F:Fun K "longest" "longest" Zcx f fd) (T:Txt K mg):FnOk P w K mg base (CXE P w) 8 f fd ["most","pair_at"] (ZfK P w K mg base):=by
 refine F.okX Za7 (λvs H Q E h=>?_) (λcdv A outer s H vs Q E hr h=>?_)
 ·obtain⟨f,most,sp,PrO,rfl,_⟩:=h;rfl
 obtain⟨f,most,sp,PrO,rfl,hf,hV,hm1,hm2,hp1,hsp,k1⟩:=h
 refine⟨_,(Zd (ZoR (i:=2) (j:=3) rfl Za7.nd rfl rfl (by decide) rfl rfl (Za Ze (Za (Zle (k:=7) (hr.mono (by decide)) (pv 1) (Za Ze Zb)) Zb)) rfl)
   (Zd (Zq (i:=4) Za7.nd rfl (Or.inl rfl) (Zj ZC (pv 0) Ze))
   (Zd (ZaU (ZhG PassesOwn.never (Zw ZhH (Zj ZS (pv 4) (pv 2)) Ze (Zx _)) (Zd (Zq (i:=5) Za7.nd rfl (Or.inl rfl) (Zj ZcD (Zj ZC (pv 2) (pv 4)) Ze))
   (Zd (Zq (i:=6) Za7.nd rfl (Or.inl rfl) (Zle (k:=7) (hr.mono (by decide)) (pv 1) (Za (pv 5) Zb)))
   (Zf (Z0 (Zw op_isN (pv 6) ZjK (Zx _)) (Zf (Zq (i:=4) Za7.nd rfl (Or.inl rfl) (pv 5))) (Zf (ZoR (i:=2) (j:=3) rfl Za7.nd rfl rfl (by decide) rfl rfl (Za (pv 5) (Za (pv 6) Zb)) rfl))))))))
   (Zf (Zr (Zj Zka (Za4 (Za (pv 2) Zb)) (pv 3))))))),?_⟩
 walk_at "rd"
 refine⟨hf,hf,sp,hV,hsp 1 H _ (Ye _) hm1 (Zh.refl _) λy o H1 s1 ho hy=>?_⟩
 cases o with
 |none=>exact absurd rfl (hp1 _ ho)
 |some ab =>
 obtain⟨a,b⟩:=ab
 obtain⟨t,rfl,ht⟩:=hy
 refine Zj5 most (λj σ Hx=>∃(c d a b:Nat) (t:Addr) (v5 v6:Option V),σ=[some (.int (most:Int)),some (.ref f),some (.int (c:Int)),some (.ref t),some (.int (d:Int)),v5,v6]/\1<=c/\c<d/\d<=most+1/\j+(d-c)<=most/\PrO c (some (a,b))/\(d<=most->PrO d none)/\Hx t=some (.tup [.int (a:Int),.int (b:Int)])/\Zh H Hx) ⟨1,most+1,a,b,t,_,_,rfl,by omega,by omega,by omega,by omega,ho,(λz=>absurd z (by omega)),ht,s1⟩ ?_
 clear ht ho s1 t a b H1
 rintro j σ H1 hj ⟨c,d,a,b,t,v5,v6,rfl,h1,h2,h3,h4,h5,h6,ht,s1⟩
 walk_at "rd"
 refine ZW (λz=>?_) λz=>?_
 ·have em:((c:Int)+(d:Int)) / 2=(((c+d) / 2:Nat):Int):=by omega
  rw[em]
  generalize hM:(c+d) / 2=M
  refine⟨_,WI.next,⟨by omega,by omega⟩,hf.same s1,hf.same s1,sp,hV,hsp M H1 _ (by omega) (by omega) s1 λy o H2 s2 ho hy=>?_⟩
  cases o with
  |none =>
   have hy:y=V.non:=hy
   subst hy
   rw[Yd rfl]
   exact⟨by omega,c,M,a,b,t,_,_,rfl,h1,by omega,by omega,by omega,h5,(λ_=>ho),s2 _ _ ht,s1.trans s2⟩
  |some ab =>
   obtain⟨a2,b2⟩:=ab
   obtain⟨t2,rfl,ht2⟩:=hy
   rw[Yc (λz=>nomatch z)]
   exact⟨by omega,M,d,a2,b2,t2,_,_,rfl,by omega,by omega,h3,by omega,ho,h6,ht2,s1.trans s2⟩
 ·refine⟨by decide,λq zq=>?_⟩
  have g1:=(Zh.refl H1).upd (o:=.tup [V.int (c:Int)]) zq
  have ed:d=c+1:=by omega
  subst ed
  exact⟨_,Zc,_,g1 _ _ ht,(show(3:Nat)<=sizeLine by decide),λu H2 s2 hu=>k1 u c a b H2 (s1.trans (g1.trans s2)) h1 (by omega) h5 (λy=>h6 (by omega)) hu⟩
theorem ZgG {f:Addr}{fd:FuncData} (F:Fun K "longest_twice" "longest_twice" Z6 f fd) (ZcM:Callee P w K mg base "need_numbers" 1 ["row","fewest"] (ZaX K mg)) (Zb7:Callee P w K mg base "row_distances" 4 ["row"] (ZbD K mg)) (ZfO:Callee P w K mg base "twice_at" 4 ["told","size"] (ZeL K mg)) (ZgI:Callee P w K mg base "longest" 8 ["most","pair_at"] (ZfK P w K mg base)) (L:LamD K mg "longest_twice" f) (B:BM mg base) (T:Txt K mg):FnOk P w K mg base (CXE P w) 9 f fd ["row"] (ZaM K mg):=by
 refine F.okL L B ZdN (λvs H Q E h=>?_) (λcdv A outer s H vs Q E LI hr h=>?_)
 ·obtain⟨r,ns,rfl,_⟩:=h;rfl
 obtain⟨r,ns,rfl,hr0,hn,hT,hE,k1⟩:=h
 refine⟨_,(Zd (Zad (Zi ZcM (hr.mono (by decide)) rfl ZmG (Za (pv 0) (Za Ze Zb))))
   (Zd (Zq (i:=1) ZdN.nd rfl (Or.inr rfl) (Zi Zb7 (hr.mono (by decide)) rfl Zv (Za (pv 0) Zb)))
   (Zf (Zr (ZnM (k:=6) (q:=lamQ "longest_twice") (P0:=Zlc K mg "longest_twice") (pn:="size") (fr:=["told"]) (js:=[1]) ⟨rfl,rfl,rfl,rfl,rfl,rfl,λ_ _ _ _ _ _=>rfl,λ_=>rfl⟩ (λ_ _ _ _ _ _ _ _ hr=>(Zi ZfO (hr.mono (by decide)) rfl Zv (Za (pv 1) (Za (pv 0) Zb)))) ZgI (hr.mono (by decide)) rfl (Za (Zj ZS (Zm (Zu (K:=K) rfl) rfl T.b_len Yy (Za (pv 0) Zb)) Ze) (Za (pe_lam ⟨LI.code,LI.bm,LI.ql⟩ rfl) Zb))))))),?_⟩
 walk_at "rd"
 have el:(ns.map V.int).length=ns.length:=Yg ..
 refine⟨r,ns,2,rfl,hr0,hn,by omega,by omega,λh2=>?_,λh2=>hE (by omega)⟩
 have h2:2<=ns.length:=by omega
 refine⟨r,ns,rfl,hr0,hn,λd H1 zd s1 hd=>⟨_,s1.q hr0,hT.same s1,λf1 H2 zf s2 LO=>⟨f1,rfl,LO,λcs H3 LT hfi hV=>?_⟩⟩⟩
 rw[el]
 refine⟨f1,ns.length-1,_,λn o=>Zlf (Zs ns n) (ZG ns.length n) o,by rw[show((ns.length:Int)-1)=((ns.length-1:Nat):Int) by omega],hfi,hV,by omega,by omega,λo ho=>?_,λn H5 R n1 n2 s5 hR=>⟨λb o u z=>s5 _ _ z,?_⟩,λt c a b H5 s5 c1 c2 hc hcn ht=>?_⟩
 ·cases o with
  |some _=>exact λz=>nomatch z
  |none =>
   have:=ho 0 1 (by omega) (by unfold ZG;omega)
   rw[Zt.mpr (ZrN ns ns 0 1)]at this;cases this
 ·unfold ZnL
  walk_at "rd"
  exact⟨d,ns,n,rfl,(LT.back s5) _ _ (s2 _ _ hd),hn,n1,by omega,λy o H6 ho hy s6 hz=>hR y o _ (ZpB s6) ho (prOn hz hy)⟩
 ·refine k1 h2 t c a b _ ((s1.trans s2).trans (LT.back s5)) ⟨c1,by omega,hc,?_⟩ (LT.tup s5 ht)
  by_cases z:c<ns.length-1
  ·exact hcn z
  ·intro x y hxy hy
   unfold ZG at hy;omega
theorem ZrO (f g:Nat->Int) (x y n:Nat):ZlW f g x y n\/∃a m,Zb2 f g x y n a m:=by
 by_cases h:∀m,m<n->∀a,a<n-m->(Zz f (x+a) m:Int)-(x+a:Nat)=(Zz g (y+a) m:Int)-(y+a:Nat)
 ·exact .inl λm a k=>h m (by omega) a (by omega)
 ·obtain⟨m,hm,h1,h2⟩:=Zfm n h
  obtain⟨a,ha,h3,h4⟩:=Zfm (n-m) h1
  exact .inr ⟨a,m,by omega,h3,λm' k a' k'=>h2 m' k a' (by omega),h4⟩
theorem Zkm {ns:List Int}{x y c:Nat} (hx:x+c<=ns.length) (hy:y+c<=ns.length) (h:ZlW (nth ns) (nth ns) x y c):Zs ns c x y=true:=by
 have sh:∀{s:Nat},s+c<=ns.length->∀a m,a+m<c->Zz (nth ns) (s+a) m=s+Zz (nth (ZcW ns s c)) a m:=λ{s} hs a m k=>ZnB (g:=nth (ZcW ns s c)) (λk hk=>ZeI hk) a m k
 have lo:ZlV (nth (ZcW ns x c)) (nth (ZcW ns y c)) c:=λa m k=>by
  have:=h m a k
  rw[sh hx a m k,sh hy a m k]at this
  omega
 have kd:=lo.kinD
 refine Zt.mpr ?_
 unfold Zab
 refine List.map_congr_left λi hi=>?_
 have hi:=YF.mp hi
 have:=kd i hi
 rw[Zk5 hi,Zk5 hi]at this
 exact this
theorem ZnQ {f:Addr}{fd:FuncData} (F:Fun K "lesser" "lesser" ZdM f fd) (T:Txt K mg):FnOk P w K mg base (CXE P w) 1 f fd ["row","one","other"] (ZgB K mg):=by
 refine F.okX ZnO (λvs H Q E h=>?_) (λcdv A outer s H vs Q E hr h=>?_)
 ·obtain⟨r,ns,i,j,rfl,_⟩:=h;rfl
 obtain⟨r,ns,i,j,rfl,hS,hi,hj,k1⟩:=h
 refine⟨_,(Zf (Zr (ZhE (Zw Zep (ZT (ix_q (K:=K) rfl) (pv 0) (pv 2) (λ_ _=>rfl)) (ZT (ix_q (K:=K) rfl) (pv 0) (pv 1) (λ_ _=>rfl)) (Zx _)) (pv 2) (pv 1)))),?_⟩
 walk_at "rd"
 refine⟨_,hS,_,Zdi hj,_,hS,_,Zdi hi,_,rfl,_,rfl,?_⟩
 by_cases h:nth ns j<nth ns i
 ·rw[Yd h]at k1⊢;exact k1
 ·rw[Yc h]at k1⊢;exact k1
theorem Zkn {f:Addr}{fd:FuncData} (F:Fun K "low_steps" "low_steps" Zbb f fd) (Zih:Callee P w K mg base "lesser" 1 ["row","one","other"] (ZgB K mg)) (T:Txt K mg):FnOk P w K mg base (CXE P w) 2 f fd ["row"] (Zcn K mg):=by
 refine F.okX Zbo (λvs H Q E h=>?_) (λcdv A outer s H vs Q E hr h=>?_)
 ·obtain⟨r,ns,rfl,_⟩:=h;rfl
 obtain⟨r,ns,rfl,hS,hn,k1⟩:=h
 refine⟨_,(Zd (Zq (i:=1) Zbo.nd rfl (Or.inl rfl) (ZaT Zb))
   (Zd (Zq (i:=2) Zbo.nd rfl (Or.inr rfl) (Z1 (ZiM rfl) rfl T.b_list Zc0 (Za (Znk rfl T.b_range (Za (Zm (Zu (K:=K) rfl) rfl T.b_len Yy (Za (pv 0) Zb)) Zb)) Zb)))
   (Zd (ZaU (Zby PassesOwn.never rfl (Zfi rfl T.b_range (Za Ze (Za (Zj ZC (Zm (Zu (K:=K) rfl) rfl T.b_len Yy (Za (pv 0) Zb)) Ze) Zb))) (Zl (i:=3) Zbo.nd rfl (Or.inr rfl)) (Zd (Zq (i:=2) Zbo.nd rfl (Or.inr rfl) (ZN ["a","row","lows","size"] [none,some 0,some 2,some 3] rfl rfl rfl (ZU rfl T.b_range (Za (Zj ZC (Zj ZS (Zm (Zu (K:=K) rfl) rfl T.b_len Yy (Za (pv 0) Zb)) (pv 3)) Ze) Zb)) (λ_ _ _ _ _=>(Zl (i:=0) (show(["a","row","lows","size"]:List Str).Nodup from by decide +kernel) rfl (Or.inl rfl))) (λ_ _ _ _ _=>ZJ) (λ_ _ _ _ _=>(Zi Zih (hr.mono (by decide)) rfl Zv (Za (pv 1) (Za (ZT (r:=rIxL K) ZK (pv 2) (pv 0) (λ_ _=>rfl)) (Za (Zj ZS (Zj ZC (pv 0) (pv 3)) Ze) Zb))))) Zp))
   (Zf (Zad (Zch PySem.F.plainAttrs_list PySem.F.slot_list_append PySem.F.type_list_append Z2 (pv 1) (Za (ZN ["a","place"] [none,none] rfl rfl rfl (ZhA (K:=K) rfl rfl T.b_enumerate (Za (pv 2) Zb)) (λ_ _ _ _ _=>(Zc1 (K:=K) (n:=2) rfl rfl (Zy (Zl (i:=0) (show(["a","place"]:List Str).Nodup from by decide +kernel) rfl (Or.inl rfl)) (Zy (Zl (i:=1) (show(["a","place"]:List Str).Nodup from by decide +kernel) rfl (Or.inl rfl)) ZbL)))) (λ_ _ _ _ _=>ZJ) (λ_ _ _ _ _=>(Zj ZS (pv 1) (pv 0))) (ZbX (ZD Zp (ZD Zp ZbW)))) Zb)))))))
   (Zf (Zr (pv 1)))))),?_⟩
 walk_at "rd"
 have eL:(ns.map V.int).length=ns.length:=Yg ..
 refine⟨Yz _,λtb htb=>⟨_,((Zh.refl H).upd htb).q hS,by omega,by rw[eL];omega,λrg hrg=>⟨_,Zc,by omega,by rw[eL];omega,λlw hlw=>?_⟩⟩⟩
 have en:(((ns.map V.int).length:Nat):Int).toNat=ns.length:=by rw[eL];omega
 rw[en]at *
 rw[eL]at hlw⊢
 have s0:Zh H (upd (upd (upd H tb (.lst [])) rg (.rng 0 (ns.length:Nat))) lw (.lst ((List.range ns.length).map λ(i:Nat)=>V.int (i:Int)))):=(((Zh.refl H).upd htb).ZL hrg).ZL hlw
 have hlw0:(upd (upd (upd H tb (.lst [])) rg (.rng 0 (ns.length:Nat))) lw (.lst ((List.range ns.length).map λ(i:Nat)=>V.int (i:Int)))) lw=some (.lst ((Zb1 (nth ns) ns.length 0).map V.int)):=by
  rw[Zc,Zk2,YZ];rfl
 have hR0:Zc2 H (upd (upd (upd H tb (.lst [])) rg (.rng 0 (ns.length:Nat))) lw (.lst ((List.range ns.length).map λ(i:Nat)=>V.int (i:Int)))) tb []:=(Zc2.nil htb).same (((Zh.refl _).ZL hrg).ZL hlw)
 generalize (upd (upd (upd H tb (.lst [])) rg (.rng 0 (ns.length:Nat))) lw (.lst ((List.range ns.length).map λ(i:Nat)=>V.int (i:Int))))=H0 at s0 hlw0 hR0⊢
 refine⟨_,s0.q hS,by decide,by decide,by omega,by rw[eL];omega,?_⟩
 have en2:((((ns.map V.int).length:Nat):Int)+1-1).toNat=ns.length:=by rw[eL];omega
 rw[en2]
 refine Zal (λi σ Hx=>∃lw v3,σ=[some (.ref r),some (.ref tb),some (.ref lw),v3]/\Zh H Hx/\Hx lw=some (.lst ((Zb1 (nth ns) ns.length (i-1)).map V.int))/\Zc2 H Hx tb ((List.range i).map (ZZ (nth ns) ns.length))) ⟨lw,none,rfl,s0,hlw0,hR0⟩ ?_ ?_
 ·rintro i σ Hx hi ⟨lw,v3,rfl,sx,hxl,hR⟩
  have e1:((1:Int)+(i:Int))=((i+1:Nat):Int):=by omega
  rw[e1]
  refine ZaE (fun σ Hy=>∃lw,σ=[some (.ref r),some (.ref tb),some (.ref lw),some (.int ((i+1:Nat):Int))]/\Zh H Hy/\Hy lw=some (.lst ((Zb1 (nth ns) ns.length i).map V.int))/\Zc2 H Hy tb ((List.range i).map (ZZ (nth ns) ns.length))) (λR hRR=>?_) ?_
  ·walk_at "rd"
   refine⟨_,sx.q hS,by omega,by rw[eL];omega,?_⟩
   have en3:(((((ns.map V.int).length:Nat):Int)-((i+1:Nat):Int)+1)).toNat=ns.length-i:=by rw[eL];omega
   rw[en3]
   refine comp_map (n:=ns.length-i) (λa=>V.int (Zz (nth ns) a i:Nat)) (Yv (show _<=1000 by omega) (by decide)) (λj Hy s hj=>hj) (λHy s=>Ye _) ?_ ?_
   ·rintro a x Hy Hz ha sy ⟨rfl,rfl⟩
    have ea:((0:Int)+(a:Int))=(a:Int):=by omega
    rw[ea]
    walk_at "rd"
    have hlt:=Zhy (nth ns) a (i-1)
    refine⟨_,SqL.of (sy _ _ hxl),_,Zdi (by rw[ZcC];omega),r,ns,Zz (nth ns) a (i-1),a+i,?_,(sx.trans sy).q hS,by omega,by omega,CW.next ha ?_ sy⟩
    ·rw[ZlX (by omega),show((a:Int)+((i+1:Nat):Int)-1)=((a+i:Nat):Int) by omega]
    ·rw[ZlY]
   ·intro q Hy sy hq
    refine hRR _ _ ⟨q,rfl,(sx.trans sy).ZL hq,?_,hR.same (sy.ZL hq)⟩
    rw[Zc];simp[Zb1]
  clear hxl hR sx Hx
  rintro σ Hx ⟨lw,rfl,sx,hxl,hR⟩
  walk_at "rd"
  obtain⟨as,r1,r2,r3,r4,r5,r6⟩:=id hR
  refine⟨ZM r1,_,SqL.of hxl,?_⟩
  refine comp_map (n:=ns.length-i) (λa=>V.int ((Zz (nth ns) a i:Int)-(a:Int))) (Yv (show _<=1000 by omega) (by decide)) (λj Hy s hj=>⟨_,_,SqL.of (s _ _ hxl),Yf (by rw[Yg,ZcC];exact hj)⟩) (λHy s=>⟨_,SqL.of (s _ _ hxl),by rw[Yg,ZcC]⟩) ?_ ?_
  ·rintro a x Hy Hz ha sy ⟨q,v,hq,rfl,rfl,hv⟩
   have ex:=hv _ (SqL.of (sy _ _ hxl))
   have ev:v=V.int (Zz (nth ns) a i:Nat):=by
    rw[Yx,Yf (by rw[ZcC];exact ha)]at ex
    cases ex
    simp[Zb1]
   subst ev
   walk_at "rd"
   exact⟨_,SqT.of Zc,rfl,_,_,rfl,_,_,rfl,rfl,_,rfl,_,rfl,CW.next ha rfl (sy.ZL hq)⟩
  ·intro q Hy sy hq
   have u:=sy.ZL (o:=.lst ((List.range (ns.length-i)).map λa=>V.int ((Zz (nth ns) a i:Int)-(a:Int)))) hq
   have ntq:tb≠q:=λz=>by rw[<-z,sy _ _ r1]at hq;cases hq
   have hqq:(upd Hy q (.lst ((List.range (ns.length-i)).map λa=>V.int ((Zz (nth ns) a i:Int)-(a:Int))))) q=some (.lst ((ZZ (nth ns) ns.length i).map V.int)):=by rw[Zc];simp[ZZ]
   have RN:=Zc2.push (H0:=H) (p:=q) (rs:=(List.range i).map (ZZ (nth ns) ns.length)) (r:=ZZ (nth ns) ns.length i) (u _ _ r1) r2 r3 (λj h1 h2=>u _ _ (r4 j h1 h2)) r5 r6 hqq ntq.symm ((sx.trans sy).free hq)
   rw[<-Zj9]at RN
   have nlt:lw≠tb:=λz=>by
    rw[z,r1]at hxl
    have:=HO.lst.inj (Yo hxl)
    cases as with
    |nil =>
     have h9:=congrArg List.length this
     rw[Yg,Yg,ZcC]at h9
     simp at h9;omega
    |cons c as =>
     have h9:=congrArg List.head? this
     rw[YG,List.head?_cons]at h9
     cases hc:(Zb1 (nth ns) ns.length i)with
     |nil=>rw[hc]at h9;cases h9
     |cons d ds=>rw[hc]at h9;cases h9
   refine⟨_,u _ _ r1,Yv (show _<=1000 by rw[Yg,r3];simp;omega) (by decide),(sx.trans u).upd r5,?_,RN⟩
   rw[Zg nlt]
   exact u _ _ hxl
 ·rintro σ Hx ⟨lw,v3,rfl,sx,hxl,hR⟩
  walk_at "rd"
  exact k1 tb Hx sx hR.rows
theorem Zmd {f:Addr}{fd:FuncData} (F:Fun K "parting" "parting" Zcw f fd) (T:Txt K mg):FnOk P w K mg base (CXE P w) 1 f fd ["ones","others","one","other","size"] (ZfL K mg):=by
 refine F.okX ZcI (λvs H Q E h=>?_) (λcdv A outer s H vs Q E hr h=>?_)
 ·obtain⟨l,l',f,g,n,n',x,y,size,rfl,_⟩:=h;rfl
 obtain⟨l,l',f',g,n,n',x,y,size,rfl,hL,hL',hx,hy,hn,hn',k1,k2⟩:=h
 refine⟨_,(Zd (ZaU (Zby PassesOwn.never rfl (Zfi rfl T.b_range (Za Ze (Za (pv 4) Zb))) (Zl (i:=5) ZcI.nd rfl (Or.inl rfl)) (Zd (Zq (i:=6) ZcI.nd rfl (Or.inl rfl) (Zak ZbM (ZT ZK (pv 0) (pv 5) (λ_ _=>rfl)) (Zae (pv 2)) (Zae (Zj ZS (Zj ZC (pv 2) (pv 4)) (pv 5)))))
   (Zd (Zq (i:=7) ZcI.nd rfl (Or.inl rfl) (Zak ZbM (ZT ZK (pv 1) (pv 5) (λ_ _=>rfl)) (Zae (pv 3)) (Zae (Zj ZS (Zj ZC (pv 3) (pv 4)) (pv 5)))))
   (Zf (Z0 (Zw (Zj3 (K:=K) rfl hr) (pv 6) (pv 7) (Zx _)) (Zd (Zq (i:=8) ZcI.nd rfl (Or.inl rfl) (Zch PySem.F.plainAttrs_list PySem.F.slot_list_index PySem.F.type_list_index (Zny (K:=K) rfl) (ZN ["x","y"] [none,none] rfl rfl rfl (pi_zip rfl T.b_zip (Za (pv 6) (Za (pv 7) Zb))) (λ_ _ _ _ _=>(Zc1 (K:=K) (n:=2) rfl rfl (Zy (Zl (i:=0) (show(["x","y"]:List Str).Nodup from by decide +kernel) rfl (Or.inl rfl)) (Zy (Zl (i:=1) (show(["x","y"]:List Str).Nodup from by decide +kernel) rfl (Or.inl rfl)) ZbL)))) (λ_ _ _ _ _=>ZJ) (λ_ _ _ _ _=>(ZdS ZcX (pv 0) (pv 1) (Zx _))) (ZbX (ZD Zp (ZD Zp ZbW)))) (Za Zez Zb)))
   (Zf (Zr (Za4 (Za (pv 8) (Za (Zj ZC (pv 8) (pv 5)) Zb)))))) ZH))))))
   (Zf (Zr ZjK))),?_⟩
 walk_at "rd"
 have en:((size:Int)-1).toNat=size-1:=by omega
 rw[en]
 refine⟨by decide,by decide,by omega,by omega,Zal (λi σ Hx=>∃v5 v6 v7 v8,σ=[some (.ref l),some (.ref l'),some (.int x),some (.int y),some (.int size),v5,v6,v7,v8]/\Zh H Hx/\∀m,m<i+1->∀a,a+m<size->(Zz f' (x+a) m:Int)-(x+a:Nat)=(Zz g (y+a) m:Int)-(y+a:Nat)) ⟨_,_,_,_,rfl,Zh.refl H,λm hm a ha=>?_⟩ ?_ ?_⟩
 ·have:m=0:=by omega
  subst this
  simp[Zz]
 ·rintro i σ Hx hi ⟨v5,v6,v7,v8,rfl,sx,hI⟩
  have e1:((1:Int)+(i:Int))=((i+1:Nat):Int):=by omega
  rw[e1]
  have cutE:∀(f:Nat->Int) (n x:Nat),x+size<=n->Zex ((ZZ f n (i+1)).map V.int) (some (x:Int)) (some ((x:Int)+(size:Int)-((i+1:Nat):Int)))=(((List.range (size-(i+1))).map λa=>(Zz f (x+a) (i+1):Int)-(x+a:Nat)).map V.int):=λf n x hx=>by
   have e2:((x:Int)+(size:Int)-((i+1:Nat):Int))=((x+(size-(i+1)):Nat):Int):=by omega
   rw[e2,Zru _ _ _ (by omega) (by simp[ZZ];omega),<-List.map_drop,<-List.map_take]
   congr 1
   refine List.ext_getElem (by simp[ZZ];omega) λj h1 h2=>?_
   have hj:j<size-(i+1):=by simpa using h2
   simp[ZZ]
  refine ZaE (fun σ Hy=>∃q q',σ=[some (.ref l),some (.ref l'),some (.int x),some (.int y),some (.int size),some (.int ((i+1:Nat):Int)),some (.ref q),v7,v8]/\q=q'/\Zh H Hy/\Hy q=some (.lst (((List.range (size-(i+1))).map λa=>(Zz f' (x+a) (i+1):Int)-(x+a:Nat)).map V.int))) (λR hR=>?_) ?_
  ·walk_at "rd"
   obtain⟨xs,a,g1,g2,g3⟩:=ZdY (K:=K) (hL.same sx) (i:=i+1) (by omega)
   refine⟨_,g1,_,g2,a,rfl,_,SqL.of g3,λq hq=>?_⟩
   rw[cutE f' n x hx]
   exact hR _ _ ⟨q,q,rfl,rfl,sx.ZL hq,Zc⟩
  rintro σ H1 ⟨q,_,rfl,rfl,s1,hq⟩
  refine ZaE (fun σ Hy=>∃q',σ=[some (.ref l),some (.ref l'),some (.int x),some (.int y),some (.int size),some (.int ((i+1:Nat):Int)),some (.ref q),some (.ref q'),v8]/\Zh H Hy/\Hy q=some (.lst (((List.range (size-(i+1))).map λa=>(Zz f' (x+a) (i+1):Int)-(x+a:Nat)).map V.int))/\Hy q'=some (.lst (((List.range (size-(i+1))).map λa=>(Zz g (y+a) (i+1):Int)-(y+a:Nat)).map V.int))) (λR hR=>?_) ?_
  ·walk_at "rd"
   obtain⟨xs,a,g1,g2,g3⟩:=ZdY (K:=K) (hL'.same s1) (i:=i+1) (by omega)
   refine⟨_,g1,_,g2,a,rfl,_,SqL.of g3,λq' hq'=>?_⟩
   rw[cutE g n' y hy]
   exact hR _ _ ⟨q',rfl,s1.ZL hq',((Zh.refl H1).upd hq') _ _ hq,Zc⟩
  clear s1 hq H1
  rintro σ H1 ⟨q',rfl,s1,hq,hq'⟩
  walk_at "rd"
  refine⟨_,ZmQ (n:=2) Zj4 _ _ _ _ (ZkS (SqL.of hq)) (ZkS (SqL.of hq')),ZW (λz=>⟨_,SqL.of hq,_,SqL.of hq',?_⟩) λz=>⟨s1,λm hm a ha=>?_⟩⟩
  ·have hne:=of_decide_eq_false z
   have hne2:¬ ∀a,a<size-(i+1)->(Zz f' (x+a) (i+1):Int)-(x+a:Nat)=(Zz g (y+a) (i+1):Int)-(y+a:Nat):=λh=>hne (List.map_congr_left λa ha=>h a (by simpa using ha))
   obtain⟨a,a1,a2,a3⟩:=Zfm _ hne2
   have PA':Zb2 f' g x y size a (i+1):=⟨by omega,a2,λm' hm' a' ha'=>hI m' hm' a' ha',a3⟩
   refine comp_map (n:=size-(i+1)) (λj=>V.bl (decide ((Zz f' (x+j) (i+1):Int)-(x+j:Nat)=(Zz g (y+j) (i+1):Int)-(y+j:Nat)))) (Yv (show _<=1000 by omega) (by decide)) (λj Hy s hj=>⟨_,_,_,_,SqL.of (s _ _ hq),SqL.of (s _ _ hq'),Yf (by simpa using hj),Yf (by simpa using hj)⟩) (λHy s=>⟨_,_,SqL.of (s _ _ hq),SqL.of (s _ _ hq'),.inl (by simp)⟩) ?_ ?_
   ·rintro j v Hy Hz hj sy ⟨p,v1,v2,hp,rfl,rfl,w1,w2⟩
    have ex1:=w1 _ (SqL.of (sy _ _ hq))
    have ex2:=w2 _ (SqL.of (sy _ _ hq'))
    rw[Yf (by simpa using hj)]at ex1 ex2
    have ev1:=(Yo ex1).symm
    have ev2:=(Yo ex2).symm
    simp only[List.getElem_map,List.getElem_range]at ev1 ev2
    subst ev1 ev2
    walk_at "rd"
    refine⟨_,SqT.of Zc,rfl,_,_,rfl,_,_,rfl,rfl,rfl,CW.next hj ?_ (sy.ZL hp)⟩
    congr 1
    rw[Bool.eq_iff_iff,decide_eq_true_eq,decide_eq_true_eq]
    exact⟨λh=>V.int.inj h,λh=>by rw[h]⟩
   ·intro b Hy sy hb
    refine⟨ZM Zc,b,rfl,_,SqL.of Zc,by simp;omega,?_,rfl,a,⟨V.bl false,?_,rfl⟩,λj v hj hv=>?_,by decide,λt ht=>?_⟩
    ·rw[List.all_eq_true]
     intro v hv
     obtain⟨k,_,rfl⟩:=YJ.mp hv
     rfl
    ·simp[a1]
     exact a2
    ·rw[Yx,List.getElem?_range (by omega)]at hv
     cases hv
     show eqV (V.bl (decide _)) (V.bl false)=false
     rw[YS (a3 j hj)];rfl
    ·refine k2 a (i+1) PA' t _ ((s1.trans (sy.ZL hb)).ZL ht) ?_
     rw[Zc];simp
  ·have heq:=Decidable.of_not_not (λy=>z (YQ y))
   by_cases e:m=i+1
   ·subst e
    have:=congrArg (λl=>l.getD a 0) heq
    simpa[YD,show a<size-(i+1) by omega]using this
   ·exact hI m (by omega) a ha
 ·rintro σ Hx ⟨v5,v6,v7,v8,rfl,sx,hI⟩
  walk_at "rd"
  refine k1 (λm a ha=>?_) _ sx
  exact hI m (by omega) a ha
theorem ZiV {f:Addr}{fd:FuncData} (F:Fun K "all_tuples" "all_tuples" ZaH f fd) (T:Txt K mg):FnOk P w K mg base (CXE P w) 1 f fd ["entries"] (Zdl K mg):=by
 refine F.okX ZiS (λvs H Q E h=>?_) (λcdv A outer s H vs Q E hr h=>?_)
 ·obtain⟨l,os,rfl,_⟩:=h;rfl
 obtain⟨l,os,rfl,hO,hn,k1⟩:=h
 refine⟨_,(Zf (Zr (Zm (ZeF (K:=K) rfl rfl) rfl T.b_all ZhN (Za (ZN ["entry"] [none] rfl rfl rfl (ZlP (K:=K) rfl (pv 0)) (λ_ _ _ _ _=>(Zl (i:=0) (show(["entry"]:List Str).Nodup from by decide +kernel) rfl (Or.inl rfl))) (λ_ _ _ _ _=>ZJ) (λ_ _ _ _ _=>(Zm (Zfl (K:=K) rfl) rfl T.b_isinstance ZbN (Za (pv 0) (Za (Zhu (v:=.ty "tuple") rfl T.b_tuple ZcA rfl) Zb)))) Zp) Zb)))),?_⟩
 walk_at "rd"
 refine hO.seq (K:=K) λit ⟨w1,w2,w3⟩=>?_
 refine comp_map (n:=os.length) (λ_=>V.bl true) (Yv hn (by decide)) (λj Hx s hj=>w1 j Hx s hj) (λHx s=>w2 Hx s) ?_ ?_
 ·rintro j x Hx Hy hj s y
  obtain⟨rfl,a,rfl,ha⟩:=w3 j x Hx Hy hj s y
  walk_at "rd"
  exact⟨_,.inl ⟨_,.tup ha,by with_unfolding_all rfl⟩,CW.next hj rfl s⟩
 ·intro l' Hx s hl'
  refine⟨l',rfl,List.replicate os.length true,SqL.of (by rw[Zc,List.map_replicate,List.map_const',YT]),?_⟩
  have:=k1 _ (s.ZL (o:=.lst ((List.range os.length).map λ_=>V.bl true)) hl')
  simpa using this
theorem ZiW {f:Addr}{fd:FuncData} (F:Fun K "is_stretch" "is_stretch" ZaG f fd) (T:Txt K mg):FnOk P w K mg base (CXE P w) 1 f fd ["many","a","b"] (Zdk K mg):=by
 refine F.okX ZiR (λvs H Q E h=>?_) (λcdv A outer s H vs Q E hr h=>?_)
 ·obtain⟨n,a,b,rfl,_⟩:=h;rfl
 obtain⟨n,a,b,rfl,k1,k2⟩:=h
 refine⟨_,(Zf (Zr (Znl Zmz Zmz Zep Ze (pv 1) (pv 2) (pv 0)))),?_⟩
 walk_at "rd"
 by_cases h0:0<=a
 ·rw[Yd h0]
  by_cases h1:a<=b
  ·rw[Yd h1]
   by_cases h2:b<n
   ·rw[YS h2];exact k1 ⟨h0,h1,h2⟩
   ·rw[YQ h2];exact k2 (by omega)
  ·rw[Yc h1];exact k2 (by omega)
 ·rw[Yc h0];exact k2 (by omega)
theorem Zko (m:Nat):∀i,((List.range i).flatMap (pF m)).length<=i*m
 |0=>Yz _
 |i+1=>by
  have:=Zko m i
  rw[YE,List.flatMap_append,YB,List.flatMap_singleton,Nat.add_mul]
  have:(pF m i).length<=m:=by unfold pF;rw[Yg,YT];omega
  omega
theorem ZfM {m:Nat}{r:List Int} (h:r∈Zbl m):∃x y:Nat,r=[(x:Int),(y:Int)]/\x<y/\y<m:=by
 obtain⟨a,ha,hr⟩:=List.mem_flatMap.mp h
 obtain⟨b,hb,rfl⟩:=YJ.mp hr
 have:=YF.mp hb
 exact⟨a,a+1+b,rfl,by omega,by omega⟩
theorem Zme {m:Nat} (h:m<=100):(Zbl m).length<=10000:=Yi (Zko m m) (Yi (Nat.mul_le_mul h h) (by decide))
noncomputable def Zh8 (M k:Nat):List (List Int):=((List.range k).filter λk=>decide (k / M<k % M)).map λk=>[((k / M:Nat):Int),((k % M:Nat):Int)]
theorem Zh9 (M k:Nat):Zh8 M (k+1)=Zh8 M k++if k / M<k % M then [[((k / M:Nat):Int),((k % M:Nat):Int)]]else []:=by
 unfold Zh8
 rw[YE,List.filter_append,YC]
 congr 1
 by_cases h:k / M<k % M<;>simp[h]
theorem Zjz {M i:Nat} (hi:i<M):∀j,j<=M->Zh8 M (i*M+j)=Zh8 M (i*M)++(List.range (j-(i+1))).map λb=>[(i:Int),((i+1+b:Nat):Int)]
 |0,_=>by simp
 |j+1,h=>by
  have hd:(i*M+j) / M=i:=by rw[Nat.add_comm,Nat.add_mul_div_right _ _ (by omega),Nat.div_eq_of_lt (by omega)];omega
  have hm:(i*M+j) % M=j:=by rw[Nat.add_comm,Nat.add_mul_mod_self_right,Nat.mod_eq_of_lt (by omega)]
  rw[show i*M+(j+1)=(i*M+j)+1 by omega,Zh9,Zjz hi j (by omega),hd,hm]
  by_cases z:i<j
  ·rw[Yd z,show j+1-(i+1)=(j-(i+1))+1 by omega,YE,YC,<-YM]
   simp[show i+1+(j-(i+1))=j by omega]
   omega
  ·rw[Yc z,show j+1-(i+1)=0 by omega,show j-(i+1)=0 by omega];simp
theorem ZjA {M:Nat}:∀i,i<=M->Zh8 M (i*M)=(List.range i).flatMap (pF M)
 |0,_=>by rw[Nat.zero_mul];rfl
 |i+1,h=>by
  rw[show(i+1)*M=i*M+M by rw[Nat.add_mul];omega,Zjz (by omega) M (Ye _),ZjA i (by omega),YE,List.flatMap_append,List.flatMap_singleton]
  rfl
theorem Zm0 {ns:List Int}{i:Nat} (h:i<ns.length):ns[i]?=some (nth ns i):=by simp[nth,YD,h]
theorem ZjB {f g:Nat->Int}{x y n a m a' m':Nat} (h:Zb2 f g x y n a m) (k:Zb2 f g x y n a' m'):a=a'/\m=m':=by
 obtain⟨h1,h2,h3,h4⟩:=h
 obtain⟨k1,k2,k3,k4⟩:=k
 have e:m=m':=by
  rcases Nat.lt_trichotomy m m' with z|z|z
  ·exact absurd (k3 m z a h1) h2
  ·exact z
  ·exact absurd (h3 m' z a' k1) k2
 subst e
 refine⟨?_,rfl⟩
 rcases Nat.lt_trichotomy a a' with z|z|z
 ·exact absurd (k4 a z) h2
 ·exact z
 ·exact absurd (h4 a' z) k2
theorem ZbF {f:Nat->Int}{size x y a w:Nat}:ZbE f size x y (a:Int) ((a+w:Nat):Int)↔a+w<size/\(Zz f (x+a) w:Int)-(x+a:Nat)≠(Zz f (y+a) w:Int)-(y+a:Nat):=by
 unfold ZbE
 rw[YL,show(((a+w:Nat):Int)-(a:Int)).toNat=w by omega]
 constructor
 ·rintro⟨_,_,h3,h4⟩;exact⟨by omega,by omega⟩
 ·rintro⟨h1,h2⟩;exact⟨by omega,by omega,by omega,by omega⟩
theorem Zgb {K:PySem.W.Frag}{H:Hp}{l1 l2:Addr}{rs rs':List (List Int)} (h1:ZI H l1 rs) (h2:ZI H l2 rs'):EqD K H 3 (.ref l1) (.ref l2) (decide (rs=rs')):=ZmQ (n:=2) (ZmR (n:=1) Zj4) _ _ _ _ h1.isL h2.isL
noncomputable def Zd3 (f:Nat->Int) (size:Nat) (r:List Int):Bool:=@decide (ZbE f size (r.getD 0 0).toNat (r.getD 1 0).toNat (r.getD 2 0) (r.getD 3 0)) (Classical.propDecidable _)
theorem ZeN {f:Nat->Int}{size:Nat}{r:List Int}:Zd3 f size r=true↔ZbE f size (r.getD 0 0).toNat (r.getD 1 0).toNat (r.getD 2 0) (r.getD 3 0):=@decide_eq_true_iff _ (Classical.propDecidable _)
theorem Zkp {rs:List (List Int)}{m j:Nat} (hE:rs.map (λr=>r.take 2)=Zbl m) (hF:Zh0 rs) (hj:j<rs.length):∃(x y:Nat) (a b:Int),rs[j]=[(x:Int),(y:Int),a,b]/\x<y/\y<m:=by
 have h4:=hF.2 rs[j] (YA hj)
 have hm:(rs[j]).take 2∈Zbl m:=by rw[<-hE];exact YJ.mpr ⟨_,YA hj,rfl⟩
 obtain⟨x,y,e,h1,h2⟩:=ZfM hm
 generalize rs[j]=r at h4 e⊢
 match r,h4 with
 |[p,q,a,b],_ =>
  simp at e
  exact⟨x,y,a,b,by rw[e.1,e.2],h1,h2⟩
theorem ZjC {f:Nat->Int}{size:Nat}{rs:List (List Int)}:((List.range rs.length).map λj=>Zd3 f size (rs.getD j [])).all id=true↔∀r∈rs,ZbE f size (r.getD 0 0).toNat (r.getD 1 0).toNat (r.getD 2 0) (r.getD 3 0):=by
 rw[List.all_eq_true]
 constructor
 ·intro h r hr
  obtain⟨j,hj,rfl⟩:=YY hr
  have h2:=h _ (YJ.mpr ⟨j,YF.mpr hj,rfl⟩)
  rw[show rs.getD j []=rs[j] by simp[hj]]at h2
  exact ZeN.mp h2
 ·intro h b hb
  obtain⟨j,hj,rfl⟩:=YJ.mp hb
  have hj:=YF.mp hj
  rw[show rs.getD j []=rs[j] by simp[hj]]
  exact ZeN.mpr (h _ (YA hj))
theorem len4 {r:List Int} (h:r.length=4):∃p q a b,r=[p,q,a,b]:=by
 match r,h with
 |[p,q,a,b],_=>exact⟨p,q,a,b,rfl⟩
theorem Zgc {f:Nat->Int}{size j x y:Nat}{a b:Int}{rs:List (List Int)} (hj:j<rs.length) (e:rs[j]=[(x:Int),(y:Int),a,b]):Zd3 f size (rs.getD j [])=true↔ZbE f size x y a b:=by
 rw[show rs.getD j []=rs[j] by simp[hj],e,ZeN]
 show ZbE f size (x:Int).toNat (y:Int).toNat a b↔_
 rw[YL,YL]
theorem tups_q {H H':Hp}{u p:Addr}{as:List Addr}{rs:List (List Int)} (lb:as.length=rs.length) (lc:∀i (h1:i<as.length) (h2:i<rs.length),H as[i]=some (.tup (rs[i].map V.int))) (hP:ZA H p) (e:Exc p H H') (hu:H' u=some (.lst (as.map V.ref))\/H' u=some (.tup (as.map V.ref))):Zf8 H' u rs:=by
 obtain⟨x,hx,_⟩:=hP
 have k:∀i (h1:i<as.length) (h2:i<rs.length),H' as[i]=some (.tup (rs[i].map V.int)):=λi h1 h2=>e _ _ (λz=>by have:=lc i h1 h2;rw[z,hx]at this;cases this) (lc i h1 h2)
 exact hu.imp (λz=>⟨as,z,lb,k⟩) λz=>⟨as,z,lb,k⟩
theorem Zll {f:Nat->Int}{n size:Nat}{rs:List (List Int)} (h:ZgY f n size rs):ZpF f n size rs:=⟨h.1,λr hr=>by
 obtain⟨x,y,a,w,rfl,hp⟩:=h.2 r hr
 show ZbE f size (x:Int).toNat (y:Int).toNat (a:Int) ((a+w:Nat):Int)
 rw[YL,YL]
 exact ZbF.mpr ⟨hp.1,hp.2.1⟩⟩
theorem ZhB {H H':Hp}{l p:Addr}{rs:List (List Int)} (h:ZI H l rs) (n:l≠p) (hP:ZA H p) (e:Exc p H H'):ZI H' l rs:=by
 obtain⟨x,hx,_⟩:=hP
 obtain⟨as,la,lb,lc⟩:=h
 exact⟨as,e _ _ n la,lb,λi h1 h2=>e _ _ (λz=>by have:=lc i h1 h2;rw[z,hx]at this;cases this) (lc i h1 h2)⟩
noncomputable def Bt (H Hx:Hp) (p b:Addr) (as:List Addr) (rs:List (List Int)):Prop:=Hx b=some (.lst (as.map V.ref))/\H b=none/\b≠p/\(∀i (h1:i<as.length) (h2:i<rs.length),Hx as[i]=some (.tup (rs[i].map V.int)))/\ZA Hx p/\Exc p H Hx
theorem Bt.pot {H Hx:Hp}{p b:Addr}{as:List Addr}{rs:List (List Int)} (h:Bt H Hx p b as rs):ZA Hx p:=h.2.2.2.2.1
theorem Bt.exc {H Hx Hy:Hp}{p b:Addr}{as:List Addr}{rs:List (List Int)} (h:Bt H Hx p b as rs) (e:Exc p Hx Hy) (P:ZA Hy p):Bt H Hy p b as rs:=by
 obtain⟨x,hx,_⟩:=h.pot
 exact⟨e _ _ h.2.2.1 h.1,h.2.1,h.2.2.1,λi h1 h2=>e _ _ (λz=>by have:=h.2.2.2.1 i h1 h2;rw[z,hx]at this;cases this) (h.2.2.2.1 i h1 h2),P,h.2.2.2.2.2.trans e⟩
theorem Bt.same {H Hx Hy:Hp}{p b:Addr}{as:List Addr}{rs:List (List Int)} (h:Bt H Hx p b as rs) (s:Zh Hx Hy):Bt H Hy p b as rs:=h.exc s.ZgX (h.pot.same s)
noncomputable def ZjD (H:Hp) (a:Addr):Prop:=∃r:List Int,r.length=4/\H a=some (.tup (r.map V.int))
theorem ZjD.same {H H':Hp}{a:Addr} (h:ZjD H a) (s:Zh H H'):ZjD H' a:=let ⟨r,l,e⟩:=h;⟨r,l,s _ _ e⟩
theorem Zlm {H:Hp}:∀{bs:List Addr},(∀a∈bs,ZjD H a)->∃rs:List (List Int),rs.length=bs.length/\(∀r∈rs,r.length=4)/\∀i (h1:i<bs.length) (h2:i<rs.length),H bs[i]=some (.tup (rs[i].map V.int))
 |[],_=>⟨[],rfl,(λr h=>nomatch h),λi h=>absurd h (by simp)⟩
 |b::bs,h=>by
  obtain⟨rs,r1,r2,r3⟩:=Zlm λa ha=>h a (YW _ ha)
  obtain⟨r,l,e⟩:=h b (by simp)
  refine⟨r::rs,by simp[r1],λq hq=>?_,λi i1 i2=>?_⟩
  ·rcases Yk.mp hq with z|z
   ·rw[z];exact l
   ·exact r2 q z
  ·cases i with
   |zero=>exact e
   |succ i=>exact r3 i (by simpa using i1) (by simpa using i2)
theorem Bt.four {H Hx:Hp}{p b:Addr}{as:List Addr}{rs:List (List Int)} (h:Bt H Hx p b as rs) (h4:∀r∈rs,r.length=4) (lb:as.length=rs.length) {a:Addr} (ha:a∈as):ZjD Hx a:=by
 obtain⟨i,hi,rfl⟩:=YY ha
 exact⟨rs[i]'(by omega),h4 _ (YA _),h.2.2.2.1 i hi (by omega)⟩
theorem Bt.upd {H Hx:Hp}{p b e:Addr}{as:List Addr}{rs:List (List Int)}{xs:List V}{o:HO} (h:Bt H Hx p b as rs) (ze:H e=none) (nep:e≠p) (neb:e≠b) (he:Hx e=some (.lst xs)):Bt H (L2.upd Hx e o) p b as rs :=
 ⟨by rw[Zg neb.symm];exact h.1,h.2.1,h.2.2.1,λi h1 h2=>by rw[Zg (λz=>by have:=h.2.2.2.1 i h1 h2;rw[z,he]at this;cases this)];exact h.2.2.2.1 i h1 h2,h.pot.ZiN nep,h.2.2.2.2.2.ZiN ze⟩
theorem Zm1 (m:Nat):∀i,i<=m->2*((List.range i).flatMap (pF m)).length+i<=i*(2*m-i)
 |0,_=>by simp
 |i+1,h=>by
  have:=Zm1 m i (by omega)
  rw[YE,List.flatMap_append,YB,List.flatMap_singleton]
  have e:(pF m i).length=m-(i+1):=by unfold pF;rw[Yg,YT]
  rw[e]
  obtain⟨d,rfl⟩:∃d,m=i+1+d:=⟨m-(i+1),by omega⟩
  have e1:(i+1)*(2*(i+1+d)-(i+1))=i*(2*(i+1+d)-i)+(1+2*d):=by
   rw[show 2*(i+1+d)-(i+1)=i+1+2*d by omega,show 2*(i+1+d)-i=i+2+2*d by omega]
   simp only[Nat.add_mul,Nat.mul_add]
   omega
  omega
theorem ZeO {m:Nat} (h:m<=40):(Zbl m).length<=800:=by
 have h1:=Zm1 m m (Ye _)
 have h2:m*(2*m-m)<=40*40:=Nat.mul_le_mul h (by omega)
 show((List.range m).flatMap (pF m)).length<=800
 omega
theorem Zln {f:Nat->Int}{n size:Nat}{rs:List (List Int)} (h:ZgY f n size rs) (hn:n<=40) (h2:1<=size):Zh0 rs:=by
 refine⟨?_,λr hr=>?_⟩
 ·have e:=congrArg List.length h.1
  rw[Yg]at e
  rw[e]
  exact Yi (ZeO (by omega)) (by decide)
 ·obtain⟨x,y,a,w,rfl,_⟩:=h.2 r hr
  rfl
theorem ZnR {f:Nat->Int}{n size:Nat}{rs:List (List Int)} (h:ZgY f n size rs) (hn:n<=40) (h2:1<=size):rs.length<=800:=by
 have e:=congrArg List.length h.1
 rw[Yg]at e
 rw[e]
 exact ZeO (by omega)
theorem Zmf {f:Nat->Int}{n size:Nat}{rs rs':List (List Int)} (h:ZgY f n size rs) (k:ZgY f n size rs'):rs=rs':=by
 have e:=h.1.trans k.1.symm
 have el:rs.length=rs'.length:=by have:=congrArg List.length e;simpa using this
 refine List.ext_getElem el λi i1 i2=>?_
 obtain⟨x,y,a,w,e1,p1⟩:=h.2 rs[i] (YA i1)
 obtain⟨x',y',a',w',e2,p2⟩:=k.2 rs'[i] (YA i2)
 have e3:(rs[i]).take 2=(rs'[i]).take 2:=by
  have h1:i<(rs.map λr=>r.take 2).length:=by simpa using i1
  have h2:i<(rs'.map λr=>r.take 2).length:=by simpa using i2
  have:=List.getElem_of_eq e h1
  simpa using this
 rw[e1,e2]at e3
 simp at e3
 obtain⟨rfl,rfl⟩:x=x'/\y=y':=by omega
 obtain⟨rfl,rfl⟩:=ZjB p1 p2
 rw[e1,e2]
theorem Zia {f:Addr}{fd:FuncData} (F:Fun K "pairs_below" "pairs_below" Zan f fd) (T:Txt K mg):FnOk P w K mg base (CXE P w) 1 f fd ["many"] (Zbm K mg):=by
 refine F.okX Zh2 (λvs H Q E h=>?_) (λcdv A outer s H vs Q E hr h=>?_)
 ·obtain⟨m,rfl,_⟩:=h;rfl
 obtain⟨m,rfl,hm,k1⟩:=h
 refine⟨_,(Zf (Zr (Zpx ["one","other","many"] [none,none,some 0] rfl rfl rfl (ZU rfl T.b_range (Za (pv 0) Zb)) (λ_ _ _ _ _=>(Zl (i:=0) (show(["one","other","many"]:List Str).Nodup from by decide +kernel) rfl (Or.inl rfl))) (λ_ _ _ _ _=>ZJ) (λ_ _ _ _ _=>(Zfi rfl T.b_range (Za (Zj ZC (pv 0) Ze) (Za (pv 2) Zb)))) (λ_ _ _ _ _=>(Zl (i:=1) (show(["one","other","many"]:List Str).Nodup from by decide +kernel) rfl (Or.inl rfl))) (λ_ _ _ _ _=>ZJ) (λ_ _ _ _ _=>(Za4 (Za (pv 0) (Za (pv 1) Zb)))) Zp Zp))),?_⟩
 walk_at "rd"
 refine⟨by omega,by omega,?_⟩
 rw[YL]
 refine Zl8 m (λi=>(List.range i).flatMap (pF m)) rfl (λi hi=>Yi (Zko m i) (Yi (Nat.mul_le_mul (show i<=100 by omega) hm) (by decide))) (λi Hx s hi=>hi) (λHx s=>Ye _) ?_ ?_
 ·rintro i x acc Hx Hy hi tv s ⟨rfl,rfl⟩
  have ei:((0:Int)+(i:Int))=(i:Int):=by omega
  rw[ei]
  walk_at "rd"
  refine⟨by omega,by omega,by omega,by omega,?_⟩
  rw[show((m:Int)-((i:Int)+1)).toNat=m-(i+1) by omega]
  refine Zpy (m-(i+1)) (λj=>(List.range i).flatMap (pF m)++(List.range j).map λb=>[(i:Int),((i+1+b:Nat):Int)]) (by simpa using tv) (λj hj=>by
   rw[YB,Yg,YT]
   have:=Yi (Zko m i) (Nat.mul_le_mul (show i<=100 by omega) hm)
   omega) (λj Hz sz hj=>hj) (λHz sz=>Ye _) ?_ ?_
  ·rintro j x acc2 H5 H6 hj t5 s5 ⟨rfl,rfl⟩
   rw[show(i:Int)+1+(j:Int)=((i+1+j:Nat):Int) by omega]
   walk_at "rd"
   exact⟨by decide,λp hp=>C2W.next hj (by rw[YE,YC,<-YM];exact(t5.same ((Zh.refl _).upd hp)).snoc Zc) (s5.ZL hp)⟩
  ·intro acc2 H5 t5 s5
   exact C2W.next hi (by rw[YE,List.flatMap_append,List.flatMap_singleton];exact t5) (s.trans s5)
 ·intro l acc H' s' hl' tv
  exact k1 l _ (s'.free hl') (tv.at hl') (s'.ZL hl')
theorem ZiX {f:Addr}{fd:FuncData} (F:Fun K "_law_least" "_law_least" ZaJ f fd) (T:Txt K mg):FnOk P w K mg base (CXE P w) 1 f fd ["row","a","b"] (Zdm K mg):=by
 refine F.okX ZiT (λvs H Q E h=>?_) (λcdv A outer s H vs Q E hr h=>?_)
 ·obtain⟨_,_,_,_,rfl,_⟩:=h;rfl
 obtain⟨r,ns,a,m,rfl,hr1,ham,hn,k1⟩:=h
 refine⟨_,(Zf (Zr (Zch PySem.F.plainAttrs_list PySem.F.slot_list_index PySem.F.type_list_index (ZnN (K:=K) rfl) (pv 0) (Za (Zm (Zng rfl) rfl T.b_min ZjZ (Za (Zak ZbM (pv 0) (Zae (pv 1)) (Zae (Zj ZC (pv 2) Ze))) Zb)) (Za (pv 1) Zb))))),?_⟩
 walk_at "rd"
 have hc:Zex (ns.map V.int) (some (a:Int)) (some (((a+m:Nat):Int)+1))=(ZcW ns a (m+1)).map V.int:=by rw[show((a+m:Nat):Int)+1=((a+(m+1):Nat):Int) by omega,Zk3 ns (by omega) (by omega),show a+(m+1)-a=m+1 by omega]
 refine⟨ZM hr1,_,SqL.of hr1,λp hp=>?_⟩
 rw[hc]
 have g:=(Zh.refl H).upd (o:=.lst ((ZcW ns a (m+1)).map V.int)) hp
 have elc:(ZcW ns a (m+1)).length=m+1:=ZhQ (by omega)
 refine⟨ZcW ns a (m+1),SqL.of Zc,λz=>by rw[z]at elc;simp at elc,λm1 hm1 hmin=>?_⟩
 obtain⟨l1,l2,l3,l4⟩:=Zhx (nth ns) a m
 have hp1:nth ns (Zz (nth ns) a m)∈ZcW ns a (m+1):=(Zk7 (by omega)).mpr ⟨Zz (nth ns) a m-a,by omega,by rw[show a+(Zz (nth ns) a m-a)=Zz (nth ns) a m by omega]⟩
 have h1:=hmin _ hp1
 have h2:nth ns (Zz (nth ns) a m)<=m1:=by
  obtain⟨k,hk,rfl⟩:=(Zk7 (by omega)).mp hm1
  rcases Nat.lt_trichotomy (a+k) (Zz (nth ns) a m)with z|z|z
  ·have:=l3 (a+k) (by omega) z;omega
  ·rw[z];exact Int.le_refl _
  ·exact l4 (a+k) z (by omega)
 have em:m1=nth ns (Zz (nth ns) a m):=by omega
 refine⟨ns,a,rfl,SqL.of (g _ _ hr1),by omega,Zz (nth ns) a m,l1,by rw[em];exact Zm0 (by omega),λq hq1 hq2=>?_,k1 _ g⟩
 rw[Zm0 (by omega),em]
 intro z
 have:=Yo z
 have:=l3 q hq1 hq2
 omega
theorem Zib {f:Addr}{fd:FuncData} (F:Fun K "_law_unlike" "_law_unlike" Zaq f fd) (Zcq:Callee P w K mg base "_law_least" 1 ["row","a","b"] (Zdm K mg)) (T:Txt K mg):FnOk P w K mg base (CXE P w) 2 f fd ["row","size","entry"] (Zbn K mg):=by
 refine F.okX ZaB (λvs H Q E h=>?_) (λcdv A outer s H vs Q E hr h=>?_)
 ·obtain⟨_,_,_,_,_,_,_,_,rfl,_⟩:=h;rfl
 obtain⟨r,t,ns,size,x,y,a,b,rfl,hr1,ht,hx,hy,hn,k1⟩:=h
 refine⟨_,(Zd (Zgt (pv 2) (ZlG (n:=4) rfl (Zy (Zl (i:=3) ZaB.nd rfl (Or.inl rfl)) (Zy (Zl (i:=4) ZaB.nd rfl (Or.inl rfl)) (Zy (Zl (i:=5) ZaB.nd rfl (Or.inl rfl)) (Zy (Zl (i:=6) ZaB.nd rfl (Or.inl rfl)) ZbL))))))
   (Zd (Z0 (PW.pt (ZhD (Zw Zep (pv 5) Ze (Zx _)) (ZhD (Zw Zep (pv 6) (pv 5) (Zx _)) (Zgs (Zw ZoU (pv 6) (pv 1) (Zx _)))))) (Zf (Zr Zez)) ZH)
   (Zf (Zr (ZdS op_ne (Zj ZS (Zi Zcq (hr.mono (by decide)) rfl Zv (Za (pv 0) (Za (Zj ZC (pv 3) (pv 5)) (Za (Zj ZC (pv 3) (pv 6)) Zb)))) (pv 3)) (Zj ZS (Zi Zcq (hr.mono (by decide)) rfl Zv (Za (pv 0) (Za (Zj ZC (pv 4) (pv 5)) (Za (Zj ZC (pv 4) (pv 6)) Zb)))) (pv 4)) (Zx _)))))),?_⟩
 walk_at "rd"
 refine⟨_,SqT.of ht,rfl,_,_,rfl,_,_,rfl,_,_,rfl,_,_,rfl,rfl,a,rfl,ZW (λz=>k1 false _ (Zh.refl _) ⟨(λy=>nomatch y),λy=>absurd y.1 (by omega)⟩) λz=>⟨b,rfl,a,rfl,ZW (λz2=>k1 false _ (Zh.refl _) ⟨(λy=>nomatch y),λy=>absurd y.2.1 (by omega)⟩) λz2=>⟨b,rfl,ZW (λz3=>k1 false _ (Zh.refl _) ⟨(λy=>nomatch y),λy=>absurd y.2.2.1 (by omega)⟩) λz3=>?_⟩⟩⟩
 obtain⟨a0,rfl⟩:=YX (show 0<=a by omega)
 obtain⟨b0,rfl⟩:=YX (show 0<=b by omega)
 have e1:∀q:Nat,((q+a0:Nat):Int)=(q:Int)+(a0:Int):=λq=>by omega
 have e2:∀q:Nat,((q+a0+(b0-a0):Nat):Int)=(q:Int)+(b0:Int):=λq=>by omega
 refine⟨_,rfl,_,rfl,_,rfl,_,rfl,r,ns,x+a0,b0-a0,by rw[e1,e2],hr1,by omega,hn,λH1 s1=>⟨_,rfl,_,rfl,_,rfl,_,rfl,_,rfl,_,rfl,r,ns,y+a0,b0-a0,by rw[e1,e2],s1 _ _ hr1,by omega,hn,λH2 s2=>⟨_,rfl,_,rfl,k1 _ _ (s1.trans s2) ?_⟩⟩⟩
 rw[Bool.not_eq_true',decide_eq_false_iff_not]
 unfold ZbE
 rw[YL,show((b0:Int)-(a0:Int)).toNat=b0-a0 by omega]
 exact⟨λh=>⟨by omega,by omega,by omega,h⟩,λh=>h.2.2.2⟩
theorem Zhj {f:Addr}{fd:FuncData} (F:Fun K "_law_parting" "_law_parting" Zai f fd) (Zas:Callee P w K mg base "_law_unlike" 2 ["row","size","entry"] (Zbn K mg)) (T:Txt K mg):FnOk P w K mg base (CXE P w) 3 f fd ["row","size","one","other"] (ZaY K mg):=by
 refine F.okX Zb5 (λvs H Q E h=>?_) (λcdv A outer s H vs Q E hr h=>?_)
 ·obtain⟨_,_,_,_,_,_,_,rfl,_⟩:=h;rfl
 obtain⟨r,ns,size,x,y,a,w,rfl,hr1,hx,hy,hn,hs1,hpa,k1⟩:=h
 refine⟨_,(Zd (ZaU (Zby PassesOwn.never rfl (Zfi rfl T.b_range (Za Ze (Za (pv 1) Zb))) (Zl (i:=4) Zb5.nd rfl (Or.inl rfl)) (Zf (ZaU (Zby PassesOwn.never rfl (ZU rfl T.b_range (Za (Zj ZS (pv 1) (pv 4)) Zb)) (Zl (i:=5) Zb5.nd rfl (Or.inl rfl)) (Zf (Z0 (Zdg (Zi Zas (hr.mono (by decide)) rfl Zv (Za (pv 0) (Za (pv 1) (Za (Za4 (Za (pv 2) (Za (pv 3) (Za (pv 5) (Za (Zj ZC (pv 5) (pv 4)) Zb))))) Zb))))) (Zf (Zr (Za4 (Za (pv 5) (Za (Zj ZC (pv 5) (pv 4)) Zb))))) ZH)))))))
   (Zf (Zr ZjK))),?_⟩
 walk_at "rd"
 refine⟨by decide,by decide,by omega,by omega,?_⟩
 rw[show((size:Int)-1).toNat=size-1 by omega]
 refine Zal (λj σ Hx=>∃v4 v5,σ=[some (.ref r),some (.int (size:Int)),some (.int (x:Int)),some (.int (y:Int)),v4,v5]/\(∀w',w'<j+1->∀a',a'+w'<size->¬ ZbE (nth ns) size x y (a':Int) ((a'+w':Nat):Int))/\Zh H Hx) ⟨_,_,rfl,?_,Zh.refl _⟩ ?_ ?_
 ·intro w' hw' a' ha' u
  have e:w'=0:=by omega
  subst e
  have:=u.2.2.2
  simp[Zz]at this
  omega
 ·rintro j σ Hx hj ⟨v4,v5,rfl,hno,sx⟩
  rw[show(1:Int)+(j:Int)=((1+j:Nat):Int) by omega]
  walk_at "rd"
  refine⟨by omega,by omega,?_⟩
  rw[show((size:Int)-((1+j:Nat):Int)).toNat=size-(1+j) by omega]
  refine Zal (λi σ Hy=>∃v5,σ=[some (.ref r),some (.int (size:Int)),some (.int (x:Int)),some (.int (y:Int)),some (.int ((1+j:Nat):Int)),v5]/\(∀a',a'<i->¬ ZbE (nth ns) size x y (a':Int) ((a'+(1+j):Nat):Int))/\Zh H Hy) ⟨_,rfl,(λa' h=>absurd h (by omega)),sx⟩ ?_ ?_
  ·rintro i σ Hy hi ⟨v5,rfl,hno2,sy⟩
   rw[show(0:Int)+(i:Int)=(i:Int) by omega]
   walk_at "rd"
   rw[show(i:Int)+((1+j:Nat):Int)=((i+(1+j):Nat):Int) by omega]
   refine⟨by decide,λp hp=>?_⟩
   have g:=(Zh.refl Hy).upd (o:=.tup [V.int (x:Int),V.int (y:Int),V.int (i:Int),V.int ((i+(1+j):Nat):Int)]) hp
   refine⟨r,p,ns,size,x,y,(i:Int),((i+(1+j):Nat):Int),rfl,g _ _ (sy _ _ hr1),Zc,hx,hy,hn,λc H3 s3 hc=>⟨c,rfl,ZW (λz=>?_) λz=>?_⟩⟩
   ·have hu:=ZbF.mp (hc.mp z)
    have hp2:Zb2 (nth ns) (nth ns) x y size i (1+j):=by
     refine⟨hu.1,hu.2,λm' hm' a' ha'=>?_,λa' ha'=>?_⟩
     ·apply Classical.byContradiction
      intro no
      exact hno m' (by omega) a' ha' (ZbF.mpr ⟨ha',no⟩)
     ·apply Classical.byContradiction
      intro no
      exact hno2 a' ha' (ZbF.mpr ⟨by omega,no⟩)
    obtain⟨rfl,rfl⟩:=ZjB hpa hp2
    exact⟨by decide,λp2 hp2=>k1 p2 _ (sy.trans (g.trans (s3.ZL hp2))) Zc⟩
   ·refine⟨λa' ha'=>?_,sy.trans (g.trans s3)⟩
    rcases Nat.lt_or_ge a' i with y2|y2
    ·exact hno2 a' y2
    ·have e:a'=i:=by omega
     subst e
     exact λy3=>z (hc.mpr y3)
  ·rintro σ Hy ⟨v5,rfl,hno2,sy⟩
   refine⟨_,_,rfl,λw' hw' a' ha'=>?_,sy⟩
   rcases Nat.lt_or_ge w' (j+1)with z|z
   ·exact hno w' z a' ha'
   ·have e:w'=1+j:=by omega
    subst e
    exact hno2 a' (by omega)
 ·rintro σ Hx ⟨v4,v5,rfl,hno,sx⟩
  walk_at "rd"
  exact absurd (ZbF.mpr ⟨hpa.1,hpa.2.1⟩) (hno w (by have:=hpa.1;omega) a hpa.1)
theorem Zkq {f:Addr}{fd:FuncData} (F:Fun K "_law_twos" "_law_twos" Zbf f fd) (T:Txt K mg):FnOk P w K mg base (CXE P w) 1 f fd ["row","size"] (Zco K mg):=by
 refine F.okX Zga (λvs H Q E h=>?_) (λcdv A outer s H vs Q E hr h=>?_)
 ·obtain⟨_,_,_,rfl,_⟩:=h;rfl
 obtain⟨r,ns,size,rfl,hr1,hs1,hs2,hn,k1⟩:=h
 refine⟨_,(Zd (Zq (i:=2) Zga.nd rfl (Or.inr rfl) (Zm (Zgu rfl) rfl T.b_max ZjY (Za Ze (Za (Zj ZC (Zj ZS (Zm (Zu (K:=K) rfl) rfl T.b_len Yy (Za (pv 0) Zb)) (pv 1)) Ze) Zb))))
   (Zf (Zr (ZN ["k","many"] [none,some 2] rfl rfl rfl (ZU rfl T.b_range (Za (Zj Zcj (pv 2) (pv 2)) Zb)) (λ_ _ _ _ _=>(Zl (i:=0) (show(["k","many"]:List Str).Nodup from by decide +kernel) rfl (Or.inl rfl))) (λ_ _ _ _ _=>ZhK (Zw Zep (Zj ZcD (pv 0) (pv 1)) (Zj Zdh (pv 0) (pv 1)) (Zx _))) (λ_ _ _ _ _=>(Za4 (Za (Zj ZcD (pv 0) (pv 1)) (Za (Zj Zdh (pv 0) (pv 1)) Zb)))) Zp)))),?_⟩
 walk_at "rd"
 have eR:(ns.map V.int).length=ns.length:=Yg ..
 refine⟨_,.inl (SqL.of hr1),?_⟩
 rw[eR]
 obtain⟨M,hM,hM2⟩:∃M:Nat,(if (ns.length:Int)-(size:Int)+1>0 then (ns.length:Int)-(size:Int)+1 else 0)=(M:Int)/\M=ns.length+1-size:=⟨ns.length+1-size,by split<;>omega,rfl⟩
 rw[hM]
 have hMM:M*M<=2500:=Yi (Nat.mul_le_mul (show M<=50 by omega) (show M<=50 by omega)) (by decide)
 rw[show(M:Int)*(M:Int)=((M*M:Nat):Int) by rw[Int.natCast_mul]]
 refine⟨ZkQ (by omega) (by omega),by omega,by omega,?_⟩
 rw[YL]
 refine ZdK (n:=M*M) (λk acc Hz=>ZY Hz acc (Zh8 M k)/\Zh H Hz) (Yv (show _<=3000 by omega) (by decide)) ⟨ZY.nil,Zh.refl _⟩ (λk acc Hz _ hk=>hk) (λacc Hz _=>Ye _) ?_ ?_
 ·rintro k x acc Hy Hz hk hla ⟨tv,sy⟩ ⟨rfl,rfl⟩
  rw[show(0:Int)+(k:Int)=(k:Int) by omega]
  walk_at "rd"
  have hM0:0<M:=by
   rcases Nat.eq_zero_or_pos M with z|z
   ·rw[z]at hk;simp at hk
   ·exact z
  have cd:CDivL (k:Int) (M:Int):=⟨by omega,by omega⟩
  rw[<-Int.natCast_ediv,<-Int.natCast_emod]
  have hs:=Zh9 M k
  refine⟨cd,by omega,ZW (λz=>⟨cd,by omega,by decide,λp hp=>?_⟩) λz=>?_⟩
  ·rw[Yd (by omega)]at hs
   have g:=(Zh.refl Hz).upd (o:=.tup [V.int ((k / M:Nat):Int),V.int ((k % M:Nat):Int)]) hp
   exact CA.take hk hla ⟨by rw[hs];exact(tv.same g).snoc Zc,sy.trans g⟩
  ·rw[Yc (by omega)]at hs
   exact CA.skip hk hla ⟨by rw[hs,List.append_nil];exact tv,sy⟩
 ·rintro l acc Hy ⟨tv,sy⟩ _ zl
  rw[ZjA M (Ye _)]at tv
  subst hM2
  exact k1 l _ (sy.free zl) (tv.at zl) (sy.ZL zl)
theorem Zlo {f:Addr}{fd:FuncData} (F:Fun K "parts_at" "parts_at" Zbz f fd) (T:Txt K mg):FnOk P w K mg base (CXE P w) 1 f fd ["ones","others","one","other","a","b"] (ZeM K mg):=by
 refine F.okX Zlg (λvs H Q E h=>?_) (λcdv A outer s H vs Q E hr h=>?_)
 ·obtain⟨_,_,_,_,_,_,_,_,rfl,_⟩:=h;rfl
 obtain⟨l,l',f,n,x,y,a,m,rfl,R1,R2,h1,h2,hn,k1⟩:=h
 refine⟨_,(Zf (Zr (ZdS op_ne (ZT ZK (ZT ZK (pv 0) (Zj ZS (pv 5) (pv 4)) (λ_ _=>rfl)) (Zj ZC (pv 2) (pv 4)) (λ_ _=>rfl)) (ZT ZK (ZT ZK (pv 1) (Zj ZS (pv 5) (pv 4)) (λ_ _=>rfl)) (Zj ZC (pv 3) (pv 4)) (λ_ _=>rfl)) (Zx _)))),?_⟩
 walk_at "rd"
 have e1:(((a+m:Nat):Int)-(a:Int))=((m:Nat):Int):=by omega
 have e2:((x:Int)+(a:Int))=((x+a:Nat):Int):=by omega
 have e3:((y:Int)+(a:Int))=((y+a:Nat):Int):=by omega
 rw[e1,e2,e3]
 obtain⟨xs,p,x1,x2,x3⟩:=ZdY (K:=K) R1 (show m<n by omega)
 obtain⟨ys,q,y1,y2,y3⟩:=ZdY (K:=K) R2 (show m<n by omega)
 refine⟨xs,x1,_,x2,p,rfl,_,SqL.of x3,_,ZhR (by omega),ys,y1,_,y2,q,rfl,_,SqL.of y3,_,ZhR (by omega),rfl,?_⟩
 have:(!decide (V.int ((Zz f (x+a) m:Int)-((x+a:Nat):Int))=V.int ((Zz f (y+a) m:Int)-((y+a:Nat):Int))))=decide ((Zz f (x+a) m:Int)-(x+a:Nat)≠(Zz f (y+a) m:Int)-(y+a:Nat)):=by
  rw[<-decide_not]
  exact decide_eq_decide.mpr (not_congr ⟨λz=>V.int.inj z,λz=>by rw[z]⟩)
 rw[this];exact k1
theorem ZiY {f:Addr}{fd:FuncData} (F:Fun K "_law_shows" "_law_shows" ZaK f fd) (Zas:Callee P w K mg base "_law_unlike" 2 ["row","size","entry"] (Zbn K mg)) (Zbh:Callee P w K mg base "_law_twos" 1 ["row","size"] (Zco K mg)) (T:Txt K mg):FnOk P w K mg base (CXE P w) 3 f fd ["row","size","shown"] (ZbO K mg):=by
 refine F.okX ZiU (λvs H Q E h=>?_) (λcdv A outer s H vs Q E hr h=>?_)
 ·obtain⟨_,_,_,_,_,rfl,_⟩:=h;rfl
 obtain⟨r,l,ns,size,rs,rfl,hr1,hl,hF,hs1,hs2,hn,k1⟩:=h
 refine⟨_,(Zd (Z0 (Zw (Zj3 (K:=K) rfl hr) (ZN ["entry"] [none] rfl rfl rfl (Zci (pv 2)) (λ_ _ _ _ _=>(Zl (i:=0) (show(["entry"]:List Str).Nodup from by decide +kernel) rfl (Or.inl rfl))) (λ_ _ _ _ _=>ZJ) (λ_ _ _ _ _=>(Z1 (ZdJ (K:=K) rfl) rfl T.b_tuple ZcA (Za (Zak (r:=rSlT K) ZoZ (pv 0) ZcY (Zae Ze)) Zb))) Zp) (Zi Zbh (hr.mono (by decide)) rfl Zv (Za (pv 0) (Za (pv 1) Zb))) (Zx _)) (Zf (Zr Zez)) ZH)
   (Zf (Zr (Zm (ZeF (K:=K) rfl rfl) rfl T.b_all ZhN (Za (ZN ["entry","row","size"] [none,some 0,some 1] rfl rfl rfl (Zci (pv 2)) (λ_ _ _ _ _=>(Zl (i:=0) (show(["entry","row","size"]:List Str).Nodup from by decide +kernel) rfl (Or.inl rfl))) (λ_ _ _ _ _=>ZJ) (λ_ _ _ _ _=>(Zi Zas (hr.mono (by decide)) rfl Zv (Za (pv 1) (Za (pv 2) (Za (pv 0) Zb))))) Zp) Zb))))),?_⟩
 walk_at "rd"
 obtain⟨w1,w2,w3⟩:=hl.walk (K:=K)
 refine⟨hl.sq,ZdK (n:=rs.length) (λj acc Hz=>ZY Hz acc ((rs.map λr=>r.take 2).take j)/\Zh H Hz) (Yv hF.1 (by decide)) ⟨ZY.nil,Zh.refl _⟩ (λj acc Hz s hj=>w1 j Hz s.2 hj) (λacc Hz s=>w2 Hz s.2) ?_ ?_⟩
 ·rintro j x acc Hz Hw hj hla ⟨tv,s⟩ y
  obtain⟨rfl,q,rfl,hq⟩:=w3 j x Hz Hw hj s y
  have hj2:j<(rs.map λr=>r.take 2).length:=by rw[Yg];exact hj
  have ht:=List.take_append_getElem hj2
  have e4:=hF.2 rs[j] (YA hj)
  walk_at "rd"
  obtain⟨p0,q0,a0,b0,e⟩:=len4 e4
  rw[e]at hq
  refine⟨q,_,rfl,SqT.of hq,(λh=>nomatch (show(2:Nat)=4 from h.2)),λp hp=>⟨p,rfl,_,.inr ⟨SqT.of Zc,?_⟩⟩⟩
  have g:=(Zh.refl Hw).upd (o:=.tup [V.int p0,V.int q0]) hp
  exact CA.take hj hla ⟨by rw[<-ht];exact(tv.same g).snoc (by rw[List.getElem_map,e];exact Zc),s.trans g⟩
 ·rintro l1 acc Hz ⟨tv,s⟩ _ zl
  rw[<-Yg (f:=λr:List Int=>r.take 2),List.take_length]at tv
  have h1:=tv.at zl
  have g:=s.ZL (o:=.lst acc) zl
  refine⟨r,ns,size,rfl,g _ _ hr1,hs1,hs2,hn,λq H2 zq hq s2=>⟨l1,rfl,q,rfl,?_⟩⟩
  refine⟨_,Zgb (K:=K) (h1.same s2) hq,ZW (λz=>?_) λz=>?_⟩
  ·exact k1 false _ (g.trans s2) ⟨(λy=>nomatch y),λy=>absurd y.1 (by simpa using z)⟩
  ·have hE:rs.map (λr=>r.take 2)=Zbl (ns.length+1-size):=by simpa using z
   have hl2:=hl.same (g.trans s2)
   obtain⟨w1,w2,w3⟩:=hl2.walk (K:=K)
   refine⟨hl2.sq,comp_map (n:=rs.length) (λj=>V.bl (Zd3 (nth ns) size (rs.getD j []))) (Yv hF.1 (by decide)) (λj Hz s hj=>w1 j Hz s hj) (λHz s=>w2 Hz s) ?_ ?_⟩
   ·rintro j x Hy Hz hj s3 y
    obtain⟨rfl,t,rfl,ht⟩:=w3 j x Hy Hz hj s3 y
    obtain⟨x,y,a,b,e,hxy,hym⟩:=Zkp hE hF hj
    walk_at "rd"
    rw[e]at ht
    have hfo:=Zgc (f:=nth ns) (size:=size) hj e
    refine⟨r,t,ns,size,x,y,a,b,rfl,s3 _ _ (s2 _ _ (g _ _ hr1)),ht,by omega,by omega,by omega,λc H5 s5 hc=>CW.next hj (congrArg V.bl ?_) (s3.trans s5)⟩
    rw[Bool.eq_iff_iff]
    exact hc.trans hfo.symm
   ·intro l3 Hy s3 zl3
    refine⟨l3,rfl,(List.range rs.length).map (λj=>Zd3 (nth ns) size (rs.getD j [])),SqL.of (by rw[Zc,YZ];rfl),k1 _ _ (g.trans (s2.trans (s3.ZL zl3))) ?_⟩
    rw[ZjC]
    exact⟨λh=>⟨hE,h⟩,λh=>h.2⟩
theorem Zic {f:Addr}{fd:FuncData} (F:Fun K "none_longer" "none_longer" Zao f fd) (Zbi:Callee P w K mg base "low_steps" 2 ["row"] (Zcn K mg)) (ZgJ:Callee P w K mg base "parting" 1 ["ones","others","one","other","size"] (ZfL K mg)) (Z7:Callee P w K mg base "longest_twice" 9 ["row"] (ZaM K mg)) (Zat:Callee P w K mg base "pairs_below" 1 ["many"] (Zbm K mg)) (T:Txt K mg):FnOk P w K mg base (CXE P w) 10 f fd ["row"] (ZcG K mg):=by
 refine F.okX ZcJ (λvs H Q E h=>?_) (λcdv A outer s H vs Q E hr h=>?_)
 ·obtain⟨r,ns,rfl,_⟩:=h;rfl
 obtain⟨r,ns,rfl,hr0,hn,hT,hE,k1⟩:=h
 refine⟨_,(Zd (Zq (i:=1) ZcJ.nd rfl (Or.inr rfl) (Zj ZC (ZT ZdT (Zi Z7 (hr.mono (by decide)) rfl ZmG (Za (pv 0) Zb)) Ze (λ_ _=>rfl)) Ze))
   (Zd (Zq (i:=2) ZcJ.nd rfl (Or.inr rfl) (Zi Zbi (hr.mono (by decide)) rfl Zv (Za (pv 0) Zb)))
   (Zf (Zr (ZN ["one","other","steps","size"] [none,none,some 2,some 1] rfl rfl rfl (Zci (Zi Zat (hr.mono (by decide)) rfl Zv (Za (Zj ZC (Zj ZS (Zm (Zu (K:=K) rfl) rfl T.b_len Yy (Za (pv 0) Zb)) (pv 1)) Ze) Zb))) (λ_ _ _ _ _=>(Zc1 (K:=K) (n:=2) rfl rfl (Zy (Zl (i:=0) (show(["one","other","steps","size"]:List Str).Nodup from by decide +kernel) rfl (Or.inl rfl)) (Zy (Zl (i:=1) (show(["one","other","steps","size"]:List Str).Nodup from by decide +kernel) rfl (Or.inl rfl)) ZbL)))) (λ_ _ _ _ _=>ZJ) (λ_ _ _ _ _=>(Zj Zka (Za4 (Za (pv 0) (Za (pv 1) Zb))) (Zi ZgJ (hr.mono (by decide)) rfl Zv (Za (pv 2) (Za (pv 2) (Za (pv 0) (Za (pv 1) (Za (pv 3) Zb)))))))) (ZbX (ZD Zp (ZD Zp ZbW)))))))),?_⟩
 walk_at "rd"
 refine⟨r,ns,rfl,hr0,by omega,hT,hE,λn2 t c a b H1 s1 hL ht=>⟨t,rfl,_,SqT.of ht,_,rfl,_,rfl,r,ns,rfl,s1.q hr0,by omega,λst H2 s2 hst=>⟨_,(s1.trans s2).q hr0,?_⟩⟩⟩
 obtain⟨c1,c2,_,c4⟩:=id hL
 have hpl:=Zme (m:=ZG ns.length (c+1)) (by unfold ZG;omega)
 refine⟨ZG ns.length (c+1),by rw[Yg,show((ns.length:Int)-((c:Int)+1)+1)=((ZG ns.length (c+1):Nat):Int) by unfold ZG;omega],by unfold ZG;omega,λl H3 zl0 hl s3=>⟨l,rfl,hl.sq,?_⟩⟩
 obtain⟨w1,w2,w3⟩:=hl.walk (K:=K)
 refine ZdK (n:=(Zbl (ZG ns.length (c+1))).length) (λj acc Hz=>∃us:List (List Int),ZY Hz acc us/\us.map (λr=>r.take 2)=(Zbl (ZG ns.length (c+1))).take j/\(∀u∈us,∃x y a w:Nat,u=[(x:Int),(y:Int),(a:Int),((a+w:Nat):Int)]/\Zb2 (nth ns) (nth ns) x y (c+1) a w)/\Zh H3 Hz) (Yv hpl (by decide)) ⟨[],ZY.nil,rfl,(λu h=>nomatch h),Zh.refl _⟩ (λj acc Hz ⟨_,_,_,_,s⟩ hj=>w1 j Hz s hj) (λacc Hz ⟨_,_,_,_,s⟩=>w2 Hz s) ?_ ?_
 ·rintro j x acc Hz Hw hj hla ⟨us,tv,e2,hus,s⟩ y
  obtain⟨rfl,q,rfl,hq⟩:=w3 j x Hz Hw hj s y
  have htk:=List.take_append_getElem hj
  obtain⟨x',y',e,hxy,hym⟩:=ZfM (YA hj)
  rw[e]at hq
  have hx':x'+(c+1)<=ns.length:=by unfold ZG at hym;omega
  have hy':y'+(c+1)<=ns.length:=by unfold ZG at hym;omega
  have hpa:∃a m,Zb2 (nth ns) (nth ns) x' y' (c+1) a m:=by
   rcases ZrO (nth ns) (nth ns) x' y' (c+1)with z|z
   ·have:=c4 x' y' hxy hym
    rw[Zkm hx' hy' z]at this;cases this
   ·exact z
  obtain⟨a',m',hp'⟩:=hpa
  walk_at "rd"
  refine⟨_,SqT.of hq,rfl,_,_,rfl,_,_,rfl,rfl,by decide,λp hp=>?_⟩
  have g:=(Zh.refl Hw).upd (o:=.tup [V.int (x':Int),V.int (y':Int)]) hp
  have gs:=s3.trans (s.trans g)
  refine⟨st,st,nth ns,nth ns,ns.length,ns.length,x',y',c+1,rfl,hst.same gs,hst.same gs,hx',hy',by omega,by omega,(λz=>absurd (z m' a' hp'.1) hp'.2.1),λa m hpm t2 H5 s5 ht2=>⟨t2,rfl,_,s5 _ _ Zc,_,ht2,(show(4:Nat)<=sizeLine by decide),λp5 H6 s6 h6=>CA.take hj hla ⟨us++[[(x':Int),(y':Int),(a:Int),((a+m:Nat):Int)]],(tv.same (g.trans (s5.trans s6))).snoc h6,by rw[YC,e2,<-htk,e];rfl,λu hu=>?_,s.trans (g.trans (s5.trans s6))⟩⟩⟩
  rcases Yq.mp hu with z|z
  ·exact hus u z
  ·exact⟨x',y',a,m,YO.mp z,hpm⟩
 ·rintro l2 acc Hx ⟨us,tv,e2,hus,sx⟩ _ zl
  rw[List.take_length]at e2
  have sa:=(s1.trans s2).trans (s3.trans sx)
  exact k1 n2 l2 c a b us _ (sa.ZL zl) (sa.free zl) hL (tv.at zl) ⟨e2,hus⟩
theorem ZiZ {f:Addr}{fd:FuncData} (F:Fun K "none_right" "none_right" ZaI f fd) (Zd4:Callee P w K mg base "is_stretch" 1 ["many","a","b"] (Zdk K mg)) (Zbi:Callee P w K mg base "low_steps" 2 ["row"] (Zcn K mg)) (ZfP:Callee P w K mg base "parts_at" 1 ["ones","others","one","other","a","b"] (ZeM K mg)) (Zd5:Callee P w K mg base "all_tuples" 1 ["entries"] (Zdl K mg)) (Zat:Callee P w K mg base "pairs_below" 1 ["many"] (Zbm K mg)) (T:Txt K mg):FnOk P w K mg base (CXE P w) 3 f fd ["row","size","shown"] (Zdn K mg):=by
 refine F.okX Zdo (λvs H Q E h=>?_) (λcdv A outer s H vs Q E hr h=>?_)
 ·obtain⟨_,_,_,_,_,rfl,_⟩:=h;rfl
 obtain⟨r,l,ns,size,rs,rfl,hr0,hl,hF,hs1,hs2,hn,k1⟩:=h
 refine⟨_,(Zd (Zk0 (i:=3) ["one","other","a","b"] [none,none,none,none] Zdo.nd rfl (Or.inl rfl) rfl rfl rfl (ZlP (K:=K) rfl (pv 2)) (λ_ _ _ _ _=>(Zc1 (K:=K) (n:=4) rfl rfl (Zy (Zl (i:=0) (show(["one","other","a","b"]:List Str).Nodup from by decide +kernel) rfl (Or.inl rfl)) (Zy (Zl (i:=1) (show(["one","other","a","b"]:List Str).Nodup from by decide +kernel) rfl (Or.inl rfl)) (Zy (Zl (i:=2) (show(["one","other","a","b"]:List Str).Nodup from by decide +kernel) rfl (Or.inl rfl)) (Zy (Zl (i:=3) (show(["one","other","a","b"]:List Str).Nodup from by decide +kernel) rfl (Or.inl rfl)) ZbL)))))) (λ_ _ _ _ _=>ZJ) (λ_ _ _ _ _=>(Za4 (Za (pv 0) (Za (pv 1) Zb)))) (ZbX (ZD Zp (ZD Zp (ZD Zp (ZD Zp ZbW))))))
   (Zd (Z0 (PW.pt (ZhD (ZdR (Zdg (Zi Zd5 (hr.mono (by decide)) rfl Zv (Za (pv 2) Zb)))) (Zgs (Zw (Zj3 (K:=K) rfl hr) (pv 3) (Zi Zat (hr.mono (by decide)) rfl Zv (Za (Zj ZC (Zj ZS (Zm (Zu (K:=K) rfl) rfl T.b_len Yy (Za (pv 0) Zb)) (pv 1)) Ze) Zb)) (Zx _))))) (Zf (Zr Zez)) ZH)
   (Zd (Zq (i:=4) Zdo.nd rfl (Or.inr rfl) (Zi Zbi (hr.mono (by decide)) rfl Zv (Za (pv 0) Zb)))
   (Zf (Zr (Zm (ZeF (K:=K) rfl rfl) rfl T.b_all ZhN (Za (ZN ["one","other","a","b","size","steps"] [none,none,none,none,some 1,some 4] rfl rfl rfl (ZlP (K:=K) rfl (pv 2)) (λ_ _ _ _ _=>(Zc1 (K:=K) (n:=4) rfl rfl (Zy (Zl (i:=0) (show(["one","other","a","b","size","steps"]:List Str).Nodup from by decide +kernel) rfl (Or.inl rfl)) (Zy (Zl (i:=1) (show(["one","other","a","b","size","steps"]:List Str).Nodup from by decide +kernel) rfl (Or.inl rfl)) (Zy (Zl (i:=2) (show(["one","other","a","b","size","steps"]:List Str).Nodup from by decide +kernel) rfl (Or.inl rfl)) (Zy (Zl (i:=3) (show(["one","other","a","b","size","steps"]:List Str).Nodup from by decide +kernel) rfl (Or.inl rfl)) ZbL)))))) (λ_ _ _ _ _=>ZJ) (λ_ _ _ _ _=>(ZjM (Zi Zd4 (hr.mono (by decide)) rfl Zv (Za (pv 4) (Za (pv 2) (Za (pv 3) Zb)))) (ZlF (Zi ZfP (hr.mono (by decide)) rfl Zv (Za (pv 5) (Za (pv 5) (Za (pv 0) (Za (pv 1) (Za (pv 2) (Za (pv 3) Zb)))))))))) (ZbX (ZD Zp (ZD Zp (ZD Zp (ZD Zp ZbW)))))) Zb))))))),?_⟩
 walk_at "rd"
 have eR:(ns.map V.int).length=ns.length:=Yg ..
 refine hl.seq (K:=K) λit ⟨w1,w2,w3⟩=>ZdK (n:=rs.length) (λj acc Hz=>ZY Hz acc ((rs.map λr=>r.take 2).take j)/\Zh H Hz) (Yv hF.1 (by decide)) ⟨ZY.nil,Zh.refl _⟩ (λj acc Hz s hj=>w1 j Hz s.2 hj) (λacc Hz s=>w2 Hz s.2) ?_ ?_
 ·rintro j x acc Hz Hw hj hla ⟨tv,s⟩ y
  obtain⟨rfl,q,rfl,hq⟩:=w3 j x Hz Hw hj s y
  have hj2:j<(rs.map λr=>r.take 2).length:=by rw[Yg];exact hj
  have ht:=List.take_append_getElem hj2
  have e4:=hF.2 rs[j] (YA hj)
  walk_at "rd"
  obtain⟨p0,q0,a0,b0,e⟩:=len4 e4
  rw[e]at hq
  refine⟨_,SqT.of hq,rfl,_,_,rfl,_,_,rfl,_,_,rfl,_,_,rfl,rfl,by decide,λp hp=>?_⟩
  have g:=(Zh.refl Hw).upd (o:=.tup [V.int p0,V.int q0]) hp
  exact CA.take hj hla ⟨by rw[<-ht];exact(tv.same g).snoc (by rw[List.getElem_map,e];exact Zc),s.trans g⟩
 ·rintro l1 acc Hz ⟨tv,s⟩ _ zl
  rw[<-Yg (f:=λr:List Int=>r.take 2),List.take_length]at tv
  have h1:=tv.at zl
  have g:=s.ZL (o:=.lst acc) zl
  refine⟨l,rs,rfl,hl.same g,by have:=hF.1;omega,λH2 s2=>⟨true,rfl,ZW (λz=>nomatch z) λ_=>⟨_,(g.trans s2).q hr0,?_⟩⟩⟩
  rw[eR]
  refine⟨ns.length+1-size,by rw[show((ns.length:Int)-(size:Int)+1)=((ns.length+1-size:Nat):Int) by omega],by omega,λq H3 zq hq s3=>⟨l1,rfl,q,rfl,_,Zgb (K:=K) (h1.same (s2.trans s3)) hq,ZW (λz=>?_) λz=>?_⟩⟩
  ·exact k1 false _ (g.trans (s2.trans s3)) ⟨(λy=>nomatch y),λy=>absurd y.1 (by simpa using z)⟩
  ·have hE:rs.map (λr=>r.take 2)=Zbl (ns.length+1-size):=by simpa using z
   have gs:=g.trans (s2.trans s3)
   refine⟨r,ns,rfl,gs.q hr0,by omega,λst H4 s4 hst=>?_⟩
   have hl4:=hl.same (gs.trans s4)
   refine hl4.seq (K:=K) λit ⟨w1,w2,w3⟩=>comp_map (n:=rs.length) (λj=>V.bl (Zd3 (nth ns) size (rs.getD j []))) (Yv hF.1 (by decide)) (λj Hz s hj=>w1 j Hz s hj) (λHz s=>w2 Hz s) ?_ ?_
   ·rintro j x Hy Hz hj s5 y
    obtain⟨rfl,t,rfl,ht⟩:=w3 j x Hy Hz hj s5 y
    obtain⟨x,y,a,b,e,hxy,hym⟩:=Zkp hE hF hj
    walk_at "rd"
    rw[e]at ht
    have hfo:=Zgc (f:=nth ns) (size:=size) hj e
    refine⟨_,SqT.of ht,rfl,_,_,rfl,_,_,rfl,_,_,rfl,_,_,rfl,rfl,size,a,b,rfl,λhs=>⟨true,rfl,ZW (λ_=>?_) λz=>absurd rfl z⟩,λhs=>⟨false,rfl,ZW (λz=>nomatch z) λ_=>CW.next hj (congrArg V.bl ?_) s5⟩⟩
    ·obtain⟨a0,rfl⟩:=YX hs.1
     obtain⟨m,rfl⟩:∃m:Nat,b=((a0+m:Nat):Int):=⟨(b-a0).toNat,by omega⟩
     refine⟨st,st,nth ns,ns.length,x,y,a0,m,rfl,hst.same s5,hst.same s5,by omega,by omega,by omega,CW.next hj (congrArg V.bl ?_) s5⟩
     rw[Bool.eq_iff_iff,hfo,ZbF,decide_eq_true_iff]
     exact⟨λh=>⟨by omega,h⟩,λh=>h.2⟩
    ·exact((Bool.eq_false_iff).mpr λh=>hs (by have:=hfo.mp h;exact⟨this.1,this.2.1,this.2.2.1⟩)).symm
   ·intro l3 Hy s5 zl3
    refine⟨l3,rfl,(List.range rs.length).map (λj=>Zd3 (nth ns) size (rs.getD j [])),SqL.of (by rw[Zc,YZ];rfl),k1 _ _ (gs.trans (s4.trans (s5.ZL zl3))) ?_⟩
    rw[ZjC]
    exact⟨λh=>⟨hE,h⟩,λh=>h.2⟩
theorem Zid {f:Addr}{fd:FuncData} (F:Fun K "_law_either" "_law_either" Zap f fd) (Zn:Callee P w K mg base "_law_take" 1 ["pot","many"] (ZaL K mg)) (T:Txt K mg):FnOk P w K mg base (CXE P w) 2 f fd ["pot","some"] (Zbk K mg):=by
 refine F.okX Zh3 (λvs H Q E h=>?_) (λcdv A outer s H vs Q E hr h=>?_)
 ·obtain⟨p,r,xs,rfl,_⟩:=h;rfl
 obtain⟨p,r,xs,rfl,hP,nrp,hr1,hn,k1⟩:=h
 refine⟨_,(Zf (Zr (ZT ZdT (Za4 (Za (Z1 (ZcB (K:=K) rfl) rfl T.b_list Zc0 (Za (pv 1) Zb)) (Za (Z1 (ZdJ (K:=K) rfl) rfl T.b_tuple ZcA (Za (pv 1) Zb)) Zb))) (Zi Zn (hr.mono (by decide)) rfl Zv (Za (pv 0) (Za Ze Zb))) (λ_ _=>rfl)))),?_⟩
 walk_at "rd"
 refine⟨_,.inl (SqL.of hr1),λl hl=>?_⟩
 have g1:=(Zh.refl H).upd (o:=.lst xs) hl
 refine⟨_,.inl ⟨SqL.of (g1 _ _ hr1),λl2 hl2=>⟨by decide,λc hc=>?_⟩⟩⟩
 have g2:=(Zh.refl _).upd (o:=.tup xs) hl2
 have g3:=(Zh.refl _).upd (o:=.tup [V.ref l,V.ref l2]) hc
 have gg:=(g1.trans g2).trans g3
 have hl3:=(g2.trans g3) _ _ (Zc (H:=H) (a:=l) (o:=.lst xs))
 have hl23:=g3 _ _ (Zc (a:=l2) (o:=.tup xs) (H:=upd H l (.lst xs)))
 have nlp:l≠p:=hP.ne hl
 have nl2p:l2≠p:=(hP.same g1).ne hl2
 have ncp:c≠p:=(hP.same (g1.trans g2)).ne hc
 refine⟨p,_,rfl,by decide,by decide,hP.same gg,λd H2 d0 d1 P2 e2=>⟨_,d,rfl,SqT.of (e2 _ _ ncp Zc),?_⟩⟩
 have ex:=(Zh.refl H).ZgX.same gg |>.trans e2
 rcases(by omega:d=0\/d=1)with rfl|rfl
 ·exact⟨_,rfl,k1 l H2 hl (.inl (e2 _ _ nlp hl3)) P2 ex⟩
 ·exact⟨_,rfl,k1 l2 H2 (g1.free hl2) (.inr (e2 _ _ nl2p hl23)) P2 ex⟩
theorem Zkr {f:Addr}{fd:FuncData} (F:Fun K "_law_bent" "_law_bent" Zbg f fd) (Zn:Callee P w K mg base "_law_take" 1 ["pot","many"] (ZaL K mg)) (T:Txt K mg):FnOk P w K mg base (CXE P w) 2 f fd ["pot","shown"] (Zd2 K mg):=by
 refine F.okX ZaN (λvs H Q E h=>?_) (λcdv A outer s H vs Q E hr h=>?_)
 ·obtain⟨_,_,_,rfl,_⟩:=h;rfl
 obtain⟨p,l,rs,rfl,hP,nlp,hl,hlen,hF,k1⟩:=h
 refine⟨_,(Zd (Zq (i:=2) ZaN.nd rfl (Or.inl rfl) (Z1 (ZcB (K:=K) rfl) rfl T.b_list Zc0 (Za (pv 1) Zb)))
   (Zd (Zq (i:=3) ZaN.nd rfl (Or.inl rfl) (Zi Zn (hr.mono (by decide)) rfl Zv (Za (pv 0) (Za Ze Zb))))
   (Zd (Z0 (PW.pt (ZhD (Zw (ZlO (K:=K) rfl hr) (pv 2) (ZaT Zb) (Zx _)) (Zgs (Zw ZcX (pv 3) Ze (Zx _))))) (Zf (Zr (Zj Zgw (pv 2) (Zak ZbM (ZaT (Za (Za4 (Za Ze (Za Ze (Za Ze (Za Ze Zb))))) Zb)) ZcY (Zae (Zi Zn (hr.mono (by decide)) rfl Zv (Za (pv 0) (Za Ze Zb)))))))) ZH)
   (Zd (Zq (i:=4) ZaN.nd rfl (Or.inl rfl) (Zi Zn (hr.mono (by decide)) rfl Zv (Za (pv 0) (Za (Zm (Zu (K:=K) rfl) rfl T.b_len Yy (Za (pv 2) Zb)) Zb))))
   (Zd (Zq (i:=5) ZaN.nd rfl (Or.inl rfl) (Z1 (ZcB (K:=K) rfl) rfl T.b_list Zc0 (Za (ZT ZK (pv 2) (pv 4) (λ_ _=>rfl)) Zb)))
   (Zd (Z0 (Zw ZcX (pv 3) Ze (Zx _)) (Zf (Zr (Zj Zgw (Zak ZbM (pv 2) ZcY (Zae (pv 4))) (Zak ZbM (pv 2) (Zae (Zj ZC (pv 4) Ze)) ZcY)))) ZH)
   (Zd (Z0 (Zw ZcX (pv 3) Ze (Zx _)) (Zf (Zr (Zj Zgw (pv 2) (ZaT (Za (ZT ZK (pv 2) (pv 4) (λ_ _=>rfl)) Zb))))) ZH)
   (Zd (Z0 (Zw ZcX (pv 3) Ze (Zx _)) (Zf (Zr (Zj Zgw (Zak ZbM (pv 2) (Zae (pv 4)) ZcY) (Zak ZbM (pv 2) ZcY (Zae (pv 4)))))) ZH)
   (Zd (Zq (i:=6) ZaN.nd rfl (Or.inl rfl) (Zi Zn (hr.mono (by decide)) rfl Zv (Za (pv 0) (Za Ze Zb))))
   (Zd (Zgt (ZT ZdT (Za4 (Za (Zj ZC (ZT ZK (pv 5) (pv 6) (λ_ _=>rfl)) Ze) (Za (Zj ZS (ZT ZK (pv 5) (pv 6) (λ_ _=>rfl)) Ze) (Za (Zj ZeB Ze Ze) (Za (Zmv ZjN Ze) (Za Ze Zb)))))) (Zi Zn (hr.mono (by decide)) rfl Zv (Za (pv 0) (Za Ze Zb))) (λ_ _=>rfl)) (ZhF (pv 5) (pv 6) set_list (λ_=>rfl)))
   (Zd (Zgt (Z1 (ZdJ (K:=K) rfl) rfl T.b_tuple ZcA (Za (pv 5) Zb)) (ZhF (pv 2) (pv 4) set_list (λ_=>rfl)))
   (Zf (Zr (pv 2)))))))))))))),?_⟩
 obtain⟨as,la,lb,lc⟩:=id hl
 have lA:(as.map V.ref).length=rs.length:=by rw[Yg,lb]
 have hfin:∀(q:Addr) (Hz:Hp) (bs:List Addr),H q=none->Hz q=some (.lst (bs.map V.ref))->(∀a∈bs,ZjD Hz a)->bs.length<=rs.length+1->ZA Hz p->Exc p H Hz->Q (.ref q) Hz:=λq Hz bs zq hq hb hl P e=>by
  obtain⟨rs',r1,r2,r3⟩:=Zlm hb
  exact k1 q rs' Hz zq ⟨bs,hq,r1.symm,r3⟩ (by omega) r2 P e
 refine ZaE (fun σ Hx=>∃b:Addr,σ=[some (.ref p),some (.ref l),some (.ref b),none,none,none,none]/\Bt H Hx p b as rs) (λR hR=>?_) ?_
 ·walk_at "rd"
  exact⟨_,.inl (SqL.of la),λb zb=>hR _ _ ⟨b,rfl,Zc,zb,hP.ne zb,(λi i1 i2=>by rw[Zg (Zo (lc i i1 i2) zb)];exact lc i i1 i2),hP.upd zb,((Zh.refl H).upd zb).ZgX⟩⟩
 rintro σ Hx ⟨b,rfl,hB⟩
 refine ZaE (fun σ Hx=>∃d:Int,σ=[some (.ref p),some (.ref l),some (.ref b),some (.int d),none,none,none]/\0<=d/\d<6/\Bt H Hx p b as rs) (λR hR=>?_) ?_
 ·walk_at "rd"
  exact⟨p,6,rfl,by decide,by decide,hB.pot,λd H2 d0 d1 P2 e2=>hR _ _ ⟨d,rfl,d0,d1,hB.exc e2 P2⟩⟩
 clear hB Hx
 rintro σ Hx ⟨d,rfl,d0,d6,hB⟩
 refine ZaE (fun σ Hx=>σ=[some (.ref p),some (.ref l),some (.ref b),some (.int d),none,none,none]/\0<rs.length/\Bt H Hx p b as rs) (λR hR=>?_) ?_
 ·walk_at "rd"
  refine⟨by decide,λp1 z1=>?_⟩
  have g1:=(Zh.refl Hx).upd (o:=.lst []) z1
  refine⟨_,ZnC (n:=2) (g1 _ _ hB.1) Zc,ZW (λz=>?_) λz=>ZW (λz2=>?_) λz2=>hR _ _ ⟨rfl,by
   rcases Nat.eq_zero_or_pos rs.length with y|y
   ·exact absurd (by rw[List.length_eq_zero_iff.mp (lA.trans y)];simp) z
   ·exact y,hB.same g1⟩⟩
  all_goals
   refine⟨by decide,λp2 z2=>⟨by decide,λp3 z3=>?_⟩⟩
   have g2:=g1.ZL (o:=.tup [V.int 0,V.int 1,V.int 0,V.int 0]) z2
   have g3:=g2.ZL (o:=.lst [V.ref p2]) z3
   have n2:p2≠p:=(hB.pot.same g1).ne z2
   have n3:p3≠p:=(hB.pot.same g2).ne z3
   refine⟨p,2,rfl,by decide,by decide,hB.pot.same g3,λc H4 c0 c1 P4 e4=>⟨c,rfl,_,SqL.of (e4 _ _ n3 Zc),λp5 z5=>?_⟩⟩
   obtain⟨c',rfl⟩:=YX c0
   have hB4:=(hB.same g3).exc e4 P4
   have h24:H4 p2=some (.tup ([(0:Int),1,0,0].map V.int)):=e4 _ _ n2 (by rw[Zg (Zo Zc z3)];exact Zc)
   rw[Zj7,show([V.ref p2].take c')=([p2].take c').map V.ref by rw[List.map_take];rfl]
   have g5:=(Zh.refl H4).upd (o:=.lst (([p2].take c').map V.ref)) z5
   refine⟨_,g5 _ _ hB4.1,_,Zc,Yi (show _<=1000 by rw[lA,Yg,YR];simp;omega) (by decide),λp6 z6=>?_⟩
   rw[<-YC]
   have g6:=g5.ZL (o:=.lst ((as++[p2].take c').map V.ref)) z6
   refine hfin p6 _ _ (hB4.2.2.2.2.2.free ((P4.same g5).ne z6) (g5.free z6)) Zc (λa ha=>?_) (by rw[YB,YR];simp;omega) (P4.same g6) (hB4.2.2.2.2.2.same g6)
   rcases Yq.mp ha with y|y
   ·exact(hB4.four hF lb y).same g6
   ·rw[YO.mp (List.mem_of_mem_take y)]
    exact⟨_,rfl,g6 _ _ h24⟩
 clear hB Hx
 rintro σ Hx ⟨rfl,h0,hB⟩
 refine ZaE (fun σ Hx=>∃j:Nat,σ=[some (.ref p),some (.ref l),some (.ref b),some (.int d),some (.int (j:Int)),none,none]/\j<rs.length/\Bt H Hx p b as rs) (λR hR=>?_) ?_
 ·walk_at "rd"
  refine⟨_,.inl (SqL.of hB.1),?_⟩
  rw[lA]
  refine⟨p,_,rfl,by omega,by omega,hB.pot,λd2 H2 q0 q1 P2 e2=>?_⟩
  obtain⟨j,rfl⟩:=YX q0
  exact hR _ _ ⟨j,rfl,by omega,hB.exc e2 P2⟩
 clear hB Hx
 rintro σ Hx ⟨j,rfl,hj,hB⟩
 have hja:j<as.length:=by omega
 refine ZaE (fun σ Hx=>∃e:Addr,σ=[some (.ref p),some (.ref l),some (.ref b),some (.int d),some (.int (j:Int)),some (.ref e),none]/\e≠p/\e≠b/\H e=none/\Hx e=some (.lst (rs[j].map V.int))/\Bt H Hx p b as rs) (λR hR=>?_) ?_
 ·walk_at "rd"
  have hat:=hB.2.2.2.1 j hja hj
  refine⟨_,SqL.of hB.1,_,ZmZ hja,as[j],rfl,_,.inr (SqT.of hat),λe ze=>?_⟩
  have g:=(Zh.refl Hx).upd (o:=.lst (rs[j].map V.int)) ze
  exact hR _ _ ⟨e,rfl,hB.pot.ne ze,(Zo hB.1 ze).symm,hB.2.2.2.2.2.free (hB.pot.ne ze) ze,Zc,hB.same g⟩
 clear hB Hx
 rintro σ Hx ⟨e,rfl,nep,neb,ze,he,hB⟩
 refine ZaE (fun σ Hx=>σ=[some (.ref p),some (.ref l),some (.ref b),some (.int d),some (.int (j:Int)),some (.ref e),none]/\Hx e=some (.lst (rs[j].map V.int))/\Bt H Hx p b as rs) (λR hR=>?_) ?_
 ·walk_at "rd"
  refine ZW (λz=>?_) λz=>hR _ _ ⟨rfl,he,hB⟩
  refine⟨_,SqL.of hB.1,λp1 z1=>?_⟩
  rw[Zj7,<-List.map_take]
  have g1:=(Zh.refl Hx).upd (o:=.lst ((as.take j).map V.ref)) z1
  refine⟨_,SqL.of (g1 _ _ hB.1),λp2 z2=>?_⟩
  rw[show((j:Int)+1)=((j+1:Nat):Int) by omega,Zjr,<-List.map_drop]
  have g2:=g1.ZL (o:=.lst ((as.drop (j+1)).map V.ref)) z2
  refine⟨_,by rw[Zg (Zo Zc z2)];exact Zc,_,Zc,Yi (show _<=1000 by simp;omega) (by decide),λp3 z3=>?_⟩
  rw[<-YC]
  have g3:=g2.ZL (o:=.lst ((as.take j++as.drop (j+1)).map V.ref)) z3
  refine hfin p3 _ _ (hB.2.2.2.2.2.free ((hB.pot.same g2).ne z3) (g2.free z3)) Zc (λa ha=>?_) (by simp;omega) (hB.pot.same g3) (hB.2.2.2.2.2.same g3)
  rcases Yq.mp ha with y|y
  ·exact(hB.four hF lb (List.mem_of_mem_take y)).same g3
  ·exact(hB.four hF lb (List.mem_of_mem_drop y)).same g3
 clear he hB Hx
 rintro σ Hx ⟨rfl,he,hB⟩
 refine ZaE (fun σ Hx=>σ=[some (.ref p),some (.ref l),some (.ref b),some (.int d),some (.int (j:Int)),some (.ref e),none]/\Hx e=some (.lst (rs[j].map V.int))/\Bt H Hx p b as rs) (λR hR=>?_) ?_
 ·walk_at "rd"
  refine ZW (λz=>?_) λz=>hR _ _ ⟨rfl,he,hB⟩
  refine⟨_,SqL.of hB.1,_,ZmZ hja,by decide,λp1 z1=>?_⟩
  have g1:=(Zh.refl Hx).upd (o:=.lst [V.ref as[j]]) z1
  refine⟨_,g1 _ _ hB.1,_,Zc,Yi (show _<=1000 by simp;omega) (by decide),λp3 z3=>?_⟩
  rw[show as.map V.ref++[V.ref as[j]]=(as++[as[j]]).map V.ref by simp]
  have g3:=g1.ZL (o:=.lst ((as++[as[j]]).map V.ref)) z3
  refine hfin p3 _ _ (hB.2.2.2.2.2.free ((hB.pot.same g1).ne z3) (g1.free z3)) Zc (λa ha=>?_) (by simp;omega) (hB.pot.same g3) (hB.2.2.2.2.2.same g3)
  rcases Yq.mp ha with y|y
  ·exact(hB.four hF lb y).same g3
  ·rw[YO.mp y]
   exact(hB.four hF lb (YA hja)).same g3
 clear he hB Hx
 rintro σ Hx ⟨rfl,he,hB⟩
 refine ZaE (fun σ Hx=>σ=[some (.ref p),some (.ref l),some (.ref b),some (.int d),some (.int (j:Int)),some (.ref e),none]/\Hx e=some (.lst (rs[j].map V.int))/\Bt H Hx p b as rs) (λR hR=>?_) ?_
 ·walk_at "rd"
  refine ZW (λz=>?_) λz=>hR _ _ ⟨rfl,he,hB⟩
  refine⟨_,SqL.of hB.1,λp1 z1=>?_⟩
  rw[Zjr,<-List.map_drop]
  have g1:=(Zh.refl Hx).upd (o:=.lst ((as.drop j).map V.ref)) z1
  refine⟨_,SqL.of (g1 _ _ hB.1),λp2 z2=>?_⟩
  rw[Zj7,<-List.map_take]
  have g2:=g1.ZL (o:=.lst ((as.take j).map V.ref)) z2
  refine⟨_,by rw[Zg (Zo Zc z2)];exact Zc,_,Zc,Yi (show _<=1000 by simp;omega) (by decide),λp3 z3=>?_⟩
  rw[<-YC]
  have g3:=g2.ZL (o:=.lst ((as.drop j++as.take j).map V.ref)) z3
  refine hfin p3 _ _ (hB.2.2.2.2.2.free ((hB.pot.same g2).ne z3) (g2.free z3)) Zc (λa ha=>?_) (by simp;omega) (hB.pot.same g3) (hB.2.2.2.2.2.same g3)
  rcases Yq.mp ha with y|y
  ·exact(hB.four hF lb (List.mem_of_mem_drop y)).same g3
  ·exact(hB.four hF lb (List.mem_of_mem_take y)).same g3
 clear he hB Hx
 rintro σ Hx ⟨rfl,he,hB⟩
 refine ZaE (fun σ Hx=>∃s:Nat,σ=[some (.ref p),some (.ref l),some (.ref b),some (.int d),some (.int (j:Int)),some (.ref e),some (.int (s:Int))]/\s<4/\Hx e=some (.lst (rs[j].map V.int))/\Bt H Hx p b as rs) (λR hR=>?_) ?_
 ·walk_at "rd"
  refine⟨p,4,rfl,by decide,by decide,hB.pot,λd2 H2 q0 q1 P2 e2=>?_⟩
  obtain⟨s,rfl⟩:=YX q0
  exact hR _ _ ⟨s,rfl,by omega,e2 _ _ nep he,hB.exc e2 P2⟩
 clear he hB Hx
 rintro σ Hx ⟨s,rfl,hs4,he,hB⟩
 have e4':=hF rs[j] (YA hj)
 refine ZaE (fun σ Hx=>∃us:List Int,σ=[some (.ref p),some (.ref l),some (.ref b),some (.int d),some (.int (j:Int)),some (.ref e),some (.int (s:Int))]/\us.length=4/\Hx e=some (.lst (us.map V.int))/\Bt H Hx p b as rs) (λR hR=>?_) ?_
 ·walk_at "rd"
  have hsl:s<rs[j].length:=by rw[e4'];exact hs4
  refine⟨_,SqL.of he,_,Zdi hsl,_,rfl,_,SqL.of he,_,Zdi hsl,_,rfl,by unfold ZkI;decide,by decide,λp1 z1=>?_⟩
  have g1:=(Zh.refl Hx).upd (o:=.tup [V.int (nth rs[j] s+1),V.int (nth rs[j] s-1),V.int (10 ^ Int.toNat 59),V.int (-1),V.int 40]) z1
  refine⟨p,5,rfl,by decide,by decide,hB.pot.same g1,λc H4 c0 c1 P4 e4=>?_⟩
  have n1:p1≠p:=hB.pot.ne z1
  obtain⟨v,hv,w,rfl⟩:=ZmI (xs:=[V.int (nth rs[j] s+1),V.int (nth rs[j] s-1),V.int (10 ^ Int.toNat 59),V.int (-1),V.int 40]) (i:=c) (λv=>∃w:Int,v=V.int w) c0 c1 (by
   intro u hu
   simp only[Yk,List.not_mem_nil,or_false]at hu
   rcases hu with rfl|rfl|rfl|rfl|rfl<;>exact⟨_,rfl⟩)
  have he4:=e4 _ _ nep (g1 _ _ he)
  have hB4:=(hB.same g1).exc e4 P4
  refine⟨_,c,rfl,SqT.of (e4 _ _ n1 Zc),_,hv,_,he4,s,Zhz (by rw[Yg];exact hsl),hR _ _ ⟨rs[j].set s w,rfl,by rw[List.length_set];exact e4',by rw[Zc,List.map_set],hB4.upd ze nep neb he4⟩⟩
 clear he hB Hx
 rintro σ Hx ⟨us,rfl,hu4,he,hB⟩
 walk_at "rd"
 refine⟨_,.inl ⟨SqL.of he,λt zt=>?_⟩⟩
 have g1:=(Zh.refl Hx).upd (o:=.tup (us.map V.int)) zt
 have hB1:=hB.same g1
 refine⟨_,hB1.1,j,Zhz (by rw[lA];exact hj),?_⟩
 rw[show(as.map V.ref).set j (V.ref t)=(as.set j t).map V.ref from(List.map_set ..).symm]
 refine hfin b _ _ hB.2.1 Zc (λa ha=>?_) (by simp;omega) ((hB1.pot).ZiN hB.2.2.1) (hB1.2.2.2.2.2.ZiN hB.2.1)
 rcases List.mem_or_eq_of_mem_set ha with y|y
 ·obtain⟨r,h4,hr⟩:=hB1.four hF lb y
  exact⟨r,h4,by rw[Zg (λq=>by rw[q,hB1.1]at hr;cases hr)];exact hr⟩
 ·rw[y]
  exact⟨us,hu4,by rw[Zg (Zo hB.1 zt).symm];exact Zc⟩
theorem ZfN {f:Addr}{fd:FuncData} (F:Fun K "_law_told_right" "_law_told_right" ZP f fd) (ZcN:Callee P w K mg base "_law_parting" 3 ["row","size","one","other"] (ZaY K mg)) (ZaO:Callee P w K mg base "_law_shows" 3 ["row","size","shown"] (ZbO K mg)) (T:Txt K mg):FnOk P w K mg base (CXE P w) 4 f fd ["row","shown","size"] (Za6 K mg):=by
 refine F.okX Za8 (λvs H Q E h=>?_) (λcdv A outer s H vs Q E hr h=>?_)
 ·obtain⟨_,_,_,_,_,rfl,_⟩:=h;rfl
 obtain⟨r,l,ns,size,rs,rfl,hr1,hl,hF,hN,hs1,hs2,hn,k1⟩:=h
 refine⟨_,(Zd (Z0 (PW.pt (ZhD (ZdR (Zdg (Zm (Zfl (K:=K) rfl) rfl T.b_isinstance ZbN (Za (pv 1) (Za (Zhu (v:=.ty "list") rfl T.b_list Zc0 rfl) Zb))))) (Zgs (ZdR (Zdg (Zm (ZeF (K:=K) rfl rfl) rfl T.b_all ZhN (Za (ZN ["entry"] [none] rfl rfl rfl (Zci (pv 1)) (λ_ _ _ _ _=>(Zl (i:=0) (show(["entry"]:List Str).Nodup from by decide +kernel) rfl (Or.inl rfl))) (λ_ _ _ _ _=>ZJ) (λ_ _ _ _ _=>(ZjM (Zm (Zfl (K:=K) rfl) rfl T.b_isinstance ZbN (Za (pv 0) (Za (Zhu (v:=.ty "tuple") rfl T.b_tuple ZcA rfl) Zb))) (ZlF (ZdS ZcX (Zm (Zu (K:=K) rfl) rfl T.b_len Yy (Za (pv 0) Zb)) Ze (Zx _))))) Zp) Zb))))))) (Zf (Zr Zez)) ZH)
   (Zd (Z0 (ZdR (Zdg (Zi ZaO (hr.mono (by decide)) rfl Zv (Za (pv 0) (Za (pv 2) (Za (pv 1) Zb)))))) (Zf (Zr Zez)) ZH)
   (Zd (Zq (i:=3) Za8.nd rfl (Or.inl rfl) (pv 1))
   (Zd (Z0 (Zw ZhH (Zm (Zu (K:=K) rfl) rfl T.b_len Yy (Za (pv 0) Zb)) Ze (Zx _)) (Zf (Zq (i:=3) Za8.nd rfl (Or.inl rfl) (Zki (K:=K) rfl (pv 1) (Zm (Zgu rfl) rfl T.b_max ZjY (Za Ze (Za (Zj ZcD (Zm (Zu (K:=K) rfl) rfl T.b_len Yy (Za (pv 1) Zb)) Ze) Zb)))))) ZH)
   (Zf (Zr (Zm (ZeF (K:=K) rfl rfl) rfl T.b_all ZhN (Za (ZN ["entry","row","size"] [none,some 0,some 2] rfl rfl rfl (Zci (pv 3)) (λ_ _ _ _ _=>(Zl (i:=0) (show(["entry","row","size"]:List Str).Nodup from by decide +kernel) rfl (Or.inl rfl))) (λ_ _ _ _ _=>ZJ) (λ_ _ _ _ _=>(ZdS (op_orR ZcX (ZlO (K:=K) rfl hr)) (Zi ZcN (hr.mono (by decide)) rfl Zv (Za (pv 1) (Za (pv 2) (Za (ZT (r:=rIxT K) ZdT (pv 0) Ze (λ_ _=>rfl)) (Za (ZT (r:=rIxT K) ZdT (pv 0) Ze (λ_ _=>rfl)) Zb))))) (Zak (r:=rSlT K) ZoZ (pv 0) (Zae Ze) ZcY) (Zx _))) Zp) Zb)))))))),?_⟩
 walk_at "rd"
 have eR:(ns.map V.int).length=ns.length:=Yg ..
 have hall:∀(q:Addr) (Hx:Hp) (ys:List V),Zh H Hx->Hx q=some (.lst ys)->ys.length<=1000->(∀y∈ys,∃u:Addr,y=.ref u/\∃x y a w:Nat,Hx u=some (.tup [.int (x:Int),.int (y:Int),.int (a:Int),.int ((a+w:Nat):Int)])/\Zb2 (nth ns) (nth ns) x y size a w/\x+size<=ns.length/\y+size<=ns.length)->Zf2 (Itl K q) (gName 0) tYes (tOp (rOr rEq (rEqD K false)) (tCall (ZaY K mg) [] E0 (tCons (tVar 1) (tCons (tVar 2) (tCons (tOp (rIxT K) (tVar 0) (tC (V.int 0))) (tCons (tOp (rIxT K) (tVar 0) (tC (V.int 1))) tNil))))) (tSl (rSlT K) (tVar 0) (tPart (tC (V.int 2))) tNoPart)) [none,some (V.ref r),some (V.int ↑size)] (λx H1=>∃p,x=V.ref p/\∃x,SqL K H1 p (List.map V.bl x)/\Q (V.bl (x.all id)) H1) Hx:=λq Hx ys sx hq hly hys=>by
  refine L2.comp_map (n:=ys.length) (λ_=>V.bl true) (Yv hly (by decide)) (λj Hz s hj=>⟨_,_,SqL.of (s _ _ hq),Yf hj⟩) (λHz s=>⟨_,SqL.of (s _ _ hq),Ye _⟩) ?_ ?_
  ·rintro j x Hy Hz hj s ⟨rfl,y⟩
   have y:=y _ (SqL.of (s _ _ hq))
   rw[Yf hj]at y
   cases y
   obtain⟨u,eu,x,y,a,w,hu,hpa,hx,hy⟩:=hys _ (YA hj)
   rw[eu]
   have hu2:=s _ _ hu
   walk_at "rd"
   refine⟨_,SqT.of hu2,_,(show atI _ ((0:Nat):Int)=_ from Zhv rfl),_,SqT.of hu2,_,(show atI _ ((1:Nat):Int)=_ from Zhv rfl),r,ns,size,x,y,a,w,rfl,s _ _ (sx _ _ hr1),hx,hy,by omega,by omega,hpa,λt2 H3 s3 ht2=>?_⟩
   refine⟨u,_,rfl,SqT.of (s3 _ _ hu2),(λh=>nomatch (show(2:Nat)=0 from h.1)),λp2 hp2=>.inr ⟨t2,rfl,p2,rfl,?_⟩⟩
   have g:=(Zh.refl H3).upd (o:=.tup (Zex [V.int (x:Int),V.int (y:Int),V.int (a:Int),V.int ((a+w:Nat):Int)] (some 2) none)) hp2
   exact⟨_,ZmR (n:=2) Zj4 (V.ref t2) (V.ref p2) [(a:Int),((a+w:Nat):Int)] [(a:Int),((a+w:Nat):Int)] (ZhM (SqT.of (g _ _ ht2))) (ZhM (SqT.of Zc)),L2.CW.next hj (congrArg V.bl (YS rfl)) (s.trans (s3.trans g))⟩
  ·intro l3 Hy s3 zl3
   refine⟨l3,rfl,List.replicate ys.length true,SqL.of (by rw[Zc];simp[List.map_const']),?_⟩
   rw[show(List.replicate ys.length true).all id=true by simp]
   exact k1 _ (sx.trans (s3.ZL zl3))
 obtain⟨as,la,lb,lc⟩:=id hl
 refine⟨true,.inl ⟨_,.lst la,by with_unfolding_all rfl⟩,ZW (λz=>nomatch z) λ_=>⟨hl.sq,?_⟩⟩
 obtain⟨w1,w2,w3⟩:=hl.walk (K:=K)
 refine L2.comp_map (n:=rs.length) (λ_=>V.bl true) (Yv hF.1 (by decide)) (λj Hz s hj=>w1 j Hz s hj) (λHz s=>w2 Hz s) ?_ ?_
 ·rintro j x Hy Hz hj s y
  obtain⟨rfl,q,rfl,hq⟩:=w3 j x Hy Hz hj s y
  have e4:=hF.2 rs[j] (YA hj)
  walk_at "rd"
  exact⟨true,.inl ⟨_,.tup hq,by with_unfolding_all rfl⟩,ZW (λ_=>⟨_,.inr (SqT.of hq),CW.next hj (congrArg V.bl (YS (by rw[Yg,e4];rfl))) s⟩) λz=>absurd rfl z⟩
 ·intro l1 H1 s1 zl1
  have g1:=s1.ZL (o:=.lst ((List.range rs.length).map λ_=>V.bl true)) zl1
  refine⟨l1,rfl,List.replicate rs.length true,SqL.of (by rw[Zc];simp[List.map_const']),ZW (λz=>absurd z (by simp)) λ_=>?_⟩
  refine⟨r,l,ns,size,rs,rfl,g1 _ _ hr1,hl.same g1,hF,hs1,hs2,hn,λc H3 s3 hc=>⟨c,rfl,ZW (λz=>?_) λ_=>⟨_,.inl (SqL.of (s3 _ _ (g1 _ _ hr1))),?_⟩⟩⟩
  ·rw[hc.mpr (Zll hN)]at z;cases z
  ·have sa:=g1.trans s3
   have hent:∀y∈as.map V.ref,∃u:Addr,y=.ref u/\∃x y a w:Nat,H3 u=some (.tup [.int (x:Int),.int (y:Int),.int (a:Int),.int ((a+w:Nat):Int)])/\Zb2 (nth ns) (nth ns) x y size a w/\x+size<=ns.length/\y+size<=ns.length:=by
    intro y hy
    obtain⟨u,hu,rfl⟩:=YJ.mp hy
    obtain⟨i,hi,rfl⟩:=YY hu
    have hi2:i<rs.length:=by omega
    obtain⟨x,y,a,w,e,hpa⟩:=hN.2 rs[i] (YA hi2)
    obtain⟨x',y',a',b',e',hxy,hym⟩:=Zkp hN.1 hF hi2
    have e5:=e.symm.trans e'
    simp at e5
    have hti:=sa _ _ (lc i hi hi2)
    rw[e]at hti
    exact⟨_,rfl,x,y,a,w,hti,hpa,by omega,by omega⟩
   have la3:=sa _ _ la
   have lal:(as.map V.ref).length<=1000:=by rw[Yg,lb];exact hF.1
   refine ZW (λz=>⟨_,.inl (SqL.of la3),⟨by decide,by decide⟩,by split<;>omega,_,SqL.of la3,λp ys h1 h2 hp=>⟨⟨_,SqL.of Zc⟩,?_⟩⟩) λz=>⟨⟨_,SqL.of la3⟩,hall l _ _ sa la3 lal hent⟩
   have gp:=(Zh.refl H3).upd (o:=.lst ys) hp
   exact hall p _ ys (sa.trans gp) Zc (by omega) λy hy=>by
    obtain⟨u,eu,x,y,a,w,hu,hr⟩:=hent _ (h2 y hy)
    exact⟨u,eu,x,y,a,w,gp _ _ hu,hr⟩
theorem Zie {f:Addr}{fd:FuncData} (F:Fun K "_law_judged" "_law_judged" Zar f fd) (Zd6:Callee P w K mg base "none_right" 3 ["row","size","shown"] (Zdn K mg)) (Zac:Callee P w K mg base "_law_either" 2 ["pot","some"] (Zbk K mg)) (ZaO:Callee P w K mg base "_law_shows" 3 ["row","size","shown"] (ZbO K mg)) (T:Txt K mg):FnOk P w K mg base (CXE P w) 4 f fd ["pot","row","size","shown"] (ZcH K mg):=by
 refine F.okX ZcK (λvs H Q E h=>?_) (λcdv A outer s H vs Q E hr h=>?_)
 ·obtain⟨_,_,_,_,_,_,rfl,_⟩:=h;rfl
 obtain⟨p,r,l,ns,size,rs,rfl,hP,nrp,nlp,hr1,hl,hF,hs1,hs2,hn,k1⟩:=h
 refine⟨_,(Zd (Zq (i:=4) ZcK.nd rfl (Or.inl rfl) (Zi Zac (hr.mono (by decide)) rfl Zv (Za (pv 0) (Za (pv 3) Zb))))
   (Zd (Zq (i:=5) ZcK.nd rfl (Or.inl rfl) (Zi Zd6 (hr.mono (by decide)) rfl Zv (Za (Zi Zac (hr.mono (by decide)) rfl Zv (Za (pv 0) (Za (pv 1) Zb))) (Za (pv 2) (Za (pv 4) Zb)))))
   (Zf (Zr (ZjM (Zm (Zfl (K:=K) rfl) rfl T.b_isinstance ZbN (Za (pv 5) (Za (Zhu (v:=.ty "bool") rfl T.b_bool Zrs rfl) Zb))) (ZjM (ZdS ZcX (pv 5) (Zi ZaO (hr.mono (by decide)) rfl Zv (Za (pv 1) (Za (pv 2) (Za (pv 3) Zb)))) (Zx _)) (ZlF (ZdS (ZlO (K:=K) rfl hr) (Z1 (ZcB (K:=K) rfl) rfl T.b_list Zc0 (Za (pv 4) Zb)) (pv 3) (Zx _))))))))),?_⟩
 walk_at "rd"
 obtain⟨as,la,lb,lc⟩:=id hl
 refine⟨p,l,_,rfl,hP,nlp,la,by rw[Yg];have:=hF.1;omega,λu H1 zu hu P1 e1=>?_⟩
 have hr2:=e1 _ _ nrp hr1
 refine⟨p,r,_,rfl,P1,nrp,hr2,by rw[Yg];omega,λv H2 zv hv P2 e2=>?_⟩
 have nup:u≠p:=hP.ne zu
 have hQ:Zf8 H2 u rs:=tups_q lb lc hP (e1.trans e2) (hu.imp (e2 _ _ nup) (e2 _ _ nup))
 refine⟨v,u,ns,size,rs,rfl,hv.imp SqL.of SqT.of,hQ,hF,hs1,hs2,hn,λc H3 s3 hc=>⟨true,.inl ⟨_,.bl _,by with_unfolding_all rfl⟩,ZW (λ_=>?_) λz=>absurd rfl z⟩⟩
 have hl2:ZI H3 l rs:=(ZhB ⟨as,la,lb,lc⟩ nlp hP (e1.trans e2)).same s3
 refine⟨r,l,ns,size,rs,rfl,s3 _ _ (e2 _ _ nrp hr2),hl2,hF,hs1,hs2,hn,λc2 H4 s4 hc2=>⟨rfl,?_⟩⟩
 have ecc:c=c2:=Bool.eq_iff_iff.mpr (hc.trans hc2.symm)
 subst ecc
 refine ZW (λ_=>?_) λz=>absurd rfl z
 have hu4:=hu.imp (λz=>s4 _ _ (s3 _ _ (e2 _ _ nup z))) λz=>s4 _ _ (s3 _ _ (e2 _ _ nup z))
 refine⟨u,rfl,_,hu4.imp SqL.of SqT.of,λq zq=>?_⟩
 have gq:=(Zh.refl H4).upd (o:=.lst (as.map V.ref)) zq
 have hq:ZI (upd H4 q (.lst (as.map V.ref))) q rs:=by
  obtain⟨x,hx,_⟩:=hP
  exact⟨as,Zc,lb,λi i1 i2=>gq _ _ (s4 _ _ (s3 _ _ ((e1.trans e2) _ _ (λz=>by have:=lc i i1 i2;rw[z,hx]at this;cases this) (lc i i1 i2))))⟩
 refine⟨_,Zgb (K:=K) hq (hl2.same (s4.trans gq)),?_⟩
 rw[YS rfl]
 have sa:=s3.trans (s4.trans gq)
 exact k1 _ (P2.same sa) ((e1.trans e2).same sa)
theorem ok_law {f:Addr}{fd:FuncData} (F:Fun K "law" "law" s_law f fd) (Z7:Callee P w K mg base "longest_twice" 9 ["row"] (ZaM K mg)) (ZbP:Callee P w K mg base "none_longer" 10 ["row"] (ZcG K mg)) (ZeR:Callee P w K mg base "_law_deal" 1 ["script","k"] (Zd0 K mg)) (Zn:Callee P w K mg base "_law_take" 1 ["pot","many"] (ZaL K mg)) (ZfQ:Callee P w K mg base "_law_row" 2 ["pot","most"] (sp__law_row K mg)) (Zac:Callee P w K mg base "_law_either" 2 ["pot","some"] (Zbk K mg)) (Zbh:Callee P w K mg base "_law_twos" 1 ["row","size"] (Zco K mg)) (Zc5:Callee P w K mg base "_law_bent" 2 ["pot","shown"] (Zd2 K mg)) (Zbp:Callee P w K mg base "_law_told_right" 4 ["row","shown","size"] (Za6 K mg)) (Zau:Callee P w K mg base "_law_judged" 4 ["pot","row","size","shown"] (ZcH K mg)) (T:Txt K mg):FnOk P w K mg base (CXE P w) 11 f fd ["script"] (spLaw K mg):=by
 refine F.okX sc_law (λvs H Q E h=>?_) (λcdv A outer s H vs Q E hr h=>?_)
 ·obtain⟨a,ns,rfl,_⟩:=h;rfl
 obtain⟨sc,ss,rfl,hsc,hss,hTT,k1⟩:=h
 have hT1:ZnI K mg "longest_twice" H:=hTT (Zlc K mg "longest_twice",lamQ "longest_twice") (by unfold tabsL;simp)
 refine⟨_,(Zd (ZaU (Zby PassesOwn.never rfl (ZU rfl T.b_range (Za (Zm (Zgu rfl) rfl T.b_max ZjY (Za Ze (Za (Zm (Zje rfl) rfl T.b_min ZjZ (Za (Zm (Zu (K:=K) rfl) rfl T.b_len Yy (Za (pv 0) Zb)) (Za Ze Zb))) Zb))) Zb)) (Zl (i:=1) sc_law.nd rfl (Or.inl rfl)) (Zd (Zq (i:=2) sc_law.nd rfl (Or.inr rfl) (Zi ZeR (hr.mono (by decide)) rfl Zv (Za (pv 0) (Za (pv 1) Zb))))
   (Zd (Zq (i:=3) sc_law.nd rfl (Or.inl rfl) (Zj Zgw (ZaT (Za (Zi Zn (hr.mono (by decide)) rfl Zv (Za (pv 2) (Za Ze Zb))) (Za (Zi Zn (hr.mono (by decide)) rfl Zv (Za (pv 2) (Za Ze Zb))) Zb))) (Zi ZfQ (hr.mono (by decide)) rfl Zv (Za (pv 2) (Za Ze Zb)))))
   (Zd (Z0 (Zw ZcX (Zi Zn (hr.mono (by decide)) rfl Zv (Za (pv 2) (Za Ze Zb))) Ze (Zx _)) (Zf (Zq (i:=3) sc_law.nd rfl (Or.inl rfl) (Zak ZbM (Zj Zgw (pv 3) (ZN ["turn","pot"] [none,some 2] rfl rfl rfl (ZU rfl T.b_range (Za Ze Zb)) (λ_ _ _ _ _=>(Zl (i:=0) (show(["turn","pot"]:List Str).Nodup from by decide +kernel) rfl (Or.inl rfl))) (λ_ _ _ _ _=>ZJ) (λ_ _ _ _ _=>(Zi Zn (hr.mono (by decide)) rfl Zv (Za (pv 1) (Za Ze Zb)))) Zp)) ZcY (Zae Ze)))) ZH)
   (Zd (Zq (i:=4) sc_law.nd rfl (Or.inr rfl) (Zj ZC (ZT ZdT (Zi Z7 (hr.mono (by decide)) rfl Zv (Za (pv 3) Zb)) Ze (λ_ _=>rfl)) Ze))
   (Zd (Zq (i:=5) sc_law.nd rfl (Or.inl rfl) (Zi ZbP (hr.mono (by decide)) rfl Zv (Za (Zi Zac (hr.mono (by decide)) rfl Zv (Za (pv 2) (Za (pv 3) Zb))) Zb)))
   (Zd (Zq (i:=6) sc_law.nd rfl (Or.inl rfl) (Z1 (ZcB (K:=K) rfl) rfl T.b_list Zc0 (Za (pv 5) Zb)))
   (Zd (Z0 (PW.pt (ZhD (ZdR (Zdg (Zi Zbp (hr.mono (by decide)) rfl Zv (Za (pv 3) (Za (pv 5) (Za (pv 4) Zb)))))) (Zgs (ZdR (Zdg (Zi Zau (hr.mono (by decide)) rfl Zv (Za (pv 2) (Za (pv 3) (Za (pv 4) (Za (pv 5) Zb)))))))))) (Zf (Zr Zez)) ZH)
   (Zd (Zad (Zch PySem.F.plainAttrs_list PySem.F.slot_list_append PySem.F.type_list_append Z2 (pv 5) (Za (Za4 (Za Ze (Za Ze (Za Ze (Za Ze Zb))))) Zb)))
   (Zd (Z0 (Zw (Zj3 (K:=K) rfl hr) (Zi ZbP (hr.mono (by decide)) rfl Zv (Za (pv 3) Zb)) (pv 6) (Zx _)) (Zf (Zr Zez)) ZH)
   (Zd (ZaU (Zby PassesOwn.never rfl (ZU rfl T.b_range (Za Ze Zb)) (Zl (i:=7) sc_law.nd rfl (Or.inl rfl)) (Zf (Z0 (ZdR (Zdg (Zi Zau (hr.mono (by decide)) rfl Zv (Za (pv 2) (Za (pv 3) (Za (pv 4) (Za (Zi Zc5 (hr.mono (by decide)) rfl Zv (Za (pv 2) (Za (Zi Zc5 (hr.mono (by decide)) rfl Zv (Za (pv 2) (Za (pv 6) Zb))) Zb))) Zb))))))) (Zf (Zr Zez)) ZH))))
   (Zd (Zq (i:=4) sc_law.nd rfl (Or.inr rfl) (Zj ZC Ze (Zi Zn (hr.mono (by decide)) rfl Zv (Za (pv 2) (Za (Zm (Zje rfl) rfl T.b_min ZjZ (Za (Zj ZC (Zm (Zu (K:=K) rfl) rfl T.b_len Yy (Za (pv 3) Zb)) Ze) (Za Ze Zb))) Zb)))))
   (Zd (Zk0 (i:=8) ["two","pot","size"] [none,some 2,some 4] sc_law.nd rfl (Or.inl rfl) rfl rfl rfl (Zci (Zi Zbh (hr.mono (by decide)) rfl Zv (Za (pv 3) (Za (pv 4) Zb)))) (λ_ _ _ _ _=>(Zl (i:=0) (show(["two","pot","size"]:List Str).Nodup from by decide +kernel) rfl (Or.inl rfl))) (λ_ _ _ _ _=>ZJ) (λ_ _ _ _ _=>(Zj Zka (pv 0) (Za4 (Za Ze (Za (Zi Zn (hr.mono (by decide)) rfl Zv (Za (pv 1) (Za (pv 2) Zb))) Zb))))) Zp)
   (Zf (Z0 (PW.pt (ZhD (ZdR (Zdg (Zi Zau (hr.mono (by decide)) rfl Zv (Za (pv 2) (Za (pv 3) (Za (pv 4) (Za (pv 8) Zb))))))) (Zgs (ZdR (Zdg (Zi Zau (hr.mono (by decide)) rfl Zv (Za (pv 2) (Za (pv 3) (Za (pv 4) (Za (ZaT Zb) Zb)))))))))) (Zf (Zr Zez)) ZH))))))))))))))))
   (Zf (Zr Zez))),?_⟩
 walk_at "rd"
 refine⟨_,.inl hsc,by split<;>(try split)<;>omega,by split<;>(try split)<;>omega,?_⟩
 refine Zal (λi σ Hx=>∃v1 v2 v3 v4 v5 v6 v7 v8,σ=[some (.ref sc),v1,v2,v3,v4,v5,v6,v7,v8]/\Zh H Hx) ⟨_,_,_,_,_,_,_,_,rfl,Zh.refl H⟩ ?_ ?_
 ·rintro i σ H' hi ⟨v1,v2,v3,v4,v5,v6,v7,v8,rfl,hs⟩
  have hi8:i<16:=by
   revert hi
   split
   ·split<;>omega
   ·omega
  refine ZaE (fun σ Hx=>∃p,σ=[some (.ref sc),some (.int (0+(i:Int))),some (.ref p),v3,v4,v5,v6,v7,v8]/\H p=none/\ZA Hx p/\Zh H Hx) (λR hR=>?_) ?_
  ·walk_at "rd"
   exact⟨sc,ss,_,rfl,hs.seq hsc,by omega,by omega,λp H1 hp s1 P1=>hR _ _ ⟨p,rfl,hs.free hp,P1,hs.trans s1⟩⟩
  rintro σ H1 ⟨p,rfl,zp,P1,s1⟩
  refine ZaE (fun σ Hx=>∃(r:Addr) (ns:List Int),σ=[some (.ref sc),some (.int (0+(i:Int))),some (.ref p),some (.ref r),v4,v5,v6,v7,v8]/\r≠p/\2<=ns.length/\ns.length<=40/\Hx r=some (.lst (ns.map V.int))/\ZA Hx p/\Zh H Hx) (λR hR=>?_) ?_
  ·walk_at "rd"
   refine⟨p,3,rfl,by decide,by decide,P1,λd1 H2 _ _ P2 e2=>⟨p,3,rfl,by decide,by decide,P2,λd2 H3 _ _ P3 e3=>⟨by decide,λu zu=>⟨p,8,rfl,by decide,by decide,P3.upd zu,λr ns H4 zr hl hr4 P4 e4=>?_⟩⟩⟩⟩
   refine⟨r,rfl,_,e4 u _ (P3.ne zu) Zc,_,hr4,Yi (show _<=1000 by simp;omega) (by decide),λv zv=>hR _ _ ⟨v,[d1,d2]++ns,rfl,P4.ne zv,by simp,by simp;omega,by rw[Zc,YC];rfl,P4.upd zv,((((s1.exc zp e2).exc zp e3).ZL zu).exc zp e4).ZL zv⟩⟩
  clear P1 s1 H1
  rintro σ H1 ⟨r,ns,rfl,nrp,hn2,hn40,hr1,P1,s1⟩
  refine ZaE (fun σ Hx=>∃(r:Addr) (ns:List Int),σ=[some (.ref sc),some (.int (0+(i:Int))),some (.ref p),some (.ref r),v4,v5,v6,v7,v8]/\r≠p/\2<=ns.length/\ns.length<=40/\Hx r=some (.lst (ns.map V.int))/\ZA Hx p/\Zh H Hx) (λR hR=>?_) ?_
  ·walk_at "rd"
   refine⟨p,8,rfl,by decide,by decide,P1,λd H2 _ _ P2 e2=>⟨rfl,ZW (λ_=>⟨by decide,by decide,?_⟩) λ_=>hR _ _ ⟨r,ns,rfl,nrp,hn2,hn40,e2 _ _ nrp hr1,P2,s1.exc zp e2⟩⟩⟩
   refine ZdK (n:=40) (λk acc Hz=>∃bs:List Int,acc=bs.map V.int/\bs.length=k/\ZA Hz p/\Exc p H2 Hz) (by decide) ⟨[],rfl,rfl,P2,(Zh.refl _).ZgX⟩ (λk acc Hz _ hk=>hk) (λacc Hz _=>Ye _) ?_ ?_
   ·rintro k x acc Hy Hz hk hla ⟨bs,rfl,hbl,Py,ey⟩ ⟨rfl,rfl⟩
    walk_at "rd"
    exact⟨p,4,rfl,by decide,by decide,Py,λd5 H8 _ _ P8 e8=>CA.take hk hla ⟨bs++[d5],by simp,by simp[hbl],P8,ey.trans e8⟩⟩
   ·rintro l acc Hy ⟨bs,rfl,hbl,Py,ey⟩ _ zl
    have g:=(Zh.refl Hy).upd (o:=.lst (bs.map V.int)) zl
    have hr3:=g _ _ (ey _ _ nrp (e2 _ _ nrp hr1))
    refine⟨l,rfl,_,hr3,_,Zc,Yi (show _<=1000 by simp;omega) (by decide),λu zu=>?_⟩
    rw[<-YC]
    have g2:=g.ZL (o:=.lst ((ns++bs).map V.int)) zu
    refine⟨_,SqL.of Zc,λv zv=>?_⟩
    rw[show(40:Int)=((40:Nat):Int)from rfl,Zj7,<-List.map_take]
    have g3:=g2.ZL (o:=.lst (((ns++bs).take 40).map V.int)) zv
    exact hR _ _ ⟨v,(ns++bs).take 40,rfl,(Py.same g2).ne zv,by rw[YR,YB];omega,by rw[YR];omega,Zc,Py.same g3,((s1.exc zp e2).exc zp ey).trans g3⟩
  clear P1 s1 hr1 nrp hn2 hn40 H1 r ns
  rintro σ H1 ⟨r,ns,rfl,nrp,hn2,hn40,hr1,P1,s1⟩
  refine ZaE (fun σ Hx=>∃c a b:Nat,σ=[some (.ref sc),some (.int (0+(i:Int))),some (.ref p),some (.ref r),some (.int ((c+1:Nat):Int)),v5,v6,v7,v8]/\ZhZ ns c a b/\Zh H1 Hx) (λR hR=>?_) ?_
  ·walk_at "rd"
   exact⟨r,ns,rfl,.inl (SqL.of hr1),by omega,hT1.same s1,λz=>absurd z (by omega),λ_ t c a b H2 s2 hL ht=>⟨t,rfl,_,SqT.of ht,_,(show atI _ ((0:Nat):Int)=_ from Zhv rfl),(c:Int),rfl,hR _ _ ⟨c,a,b,rfl,hL,s2⟩⟩⟩
  rintro σ H2 ⟨c,a,b,rfl,hL,s2⟩
  replace hr1:=s2 _ _ hr1
  replace P1:=P1.same s2
  replace s1:=s1.trans s2
  clear s2 H1
  refine ZaE (fun σ Hx=>∃(l:Addr) (rs:List (List Int)),σ=[some (.ref sc),some (.int (0+(i:Int))),some (.ref p),some (.ref r),some (.int ((c+1:Nat):Int)),some (.ref l),v6,v7,v8]/\l≠p/\l≠r/\H l=none/\ZgY (nth ns) ns.length (c+1) rs/\ZI Hx l rs/\Hx r=some (.lst (ns.map V.int))/\ZA Hx p/\Zh H Hx) (λR hR=>?_) ?_
  ·walk_at "rd"
   refine⟨p,r,_,rfl,P1,nrp,hr1,by rw[Yg];omega,λu H3 zu hu P3 e3=>?_⟩
   have s3:=s1.exc zp e3
   refine⟨u,ns,rfl,hu.imp SqL.of SqT.of,by omega,hT1.same s3,λz=>absurd z (by omega),λ_ l c' a' b' rs H4 s4 zl hL' hl hN=>?_⟩
   obtain⟨ec,_,_⟩:=Zh7 hL' hL
   rw[ec]at hN
   exact hR _ _ ⟨l,rs,rfl,P3.ne zl,(Zo (e3 _ _ nrp hr1) zl).symm,s3.free zl,hN,hl,s4 _ _ (e3 _ _ nrp hr1),P3.same s4,s3.trans s4⟩
  clear P1 s1 hr1 H2
  rintro σ H1 ⟨l,rs,rfl,nlp,nlr,zl,hN,hl,hr1,P1,s1⟩
  obtain⟨c1,c2,_⟩:=id hL
  have hF:=Zln hN (by omega) (by omega)
  have hF8:=ZnR hN (by omega) (by omega)
  refine ZaE (fun σ Hx=>∃(k:Addr),σ=[some (.ref sc),some (.int (0+(i:Int))),some (.ref p),some (.ref r),some (.int ((c+1:Nat):Int)),some (.ref l),some (.ref k),v7,v8]/\k≠p/\k≠l/\ZI Hx k rs/\Zh H1 Hx) (λR hR=>?_) ?_
  ·walk_at "rd"
   obtain⟨as,la,lb,lc⟩:=id hl
   exact⟨_,.inl (SqL.of la),λk zk=>hR _ _ ⟨k,rfl,P1.ne zk,(Zo la zk).symm,⟨as,Zc,lb,λi i1 i2=>by rw[Zg (Zo (lc i i1 i2) zk)];exact lc i i1 i2⟩,(Zh.refl _).upd zk⟩⟩
  rintro σ H2 ⟨k,rfl,nkp,nkl,hk,s2⟩
  replace hl:=hl.same s2
  replace hr1:=s2 _ _ hr1
  replace P1:=P1.same s2
  replace s1:=s1.trans s2
  clear s2 H1
  refine ZaE (fun σ Hx=>σ=[some (.ref sc),some (.int (0+(i:Int))),some (.ref p),some (.ref r),some (.int ((c+1:Nat):Int)),some (.ref l),some (.ref k),v7,v8]/\ZA Hx p/\Exc p H2 Hx) (λR hR=>?_) ?_
  ·walk_at "rd"
   exact⟨r,l,ns,c+1,rs,rfl,hr1,hl,hF,hN,by omega,by omega,by omega,λH4 s4=>⟨true,rfl,ZW (λz=>nomatch z) λ_=>⟨p,r,l,ns,c+1,rs,rfl,P1.same s4,nrp,nlp,s4 _ _ hr1,hl.same s4,hF,by omega,by omega,by omega,λH5 P5 e5=>⟨true,rfl,ZW (λz=>nomatch z) λ_=>hR _ _ ⟨rfl,P5,s4.ZgX.trans e5⟩⟩⟩⟩⟩
  rintro σ H3 ⟨rfl,P3,e3⟩
  replace hl:=ZhB hl nlp P1 e3
  replace hk:=ZhB hk nkp P1 e3
  replace hr1:=e3 _ _ nrp hr1
  replace s1:=s1.exc zp e3
  clear P1 e3 H2
  refine ZaE (fun σ Hx=>σ=[some (.ref sc),some (.int (0+(i:Int))),some (.ref p),some (.ref r),some (.int ((c+1:Nat):Int)),some (.ref l),some (.ref k),v7,v8]/\ZI Hx k rs/\Hx r=some (.lst (ns.map V.int))/\ZA Hx p/\Zh H Hx) (λR hR=>?_) ?_
  ·walk_at "rd"
   obtain⟨as,la,lb,lc⟩:=hl
   obtain⟨bs,ka,kb,kc⟩:=hk
   refine⟨ZM la,by decide,λu zu=>⟨_,by rw[Zg (Zo la zu)];exact la,Yv (show _<=1000 by rw[Yg];omega) (by decide),?_⟩⟩
   have g:=(Zh.refl H3).upd (o:=.tup [V.int 0,V.int 0,V.int 0,V.int 0]) zu
   exact hR _ _ ⟨rfl,⟨bs,by rw[Zg nkl];exact g _ _ ka,kb,λi i1 i2=>by rw[Zg (λz=>by have:=kc i i1 i2;rw[z,la]at this;cases this)];exact g _ _ (kc i i1 i2)⟩,by rw[Zg nlr.symm];exact g _ _ hr1,(P3.same g).ZiN nlp,Zh.upd zl (s1.trans g)⟩
  clear hl hk hr1 s1 P3 H3
  rintro σ H1 ⟨rfl,hk,hr1,P1,s1⟩
  refine ZaE (fun σ Hx=>σ=[some (.ref sc),some (.int (0+(i:Int))),some (.ref p),some (.ref r),some (.int ((c+1:Nat):Int)),some (.ref l),some (.ref k),v7,v8]/\Zh H1 Hx) (λR hR=>?_) ?_
  ·walk_at "rd"
   refine⟨r,ns,rfl,.inl (SqL.of hr1),by omega,hT1.same s1,λz=>absurd z (by omega),λ_ a' c' x y rs' H2 s2 _ hL' hl' hN'=>?_⟩
   obtain⟨ec,_,_⟩:=Zh7 hL' hL
   rw[ec]at hN'
   have er:rs'=rs:=Zmf hN' hN
   exact⟨a',rfl,_,Zgb (K:=K) hl' (hk.same s2),ZW (λz=>absurd er (by simpa using z)) λ_=>hR _ _ ⟨rfl,s2⟩⟩
  rintro σ H2 ⟨rfl,s2⟩
  replace hk:=hk.same s2
  replace hr1:=s2 _ _ hr1
  replace P1:=P1.same s2
  replace s1:=s1.trans s2
  clear s2 H1
  refine ZaE (fun σ Hx=>∃v7,σ=[some (.ref sc),some (.int (0+(i:Int))),some (.ref p),some (.ref r),some (.int ((c+1:Nat):Int)),some (.ref l),some (.ref k),v7,v8]/\Hx r=some (.lst (ns.map V.int))/\ZA Hx p/\Zh H Hx) (λR hR=>?_) ?_
  ·walk_at "rd"
   refine⟨by decide,by decide,Zal (λj σ Hx=>∃v7,σ=[some (.ref sc),some (.int (0+(i:Int))),some (.ref p),some (.ref r),some (.int ((c+1:Nat):Int)),some (.ref l),some (.ref k),v7,v8]/\ZI Hx k rs/\Hx r=some (.lst (ns.map V.int))/\ZA Hx p/\Zh H Hx) ⟨_,rfl,hk,hr1,P1,s1⟩ ?_ ?_⟩
   ·clear hk hr1 P1 s1 H2
    rintro j σ Hx hj ⟨v7,rfl,hk,hr1,P1,s1⟩
    walk_at "rd"
    refine⟨p,k,rs,rfl,P1,nkp,hk,by omega,hF.2,λl1 rs1 H3 zl1 hl1 len1 f1 P3 e3=>⟨p,l1,rs1,rfl,P3,P1.ne zl1,hl1,by omega,f1,λl2 rs2 H4 zl2 hl2 len2 f2 P4 e4=>?_⟩⟩
    have e34:=e3.trans e4
    refine⟨p,r,l2,ns,c+1,rs2,rfl,P4,nrp,P3.ne zl2,e34 _ _ nrp hr1,hl2,⟨by omega,f2⟩,by omega,by omega,by omega,λH5 P5 e5=>⟨true,rfl,ZW (λz=>nomatch z) λ_=>?_⟩⟩
    have e35:=e34.trans e5
    exact⟨ZhB hk nkp P1 e35,e35 _ _ nrp hr1,P5,s1.exc zp e35⟩
   ·clear hk hr1 P1 s1 H2
    rintro σ Hx ⟨v7,rfl,hk,hr1,P1,s1⟩
    exact hR _ _ ⟨v7,rfl,hr1,P1,s1⟩
  clear hk hr1 P1 s1 H2
  rintro σ H1 ⟨v7,rfl,hr1,P1,s1⟩
  refine ZaE (fun σ Hx=>∃z:Nat,σ=[some (.ref sc),some (.int (0+(i:Int))),some (.ref p),some (.ref r),some (.int (z:Int)),some (.ref l),some (.ref k),v7,v8]/\1<=z/\z<=ns.length+1/\Hx r=some (.lst (ns.map V.int))/\ZA Hx p/\Zh H Hx) (λR hR=>?_) ?_
  ·walk_at "rd"
   have eR:(ns.map V.int).length=ns.length:=Yg ..
   refine⟨_,.inl (SqL.of hr1),?_⟩
   rw[eR]
   refine⟨p,_,rfl,by split<;>omega,by split<;>omega,P1,λd H2 d0 d1 P2 e2=>⟨d,rfl,?_⟩⟩
   obtain⟨d',rfl⟩:=YX d0
   exact hR _ _ ⟨1+d',rfl,by omega,by revert d1;split<;>omega,e2 _ _ nrp hr1,P2,s1.exc zp e2⟩
  clear hr1 P1 s1 H1
  rintro σ H1 ⟨z,rfl,hz1,hz2,hr1,P1,s1⟩
  refine ZaE (fun σ Hx=>∃(q:Addr) (us:List (List Int)),σ=[some (.ref sc),some (.int (0+(i:Int))),some (.ref p),some (.ref r),some (.int (z:Int)),some (.ref l),some (.ref k),v7,some (.ref q)]/\q≠p/\ZI Hx q us/\Zh0 us/\Hx r=some (.lst (ns.map V.int))/\ZA Hx p/\Zh H Hx) (λR hR=>?_) ?_
  ·walk_at "rd"
   refine⟨r,ns,z,rfl,hr1,hz1,hz2,by omega,λa H2 za ha s2=>⟨a,rfl,ha.sq,?_⟩⟩
   obtain⟨as,la,lb,lc⟩:=ha
   have nap:a≠p:=P1.ne za
   have P2:=P1.same s2
   obtain⟨xp,hxp,_⟩:=id P2
   have hpl:=ZeO (m:=ns.length+1-z) (by omega)
   refine ZdK (n:=as.length) (λj acc Hz=>∃us:List (List Int),ZY Hz acc us/\us.length=j/\(∀u∈us,u.length=4)/\ZA Hz p/\Exc p H2 Hz) (Yv (show _<=1000 by omega) (by decide)) ⟨[],ZY.nil,rfl,(λu h=>nomatch h),P2,(Zh.refl _).ZgX⟩ (λj acc Hz ⟨_,_,_,_,_,e⟩ hj=>⟨_,_,SqL.of (e _ _ nap la),Yf (by simpa using hj)⟩) (λacc Hz ⟨_,_,_,_,_,e⟩=>⟨_,SqL.of (e _ _ nap la),by simp⟩) ?_ ?_
   ·rintro j x acc Hz Hw hj hla ⟨us,tv,hul,hu4,Pz,ez⟩ ⟨rfl,hx⟩
    have hx:=hx _ (SqL.of (ez _ _ nap la))
    rw[Yx,Yf hj]at hx
    cases hx
    have hj2:j<(Zbl (ns.length+1-z)).length:=by omega
    obtain⟨x',y',e,_,_⟩:=ZfM (YA hj2)
    have hat:=lc j hj hj2
    have nt:as[j]≠p:=λq=>by rw[q,hxp]at hat;cases hat
    rw[e]at hat
    walk_at "rd"
    refine⟨p,z,rfl,by omega,by omega,Pz,λd H4 d0 d1 P4 e4=>⟨by decide,λp1 z1=>?_⟩⟩
    have ez4:=ez.trans e4
    have g:=(Zh.refl H4).upd (o:=.tup [V.int 0,V.int d]) z1
    obtain⟨xq,hxq,_⟩:=id Pz
    obtain⟨cs,ce,cl,ck⟩:=tv
    have tv4:ZY H4 acc us:=⟨cs,ce,cl,λi i1 i2=>e4 _ _ (λq=>by have:=ck i i1 i2;rw[q,hxq]at this;cases this) (ck i i1 i2)⟩
    refine⟨_,g _ _ (ez4 _ _ nt hat),_,Zc,(show(4:Nat)<=sizeLine by decide),λp2 H5 s5 h5=>CA.take hj hla ⟨us++[[(x':Int),(y':Int),0,d]],(tv4.same (g.trans s5)).snoc h5,by simp[hul],λu hu=>?_,P4.same (g.trans s5),ez4.same (g.trans s5)⟩⟩
    rcases Yq.mp hu with y|y
    ·exact hu4 u y
    ·rw[YO.mp y];rfl
   ·rintro q acc Hz ⟨us,tv,hul,hu4,Pz,ez⟩ _ zq
    have g:=(Zh.refl Hz).upd (o:=.lst acc) zq
    exact hR _ _ ⟨q,us,rfl,Pz.ne zq,tv.at zq,⟨by omega,hu4⟩,g _ _ (ez _ _ nrp (s2 _ _ hr1)),Pz.same g,((s1.trans s2).exc zp ez).trans g⟩
  clear hr1 P1 s1 H1
  rintro σ H1 ⟨q,us,rfl,nqp,hq,hU,hr1,P1,s1⟩
  walk_at "rd"
  exact⟨p,r,q,ns,z,us,rfl,P1,nrp,nqp,hr1,hq,hU,hz1,hz2,by omega,λH2 P2 e2=>⟨true,rfl,ZW (λz=>nomatch z) λ_=>⟨by decide,λu zu=>⟨p,r,u,ns,z,[],rfl,P2.upd zu,nrp,P2.ne zu,((Zh.refl H2).upd zu) _ _ (e2 _ _ nrp hr1),⟨[],Zc,rfl,λi h=>absurd h (by simp)⟩,⟨by simp,(λr h=>nomatch h)⟩,hz1,hz2,by omega,λH3 P3 e3=>⟨true,rfl,ZW (λz=>nomatch z) λ_=>((s1.exc zp e2).ZL zu).exc zp e3⟩⟩⟩⟩⟩
 ·rintro σ H' ⟨v1,v2,v3,v4,v5,v6,v7,v8,rfl,hs⟩
  walk_at "rd"
  exact k1 _
end
theorem all_mk {l:PySem.W.OpenLaw}{w:World}{K:PySem.W.Frag}{h:Heap}{mg:Str->Option Value}{fa:Addr}{ts:List Addr} (X:K.In h) (G:h.Ns mainGlobals mg) (hfa:mg "law"=some (.ref fa))
  {Zer:Tok}{oc3_need_numbers:Value}{od3_need_numbers:Option Addr}{Zhk:Nat}{sl3_need_numbers:Array (Option Value)}
  (Zbq:nsIn K mainGlobals "need_numbers"=some (some (.ref ZeS))) (ZcO:K.lookup ZeS=some ⟨Zop,Zoq,.func (fnOf "need_numbers" "need_numbers" (defArgs Zag) (defBody Zag) (defScope Zag) (.ref Zii) Zor Zos Zot Zou Zhl Zov),Zow⟩) (ZcP:codeIn K Zhl "need_numbers"=true) (ZaC:keepIn K (.ref ZeS)=true)
  (Zbr:K.lookup Zii=some ⟨oc3_need_numbers,od3_need_numbers,.seq #[.int 1 Zer] Zhk,sl3_need_numbers⟩)
  (Zd7:nsIn K mainGlobals "is_stretch"=some (some (.ref Zgd))) (Zd8:K.lookup Zgd=some ⟨ZqF,ZqG,.func (fnOf "is_stretch" "is_stretch" (defArgs ZaG) (defBody ZaG) (defScope ZaG) .none ZqH ZqI ZqJ ZqK Zi0 ZqL),ZqM⟩) (Zd9:codeIn K Zi0 "is_stretch"=true) (Zcr:keepIn K (.ref Zgd)=true)
  (Zij:nsIn K mainGlobals "lesser"=some (some (.ref Zlp))) (Zik:K.lookup Zlp=some ⟨ZtB,ZtC,.func (fnOf "lesser" "lesser" (defArgs ZdM) (defBody ZdM) (defScope ZdM) .none ZtD ZtE ZtF ZtG ZnS ZtH),ZtI⟩) (Zil:codeIn K ZnS "lesser"=true) (Zge:keepIn K (.ref Zlp)=true)
  (ZeT:nsIn K mainGlobals "low_steps"=some (some (.ref Zg0))) (ZeU:K.lookup Zg0=some ⟨ZrP,ZrQ,.func (fnOf "low_steps" "low_steps" (defArgs Zbb) (defBody Zbb) (defScope Zbb) .none ZrR ZrS ZrT ZrU Zks ZrV),ZrW⟩) (ZeV:codeIn K Zks "low_steps"=true) (Zc6:keepIn K (.ref Zg0)=true)
  (ZgK:nsIn K mainGlobals "parting"=some (some (.ref ZjE))) (ZgL:K.lookup ZjE=some ⟨Zs8,Zs9,.func (fnOf "parting" "parting" (defArgs Zcw) (defBody Zcw) (defScope Zcw) .none Zta Ztb Ztc Ztd Zmg Zte),Ztf⟩) (ZgM:codeIn K Zmg "parting"=true) (Zfo:keepIn K (.ref ZjE)=true)
  (ZfR:nsIn K mainGlobals "parts_at"=some (some (.ref Zim))) (ZfS:K.lookup Zim=some ⟨ZsJ,ZsK,.func (fnOf "parts_at" "parts_at" (defArgs Zbz) (defBody Zbz) (defScope Zbz) .none ZsL ZsM ZsN ZsO Zlq ZsP),ZsQ⟩) (ZfT:codeIn K Zlq "parts_at"=true) (Zea:keepIn K (.ref Zim)=true)
  (Zeb:nsIn K mainGlobals "all_tuples"=some (some (.ref Zgf))) (Zec:K.lookup Zgf=some ⟨ZqN,ZqO,.func (fnOf "all_tuples" "all_tuples" (defArgs ZaH) (defBody ZaH) (defScope ZaH) .none ZqP ZqQ ZqR ZqS Zi1 ZqT),ZqU⟩) (Zed:codeIn K Zi1 "all_tuples"=true) (Zcs:keepIn K (.ref Zgf)=true)
  (Zin:nsIn K mainGlobals "settle"=some (some (.ref Zlr))) (Zio:K.lookup Zlr=some ⟨ZtJ,ZtK,.func (fnOf "settle" "settle" (defArgs s_settle) (defBody s_settle) (defScope s_settle) .none ZtL ZtM ZtN ZtO ZnT ZtP),ZtQ⟩) (Ziq:codeIn K ZnT "settle"=true) (Zgg:keepIn K (.ref Zlr)=true)
  (ZgN:nsIn K mainGlobals "tree_of"=some (some (.ref ZjF))) (ZgO:K.lookup ZjF=some ⟨Ztg,Zth,.func (fnOf "tree_of" "tree_of" (defArgs s_tree_of) (defBody s_tree_of) (defScope s_tree_of) .none Zti Ztj Ztk Ztl Zmh Ztm),Ztn⟩) (ZgP:codeIn K Zmh "tree_of"=true) (Zfp:keepIn K (.ref ZjF)=true)
  (Zir:nsIn K mainGlobals "way_up"=some (some (.ref Zls))) (Zis:K.lookup Zls=some ⟨ZtR,ZtS,.func (fnOf "way_up" "way_up" (defArgs s_way_up) (defBody s_way_up) (defScope s_way_up) .none ZtT ZtU ZtV ZtW ZnU ZtX),ZtY⟩) (Zit:codeIn K ZnU "way_up"=true) (Zgh:keepIn K (.ref Zls)=true)
  (ZeW:nsIn K mainGlobals "fences_of"=some (some (.ref Zg1))) (ZeX:K.lookup Zg1=some ⟨ZrX,ZrY,.func (fnOf "fences_of" "fences_of" (defArgs s_fences_of) (defBody s_fences_of) (defScope s_fences_of) .none ZrZ Zr0 Zr1 Zr2 Zkt Zr3),Zr4⟩) (ZeY:codeIn K Zkt "fences_of"=true) (Zc7:keepIn K (.ref Zg1)=true)
  (Zb8:nsIn K mainGlobals "distance_list"=some (some (.ref Zes))) (Zb9:K.lookup Zes=some ⟨ZnV,ZnW,.func (fnOf "distance_list" "distance_list" (defArgs Z4) (defBody Z4) (defScope Z4) .none ZnX ZnY ZnZ Zn0 ZgQ Zn1),Zn2⟩) (Zca:codeIn K ZgQ "distance_list"=true) (ZaZ:keepIn K (.ref Zes)=true)
  (Zcb:nsIn K mainGlobals "row_distances"=some (some (.ref Zet))) (Zcc:K.lookup Zet=some ⟨Zn3,Zn4,.func (fnOf "row_distances" "row_distances" (defArgs Z5) (defBody Z5) (defScope Z5) .none Zn5 Zn6 Zn7 Zn8 ZgR Zn9),Zoa⟩) (Zcd:codeIn K ZgR "row_distances"=true) (Za0:keepIn K (.ref Zet)=true)
  (Zdr:nsIn K mainGlobals "seen_within"=some (some (.ref Zfs))) (Zds:K.lookup Zfs=some ⟨ZpL,ZpM,.func (fnOf "seen_within" "seen_within" (defArgs Zam) (defBody Zam) (defScope Zam) .none ZpN ZpO ZpP ZpQ Ziu ZpR),ZpS⟩) (Zdt:codeIn K Ziu "seen_within"=true) (ZbQ:keepIn K (.ref Zfs)=true)
  (ZcQ:nsIn K mainGlobals "stretch_keys"=some (some (.ref ZeZ))) (ZcR:K.lookup ZeZ=some ⟨Zox,Zoy,.func (fnOf "stretch_keys" "stretch_keys" (defArgs Zah) (defBody Zah) (defScope Zah) .none Zoz ZoA ZoB ZoC Zhm ZoD),ZoE⟩) (ZcS:codeIn K Zhm "stretch_keys"=true) (Zbs:keepIn K (.ref ZeZ)=true)
  (Ze0:nsIn K mainGlobals "groups_by"=some (some (.ref Zg2))) (Ze1:K.lookup Zg2=some ⟨Zr5,Zr6,.func (fnOf "groups_by" "groups_by" (defArgs Zbc) (defBody Zbc) (defScope Zbc) .none Zr7 Zr8 Zr9 Zsa Zku Zsb),Zsc⟩) (Ze2:codeIn K Zku "groups_by"=true) (Zc8:keepIn K (.ref Zg2)=true)
  (ZfU:nsIn K mainGlobals "twice_at"=some (some (.ref Ziv))) (ZfV:K.lookup Ziv=some ⟨ZsR,ZsS,.func (fnOf "twice_at" "twice_at" (defArgs ZbA) (defBody ZbA) (defScope ZbA) .none ZsT ZsU ZsV ZsW Zlt ZsX),ZsY⟩) (ZfW:codeIn K Zlt "twice_at"=true) (Zee:keepIn K (.ref Ziv)=true)
  (ZgS:nsIn K mainGlobals "longest"=some (some (.ref ZjG))) (ZgT:K.lookup ZjG=some ⟨Zto,Ztp,.func (fnOf "longest" "longest" (defArgs Zcx) (defBody Zcx) (defScope Zcx) .none Ztq Ztr Zts Ztt Zmi Ztu),Ztv⟩) (ZgU:codeIn K Zmi "longest"=true) (Zfq:keepIn K (.ref ZjG)=true)
  (Za1:nsIn K mainGlobals "longest_twice"=some (some (.ref Zce))) (Za2:K.lookup Zce=some ⟨Zob,Zoc,.func (fnOf "longest_twice" "longest_twice" (defArgs Z6) (defBody Z6) (defScope Z6) .none Zod Zoe Zof Zog ZdO Zoh),Zoi⟩) (Zcf:codeIn K ZdO "longest_twice"=true) (Za3:keepIn K (.ref Zce)=true)
  (ZbG:ZdO=.ref ZaP) (ZbH:K.lookup ZaP=some ⟨Zoj,Zok,.fields ZgV,Zol⟩) (ZbI:ZgV[11]?=some (.ref ZaQ)) (ZaR:PySem.W.codeHdIn K ZaP ZaQ=true) (ZbJ:K.lookup ZaQ=none) (ZbK:ZaQ∈ts)
  (Zdu:nsIn K mainGlobals "pairs_below"=some (some (.ref Zft))) (Zdv:K.lookup Zft=some ⟨ZpT,ZpU,.func (fnOf "pairs_below" "pairs_below" (defArgs Zan) (defBody Zan) (defScope Zan) .none ZpV ZpW ZpX ZpY Ziw ZpZ),Zp0⟩) (Zdw:codeIn K Ziw "pairs_below"=true) (ZbR:keepIn K (.ref Zft)=true)
  (Zdx:nsIn K mainGlobals "none_longer"=some (some (.ref Zfu))) (Zdy:K.lookup Zfu=some ⟨Zp1,Zp2,.func (fnOf "none_longer" "none_longer" (defArgs Zao) (defBody Zao) (defScope Zao) .none Zp3 Zp4 Zp5 Zp6 Zix Zp7),Zp8⟩) (Zdz:codeIn K Zix "none_longer"=true) (ZbS:keepIn K (.ref Zfu)=true)
  (Zef:nsIn K mainGlobals "none_right"=some (some (.ref Zgi))) (Zeg:K.lookup Zgi=some ⟨ZqV,ZqW,.func (fnOf "none_right" "none_right" (defArgs ZaI) (defBody ZaI) (defScope ZaI) .none ZqX ZqY ZqZ Zq0 Zi2 Zq1),Zq2⟩) (Zeh:codeIn K Zi2 "none_right"=true) (Zct:keepIn K (.ref Zgi)=true)
  (Ze3:nsIn K mainGlobals "_law_deal"=some (some (.ref Zg3))) (Ze4:K.lookup Zg3=some ⟨Zsd,Zse,.func (fnOf "_law_deal" "_law_deal" (defArgs Zbd) (defBody Zbd) (defScope Zbd) .none Zsf Zsg Zsh Zsi Zkv Zsj),Zsk⟩) (Ze5:codeIn K Zkv "_law_deal"=true) (Zc9:keepIn K (.ref Zg3)=true)
  (Ze6:nsIn K mainGlobals "_law_take"=some (some (.ref Zg4))) (Ze7:K.lookup Zg4=some ⟨Zsl,Zsm,.func (fnOf "_law_take" "_law_take" (defArgs Zbe) (defBody Zbe) (defScope Zbe) .none Zsn Zso Zsp Zsq Zkw Zsr),Zss⟩) (Ze8:codeIn K Zkw "_law_take"=true) (Zda:keepIn K (.ref Zg4)=true)
  (ZfX:nsIn K mainGlobals "_law_row"=some (some (.ref Ziy))) (ZfY:K.lookup Ziy=some ⟨ZsZ,Zs0,.func (fnOf "_law_row" "_law_row" (defArgs ZbB) (defBody ZbB) (defScope ZbB) .none Zs1 Zs2 Zs3 Zs4 Zlu Zs5),Zs6⟩) (ZfZ:codeIn K Zlu "_law_row"=true) (Zei:keepIn K (.ref Ziy)=true)
  (ZdA:nsIn K mainGlobals "_law_either"=some (some (.ref Zfv))) (ZdB:K.lookup Zfv=some ⟨Zp9,Zqa,.func (fnOf "_law_either" "_law_either" (defArgs Zap) (defBody Zap) (defScope Zap) .none Zqb Zqc Zqd Zqe Ziz Zqf),Zqg⟩) (ZdC:codeIn K Ziz "_law_either"=true) (ZbT:keepIn K (.ref Zfv)=true)
  (Zej:nsIn K mainGlobals "_law_least"=some (some (.ref Zgj))) (Zek:K.lookup Zgj=some ⟨Zq3,Zq4,.func (fnOf "_law_least" "_law_least" (defArgs ZaJ) (defBody ZaJ) (defScope ZaJ) .none Zq5 Zq6 Zq7 Zq8 Zi3 Zq9),Zra⟩) (Zel:codeIn K Zi3 "_law_least"=true) (Zcu:keepIn K (.ref Zgj)=true)
  (ZdD:nsIn K mainGlobals "_law_unlike"=some (some (.ref Zfw))) (ZdE:K.lookup Zfw=some ⟨Zqh,Zqi,.func (fnOf "_law_unlike" "_law_unlike" (defArgs Zaq) (defBody Zaq) (defScope Zaq) .none Zqj Zqk Zql Zqm ZiA Zqn),Zqo⟩) (ZdF:codeIn K ZiA "_law_unlike"=true) (ZbU:keepIn K (.ref Zfw)=true)
  (ZcT:nsIn K mainGlobals "_law_parting"=some (some (.ref Ze9))) (ZcU:K.lookup Ze9=some ⟨ZoF,ZoG,.func (fnOf "_law_parting" "_law_parting" (defArgs Zai) (defBody Zai) (defScope Zai) .none ZoH ZoI ZoJ ZoK Zhn ZoL),ZoM⟩) (ZcV:codeIn K Zhn "_law_parting"=true) (Zbt:keepIn K (.ref Ze9)=true)
  (Zfa:nsIn K mainGlobals "_law_twos"=some (some (.ref Zg5))) (Zfb:K.lookup Zg5=some ⟨Zst,Zsu,.func (fnOf "_law_twos" "_law_twos" (defArgs Zbf) (defBody Zbf) (defScope Zbf) .none Zsv Zsw Zsx Zsy Zkx Zsz),ZsA⟩) (Zfc:codeIn K Zkx "_law_twos"=true) (Zdb:keepIn K (.ref Zg5)=true)
  (Zem:nsIn K mainGlobals "_law_shows"=some (some (.ref Zgk))) (Zen:K.lookup Zgk=some ⟨Zrb,Zrc,.func (fnOf "_law_shows" "_law_shows" (defArgs ZaK) (defBody ZaK) (defScope ZaK) .none Zrd Zre Zrf Zrg Zi4 Zrh),Zri⟩) (Zeo:codeIn K Zi4 "_law_shows"=true) (Zcv:keepIn K (.ref Zgk)=true)
  (Zfd:nsIn K mainGlobals "_law_bent"=some (some (.ref Zg6))) (Zfe:K.lookup Zg6=some ⟨ZsB,ZsC,.func (fnOf "_law_bent" "_law_bent" (defArgs Zbg) (defBody Zbg) (defScope Zbg) .none ZsD ZsE ZsF ZsG Zky ZsH),ZsI⟩) (Zff:codeIn K Zky "_law_bent"=true) (Zdc:keepIn K (.ref Zg6)=true)
  (Zbu:nsIn K mainGlobals "_law_told_right"=some (some (.ref Zdd))) (Zbv:K.lookup Zdd=some ⟨Zmj,Zmk,.func (fnOf "_law_told_right" "_law_told_right" (defArgs ZP) (defBody ZP) (defScope ZP) .none Zml Zmm Zmn Zmo Zf0 Zmp),Zmq⟩) (Zbw:codeIn K Zf0 "_law_told_right"=true) (Zax:keepIn K (.ref Zdd)=true)
  (ZdG:nsIn K mainGlobals "_law_judged"=some (some (.ref Zfx))) (ZdH:K.lookup Zfx=some ⟨Zqp,Zqq,.func (fnOf "_law_judged" "_law_judged" (defArgs Zar) (defBody Zar) (defScope Zar) .none Zqr Zqs Zqt Zqu ZiB Zqv),Zqw⟩) (ZdI:codeIn K ZiB "_law_judged"=true) (ZbV:keepIn K (.ref Zfx)=true)
  (Zqx:nsIn K mainGlobals "law"=some (some (.ref Zs7))) (Zqy:K.lookup Zs7=some ⟨Zt0,Zt1,.func (fnOf "law" "law" (defArgs s_law) (defBody s_law) (defScope s_law) .none Ztw Ztx Zty Ztz Zqz ZtA),Zt2⟩) (ZqA:codeIn K Zqz "law"=true) (ZqB:keepIn K (.ref Zs7)=true)
  {C_DipError:Addr} (n_DipError:nsIn K mainGlobals "DipError"=some (some (.ref C_DipError))) (x_DipError:PySem.W.excIn K C_DipError bmV newV=true) (d_DipError:PySem.W.hasDictIn K C_DipError=true) (y_DipError:PySem.W.typeIn K (.ref C_DipError)=some (.type "type"))
  {C_Empty:Addr} (n_Empty:nsIn K mainGlobals "Empty"=some (some (.ref C_Empty))) (x_Empty:PySem.W.excIn K C_Empty bmV newV=true) (d_Empty:PySem.W.hasDictIn K C_Empty=true) (y_Empty:PySem.W.typeIn K (.ref C_Empty)=some (.type "type"))
  (ty_tuple:PySem.W.subIn K (.type "tuple") (.ref C_DipError)=some false)
  (ty_list:PySem.W.subIn K (.type "list") (.ref C_DipError)=some false)
  (b_all:nsIn K mainGlobals "all"=some none)
  (b_bool:nsIn K mainGlobals "bool"=some none)
  (b_enumerate:nsIn K mainGlobals "enumerate"=some none)
  (b_isinstance:nsIn K mainGlobals "isinstance"=some none)
  (b_len:nsIn K mainGlobals "len"=some none)
  (b_list:nsIn K mainGlobals "list"=some none)
  (b_max:nsIn K mainGlobals "max"=some none)
  (b_min:nsIn K mainGlobals "min"=some none)
  (b_range:nsIn K mainGlobals "range"=some none)
  (b_tuple:nsIn K mainGlobals "tuple"=some none)
  (b_zip:nsIn K mainGlobals "zip"=some none)
  (nd:[ZaQ].Nodup)
  : ∃fd:FuncData,(∀(s:Shared) (v:Value),BindsTo s fd ⟨[v],[]⟩ [("script",v)])/\(∀p∈tabsL K mg,p.1∈ts/\K.lookup p.1=none/\∃c,PySem.W.codeHdIn K c p.1=true)/\((tabsL K mg).map (·.1)).Nodup/\∀base:Heap,K.In base->base.Ns mainGlobals mg->BM mg base->FnOk l.prog w K mg base (CXE l.prog w) 11 fa fd ["script"] (spLaw K mg):=by
 have e:=hfa.symm.trans (mg_of X G Zqx)
 cases e
 have q_DipError:clsAt mg "DipError"=C_DipError:=by unfold clsAt;rw[mg_of X G n_DipError]
 have q_Empty:clsAt mg "Empty"=C_Empty:=by unfold clsAt;rw[mg_of X G n_Empty]
 have T:Txt K mg:={
  b_all:=mg_none_of X G b_all
  b_bool:=mg_none_of X G b_bool
  b_enumerate:=mg_none_of X G b_enumerate
  b_isinstance:=mg_none_of X G b_isinstance
  b_len:=mg_none_of X G b_len
  b_list:=mg_none_of X G b_list
  b_max:=mg_none_of X G b_max
  b_min:=mg_none_of X G b_min
  b_range:=mg_none_of X G b_range
  b_tuple:=mg_none_of X G b_tuple
  b_zip:=mg_none_of X G b_zip
  c_DipError:=by rw[q_DipError];exact mg_of X G n_DipError
  x_DipError:=by rw[q_DipError];exact x_DipError
  c_Empty:=by rw[q_Empty];exact mg_of X G n_Empty
  x_Empty:=by rw[q_Empty];exact x_Empty
  ty_tuple:=by rw[q_DipError];exact Zpz d_DipError y_DipError ty_tuple
  ty_list:=by rw[q_DipError];exact Zpz d_DipError y_DipError ty_list
 }
 subst ZbG
 have ZV:=ZrH (mg_of X G Za1) Za2 rfl ZbH ZbI
 have Zho:LamD K mg "longest_twice" Zce:=⟨ZaP,ZV.2,by rw[ZV.1];exact ZaR⟩
 have Zbx:=ZrA (st:=Zag) ZcO ZcP ZaC
 have ZiC:=Zbx.binds (ps:=["row","fewest"]) (ds:=[]) Zbr λ_ _ _ _ _ _ us hl=>by obtain⟨x0,u0,rfl,h0⟩:=le1 (show us.length=2 by simpa using hl);obtain⟨x1,u1,rfl,h1⟩:=le1 h0;obtain rfl:=le0 h1;exact⟨_,rfl,rfl⟩
 have Zhp:=Zbx.binds (ps:=["row","fewest"]) (ds:=[.int 1 Zer]) Zbr λ_ _ _ _ _ _ us hl=>by obtain⟨x0,u0,rfl,h0⟩:=le1 (show us.length=1 from Nat.succ.inj (YB.symm.trans hl));obtain rfl:=le0 h0;exact⟨_,rfl,rfl⟩
 have Zgl:=ZE (st:=ZaG) Zd8 Zd9 Zcr
 have Zkz:=Zgl.binds (ps:=["many","a","b"]) λ_ _ _ _ _ _ us hl=>by obtain⟨x0,u0,rfl,h0⟩:=le1 hl;obtain⟨x1,u1,rfl,h1⟩:=le1 h0;obtain⟨x2,u2,rfl,h2⟩:=le1 h1;obtain rfl:=le0 h2;exact rfl
 have Zlv:=ZE (st:=ZdM) Zik Zil Zge
 have ZqC:=Zlv.binds (ps:=["row","one","other"]) λ_ _ _ _ _ _ us hl=>by obtain⟨x0,u0,rfl,h0⟩:=le1 hl;obtain⟨x1,u1,rfl,h1⟩:=le1 h0;obtain⟨x2,u2,rfl,h2⟩:=le1 h1;obtain rfl:=le0 h2;exact rfl
 have Zg7:=ZE (st:=Zbb) ZeU ZeV Zc6
 have Zlw:=Zg7.binds (ps:=["row"]) λ_ _ _ _ _ _ us hl=>by obtain⟨x0,u0,rfl,h0⟩:=le1 hl;obtain rfl:=le0 h0;exact rfl
 have ZjH:=ZE (st:=Zcw) ZgL ZgM Zfo
 have Zom:=ZjH.binds (ps:=["ones","others","one","other","size"]) λ_ _ _ _ _ _ us hl=>by obtain⟨x0,u0,rfl,h0⟩:=le1 hl;obtain⟨x1,u1,rfl,h1⟩:=le1 h0;obtain⟨x2,u2,rfl,h2⟩:=le1 h1;obtain⟨x3,u3,rfl,h3⟩:=le1 h2;obtain⟨x4,u4,rfl,h4⟩:=le1 h3;obtain rfl:=le0 h4;exact rfl
 have ZiD:=ZE (st:=Zbz) ZfS ZfT Zea
 have Zmr:=ZiD.binds (ps:=["ones","others","one","other","a","b"]) λ_ _ _ _ _ _ us hl=>by obtain⟨x0,u0,rfl,h0⟩:=le1 hl;obtain⟨x1,u1,rfl,h1⟩:=le1 h0;obtain⟨x2,u2,rfl,h2⟩:=le1 h1;obtain⟨x3,u3,rfl,h3⟩:=le1 h2;obtain⟨x4,u4,rfl,h4⟩:=le1 h3;obtain⟨x5,u5,rfl,h5⟩:=le1 h4;obtain rfl:=le0 h5;exact rfl
 have Zgm:=ZE (st:=ZaH) Zec Zed Zcs
 have ZkA:=Zgm.binds (ps:=["entries"]) λ_ _ _ _ _ _ us hl=>by obtain⟨x0,u0,rfl,h0⟩:=le1 hl;obtain rfl:=le0 h0;exact rfl
 have Zlx:=ZE (st:=s_settle) Zio Ziq Zgg
 have ZqD:=Zlx.binds (ps:=["elders","spine","place","keep"]) λ_ _ _ _ _ _ us hl=>by obtain⟨x0,u0,rfl,h0⟩:=le1 hl;obtain⟨x1,u1,rfl,h1⟩:=le1 h0;obtain⟨x2,u2,rfl,h2⟩:=le1 h1;obtain⟨x3,u3,rfl,h3⟩:=le1 h2;obtain rfl:=le0 h3;exact rfl
 have ZjI:=ZE (st:=s_tree_of) ZgO ZgP Zfp
 have Zon:=ZjI.binds (ps:=["row"]) λ_ _ _ _ _ _ us hl=>by obtain⟨x0,u0,rfl,h0⟩:=le1 hl;obtain rfl:=le0 h0;exact rfl
 have Zly:=ZE (st:=s_way_up) Zis Zit Zgh
 have ZqE:=Zly.binds (ps:=["tree","place"]) λ_ _ _ _ _ _ us hl=>by obtain⟨x0,u0,rfl,h0⟩:=le1 hl;obtain⟨x1,u1,rfl,h1⟩:=le1 h0;obtain rfl:=le0 h1;exact rfl
 have Zg8:=ZE (st:=s_fences_of) ZeX ZeY Zc7
 have Zlz:=Zg8.binds (ps:=["tree"]) λ_ _ _ _ _ _ us hl=>by obtain⟨x0,u0,rfl,h0⟩:=le1 hl;obtain rfl:=le0 h0;exact rfl
 have Zeu:=ZE (st:=Z4) Zb9 Zca ZaZ
 have Zhq:=Zeu.binds (ps:=["tree"]) λ_ _ _ _ _ _ us hl=>by obtain⟨x0,u0,rfl,h0⟩:=le1 hl;obtain rfl:=le0 h0;exact rfl
 have Zev:=ZE (st:=Z5) Zcc Zcd Za0
 have Zhr:=Zev.binds (ps:=["row"]) λ_ _ _ _ _ _ us hl=>by obtain⟨x0,u0,rfl,h0⟩:=le1 hl;obtain rfl:=le0 h0;exact rfl
 have Zfy:=ZE (st:=Zam) Zds Zdt ZbQ
 have Zi5:=Zfy.binds (ps:=["distance","size"]) λ_ _ _ _ _ _ us hl=>by obtain⟨x0,u0,rfl,h0⟩:=le1 hl;obtain⟨x1,u1,rfl,h1⟩:=le1 h0;obtain rfl:=le0 h1;exact rfl
 have Zfg:=ZE (st:=Zah) ZcR ZcS Zbs
 have ZiE:=Zfg.binds (ps:=["told","size"]) λ_ _ _ _ _ _ us hl=>by obtain⟨x0,u0,rfl,h0⟩:=le1 hl;obtain⟨x1,u1,rfl,h1⟩:=le1 h0;obtain rfl:=le0 h1;exact rfl
 have Zg9:=ZE (st:=Zbc) Ze1 Ze2 Zc8
 have ZlA:=Zg9.binds (ps:=["told","size"]) λ_ _ _ _ _ _ us hl=>by obtain⟨x0,u0,rfl,h0⟩:=le1 hl;obtain⟨x1,u1,rfl,h1⟩:=le1 h0;obtain rfl:=le0 h1;exact rfl
 have ZiF:=ZE (st:=ZbA) ZfV ZfW Zee
 have Zms:=ZiF.binds (ps:=["told","size"]) λ_ _ _ _ _ _ us hl=>by obtain⟨x0,u0,rfl,h0⟩:=le1 hl;obtain⟨x1,u1,rfl,h1⟩:=le1 h0;obtain rfl:=le0 h1;exact rfl
 have ZjJ:=ZE (st:=Zcx) ZgT ZgU Zfq
 have Zoo:=ZjJ.binds (ps:=["most","pair_at"]) λ_ _ _ _ _ _ us hl=>by obtain⟨x0,u0,rfl,h0⟩:=le1 hl;obtain⟨x1,u1,rfl,h1⟩:=le1 h0;obtain rfl:=le0 h1;exact rfl
 have Zew:=ZE (st:=Z6) Za2 Zcf Za3
 have Zhs:=Zew.binds (ps:=["row"]) λ_ _ _ _ _ _ us hl=>by obtain⟨x0,u0,rfl,h0⟩:=le1 hl;obtain rfl:=le0 h0;exact rfl
 have Zfz:=ZE (st:=Zan) Zdv Zdw ZbR
 have Zi6:=Zfz.binds (ps:=["many"]) λ_ _ _ _ _ _ us hl=>by obtain⟨x0,u0,rfl,h0⟩:=le1 hl;obtain rfl:=le0 h0;exact rfl
 have ZfA:=ZE (st:=Zao) Zdy Zdz ZbS
 have Zi7:=ZfA.binds (ps:=["row"]) λ_ _ _ _ _ _ us hl=>by obtain⟨x0,u0,rfl,h0⟩:=le1 hl;obtain rfl:=le0 h0;exact rfl
 have Zgn:=ZE (st:=ZaI) Zeg Zeh Zct
 have ZkB:=Zgn.binds (ps:=["row","size","shown"]) λ_ _ _ _ _ _ us hl=>by obtain⟨x0,u0,rfl,h0⟩:=le1 hl;obtain⟨x1,u1,rfl,h1⟩:=le1 h0;obtain⟨x2,u2,rfl,h2⟩:=le1 h1;obtain rfl:=le0 h2;exact rfl
 have Zha:=ZE (st:=Zbd) Ze4 Ze5 Zc9
 have ZlB:=Zha.binds (ps:=["script","k"]) λ_ _ _ _ _ _ us hl=>by obtain⟨x0,u0,rfl,h0⟩:=le1 hl;obtain⟨x1,u1,rfl,h1⟩:=le1 h0;obtain rfl:=le0 h1;exact rfl
 have Zhb:=ZE (st:=Zbe) Ze7 Ze8 Zda
 have ZlC:=Zhb.binds (ps:=["pot","many"]) λ_ _ _ _ _ _ us hl=>by obtain⟨x0,u0,rfl,h0⟩:=le1 hl;obtain⟨x1,u1,rfl,h1⟩:=le1 h0;obtain rfl:=le0 h1;exact rfl
 have ZiG:=ZE (st:=ZbB) ZfY ZfZ Zei
 have Zmt:=ZiG.binds (ps:=["pot","most"]) λ_ _ _ _ _ _ us hl=>by obtain⟨x0,u0,rfl,h0⟩:=le1 hl;obtain⟨x1,u1,rfl,h1⟩:=le1 h0;obtain rfl:=le0 h1;exact rfl
 have ZfB:=ZE (st:=Zap) ZdB ZdC ZbT
 have Zi8:=ZfB.binds (ps:=["pot","some"]) λ_ _ _ _ _ _ us hl=>by obtain⟨x0,u0,rfl,h0⟩:=le1 hl;obtain⟨x1,u1,rfl,h1⟩:=le1 h0;obtain rfl:=le0 h1;exact rfl
 have Zgo:=ZE (st:=ZaJ) Zek Zel Zcu
 have ZkC:=Zgo.binds (ps:=["row","a","b"]) λ_ _ _ _ _ _ us hl=>by obtain⟨x0,u0,rfl,h0⟩:=le1 hl;obtain⟨x1,u1,rfl,h1⟩:=le1 h0;obtain⟨x2,u2,rfl,h2⟩:=le1 h1;obtain rfl:=le0 h2;exact rfl
 have ZfC:=ZE (st:=Zaq) ZdE ZdF ZbU
 have Zi9:=ZfC.binds (ps:=["row","size","entry"]) λ_ _ _ _ _ _ us hl=>by obtain⟨x0,u0,rfl,h0⟩:=le1 hl;obtain⟨x1,u1,rfl,h1⟩:=le1 h0;obtain⟨x2,u2,rfl,h2⟩:=le1 h1;obtain rfl:=le0 h2;exact rfl
 have Zfh:=ZE (st:=Zai) ZcU ZcV Zbt
 have ZiH:=Zfh.binds (ps:=["row","size","one","other"]) λ_ _ _ _ _ _ us hl=>by obtain⟨x0,u0,rfl,h0⟩:=le1 hl;obtain⟨x1,u1,rfl,h1⟩:=le1 h0;obtain⟨x2,u2,rfl,h2⟩:=le1 h1;obtain⟨x3,u3,rfl,h3⟩:=le1 h2;obtain rfl:=le0 h3;exact rfl
 have Zhc:=ZE (st:=Zbf) Zfb Zfc Zdb
 have ZlD:=Zhc.binds (ps:=["row","size"]) λ_ _ _ _ _ _ us hl=>by obtain⟨x0,u0,rfl,h0⟩:=le1 hl;obtain⟨x1,u1,rfl,h1⟩:=le1 h0;obtain rfl:=le0 h1;exact rfl
 have Zgp:=ZE (st:=ZaK) Zen Zeo Zcv
 have ZkD:=Zgp.binds (ps:=["row","size","shown"]) λ_ _ _ _ _ _ us hl=>by obtain⟨x0,u0,rfl,h0⟩:=le1 hl;obtain⟨x1,u1,rfl,h1⟩:=le1 h0;obtain⟨x2,u2,rfl,h2⟩:=le1 h1;obtain rfl:=le0 h2;exact rfl
 have Zhd:=ZE (st:=Zbg) Zfe Zff Zdc
 have ZlE:=Zhd.binds (ps:=["pot","shown"]) λ_ _ _ _ _ _ us hl=>by obtain⟨x0,u0,rfl,h0⟩:=le1 hl;obtain⟨x1,u1,rfl,h1⟩:=le1 h0;obtain rfl:=le0 h1;exact rfl
 have Zde:=ZE (st:=ZP) Zbv Zbw Zax
 have Zgq:=Zde.binds (ps:=["row","shown","size"]) λ_ _ _ _ _ _ us hl=>by obtain⟨x0,u0,rfl,h0⟩:=le1 hl;obtain⟨x1,u1,rfl,h1⟩:=le1 h0;obtain⟨x2,u2,rfl,h2⟩:=le1 h1;obtain rfl:=le0 h2;exact rfl
 have ZfD:=ZE (st:=Zar) ZdH ZdI ZbV
 have Zja:=ZfD.binds (ps:=["pot","row","size","shown"]) λ_ _ _ _ _ _ us hl=>by obtain⟨x0,u0,rfl,h0⟩:=le1 hl;obtain⟨x1,u1,rfl,h1⟩:=le1 h0;obtain⟨x2,u2,rfl,h2⟩:=le1 h1;obtain⟨x3,u3,rfl,h3⟩:=le1 h2;obtain rfl:=le0 h3;exact rfl
 have ZtZ:=ZE (st:=s_law) Zqy ZqA ZqB
 refine⟨fnOf "law" "law" (defArgs s_law) (defBody s_law) (defScope s_law) .none Ztw Ztx Zty Ztz Zqz ZtA,λs v=>.of_eq rfl,?tb,?nd,λbase _ _ B=>?_⟩
 case tb =>
  intro p hp
  unfold tabsL at hp
  simp only[Yk,List.not_mem_nil,or_false]at hp
  subst hp
  ·exact⟨by rw[ZV.1];exact ZbK,by rw[ZV.1];exact ZbJ,ZaP,by rw[ZV.1];exact ZaR⟩
 case nd =>
  unfold tabsL
  simp only[YG,List.map_nil]
  rw[ZV.1]
  exact nd
 have ZcM:Callee l.prog w K mg base "need_numbers" 1 ["row","fewest"] (ZaX K mg):=⟨_,_,mg_of X G Zbq,ZaC,ZiC,Zeq Zbx T⟩
 have ZoN:ZrB l.prog w K mg base "need_numbers" 1 ["row","fewest"] [V.int 1] (ZaX K mg):=⟨_,_,_,mg_of X G Zbq,ZaC,Zhp,.cons ⟨_,rfl⟩ .nil,Zeq Zbx T⟩
 have Zif:Callee l.prog w K mg base "settle" 1 ["elders","spine","place","keep"] (sp_settle K mg):=⟨_,_,mg_of X G Zin,Zgg,ZqD,ok_settle Zlx T⟩
 have ZgH:Callee l.prog w K mg base "tree_of" 2 ["row"] (sp_tree_of K mg):=⟨_,_,mg_of X G ZgN,Zfp,Zon,ok_tree_of ZjI Zif T⟩
 have Zig:Callee l.prog w K mg base "way_up" 1 ["tree","place"] (sp_way_up K mg):=⟨_,_,mg_of X G Zir,Zgh,ZqE,ok_way_up Zly T⟩
 have ZeP:Callee l.prog w K mg base "fences_of" 2 ["tree"] (sp_fences_of K mg):=⟨_,_,mg_of X G ZeW,Zc7,Zlz,ok_fences_of Zg8 Zig T⟩
 have Zb6:Callee l.prog w K mg base "distance_list" 3 ["tree"] (ZbC K mg):=⟨_,_,mg_of X G Zb8,ZaZ,Zhq,ZgE Zeu ZeP T⟩
 have Zb7:Callee l.prog w K mg base "row_distances" 4 ["row"] (ZbD K mg):=⟨_,_,mg_of X G Zcb,Za0,Zhr,ZgF Zev ZgH Zb6 T⟩
 have Zdq:Callee l.prog w K mg base "seen_within" 1 ["distance","size"] (ZcF K mg):=⟨_,_,mg_of X G Zdr,ZbQ,Zi5,Zh4 Zfy T⟩
 have ZcL:Callee l.prog w K mg base "stretch_keys" 2 ["told","size"] (Zb3 K mg):=⟨_,_,mg_of X G ZcQ,Zbs,ZiE,Zhi Zfg Zdq T⟩
 have ZeQ:Callee l.prog w K mg base "groups_by" 3 ["told","size"] (Zd1 K mg):=⟨_,_,mg_of X G Ze0,Zc8,ZlA,Zkl Zg9 ZcL T⟩
 have ZfO:Callee l.prog w K mg base "twice_at" 4 ["told","size"] (ZeL K mg):=⟨_,_,mg_of X G ZfU,Zee,Zms,Zlk ZiF ZeQ T⟩
 have ZgI:Callee l.prog w K mg base "longest" 8 ["most","pair_at"] (ZfK l.prog w K mg base):=⟨_,_,mg_of X G ZgS,Zfq,Zoo,Zmc ZjJ T⟩
 have Z7:Callee l.prog w K mg base "longest_twice" 9 ["row"] (ZaM K mg):=⟨_,_,mg_of X G Za1,Za3,Zhs,ZgG Zew ZcM Zb7 ZfO ZgI Zho B T⟩
 have Zih:Callee l.prog w K mg base "lesser" 1 ["row","one","other"] (ZgB K mg):=⟨_,_,mg_of X G Zij,Zge,ZqC,ZnQ Zlv T⟩
 have Zbi:Callee l.prog w K mg base "low_steps" 2 ["row"] (Zcn K mg):=⟨_,_,mg_of X G ZeT,Zc6,Zlw,Zkn Zg7 Zih T⟩
 have ZgJ:Callee l.prog w K mg base "parting" 1 ["ones","others","one","other","size"] (ZfL K mg):=⟨_,_,mg_of X G ZgK,Zfo,Zom,Zmd ZjH T⟩
 have Zat:Callee l.prog w K mg base "pairs_below" 1 ["many"] (Zbm K mg):=⟨_,_,mg_of X G Zdu,ZbR,Zi6,Zia Zfz T⟩
 have ZbP:Callee l.prog w K mg base "none_longer" 10 ["row"] (ZcG K mg):=⟨_,_,mg_of X G Zdx,ZbS,Zi7,Zic ZfA Zbi ZgJ Z7 Zat T⟩
 have ZeR:Callee l.prog w K mg base "_law_deal" 1 ["script","k"] (Zd0 K mg):=⟨_,_,mg_of X G Ze3,Zc9,ZlB,Zkj Zha T⟩
 have Zn:Callee l.prog w K mg base "_law_take" 1 ["pot","many"] (ZaL K mg):=⟨_,_,mg_of X G Ze6,Zda,ZlC,Zkk Zhb T⟩
 have ZfQ:Callee l.prog w K mg base "_law_row" 2 ["pot","most"] (sp__law_row K mg):=⟨_,_,mg_of X G ZfX,Zei,Zmt,Zlh ZiG Zn T⟩
 have Zac:Callee l.prog w K mg base "_law_either" 2 ["pot","some"] (Zbk K mg):=⟨_,_,mg_of X G ZdA,ZbT,Zi8,Zid ZfB Zn T⟩
 have Zbh:Callee l.prog w K mg base "_law_twos" 1 ["row","size"] (Zco K mg):=⟨_,_,mg_of X G Zfa,Zdb,ZlD,Zkq Zhc T⟩
 have Zc5:Callee l.prog w K mg base "_law_bent" 2 ["pot","shown"] (Zd2 K mg):=⟨_,_,mg_of X G Zfd,Zdc,ZlE,Zkr Zhd Zn T⟩
 have Zcq:Callee l.prog w K mg base "_law_least" 1 ["row","a","b"] (Zdm K mg):=⟨_,_,mg_of X G Zej,Zcu,ZkC,ZiX Zgo T⟩
 have Zas:Callee l.prog w K mg base "_law_unlike" 2 ["row","size","entry"] (Zbn K mg):=⟨_,_,mg_of X G ZdD,ZbU,Zi9,Zib ZfC Zcq T⟩
 have ZcN:Callee l.prog w K mg base "_law_parting" 3 ["row","size","one","other"] (ZaY K mg):=⟨_,_,mg_of X G ZcT,Zbt,ZiH,Zhj Zfh Zas T⟩
 have ZaO:Callee l.prog w K mg base "_law_shows" 3 ["row","size","shown"] (ZbO K mg):=⟨_,_,mg_of X G Zem,Zcv,ZkD,ZiY Zgp Zas Zbh T⟩
 have Zbp:Callee l.prog w K mg base "_law_told_right" 4 ["row","shown","size"] (Za6 K mg):=⟨_,_,mg_of X G Zbu,Zax,Zgq,ZfN Zde ZcN ZaO T⟩
 have Zd4:Callee l.prog w K mg base "is_stretch" 1 ["many","a","b"] (Zdk K mg):=⟨_,_,mg_of X G Zd7,Zcr,Zkz,ZiW Zgl T⟩
 have ZfP:Callee l.prog w K mg base "parts_at" 1 ["ones","others","one","other","a","b"] (ZeM K mg):=⟨_,_,mg_of X G ZfR,Zea,Zmr,Zlo ZiD T⟩
 have Zd5:Callee l.prog w K mg base "all_tuples" 1 ["entries"] (Zdl K mg):=⟨_,_,mg_of X G Zeb,Zcs,ZkA,ZiV Zgm T⟩
 have Zd6:Callee l.prog w K mg base "none_right" 3 ["row","size","shown"] (Zdn K mg):=⟨_,_,mg_of X G Zef,Zct,ZkB,ZiZ Zgn Zd4 Zbi ZfP Zd5 Zat T⟩
 have Zau:Callee l.prog w K mg base "_law_judged" 4 ["pot","row","size","shown"] (ZcH K mg):=⟨_,_,mg_of X G ZdG,ZbV,Zja,Zie ZfD Zd6 Zac ZaO T⟩
 exact ok_law ZtZ Z7 ZbP ZeR Zn ZfQ Zac Zbh Zc5 Zbp Zau T
theorem walk {l:PySem.W.OpenLaw}{q:Program}{loose:List Str}{XP:(Str->Option Value)->Heap->Prop}{YP:World->Heap->Prop}{d:DefRec}{K:Params->PySem.W.Frag}{ts:List Addr} (hn:l.most=some 63) (hdf:d.params.defaults=[])
  (hY:∀(w:World) (h:Heap),YP w h->(K w.params).In h) (hY2:∀(w:World) (h:Heap),YP w h->∀P∈ts,h.get? P=some (PySem.W.tabObj #[]))
  (F:∀(w:World) (mg:Str->Option Value) (fa:Addr) (h:Heap),(K w.params).In h->h.Ns mainGlobals mg->mg d.name=some (.ref fa) ->
   ∃fd:FuncData,(∀(s:Shared) (u:Value),BindsTo s fd ⟨[u],[]⟩ [("script",u)])/\(∀p∈tabsL (K w.params) mg,p.1∈ts/\(K w.params).lookup p.1=none/\∃c,PySem.W.codeHdIn (K w.params) c p.1=true)/\((tabsL (K w.params) mg).map (·.1)).Nodup/\∀base:Heap,(K w.params).In base->base.Ns mainGlobals mg->BM mg base->FnOk l.prog w (K w.params) mg base (CXE l.prog w) 11 fa fd ["script"] (spLaw (K w.params) mg)) :
  PySem.W.WalkO q loose XP YP l.row.toRowW d [] (λf vs=>PySem.call f vs) :=
 L2.Zpw (n:=63) (k:=11) (x:="script") (ts:=ts) (tabs:=tabsL) (CX:=λw=>CXE l.prog w) (sp:=λw mg=>spLaw (K w.params) mg) hn (by decide) hdf ⟨rfl,by decide,by decide⟩ hY hY2 F (λ_ _ _ a ns hl hS hT=>⟨a,ns,rfl,hS,hl,hT,λ_=>rfl⟩) λ_ _ _ _ _ ⟨_,_,_,_,_,_,_,z⟩=>z
end K48
def PySem.W.Fast.tw8314890727675639499:Unit:=()
def PySem.W.Fast.tw481675692473511457:Unit:=()
def PySem.W.Fast.tw14089545150347688225:Unit:=()
def PySem.W.Fast.tw16108320786354762286:Unit:=()
def PySem.W.Fast.tw4923290885637922143:Unit:=()
def PySem.W.Fast.tw607526866414272018:Unit:=()
def PySem.W.Fast.tw17154349388615048556:Unit:=()
def PySem.W.Fast.tw1225136375040107316:Unit:=()
def PySem.W.Fast.tw186202340943608603:Unit:=()
def PySem.W.Fast.tw1968562459008285620:Unit:=()
def PySem.W.Fast.tw13506636813273423346:Unit:=()
def PySem.W.Fast.tw11125751690141581895:Unit:=()
def PySem.W.Fast.tw13626515717479335182:Unit:=()
def PySem.W.Fast.tw2955440307276454632:Unit:=()
def PySem.W.Fast.tw16837651035982695387:Unit:=()
def PySem.W.Fast.tw13904357900264836291:Unit:=()
def PySem.W.Fast.tw16997930540987304315:Unit:=()
def PySem.W.Fast.tw2014579286366936624:Unit:=()
def PySem.W.Fast.tw11536506926213947019:Unit:=()
def PySem.W.Fast.tw546118396699767137:Unit:=()
def PySem.W.Fast.tw11807384772862837915:Unit:=()
def PySem.W.Fast.tw6221487620724235036:Unit:=()
def PySem.W.Fast.tw7003370538488044891:Unit:=()
def PySem.W.Fast.tw8330565360104544954:Unit:=()
def PySem.W.Fast.tw237224666154824472:Unit:=()
def PySem.W.Fast.tw4078370802523412343:Unit:=()
def PySem.W.Fast.tw17377148161591860781:Unit:=()
def PySem.W.Fast.tw5139479341529482124:Unit:=()
def PySem.W.Fast.tw10882842721631637148:Unit:=()
def PySem.W.Fast.tw14399942639827928182:Unit:=()
def PySem.W.Fast.tw18044359548009912876:Unit:=()
def PySem.W.Fast.tw8889918972214471053:Unit:=()
def PySem.W.Fast.tw9451064508805640486:Unit:=()
def PySem.W.Fast.tw13020005660519215358:Unit:=()
def PySem.W.Fast.tw4056673312949388097:Unit:=()
def PySem.W.Fast.tw11926543735489458100:Unit:=()
def PySem.W.Fast.tw13828380186294198308:Unit:=()
def PySem.W.Fast.tw14413889438919468960:Unit:=()
def PySem.W.Fast.tw12686139313398550902:Unit:=()
def PySem.W.Fast.tw4174654197350107799:Unit:=()
def PySem.W.Fast.tw1809423968895545394:Unit:=()
def PySem.W.Fast.tw9092909512644858201:Unit:=()
def PySem.W.Fast.tw9343266792758311530:Unit:=()
def PySem.W.Fast.tw814860339061669845:Unit:=()
def PySem.W.Fast.tw2894457671374512624:Unit:=()
def PySem.W.Fast.tw9102956016691797516:Unit:=()
def PySem.W.Fast.tw5061019116333981005:Unit:=()
def PySem.W.Fast.tw7159114027085830698:Unit:=()
def PySem.W.Fast.tw8117249099206321419:Unit:=()
def PySem.W.Fast.tw15922170554251002414:Unit:=()
def PySem.W.Fast.tw920299658522496924:Unit:=()
def PySem.W.Fast.tw7004002160748903928:Unit:=()
def PySem.W.Fast.tw6542590138955777703:Unit:=()
def PySem.W.Fast.tw9329504804000051799:Unit:=()
def PySem.W.Fast.tw15104110390006265986:Unit:=()
def PySem.W.Fast.tw3352478938036144691:Unit:=()
def PySem.W.Fast.tw3079584288077693096:Unit:=()
def PySem.W.Fast.tw15126474855529648366:Unit:=()
def PySem.W.Fast.tw971669389637899717:Unit:=()
def PySem.W.Fast.tw9238924859307425438:Unit:=()
def PySem.W.Fast.tw7102736064058072918:Unit:=()
def PySem.W.Fast.tw14430899514352361313:Unit:=()
def PySem.W.Fast.tw4763142523572469541:Unit:=()
def PySem.W.Fast.tw3161205105137110447:Unit:=()
def PySem.W.Fast.tw9370635600440570439:Unit:=()
def PySem.W.Fast.tw16416861556879117927:Unit:=()
def PySem.W.Fast.tw2468023113890413940:Unit:=()
def PySem.W.Fast.tw4890315657056865929:Unit:=()
def PySem.W.Fast.tw565507632762703055:Unit:=()
def PySem.W.Fast.tw16543617123222002479:Unit:=()
def PySem.W.Fast.tw2505972244307488534:Unit:=()
def PySem.W.Fast.tw10353644299669642902:Unit:=()
def PySem.W.Fast.tw9072853630025966574:Unit:=()
def PySem.W.Fast.tw10585123414778451458:Unit:=()
def PySem.W.Fast.tw16384700350157141700:Unit:=()
def PySem.W.Fast.tw14462251641858089397:Unit:=()
def PySem.W.Fast.tw2900547229596676840:Unit:=()
def PySem.W.Fast.tw11180959957357609917:Unit:=()
def PySem.W.Fast.tw14447775402723453827:Unit:=()
def PySem.W.Fast.tw2751523688308319821:Unit:=()
def PySem.W.Fast.tw13020434964371119990:Unit:=()
def PySem.W.Fast.tw11816946858129182476:Unit:=()
def PySem.W.Fast.tw1896347175834795727:Unit:=()
def PySem.W.Fast.tw17114707502535806565:Unit:=()
def PySem.W.Fast.tw3467483048083247787:Unit:=()
def PySem.W.Fast.tw17574143766144872638:Unit:=()
open PySem PySem.W PyProof.Rows
set_option maxRecDepth 100000 in
set_option maxHeartbeats 0 in
theorem PySem.Challenge.cw_dipkin_k48_none_longer_shown_holds : PySem.Challenge.rw_dipkin_k48_none_longer_shown.Holds := by
 w_on;o_law;k_head;(case hw=>w_witness2)
 k_fill
 refine K48.walk (l:=PySem.Challenge.rw_dipkin_k48_none_longer_shown) rfl rfl (λw h Y=>PySem.W.km_in_of Y) (λw h Y=>PySem.W.km_tabs_of Y) ?F
 case F =>
  intro w mg fa h KX G hmg
  refine' K48.all_mk KX G hmg ?Zbq ?ZcO ?ZcP ?ZaC ?Zbr ?Zd7 ?Zd8 ?Zd9 ?Zcr ?Zij ?Zik ?Zil ?Zge ?ZeT ?ZeU ?ZeV ?Zc6 ?ZgK ?ZgL ?ZgM ?Zfo ?ZfR ?ZfS ?ZfT ?Zea ?Zeb ?Zec ?Zed ?Zcs ?Zin ?Zio ?Ziq ?Zgg ?ZgN ?ZgO ?ZgP ?Zfp ?Zir ?Zis ?Zit ?Zgh ?ZeW ?ZeX ?ZeY ?Zc7 ?Zb8 ?Zb9 ?Zca ?ZaZ ?Zcb ?Zcc ?Zcd ?Za0 ?Zdr ?Zds ?Zdt ?ZbQ ?ZcQ ?ZcR ?ZcS ?Zbs ?Ze0 ?Ze1 ?Ze2 ?Zc8 ?ZfU ?ZfV ?ZfW ?Zee ?ZgS ?ZgT ?ZgU ?Zfq ?Za1 ?Za2 ?Zcf ?Za3 ?ZbG ?ZbH ?ZbI ?ZaR ?ZbJ ?ZbK ?Zdu ?Zdv ?Zdw ?ZbR ?Zdx ?Zdy ?Zdz ?ZbS ?Zef ?Zeg ?Zeh ?Zct ?Ze3 ?Ze4 ?Ze5 ?Zc9 ?Ze6 ?Ze7 ?Ze8 ?Zda ?ZfX ?ZfY ?ZfZ ?Zei ?ZdA ?ZdB ?ZdC ?ZbT ?Zej ?Zek ?Zel ?Zcu ?ZdD ?ZdE ?ZdF ?ZbU ?ZcT ?ZcU ?ZcV ?Zbt ?Zfa ?Zfb ?Zfc ?Zdb ?Zem ?Zen ?Zeo ?Zcv ?Zfd ?Zfe ?Zff ?Zdc ?Zbu ?Zbv ?Zbw ?Zax ?ZdG ?ZdH ?ZdI ?ZbV ?Zqx ?Zqy ?ZqA ?ZqB ?n_DipError ?x_DipError ?d_DipError ?y_DipError ?n_Empty ?x_Empty ?d_Empty ?y_Empty ?ty_tuple ?ty_list ?b_all ?b_bool ?b_enumerate ?b_isinstance ?b_len ?b_list ?b_max ?b_min ?b_range ?b_tuple ?b_zip ?nd
  (case Zbq|ZcO|ZcP|ZaC|Zbr|Zd7|Zd8|Zd9|Zcr|Zij|Zik|Zil|Zge|ZeT|ZeU|ZeV|Zc6|ZgK|ZgL|ZgM|Zfo|ZfR|ZfS|ZfT|Zea|Zeb|Zec|Zed|Zcs|Zin|Zio|Ziq|Zgg|ZgN|ZgO|ZgP|Zfp|Zir|Zis|Zit|Zgh|ZeW|ZeX|ZeY|Zc7|Zb8|Zb9|Zca|ZaZ|Zcb|Zcc|Zcd|Za0|Zdr|Zds|Zdt|ZbQ|ZcQ|ZcR|ZcS|Zbs|Ze0|Ze1|Ze2|Zc8|ZfU|ZfV|ZfW|Zee|ZgS|ZgT|ZgU|Zfq|Za1|Za2|Zcf|Za3=>k_is)
  (case ZbG=>exact rfl)
  (case ZbH=>k_is)
  (case ZbI=>exact rfl)
  (case ZaR=>kernel_rfl)
  (case ZbJ=>kernel_rfl)
  (case ZbK=>decide)
  (case Zdu|Zdv|Zdw|ZbR|Zdx|Zdy|Zdz|ZbS|Zef|Zeg|Zeh|Zct|Ze3|Ze4|Ze5|Zc9|Ze6|Ze7|Ze8|Zda|ZfX|ZfY|ZfZ|Zei|ZdA|ZdB|ZdC|ZbT|Zej|Zek|Zel|Zcu|ZdD|ZdE|ZdF|ZbU|ZcT|ZcU|ZcV|Zbt|Zfa|Zfb|Zfc|Zdb|Zem|Zen|Zeo|Zcv|Zfd|Zfe|Zff|Zdc|Zbu|Zbv|Zbw|Zax|ZdG|ZdH|ZdI|ZbV|Zqx|Zqy|ZqA|ZqB|n_DipError=>k_is)
  (case x_DipError=>k_exc)
  (case d_DipError|y_DipError|n_Empty=>k_is)
  (case x_Empty=>k_exc)
  (case d_Empty|y_Empty|ty_tuple|ty_list|b_all|b_bool|b_enumerate|b_isinstance|b_len|b_list|b_max|b_min|b_range|b_tuple|b_zip=>k_is)
  (case nd=>decide)
