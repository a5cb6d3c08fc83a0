import PyProof.Rows.All
import Wide.All
import OpenK.AllK
import Wide.FinOn
import Lean
import PyProof.EqAt
import PyProof.EqKinds
import PyProof.TupleCall
import PyProof.MeetsSeq
import PyProof.NeKinds
import PyProof.TupleOfSeq
import PyProof.ListRange
import PyProof.TupleOfGen
import PyProof.ZipIter
import KE.KRevIter
import PyProof.StrWalks
import PyProof.StrBlock2
import PyProof.MeetsStr
import PyProof.StrCalls2
import PyProof.StrLawsIn
import KE.KIntText
import PyProof.StrLawsTight
import PyProof.StrLawsChain
import PyProof.StrLawsAffix
import PyProof.Rows.StrItems
import PyProof.Rows.ReprOcc
import KE.KDictSum
import PyProof.Rows.SeqMore
import KE.KDictList
import KE.KStateDown
import PyProof.StrBlockI
import PyProof.FactsAll.NoneType_1
import PyProof.FString2
import PySem.Challenge.RW_dipkin_k49_whole_watched_sought_and_grou
set_option Elab.async false
set_option linter.all false
set_option maxRecDepth 100000
set_option maxHeartbeats 4000000
set_option genSizeOfSpec false
local macro_rules | `(tactic| omega) => `(tactic| first | lia | omega (config := {}))
section
open PySem PySem.Spec PyProof.Rows
noncomputable abbrev Ya:=@wpAny_bind
noncomputable abbrev Yb:=@if_neg
noncomputable abbrev Yc:=@wpAny_pure
noncomputable abbrev Yd:=@if_pos
noncomputable abbrev Ye:=@Nat.le_refl
noncomputable abbrev Yf:=@List.length_map
noncomputable abbrev Yg:=@List.getElem?_eq_getElem
noncomputable abbrev Yh:=@Heap.lt_size
noncomputable abbrev Yi:=@Heap.get?_push_of_some
noncomputable abbrev Yj:=@Nat.le_trans
noncomputable abbrev Yk:=@List.mem_cons
noncomputable abbrev Yl:=@Heap.get?_push_size
noncomputable abbrev Ym:=@List.size_toArray
noncomputable abbrev Yn:=@PySem.boot_len
noncomputable abbrev Yo:=@Nat.ne_of_lt
noncomputable abbrev Yp:=@List.getElem?_map
noncomputable abbrev Yq:=@Option.some.inj
noncomputable abbrev Yr:=@Nat.zero_le
noncomputable abbrev Ys:=@Bool.false_ne_true
noncomputable abbrev Yt:=@Nat.lt_of_lt_of_le
noncomputable abbrev Yu:=@List.getElem?_eq_some_iff
noncomputable abbrev Yv:=@Nat.lt_of_le_of_lt
noncomputable abbrev Yw:=@List.getD_eq_getElem?_getD
noncomputable abbrev Yx:=@Nat.lt_irrefl
noncomputable abbrev Yy:=@List.mem_append
noncomputable abbrev Yz:=@List.getElem_mem
noncomputable abbrev YA:=@List.mem_range
noncomputable abbrev YB:=@List.map_append
noncomputable abbrev YC:=@List.mem_append_right
noncomputable abbrev YD:=@List.map_cons
noncomputable abbrev YE:=@List.length_append
noncomputable abbrev YF:=@List.length_cons
noncomputable abbrev YG:=@List.mem_singleton
noncomputable abbrev YH:=@List.mem_map
noncomputable abbrev YI:=@wpAny_mono
noncomputable abbrev YJ:=@List.range_succ
noncomputable abbrev YK:=@List.getElem_append_left
noncomputable abbrev YL:=@List.mem_filter
noncomputable abbrev YM:=@List.mem_append_left
noncomputable abbrev YN:=@Array.length_toList
noncomputable abbrev YO:=@List.length_take
noncomputable abbrev YQ:=@List.mem_cons_of_mem
noncomputable abbrev YR:=@Nat.lt_succ_of_lt
noncomputable abbrev YS:=@List.map_map
noncomputable abbrev YT:=@List.getElem?_append_left
noncomputable abbrev YU:=@decide_eq_false
noncomputable abbrev YV:=@Nat.le_of_lt
noncomputable abbrev YW:=@decide_eq_true
noncomputable abbrev YX:=@Int.eq_ofNat_of_zero_le
noncomputable abbrev YY:=@List.length_drop
noncomputable abbrev YZ:=@List.append_assoc
noncomputable abbrev Y0:=@List.length_range
noncomputable abbrev Y1:=@List.mem_cons_self
noncomputable abbrev Y2:=@List.getElem?_append_right
noncomputable abbrev Y3:=@List.getElem_append_right
noncomputable abbrev Y4:=@List.pairwise_cons
noncomputable abbrev Y5:=@List.length_filter_le
noncomputable abbrev Y6:=@Int.toNat_natCast
noncomputable abbrev Y7:=@List.take_append_drop
end
namespace L2
open PySem PySem.Spec PyProof.Rows
noncomputable abbrev Key:=Sum Int Str
noncomputable def Ziv:Key->Value->Bool
 |.inl k,v=>Value.isInt k v
 |.inr x,v=>Value.isStrOf x v
noncomputable def keyH (w:World):Key->Int
 |.inl k=>hashInt k
 |.inr x=>hashStr w x
theorem Zaf:∀{k:Key}{v:Value},Ziv k v=true->(∃i t,k=Sum.inl i/\v=Value.int i t)\/(∃x t,k=Sum.inr x/\v=Value.str x t)
 |.inl i,v,h=>by
  obtain⟨t,e⟩:=Value.isInt_shape (k:=i) (v:=v) h
  exact .inl ⟨i,t,rfl,e⟩
 |.inr x,v,h=>by
  obtain⟨t,e⟩:=Value.isStrOf_shape (x:=x) (v:=v) h
  exact .inr ⟨x,t,rfl,e⟩
theorem Zmk (i:Int) (t:Tok):Ziv (.inl i) (.int i t)=true:=by simp[Ziv,Value.isInt]
theorem Zml (x:Str) (t:Tok):Ziv (.inr x) (.str x t)=true:=by simp[Ziv,Value.isStrOf]
theorem key_ll (a b:Int):decide ((Sum.inl a:Key)=Sum.inl b)=(a==b):=by
 by_cases e:a=b
 ·subst e;simp
 ·have h:¬ (Sum.inl a:Key)=Sum.inl b:=λq=>e (Sum.inl.inj q)
  rw[YU h]
  exact(beq_eq_false_iff_ne.mpr e).symm
theorem key_rr (a b:Str):decide ((Sum.inr a:Key)=Sum.inr b)=decide (a=b):=by
 by_cases e:a=b
 ·subst e;simp
 ·have h:¬ (Sum.inr a:Key)=Sum.inr b:=λq=>e (Sum.inr.inj q)
  rw[YU h,YU e]
theorem key_lr (a:Int) (b:Str):decide ((Sum.inl a:Key)=Sum.inr b)=false:=YU (λq=>nomatch q)
theorem key_rl (a:Str) (b:Int):decide ((Sum.inr a:Key)=Sum.inl b)=false:=YU (λq=>nomatch q)
noncomputable def ZaS (prog:Program) (w:World):PySem.KeyKind prog w Key where
 is:=Ziv
 hash:=keyH w
 inj:=λv a b ha hb=>by
  rcases Zaf ha with⟨i,t,rfl,rfl⟩|⟨x,t,rfl,rfl⟩
  ·rcases Zaf hb with⟨j,u,rfl,e⟩|⟨y,u,rfl,e⟩
   ·injection e with e1 _;rw[e1]
   ·exact nomatch e
  ·rcases Zaf hb with⟨j,u,rfl,e⟩|⟨y,u,rfl,e⟩
   ·exact nomatch e
   ·injection e with e1 _;rw[e1]
 byValue:=λk v h=>by
  rcases Zaf h with⟨i,t,rfl,rfl⟩|⟨x,t,rfl,rfl⟩<;>rfl
 pyHash:=λhv h=>by
  rcases Zaf hv with⟨i,t,rfl,rfl⟩|⟨x,t,rfl,rfl⟩
  ·exact wpAny_pyHash_int h
  ·exact wpAny_pyHash_str h
 eqBool:=λhu hv h=>by
  rcases Zaf hu with⟨i,t,rfl,rfl⟩|⟨x,t,rfl,rfl⟩
  ·rcases Zaf hv with⟨j,u,rfl,rfl⟩|⟨y,u,rfl,rfl⟩
   ·rw[key_ll]at h;exact wpAny_eqBool_int h
   ·rw[key_lr]at h;exact SeqAt.EqAt.int_str i t y u _ _ _ _ h
  ·rcases Zaf hv with⟨j,u,rfl,rfl⟩|⟨y,u,rfl,rfl⟩
   ·rw[key_rl]at h;exact SeqAt.EqAt.str_int x t j u _ _ _ _ h
   ·rw[key_rr]at h;exact wpAny_eqBool_str h
 «strs»:=λk x t v h=>by
  rcases Zaf h with⟨i,u,rfl,e⟩|⟨y,u,rfl,e⟩
  ·exact nomatch e
  ·injection e with e1 _
   subst e1
   cases v<;>rfl
theorem ZjP (prog:Program) (w:World) (i:Int) (t:Tok):(ZaS prog w).is (.inl i) (.int i t)=true:=Zmk i t
theorem ZjQ (prog:Program) (w:World) (x:Str) (t:Tok):(ZaS prog w).is (.inr x) (.str x t)=true:=Zml x t
inductive V where
 |non|bl (b:Bool)|int (i:Int)|str (x:Str)|byt (b:Array UInt8)|flt (b:UInt64)|ref (a:Addr)|ty (n:String)
 deriving DecidableEq
noncomputable def RelV:V->Value->Prop
 |.non,u=>u=Value.none
 |.bl b,u=>u=Value.bool b
 |.int i,u=>∃t,u=Value.int i t
 |.str x,u=>∃t,u=Value.str x t
 |.byt b,u=>∃t,u=Value.bytes b t
 |.flt b,u=>∃t,u=Value.float b t
 |.ref a,u=>u=Value.ref a
 |.ty n,u=>u=Value.type n
noncomputable abbrev Vals:List V->List Value->Prop:=Paired RelV
theorem Vals.length {xs:List V}{us:List Value} (r:Vals xs us):xs.length=us.length:=Paired.length r
theorem Vals.get:∀{xs:List V}{us:List Value}{i:Nat}{x:V},Vals xs us->xs[i]?=some x->∃u,us[i]?=some u/\RelV x u
 |_,_,_,_,.nil,e=>by simp at e
 |_,_,0,_,.cons r _,e=>by simp at e;subst e;exact⟨_,rfl,r⟩
 |_,_,i+1,x,.cons _ t,e=>by
  obtain⟨u,h1,h2⟩:=Vals.get (i:=i) (x:=x) t (by simpa using e)
  exact⟨u,by simpa using h1,h2⟩
theorem Vals.set {x:V}{u:Value} (r:RelV x u):∀{xs:List V}{us:List Value} (i:Nat),Vals xs us->Vals (xs.set i x) (us.set i u)
 |_,_,_,.nil=>.nil
 |_,_,0,.cons _ t=>.cons r t
 |_,_,i+1,.cons q t=>.cons q (Vals.set r i t)
theorem Vals.append:∀{xs ys:List V}{us ws:List Value},Vals xs us->Vals ys ws->Vals (xs++ys) (us++ws)
 |_,_,_,_,.nil,s=>s
 |_,_,_,_,.cons r t,s=>.cons r (Vals.append t s)
theorem Vals.take:∀{xs:List V}{us:List Value} (n:Nat),Vals xs us->Vals (xs.take n) (us.take n)
 |_,_,0,_=>.nil
 |_,_,_+1,.nil=>.nil
 |_,_,n+1,.cons r t=>.cons r (Vals.take n t)
theorem Vals.drop:∀{xs:List V}{us:List Value} (n:Nat),Vals xs us->Vals (xs.drop n) (us.drop n)
 |_,_,0,r=>r
 |_,_,_+1,.nil=>.nil
 |_,_,n+1,.cons _ t=>Vals.drop n t
noncomputable def Ze5:Option V->Option Value->Prop
 |some v,some u=>RelV v u
 |none,none=>True
 |_,_=>False
noncomputable def KV {κ:Type}:List (κ×V)->List (κ×Value)->Prop:=Paired λ(p:κ×V) (q:κ×Value)=>p.1=q.1/\RelV p.2 q.2
noncomputable def kV:Key->V
 |.inl i=>.int i
 |.inr x=>.str x
inductive HO where
 |lst (xs:List V)
 |tup (xs:List V)
 |dK (kvs:List (Key×V))|dT (kvs:List (List Key×V))
 |set (S:Int->Bool) (n:Nat)
 |ins (C dx:Addr) (fs:List (Str×V))
 |own (x:Addr)
 |xd (fs:List (Str×V))
 |met (f x:Addr)
 |rng (lo hi:Int)
 |frz (o:Obj) (u:HO)
 |tbl (ps:Array Value)
 |ext (φ:Heap->Prop)
noncomputable abbrev Hp:=Addr->Option HO
noncomputable def upd (H:Hp) (a:Addr) (o:HO):Hp:=λb=>if b=a then some o else H b
theorem Zb {H:Hp}{a:Addr}{o:HO}:upd H a o a=some o:=by unfold upd;rw[Yd rfl]
theorem Zf {H:Hp}{a b:Addr}{o:HO} (h:b≠a):upd H a o b=H b:=by unfold upd;rw[Yb h]
theorem ne_of {H:Hp}{a b:Addr}{o u:HO} (h:H a=some o) (h':H b=some u) (d:o≠u):a≠b:=by
 intro e;subst e;rw[h]at h';exact d (Yq h')
theorem Zj {H:Hp}{a b:Addr}{o:HO} (h:H a=some o) (h':H b=none):a≠b:=by
 intro e;subst e;rw[h]at h';cases h'
section
variable (P:Program) (w:World)
noncomputable def Zao (H:Hp) (h:Heap) (a:Addr):HO->Prop
 |.lst xs=>xs.length<=sizeLine/\∃(its:List Value) (n:Nat),Vals xs its/\h.get? a=some {cls:=.type "list",data:=.seq its.toArray n}
 |.tup xs=>xs.length<=sizeLine/\∃its:List Value,Vals xs its/\IsTup h a its.toArray
 |.dK kvs=>kvs.length<=sizeLine/\(a==sysModules)=false/\∃vs,KV kvs vs/\h.DictOf (ZaS P w) a vs
 |.dT kvs=>kvs.length<=sizeLine/\(a==sysModules)=false/\∃xs:List (List Key×Addr×Value),
   Paired (λ(p:List Key×V) (q:List Key×Addr×Value)=>p.1=q.1/\H q.2.1=some (.tup (p.1.map kV))/\RelV p.2 q.2.2) kvs xs /\
   ∃o es ep,h.get? a=some o/\o.ExactDict/\o.data=.dict es ep/\es.toList=xs.map (entryOfKey (tupleKind (ZaS P w)))/\(xs.map (·.1)).Nodup
 |.set S n=>h.SetOf (intKind P w) a S n
 |.ins C dx fs=>H dx=some (.own a)/\fs.length<=1000/\dx≠a/\h.get? a=some (PySem.W.instObj C dx) /\
   ∃mA,h.Ns1 dx mA/\(∀f,Ze5 (fs.lookup f) (mA f))/\PySem.Within mA (fs.map (·.1))
 |.own _=>∃o,h.get? a=some o
 |.xd fs=>∃mA,h.Ns1 a mA/\∀f,Ze5 (fs.lookup f) (mA f)
 |.rng lo hi=>∃t u v,h.get? a=some {cls:=.type "range",data:=.fields #[.int lo t,.int hi u,.int 1 v]}
 |.frz o u=>h.get? a=some o/\Zao H h a u
 |.tbl ps=>∃ts:Array Value,h.get? a=some {cls:=.none,data:=.fields ts}/\TriplesOk ts.toList/\∀pos cv,codeAmong pos ts.toList=some cv->∃c oc vs q t t',cv=.ref c/\H c=some (.frz oc (.own a))/\oc.data=.fields vs/\ps[0]?=some (.str q t)/\vs[1]?=some (.str q t')
 |.met f x=>h.get? a=some (PySem.W.methodObj (.ref f) (.ref x))
 |.ext φ=>φ h/\(∃o,h.get? a=some o)/\∀h1 h2:Heap,φ h1->(∀o,h1.get? a=some o->h2.get? a=some o)->φ h2
noncomputable def HOk (H:Hp) (h:Heap):Prop:=∀a o,H a=some o->Zao P w H h a o
end
section
variable {P:Program}{w:World}{H H':Hp}{h h':Heap}{a:Addr}{o:HO}
theorem Zao.lt (x:Zao P w H h a o):a<h.objs.size:=by
 cases o with
 |lst xs=>obtain⟨_,_,_,_,e⟩:=x;exact Yh e
 |tup xs=>obtain⟨_,_,_,p⟩:=x;exact p.lt
 |dK kvs=>obtain⟨_,_,_,_,o,_,_,e,_⟩:=x;exact Yh e
 |dT kvs=>obtain⟨_,_,_,_,o,_,_,e,_⟩:=x;exact Yh e
 |set S n=>obtain⟨o,_,_,_,e,_⟩:=x;exact Yh e
 |ins C dx fs=>obtain⟨_,_,_,e,_⟩:=x;exact Yh e
 |own y=>obtain⟨_,e⟩:=x;exact Yh e
 |xd fs=>obtain⟨_,⟨_,_,_,e,_⟩,_⟩:=x;exact Yh e
 |rng lo hi=>obtain⟨_,_,_,e⟩:=x;exact Yh e
 |frz ob u=>obtain⟨e,_⟩:=x;exact Yh e
 |tbl ps=>obtain⟨_,e,_⟩:=x;exact Yh e
 |met f y=>exact Yh (show h.get? a=some _ from x)
 |ext φ=>obtain⟨_,⟨_,e⟩,_⟩:=x;exact Yh e
theorem Paired.mapP {α β:Type}{F G:α->β->Prop}:∀{l₁:List α}{l₂:List β},Paired F l₁ l₂->(∀a b,F a b->G a b)->Paired G l₁ l₂
 |_,_,.nil,_=>.nil
 |_,_,.cons r t,f=>.cons (f _ _ r) (Paired.mapP t f)
theorem Zao.Zg6 (x:Zao P w H h a o) (k:∀b u,(b=a\/H b=some (.own a))->h.get? b=some u->h'.get? b=some u)
  (ho:∀b,H b=some (.own a)->H' b=some (.own a)) (ht:∀b xs,H b=some (.tup xs)->H' b=some (.tup xs)) (hz:∀b o u,H b=some (.frz o u)->H' b=some (.frz o u)):Zao P w H' h' a o:=by
 induction o with
 |lst xs=>obtain⟨z,its,n,r,e⟩:=x;exact⟨z,its,n,r,k _ _ (.inl rfl) e⟩
 |tup xs=>obtain⟨z,its,r,ob,e,c⟩:=x;exact⟨z,its,r,ob,k _ _ (.inl rfl) e,c⟩
 |dK kvs=>obtain⟨z,y,vs,r,ob,es,ep,e,c⟩:=x;exact⟨z,y,vs,r,ob,es,ep,k _ _ (.inl rfl) e,c⟩
 |dT kvs =>
  obtain⟨z,y,xs,r,ob,es,ep,e,c⟩:=x
  exact⟨z,y,xs,Paired.mapP r λp q z=>⟨z.1,ht _ _ z.2.1,z.2.2⟩,ob,es,ep,k _ _ (.inl rfl) e,c⟩
 |set S n=>obtain⟨ob,es,ep,t,e,c⟩:=x;exact⟨ob,es,ep,t,k _ _ (.inl rfl) e,c⟩
 |ins C dx fs =>
  obtain⟨d,z,ne,e,mA,⟨od,es,ep,e2,c⟩,r⟩:=x
  exact⟨ho _ d,z,ne,k _ _ (.inl rfl) e,mA,⟨od,es,ep,k _ _ (.inr d) e2,c⟩,r⟩
 |own y=>obtain⟨ob,e⟩:=x;exact⟨ob,k _ _ (.inl rfl) e⟩
 |xd fs=>obtain⟨mA,⟨od,es,ep,e,c⟩,r⟩:=x;exact⟨mA,⟨od,es,ep,k _ _ (.inl rfl) e,c⟩,r⟩
 |rng lo hi=>obtain⟨t,u,v,e⟩:=x;exact⟨t,u,v,k _ _ (.inl rfl) e⟩
 |frz ob u ih=>obtain⟨e,q⟩:=x;exact⟨k _ _ (.inl rfl) e,ih q⟩
 |tbl ps =>
  obtain⟨ts,e,t3,z⟩:=x
  refine⟨ts,k a _ (.inl rfl) e,t3,λpos cv hc=>?_⟩
  obtain⟨c,oc,vs,q,t,t',e1,e2,r⟩:=z pos cv hc
  exact⟨c,oc,vs,q,t,t',e1,hz _ _ _ e2,r⟩
 |met f y =>
  have e:h.get? a=some (PySem.W.methodObj (.ref f) (.ref y)):=x
  show h'.get? a=some (PySem.W.methodObj (.ref f) (.ref y))
  exact k a _ (.inl rfl) e
 |ext φ=>obtain⟨p,⟨o,e⟩,st⟩:=x;exact⟨st _ _ p λo q=>k _ _ (.inl rfl) q,⟨o,k _ _ (.inl rfl) e⟩,st⟩
theorem HOk.lt (x:HOk P w H h) (e:H a=some o):a<h.objs.size:=(x a o e).lt
theorem HOk.fresh (x:HOk P w H h) (e:h.objs.size<=a):H a=none:=by
 cases q:H a with
 |none=>rfl
 |some u=>exact absurd (Yt (x.lt q) e) (Yx _)
theorem HOk.kept (x:HOk P w H h) (k:∀b u,h.get? b=some u->h'.get? b=some u):HOk P w H h':=λa o e =>
 (x a o e).Zg6 (λb u _ q=>k b u q) (λ_ q=>q) (λ_ _ q=>q) λ_ _ _ q=>q
theorem HOk.laid (x:HOk P w H h) (k:∀b u,h.get? b=some u->h'.get? b=some u) (hp:h.objs.size<=a) (new:Zao P w (upd H a o) h' a o):HOk P w (upd H a o) h':=λb u e=>by
 have hn:=x.fresh hp
 by_cases hb:b=a
 ·subst hb;rw[Zb]at e;cases e;exact new
 ·rw[Zf hb]at e
  exact(x b u e).Zg6 (λc v _ q=>k c v q) (λc q=>by rw[Zf (Zj q hn)];exact q) (λc xs q=>by rw[Zf (Zj q hn)];exact q) λc o u q=>by rw[Zf (Zj q hn)];exact q
end
noncomputable def Rd (H:Hp) (a:Addr) (u:HO):Prop:=H a=some u\/∃o,H a=some (.frz o u)
theorem Rd.ok {P:Program}{w:World}{H:Hp}{h:Heap}{a:Addr}{u:HO} (r:Rd H a u) (x:HOk P w H h):Zao P w H h a u:=by
 rcases r with r|⟨o,r⟩
 ·exact x a u r
 ·obtain⟨_,q⟩:=x a _ r
  exact q
noncomputable def Mut:Option HO->Prop
 |some (.lst _)=>True
 |some (.dK _)=>True
 |some (.dT _)=>True
 |some (.set _ _)=>True
 |some (.ins _ _ _)=>True
 |some (.ext _)=>True
 |_=>False
section
variable {P:Program}{w:World}{H:Hp}{h h':Heap}{x e:Addr}{o':HO}
theorem HOk.write (ok:HOk P w H h) (mu:Mut (H x)) (he:e=x\/H e=some (.own x)) (k:∀b u,b≠e->h.get? b=some u->h'.get? b=some u) (heo:∃u,h'.get? e=some u)
  (new:Zao P w (upd H x o') h' x o'):HOk P w (upd H x o') h':=λb u q=>by
 have nown:∀c y,H c=some (.own y)->c≠x:=λc y r z=>by subst z;rw[r]at mu;exact mu
 have ntup:∀c xs,H c=some (.tup xs)->c≠x:=λc xs r z=>by subst z;rw[r]at mu;exact mu
 have nfrz:∀c o u,H c=some (.frz o u)->c≠x:=λc o u r z=>by subst z;rw[r]at mu;exact mu
 by_cases hb:b=x
 ·subst hb;rw[Zb]at q;cases q;exact new
 ·rw[Zf hb]at q
  by_cases hbe:b=e
  ·have q':H b=some (.own x):=by
    rcases he with z|z
    ·exact absurd (hbe.trans z) hb
    ·rw[hbe];exact z
   rw[q]at q';cases q'
   obtain⟨v,hv⟩:=heo
   exact⟨v,by rw[hbe];exact hv⟩
  ·refine(ok b u q).Zg6 (λc v hc r=>k c v ?_ r) (λc r=>by rw[Zf (nown c b r)];exact r) (λc xs r=>by rw[Zf (ntup c xs r)];exact r) λc o u r=>by rw[Zf (nfrz c o u r)];exact r
   rcases hc with rfl|hc
   ·exact hbe
   ·rintro rfl
    rcases he with z|z
    ·exact nown c b hc z
    ·rw[hc]at z;cases z;exact hb rfl
end
structure Un (fs ex:List Addr) (H H':Hp) (h h':Heap):Prop where
 keep:∀b o,h.get? b=some o->H b=none->b∉fs->b∉ex->h'.get? b=some o
 slot:∀b o,h.get? b=some o->H b=none->b∈fs->b∉ex->∃sl,h'.get? b=some {o with slots:=sl}
 free:∀b o,h.get? b=some o->H b=none->b∉ex->H' b=none
 there:∀b o,h.get? b=some o->b∉ex->∃o',h'.get? b=some o'
 tups:∀b xs,H b=some (.tup xs)->H' b=some (.tup xs)
 frzs:∀b o u,H b=some (.frz o u)->H' b=some (.frz o u)
 tbls:∀b ps,H b=some (.tbl ps)->∃more,H' b=some (.tbl (ps++more))
section
variable {fs fs' ex ex':List Addr}{H H1 H2:Hp}{h h1 h2 h':Heap}{a x e:Addr}{o:HO}
theorem Un.any (u:Un fs ex H H1 h h1) {b:Addr}{ob:Obj} (q:h.get? b=some ob) (n:H b=none) (hx:b∉ex):∃sl,h1.get? b=some {ob with slots:=sl}:=by
 by_cases hb:b∈fs
 ·exact u.slot b ob q n hb hx
 ·exact⟨ob.slots,u.keep b ob q n hb hx⟩
theorem Un.kept (k:∀b u,h.get? b=some u->h'.get? b=some u):Un fs ex H H h h' :=
 ⟨λb ob q _ _ _=>k b ob q,λb ob q _ _ _=>⟨ob.slots,k b ob q⟩,λ_ _ _ n _=>n,λb ob q _=>⟨ob,k b ob q⟩,λ_ _ q=>q,λ_ _ _ q=>q,λ_ ps q=>⟨#[],by rw[q];simp⟩⟩
theorem Un.refl:Un fs ex H H h h:=Un.kept λ_ _ q=>q
theorem Un.laid (k:∀b u,h.get? b=some u->h'.get? b=some u) (hp:h.objs.size<=a) (hn:H a=none):Un fs ex H (upd H a o) h h' where
 keep:=λb u q _ _ _=>k b u q
 slot:=λb u q _ _ _=>⟨u.slots,k b u q⟩
 free:=λb u q n _=>by rw[Zf (Yo (Yt (Yh q) hp))];exact n
 there:=λb u q _=>⟨u,k b u q⟩
 tups:=λb xs q=>by rw[Zf (Zj q hn)];exact q
 frzs:=λb u xs q=>by rw[Zf (Zj q hn)];exact q
 tbls:=λb ps q=>⟨#[],by rw[Zf (Zj q hn),q];simp⟩
theorem Un.write (mu:Mut (H x)) (he:e=x\/H e=some (.own x)) (k:∀b u,b≠e->h.get? b=some u->h'.get? b=some u) (heo:∃u,h'.get? e=some u):Un fs ex H (upd H x o) h h':=by
 have hx:∀b,H b=none->b≠x:=λb n z=>by subst z;rw[n]at mu;exact mu
 have hb:∀b,H b=none->b≠e:=λb n z=>by
  subst z
  rcases he with r|r
  ·exact hx b n r
  ·rw[n]at r;cases r
 have hm:∀b u,H b=some u->¬ Mut (some u)->b≠x:=λb u q nm z=>by subst z;rw[q]at mu;exact nm mu
 refine⟨λb u q n _ _=>k b u (hb b n) q,λb u q n _ _=>⟨u.slots,k b u (hb b n) q⟩,λb u q n _=>by rw[Zf (hx b n)];exact n,λb u q _=>?_,
  λb xs q=>by rw[Zf (hm b _ q λz=>z)];exact q,λb u xs q=>by rw[Zf (hm b _ q λz=>z)];exact q,λb ps q=>⟨#[],by rw[Zf (hm b _ q λz=>z),q];simp⟩⟩
 by_cases hbe:b=e
 ·subst hbe;exact heo
 ·exact⟨u,k b u hbe q⟩
end
noncomputable def trk (h:Heap) (H:Hp):List Addr:=(List.range h.objs.size).filter λa=>(H a).isSome
noncomputable def Zie (h:Heap) (H:Hp):Heap:=PySem.W.hideAll h (trk h H)
theorem Zmm (h:Heap) (H:Hp):(Zie h H).objs.size=h.objs.size:=PySem.W.hideAll_size _ _
theorem Zn9 {h:Heap}{H:Hp}{b:Addr}{o:Obj} (e:h.get? b=some o) (n:H b=none):(Zie h H).get? b=some o :=
 PySem.W.hideAll_get _ e λhm=>by
  have q:(H b).isSome=true:=(YL.mp hm).2
  rw[n]at q;simp at q
theorem ZpH {h:Heap}{H:Hp}{b:Addr}{o:Obj} (e:(Zie h H).get? b=some o):h.get? b=some o/\H b=none:=by
 have e':h.get? b=some o:=PySem.W.of_hideAll (trk h H) e
 refine⟨e',?_⟩
 cases q:H b with
 |none=>rfl
 |some x =>
  have hm:b∈trk h H:=YL.mpr ⟨YA.mpr (Yh e'),by simp[q]⟩
  have z:(Zie h H).get? b=none:=PySem.W.hideAll_none (trk h H) hm
  rw[z]at e;cases e
noncomputable def ZpI (g h:Heap) (L:Addr):List (Addr×Obj):=(List.range h.objs.size).filterMap λa=>if a=L\/(g.get? a).isSome=true then none else (h.get? a).map λo=>(a,o)
noncomputable def rest (g h:Heap) (L d:Addr):List (Addr×Obj):=(ZpI g h L).filter λp=>decide (p.1≠d)
structure Mod (K:PySem.W.Frag) (mg:Str->Option Value) (base:Heap):Prop where
 kin:K.In base
 glob:base.Ns mainGlobals mg
 blt:∃mb,base.Ns builtinsNs mb/\∀x:Str,x≠"__name__"->mb x=bootBuiltins x
 nolimit:base.NoLimit
structure Cx where
 prog:Program
 w:World
 K:PySem.W.Frag
 mg:Str->Option Value
 base:Heap
 A:Around
 N:List Str
 s₀:Shared
 H₀:Hp
 env:Env
 outer:List Env
 stack:List Env
 ex:List Addr
 fn:Str->Bool
 calm:Bool
 pn:List (Addr×Obj)
 xe:Value->Shared->Prop
noncomputable def frs (l:List Env):List Addr:=l.filterMap (·.frame)
noncomputable abbrev Cx.fs (X:Cx):List Addr:=frs X.outer
noncomputable def Vis (sc:Scope) (x:Str):Prop:=sc.names.lookup x=some .local\/sc.names.lookup x=some .cell\/sc.names.lookup x=some .free
noncomputable def Loc (sc:Scope) (x:Str):Prop:=sc.names.lookup x=some .local\/sc.names.lookup x=some .cell
noncomputable def Look (env:Env) (h:Heap) (m:Str->Option Value) (x:Str) (u:Value):Prop :=
 (env.kindOf x=some .local/\m x=some u)\/((env.kindOf x=some .cell\/env.kindOf x=some .free)/\∃c,env.cells.lookup x=some c/\h.IsCell c (some u))
structure Cx.Ok (X:Cx):Prop where
 mod:Mod X.K X.mg X.base
 kind:X.env.scope.kind=.function
 glob:X.env.globals=mainGlobals
 blt:X.env.builtins=builtinsNs
 above:X.s₀.heap.objs.size<=X.env.locals
 inj:∀x y c,X.env.cells.lookup x=some c->X.env.cells.lookup y=some c->x=y
 has:∀x,(X.env.kindOf x=some .cell\/X.env.kindOf x=some .free)->∃c,X.env.cells.lookup x=some c
 cab:∀x c,X.fn x=true->X.env.cells.lookup x=some c->X.s₀.heap.objs.size<=c
 hd:X.calm=true->X.A.handled=none
 frames:X.A.frames=some X.stack
 stk:X.stack=X.outer\/(X.stack=X.env::X.outer/\X.env.frame=some X.env.locals)
 exf:∀b∈X.ex,b≠X.env.locals/\∀x c,X.env.cells.lookup x=some c->c≠b
 bs:∀b o,X.base.get? b=some o->X.s₀.heap.get? b=some o/\X.H₀ b=none
 bsz:X.base.objs.size<=X.s₀.heap.objs.size
 noex:∀b o,X.base.get? b=some o->b∉X.ex
 exfs:∀b∈X.ex,b∉X.fs
 funs:X.s₀.heap.FunFrames X.base X.outer
 frf:∀b∈X.fs,X.H₀ b=none
structure Inv (X:Cx) (pins:List (Addr×Obj)) (σ:List (Option V)) (H:Hp) (s:Shared):Prop where
 ok:X.Ok
 os:s.os=X.s₀.os
 bare:AllBare s.gens
 base:Un X.fs X.ex X.H₀ H X.s₀.heap s.heap
 loc:∃m,s.heap.Ns X.env.locals m/\∀(i:Nat) (x:Str) (v:V),X.N[i]?=some x->σ[i]?=some (some v)->Vis X.env.scope x->∃u,RelV v u/\Look X.env s.heap m x u
 cell:∀x c,X.env.cells.lookup x=some c->∃v,s.heap.IsCell c v
 free:H X.env.locals=none
 freeC:∀x c,X.env.cells.lookup x=some c->H c=none
 pin:∀p∈X.pn++pins,s.heap.get? p.1=some p.2/\H p.1=none/\p.1≠X.env.locals/\p.1∉X.fs/\∀v,p.2.data≠.cell v
 hok:HOk X.prog X.w H s.heap
 len:σ.length=X.N.length
section
variable {X:Cx}{pins:List (Addr×Obj)}{σ:List (Option V)}{H H':Hp}{s:Shared}{h':Heap}
theorem Cx.Ok.nofr (ok:X.Ok) {b:Addr}{o:Obj} (e:X.base.get? b=some o):b∉X.fs:=λhb=>by
 have:=(ok.funs.mem hb).1
 rw[e]at this;cases this
theorem Inv.bs (I:Inv X pins σ H s):∀b o,X.base.get? b=some o->s.heap.get? b=some o/\H b=none:=λb o e =>
 ⟨I.base.keep b o (I.ok.bs b o e).1 (I.ok.bs b o e).2 (I.ok.nofr e) (I.ok.noex b o e),I.base.free b o (I.ok.bs b o e).1 (I.ok.bs b o e).2 (I.ok.noex b o e)⟩
theorem Inv.bk (I:Inv X pins σ H s):∀b o,X.base.get? b=some o->s.heap.get? b=some o:=λb o e=>(I.bs b o e).1
theorem Inv.mod (I:Inv X pins σ H s):Mod X.K X.mg X.base:=I.ok.mod
theorem Inv.kIn (I:Inv X pins σ H s):X.K.In s.heap:=I.ok.mod.kin.keeps I.bk
theorem Inv.lt (I:Inv X pins σ H s):X.env.locals<s.heap.objs.size:=let ⟨_,hn,_⟩:=I.loc;hn.lt
theorem Inv.sz (I:Inv X pins σ H s):X.s₀.heap.objs.size<=s.heap.objs.size:=Yj I.ok.above (YV I.lt)
theorem Inv.nofs (I:Inv X pins σ H s) {a:Addr} (h:s.heap.objs.size<=a):a∉X.fs:=λhb=>by
 obtain⟨_,o,ho,_⟩:=I.ok.funs.mem hb
 exact absurd (Yt (Yh ho) (Yj I.sz h)) (Yx _)
theorem Inv.cne (I:Inv X pins σ H s):∀x c,X.env.cells.lookup x=some c->c≠X.env.locals:=λx c e z=>by
 obtain⟨v,o,ho,hd⟩:=I.cell x c e
 obtain⟨m,⟨o',es,ep,ho',hd',_⟩,_⟩:=I.loc
 rw[z,ho']at ho;cases ho;rw[hd']at hd;cases hd
theorem Inv.funs (I:Inv X pins σ H s):s.heap.FunFrames X.base X.outer:=by
 have all:∀(l:List Env),(∀b∈frs l,b∈X.fs)->X.s₀.heap.FunFrames X.base l->s.heap.FunFrames X.base l:=by
  intro l
  induction l with
  |nil=>intro _ _;trivial
  |cons env r ih =>
   intro hs hl
   obtain⟨hk,⟨L,o,hf,hn,ho,hd⟩,hr⟩:=hl
   have hL:L∈X.fs:=hs L (by unfold frs;rw[List.filterMap_cons,hf];exact Y1)
   obtain⟨sl,e⟩:=I.base.slot L o ho (I.ok.frf L hL) hL λz=>I.ok.exfs L z hL
   exact⟨hk,⟨L,_,hf,hn,e,hd⟩,ih (λb hb=>hs b (by unfold frs;rw[List.filterMap_cons,hf];exact YQ _ hb)) hr⟩
 exact all X.outer (λ_ hb=>hb) I.ok.funs
theorem Inv.stack (I:Inv X pins σ H s):s.heap.FunFrames X.base X.stack:=by
 rcases I.ok.stk with e|⟨e,hf⟩
 ·rw[e];exact I.funs
 ·rw[e]
  obtain⟨m,hn,_⟩:=I.loc
  refine .cons (by rw[I.ok.kind];decide) hf hn ?_ I.funs
  exact Heap.get?_none_of_le (Yj I.ok.bsz I.ok.above)
theorem Inv.Zfd (I:Inv X pins σ H s):∀b∈frs X.stack,b∈X.env.locals::X.fs:=λb hb=>by
 rcases I.ok.stk with e|⟨e,hf⟩
 ·rw[e]at hb;exact YQ _ hb
 ·rw[e]at hb
  unfold frs at hb
  rw[List.filterMap_cons,hf]at hb
  exact hb
theorem Inv.Zi3 (I:Inv X pins σ H s):∀b∈frs X.stack,H b=none:=λb hb=>by
 rcases Yk.mp (I.Zfd b hb)with e|hb
 ·rw[e];exact I.free
 ·obtain⟨_,o,ho,_⟩:=I.ok.funs.mem hb
  exact I.base.free b o ho (I.ok.frf b hb) λz=>I.ok.exfs b z hb
theorem Inv.step {g':Array GenState}{t':Nat}{d':Drawn}{ch:List Addr} (I:Inv X pins σ H s)
  (hch:∀b∈ch,(b∈X.ex\/X.s₀.heap.objs.size<=b)/\b≠X.env.locals/\(∀x c,X.env.cells.lookup x=some c->c≠b)/\∀p∈X.pn++pins,p.1≠b)
  (keep:∀b o,b≠X.env.locals->b∉X.fs->b∉ch->s.heap.get? b=some o->H b=none->h'.get? b=some o)
  (slot:∀b o,b≠X.env.locals->b∈X.fs->b∉ch->s.heap.get? b=some o->H b=none->∃sl,h'.get? b=some {o with slots:=sl}) (free:∀b o,b∉ch->s.heap.get? b=some o->H b=none->H' b=none)
  (there:∀b o,b∉ch->s.heap.get? b=some o->∃o',h'.get? b=some o')
  (tups:∀b xs,H b=some (.tup xs)->H' b=some (.tup xs)) (frzs:∀b o u,H b=some (.frz o u)->H' b=some (.frz o u)) (tbls:∀b ps,H b=some (.tbl ps)->∃more,H' b=some (.tbl (ps++more)))
  (ns:∀m,s.heap.Ns X.env.locals m->h'.Ns X.env.locals m) (hok:HOk X.prog X.w H' h') (hg:AllBare g') :
  Inv X pins σ H' {s with heap:=h',gens:=g',drawn:=d',toks:=t'}:=by
 have neL:∀b o,X.s₀.heap.get? b=some o->b≠X.env.locals:=λb o e=>Yo (Yt (Yh e) I.ok.above)
 have neC:∀b o,X.s₀.heap.get? b=some o->b∉X.ex->b∉ch:=λb o e hx hb=>by
  rcases(hch b hb).1 with z|z
  ·exact hx z
  ·exact absurd (Yt (Yh e) z) (Yx _)
 have cellK:∀x c,X.env.cells.lookup x=some c->∀v,s.heap.IsCell c v->h'.IsCell c v:=λx c e v ⟨o,ho,hd⟩=>by
  have nch:c∉ch:=λz=>(hch c z).2.2.1 x c e rfl
  by_cases hc:c∈X.fs
  ·obtain⟨sl,q⟩:=slot c o (I.cne x c e) hc nch ho (I.freeC x c e)
   exact⟨_,q,hd⟩
  ·exact⟨o,keep c o (I.cne x c e) hc nch ho (I.freeC x c e),hd⟩
 refine⟨I.ok,I.os,hg,⟨λb o e n hb hx=>?_,λb o e n hb hx=>?_,λb o e n hx=>?_,λb o e hx=>?_,λb xs e=>tups b xs (I.base.tups b xs e),λb o xs e=>frzs b o xs (I.base.frzs b o xs e),λb ps e=>?_⟩,?_,λx c e=>?_,?_,λx c e=>?_,λp hp=>?_,hok,I.len⟩
 ·exact keep b o (neL b o e) hb (neC b o e hx) (I.base.keep b o e n hb hx) (I.base.free b o e n hx)
 ·obtain⟨sl,e1⟩:=I.base.slot b o e n hb hx
  obtain⟨sl',e2⟩:=slot b _ (neL b o e) hb (neC b o e hx) e1 (I.base.free b o e n hx)
  exact⟨sl',e2⟩
 ·obtain⟨o',e1⟩:=I.base.there b o e hx
  exact free b o' (neC b o e hx) e1 (I.base.free b o e n hx)
 ·obtain⟨o',e1⟩:=I.base.there b o e hx
  exact there b o' (neC b o e hx) e1
 ·obtain⟨m1,e1⟩:=I.base.tbls b ps e
  obtain⟨m2,e2⟩:=tbls b _ e1
  exact⟨m1++m2,by rw[e2,Array.append_assoc]⟩
 ·obtain⟨m,hn,hl⟩:=I.loc
  refine⟨m,ns m hn,λi x v e1 e2 e3=>?_⟩
  obtain⟨u,r,l⟩:=hl i x v e1 e2 e3
  refine⟨u,r,?_⟩
  rcases l with l|⟨k,c,e,z⟩
  ·exact .inl l
  ·exact .inr ⟨k,c,e,cellK x c e _ z⟩
 ·obtain⟨v,z⟩:=I.cell x c e
  exact⟨v,cellK x c e v z⟩
 ·obtain⟨m,⟨o,_,_,ho,_⟩,_⟩:=I.loc
  exact free _ o (λz=>(hch _ z).2.1 rfl) ho I.free
 ·obtain⟨v,o,ho,hd⟩:=I.cell x c e
  exact free c o (λz=>(hch c z).2.2.1 x c e rfl) ho (I.freeC x c e)
 ·obtain⟨e,n,ne,nf,d⟩:=I.pin p hp
  have nch:p.1∉ch:=λz=>(hch p.1 z).2.2.2 p hp rfl
  exact⟨keep p.1 p.2 ne nf nch e n,free p.1 p.2 nch e n,ne,nf,d⟩
theorem Inv.un {t':Nat} (I:Inv X pins σ H s) (u:Un X.fs [] H H' s.heap h') (hok:HOk X.prog X.w H' h'):Inv X pins σ H' {s with heap:=h',toks:=t'}:=by
 obtain⟨m,⟨o,es,ep,ho,r⟩,_⟩:=id I.loc
 obtain⟨sl,hL⟩:=u.any ho I.free (by simp)
 exact I.step (g':=s.gens) (d':=s.drawn) (ch:=[]) (λ_ z=>nomatch z) (λb o _ hb _ e n=>u.keep b o e n hb (by simp)) (λb o _ hb _ e n=>u.slot b o e n hb (by simp)) (λb o _ e n=>u.free b o e n (by simp)) (λb o _ e=>u.there b o e (by simp)) u.tups u.frzs u.tbls (λm' hm=>by
  obtain⟨o',es',ep',ho',r'⟩:=hm
  rw[ho]at ho';cases ho'
  exact⟨_,es',ep',hL,r'⟩) hok I.bare
theorem Inv.call {g':Array GenState}{t':Nat}{d':Drawn}{ch:List Addr} (I:Inv X pins σ H s) (u:Un (frs X.stack) ch H H' s.heap h') (hok:HOk X.prog X.w H' h') (hg:AllBare g')
  (hch:∀b∈ch,(b∈X.ex\/X.s₀.heap.objs.size<=b)/\b≠X.env.locals/\(∀x c,X.env.cells.lookup x=some c->c≠b)/\∀p∈X.pn++pins,p.1≠b) :
  Inv X pins σ H' {s with heap:=h',gens:=g',drawn:=d',toks:=t'}:=by
 obtain⟨m,⟨o,es,ep,ho,r⟩,_⟩:=id I.loc
 obtain⟨sl,hL⟩:=u.any ho I.free λz=>(hch _ z).2.1 rfl
 exact I.step (ch:=ch) hch (λb o hL hb hc e n=>u.keep b o e n (λz=>(Yk.mp (I.Zfd b z)).elim hL hb) hc) (λb o _ _ hc e n=>u.any e n hc) (λb o hc e n=>u.free b o e n hc) (λb o hc e=>u.there b o e hc) u.tups u.frzs u.tbls (λm' hm=>by
  obtain⟨o',es',ep',ho',r'⟩:=hm
  rw[ho]at ho';cases ho'
  exact⟨_,es',ep',hL,r'⟩) hok hg
theorem Inv.turned {t':Nat}{it:Addr} (I:Inv X pins σ H s) (k:∀b o,b≠it->s.heap.get? b=some o->h'.get? b=some o) (hn:H it=none) (hL:it≠X.env.locals)
  (h1:it∈X.ex\/X.s₀.heap.objs.size<=it) (h2:∀x c,X.env.cells.lookup x=some c->c≠it) (h3:∀p∈X.pn++pins,p.1≠it):Inv X pins σ H {s with heap:=h',toks:=t'}:=by
 have nit:∀b u,H b=some u->b≠it:=λb u e z=>by rw[z,hn]at e;cases e
 refine I.step (g':=s.gens) (d':=s.drawn) (ch:=[it]) (λb hb=>?_) (λb o _ _ hc e _=>k b o (λz=>hc (by simp[z])) e) (λb o _ _ hc e _=>⟨o.slots,k b o (λz=>hc (by simp[z])) e⟩) (λ_ _ _ _ n=>n)
  (λb o hc e=>⟨o,k b o (λz=>hc (by simp[z])) e⟩) (λ_ _ e=>e) (λ_ _ _ e=>e) (λb ps e=>⟨#[],by rw[e];simp⟩) (λm hm=>?_) (λb u e=>?_) I.bare
 ·have e:b=it:=by simpa using hb
  subst e
  exact⟨h1,hL,h2,h3⟩
 ·obtain⟨o,es,ep,ho,r⟩:=hm
  exact⟨o,es,ep,k _ o (Ne.symm hL) ho,r⟩
 ·refine(I.hok b u e).Zg6 (λc v hc q=>k c v ?_ q) (λ_ q=>q) (λ_ _ q=>q) λ_ _ _ q=>q
  rcases hc with z|z
  ·rw[z];exact nit b u e
  ·exact nit c _ z
theorem Inv.tok (I:Inv X pins σ H s) (t:Nat):Inv X pins σ H {s with toks:=t}:=I.un (h':=s.heap) (t':=t) Un.refl I.hok
theorem Inv.kept {t':Nat} (I:Inv X pins σ H s) (k:∀b u,s.heap.get? b=some u->h'.get? b=some u):Inv X pins σ H {s with heap:=h',toks:=t'}:=I.un (Un.kept k) (I.hok.kept k)
theorem Inv.laid {a:Addr}{o:HO}{t':Nat} (I:Inv X pins σ H s) (k:∀b u,s.heap.get? b=some u->h'.get? b=some u) (hp:s.heap.objs.size<=a) (new:Zao X.prog X.w (upd H a o) h' a o) :
  Inv X pins σ (upd H a o) {s with heap:=h',toks:=t'}:=I.un (Un.laid k hp (I.hok.fresh hp)) (I.hok.laid k hp new)
theorem Inv.write {x e:Addr}{o:HO}{t':Nat} (I:Inv X pins σ H s) (mu:Mut (H x)) (he:e=x\/H e=some (.own x)) (k:∀b u,b≠e->s.heap.get? b=some u->h'.get? b=some u) (heo:∃u,h'.get? e=some u)
  (new:Zao X.prog X.w (upd H x o) h' x o):Inv X pins σ (upd H x o) {s with heap:=h',toks:=t'}:=I.un (Un.write mu he k heo) (I.hok.write mu he k heo new)
theorem Inv.weak {σ':List (Option V)} (I:Inv X pins σ H s) (hl:σ'.length=σ.length) (w:∀(i:Nat) v,σ'[i]?=some (some v)->σ[i]?=some (some v)):Inv X pins σ' H s :=
 ⟨I.ok,I.os,I.bare,I.base,let ⟨m,hn,hl'⟩:=I.loc;⟨m,hn,λi x v e1 e2 e3=>hl' i x v e1 (w i v e2) e3⟩,I.cell,I.free,I.freeC,I.pin,I.hok,hl.trans I.len⟩
theorem Inv.Zhm {pins':List (Addr×Obj)} (I:Inv X pins σ H s) (h:∀p∈pins',s.heap.get? p.1=some p.2/\H p.1=none/\p.1≠X.env.locals/\p.1∉X.fs/\∀v,p.2.data≠.cell v):Inv X pins' σ H s :=
 ⟨I.ok,I.os,I.bare,I.base,I.loc,I.cell,I.free,I.freeC,λp hp=>(Yy.mp hp).elim (λz=>I.pin p (YM _ z)) (h p),I.hok,I.len⟩
theorem ZjR {N:List Str} (hN:N.Nodup) {i j:Nat}{x:Str} (a:N[i]?=some x) (b:N[j]?=some x):i=j:=by
 obtain⟨h1,e1⟩:=Yu.mp a
 obtain⟨h2,e2⟩:=Yu.mp b
 exact(List.getElem_inj hN).mp (e1.trans e2.symm)
theorem Zmn {M:Model}{A:Around}{E:Value->Shared->Prop}{i:Nat}{x:Str}{v:V}{u:Value}{Q:Unit->Shared->Prop} (I:Inv X pins σ H s) (hN:X.N.Nodup) (hi:X.N[i]?=some x) (hx:Loc X.env.scope x) (r:RelV v u)
  (h:∀s',Inv X pins (σ.set i (some v)) H s'->(∃a,Heap.SameBut a s.heap s'.heap/\(a=X.env.locals\/X.env.cells.lookup x=some a))->Q () s') (hf:X.fn x=true\/X.env.scope.names.lookup x=some .local:=by first|exact .inl rfl|exact .inr rfl|assumption):wpAny M A (storeName X.env x u) Q E s:=by
 obtain⟨m,hn,hl⟩:=id I.loc
 have hcls:(X.env.scope.kind==.class||(X.env.scope.kind==.module&&X.env.locals != X.env.globals))=false:=by rw[I.ok.kind];rfl
 have hiσ:i < σ.length:=by rw[I.len];exact(Yu.mp hi).1
 have cne:=I.cne
 have tracked:∀{a:Addr}{h':Heap},(∃o,s.heap.get? a=some o/\H a=none)->Heap.SameBut a s.heap h'->HOk X.prog X.w H h':=λ{a h'} ha hs b ob e=>by
  obtain⟨_,_,hfree⟩:=ha
  refine(I.hok b ob e).Zg6 (λc w' hc q=>(hs.2 c ?_).trans q) (λ_ q=>q) (λ_ _ q=>q) λ_ _ _ q=>q
  rintro rfl
  rcases hc with rfl|hc
  ·rw[hfree]at e;cases e
  ·rw[hfree]at hc;cases hc
 rcases hx with hk|hk
 ·refine wpAny_storeName_local hk hn (λh' hn' hs=>?_) hcls
  obtain⟨oL,_,_,hoL,_⟩:=id hn
  refine h _ ⟨I.ok,I.os,I.bare,⟨λb o e n hb hx=>?_,λb o e n hb hx=>?_,I.base.free,λb o e hx=>?_,I.base.tups,I.base.frzs,I.base.tbls⟩,⟨_,hn',λj y v' e1 e2 e3=>?_⟩,λy c e=>?_,I.free,I.freeC,λp hp=>?_,tracked ⟨oL,hoL,I.free⟩ hs,by simpa using I.len⟩ ⟨_,hs,.inl rfl⟩
  ·exact(hs.2 b (Yo (Yt (Yh e) I.ok.above))).trans (I.base.keep b o e n hb hx)
  ·obtain⟨sl,e1⟩:=I.base.slot b o e n hb hx
   exact⟨sl,(hs.2 b (Yo (Yt (Yh e) I.ok.above))).trans e1⟩
  ·obtain⟨o',e1⟩:=I.base.there b o e hx
   exact⟨o',(hs.2 b (Yo (Yt (Yh e) I.ok.above))).trans e1⟩
  ·by_cases hj:j=i
   ·subst hj
    rw[hi]at e1;cases e1
    rw[List.getElem?_set_self hiσ]at e2
    cases e2
    exact⟨u,r,.inl ⟨hk,by simp⟩⟩
   ·rw[List.getElem?_set_ne (Ne.symm hj)]at e2
    obtain⟨u',r',q⟩:=hl j y v' e1 e2 e3
    refine⟨u',r',?_⟩
    rcases q with⟨k,e⟩|⟨k,c,e,z⟩
    ·refine .inl ⟨k,?_⟩
     have:y≠x:=λe=>hj (ZjR hN e1 (e▸hi))
     simp[this,e]
    ·exact .inr ⟨k,c,e,z.sameBut hs (cne y c e)⟩
  ·obtain⟨w',z⟩:=I.cell y c e
   exact⟨w',z.sameBut hs (cne y c e)⟩
  ·obtain⟨e,n,ne,nf,d⟩:=I.pin p hp
   exact⟨(hs.2 p.1 ne).trans e,n,ne,nf,d⟩
 ·have hfn:X.fn x=true:=by
   rcases hf with z|z
   ·exact z
   ·rw[z]at hk;cases hk
  obtain⟨c,hc⟩:=I.ok.has x (.inl hk)
  obtain⟨w',z⟩:=I.cell x c hc
  refine wpAny_storeName_cell I.ok.kind hk hc z (λh' hc' hs=>?_)
  obtain⟨oc,hoc,hocd⟩:=id z
  refine h {s with heap:=h'} ⟨I.ok,I.os,I.bare,⟨λb o e n hb hx=>?_,λb o e n hb hx=>?_,I.base.free,λb o e hx=>?_,I.base.tups,I.base.frzs,I.base.tbls⟩,⟨m,hn.sameBut hs (Ne.symm (cne x c hc)),λj y v' e1 e2 e3=>?_⟩,λy c' e=>?_,I.free,I.freeC,λp hp=>?_,tracked ⟨oc,hoc,I.freeC x c hc⟩ hs,by simpa using I.len⟩ ⟨c,hs,.inr hc⟩
  ·exact(hs.2 b (Yo (Yt (Yh e) (I.ok.cab x c hfn hc)))).trans (I.base.keep b o e n hb hx)
  ·obtain⟨sl,e1⟩:=I.base.slot b o e n hb hx
   exact⟨sl,(hs.2 b (Yo (Yt (Yh e) (I.ok.cab x c hfn hc)))).trans e1⟩
  ·obtain⟨o',e1⟩:=I.base.there b o e hx
   exact⟨o',(hs.2 b (Yo (Yt (Yh e) (I.ok.cab x c hfn hc)))).trans e1⟩
  ·by_cases hj:j=i
   ·subst hj
    rw[hi]at e1;cases e1
    rw[List.getElem?_set_self hiσ]at e2
    cases e2
    exact⟨u,r,.inr ⟨.inl hk,c,hc,hc'⟩⟩
   ·rw[List.getElem?_set_ne (Ne.symm hj)]at e2
    obtain⟨u',r',q⟩:=hl j y v' e1 e2 e3
    refine⟨u',r',?_⟩
    rcases q with q|⟨k,c',e,z'⟩
    ·exact .inl q
    ·refine .inr ⟨k,c',e,z'.sameBut hs ?_⟩
     rintro rfl
     exact hj (ZjR hN e1 (I.ok.inj _ _ _ e hc▸hi))
  ·by_cases hcc:c'=c
   ·subst hcc;exact⟨_,hc'⟩
   ·obtain⟨w2,z2⟩:=I.cell y c' e
    exact⟨w2,z2.sameBut hs hcc⟩
  ·obtain⟨e,n,ne,nf,d⟩:=I.pin p hp
   refine⟨(hs.2 p.1 ?_).trans e,n,ne,nf,d⟩
   intro q
   rw[q,hoc]at e
   have q':oc=p.2:=Yq e
   exact d w' (by rw[<-q'];exact hocd)
theorem Zea {M:Model}{A:Around}{E:Value->Shared->Prop}{i:Nat}{x:Str}{v:V}{u:Value}{Q:Unit->Shared->Prop} (I:Inv X pins σ H s) (hN:X.N.Nodup) (hi:X.N[i]?=some x) (hx:Loc X.env.scope x) (r:RelV v u)
  (h:∀s',Inv X pins (σ.set i (some v)) H s'->Q () s') (hf:X.fn x=true\/X.env.scope.names.lookup x=some .local:=by first|exact .inl rfl|exact .inr rfl|assumption):wpAny M A (storeName X.env x u) Q E s :=
 Zmn I hN hi hx r (λs' I' _=>h s' I') hf
theorem Inv.call' {s':Shared}{ch:List Addr} (I:Inv X pins σ H s) (ho:s'.os=s.os) (u:Un (frs X.stack) ch H H' s.heap s'.heap) (hok:HOk X.prog X.w H' s'.heap) (hg:AllBare s'.gens)
  (hch:∀b∈ch,(b∈X.ex\/X.s₀.heap.objs.size<=b)/\b≠X.env.locals/\(∀x c,X.env.cells.lookup x=some c->c≠b)/\∀p∈X.pn++pins,p.1≠b):Inv X pins σ H' s':=by
 obtain⟨h',g',d',t',o'⟩:=s'
 have e:o'=s.os:=ho
 subst e
 exact I.call (g':=g') (t':=t') (d':=d') u hok hg hch
end
noncomputable abbrev XK:=Value->Option Addr->Hp->Prop
noncomputable abbrev St:=List (Option V)
noncomputable abbrev VK:=V->Hp->Prop
noncomputable abbrev TE:=St->Hp->VK->Prop
noncomputable abbrev TT:=St->Hp->(Bool->Hp->Prop)->Prop
noncomputable abbrev TA:=St->Hp->(List V->Hp->Prop)->Prop
structure Ends where
 nx:St->Hp->Prop
 rt:VK
 bk:St->Hp->Prop:=λ_ _=>False
 ct:St->Hp->Prop:=λ_ _=>False
noncomputable abbrev TS:=Ends->St->Hp->Prop
noncomputable def EP (X:Cx) (pins:List (Addr×Obj)) (σ:St) (Q:VK) (u:Value) (s':Shared):Prop:=∃v H',Inv X pins σ H' s'/\RelV v u/\Q v H'
noncomputable def TP (X:Cx) (pins:List (Addr×Obj)) (σ:St) (Q:Bool->Hp->Prop) (b:Bool) (s':Shared):Prop:=∃H',Inv X pins σ H' s'/\Q b H'
noncomputable def AP (X:Cx) (pins:List (Addr×Obj)) (σ:St) (Q:List V->Hp->Prop) (us:List Value) (s':Shared):Prop:=∃vs H',Inv X pins σ H' s'/\Vals vs us/\Q vs H'
noncomputable def SP (X:Cx) (pins:List (Addr×Obj)) (D:Ends) (f:Flow) (s':Shared):Prop :=
 match f with
 |.next=>∃σ' H',Inv X pins σ' H' s'/\D.nx σ' H'
 |.brk=>∃σ' H',Inv X pins σ' H' s'/\D.bk σ' H'
 |.cont=>∃σ' H',Inv X pins σ' H' s'/\D.ct σ' H'
 |.ret u=>∃v σ' H',Inv X pins σ' H' s'/\RelV v u/\D.rt v H'
noncomputable def PE (X:Cx) (e:Expr) (t:TE):Prop :=
 ∀(pins:List (Addr×Obj)) (s:Shared) (σ:St) (H:Hp) (Q:VK),Inv X pins σ H s->t σ H Q->wpAny (model X.prog X.w) X.A (eval e X.env) (EP X pins σ Q) X.xe s
noncomputable def PT (X:Cx) (e:Expr) (t:TT):Prop :=
 ∀(pins:List (Addr×Obj)) (s:Shared) (σ:St) (H:Hp) (Q:Bool->Hp->Prop),Inv X pins σ H s->t σ H Q->wpAny (model X.prog X.w) X.A (isTrue e X.env (eval e X.env)) (TP X pins σ Q) X.xe s
noncomputable def PW (X:Cx) (e:Expr) (t:TT):Prop :=
 ∀(whole:Sem Value) (pins:List (Addr×Obj)) (s:Shared) (σ:St) (H:Hp) (Q:Bool->Hp->Prop),Inv X pins σ H s->t σ H Q->wpAny (model X.prog X.w) X.A (isTrue e X.env whole) (TP X pins σ Q) X.xe s
theorem PW.pt {X:Cx}{e:Expr}{t:TT} (h:PW X e t):PT X e t:=h _
noncomputable def PA (X:Cx) (es:List Expr) (t:TA):Prop :=
 ∀(pos:Pos) (pins:List (Addr×Obj)) (s:Shared) (σ:St) (H:Hp) (Q:List V->Hp->Prop),Inv X pins σ H s->t σ H Q->wpAny (model X.prog X.w) X.A (spliced (backTo pos (starEach es X.env))) (AP X pins σ Q) X.xe s
noncomputable def PS (X:Cx) (st:Stmt) (t:TS):Prop :=
 ∀(pins:List (Addr×Obj)) (s:Shared) (σ:St) (H:Hp) (D:Ends),Inv X pins σ H s->t D σ H->wpAny (model X.prog X.w) X.A (exec st X.env) (SP X pins D) X.xe s
noncomputable def PSs (X:Cx) (st:List Stmt) (t:TS):Prop :=
 ∀(pins:List (Addr×Obj)) (s:Shared) (σ:St) (H:Hp) (D:Ends),Inv X pins σ H s->t D σ H->wpAny (model X.prog X.w) X.A (execs st X.env) (SP X pins D) X.xe s
theorem thn {α:Type}{t:Sem α}{Q Q':α->Shared->Prop}{M:Model}{A:Around}{E:Value->Shared->Prop}{s:Shared} (h:wpAny M A t Q E s) (hQ:∀a s,Q a s->Q' a s):wpAny M A t Q' E s:=YI h hQ λ_ _ x=>x
section
variable {X:Cx}
noncomputable def tVar (i:Nat):TE:=fun σ H Q=>∃v,σ[i]?=some (some v)/\Q v H
noncomputable def tC (v:V):TE:=λ_ H Q=>Q v H
theorem pe_var {i:Nat}{x:Str}{pos:Pos} (hN:X.N[i]?=some x) (hv:Vis X.env.scope x) (hd:(x==("__debug__":Str))=false:=by decide) (hcd:(x==("__classdict__":Str))=false:=by decide):PE X (.Name x pos) (tVar i):=by
 intro pins s σ H Q I h
 obtain⟨v,e,h⟩:=h
 obtain⟨m,hn,hl⟩:=I.loc
 obtain⟨u,r,l⟩:=hl i x v hN e hv
 have fin:EP X pins σ Q u s:=⟨v,H,I,r,h⟩
 rcases l with⟨hk,hm⟩|⟨hk,c,hc,hcell⟩
 ·exact wpAny_Name (wpAny_loadName_local I.ok.kind hk hn hm fin) hd
 ·rcases hk with hk|hk
  ·exact wpAny_Name (wpAny_loadName_cell I.ok.kind hk hc hcell fin) hd
  ·exact wpAny_Name (wpAny_loadName_free I.ok.kind hk hc hcell fin hcd) hd
theorem Ze {i j pos}:PE X (.Constant (.int i) j pos) (tC (.int i)):=λ_ _ _ H _ I h=>wpAny_Constant_int ⟨.int i,H,I.tok _,⟨_,rfl⟩,h⟩
theorem Ze7 {b j pos}:PE X (.Constant (.bool b) j pos) (tC (.bl b)):=λ_ _ _ H _ I h=>Constant_bool ⟨.bl b,H,I,rfl,h⟩
theorem Zoa {j pos}:PE X (.Constant .none j pos) (tC .non):=λ_ _ _ H _ I h=>Constant_none ⟨.non,H,I,rfl,h⟩
theorem Zob {x j pos}:PE X (.Constant (.str x) j pos) (tC (.str x)):=λ_ _ _ H _ I h=>Calls.Constant_str ⟨.str x,H,I.tok _,⟨_,rfl⟩,h⟩
noncomputable def Gl (X:Cx) (x:Str):Prop:=X.env.kindOf x=some .globalImplicit
theorem ZfE {E:Value->Shared->Prop}{pins:List (Addr×Obj)}{s:Shared}{σ:St}{H:Hp}{x:Str}{u:Value}{pos:Pos}{Q:Value->Shared->Prop} (I:Inv X pins σ H s) (hg:Gl X x) (hm:X.mg x=some u) (h:Q u s)
  (hd:(x==("__debug__":Str))=false:=by decide):wpAny (model X.prog X.w) X.A (eval (.Name x pos) X.env) Q E s :=
 Calls.Name_function_global I.ok.kind hg (Calls.loadGlobal_global (by rw[I.ok.glob];exact I.mod.glob.keeps I.bk) hm h) hd
theorem ZdB {E:Value->Shared->Prop}{pins:List (Addr×Obj)}{s:Shared}{σ:St}{H:Hp}{x:Str}{u:Value}{pos:Pos}{Q:Value->Shared->Prop} (I:Inv X pins σ H s) (hg:Gl X x) (hm:X.mg x=none) (hv:bootBuiltins x=some u) (h:Q u s)
  (hn:x≠"__name__":=by decide) (hd:(x==("__debug__":Str))=false:=by decide):wpAny (model X.prog X.w) X.A (eval (.Name x pos) X.env) Q E s:=by
 obtain⟨mb,h1,h2⟩:=I.mod.blt
 exact Calls.Name_function_global I.ok.kind hg (Calls.loadGlobal_builtin (by rw[I.ok.glob];exact I.mod.glob.keeps I.bk) hm (by rw[I.ok.blt];exact h1.keeps I.bk) ((h2 x hn).trans hv) h) hd
theorem ZlK {x:Str}{v:V}{u:Value}{pos:Pos} (hg:Gl X x) (hm:X.mg x=some u) (r:RelV v u) (hd:(x==("__debug__":Str))=false:=by decide):PE X (.Name x pos) (tC v) :=
 λ_ _ _ H _ I h=>ZfE I hg hm ⟨v,H,I,r,h⟩ hd
variable {a b:Expr}{ta tb:TE}{pos:Pos}
noncomputable def PC (X:Cx) (op:CmpOp) (a b:Expr) (t:TE):Prop :=
 ∀(pins:List (Addr×Obj)) (s:Shared) (σ:St) (H:Hp) (Q:VK),Inv X pins σ H s->t σ H Q ->
  wpAny (model X.prog X.w) X.A (eval a X.env) (λv s₁=>wpAny (model X.prog X.w) X.A (eval b X.env) (λu s₂=>wpAny (model X.prog X.w) X.A (compareOp op v u) (EP X pins σ Q) X.xe s₂) X.xe s₁) X.xe s
theorem Zoc (b:Expr) {op:CmpOp} (h:op≠.In) (h2:op≠.NotIn):behindInMarks op b=false:=by
 have e1:(op==CmpOp.In)=false:=by cases op<;>first|rfl|exact absurd rfl h
 have e2:(op==CmpOp.NotIn)=false:=by cases op<;>first|rfl|exact absurd rfl h2
 cases b<;>simp[behindInMarks,e1,e2]
noncomputable def tB (t:TE):TT:=fun σ H Q=>t σ H λx H1=>∃c,x=.bl c/\Q c H1
theorem pt_cmp {op:CmpOp}{t:TE} (h:PC X op a b t) (h1:behindInMarks op b=false:=by first|exact Zoc _ (by decide) (by decide)|rfl):PT X (.Compare a [op] [b] pos) (tB t):=by
 intro pins s σ H Q I hw
 refine wpAny_isTrue_Compare1 (thn (h pins s σ H _ I hw) λv s1 h1=>thn h1 λu s2 h2=>thn h2 λc s3 ⟨x,H1,I1,r1,q1⟩=>?_) h1
 obtain⟨d,rfl,q⟩:=q1
 cases r1
 exact wpAny_truthy_bool ⟨H1,I1,q⟩
theorem ZkW {e:Expr}{t:TE} (h:PE X e t) (he:∀whole,isTrue e X.env whole=(do let v <-whole;standAt e.pos;holding [v] (truthy v)):=by intro _;rfl):PT X e (tB t):=by
 intro pins s σ H Q I hw
 refine isTrue_plain (thn (h pins s σ H _ I hw) λv s1 ⟨x,H1,I1,r1,q1⟩=>?_) (he _)
 obtain⟨d,rfl,q⟩:=q1
 cases r1
 exact wpAny_truthy_bool ⟨H1,I1,q⟩
variable {tA tB':TT}{rest:List Expr}
noncomputable def tAnd (t u:TT):TT:=fun σ H Q=>t σ H λc H1=>if c=true then u σ H1 Q else Q false H1
noncomputable def tOr (t u:TT):TT:=fun σ H Q=>t σ H λc H1=>if c=true then Q true H1 else u σ H1 Q
noncomputable def tNot (t:TT):TT:=fun σ H Q=>t σ H λc H1=>Q (!c) H1
theorem ZeZ (ha:PT X a tA):PW X (.BoolOp .And [a] pos) tA:=by
 intro wh pins s σ H Q I h
 refine isTrue_and (thn (ha pins s σ H Q I h) λc s1 e=>?_)
 cases c with
 |true=>exact isTrue_and_nil e
 |false=>exact e
theorem Zi4 (ha:PT X a tA):PW X (.BoolOp .Or [a] pos) tA:=by
 intro wh pins s σ H Q I h
 refine isTrue_or (thn (ha pins s σ H Q I h) λc s1 e=>?_)
 cases c with
 |false=>exact isTrue_or_nil e
 |true=>exact e
theorem Zgd (ha:PT X a tA) (hb:PW X (.BoolOp .And (b::rest) pos) tB'):PW X (.BoolOp .And (a::b::rest) pos) (tAnd tA tB'):=by
 intro wh pins s σ H Q I h
 refine isTrue_and (thn (ha pins s σ H _ I h) λc s1 ⟨H1,I1,q1⟩=>?_)
 cases c with
 |true=>exact hb wh pins s1 σ H1 Q I1 q1
 |false=>exact⟨H1,I1,q1⟩
theorem ZlL (ha:PT X a tA) (hb:PW X (.BoolOp .Or (b::rest) pos) tB'):PW X (.BoolOp .Or (a::b::rest) pos) (tOr tA tB'):=by
 intro wh pins s σ H Q I h
 refine isTrue_or (thn (ha pins s σ H _ I h) λc s1 ⟨H1,I1,q1⟩=>?_)
 cases c with
 |true=>exact⟨H1,I1,q1⟩
 |false=>exact hb wh pins s1 σ H1 Q I1 q1
theorem Zi5 (ha:PT X a tA):PT X (.UnaryOp .Not a pos) (tNot tA):=by
 intro pins s σ H Q I h
 exact isTrue_not (ha pins s σ H (λc H1=>Q (!c) H1) I h)
noncomputable def tAndV (ta tb:TE):TE:=fun σ H Q=>ta σ H λx H1=>∃c,x=.bl c/\if c=true then tb σ H1 Q else Q (.bl false) H1
theorem pe_one {op}{t:TE} (h:PE X a t):PE X (.BoolOp op [a] pos) t:=λpins s σ H Q I hw=>BoolOp_one (h pins s σ H Q I hw)
theorem pe_and (ha:PE X a ta) (hb:PE X (.BoolOp .And (b::rest) pos) tb):PE X (.BoolOp .And (a::b::rest) pos) (tAndV ta tb):=by
 intro pins s σ H Q I h
 refine BoolOp_and (thn (ha pins s σ H _ I h) λv s1 ⟨x,H1,I1,r1,q1⟩=>?_)
 obtain⟨c,rfl,q1⟩:=q1
 cases r1
 refine wpAny_truthy_bool ?_
 cases c with
 |true=>exact hb pins s1 σ H1 Q I1 q1
 |false=>exact⟨.bl false,H1,I1,rfl,q1⟩
noncomputable def tIf (t:TT) (ta tb:TE):TE:=fun σ H Q=>t σ H λc H1=>if c=true then ta σ H1 Q else tb σ H1 Q
theorem Zhv {c:Expr} (hc:PT X c tA) (ha:PE X a ta) (hb:PE X b tb):PE X (.IfExp c a b pos) (tIf tA ta tb):=by
 intro pins s σ H Q I h
 refine wpAny_IfExp (thn (hc pins s σ H _ I h) λd s1 ⟨H1,I1,q1⟩=>?_)
 cases d with
 |true=>exact ha pins s1 σ H1 Q I1 q1
 |false=>exact hb pins s1 σ H1 Q I1 q1
end
noncomputable def SqL (K:PySem.W.Frag) (H:Hp) (a:Addr) (xs:List V):Prop :=
 Rd H a (.lst xs) \/
  ∃(o:Obj) (its:Array Value) (n:Nat),K.lookup a=some o/\o.cls=.type "list"/\o.dict=none/\o.data=.seq its n/\its.size<=sizeLine/\Vals xs its.toList
noncomputable def SqT (K:PySem.W.Frag) (H:Hp) (a:Addr) (xs:List V):Prop :=
 Rd H a (.tup xs) \/
  ∃(o:Obj) (its:Array Value) (n:Nat),K.lookup a=some o/\o.cls=.type "tuple"/\o.data=.seq its n/\its.size<=sizeLine/\Vals xs its.toList
noncomputable def absV:Value->Option V
 |.none=>some .non
 |.bool b=>some (.bl b)
 |.int i _=>some (.int i)
 |.str x _=>some (.str x)
 |.bytes b _=>some (.byt b)
 |.float b _=>some (.flt b)
 |.ref a=>some (.ref a)
 |.type n=>some (.ty n)
 |_=>none
theorem RelV.abs {x:V}{u:Value} (r:RelV x u):absV u=some x:=by
 cases x with
 |non=>cases r;rfl
 |bl _=>cases r;rfl
 |int _=>obtain⟨t,rfl⟩:=r;rfl
 |str _=>obtain⟨t,rfl⟩:=r;rfl
 |byt _=>obtain⟨t,rfl⟩:=r;rfl
 |flt _=>obtain⟨t,rfl⟩:=r;rfl
 |ref _=>cases r;rfl
 |ty _=>cases r;rfl
theorem RelV.inj {x y:V}{u:Value} (r:RelV x u) (q:RelV y u):x=y:=Yq (r.abs.symm.trans q.abs)
theorem Vals.inj:∀{xs ys:List V}{us:List Value},Vals xs us->Vals ys us->xs=ys
 |_,_,_,.nil,.nil=>rfl
 |_,_,_,.cons r t,.cons r' t'=>by rw[r.inj r',Vals.inj t t']
section
variable {X:Cx}{pins:List (Addr×Obj)}{σ:St}{H:Hp}{s:Shared}{a:Addr}{xs ys:List V}
theorem SqL.of {K:PySem.W.Frag} (h:H a=some (.lst xs)):SqL K H a xs:=.inl (.inl h)
theorem SqT.of {K:PySem.W.Frag} (h:H a=some (.tup xs)):SqT K H a xs:=.inl (.inl h)
theorem Inv.list (I:Inv X pins σ H s) (h:SqL X.K H a xs):∃its:List Value,Vals xs its/\PlainL s.heap a its.toArray/\xs.length<=sizeLine:=by
 rcases h with h|⟨o,its,n,hk,hc,hd,hs,hz,r⟩
 ·obtain⟨z,its,n,r,e⟩:=h.ok I.hok
  exact⟨its,r,⟨_,n,e,rfl,rfl,rfl⟩,z⟩
 ·refine⟨its.toList,r,⟨o,n,I.kIn a o hk,hc,hd,by simpa using hs⟩,?_⟩
  have e:=r.length
  simp only[YN]at e
  omega
theorem Inv.tuple (I:Inv X pins σ H s) (h:SqT X.K H a xs):∃its:List Value,Vals xs its/\IsTup s.heap a its.toArray/\xs.length<=sizeLine:=by
 rcases h with h|⟨o,its,n,hk,hc,hs,hz,r⟩
 ·obtain⟨z,its,r,p⟩:=h.ok I.hok
  exact⟨its,r,p,z⟩
 ·refine⟨its.toList,r,⟨o,I.kIn a o hk,hc,n,by simpa using hs⟩,?_⟩
  have e:=r.length
  simp only[YN]at e
  omega
theorem Inv.Zcd (I:Inv X pins σ H s) (h:SqL X.K H a xs) (h':SqL X.K H a ys):xs=ys:=by
 obtain⟨its,r,⟨o,n,e,_,_,d⟩,_⟩:=I.list h
 obtain⟨its',r',⟨o',n',e',_,_,d'⟩,_⟩:=I.list h'
 rw[e]at e';cases e'
 rw[d]at d'
 injection d' with d1 _
 have:its=its':=by simpa using congrArg Array.toList d1
 subst this
 exact r.inj r'
theorem Inv.Ziw (I:Inv X pins σ H s) (h:SqT X.K H a xs) (h':SqT X.K H a ys):xs=ys:=by
 obtain⟨its,r,⟨o,e,_,n,d⟩,_⟩:=I.tuple h
 obtain⟨its',r',⟨o',e',_,n',d'⟩,_⟩:=I.tuple h'
 rw[e]at e';cases e'
 rw[d]at d'
 injection d' with d1 _
 have:its=its':=by simpa using congrArg Array.toList d1
 subst this
 exact r.inj r'
end
noncomputable abbrev Cx.Zif (X:Cx) (E:Value->Shared->Prop):Cx:={X with xe:=E}
noncomputable abbrev Cx.nox (X:Cx):Cx:=X.Zif λ_ _=>False
theorem Cx.Ok.Zif {X:Cx} (ok:X.Ok) (E:Value->Shared->Prop):(X.Zif E).Ok :=
 ⟨ok.mod,ok.kind,ok.glob,ok.blt,ok.above,ok.inj,ok.has,ok.cab,ok.hd,ok.frames,ok.stk,ok.exf,ok.bs,ok.bsz,ok.noex,ok.exfs,ok.funs,ok.frf⟩
theorem Cx.Ok.Zeb {X:Cx}{E:Value->Shared->Prop} (ok:(X.Zif E).Ok):X.Ok :=
 ⟨ok.mod,ok.kind,ok.glob,ok.blt,ok.above,ok.inj,ok.has,ok.cab,ok.hd,ok.frames,ok.stk,ok.exf,ok.bs,ok.bsz,ok.noex,ok.exfs,ok.funs,ok.frf⟩
section
variable {X:Cx}{pins:List (Addr×Obj)}{σ:St}{H:Hp}{s:Shared}{E:Value->Shared->Prop}
theorem Inv.Zif (I:Inv X pins σ H s) (E:Value->Shared->Prop):Inv (X.Zif E) pins σ H s:=⟨I.ok.Zif E,I.os,I.bare,I.base,I.loc,I.cell,I.free,I.freeC,I.pin,I.hok,I.len⟩
theorem Inv.Zeb (I:Inv (X.Zif E) pins σ H s):Inv X pins σ H s:=⟨I.ok.Zeb,I.os,I.bare,I.base,I.loc,I.cell,I.free,I.freeC,I.pin,I.hok,I.len⟩
theorem SP.Zeb {D:Ends}{f:Flow}{s':Shared} (h:SP (X.Zif E) pins D f s'):SP X pins D f s':=by
 cases f with
 |next=>obtain⟨σ',H',I,q⟩:=h;exact⟨σ',H',I.Zeb,q⟩
 |brk=>obtain⟨σ',H',I,q⟩:=h;exact⟨σ',H',I.Zeb,q⟩
 |cont=>obtain⟨σ',H',I,q⟩:=h;exact⟨σ',H',I.Zeb,q⟩
 |ret u=>obtain⟨v,σ',H',I,r,q⟩:=h;exact⟨v,σ',H',I.Zeb,r,q⟩
end
section
variable {X:Cx}{st:Stmt}{rest:List Stmt}{t u:TS}{e:Expr}{te:TE}{pos:Pos}
noncomputable def tNext:TS:=λD σ H=>D.nx σ H
noncomputable def tSeq (t u:TS):TS:=λD σ H=>t {D with nx:=u D} σ H
theorem ZW:PSs X [] tNext:=λ_ _ σ H _ I h=>wpAny_execs_nil ⟨σ,H,I,h⟩
theorem Zd (h1:PS X st t) (h2:PSs X rest u):PSs X (st::rest) (tSeq t u):=by
 intro pins s σ H D I h
 refine wpAny_execs_cons (thn (h1 pins s σ H {D with nx:=u D} I h) λf s1 q=>?_)
 cases f with
 |next =>
  obtain⟨σ',H',I',q⟩:=q
  exact h2 pins s1 σ' H' D I' q
 |ret v=>exact q
 |brk=>exact q
 |cont=>exact q
theorem Zg (h1:PS X st t):PSs X [st] t:=by
 intro pins s σ H D I h
 refine wpAny_execs_cons (thn (h1 pins s σ H D I h) λf s1 q=>?_)
 cases f with
 |next=>exact wpAny_execs_nil q
 |ret v=>exact q
 |brk=>exact q
 |cont=>exact q
theorem Inv.quiet {pins:List (Addr×Obj)}{σ:St}{H:Hp}{s:Shared} (I:Inv X pins σ H s):interactive X.env=false:=by simp[interactive,I.ok.kind]
noncomputable def tDrop (te:TE):TS:=λD σ H=>te σ H λ_ H1=>D.nx σ H1
theorem ZA (he:PE X e te) (hs:swapsWith e none pos.line X.env=pure false:=by rfl):PS X (.Expr e pos) (tDrop te):=by
 intro pins s σ H D I h
 exact wpAny_Expr_any (thn (he pins s σ H _ I h) λv s1 ⟨x,H1,I1,r1,q1⟩=>⟨σ,H1,I1,q1⟩) I.quiet hs
noncomputable def tRet (te:TE):TS:=λD σ H=>te σ H D.rt
theorem ZC (he:PE X e te):PS X (.Return (some e) pos) (tRet te):=by
 intro pins s σ H D I h
 exact wpAny_Return_some (thn (he pins s σ H _ I h) λv s1 ⟨x,H1,I1,r1,q1⟩=>⟨x,σ,H1,I1,r1,q1⟩)
noncomputable def tIfS (c:TT) (t u:TS):TS:=λD σ H=>c σ H λb H1=>if b=true then t D σ H1 else u D σ H1
theorem Zag {c:Expr}{a b:List Stmt}{tc:TT} (hc:PT X c tc) (ha:PSs X a t) (hb:PSs X b u):PS X (.If c a b pos) (tIfS tc t u):=by
 intro pins s σ H D I h
 refine wpAny_If (thn (hc pins s σ H _ I h) λd s1 ⟨H1,I1,q1⟩=>?_)
 cases d with
 |true=>exact ha pins s1 σ H1 D I1 q1
 |false=>exact hb pins s1 σ H1 D I1 q1
end
noncomputable abbrev TG:=V->St->Hp->(St->Hp->Prop)->Prop
noncomputable abbrev TGs:=List V->St->Hp->(St->Hp->Prop)->Prop
noncomputable def PG (X:Cx) (target:Expr) (t:TG):Prop :=
 ∀(pins:List (Addr×Obj)) (s:Shared) (σ:St) (H:Hp) (v:V) (u:Value) (Q:St->Hp->Prop),Inv X pins σ H s->RelV v u->t v σ H Q ->
  wpAny (model X.prog X.w) X.A (assign target X.env u) (λ_ s'=>∃σ' H',Inv X pins σ' H' s'/\Q σ' H') X.xe s
noncomputable def PGs (X:Cx) (ts:List Expr) (t:TGs):Prop :=
 ∀(pins:List (Addr×Obj)) (s:Shared) (σ:St) (H:Hp) (vs:List V) (us:List Value) (Q:St->Hp->Prop),Inv X pins σ H s->Vals vs us->t vs σ H Q ->
  wpAny (model X.prog X.w) X.A (assignInOrder ((assignEach ts X.env).map (·.2)) us) (λ_ s'=>∃σ' H',Inv X pins σ' H' s'/\Q σ' H') X.xe s
noncomputable abbrev TSet:=V->V->V->Hp->(Hp->Prop)->Prop
noncomputable def PSet (X:Cx) (t:TSet):Prop :=
 ∀(pins:List (Addr×Obj)) (s:Shared) (σ:St) (H:Hp) (o i v:V) (ov iv u:Value) (Q:Hp->Prop),Inv X pins σ H s->RelV o ov->RelV i iv->RelV v u->t o i v H Q ->
  wpAny (model X.prog X.w) X.A (setItem ov iv u) (λ_ s'=>∃H',Inv X pins σ H' s'/\Q H') X.xe s
noncomputable abbrev TIp:=V->V->Hp->VK->Prop
noncomputable def PIp (X:Cx) (op:Operator) (t:TIp):Prop :=
 ∀(pins:List (Addr×Obj)) (s:Shared) (σ:St) (H:Hp) (x y:V) (v u:Value) (Q:VK),Inv X pins σ H s->RelV x v->RelV y u->t x y H Q ->
  wpAny (model X.prog X.w) X.A (inplaceOp op v u) (EP X pins σ Q) X.xe s
section
variable {X:Cx}{pos:Pos}
noncomputable def gName (i:Nat):TG:=λv σ H Q=>Q (σ.set i (some v)) H
theorem Zo {i:Nat}{x:Str} (hN:X.N.Nodup) (hi:X.N[i]?=some x) (hx:Loc X.env.scope x) (hf:X.fn x=true\/X.env.scope.names.lookup x=some .local:=by first|exact .inl rfl|exact .inr rfl|assumption):PG X (.Name x pos) (gName i):=by
 intro pins s σ H v u Q I r h
 exact wpAny_assign_Name (Zea I hN hi hx r (λs' I'=>⟨_,H,I',h⟩) hf)
noncomputable def gNil:TGs:=λvs σ H Q=>vs=[]/\Q σ H
noncomputable def gCons (t:TG) (u:TGs):TGs:=λvs σ H Q=>∃v r,vs=v::r/\t v σ H fun σ' H'=>u r σ' H' Q
theorem Za8:PGs X [] gNil:=by
 intro pins s σ H vs us Q I r h
 obtain⟨e,h⟩:=h
 subst e
 cases r
 exact assignInOrder_nil ⟨σ,H,I,h⟩
theorem ZD {e:Expr}{es:List Expr}{t:TG}{u:TGs} (h1:PG X e t) (h2:PGs X es u)
  (hs:(assignEach (e::es) X.env).map (·.2)=assign e X.env::(assignEach es X.env).map (·.2):=by rfl):PGs X (e::es) (gCons t u):=by
 intro pins s σ H vs us Q I r h
 obtain⟨v,vr,e1,h⟩:=h
 subst e1
 cases r with
 |cons r rr =>
  rw[hs]
  refine assignInOrder_cons (thn (h1 pins s σ H _ _ _ I r h) λ_ s1 ⟨σ1,H1,I1,q1⟩=>?_)
  exact h2 pins s1 σ1 H1 _ _ Q I1 rr q1
noncomputable def gTup (K:PySem.W.Frag) (n:Nat) (t:TGs):TG:=λv σ H Q=>∃a xs,v=.ref a/\SqT K H a xs/\xs.length=n/\t xs σ H Q
theorem ZdC {es:List Expr}{k:Nat}{t:TGs}{n:Nat} (hc:X.calm=true) (h:PGs X es t)
  (hn:(assignEach es X.env).length=n:=by rfl) (hst:(assignEach es X.env).findIdx? (·.1)=none:=by rfl):PG X (.Tuple es k pos) (gTup X.K n t):=by
 intro pins s σ H v u Q I r hw
 obtain⟨a,xs,e1,hq,hl,hw⟩:=hw
 subst e1
 cases r
 obtain⟨its,rv,ht,hz⟩:=I.tuple hq
 refine assign_Tuple_tuple (I.ok.hd hc) ht (by simp[hn,<-hl,rv.length]) hst λh' hx=>?_
 have I1:Inv X pins σ H {s with heap:=h'}:=I.kept (t':=s.toks) λb o e=>hx b o (Yo (Yh e)) e
 exact h pins _ σ H xs _ Q I1 (by simpa using rv) hw
noncomputable def gSub (to ti:TE) (t:TSet):TG:=λv σ H Q=>to σ H λo H1=>ti σ H1 λi H2=>t o i v H2 λH3=>Q σ H3
theorem ZkX {o i:Expr}{to ti:TE}{t:TSet} (ho:PE X o to) (hi:PE X i ti) (hs:PSet X t)
  (ha:∀v,assign (.Subscript o i pos) X.env v=(do
   let ov <-holding [v] (eval o X.env)
   let iv <-holding [v,ov] (eval i X.env)
   standAt pos
   holding [v,ov,iv] (setItem ov iv v)
   release [v,ov,iv] []):=by intro _;rfl):PG X (.Subscript o i pos) (gSub to ti t):=by
 intro pins s σ H v u Q I r h
 rw[ha]
 refine Ya (wpAny_holding (thn (ho pins s σ H _ I h) λov s1 ⟨x,H1,I1,r1,q1⟩=>?_))
 refine Ya (wpAny_holding (thn (hi pins s1 σ H1 _ I1 q1) λiv s2 ⟨y,H2,I2,r2,q2⟩=>?_))
 refine Ya (wpAny_standAt (Ya (wpAny_holding (thn (hs pins s2 σ H2 x y v ov iv u _ I2 r1 r2 r q2) λ_ s3 ⟨H3,I3,q3⟩=>?_))))
 exact wpAny_release ⟨σ,H3,I3,q3⟩
noncomputable def tAsg (te:TE) (g:TG):TS:=λD σ H=>te σ H λx H1=>g x σ H1 D.nx
theorem Zhw {tg e:Expr}{te:TE}{g:TG} (he:PE X e te) (hg:PG X tg g) (hs:swapsWithSole [tg] e pos.line X.env=pure false:=by rfl) (hw:swappedStores [tg] e X.env=pure none:=by rfl)
  (h1:(assignEach [tg] X.env).map (·.2)=[assign tg X.env]:=by rfl):PS X (.Assign [tg] e pos) (tAsg te g):=by
 intro pins s σ H D I h
 refine wpAny_Assign_stores (thn (he pins s σ H _ I h) λv s1 ⟨x,H1,I1,r1,q1⟩=>?_) hs hw
 rw[h1]
 exact thn (hg pins s1 σ H1 x v _ I1 r1 q1) λ_ s2 q=>q
theorem Zq {i:Nat}{x:Str}{e:Expr}{te:TE}{pos':Pos} (hN:X.N.Nodup) (hi:X.N[i]?=some x) (hx:Loc X.env.scope x) (he:PE X e te) (hs:swapsWith e (some (.Name x pos')) pos.line X.env=pure false:=by rfl) (hf:X.fn x=true\/X.env.scope.names.lookup x=some .local:=by first|exact .inl rfl|exact .inr rfl|assumption) :
  PS X (.Assign [.Name x pos'] e pos) (tAsg te (gName i)):=by
 intro pins s σ H D I h
 refine wpAny_Assign_Name (thn (he pins s σ H _ I h) λv s1 ⟨y,H1,I1,r1,q1⟩=>?_) hs
 exact Zea I1 hN hi hx r1 (λs2 I2=>⟨_,H1,I2,q1⟩) hf
noncomputable def tPar (i j:Nat) (ta:TA):TS:=λD σ H=>ta σ H λvs H1=>∃v w,vs=[v,w]/\D.nx ((σ.set i (some v)).set j (some w)) H1
theorem Zod {i j:Nat}{x y:Str}{a b:Expr}{ta:TA}{px py pt:Pos} {kt k2 pt2} (hc:X.calm=true) (hN:X.N.Nodup) (hi:X.N[i]?=some x) (hj:X.N[j]?=some y) (hij:i≠j)
  (hx:X.env.scope.names.lookup x=some .local) (hy:X.env.scope.names.lookup y=some .local) (ha:PA X [a,b] ta)
  (hw:swappedStores [.Tuple [.Name x px,.Name y py] kt pt] (.Tuple [a,b] k2 pt2) X.env=pure (some [x,y]))
  (hs:swapsWithSole [.Tuple [.Name x px,.Name y py] kt pt] (.Tuple [a,b] k2 pt2) pos.line X.env=pure false:=by rfl) :
  PS X (.Assign [.Tuple [.Name x px,.Name y py] kt pt] (.Tuple [a,b] k2 pt2) pos) (tPar i j ta):=by
 intro pins s σ H D I h
 rw[exec_Assign_arm]
 refine Ya (wpAny_standAt ?_)
 rw[hs]
 refine Ya (Yc ?_)
 rw[Yb (by decide)]
 refine Ya (Tuple_ (thn (ha _ pins s σ H _ I h) λus s1 ⟨vs,H1,I1,r1,q1⟩=>?_))
 obtain⟨v,w,e1,q1⟩:=q1
 subst e1
 obtain⟨u1,u2,rfl,rv,rw'⟩:∃u1 u2,us=[u1,u2]/\RelV v u1/\RelV w u2:=by
  cases r1 with
  |cons p q =>
   cases q with
   |cons p' q' =>
    cases q'
    exact⟨_,_,rfl,p,p'⟩
 refine wpAny_newObj_type ?_ (by show 2<=sizeLine;decide)
 have I2:Inv X pins σ H1 {s1 with heap:=s1.heap.push {cls:=.type "tuple",data:=.seq [u1,u2].toArray}}:=I1.kept (t':=s1.toks) λb o e=>Yi _ e
 rw[hw]
 refine Ya (Yc ?_)
 show wpAny (model X.prog X.w) X.A (do rule "assign.swapped-stores";let items <-unpackItems (.ref s1.heap.objs.size) 2 none;assignInOrder [λv=>bindName X.env y v,λv=>bindName X.env x v] items.reverse;pure Flow.next) _ _ _
 refine Ya (wpAny_rule (Ya (unpackItems_tuple (items:=#[u1,u2]) (I.ok.hd hc) (IsTup.new s1.heap _) λh' hx'=>?_)))
 have I3:=I2.kept (h':=h') (t':=s1.toks) λb o e=>hx' b o (Yo (Yh e)) e
 show wpAny _ _ (assignInOrder [λv=>bindName X.env y v,λv=>bindName X.env x v] [u2,u1] >>= λ_=>pure Flow.next) _ _ _
 refine Ya (assignInOrder_cons (wpAny_bindName (Zea I3 hN hj (.inl hy) rw' (λs2 I4=>?_) (.inr hy))))
 refine assignInOrder_cons (wpAny_bindName (Zea I4 hN hi (.inl hx) rv (λs3 I5=>assignInOrder_nil (Yc ?_)) (.inr hx)))
 rw[List.set_comm _ _ (Ne.symm hij)]at I5
 exact⟨_,H1,I5,q1⟩
noncomputable def tAug (i:Nat) (te:TE) (ti:TIp):TS:=λD σ H=>∃x,σ[i]?=some (some x)/\te σ H λy H1=>ti x y H1 λz H2=>D.nx (σ.set i (some z)) H2
theorem ps_aug {i:Nat}{x:Str}{e:Expr}{te:TE}{op:Operator}{ti:TIp}{pos':Pos} (hN:X.N.Nodup) (hi:X.N[i]?=some x) (hx:Loc X.env.scope x) (he:PE X e te) (ho:PIp X op ti) (hf:X.fn x=true\/X.env.scope.names.lookup x=some .local:=by first|exact .inl rfl|exact .inr rfl|assumption) :
  PS X (.AugAssign (.Name x pos') op e pos) (tAug i te ti):=by
 intro pins s σ H D I h
 obtain⟨v,e1,h⟩:=h
 obtain⟨m,hn,hl⟩:=I.loc
 have vis:Vis X.env.scope x:=by rcases hx with k|k;exact .inl k;exact .inr (.inl k)
 obtain⟨u,r,l⟩:=hl i x v hi e1 vis
 refine wpAny_AugAssign_Name ?_
 have go:wpAny (model X.prog X.w) X.A (eval e X.env) (λw s₂=>wpAny (model X.prog X.w) X.A (inplaceOp op u w) (λr s₃=>wpAny (model X.prog X.w) X.A (storeName X.env x r) (λ_=>SP X pins D .next) X.xe s₃) X.xe s₂) X.xe s:=by
  refine thn (he pins s σ H _ I h) λw s1 ⟨y,H1,I1,r1,q1⟩=>?_
  refine thn (ho pins s1 σ H1 v y u w _ I1 r r1 q1) λz s2 ⟨zv,H2,I2,r2,q2⟩=>?_
  exact Zea I2 hN hi hx r2 (λs3 I3=>⟨_,H2,I3,q2⟩) hf
 rcases l with⟨hk,hm⟩|⟨hk,c,hc,hcell⟩
 ·exact wpAny_loadName_local I.ok.kind hk hn hm go
 ·rcases hk with hk|hk
  ·exact wpAny_loadName_cell I.ok.kind hk hc hcell go
  ·rcases hx with k|k
   ·have:X.env.scope.names.lookup x=some .free:=hk
    rw[k]at this;cases this
   ·have:X.env.scope.names.lookup x=some .free:=hk
    rw[k]at this;cases this
noncomputable def ipI (f:Int->Int->Int):TIp:=λx y H Q=>∃i j,x=.int i/\y=.int j/\Q (.int (f i j)) H
theorem ip_sub:PIp X .Sub (ipI λi j=>i-j):=by
 intro pins s σ H x y v u Q I r1 r2 h
 obtain⟨i,j,e1,e2,q⟩:=h
 subst e1;subst e2
 obtain⟨t,rfl⟩:=r1
 obtain⟨t',rfl⟩:=r2
 exact isub_int ⟨.int _,H,I.tok _,⟨_,rfl⟩,q⟩
end
section
variable {X:Cx}{pos:Pos}
noncomputable def ZkY (c:TT) (tb:TS):TS:=λD σ H=>∃W:Nat->St->Hp->Prop,(∃m,W m σ H)/\∀m σ H,W m σ H ->
 c σ H λb H1=>if b=true then ∃N:St->Hp->Prop,(∀σ' H',N σ' H'->∃m',m'<m/\W m' σ' H')/\tb {D with nx:=N,ct:=N,bk:=D.nx} σ H1 else D.nx σ H1
theorem Zec {c:Expr}{body:List Stmt}{tc:TT}{tb:TS} (hp:PassesOwn (model X.prog X.w) X.A X.env X.xe) (hc:PT X c tc) (hb:PSs X body tb):PS X (.While c body [] pos) (ZkY tc tb):=by
 intro pins s σ H D I h
 obtain⟨W,⟨m0,w0⟩,turn⟩:=h
 refine wpAny_While (codeAny_whileLoop (λn s'=>∃σ' H',Inv X pins σ' H' s'/\W n σ' H') ?_ m0 ⟨σ,H,I,w0⟩)
 rintro n s1 ⟨σ1,H1,I1,w1⟩
 refine wpAny_passesOwn hp (thn (hc pins s1 σ1 H1 _ I1 (turn n σ1 H1 w1)) λb s2 ⟨H2,I2,q2⟩=>?_)
 cases b with
 |true =>
  obtain⟨N,hN,q2⟩:=q2
  rw[Yd rfl]
  refine wpAny_passesOwn hp (thn (hb pins s2 σ1 H2 _ I2 q2) λf s3 q3=>?_)
  cases f with
  |next =>
   obtain⟨σ3,H3,I3,n3⟩:=q3
   obtain⟨m',hm,w3⟩:=hN σ3 H3 n3
   exact⟨m',hm,σ3,H3,I3,w3⟩
  |cont =>
   obtain⟨σ3,H3,I3,n3⟩:=q3
   obtain⟨m',hm,w3⟩:=hN σ3 H3 n3
   exact⟨m',hm,σ3,H3,I3,w3⟩
  |brk=>exact q3
  |ret v=>exact q3
 |false =>
  rw[Yb Ys]
  exact wpAny_execs_nil ⟨σ1,H2,I2,q2⟩
end
structure It where
 go:Nat->Hp->Prop
 yld:Nat->Hp->V->Hp->Prop
 stop:Nat->Hp->Prop
noncomputable def FpOk (X:Cx) (pins:List (Addr×Obj)) (H:Hp) (b:Addr):Prop :=
 H b=none/\b≠X.env.locals/\b∉X.fs/\(b∈X.ex\/X.s₀.heap.objs.size<=b)/\(∀x c,X.env.cells.lookup x=some c->c≠b)/\∀p∈X.pn++pins,p.1≠b
theorem Inv.fpOk {X:Cx}{pins:List (Addr×Obj)}{σ:St}{H H':Hp}{s:Shared}{b:Addr} (I:Inv X pins σ H s) (hb:s.heap.objs.size<=b) (hn:H' b=none):FpOk X pins H' b:=by
 refine⟨hn,Nat.ne_of_gt (Yt I.lt hb),I.nofs hb,.inr (Yj I.sz hb),λx c e z=>?_,λp hp z=>?_⟩
 ·obtain⟨v,q⟩:=I.cell x c e
  exact absurd (Yt q.lt (by rw[z];exact hb)) (Yx _)
 ·exact absurd (Yt (Yh (I.pin p hp).1) (by rw[z];exact hb)) (Yx _)
structure Turn (P:Program) (w:World) (K:PySem.W.Frag) (tg:Expr) (J:It) (fp:List Addr) (it:Addr) (tn:Nat->Heap->Prop):Prop where
 mem:it∈fp
 obj:∀i h,tn i h->∀b∈fp,∃o,h.get? b=some o/\∀v,o.data≠.cell v
 keep:∀i h h',tn i h->(∀b∈fp,∀o,h.get? b=some o->h'.get? b=some o)->tn i h'
 item:∀(X:Cx),X.prog=P->X.w=w->X.K=K->X.calm=true->∀(i:Nat) (pins:List (Addr×Obj)) (s:Shared) (σ:St) (H:Hp) (E:Value->Shared->Prop),Inv X pins σ H s->(∀b∈fp,FpOk X pins H b)->tn i s.heap->J.go i H ->
  wpAny (model P w) X.A (pyNext (.ref it)) (λr s1=>∃u,r=some u /\
   wpAny (model P w) X.A (letOwnedTupleGo tg (.ref it) u) (λ_ s2=>∃x H',Inv X pins σ H' s2/\RelV x u/\J.yld i H x H'/\tn (i+1) s2.heap/\∀b∈fp,H' b=none) E s1) E s
 done:∀(X:Cx),X.prog=P->X.w=w->X.K=K->X.calm=true->∀(i:Nat) (pins:List (Addr×Obj)) (s:Shared) (σ:St) (H:Hp) (E:Value->Shared->Prop),Inv X pins σ H s->(∀b∈fp,FpOk X pins H b)->tn i s.heap->J.stop i H ->
  wpAny (model P w) X.A (pyNext (.ref it)) (λr s1=>r=none/\Inv X pins σ H s1) E s
 self:∀(A:Around) (i:Nat) (s:Shared) (Q:Value->Shared->Prop) (E:Value->Shared->Prop),tn i s.heap->Q (.ref it) s->wpAny (model P w) A (pyIter (.ref it)) Q E s
noncomputable abbrev TI:=St->Hp->(It->Hp->Prop)->Prop
noncomputable def PIE (X:Cx) (pins:List (Addr×Obj)) (σ:St) (tg:Expr) (R:It->Hp->Prop) (itv:Value) (s2:Shared):Prop :=
 ∃(it:Addr) (fp:List Addr) (tn:Nat->Heap->Prop) (J:It) (H':Hp),itv=.ref it/\Inv X pins σ H' s2/\Turn X.prog X.w X.K tg J fp it tn/\tn 0 s2.heap/\(∀b∈fp,FpOk X pins H' b)/\R J H'
noncomputable def PI (X:Cx) (tg iter:Expr) (wi:TI):Prop :=
 ∀(pins:List (Addr×Obj)) (s:Shared) (σ:St) (H:Hp) (R:It->Hp->Prop),Inv X pins σ H s->wi σ H R ->
  wpAny (model X.prog X.w) X.A (eval iter X.env) (λv s1=>wpAny (model X.prog X.w) X.A (pyIter v) (PIE X pins σ tg R) X.xe s1) X.xe s
theorem Zoe {M : Model} {A : Around} {E : Value → Shared → Prop} {s : Shared} {tg : Expr} {it : Addr} {u : Value} {o : Obj} {n : String} {vs : Array Value} {Q : Unit → Shared → Prop} (ho : s.heap.get? it = some o) (hc : o.cls = .type n) (hd : o.data = .fields vs)
    (hn : ["enumerate", "zip", "dict_itemiterator", "dict_reverseitemiterator", "odict_iterator", "itertools.zip_longest", "itertools.pairwise"].contains n = false) (hQ : Q () s) : wpAny M A (letOwnedTupleGo tg (.ref it) u) Q E s := by
  unfold letOwnedTupleGo
  cases tg <;> first
    | exact Yc hQ
    | (cases u <;> first
        | exact Yc hQ
        | (refine Ya (wpAny_load ho ?_)
           rw [hc, hd]
           show wpAny M A (if (["enumerate", "zip", "dict_itemiterator", "dict_reverseitemiterator", "odict_iterator", "itertools.zip_longest", "itertools.pairwise"].contains n && vs[0]? == some (rawInt _)) = true then _ else _) Q E s
           rw [Yb (by intro h; rw [hn, Bool.false_and] at h; cases h)]
           exact Yc hQ))
noncomputable def Itl (K:PySem.W.Frag) (a:Addr):It :=
 ⟨λi H=>∃xs x,SqL K H a xs/\xs[i]?=some x,λi H x H'=>H'=H/\∀xs,SqL K H a xs->xs[i]?=some x,λi H=>∃xs,SqL K H a xs/\xs.length<=i⟩
noncomputable def Itt (K:PySem.W.Frag) (a:Addr):It :=
 ⟨λi H=>∃xs x,SqT K H a xs/\xs[i]?=some x,λi H x H'=>H'=H/\∀xs,SqT K H a xs->xs[i]?=some x,λi H=>∃xs,SqT K H a xs/\xs.length<=i⟩
noncomputable def Itr (lo:Int) (n:Nat):It:=⟨λi _=>i<n,λi H x H'=>H'=H/\x=.int (lo+i),λi _=>n<=i⟩
theorem Zmo {P:Program}{w:World}{K:PySem.W.Frag}{tg:Expr} (a it:Addr):Turn P w K tg (Itl K a) [it] it (λi h=>h.IsListIter it a i) where
 mem:=by simp
 obj:=λi h st b hb=>by
  have e:b=it:=by simpa using hb
  subst e
  obtain⟨o,e,c,d⟩:=st
  exact⟨o,e,λv z=>by rw[d]at z;cases z⟩
 keep:=λi h h' st k=>st.at λo e=>k it (by simp) o e
 item:=by
  intro X hP hw hK hc i pins s σ H E I hf st hg
  subst hP hw hK
  obtain⟨xs,x,hq,hx⟩:=hg
  obtain⟨its,rv,p,hz⟩:=I.list hq
  obtain⟨u,hu,ru⟩:=rv.get hx
  obtain⟨f0,f1,f2,f3,f4,f5⟩:=hf it (by simp)
  refine wpAny_pyNext_list_item st p.isList (x:=u) (by simpa using hu) λh' st' sb=>?_
  have I1:Inv X pins σ H {s with heap:=h'}:=I.turned (t':=s.toks) (λb o hb e=>(sb.2 b hb).trans e) f0 f1 f3 f4 f5
  obtain⟨o,e,c,d⟩:=id st'
  exact⟨u,rfl,Zoe (s:={s with heap:=h'}) e c d (by decide) ⟨x,H,I1,ru,⟨rfl,λys hy=>by rw[I.Zcd hy hq];exact hx⟩,st',λb hb=>(hf b hb).1⟩⟩
 done:=by
  intro X hP hw hK hc i pins s σ H E I hf st hg
  subst hP hw hK
  obtain⟨xs,hq,hx⟩:=hg
  obtain⟨its,rv,p,hz⟩:=I.list hq
  obtain⟨f0,f1,f2,f3,f4,f5⟩:=hf it (by simp)
  have hl:=rv.length
  exact wpAny_pyNext_list_end (I.ok.hd hc) st p.isList (by simp;omega) λh' eb=>⟨rfl,I.turned (t':=s.toks) (λb o hb e=>eb b o hb e) f0 f1 f3 f4 f5⟩
 self:=λ_ _ _ _ _ st h=>wpAny_pyIter_listiter st h
theorem ZkZ {P:Program}{w:World}{K:PySem.W.Frag}{tg:Expr} (a it:Addr):Turn P w K tg (Itt K a) [it] it (λi h=>h.IsTupleIter it a i) where
 mem:=by simp
 obj:=λi h st b hb=>by
  have e:b=it:=by simpa using hb
  subst e
  obtain⟨o,e,c,d⟩:=st
  exact⟨o,e,λv z=>by rw[d]at z;cases z⟩
 keep:=λi h h' st k=>st.at λo e=>k it (by simp) o e
 item:=by
  intro X hP hw hK hc i pins s σ H E I hf st hg
  subst hP hw hK
  obtain⟨xs,x,hq,hx⟩:=hg
  obtain⟨its,rv,p,hz⟩:=I.tuple hq
  obtain⟨u,hu,ru⟩:=rv.get hx
  obtain⟨f0,f1,f2,f3,f4,f5⟩:=hf it (by simp)
  refine wpAny_pyNext_tuple_item st (show s.heap.IsTuple a its.toArray from p) (x:=u) (by simpa using hu) λh' st' sb=>?_
  have I1:Inv X pins σ H {s with heap:=h'}:=I.turned (t':=s.toks) (λb o hb e=>(sb.2 b hb).trans e) f0 f1 f3 f4 f5
  obtain⟨o,e,c,d⟩:=id st'
  exact⟨u,rfl,Zoe (s:={s with heap:=h'}) e c d (by decide) ⟨x,H,I1,ru,⟨rfl,λys hy=>by rw[I.Ziw hy hq];exact hx⟩,st',λb hb=>(hf b hb).1⟩⟩
 done:=by
  intro X hP hw hK hc i pins s σ H E I hf st hg
  subst hP hw hK
  obtain⟨xs,hq,hx⟩:=hg
  obtain⟨its,rv,p,hz⟩:=I.tuple hq
  obtain⟨f0,f1,f2,f3,f4,f5⟩:=hf it (by simp)
  have hl:=rv.length
  exact wpAny_pyNext_tuple_end (I.ok.hd hc) st (show s.heap.IsTuple a its.toArray from p) (by simp;omega) λh' eb=>⟨rfl,I.turned (t':=s.toks) (λb o hb e=>eb b o hb e) f0 f1 f3 f4 f5⟩
 self:=λ_ _ _ _ _ st h=>wpAny_pyIter_tupleiter st h
theorem Zk0 {P:Program}{w:World}{K:PySem.W.Frag}{tg:Expr} (it:Addr) (lo:Int) (n:Nat):Turn P w K tg (Itr lo n) [it] it (λi h=>IsRangeIter h it (lo+(i:Nat)*1) ((n:Int)-(i:Nat)) 1) where
 mem:=by simp
 obj:=λi h st b hb=>by
  have e:b=it:=by simpa using hb
  subst e
  exact⟨_,st,λv z=>by
   have z':Data.fields _=Data.cell v:=z
   cases z'⟩
 keep:=λi h h' st k=>k it (by simp) _ st
 item:=by
  intro X hP hw hK hc i pins s σ H E I hf st hg
  subst hP hw hK
  obtain⟨f0,f1,f2,f3,f4,f5⟩:=hf it (by simp)
  have W:=Walks.range (prog:=X.prog) (w:=X.w) (I.ok.hd hc) it lo 1 n
  refine W.item i s _ _ hg st λv h' tk hv st' kk=>?_
  obtain⟨t,rfl⟩:=hv
  have I1:Inv X pins σ H {s with heap:=h',toks:=tk}:=I.turned (λb o hb e=>kk b o (by simpa using hb) e) f0 f1 f3 f4 f5
  refine⟨_,rfl,Zoe (s:={s with heap:=h',toks:=tk}) (n:="range_iterator") st' rfl rfl (by decide) ⟨.int (lo+i),H,I1,⟨t,?_⟩,⟨rfl,rfl⟩,st',λb hb=>(hf b hb).1⟩⟩
  rw[Int.mul_one]
 done:=by
  intro X hP hw hK hc i pins s σ H E I hf st hg
  subst hP hw hK
  obtain⟨f0,f1,f2,f3,f4,f5⟩:=hf it (by simp)
  exact wpAny_pyNext_range_end (I.ok.hd hc) st (by have:n<=i:=hg;omega) λh' eb=>⟨rfl,I.turned (t':=s.toks) (λb o hb e=>eb b o hb e) f0 f1 f3 f4 f5⟩
 self:=λ_ _ _ _ _ st h=>wpAny_pyIter_rangeiter st h
section
variable {X:Cx}{tg:Expr}
noncomputable def iList (K:PySem.W.Frag) (tl:TE):TI:=fun σ H R=>tl σ H λx H1=>∃a,x=.ref a/\(∃xs,SqL K H1 a xs)/\R (Itl K a) H1
noncomputable def iTup (K:PySem.W.Frag) (tl:TE):TI:=fun σ H R=>tl σ H λx H1=>∃a,x=.ref a/\(∃xs,SqT K H1 a xs)/\R (Itt K a) H1
theorem Zbz {l:Expr}{tl:TE} (hl:PE X l tl):PI X tg l (iList X.K tl):=by
 intro pins s σ H R I h
 refine thn (hl pins s σ H _ I h) λv s1 ⟨x,H1,I1,r1,q1⟩=>?_
 obtain⟨a,e,⟨xs,hq⟩,q⟩:=q1
 subst e
 cases r1
 obtain⟨its,rv,p,hz⟩:=I1.list hq
 refine wpAny_pyIter_list p.isList ?_
 refine⟨s1.heap.objs.size,[s1.heap.objs.size],_,_,H1,rfl,I1.kept (t':=s1.toks) λb o e=>Yi _ e,Zmo a _,⟨_,Yl _ rfl,rfl,rfl⟩,λb hb=>?_,q⟩
 have e:b=s1.heap.objs.size:=by simpa using hb
 subst e
 exact I1.fpOk (Ye _) (I1.hok.fresh (Ye _))
theorem pi_tup {l:Expr}{tl:TE} (hl:PE X l tl):PI X tg l (iTup X.K tl):=by
 intro pins s σ H R I h
 refine thn (hl pins s σ H _ I h) λv s1 ⟨x,H1,I1,r1,q1⟩=>?_
 obtain⟨a,e,⟨xs,hq⟩,q⟩:=q1
 subst e
 cases r1
 obtain⟨its,rv,p,hz⟩:=I1.tuple hq
 refine wpAny_pyIter_tuple (show s1.heap.IsTuple a its.toArray from p) ?_
 refine⟨s1.heap.objs.size,[s1.heap.objs.size],_,_,H1,rfl,I1.kept (t':=s1.toks) λb o e=>Yi _ e,ZkZ a _,⟨_,Yl _ rfl,rfl,rfl⟩,λb hb=>?_,q⟩
 have e:b=s1.heap.objs.size:=by simpa using hb
 subst e
 exact I1.fpOk (Ye _) (I1.hok.fresh (Ye _))
theorem ZjS {pins:List (Addr×Obj)}{σ:St}{H:Hp}{s:Shared}{R:It->Hp->Prop}{E:Value->Shared->Prop}{lo hi:Int}{t u v:Tok}{tk:Nat} (I:Inv X pins σ H s) (h1:-(2 ^ 62)<=lo) (h2:lo<2 ^ 62) (h3:-(2 ^ 62)<=hi) (h4:hi<2 ^ 62)
  (q:R (Itr lo (hi-lo).toNat) H):wpAny (model X.prog X.w) X.A (pyIter (.ref s.heap.objs.size)) (PIE X pins σ tg R) E {s with heap:=s.heap.push {cls:=.type "range",data:=.fields #[.int lo t,.int hi u,.int 1 v]},toks:=tk}:=by
 refine wpAny_pyIter_range (IsRange.new ..) (small_one h1 h2 h3 h4) ?_
 have I1:Inv X pins σ H {s with heap:=s.heap.push {cls:=.type "range",data:=.fields #[.int lo t,.int hi u,.int 1 v]},toks:=tk}:=I.kept λb o e=>Yi _ e
 refine⟨(s.heap.push {cls:=.type "range",data:=.fields #[.int lo t,.int hi u,.int 1 v]}).objs.size,[(s.heap.push {cls:=.type "range",data:=.fields #[.int lo t,.int hi u,.int 1 v]}).objs.size],_,_,H,rfl,
  I1.kept (t':=tk) λb o e=>Yi _ e,Zk0 _ lo (hi-lo).toNat,?_,λb hb=>?_,q⟩
 ·have e1:lo+((0:Nat):Int)*1=lo:=by simp
  have e2:(((hi-lo).toNat:Nat):Int)-((0:Nat):Int)=Builtin.Range.rangeSize lo hi 1:=by rw[rangeSize_one];split<;>omega
  show IsRangeIter _ _ (lo+((0:Nat):Int)*1) ((((hi-lo).toNat:Nat):Int)-((0:Nat):Int)) 1
  rw[e1,e2]
  exact Yl _ rfl
 ·have e:b=(s.heap.push {cls:=.type "range",data:=.fields #[.int lo t,.int hi u,.int 1 v]}).objs.size:=by simpa using hb
  subst e
  exact I1.fpOk (Ye _) (I1.hok.fresh (Ye _))
noncomputable def iRng1 (ta:TA):TI:=fun σ H R=>ta σ H λvs H1=>∃j:Int,vs=[.int j]/\-(2 ^ 62)<=j/\j<2 ^ 62/\R (Itr 0 j.toNat) H1
noncomputable def iRng2 (ta:TA):TI:=fun σ H R=>ta σ H λvs H1=>∃i j:Int,vs=[.int i,.int j]/\(-(2 ^ 62)<=i/\i<2 ^ 62/\-(2 ^ 62)<=j/\j<2 ^ 62)/\R (Itr i (j-i).toNat) H1
theorem ZaC {a:Expr}{ta:TA}{p pos:Pos} (hg:Gl X "range") (hm:X.mg "range"=none) (ha:PA X [a] ta) (hs:starEach [a] X.env=[(false,eval a X.env)]:=by rfl):PI X tg (.Call (.Name "range" p) [a] [] pos) (iRng1 ta):=by
 intro pins s σ H R I h
 refine Call_ (ZdB I hg hm boot_range (PyProof.Rows.callWith_type1 (thn (ha pos pins s σ H _ I h) λus s1 ⟨vs,H1,I1,r1,q1⟩=>?_) hs rfl))
 obtain⟨j,e,q1,q2,q⟩:=q1
 subst e
 cases r1 with
 |cons r rr =>
  cases rr
  obtain⟨t,rfl⟩:=r
  exact call_range_1 (ZjS I1 (by omega) (by omega) q1 q2 (by simpa using q))
theorem Zmp {a b:Expr}{ta:TA}{p pos:Pos} (hg:Gl X "range") (hm:X.mg "range"=none) (ha:PA X [a,b] ta) (hs:starEach [a,b] X.env=[(false,eval a X.env),(false,eval b X.env)]:=by rfl) (hs2:starEach [b] X.env=[(false,eval b X.env)]:=by rfl) :
  PI X tg (.Call (.Name "range" p) [a,b] [] pos) (iRng2 ta):=by
 intro pins s σ H R I h
 refine Call_ (ZdB I hg hm boot_range (PyProof.Rows.callWith_type1 (thn (ha pos pins s σ H _ I h) λus s1 ⟨vs,H1,I1,r1,q1⟩=>?_) (by rw[hs,hs2]) (by rw[hs2];rfl)))
 obtain⟨i,j,e,⟨q1,q2,q3,q4⟩,q⟩:=q1
 subst e
 cases r1 with
 |cons r rr =>
  cases rr with
  |cons r' rr =>
   cases rr
   obtain⟨t,rfl⟩:=r
   obtain⟨t',rfl⟩:=r'
   exact call_range_2 (ZjS I1 q1 q2 q3 q4 q)
noncomputable def tFor (wi:TI) (g:TG) (tb:TS):TS:=λD σ H=>wi σ H λJ H1=>∃W:Nat->Nat->St->Hp->Prop,(∃m,W 0 m σ H1)/\∀i m σ H,W i m σ H ->
 (J.stop i H/\D.nx σ H)\/(J.go i H/\∃N:St->Hp->Prop,(∀σ' H',N σ' H'->∃m',m'<m/\W (i+1) m' σ' H')/\∀x H',J.yld i H x H'->g x σ H' fun σ2 H2=>tb {D with nx:=N,ct:=N,bk:=D.nx} σ2 H2)
noncomputable def Zed (fp:List Addr) (h:Heap):List (Addr×Obj):=fp.filterMap λb=>(h.get? b).map λo=>(b,o)
theorem ZdD {fp:List Addr}{h:Heap}{b:Addr}{o:Obj} (hb:b∈fp) (e:h.get? b=some o):(b,o)∈Zed fp h:=List.mem_filterMap.mpr ⟨b,hb,by rw[e];rfl⟩
theorem Zix {fp:List Addr}{h:Heap}{p:Addr×Obj} (hp:p∈Zed fp h):p.1∈fp/\h.get? p.1=some p.2:=by
 obtain⟨b,hb,e⟩:=List.mem_filterMap.mp hp
 cases q:h.get? b with
 |none=>rw[q]at e;cases e
 |some o =>
  rw[q]at e
  have e':(b,o)=p:=Yq e
  subst e'
  exact⟨hb,q⟩
theorem Inv.pinned {pins:List (Addr×Obj)}{σ:St}{H:Hp}{s:Shared}{fp:List Addr} (I:Inv X pins σ H s) (hf:∀b∈fp,FpOk X pins H b) (ho:∀b∈fp,∃o,s.heap.get? b=some o/\∀v,o.data≠.cell v):Inv X (pins++Zed fp s.heap) σ H s :=
 I.Zhm λp hp=>(Yy.mp hp).elim (λz=>I.pin p (YC _ z)) λz=>by
  obtain⟨hb,e⟩:=Zix z
  obtain⟨f0,f1,f2,_⟩:=hf p.1 hb
  obtain⟨o,e',d⟩:=ho p.1 hb
  rw[e]at e';cases e'
  exact⟨e,f0,f1,f2,d⟩
theorem Inv.ZfF {pins pl:List (Addr×Obj)}{σ:St}{H:Hp}{s:Shared} (I:Inv X (pins++pl) σ H s):Inv X pins σ H s:=I.Zhm λp hp=>I.pin p (YC _ (YM _ hp))
theorem Zau {iter:Expr}{body:List Stmt}{wi:TI}{g:TG}{tb:TS}{pos:Pos} (hp:PassesOwn (model X.prog X.w) X.A X.env X.xe) (hc:X.calm=true) (hi:PI X tg iter wi) (hg:PG X tg g) (hb:PSs X body tb)
  (hs:∀x,foldedSetIterable iter X.env x=pure x:=by intro _;rfl):PS X (.For tg iter body [] pos) (tFor wi g tb):=by
 intro pins s σ H D I h
 refine wpAny_For (thn (hi pins s σ H _ I h) λv s1 h1=>thn h1 λitv s2 h2=>?_) hs
 obtain⟨it,fp,tn,J,H2,e,I2,T,st2,f2,W,⟨m0,w0⟩,turn⟩:=h2
 subst e
 -- what stays true of the iterator's objects through the loop
 have stat:∀{H':Hp},(∀b∈fp,H' b=none)->∀b∈fp,FpOk X pins H' b:=λhn b hb=>⟨hn b hb,(f2 b hb).2⟩
 refine codeAny_forLoop_any (λn s'=>∃i σ' H',Inv X pins σ' H' s'/\tn i s'.heap/\(∀b∈fp,H' b=none)/\W i n σ' H') ?_ m0 ⟨0,σ,H2,I2,st2,λb hb=>(f2 b hb).1,w0⟩
 rintro n s3 ⟨i,σ3,H3,I3,st3,fr3,w3⟩
 rcases turn i n σ3 H3 w3 with⟨stop,qn⟩|⟨go,N,hN,step⟩
 ·refine wpAny_passesOwn hp (thn (T.done X rfl rfl rfl hc i pins s3 σ3 H3 X.xe I3 (stat fr3) st3 stop) λr s4 ⟨hr,I4⟩=>?_)
  subst hr
  exact wpAny_execs_nil ⟨σ3,H3,I4,qn⟩
 ·refine wpAny_passesOwn hp (thn (T.item X rfl rfl rfl hc i pins s3 σ3 H3 X.xe I3 (stat fr3) st3 go) λr s4 ⟨u,hr,h4⟩=>?_)
  subst hr
  refine wpAny_passesOwn hp (thn h4 λ_ s5 ⟨x,H5,I5,r5,y5,st5,fr5⟩=>?_)
  have I5':=I5.pinned (stat fr5) (T.obj _ _ st5)
  refine wpAny_passesOwn hp (thn (hg _ s5 σ3 H5 x u _ I5' r5 (step x H5 y5)) λ_ s6 ⟨σ6,H6,I6,q6⟩=>?_)
  refine wpAny_passesOwn hp (thn (hb _ s6 σ6 H6 _ I6 q6) λf s7 q7=>?_)
  have again:∀{σ7:St}{H7:Hp},Inv X (pins++Zed fp s5.heap) σ7 H7 s7->N σ7 H7->∃m,m<n/\∃i σ' H',Inv X pins σ' H' s7/\tn i s7.heap/\(∀b∈fp,H' b=none)/\W i m σ' H':=λ{σ7 H7} I7 n7=>by
   obtain⟨m',hm,w7⟩:=hN σ7 H7 n7
   refine⟨m',hm,i+1,σ7,H7,I7.ZfF,T.keep _ _ _ st5 λb hb o e=>(I7.pin (b,o) (YC _ (YC _ (ZdD hb e)))).1,λb hb=>?_,w7⟩
   obtain⟨o,e,d⟩:=T.obj _ _ st5 b hb
   exact(I7.pin (b,o) (YC _ (YC _ (ZdD hb e)))).2.1
  cases f with
  |next=>obtain⟨σ7,H7,I7,n7⟩:=q7;exact again I7 n7
  |cont=>obtain⟨σ7,H7,I7,n7⟩:=q7;exact again I7 n7
  |brk=>obtain⟨σ7,H7,I7,q7⟩:=q7;exact⟨σ7,H7,I7.ZfF,q7⟩
  |ret v=>obtain⟨x7,σ7,H7,I7,r7,q7⟩:=q7;exact⟨x7,σ7,H7,I7.ZfF,r7,q7⟩
end
theorem Zee {K:PySem.W.Frag}{a:Addr}{xs:List V}{g:TG}{tb:TS}{D:Ends}{σ:St}{H:Hp} (Pv:Nat->St->Hp->Prop) (h0:Pv 0 σ H) (hl:∀i σ H,i<=xs.length->Pv i σ H->SqL K H a xs)
  (hs:∀i x σ H,xs[i]?=some x->Pv i σ H->g x σ H fun σ2 H2=>tb {D with nx:=Pv (i+1),ct:=Pv (i+1),bk:=D.nx} σ2 H2) (hd:∀σ H,Pv xs.length σ H->D.nx σ H) :
  ∃W:Nat->Nat->St->Hp->Prop,(∃m,W 0 m σ H)/\∀i m σ H,W i m σ H ->
   ((Itl K a).stop i H/\D.nx σ H)\/((Itl K a).go i H/\∃N:St->Hp->Prop,(∀σ' H',N σ' H'->∃m',m'<m/\W (i+1) m' σ' H')/\∀x H',(Itl K a).yld i H x H'->g x σ H' fun σ2 H2=>tb {D with nx:=N,ct:=N,bk:=D.nx} σ2 H2):=by
 refine⟨λi m σ H=>m=xs.length-i/\i<=xs.length/\Pv i σ H,⟨xs.length,by simp,Yr _,h0⟩,?_⟩
 rintro i m σ H ⟨rfl,hi,p⟩
 have q:=hl i σ H hi p
 by_cases hlt:i<xs.length
 ·refine .inr ⟨⟨xs,xs[i],q,by simp[hlt]⟩,Pv (i+1),fun σ' H' p'=>⟨xs.length-(i+1),by omega,rfl,hlt,p'⟩,λx H' y=>?_⟩
  obtain⟨e,y⟩:=y
  subst e
  exact hs i x σ _ (y xs q) p
 ·have e:i=xs.length:=by omega
  subst e
  exact .inl ⟨⟨xs,q,Ye _⟩,hd σ H p⟩
theorem ZpJ {K:PySem.W.Frag}{a:Addr}{xs:List V}{g:TG}{tb:TS}{D:Ends}{σ:St}{H:Hp} (Pv:Nat->St->Hp->Prop) (h0:Pv 0 σ H) (hl:∀i σ H,i<=xs.length->Pv i σ H->SqT K H a xs)
  (hs:∀i x σ H,xs[i]?=some x->Pv i σ H->g x σ H fun σ2 H2=>tb {D with nx:=Pv (i+1),ct:=Pv (i+1),bk:=D.nx} σ2 H2) (hd:∀σ H,Pv xs.length σ H->D.nx σ H) :
  ∃W:Nat->Nat->St->Hp->Prop,(∃m,W 0 m σ H)/\∀i m σ H,W i m σ H ->
   ((Itt K a).stop i H/\D.nx σ H)\/((Itt K a).go i H/\∃N:St->Hp->Prop,(∀σ' H',N σ' H'->∃m',m'<m/\W (i+1) m' σ' H')/\∀x H',(Itt K a).yld i H x H'->g x σ H' fun σ2 H2=>tb {D with nx:=N,ct:=N,bk:=D.nx} σ2 H2):=by
 refine⟨λi m σ H=>m=xs.length-i/\i<=xs.length/\Pv i σ H,⟨xs.length,by simp,Yr _,h0⟩,?_⟩
 rintro i m σ H ⟨rfl,hi,p⟩
 have q:=hl i σ H hi p
 by_cases hlt:i<xs.length
 ·refine .inr ⟨⟨xs,xs[i],q,by simp[hlt]⟩,Pv (i+1),fun σ' H' p'=>⟨xs.length-(i+1),by omega,rfl,hlt,p'⟩,λx H' y=>?_⟩
  obtain⟨e,y⟩:=y
  subst e
  exact hs i x σ _ (y xs q) p
 ·have e:i=xs.length:=by omega
  subst e
  exact .inl ⟨⟨xs,q,Ye _⟩,hd σ H p⟩
theorem ZbR {lo:Int}{n:Nat}{g:TG}{tb:TS}{D:Ends}{σ:St}{H:Hp} (Pv:Nat->St->Hp->Prop) (h0:Pv 0 σ H)
  (hs:∀i σ H,i<n->Pv i σ H->g (.int (lo+i)) σ H fun σ2 H2=>tb {D with nx:=Pv (i+1),ct:=Pv (i+1),bk:=D.nx} σ2 H2) (hd:∀σ H,Pv n σ H->D.nx σ H) :
  ∃W:Nat->Nat->St->Hp->Prop,(∃m,W 0 m σ H)/\∀i m σ H,W i m σ H ->
   ((Itr lo n).stop i H/\D.nx σ H)\/((Itr lo n).go i H/\∃N:St->Hp->Prop,(∀σ' H',N σ' H'->∃m',m'<m/\W (i+1) m' σ' H')/\∀x H',(Itr lo n).yld i H x H'->g x σ H' fun σ2 H2=>tb {D with nx:=N,ct:=N,bk:=D.nx} σ2 H2):=by
 refine⟨λi m σ H=>m=n-i/\i<=n/\Pv i σ H,⟨n,by simp,Yr _,h0⟩,?_⟩
 rintro i m σ H ⟨rfl,hi,p⟩
 by_cases hlt:i<n
 ·refine .inr ⟨hlt,Pv (i+1),fun σ' H' p'=>⟨n-(i+1),by omega,rfl,hlt,p'⟩,λx H' y=>?_⟩
  obtain⟨e,y⟩:=y
  subst e y
  exact hs i σ _ hlt p
 ·have e:i=n:=by omega
  subst e
  exact .inl ⟨Ye _,hd σ H p⟩
noncomputable abbrev R2:=V->V->Hp->VK->Prop
noncomputable def OpR (X:Cx) (f:Value->Value->Sem Value) (r:R2):Prop :=
 ∀(pins:List (Addr×Obj)) (s:Shared) (σ:St) (H:Hp) (x y:V) (v u:Value) (Q:VK),Inv X pins σ H s->RelV x v->RelV y u->r x y H Q ->
  wpAny (model X.prog X.w) X.A (f v u) (EP X pins σ Q) X.xe s
noncomputable def UnR (X:Cx) (f:Value->Sem Value) (r:V->Hp->VK->Prop):Prop :=
 ∀(pins:List (Addr×Obj)) (s:Shared) (σ:St) (H:Hp) (x:V) (v:Value) (Q:VK),Inv X pins σ H s->RelV x v->r x H Q ->
  wpAny (model X.prog X.w) X.A (f v) (EP X pins σ Q) X.xe s
noncomputable def ZcY (X:Cx) (f:Value) (r:List V->Hp->VK->Prop):Prop :=
 ∀(pins:List (Addr×Obj)) (s:Shared) (σ:St) (H:Hp) (xs:List V) (us:List Value) (Q:VK),Inv X pins σ H s->Vals xs us->r xs H Q ->
  wpAny (model X.prog X.w) X.A (call f us) (EP X pins σ Q) X.xe s
noncomputable def TruR (X:Cx) (r:V->Hp->(Bool->Hp->Prop)->Prop):Prop :=
 ∀(pins:List (Addr×Obj)) (s:Shared) (σ:St) (H:Hp) (x:V) (v:Value) (Q:Bool->Hp->Prop),Inv X pins σ H s->RelV x v->r x H Q ->
  wpAny (model X.prog X.w) X.A (truthy v) (TP X pins σ Q) X.xe s
noncomputable def tOp (r:R2) (ta tb:TE):TE:=fun σ H Q=>ta σ H λx H1=>tb σ H1 λy H2=>r x y H2 Q
noncomputable def tUn (r:V->Hp->VK->Prop) (ta:TE):TE:=fun σ H Q=>ta σ H λx H1=>r x H1 Q
noncomputable def rI (C:Int->Int->Prop) (g:Int->Int->V):R2:=λx y H Q=>∃i j,x=.int i/\y=.int j/\C i j/\Q (g i j) H
noncomputable def rI0 (g:Int->Int->V):R2:=λx y H Q=>∃i j,x=.int i/\y=.int j/\Q (g i j) H
noncomputable def rU (g:Int->V):V->Hp->VK->Prop:=λx H Q=>∃i,x=.int i/\Q (g i) H
section
variable {X:Cx}{a b c:Expr}{ta tb tc:TE}{pos:Pos}
theorem binT (ha:PE X a ta) (hb:PE X b tb) {pins:List (Addr×Obj)}{s:Shared}{σ:St}{H:Hp}{R:V->V->Hp->Prop} (I:Inv X pins σ H s)
  (h:ta σ H λx H1=>tb σ H1 λy H2=>R x y H2) {Q:Value->Shared->Prop}{f:Value->Value->Sem Value}
  (hf:∀v u s2 x y H2,Inv X pins σ H2 s2->RelV x v->RelV y u->R x y H2->wpAny (model X.prog X.w) X.A (f v u) Q X.xe s2) :
  wpAny (model X.prog X.w) X.A (eval a X.env) (λv s₁=>wpAny (model X.prog X.w) X.A (eval b X.env) (λu s₂=>wpAny (model X.prog X.w) X.A (f v u) Q X.xe s₂) X.xe s₁) X.xe s:=by
 refine thn (ha pins s σ H _ I h) λv s1 ⟨x,H1,I1,r1,q1⟩=>?_
 refine thn (hb pins s1 σ H1 _ I1 q1) λu s2 ⟨y,H2,I2,r2,q2⟩=>?_
 exact hf v u s2 x y H2 I2 r1 r2 q2
theorem Zn {op:Operator}{r:R2} (ho:OpR X (binaryOp op) r) (ha:PE X a ta) (hb:PE X b tb):PE X (.BinOp a op b pos) (tOp r ta tb):=by
 intro pins s σ H Q I h
 exact wpAny_BinOp (binT ha hb I h λv u s2 x y H2 I2 rx ry q=>ho pins s2 σ H2 x y v u Q I2 rx ry q)
theorem ZfG {op:UnaryOp}{r:V->Hp->VK->Prop} (ho:UnR X (unaryOp op) r) (ha:PE X a ta):PE X (.UnaryOp op a pos) (tUn r ta):=by
 intro pins s σ H Q I h
 exact UnaryOp_ (thn (ha pins s σ H _ I h) λv s1 ⟨x,H1,I1,r1,q1⟩=>ho pins s1 σ H1 x v Q I1 r1 q1)
theorem opI {f:Value->Value->Sem Value}{C:Int->Int->Prop}{g:Int->Int->Int}
  (rule:∀(i j:Int) (t u:Tok) (s:Shared) (Q:Value->Shared->Prop) (E:Value->Shared->Prop),C i j->Q (.int (g i j) s.toks) {s with toks:=s.toks+1}->wpAny (model X.prog X.w) X.A (f (.int i t) (.int j u)) Q E s) :
  OpR X f (rI C λi j=>.int (g i j)):=by
 intro pins s σ H x y v u Q I rx ry h
 obtain⟨i,j,rfl,rfl,hc,q⟩:=h
 obtain⟨t,rfl⟩:=rx
 obtain⟨t',rfl⟩:=ry
 exact rule i j t t' s _ _ hc ⟨.int (g i j),H,I.tok _,⟨_,rfl⟩,q⟩
theorem opI0 {f:Value->Value->Sem Value}{g:Int->Int->Int}
  (rule:∀(i j:Int) (t u:Tok) (s:Shared) (Q:Value->Shared->Prop) (E:Value->Shared->Prop),Q (.int (g i j) s.toks) {s with toks:=s.toks+1}->wpAny (model X.prog X.w) X.A (f (.int i t) (.int j u)) Q E s) :
  OpR X f (rI0 λi j=>.int (g i j)):=by
 intro pins s σ H x y v u Q I rx ry h
 obtain⟨i,j,rfl,rfl,q⟩:=h
 obtain⟨t,rfl⟩:=rx
 obtain⟨t',rfl⟩:=ry
 exact rule i j t t' s _ _ ⟨.int (g i j),H,I.tok _,⟨_,rfl⟩,q⟩
theorem opB0 {f:Value->Value->Sem Value}{g:Int->Int->Bool}
  (rule:∀(i j:Int) (t u:Tok) (s:Shared) (Q:Value->Shared->Prop) (E:Value->Shared->Prop),Q (.bool (g i j)) s->wpAny (model X.prog X.w) X.A (f (.int i t) (.int j u)) Q E s) :
  OpR X f (rI0 λi j=>.bl (g i j)):=by
 intro pins s σ H x y v u Q I rx ry h
 obtain⟨i,j,rfl,rfl,q⟩:=h
 obtain⟨t,rfl⟩:=rx
 obtain⟨t',rfl⟩:=ry
 exact rule i j t t' s _ _ ⟨.bl (g i j),H,I,rfl,q⟩
noncomputable def Zk1 (i j:Int):Prop:=0<=j/\j<=1000000/\i.natAbs<2 ^ 64
theorem ZV:OpR X (binaryOp .Add) (rI0 λi j=>.int (i+j)):=opI0 λ_ _ _ _ _ _ _ q=>add_int q
theorem Zbj:OpR X (binaryOp .Sub) (rI0 λi j=>.int (i-j)):=opI0 λ_ _ _ _ _ _ _ q=>sub_int q
theorem Zef:OpR X (binaryOp .Mod) (rI (λ_ j=>0<j) λi j=>.int (i % j)):=opI λi j _ _ _ _ _ hc q=>by
 have h1:(0:Int)<j:=hc
 exact mod_int' (by omega) (by rw[Int.fmod_eq_emod_of_nonneg i (by omega)];exact q)
theorem Zfe:OpR X (binaryOp .Pow) (rI Zk1 λi j=>.int (i ^ j.toNat)):=opI λ_ _ _ _ _ _ _ hc q=>pow_int_small hc.1 hc.2.1 hc.2.2 q
theorem unI {f:Value->Sem Value}{g:Int->Int}
  (rule:∀(i:Int) (t:Tok) (s:Shared) (Q:Value->Shared->Prop) (E:Value->Shared->Prop),Q (.int (g i) s.toks) {s with toks:=s.toks+1}->wpAny (model X.prog X.w) X.A (f (.int i t)) Q E s) :
  UnR X f (rU λi=>.int (g i)):=by
 intro pins s σ H x v Q I rx h
 obtain⟨i,rfl,q⟩:=h
 obtain⟨t,rfl⟩:=rx
 exact rule i t s _ _ ⟨.int (g i),H,I.tok _,⟨_,rfl⟩,q⟩
theorem ZdE:UnR X (unaryOp .USub) (rU λi=>.int (-i)):=unI λ_ _ _ _ _ q=>neg_int q
end
noncomputable def ZjT:V->V->Bool
 |.non,.non=>true|.non,.int _=>true|.int _,.non=>true|.non,.bl _=>true|.bl _,.non=>true|.non,.str _=>true|.str _,.non=>true
 |.int _,.int _=>true|.bl _,.bl _=>true|.str _,.str _=>true|.byt _,.byt _=>true
 |.int _,.str _=>true|.str _,.int _=>true|.bl _,.str _=>true|.str _,.bl _=>true
 |_,_=>false
noncomputable def rEq:R2:=λx y H Q=>ZjT x y=true/\Q (.bl (decide (x=y))) H
noncomputable def rNe:R2:=λx y H Q=>ZjT x y=true/\Q (.bl (!decide (x=y))) H
theorem ZlM {i j:Int}:decide (V.int i=V.int j)=(i==j):=by
 rw[Bool.eq_iff_iff]
 simp
theorem Zof {i j:Bool}:decide (V.bl i=V.bl j)=(i==j):=by
 rw[Bool.eq_iff_iff]
 simp
theorem ZlN {i j:Str}:decide (V.str i=V.str j)=(i==j):=by
 rw[Bool.eq_iff_iff]
 simp
theorem ZlO {i j:Array UInt8}:decide (V.byt i=V.byt j)=(i.toList==j.toList):=by
 rw[Bool.eq_iff_iff]
 cases i
 cases j
 simp
section
variable {X:Cx}{a b c:Expr}{ta tb tc:TE}{pos:Pos}
theorem ZN {pins:List (Addr×Obj)}{σ:St}{H:Hp}{s:Shared}{Q:VK}{k k':Bool} (I:Inv X pins σ H s) (q:Q (.bl k) H) (e:k=k'):EP X pins σ Q (.bool k') s:=by
 subst e
 exact⟨.bl k,H,I,rfl,q⟩
theorem ZdY:OpR X (compareOp .Eq) rEq:=by
 intro pins s σ H x y v u Q I rx ry h
 obtain⟨hs,q⟩:=h
 cases x with
 |non =>
  cases rx
  cases y with
  |non=>cases ry;exact PySem.EqNone.eq_none_none (ZN I q (by simp))
  |bl j=>cases ry;exact PySem.EqNone.eq_none_bool (ZN I q (by simp))
  |int j=>obtain⟨t',rfl⟩:=ry;exact PySem.EqNone.eq_none_int (ZN I q (by simp))
  |str j=>obtain⟨t',rfl⟩:=ry;exact PySem.EqNone.eq_none_str (ZN I q (by simp))
  |_=>exact absurd (show false=true from hs) Ys
 |bl i =>
  cases rx
  cases y with
  |non=>cases ry;exact PySem.EqNone.eq_bool_none (ZN I q (by simp))
  |bl j=>cases ry;exact eq_bool (ZN I q Zof)
  |str j=>obtain⟨t',rfl⟩:=ry;exact PySem.EqMixed.eq_bool_str (ZN I q (by simp))
  |_=>exact absurd (show false=true from hs) Ys
 |int i =>
  obtain⟨t,rfl⟩:=rx
  cases y with
  |non=>cases ry;exact PySem.EqNone.eq_int_none (ZN I q (by simp))
  |int j=>obtain⟨t',rfl⟩:=ry;exact eq_int (ZN I q ZlM)
  |str j=>obtain⟨t',rfl⟩:=ry;exact PySem.EqMixed.eq_int_str (ZN I q (by simp))
  |_=>exact absurd (show false=true from hs) Ys
 |str i =>
  obtain⟨t,rfl⟩:=rx
  cases y with
  |non=>cases ry;exact PySem.EqNone.eq_str_none (ZN I q (by simp))
  |bl j=>cases ry;exact PySem.EqMixed.eq_str_bool (ZN I q (by simp))
  |int j=>obtain⟨t',rfl⟩:=ry;exact PySem.EqMixed.eq_str_int (ZN I q (by simp))
  |str j=>obtain⟨t',rfl⟩:=ry;exact eq_str (ZN I q ZlN)
  |_=>exact absurd (show false=true from hs) Ys
 |byt i =>
  obtain⟨t,rfl⟩:=rx
  cases y with
  |byt j=>obtain⟨t',rfl⟩:=ry;exact PySem.W.eq_bytes (ZN I q ZlO)
  |_=>exact absurd (show false=true from hs) Ys
 |_=>cases y<;>exact absurd (show false=true from hs) Ys
theorem op_ne:OpR X (compareOp .NotEq) rNe:=by
 intro pins s σ H x y v u Q I rx ry h
 obtain⟨hs,q⟩:=h
 cases x with
 |non =>
  cases rx
  cases y with
  |non=>cases ry;exact PySem.EqNone.ne_none_none (ZN I q (by simp))
  |bl j=>cases ry;exact PySem.EqNone.ne_none_bool (ZN I q (by simp))
  |int j=>obtain⟨t',rfl⟩:=ry;exact PySem.EqNone.ne_none_int (ZN I q (by simp))
  |str j=>obtain⟨t',rfl⟩:=ry;exact PySem.EqNone.ne_none_str (ZN I q (by simp))
  |_=>exact absurd (show false=true from hs) Ys
 |bl i =>
  cases rx
  cases y with
  |non=>cases ry;exact PySem.EqNone.ne_bool_none (ZN I q (by simp))
  |bl j=>cases ry;exact ne_bool (ZN I q (congrArg not Zof))
  |str j=>obtain⟨t',rfl⟩:=ry;exact PySem.EqMixed.ne_bool_str (ZN I q (by simp))
  |_=>exact absurd (show false=true from hs) Ys
 |int i =>
  obtain⟨t,rfl⟩:=rx
  cases y with
  |non=>cases ry;exact PySem.EqNone.ne_int_none (ZN I q (by simp))
  |int j=>obtain⟨t',rfl⟩:=ry;exact ne_int (ZN I q (congrArg not ZlM))
  |str j=>obtain⟨t',rfl⟩:=ry;exact PySem.EqMixed.ne_int_str (ZN I q (by simp))
  |_=>exact absurd (show false=true from hs) Ys
 |str i =>
  obtain⟨t,rfl⟩:=rx
  cases y with
  |non=>cases ry;exact PySem.EqNone.ne_str_none (ZN I q (by simp))
  |bl j=>cases ry;exact PySem.EqMixed.ne_str_bool (ZN I q (by simp))
  |int j=>obtain⟨t',rfl⟩:=ry;exact PySem.EqMixed.ne_str_int (ZN I q (by simp))
  |str j=>obtain⟨t',rfl⟩:=ry;exact ne_str (ZN I q (congrArg not ZlN))
  |_=>exact absurd (show false=true from hs) Ys
 |byt i =>
  obtain⟨t,rfl⟩:=rx
  cases y with
  |byt j=>obtain⟨t',rfl⟩:=ry;exact PySem.W.ne_bytes (ZN I q (congrArg not ZlO))
  |_=>exact absurd (show false=true from hs) Ys
 |_=>cases y<;>exact absurd (show false=true from hs) Ys
theorem Ze8:OpR X (compareOp .Lt) (rI0 λi j=>.bl (decide (i<j))):=opB0 λ_ _ _ _ _ _ _ q=>lt_int q
theorem Zog:OpR X (compareOp .LtE) (rI0 λi j=>.bl (decide (i<=j))):=opB0 λ_ _ _ _ _ _ _ q=>le_int q
theorem ZgL:OpR X (compareOp .Gt) (rI0 λi j=>.bl (decide (j<i))):=opB0 λ_ _ _ _ _ _ _ q=>gt_int q
theorem op_ge:OpR X (compareOp .GtE) (rI0 λi j=>.bl (decide (j<=i))):=opB0 λ_ _ _ _ _ _ _ q=>ge_int q
theorem op_isN:OpR X (compareOp .Is) (λx y H Q=>y=.non/\Q (.bl (decide (x=.non))) H):=by
 intro pins s σ H x y v u Q I rx ry h
 obtain⟨rfl,q⟩:=h
 cases ry
 refine is_none_gen (ZN I q ?_)
 cases x<;>first
  |(cases rx;rfl)
  |(obtain⟨t,rfl⟩:=rx;rfl)
theorem Zy (b:Expr) {op:CmpOp} (h:op≠.In:=by decide) (h2:op≠.NotIn:=by decide):behindInMarks op b=false:=by
 have e1:(op==CmpOp.In)=false:=by cases op<;>first|rfl|exact absurd rfl h
 have e2:(op==CmpOp.NotIn)=false:=by cases op<;>first|rfl|exact absurd rfl h2
 cases b<;>simp[behindInMarks,e1,e2]
theorem Zi6 {op:CmpOp}{r:R2} (ho:OpR X (compareOp op) r) (ha:PE X a ta) (hb:PE X b tb) (hm:behindInMarks op b=false):PE X (.Compare a [op] [b] pos) (tOp r ta tb):=by
 intro pins s σ H Q I h
 exact wpAny_Compare1 (binT ha hb I h λv u s2 x y H2 I2 rx ry q=>ho pins s2 σ H2 x y v u Q I2 rx ry q) hm
noncomputable def tTest (t:TE):TT:=fun σ H Q=>t σ H λx H'=>∃k,x=.bl k/\Q k H'
theorem Zt {op:CmpOp}{r:R2} (ho:OpR X (compareOp op) r) (ha:PE X a ta) (hb:PE X b tb) (hm:behindInMarks op b=false):PT X (.Compare a [op] [b] pos) (tTest (tOp r ta tb)):=by
 intro pins s σ H Q I h
 refine wpAny_isTrue_Compare1 (thn (ha pins s σ H _ I h) λv s1 ⟨x,H1,I1,r1,q1⟩=>thn (hb pins s1 σ H1 _ I1 q1) λu s2 ⟨y,H2,I2,r2,q2⟩ =>
  thn (ho pins s2 σ H2 x y v u _ I2 r1 r2 q2) λc s3 ⟨z,H3,I3,r3,k,e,q3⟩=>?_) hm
 subst e
 cases r3
 exact wpAny_truthy_bool ⟨H3,I3,q3⟩
noncomputable def tChain (r r':R2) (ta tb tc:TE):TE:=fun σ H Q=>ta σ H λx H1=>tb σ H1 λy H2=>r x y H2 λz H3=>∃k,z=.bl k /\
 (if k=true then tc σ H3 λw' H4=>r' y w' H4 Q else Q (.bl false) H3)
theorem Zoh {op op':CmpOp}{r r':R2} (ho:OpR X (compareOp op) r) (ho':OpR X (compareOp op') r') (ha:PE X a ta) (hb:PE X b tb) (hc:PE X c tc)
  (hm:lastMarks [op,op'] [b,c]=false:=by with_unfolding_all rfl):PT X (.Compare a [op,op'] [b,c] pos) (tTest (tChain r r' ta tb tc)):=by
 intro pins s σ H Q I h
 refine isTrue_chain (thn (ha pins s σ H _ I h) λv s1 ⟨x,H1,I1,r1,q1⟩=>test_link (thn (hb pins s1 σ H1 _ I1 q1) λu s2 ⟨y,H2,I2,r2,q2⟩ =>
  thn (ho pins s2 σ H2 x y v u _ I2 r1 r2 q2) λd s3 ⟨z,H3,I3,r3,k,e,q3⟩=>?_)) hm
 subst e
 cases r3
 refine wpAny_truthy_bool ?_
 cases k with
 |false =>
  obtain⟨k',e',q'⟩:=q3
  cases e'
  exact ite_ff ⟨H3,I3,q'⟩
 |true =>
  refine ite_tt (test_last (thn (hc pins s3 σ H3 _ I3 q3) λw' s4 ⟨z',H4,I4,r4,q4⟩=>thn (ho' pins s4 σ H4 y z' u w' _ I4 r2 r4 q4) λd' s5 ⟨z2,H5,I5,r5,k2,e2,q5⟩=>?_))
  subst e2
  cases r5
  exact wpAny_truthy_bool ⟨H5,I5,q5⟩
noncomputable def TruV (K:PySem.W.Frag) (x:V) (H:Hp) (k:Bool):Prop :=
 match x with
 |.non=>k=false
 |.bl b=>k=b
 |.int i=>k=(i != 0)
 |.str y=>y.length<=sizeLine/\k=((y.length:Int) != 0)
 |.byt y=>y.size<=sizeLine/\k=((y.size:Int) != 0)
 |.ref p=>(∃xs,SqL K H p xs/\k=!xs.isEmpty)\/(∃xs,SqT K H p xs/\k=!xs.isEmpty)\/∃kvs,H p=some (.dK kvs)/\k=!kvs.isEmpty
 |_=>False
theorem Zk2 {κ:Type}{kvs:List (κ×V)}{vs:List (κ×Value)} (r:KV kvs vs):(!vs.isEmpty)=!kvs.isEmpty:=by
 cases r<;>rfl
theorem Zhx {xs:List V}{its:List Value} (r:Vals xs its):(!its.toArray.isEmpty)=!xs.isEmpty:=by
 cases r<;>simp
theorem Zhy:(sizeLine:Nat)<2 ^ 63:=by rw[sizeLine_eq];decide
theorem tru_ok:TruR X (λx H Q=>∃k,TruV X.K x H k/\Q k H):=by
 intro pins s σ H x v Q I rx h
 obtain⟨k,e,q⟩:=h
 have hl:=Zhy
 have hs:sizeLine=16777216:=sizeLine_eq
 cases x with
 |non =>
  cases rx
  have e':k=false:=e
  subst e'
  exact truthy_none ⟨H,I,q⟩
 |bl b =>
  cases rx
  have e':k=b:=e
  subst e'
  exact wpAny_truthy_bool ⟨H,I,q⟩
 |int i =>
  obtain⟨t,rfl⟩:=rx
  have e':k=(i != 0):=e
  subst e'
  exact PySem.P.truthy_int ⟨H,I,q⟩
 |str y =>
  obtain⟨t,rfl⟩:=rx
  obtain⟨hy,e'⟩:y.length<=sizeLine/\k=((y.length:Int) != 0):=e
  subst e'
  exact PySem.P.truthy_str (by omega) ⟨H,I.tok _,q⟩
 |byt y =>
  obtain⟨t,rfl⟩:=rx
  obtain⟨hy,e'⟩:y.size<=sizeLine/\k=((y.size:Int) != 0):=e
  subst e'
  exact PySem.W.truthy_bytes (by omega) ⟨H,I.tok _,q⟩
 |ref p =>
  cases rx
  have e':(∃xs,SqL X.K H p xs/\k=!xs.isEmpty)\/(∃xs,SqT X.K H p xs/\k=!xs.isEmpty)\/∃kvs,H p=some (.dK kvs)/\k=!kvs.isEmpty:=e
  rcases e' with⟨xs,hx,e'⟩|⟨xs,hx,e'⟩|⟨kvs,hx,e'⟩
  ·subst e'
   obtain⟨its,r,pl,hz⟩:=I.list hx
   have hlen:=r.length
   exact wpAny_truthy_list pl.isList (by simp only[Ym];omega) ⟨H,I.tok _,by rw[Zhx r];exact q⟩
  ·subst e'
   obtain⟨its,r,pl,hz⟩:=I.tuple hx
   have hlen:=r.length
   exact truthy_tuple pl (by simp only[Ym];omega) ⟨H,I.tok _,by rw[Zhx r];exact q⟩
  ·subst e'
   obtain⟨hz,hS,vs,r,m⟩:kvs.length<=sizeLine/\(p==sysModules)=false/\∃vs,KV kvs vs/\s.heap.DictOf (ZaS X.prog X.w) p vs:=I.hok p _ hx
   have hlen:kvs.length=vs.length:=Paired.length r
   exact wpAny_truthy_dict hS m (by omega) ⟨H,I.tok _,by rw[Zk2 r];exact q⟩
 |_=>exact(show False from e).elim
theorem ZjU (ha:PE X a ta) (he:∀whole,isTrue a X.env whole=(do let v <-whole;standAt a.pos;holding [v] (truthy v))) :
  PT X a (fun σ H Q=>ta σ H λx H'=>∃k,TruV X.K x H' k/\Q k H'):=by
 intro pins s σ H Q I h
 exact isTrue_plain (thn (ha pins s σ H _ I h) λv s1 ⟨x,H1,I1,r1,q1⟩=>tru_ok pins s1 σ H1 x v Q I1 r1 q1) (he _)
theorem vals1 {x:V}{us:List Value} (r:Vals [x] us):∃u,us=[u]/\RelV x u:=by
 cases r with
 |cons r1 r2=>cases r2;exact⟨_,rfl,r1⟩
theorem vals2 {x y:V}{us:List Value} (r:Vals [x,y] us):∃u w',us=[u,w']/\RelV x u/\RelV y w':=by
 cases r with
 |cons r1 r2 =>
  cases r2 with
  |cons r3 r4=>cases r4;exact⟨_,_,rfl,r1,r3⟩
theorem Zge (hc:X.calm=true):ZcY X (.builtin "max") (λxs H Q=>∃i j,xs=[.int i,.int j]/\Q (.int (if j>i then j else i)) H):=by
 intro pins s σ H xs us Q I r h
 obtain⟨i,j,rfl,q⟩:=h
 obtain⟨u,w',rfl,⟨t,rfl⟩,⟨t',rfl⟩⟩:=vals2 r
 refine max_two_ints (I.ok.hd hc) λh' tk k=>⟨_,H,I.kept k,?_,q⟩
 by_cases hj:j>i
 ·rw[Yd hj,Yd hj];exact⟨_,rfl⟩
 ·rw[Yb hj,Yb hj];exact⟨_,rfl⟩
theorem Zgf (hc:X.calm=true):ZcY X (.builtin "min") (λxs H Q=>∃i j,xs=[.int i,.int j]/\Q (.int (if j<i then j else i)) H):=by
 intro pins s σ H xs us Q I r h
 obtain⟨i,j,rfl,q⟩:=h
 obtain⟨u,w',rfl,⟨t,rfl⟩,⟨t',rfl⟩⟩:=vals2 r
 refine min_two_ints (I.ok.hd hc) λh' tk k=>⟨_,H,I.kept k,?_,q⟩
 by_cases hj:j<i
 ·rw[Yd hj,Yd hj];exact⟨_,rfl⟩
 ·rw[Yb hj,Yb hj];exact⟨_,rfl⟩
end
structure ObjM (h:Heap) (x dx C:Addr) (mA:Str->Option Value):Prop where
 obj:h.get? x=some (PySem.W.instObj C dx)
 ns:h.Ns1 dx mA
 ne:dx≠x
theorem Zmq {h:Heap}{dx:Addr}{mA:Str->Option Value} (n:h.Ns1 dx mA):∃od,h.get? dx=some od/\∀name,PySem.W.lookIn name od=some (mA name):=by
 obtain⟨o,es,ep,ho,hd,hk,_,hm⟩:=n
 refine⟨o,ho,λname=>?_⟩
 have e:=hm name
 unfold nsFind findBy at e
 rw[<-Array.find?_toList]at e
 unfold PySem.W.lookIn
 rw[hd]
 dsimp only
 split
 ·rename_i y q
  rw[q]at e
  exact congrArg some e
 ·rename_i q
  rw[q]at e
  have a:es.toList.any (·.refKey)=false:=by
   rw[List.any_eq_false]
   intro y hy
   obtain⟨z,t,hkey⟩:=hk y (Array.mem_toList_iff.mp hy)
   simp[DictEntry.refKey,hkey]
  have a':¬ es.toList.any (·.refKey)=true:=by rw[a];exact Ys
  rw[Yb a']
  exact congrArg some e
theorem ObjM.look {h:Heap}{x dx C:Addr}{mA:Str->Option Value} (I:ObjM h x dx C mA):∃od,PySem.W.InstAt h x (PySem.W.instObj C dx) C (some od)/\∀name,PySem.W.lookIn name od=some (mA name) :=
 let ⟨od,ho,hl⟩:=Zmq I.ns
 ⟨od,⟨I.obj,rfl,rfl,ho⟩,hl⟩
section
variable {prog:Program}{w:World}{A:Around}{E:Value->Shared->Prop}{s:Shared}{K:PySem.W.Frag}{x dx C f:Addr}{mA:Str->Option Value}{name:Str}{v:Value}
theorem get_map {expr:Bool}{Q:Value->Shared->Prop} (X:K.In s.heap) (I:ObjM s.heap x dx C mA) (hg:PySem.W.plainGet K C name=true) (hh:PySem.W.hasDictIn K C=true)
  (ha:PySem.W.findIn K (.ref C) name=some none) (hv:mA name=some v) (hv':PySem.W.handedIn v=true) (h:Q v {s with toks:=s.toks+1}) :
  wpAny (model prog w) A (getAttr (.ref x) name expr) Q E s:=by
 obtain⟨od,J,hl⟩:=I.look
 exact PySem.W.get_value X J (PySem.W.plainGet_of hg).1 (PySem.W.findObj_own hh ha rfl (by rw[hl,hv])) hv' h
theorem Zoi {pl:Sem Bool}{Q:Value×List Value->Shared->Prop} (X:K.In s.heap) (I:ObjM s.heap x dx C mA) (hg:PySem.W.plainGet K C name=true)
  (hf:PySem.W.findIn K (.ref C) name=some (some (.ref f))) (ht:PySem.W.isFn K (.ref f)=true) (hv:mA name=none) (h:Q (.ref f,[.ref x]) s) :
  wpAny (model prog w) A (getMethod (.ref x) name pl) Q E s:=by
 obtain⟨od,J,hl⟩:=I.look
 exact PySem.W.method_fn X J (PySem.W.plainGet_of hg).1 (PySem.W.plainGet_of hg).2 hf (beq_iff_eq.mp ht) (by show(PySem.W.lookIn name od).map (·.isSome)=some false;rw[hl,hv];rfl) h
theorem ZpK {ns:List Str}{Q:Unit->Shared->Prop} (X:K.In s.heap) (I:ObjM s.heap x dx C mA)
  (hs:PySem.W.findIn K (.ref C) "__setattr__"=some (some (.builtin "object.__setattr__"))) (hp:PySem.W.plainOver K C=true) (ht:PySem.W.takerIn K C name=some none) (hh:PySem.W.hasDictIn K C=true)
  (hw:PySem.Within mA ns) (hsz:ns.length<=sizeLine)
  (h:∀h',ObjM h' x dx C (λy=>if y=name then some v else mA y)->Heap.SameBut dx s.heap h'->Q () {s with heap:=h',toks:=s.toks+2}) :
  wpAny (model prog w) A (setAttr (.ref x) name v) Q E s:=by
 obtain⟨od,J,hl⟩:=I.look
 refine PySem.W.set_plain X J hs (PySem.W.osa_open (s:={s with toks:=s.toks+1}) (r:=none) X J hp ht λb=>?_)
 obtain⟨cd,hc,hd'⟩:=PySem.W.any_some hh
 have hx:s.heap.get? x=some ⟨.ref C,some dx,.plain,#[]⟩:=I.obj
 refine Ya (Yc (Ya (Ya (wpAny_loadPart hx (Ya (PySem.W.Looks.here (s:={s with toks:=s.toks+1}) (PySem.W.looks_clsIn X hc) ?_))))))
 rw[hd']
 refine Yc (a:=some dx) (Ya (Yc (Ya ?_)))
 refine wpAny_nsSet1 (s:={s with toks:=s.toks+1}) I.ns λh' hn2 hs2=>?_
 obtain⟨oD,esD,epD,hoD,hdD,hcD⟩:=hn2.count (PySem.Within.cons name v hw)
 refine Ya (wpAny_lookBehind hoD (by rw[hdD];exact pastItsLine_dict (Yj hcD (by rw[YF];omega))) ?_)
 exact Yc (h _ ⟨(hs2.2 _ (Ne.symm I.ne)).trans I.obj,hn2,I.ne⟩ hs2)
theorem Zoj {R:Result->Shared->Prop}{vs:List Value}{kw:List (Str×Value)} (X:K.In s.heap) (hm:PySem.W.makesIn K C=true)
  (hi:PySem.W.findIn K (.ref C) "__init__"=some (some (.ref f))) (hf:PySem.W.typeIn K (.ref f)=some (.type "function"))
  (h:codeAny (model prog w) (A.under (.builtin "type.__call__" ⟨.ref C::vs,kw⟩)) (.call (.ref f) ⟨.ref (s.heap.objs.size+1)::vs,kw⟩) (PySem.W.InitBack (s.heap.objs.size+1) R)
   {s with heap:=(s.heap.push PySem.W.emptyDict).push (PySem.W.instObj C s.heap.objs.size)}) :
  codeAny (model prog w) A (.call (.ref C) ⟨vs,kw⟩) R s:=by
 obtain⟨hh,g,d,t,os⟩:=s
 exact PySem.W.make_core (PySem.W.makes_of X hm) (PySem.W.looks_findIn X hi) (λself=>PySem.W.bind_fn X self hf) (.inl rfl) h
end
noncomputable def ZG (f:Str) (v:V):List (Str×V)->List (Str×V)
 |[]=>[(f,v)]
 |(g,x)::r=>if g=f then (g,v)::r else (g,x)::ZG f v r
theorem ZE (f g:Str) (v:V):∀fs:List (Str×V),(ZG f v fs).lookup g=if g=f then some v else fs.lookup g
 |[]=>by
  show List.lookup g [(f,v)]=_
  by_cases h:g=f
  ·have hb:(g==f)=true:=beq_iff_eq.mpr h
   simp only[List.lookup,hb,Yd h]
  ·have hb:(g==f)=false:=beq_eq_false_iff_ne.mpr h
   simp only[List.lookup,hb,Yb h]
 |(k,x)::r=>by
  have ih:=ZE f g v r
  rw[show ZG f v ((k,x)::r)=(if k=f then (k,v)::r else (k,x)::ZG f v r)from rfl]
  by_cases hk:k=f
  ·rw[Yd hk]
   by_cases h:g=k
   ·have hb:(g==k)=true:=beq_iff_eq.mpr h
    simp only[List.lookup,hb,Yd (h.trans hk)]
   ·have hb:(g==k)=false:=beq_eq_false_iff_ne.mpr h
    simp only[List.lookup,hb,Yb (λe:g=f=>h (e.trans hk.symm))]
  ·rw[Yb hk]
   by_cases h:g=k
   ·have hb:(g==k)=true:=beq_iff_eq.mpr h
    simp only[List.lookup,hb,Yb (λe:g=f=>hk (h.symm.trans e))]
   ·have hb:(g==k)=false:=beq_eq_false_iff_ne.mpr h
    simp only[List.lookup,hb]
    exact ih
theorem Zgg (f:Str) (v:V):∀fs:List (Str×V),f∈(ZG f v fs).map (·.1)/\∀g,g∈fs.map (·.1)->g∈(ZG f v fs).map (·.1)
 |[]=>⟨by simp[ZG],λg h=>by simp at h⟩
 |(k,x)::r=>by
  obtain⟨i1,i2⟩:=Zgg f v r
  rw[show ZG f v ((k,x)::r)=(if k=f then (k,v)::r else (k,x)::ZG f v r)from rfl]
  by_cases hk:k=f
  ·rw[Yd hk]
   subst hk
   exact⟨by simp,λg h=>by simpa using h⟩
  ·rw[Yb hk]
   refine⟨?_,λg h=>?_⟩
   ·rw[YD]
    exact YQ _ i1
   ·rw[YD]at h⊢
    rcases Yk.mp h with e|e
    ·exact Yk.mpr (.inl e)
    ·exact YQ _ (i2 g e)
theorem ZaK (f:Str) (v:V):∀fs:List (Str×V),(ZG f v fs).length<=fs.length+1
 |[]=>by simp[ZG]
 |(k,x)::r=>by
  have ih:=ZaK f v r
  rw[show ZG f v ((k,x)::r)=(if k=f then (k,v)::r else (k,x)::ZG f v r)from rfl]
  by_cases hk:k=f
  ·rw[Yd hk,YF,YF];omega
  ·rw[Yb hk,YF,YF];omega
theorem Ze5.some_of {v:V}{o:Option Value} (r:Ze5 (some v) o):∃u,o=some u/\RelV v u:=by
 cases o with
 |none=>exact(show False from r).elim
 |some u=>exact⟨u,rfl,r⟩
theorem Ze5.none_of {o:Option Value} (r:Ze5 none o):o=none:=by
 cases o with
 |none=>rfl
 |some u=>exact(show False from r).elim
theorem Zmr {v:V}{u:Value} (r:RelV v u):PySem.W.handedIn u=true:=by
 cases v with
 |non=>cases(show u=Value.none from r);rfl
 |bl b=>cases(show u=Value.bool b from r);rfl
 |int i=>obtain⟨t,e⟩:=(show ∃t,u=Value.int i t from r);cases e;rfl
 |str x=>obtain⟨t,e⟩:=(show ∃t,u=Value.str x t from r);cases e;rfl
 |byt b=>obtain⟨t,e⟩:=(show ∃t,u=Value.bytes b t from r);cases e;rfl
 |flt b=>obtain⟨t,e⟩:=(show ∃t,u=Value.float b t from r);cases e;rfl
 |ref a=>cases(show u=Value.ref a from r);rfl
 |ty n=>cases(show u=Value.type n from r);rfl
section
variable {P:Program}{w:World}{H H':Hp}{h h':Heap}{a C dx:Addr}{fs fs':List (Str×V)}
theorem Zi7 (hok:HOk P w H h) (e:H a=some (.ins C dx fs)):∃mA,ObjM h a dx C mA/\(∀f,Ze5 (fs.lookup f) (mA f))/\PySem.Within mA (fs.map (·.1))/\fs.length<=1000/\H dx=some (.own a):=by
 obtain⟨d,z,ne,ob,mA,n,r,q⟩:=(show Zao P w H h a (.ins C dx fs)from hok a _ e)
 exact⟨mA,⟨ob,n,ne⟩,r,q,z,d⟩
end
structure Cls (K:PySem.W.Frag) (C:Addr):Prop where
 pg:PySem.W.plainGet K C Str.empty=true
 hd:PySem.W.hasDictIn K C=true
 po:PySem.W.plainOver K C=true
 sa:PySem.W.findIn K (.ref C) "__setattr__"=some (some (.builtin "object.__setattr__"))
theorem Cls.get {K:PySem.W.Frag}{C:Addr} (c:Cls K C) (f:Str):PySem.W.plainGet K C f=true:=c.pg
noncomputable def NoAttr (K:PySem.W.Frag) (C:Addr) (f:Str):Prop:=PySem.W.findIn K (.ref C) f=some none
theorem NoAttr.taker {K:PySem.W.Frag}{C:Addr}{f:Str} (n:NoAttr K C f):PySem.W.takerIn K C f=some none:=by
 unfold PySem.W.takerIn
 rw[show PySem.W.findIn K (.ref C) f=some none from n]
 rfl
structure Meth (K:PySem.W.Frag) (C:Addr) (m:Str) (f:Addr):Prop where
 at_:PySem.W.findIn K (.ref C) m=some (some (.ref f))
 fn:PySem.W.isFn K (.ref f)=true
 kp:PySem.W.keepIn K (.ref f)=true
section
variable {X:Cx}{pins:List (Addr×Obj)}{σ:St}{H:Hp}{s:Shared}{a C dx:Addr}{fs:List (Str×V)}{f:Str}{v:V}{A:Around}{E:Value->Shared->Prop}
theorem Zk3 {b:Bool}{Q:Value->Shared->Prop} (I:Inv X pins σ H s) (e:H a=some (.ins C dx fs)) (c:Cls X.K C) (n:NoAttr X.K C f) (l:fs.lookup f=some v)
  (h:∀u s',Inv X pins σ H s'->RelV v u->Q u s'):wpAny (model X.prog X.w) A (getAttr (.ref a) f b) Q E s:=by
 obtain⟨mA,O,r,_,_,_⟩:=Zi7 I.hok e
 obtain⟨u,hu,ru⟩:=Ze5.some_of (v:=v) (o:=mA f) (by rw[<-l];exact r f)
 exact get_map I.kIn O (c.get f) c.hd n hu (Zmr ru) (h u _ (I.tok _) ru)
theorem Zhz {m:Str}{g:Addr}{pl:Sem Bool}{Q:Value×List Value->Shared->Prop} (I:Inv X pins σ H s) (e:H a=some (.ins C dx fs)) (c:Cls X.K C) (k:Meth X.K C m g) (l:fs.lookup m=none)
  (h:Q (.ref g,[.ref a]) s):wpAny (model X.prog X.w) A (getMethod (.ref a) m pl) Q E s:=by
 obtain⟨mA,O,r,_,_,_⟩:=Zi7 I.hok e
 have hn:mA m=none:=Ze5.none_of (by rw[<-l];exact r m)
 exact Zoi I.kIn O (c.get m) k.at_ k.fn hn h
theorem Zk4 {y:V}{u:Value}{Q:Unit->Shared->Prop} (I:Inv X pins σ H s) (e:H a=some (.ins C dx fs)) (c:Cls X.K C) (n:NoAttr X.K C f) (hl:fs.length<1000) (ry:RelV y u)
  (h:∀s',Inv X pins σ (upd H a (.ins C dx (ZG f y fs))) s'->Q () s'):wpAny (model X.prog X.w) A (setAttr (.ref a) f u) Q E s:=by
 obtain⟨mA,O,r,wi,_,ho⟩:=Zi7 I.hok e
 have hz:(fs.map (·.1)).length<=sizeLine:=by rw[Yf,sizeLine_eq];omega
 refine ZpK I.kIn O c.sa c.po n.taker c.hd wi hz λh' O' sb=>h _ ?_
 have hd:∃o,h'.get? dx=some o:=let ⟨o,_,_,e',_⟩:=O'.ns;⟨o,e'⟩
 refine I.write (x:=a) (e:=dx) (by rw[e];exact True.intro) (.inr ho) (λb q hb z=>(sb.2 b hb).trans z) hd ?_
 refine⟨by rw[Zf O.ne];exact ho,?_,O.ne,O'.obj,_,O'.ns,λg=>?_,λg hg=>?_⟩
 ·have:=ZaK f y fs;omega
 ·show Ze5 ((ZG f y fs).lookup g) (if g=f then some u else mA g)
  rw[ZE]
  by_cases q:g=f
  ·rw[Yd q,Yd q];exact ry
  ·rw[Yb q,Yb q];exact r g
 ·by_cases q:g=f
  ·rw[q];exact(Zgg f y fs).1
  ·refine(Zgg f y fs).2 g (wi g λz=>hg ?_)
   show(if g=f then some u else mA g)=none
   rw[Yb q];exact z
theorem Inv.made (I:Inv X pins σ H s):Inv X pins σ (upd (upd H s.heap.objs.size (.own (s.heap.objs.size+1))) (s.heap.objs.size+1) (.ins C s.heap.objs.size []))
  {s with heap:=(s.heap.push PySem.W.emptyDict).push (PySem.W.instObj C s.heap.objs.size)}:=by
 have e1:(s.heap.push PySem.W.emptyDict).get? s.heap.objs.size=some PySem.W.emptyDict:=Yl s.heap rfl
 have e2:((s.heap.push PySem.W.emptyDict).push (PySem.W.instObj C s.heap.objs.size)).get? (s.heap.objs.size+1)=some (PySem.W.instObj C s.heap.objs.size):=by
  have:=Yl (s.heap.push PySem.W.emptyDict) (o:=PySem.W.instObj C s.heap.objs.size) rfl
  rwa [Heap.size_push]at this
 have e3:(s.heap.push PySem.W.emptyDict).Ns s.heap.objs.size (λ_=>none):=⟨PySem.W.emptyDict,#[],_,e1,rfl,(λe he=>absurd he (by simp)),λ_=>rfl⟩
 have I1:=I.laid (a:=s.heap.objs.size) (o:=.own (s.heap.objs.size+1)) (h':=s.heap.push PySem.W.emptyDict) (t':=s.toks) (λb u q=>Yi _ q) (Ye _) ⟨_,e1⟩
 refine I1.laid (a:=s.heap.objs.size+1) (o:=.ins C s.heap.objs.size []) (t':=s.toks) (λb u q=>Yi _ q) (Nat.le_of_eq (Heap.size_push _ _)) ?_
 have ne:s.heap.objs.size≠s.heap.objs.size+1:=Yo (Nat.lt_succ_self _)
 refine⟨by rw[Zf ne,Zb],Yr _,ne,e2,λ_=>none,(Heap.Ns1.of_empty e3).at λo q=>Yi _ q,λ_=>True.intro,λy hy=>absurd rfl hy⟩
theorem ZpL {prog:Program}{w:World}{env:Env}{e:Expr}{f:Str}{pos:Pos}{s:Shared}{Q:Value->Shared->Prop} (hb:attributeBase e f env (eval e env)=eval e env)
  (h:wpAny (model prog w) A (eval e env) (λo s₁=>wpAny (model prog w) A (getAttr o f true) Q E s₁) E s):wpAny (model prog w) A (eval (.Attribute e f pos) env) Q E s :=
 Attribute_any_ h (by rw[arm_eval_Attribute,hb])
end
structure Room (k:Nat) (A:Around):Prop where
 hd:A.handled=none
 dp:A.depth+3*k+5<recursionLimit
 un:A.units+16*k+200<cLine
theorem Room.mono {j k:Nat}{A:Around} (r:Room k A) (h:j<=k):Room j A:=⟨r.hd,by have:=r.dp;omega,by have:=r.un;omega⟩
theorem Room.deeper {k:Nat}{A:Around} (r:Room (k+1) A) (env:Env):Room k (A.deeper env) :=
 ⟨r.hd,by have:=r.dp;show A.depth+1+3*k+5 < _;omega,by have:=r.un;show A.units+3+16*k+200 < _;omega⟩
theorem Zk5 {A:Around}{C:Addr}{us:List Value}{kw:List (Str×Value)}:(A.under (.builtin "type.__call__" ⟨.ref C::us,kw⟩)).depth=A.depth+1:=by
 first|rfl|simp[Around.under,Code.weight,Code.isCreation,Code.isGuard,Code.isCaller,Code.frames,Code.isFrame,guardIds]
theorem Zk6 {A:Around}{C:Addr}{us:List Value}{kw:List (Str×Value)}:(A.under (.builtin "type.__call__" ⟨.ref C::us,kw⟩)).units=A.units+1:=by
 first|rfl|simp[Around.under,Code.cUnits,Code.frames,Code.isFrame]
theorem Room.make {k:Nat}{A:Around} (r:Room (k+1) A) (C:Addr) (us:List Value) (kw:List (Str×Value)):Room k (A.under (.builtin "type.__call__" ⟨.ref C::us,kw⟩)) :=
 ⟨r.hd,by have:=r.dp;rw[Zk5];omega,by have:=r.un;rw[Zk6];omega⟩
theorem Room.depth {k:Nat}{A:Around} (r:Room k A):A.depth<recursionLimit:=by have:=r.dp;omega
theorem Room.units {k:Nat}{A:Around} (r:Room k A):A.units+64<cLine:=by have:=r.un;omega
noncomputable def tNil:TA:=λ_ H Q=>Q [] H
noncomputable def tCons (ta:TE) (tr:TA):TA:=fun σ H Q=>ta σ H λx H1=>tr σ H1 λxs H2=>Q (x::xs) H2
section
variable {X:Cx}{e:Expr}{es:List Expr}{te:TE}{t:TA}{pos:Pos}
theorem Zc:PA X [] tNil:=λ_ _ _ _ H Q I h=>Calls.spliced_nil ⟨[],H,I,.nil,h⟩
theorem Za (ha:PE X e te) (hr:PA X es t) (hs:starEach (e::es) X.env=(false,eval e X.env)::starEach es X.env:=by rfl):PA X (e::es) (tCons te t):=by
 intro pos pins s σ H Q I h
 rw[hs]
 show wpAny _ _ (spliced ((false,eval e X.env)::backTo pos (starEach es X.env))) _ _ s
 refine Calls.spliced_cons (thn (ha pins s σ H _ I h) λu s1 ⟨x,H1,I1,r1,q1⟩=>?_)
 exact thn (hr pos pins s1 σ H1 _ I1 q1) λus s2 ⟨xs,H2,I2,r2,q2⟩=>⟨x::xs,H2,I2,.cons r1 r2,q2⟩
noncomputable def tTup (t:TA):TE:=fun σ H Q=>t σ H λxs H1=>xs.length<=sizeLine/\∀p,H1 p=none->Q (.ref p) (upd H1 p (.tup xs))
noncomputable def tLst (t:TA):TE:=fun σ H Q=>t σ H λxs H1=>xs.length<=sizeLine/\∀p,H1 p=none->Q (.ref p) (upd H1 p (.lst xs))
theorem Zff {x1} (h:PA X es t):PE X (.Tuple es x1 pos) (tTup t):=by
 intro pins s σ H Q I hq
 refine wpAny_Tuple_spliced (thn (h pos pins s σ H _ I hq) λus s1 ⟨xs,H1,I1,r,z,q⟩=>⟨by rw[<-r.length];exact z,?_⟩)
 have hf:H1 s1.heap.objs.size=none:=I1.hok.fresh (Ye _)
 refine⟨.ref s1.heap.objs.size,upd H1 s1.heap.objs.size (.tup xs),I1.laid (t':=s1.toks) (λb u e=>Yi _ e) (Ye _) ?_,rfl,q _ hf⟩
 exact⟨z,us,r,⟨_,Yl _ rfl,rfl,_,rfl⟩⟩
theorem ZK (h:PA X es t):PE X (.List es pos) (tLst t):=by
 intro pins s σ H Q I hq
 refine wpAny_List_spliced (thn (h pos pins s σ H _ I hq) λus s1 ⟨xs,H1,I1,r,z,q⟩=>⟨by rw[<-r.length];exact z,?_⟩)
 have hf:H1 s1.heap.objs.size=none:=I1.hok.fresh (Ye _)
 refine⟨.ref s1.heap.objs.size,upd H1 s1.heap.objs.size (.lst xs),I1.laid (t':=s1.toks) (λb u e=>Yi _ e) (Ye _) ?_,rfl,q _ hf⟩
 exact⟨z,us,0,r,Yl _ rfl⟩
end
noncomputable abbrev Sp:=List V->Hp->VK->XK->Prop
noncomputable abbrev CXT:=List Env->Hp->Shared->XK->Value->Shared->Prop
structure Env0 (P:Program) (w:World) (K:PySem.W.Frag) (mg:Str->Option Value) (base:Heap) (A:Around) (outer:List Env) (s:Shared) (H:Hp):Prop where
 frames:A.frames=some outer
 mod:Mod K mg base
 bs:∀b o,base.get? b=some o->s.heap.get? b=some o/\H b=none
 bsz:base.objs.size<=s.heap.objs.size
 funs:s.heap.FunFrames base outer
 frf:∀b∈frs outer,H b=none
 hok:HOk P w H s.heap
 bare:AllBare s.gens
noncomputable def CE (outer:List Env) (P:Program) (w:World) (H:Hp) (s:Shared) (Q:VK) (u:Value) (s':Shared):Prop :=
 ∃v H',s'.os=s.os/\AllBare s'.gens/\Un (frs outer) [] H H' s.heap s'.heap/\HOk P w H' s'.heap/\RelV v u/\Q v H'
noncomputable def CR (CX:CXT) (outer:List Env) (P:Program) (w:World) (H:Hp) (s:Shared) (Q:VK) (E:XK) (r:Result) (s':Shared):Prop :=
 match r with
 |.ok (.ret u)=>CE outer P w H s Q u s'
 |.ok _=>False
 |.error e=>CX outer H s E e s'
structure FnOk (P:Program) (w:World) (K:PySem.W.Frag) (mg:Str->Option Value) (base:Heap) (CX:CXT) (k:Nat) (f:Addr) (fd:FuncData) (ps:List Str) (sp:Sp):Prop where
 len:∀vs H Q E,sp vs H Q E->vs.length=ps.length
 run:∀(A:Around) (outer:List Env) (s:Shared) (H:Hp) (args:Args) (us:List Value) (vs:List V) (Q:VK) (E:XK),Room k A->Env0 P w K mg base A outer s H->BindsTo s fd args (ps.zip us)->Vals vs us->sp vs H Q E ->
  codeAny (model P w) A (.call (.ref f) args) (CR CX outer P w H s Q E) s
theorem Env0.make {P:Program}{w:World}{K:PySem.W.Frag}{mg:Str->Option Value}{base:Heap}{A:Around}{outer:List Env}{s:Shared}{H:Hp} (e:Env0 P w K mg base A outer s H) (C:Addr) (us:List Value) (kw:List (Str×Value)) :
  Env0 P w K mg base (A.under (.builtin "type.__call__" ⟨.ref C::us,kw⟩)) outer s H:=⟨by first|exact e.frames|(simpa[Around.under,Code.envs,Code.isFrame,pushEnvs]using e.frames),e.mod,e.bs,e.bsz,e.funs,e.frf,e.hok,e.bare⟩
section
variable {X:Cx}{pins:List (Addr×Obj)}{σ:St}{H:Hp}{s s':Shared}
theorem Inv.env0 (I:Inv X pins σ H s):Env0 X.prog X.w X.K X.mg X.base X.A X.stack s H :=
 ⟨I.ok.frames,I.ok.mod,I.bs,Yj I.ok.bsz I.sz,I.stack,I.Zi3,I.hok,I.bare⟩
theorem Inv.after {Q:VK}{u:Value} (I:Inv X pins σ H s) (h:CE X.stack X.prog X.w H s Q u s'):EP X pins σ Q u s':=by
 obtain⟨v,H',os,bare,un,hok,r,q⟩:=h
 obtain⟨hh,g,d,t,os'⟩:=s'
 obtain rfl:os'=s.os:=os
 exact⟨v,H',I.call (h':=hh) (g':=g) (d':=d) (t':=t) (ch:=[]) un hok bare (λb z=>absurd z (by simp)),r,q⟩
end
noncomputable def tCall (sp:Sp) (dvs:List V) (E:XK) (t:TA):TE:=fun σ H Q=>t σ H λvs H1=>sp (vs++dvs) H1 Q E
noncomputable def tMeth (C:Addr) (m:Str) (sp:Sp) (dvs:List V) (E:XK) (ta:TE) (t:TA):TE:=fun σ H Q=>ta σ H λx H1=>∃a dx fs,x=.ref a/\H1 a=some (.ins C dx fs)/\fs.lookup m=none /\
 t σ H1 λvs H2=>sp (x::(vs++dvs)) H2 Q E
noncomputable def tMake (C:Addr) (sp:Sp) (dvs:List V) (E:XK) (t:TA):TE:=fun σ H Q=>t σ H λvs H1=>∀x dx,H1 x=none->H1 dx=none->dx≠x ->
 sp (.ref x::(vs++dvs)) (upd (upd H1 dx (.own x)) x (.ins C dx [])) (λv H2=>v=.non/\Q (.ref x) H2) E
noncomputable def Binds (K:PySem.W.Frag) (fd:FuncData) (ps:List Str) (ds:List Value):Prop :=
 ∀(s:Shared) (us:List Value),K.In s.heap->(us++ds).length=ps.length->BindsTo s fd ⟨us,[]⟩ (ps.zip (us++ds))
theorem Binds.all {K:PySem.W.Frag}{fd:FuncData}{ps:List Str} (h:∀us:List Value,us.length=ps.length->bindArgs fd ⟨us,[]⟩=pure (ps.zip us)):Binds K fd ps []:=λs us _ hl=>by
 rw[List.append_nil]at hl⊢
 exact .of_eq (h us hl)
noncomputable def Passes (CX:CXT) (X:Cx) (E:XK):Prop:=∀(pins:List (Addr×Obj)) (σ:St) (H:Hp) (s:Shared) (e:Value) (s':Shared),Inv X pins σ H s->CX X.stack H s E e s'->X.xe e s'
section
variable {X:Cx}{CX:CXT}{k:Nat}{f C:Addr}{fd:FuncData}{ps:List Str}{sp:Sp}{dvs:List V}{ds:List Value}{E:XK}{x m:Str}{p pos apos:Pos}{e o:Expr}{es:List Expr}{ta:TE}{t:TA}
theorem Zk7 {pins:List (Addr×Obj)}{σ:St}{H:Hp}{s:Shared}{Q:VK}{us:List Value}{vs:List V} (F:FnOk X.prog X.w X.K X.mg X.base CX k f fd ps sp) (hr:Room k X.A) (hb:Binds X.K fd ps ds) (hd:Vals dvs ds) (hx:Passes CX X E)
  (I:Inv X pins σ H s) (r:Vals vs us) (h:sp (vs++dvs) H Q E):wpAny (model X.prog X.w) X.A (call (.ref f) us) (EP X pins σ Q) X.xe s:=by
 have r2:Vals (vs++dvs) (us++ds):=r.append hd
 have hl:(us++ds).length=ps.length:=by rw[<-r2.length];exact F.len _ _ _ _ h
 refine wpAny_call (codeAny_mono (F.run X.A X.stack s H ⟨us,[]⟩ (us++ds) (vs++dvs) Q E hr I.env0 (hb s us I.kIn hl) r2 h) λr s' hq=>?_)
 cases r with
 |error e=>exact hx pins σ H s e s' I hq
 |ok fl =>
  cases fl with
  |ret u=>exact I.after hq
  |next=>exact False.elim hq
  |brk=>exact False.elim hq
  |cont=>exact False.elim hq
theorem ZlP (F:FnOk X.prog X.w X.K X.mg X.base CX k f fd ps sp) (hr:Room k X.A) (hg:Gl X x) (hm:X.mg x=some (.ref f)) (hk:PySem.W.keepIn X.K (.ref f)=true) (hb:Binds X.K fd ps ds) (hd:Vals dvs ds) (hx:Passes CX X E)
  (ha:PA X (e::es) t) (hdb:(x==("__debug__":Str))=false:=by decide) (he:starEach (e::es) X.env=(false,eval e X.env)::starEach es X.env:=by rfl) (hpl:(backTo pos (starEach es X.env)).any (·.1)=false:=by rfl) :
  PE X (.Call (.Name x p) (e::es) [] pos) (tCall sp dvs E t):=by
 intro pins s σ H Q I h
 refine wpAny_Call_Name_kw (ZfE I hg hm ?_ hdb)
 refine PySem.W.callWith_K (h₀:=X.base) I.ok.mod.kin hk (thn (ha pos pins s σ H _ I h) λus s1 ⟨vs,H1,I1,r,q⟩=>⟨I1.kIn,?_⟩) he hpl
 exact Zk7 F hr hb hd hx I1 r q
theorem ZpM {pl:Sem Bool} (he:PE X o ta) (c:Cls X.K C) (hm:Meth X.K C m f) (F:FnOk X.prog X.w X.K X.mg X.base CX k f fd ps sp) (hr:Room k X.A) (hb:Binds X.K fd ps ds) (hd:Vals dvs ds) (hx:Passes CX X E) (ha:PA X (e::es) t)
  (hst:starEach (e::es) X.env=(false,eval e X.env)::starEach es X.env:=by rfl) (hpl:(backTo pos (starEach es X.env)).any (·.1)=false:=by rfl)
  (ht:eval (.Call (.Attribute o m apos) (e::es) [] pos) X.env=(do
   let ov <-eval o X.env
   standAt apos.atName
   let (f,first) <-holding [ov] (getMethod ov m pl)
   callWith pos f first (backTo pos (starEach (e::es) X.env)) (backToKw pos (keywordEach [] X.env))):=by rfl) :
  PE X (.Call (.Attribute o m apos) (e::es) [] pos) (tMeth C m sp dvs E ta t):=by
 intro pins s σ H Q I h
 refine PySem.W.methodCall_KW (pl:=pl) (thn (he pins s σ H _ I h) λu s1 ⟨x,H1,I1,rx,a,dx,fs,ex,ea,l,q⟩=>?_) ht
 subst ex
 obtain rfl:u=Value.ref a:=rx
 refine Zhz I1 ea c hm l ?_
 refine PySem.W.callWith_K (first:=[.ref a]) (h₀:=X.base) I.ok.mod.kin hm.kp (thn (ha pos pins s1 σ H1 _ I1 q) λus s2 ⟨vs,H2,I2,r,q2⟩=>⟨I2.kIn,?_⟩) hst hpl
 exact Zk7 (us:=.ref a::us) (vs:=.ref a::vs) F hr hb hd hx I2 (.cons rfl r) q2
theorem Zok {pl:Sem Bool} (he:PE X o ta) (c:Cls X.K C) (hm:Meth X.K C m f) (F:FnOk X.prog X.w X.K X.mg X.base CX k f fd ps sp) (hr:Room k X.A) (hb:Binds X.K fd ps ds) (hd:Vals dvs ds) (hx:Passes CX X E)
  (ht:eval (.Call (.Attribute o m apos) [] [] pos) X.env=(do
   let ov <-eval o X.env
   standAt apos.atName
   let (f,first) <-holding [ov] (getMethod ov m pl)
   callWith pos f first (backTo pos (starEach [] X.env)) (backToKw pos (keywordEach [] X.env))):=by rfl) :
  PE X (.Call (.Attribute o m apos) [] [] pos) (tMeth C m sp dvs E ta tNil):=by
 intro pins s σ H Q I h
 refine PySem.W.methodCall_KW (pl:=pl) (thn (he pins s σ H _ I h) λu s1 ⟨x,H1,I1,rx,a,dx,fs,ex,ea,l,q⟩=>?_) ht
 subst ex
 obtain rfl:u=Value.ref a:=rx
 refine Zhz I1 ea c hm l ?_
 exact PySem.W.callWith_K0 (first:=[.ref a]) I1.kIn hm.kp (Zk7 (us:=[.ref a]) (vs:=[.ref a]) F hr hb hd hx I1 (.cons rfl .nil) q)
structure Mk (K:PySem.W.Frag) (C f:Addr):Prop where
 makes:PySem.W.makesIn K C=true
 init:PySem.W.findIn K (.ref C) "__init__"=some (some (.ref f))
 fn:PySem.W.isFn K (.ref f)=true
 kp:PySem.W.keepIn K (.ref C)=true
theorem Zol {pins:List (Addr×Obj)}{σ:St}{H:Hp}{s:Shared}{Q:VK}{us:List Value}{vs:List V} (M:Mk X.K C f) (F:FnOk X.prog X.w X.K X.mg X.base CX k f fd ps sp) (hr:Room (k+1) X.A) (hb:Binds X.K fd ps ds) (hd:Vals dvs ds)
  (hx:Passes CX X E) (I:Inv X pins σ H s) (r:Vals vs us)
  (h:∀x dx,H x=none->H dx=none->dx≠x->sp (.ref x::(vs++dvs)) (upd (upd H dx (.own x)) x (.ins C dx [])) (λv H2=>v=.non/\Q (.ref x) H2) E) :
  wpAny (model X.prog X.w) X.A (call (.ref C) us) (EP X pins σ Q) X.xe s:=by
 have hq:=h (s.heap.objs.size+1) s.heap.objs.size (I.hok.fresh (Nat.le_succ _)) (I.hok.fresh (Ye _)) (Yo (Nat.lt_succ_self _))
 have I2:=Inv.made (C:=C) I
 have r2:Vals (V.ref (s.heap.objs.size+1)::(vs++dvs)) (Value.ref (s.heap.objs.size+1)::(us++ds)):=.cons rfl (r.append hd)
 have hl:(Value.ref (s.heap.objs.size+1)::us++ds).length=ps.length:=by
  have e:=r2.length
  rw[F.len _ _ _ _ hq]at e
  exact e.symm
 refine wpAny_call (Zoj (f:=f) I.kIn M.makes M.init (beq_iff_eq.mp M.fn) (codeAny_mono (F.run _ X.stack _ _ ⟨Value.ref (s.heap.objs.size+1)::us,[]⟩ (Value.ref (s.heap.objs.size+1)::(us++ds)) _ _ E (hr.make C us [])
  (I2.env0.make C us []) (hb _ (Value.ref (s.heap.objs.size+1)::us) I2.kIn hl) r2 hq) λr s' hq'=>?_))
 cases r with
 |error e=>exact hx pins σ _ _ e s' I2 hq'
 |ok fl =>
  cases fl with
  |ret u =>
   obtain⟨v,H',I3,rv,ev,q3⟩:=I2.after hq'
   subst ev
   exact⟨rv,⟨V.ref (s.heap.objs.size+1),H',I3,rfl,q3⟩⟩
  |next=>exact False.elim hq'
  |brk=>exact False.elim hq'
  |cont=>exact False.elim hq'
theorem ZpN (M:Mk X.K C f) (F:FnOk X.prog X.w X.K X.mg X.base CX k f fd ps sp) (hr:Room (k+1) X.A) (hg:Gl X x) (hm:X.mg x=some (.ref C)) (hb:Binds X.K fd ps ds) (hd:Vals dvs ds) (hx:Passes CX X E)
  (ha:PA X (e::es) t) (hdb:(x==("__debug__":Str))=false:=by decide) (he:starEach (e::es) X.env=(false,eval e X.env)::starEach es X.env:=by rfl) (hpl:(backTo pos (starEach es X.env)).any (·.1)=false:=by rfl) :
  PE X (.Call (.Name x p) (e::es) [] pos) (tMake C sp dvs E t):=by
 intro pins s σ H Q I h
 refine wpAny_Call_Name_kw (ZfE I hg hm ?_ hdb)
 refine PySem.W.callWith_K (h₀:=X.base) I.ok.mod.kin M.kp (thn (ha pos pins s σ H _ I h) λus s1 ⟨vs,H1,I1,r,q⟩=>⟨I1.kIn,?_⟩) he hpl
 exact Zol M F hr hb hd hx I1 r q
end
noncomputable def PK (X:Cx) (kws:List Keyword) (t:TA):Prop :=
 ∀(pos:Pos) (pins:List (Addr×Obj)) (s:Shared) (σ:St) (H:Hp) (Q:List V->Hp->Prop),Inv X pins σ H s->t σ H Q->wpAny (model X.prog X.w) X.A (evalAll ((backToKw pos (keywordEach kws X.env)).map (·.2))) (AP X pins σ Q) X.xe s
section
variable {X:Cx}{CX:CXT}{k:Nat}{f C:Addr}{fd:FuncData}{ps ks:List Str}{sp:Sp}{E:XK}{x m:Str}{p pos apos kpos:Pos}{e o:Expr}{es:List Expr}{kws:List Keyword}{te ta:TE}{t tk:TA}{nm:Option Str}
theorem Zom:PK X [] tNil:=λ_ _ _ _ H Q I h=>wpAny_evalAll_nil ⟨[],H,I,.nil,h⟩
theorem ZlQ (ha:PE X e te) (hr:PK X kws t):PK X (⟨nm,e,kpos⟩::kws) (tCons te t):=by
 intro pos pins s σ H Q I h
 show wpAny _ _ (evalAll ((do let v <-eval e X.env;standAt pos;pure v)::(backToKw pos (keywordEach kws X.env)).map (·.2))) _ _ s
 refine wpAny_evalAll_cons (Ya (thn (ha pins s σ H _ I h) λu s1 ⟨x,H1,I1,r1,q1⟩=>Ya (wpAny_standAt (Yc ?_))))
 exact thn (hr pos pins s1 σ H1 _ I1 q1) λus s2 ⟨xs,H2,I2,r2,q2⟩=>⟨x::xs,H2,I2,.cons r1 r2,q2⟩
variable {g:List Value->List Value->List Value}{gV:List V->List V->List V}
end
structure FnScope (N P:List Str) (sc:Scope):Prop where
 kind:sc.kind=.function
 co:sc.isCoroutine=false
 gen:sc.isGenerator=false
 nd:N.Nodup
 pre:N.take P.length=P
 par:∀x∈P,sc.names.lookup x=some .local\/sc.names.lookup x=some .cell
 nofree:∀y∈sc.names,y.2≠.free
theorem Ziy {kindOf:Str->Option NameKind}{x:Str}:∀{binds:List (Str×Value)}{m:Str->Option Value},(∀v,(x,v)∉binds)->bindL kindOf binds m x=m x
 |[],_,_=>rfl
 |(n,v)::r,m,h=>by
  unfold bindL
  rw[Ziy λw hw=>h w (YQ _ hw)]
  split
  ·have:x≠n:=by rintro rfl;exact h v Y1
   simp[this]
  ·rfl
theorem Ziz {kindOf:Str->Option NameKind}{x:Str}:∀{binds:List (Str×Value)}{m:Str->Option Value},(∀v,(x,v)∉binds)->bindC kindOf binds m x=m x
 |[],_,_=>rfl
 |(n,v)::r,m,h=>by
  unfold bindC
  rw[Ziz λw hw=>h w (YQ _ hw)]
  split
  ·rfl
  ·have:x≠n:=by rintro rfl;exact h v Y1
   simp[this]
theorem ZiA {kindOf:Str->Option NameKind}{x:Str}{v:Value}:∀{P:List Str}{vs:List Value}{i:Nat}{m:Str->Option Value},P.Nodup->P[i]?=some x->vs[i]?=some v->kindOf x=some .local ->
  bindL kindOf (P.zip vs) m x=some v
 |[],_,_,_,_,h,_,_=>by simp at h
 |_::_,[],_,_,_,_,h,_=>by simp at h
 |p::P,w::vs,0,m,nd,h1,h2,hk=>by
  simp at h1 h2;subst h1;subst h2
  show bindL kindOf ((p,w)::P.zip vs) m p=_
  unfold bindL
  rw[Ziy λv hv=>(List.nodup_cons.mp nd).1 (List.of_mem_zip hv).1,Yd hk]
  simp
 |p::P,w::vs,i+1,m,nd,h1,h2,hk=>by
  show bindL kindOf ((p,w)::P.zip vs) m x=_
  unfold bindL
  exact ZiA (i:=i) (List.nodup_cons.mp nd).2 (by simpa using h1) (by simpa using h2) hk
theorem ZiB {kindOf:Str->Option NameKind}{x:Str}{v:Value}:∀{P:List Str}{vs:List Value}{i:Nat}{m:Str->Option Value},P.Nodup->P[i]?=some x->vs[i]?=some v->kindOf x≠some .local ->
  bindC kindOf (P.zip vs) m x=some v
 |[],_,_,_,_,h,_,_=>by simp at h
 |_::_,[],_,_,_,_,h,_=>by simp at h
 |p::P,w::vs,0,m,nd,h1,h2,hk=>by
  simp at h1 h2;subst h1;subst h2
  show bindC kindOf ((p,w)::P.zip vs) m p=_
  unfold bindC
  rw[Ziz λv hv=>(List.nodup_cons.mp nd).1 (List.of_mem_zip hv).1,Yb hk]
  simp
 |p::P,w::vs,i+1,m,nd,h1,h2,hk=>by
  show bindC kindOf ((p,w)::P.zip vs) m x=_
  unfold bindC
  exact ZiB (i:=i) (List.nodup_cons.mp nd).2 (by simpa using h1) (by simpa using h2) hk
noncomputable def start (N:List Str) (vs:List V):St:=vs.map some++List.replicate (N.length-vs.length) none
noncomputable def Zfg (CX:CXT) (P:Program) (w:World) (K:PySem.W.Frag) (mg:Str->Option Value) (base:Heap) (N:List Str) (qual:Str) (scope:Scope) (f:Addr) (cd:Value) (A:Around) (outer:List Env) (s:Shared) (H:Hp) (E:XK):Cx where
 prog:=P
 w:=w
 K:=K
 mg:=mg
 base:=base
 A:=A.deeper (envOfC qual scope s.heap.objs.size f cd)
 N:=N
 s₀:=s
 H₀:=H
 env:=envOfC qual scope s.heap.objs.size f cd
 outer:=outer
 stack:=envOfC qual scope s.heap.objs.size f cd::outer
 ex:=[]
 calm:=true
 fn:=λ_=>true
 pn:=[]
 xe:=λe s'=>wpAny (model P w) (A.deeper (envOfC qual scope s.heap.objs.size f cd)) (leaving (envOfC qual scope s.heap.objs.size f cd) e) (λ_ s''=>CX outer H s E e s'') (λe' s''=>CX outer H s E e' s'') s'
theorem ZjV {sc:Scope}{n:Nat}{x:Str} (h:sc.names.lookup x=some .cell):∃c,(cellsFrom n sc.names []).lookup x=some c:=by
 have q:=PySem.W.cellsFrom_some sc.names n [] (.inl h)
 exact Option.isSome_iff_exists.mp q
theorem Zms {CX:CXT}{P:Program}{w:World}{K:PySem.W.Frag}{mg:Str->Option Value}{base:Heap}{N ps:List Str}{qual:Str}{scope:Scope}{f:Addr}{cd:Value}{A:Around}{outer:List Env}{s s1:Shared}{H:Hp}{E:XK}{us:List Value}{vs:List V}
  (S:FnScope N ps scope) (hd:A.handled=none) (e0:Env0 P w K mg base A outer s H) (hl:vs.length=ps.length) (r:Vals vs us)
  (x:InCallC s s.heap.objs.size (bindL (envOfC qual scope s.heap.objs.size f cd).kindOf (ps.zip us) λ_=>none) (cellsFrom (s.heap.objs.size+1) scope.names []) (bindC (envOfC qual scope s.heap.objs.size f cd).kindOf (ps.zip us) λ_=>none) s1) :
  Inv (Zfg CX P w K mg base N qual scope f cd A outer s H E) [] (start N vs) H s1:=by
 have hpl:ps.length<=N.length:=by have:=congrArg List.length S.pre;rw[YO]at this;omega
 obtain⟨h1,tk,rfl,hk⟩:=x.done
 have noA:∀b:Addr,b∉(Zfg CX P w K mg base N qual scope f cd A outer s H E).ex:=λb z=>absurd (show b∈([]:List Addr)from z) (by simp)
 refine⟨⟨e0.mod,S.kind,rfl,rfl,Ye _,λy z c h1 h2=>?_,λy hy=>?_,λy c _ h=>?_,λ_=>hd,Around.frames_deeper e0.frames,.inr ⟨rfl,rfl⟩,λb z=>absurd z (noA b),e0.bs,e0.bsz,λb _ _=>noA b,λb z=>absurd z (noA b),e0.funs,e0.frf⟩,
  rfl,e0.bare,Un.kept hk,⟨_,x.toInCall.ns,λi y v h1 h2 h3=>?_⟩,λy c h=>⟨_,x.cell y c h⟩,e0.hok.fresh (Ye _),λy c h=>?_,λp hp=>absurd (show p∈([]:List (Addr×Obj))from hp) (by simp),e0.hok.kept hk,?_⟩
 ·exact name_of_addr x.apart (PySem.mem_of_lookup h1) (PySem.mem_of_lookup h2)
 ·have hy:scope.names.lookup y=some .cell\/scope.names.lookup y=some .free:=hy
  rcases hy with hy|hy
  ·exact ZjV hy
  ·exact absurd rfl (S.nofree _ (PySem.mem_of_lookup hy))
 ·exact YV (x.above y c (PySem.mem_of_lookup h))
 ·have hi:i<vs.length:=by
   unfold start at h2
   by_cases hi:i<vs.length
   ·exact hi
   ·rw[Y2 (by simpa using hi)]at h2
    rw[List.getElem?_replicate]at h2
    split at h2<;>cases h2
  have ha:vs[i]?=some v:=by
   unfold start at h2
   rw[YT (by simpa using hi),Yp]at h2
   cases e:vs[i]? with
   |none=>rw[e]at h2;cases h2
   |some a=>rw[e]at h2;cases h2;rfl
  obtain⟨u,hu,rv⟩:=r.get ha
  have hp:ps[i]?=some y:=by
   rw[<-S.pre,List.getElem?_take_of_lt (by omega)];exact h1
  have ndP:ps.Nodup:=by rw[<-S.pre];exact S.nd.sublist (List.take_sublist _ _)
  refine⟨u,rv,?_⟩
  rcases S.par y (List.mem_of_getElem? hp)with k|k
  ·exact .inl ⟨k,ZiA ndP hp hu k⟩
  ·obtain⟨c,e⟩:=ZjV (n:=s.heap.objs.size+1) k
   refine .inr ⟨.inl k,c,e,?_⟩
   have q:=x.cell y c e
   rw[ZiB ndP hp hu (by show scope.names.lookup y≠_;rw[k];decide)]at q
   exact q
 ·exact e0.hok.fresh (YV (x.above y c (PySem.mem_of_lookup h)))
 ·unfold start
  show _=N.length
  rw[YE,Yf,List.length_replicate]
  omega
theorem Zon {CX:CXT}{P:Program}{w:World}{K:PySem.W.Frag}{mg:Str->Option Value}{base:Heap}{k:Nat}{f:Addr}{name qual:Str}{params:Arguments}{body:List Stmt}{scope:Scope}{dV kV doc pm cdv ct oc:Value}{an od:Option Addr}
  {osl:Array (Option Value)}{N ps:List Str}{sp:Sp} (lk:K.lookup f=some ⟨oc,od,.func (PySem.W.fnOf name qual params body scope dV kV doc pm an cdv ct),osl⟩) (hcd:PySem.W.codeIn K cdv qual=true) (S:FnScope N ps scope)
  (len:∀vs H Q E,sp vs H Q E->vs.length=ps.length)
  (hbody:∀(A:Around) (outer:List Env) (s:Shared) (H:Hp) (vs:List V) (Q:VK) (E:XK),Room k (A.deeper (envOfC qual scope s.heap.objs.size f cdv))->sp vs H Q E ->
   ∃t,PSs (Zfg CX P w K mg base N qual scope f cdv A outer s H E) body t/\t {nx:=λ_ H'=>Q .non H',rt:=Q} (start N vs) H) :
  FnOk P w K mg base CX (k+1) f (PySem.W.fnOf name qual params body scope dV kV doc pm an cdv ct) ps sp:=by
 refine⟨len,λA outer s H args us vs Q E hr e0 hb r hsp=>?_⟩
 have hl:=len _ _ _ _ hsp
 have KX:K.In s.heap:=e0.mod.kin.keeps λb o e=>(e0.bs b o e).1
 have lim:s.heap.NoLimit:=e0.mod.nolimit.keeps λb o e=>(e0.bs b o e).1
 have hkind:∀y∈ps.zip us,scope.names.lookup y.1=some .local\/(scope.names.lookup y.1=some .cell/\((cellsFrom (s.heap.objs.size+1) scope.names []).lookup y.1).isSome=true):=λ⟨n,v⟩ hy=>by
  rcases S.par n (List.of_mem_zip hy).1 with q|q
  ·exact .inl q
  ·exact .inr ⟨q,PySem.W.cellsFrom_some _ _ _ (.inl q)⟩
 refine codeAny_call_function hr.depth (KX _ _ lk) rfl S.co S.gen rfl (PySem.W.codeRec_of KX hcd) (hb _ _ _ _ ?_)
 refine wpAny_newFunctionEnv_cells S.kind hkind λenv he s1 x=>?_
 subst he
 refine⟨lim.keeps x.toInCall.keep,codeAny_func ?_⟩
 obtain⟨t,ht,hq⟩:=hbody A outer s H vs Q E (hr.deeper _) hsp
 have I:Inv (Zfg CX P w K mg base N qual scope f cdv A outer s H E) [] (start N vs) H s1:=Zms S hr.hd e0 hl r x
 refine YI (ht [] s1 (start N vs) H _ I hq) (λfl s' hs=>?_) λe s' hs=>hs
 have fin:∀{σ':St}{H':Hp}{v:V}{u:Value},Inv (Zfg CX P w K mg base N qual scope f cdv A outer s H E) [] σ' H' s'->RelV v u->Q v H'->CE outer P w H s Q u s' :=
  λ{σ' H' v u} J rv q=>⟨v,H',J.os,J.bare,J.base,J.hok,rv,q⟩
 cases fl with
 |ret u =>
  obtain⟨v,σ',H',J,rv,q⟩:=hs
  exact fin J rv q
 |next =>
  obtain⟨σ',H',J,q⟩:=hs
  exact fin (v:=V.non) (u:=Value.none) J rfl q
 |brk =>
  obtain⟨_,_,_,q⟩:=hs
  exact False.elim q
 |cont =>
  obtain⟨_,_,_,q⟩:=hs
  exact False.elim q
section
variable {X:Cx}{x:Str}{p pos:Pos}{e:Expr}{es:List Expr}{t:TA}{id T:String}{r:List V->Hp->VK->Prop}
noncomputable def tCB (r:List V->Hp->VK->Prop) (t:TA):TE:=fun σ H Q=>t σ H λvs H1=>r vs H1 Q
theorem Zk (hc:ZcY X (.builtin id) r) (hg:Gl X x) (hm:X.mg x=none) (hv:bootBuiltins x=some (.builtin id)) (ha:PA X (e::es) t) (hn:x≠"__name__":=by decide) (hdb:(x==("__debug__":Str))=false:=by decide)
  (he:starEach (e::es) X.env=(false,eval e X.env)::starEach es X.env:=by rfl) (hpl:(backTo pos (starEach es X.env)).any (·.1)=false:=by rfl):PE X (.Call (.Name x p) (e::es) [] pos) (tCB r t):=by
 intro pins s σ H Q I h
 refine wpAny_Call_Name_kw (ZdB I hg hm hv ?_ hn hdb)
 exact PyProof.Rows.callWith_builtin1 (thn (ha pos pins s σ H _ I h) λus s1 ⟨vs,H1,I1,r1,q1⟩=>hc pins s1 σ H1 vs us Q I1 r1 q1) he hpl
theorem Zdr (hc:ZcY X (.type T) r) (hg:Gl X x) (hm:X.mg x=none) (hv:bootBuiltins x=some (.type T)) (ha:PA X (e::es) t) (hn:x≠"__name__":=by decide) (hdb:(x==("__debug__":Str))=false:=by decide)
  (he:starEach (e::es) X.env=(false,eval e X.env)::starEach es X.env:=by rfl) (hpl:(backTo pos (starEach es X.env)).any (·.1)=false:=by rfl):PE X (.Call (.Name x p) (e::es) [] pos) (tCB r t):=by
 intro pins s σ H Q I h
 refine wpAny_Call_Name_kw (ZdB I hg hm hv ?_ hn hdb)
 exact PyProof.Rows.callWith_type1 (thn (ha pos pins s σ H _ I h) λus s1 ⟨vs,H1,I1,r1,q1⟩=>hc pins s1 σ H1 vs us Q I1 r1 q1) he hpl
end
end L2
namespace HT
open PySem PyProof.Rows
section
open PySem.SeqAt
open PySem.AutoSeq1 (wpAny_loadPart')
open PySem.MeetsSeq PySem.MeetsSeq2 PySem.MeetsSeq3
end
section
variable {prog:Program}{w:World}{A:Around}{E:Value->Shared->Prop}{s:Shared}
theorem ZpO {t b:Addr}{vs ws:List Value}{Q:Value->Shared->Prop} (ht:IsTup s.heap t vs.toArray) (hb:IsTup s.heap b ws.toArray) (hv:vs≠[])
  (h1:ws=[]->Q (.ref t) s) (h2:ws≠[]->Q (.ref s.heap.objs.size) {s with heap:=s.heap.push {cls:=.type "tuple",data:=.seq (vs++ws).toArray}})
  (hsz:vs.length+ws.length<=sizeLine):wpAny (model prog w) A (binaryOp .Add (.ref t) (.ref b)) Q E s:=by
 obtain⟨⟨cls,dd,data,sl⟩,ho,hc,n,hd⟩:=id ht
 obtain⟨⟨cls2,dd2,data2,sl2⟩,ho2,hc2,n2,hd2⟩:=id hb
 simp only at hc hd hc2 hd2
 subst hc hd hc2 hd2
 have e:vs.toArray++ws.toArray=(vs++ws).toArray:=by simp
 by_cases hw:ws=[]
 ·exact concat_meets ⟨_,ho,rfl⟩ ⟨_,ho2,rfl⟩ noFill_tuple_add seq_tuple_add PySem.F.slot_tuple_add PySem.F.entry_tuple_add (PySem.F.args_tuple_add_2 _ _)
   (tuple_addW1 t b vs.toArray ws.toArray n n2 dd dd2 sl sl2 (by simpa using hv) (by simp[hw])) ⟨ho,ho2,h1 hw⟩
 ·refine concat_meets ⟨_,ho,rfl⟩ ⟨_,ho2,rfl⟩ noFill_tuple_add seq_tuple_add PySem.F.slot_tuple_add PySem.F.entry_tuple_add (PySem.F.args_tuple_add_2 _ _)
   (tuple_addW2 t b vs.toArray ws.toArray n n2 dd dd2 sl sl2 (by simpa using hv) (by simpa using hw) (by rw[Ym,Ym];exact hsz)) ⟨ho,ho2,?_⟩
  rw[e]
  exact h2 hw
noncomputable def sIx (n d:Nat):Option Int->Nat
 |none=>d
 |some v=>if v<0 then (v+(n:Int)).toNat else min v.toNat n
theorem ZlR (n d k:Nat):sIx n d (some (k:Int))=min k n:=by
 show(if (k:Int)<0 then ((k:Int)+(n:Int)).toNat else min (k:Int).toNat n)=min k n
 rw[Yb (by omega),Y6]
end
end HT
namespace L2
open PySem PySem.Spec PyProof.Rows
noncomputable abbrev TO:=St->Hp->(Option Int->Hp->Prop)->Prop
noncomputable def PO (X:Cx) (e:Option Expr) (t:TO):Prop :=
 ∀(pins:List (Addr×Obj)) (s:Shared) (σ:St) (H:Hp) (Q:Option Int->Hp->Prop),Inv X pins σ H s->t σ H Q ->
  wpAny (model X.prog X.w) X.A (evalPart e X.env) (λu s'=>∃o H',Inv X pins σ H' s'/\IsPart u o/\Q o H') X.xe s
noncomputable def tNoPart:TO:=λ_ H Q=>Q none H
noncomputable def tPart (t:TE):TO:=fun σ H Q=>t σ H λx H1=>∃i,x=.int i/\Q (some i) H1
theorem intsAre_of {ns:List Int}:∀{us:List Value},Vals (ns.map V.int) us->IntsAre us ns:=by
 induction ns with
 |nil=>intro us r;rw[List.map_nil]at r;cases r;exact .nil
 |cons n ns ih =>
  intro us r
  rw[YD]at r
  cases r with
  |cons r1 r2 =>
   obtain⟨t,e⟩:=r1
   subst e
   exact .cons n t (ih r2)
section
variable {X:Cx}{e:Expr}{te:TE}{lo hi:Option Expr}{tl th:TO}{pos p2:Pos}
theorem ZcZ:PO X none tNoPart:=by
 intro pins s σ H Q I h
 rw[evalPart_none]
 exact Yc ⟨none,H,I,.none,h⟩
theorem Zam (h:PE X e te):PO X (some e) (tPart te):=by
 intro pins s σ H Q I hw
 rw[evalPart_some]
 refine thn (h pins s σ H _ I hw) λu s1 ⟨x,H1,I1,r1,q1⟩=>?_
 obtain⟨i,rfl,q⟩:=q1
 obtain⟨t,rfl⟩:=r1
 exact⟨some i,H1,I1,.int i t,q⟩
noncomputable def SlR (X:Cx) (r:V->Option Int->Option Int->Hp->VK->Prop):Prop :=
 ∀(pins:List (Addr×Obj)) (s:Shared) (σ:St) (H:Hp) (x:V) (v vl vu:Value) (lo hi:Option Int) (sl:Addr) (Q:VK),Inv X pins σ H s->RelV x v->s.heap.IsSliceOf sl vl vu .none->IsPart vl lo->IsPart vu hi->r x lo hi H Q ->
  ∃T id,typeLookup (.type T) "__getitem__"=pure (some (.builtin id))/\s.TypeIs v T/\wpAny (model X.prog X.w) X.A (getItem v (.ref sl)) (EP X pins σ Q) X.xe s
noncomputable def tSl (r:V->Option Int->Option Int->Hp->VK->Prop) (te:TE) (tl th:TO):TE:=fun σ H Q=>te σ H λx H1=>tl σ H1 λl H2=>th σ H2 λu H3=>r x l u H3 Q
theorem ZaB {r:V->Option Int->Option Int->Hp->VK->Prop} (hr:SlR X r) (he:PE X e te) (hl:PO X lo tl) (hu:PO X hi th):PE X (.Subscript e (.Slice lo hi none p2) pos) (tSl r te tl th):=by
 intro pins s σ H Q I h
 refine Subscript_ (thn (he pins s σ H _ I h) λv s1 ⟨x,H1,I1,r1,q1⟩=>?_)
 refine wpAny_Slice (thn (hl pins s1 σ H1 _ I1 q1) λvl s2 ⟨l,H2,I2,pl,q2⟩=>thn (hu pins s2 σ H2 _ I2 q2) λvu s3 ⟨u,H3,I3,pu,q3⟩=>?_)
 rw[evalPart_none]
 refine Yc ?_
 have I4:Inv X pins σ H3 {s3 with heap:=s3.heap.push {cls:=.type "slice",data:=.fields #[vl,vu,.none]}}:=I3.kept (t':=s3.toks) λb ob q=>Yi _ q
 obtain⟨T,id,hT,ht,hg⟩:=hr pins {s3 with heap:=s3.heap.push {cls:=.type "slice",data:=.fields #[vl,vu,.none]}} σ H3 x v vl vu l u s3.heap.objs.size Q I4 r1 (Heap.IsSliceOf.new ..) pl pu q3
 show wpAny (model X.prog X.w) X.A (subscriptTail e (.Slice lo hi none p2) v (.ref s3.heap.objs.size)) (EP X pins σ Q) X.xe {s3 with heap:=s3.heap.push {cls:=.type "slice",data:=.fields #[vl,vu,.none]}}
 exact tail_any (ops:=[.ref s3.heap.objs.size,v]) ht hT hg (by with_unfolding_all rfl)
noncomputable def ZcD (xs:List V) (lo hi:Option Int):List V:=(xs.drop (HT.sIx xs.length 0 lo)).take (HT.sIx xs.length xs.length hi-HT.sIx xs.length 0 lo)
theorem ZjW (xs:List V) (lo hi:Option Int):(ZcD xs lo hi).length<=xs.length:=by
 unfold ZcD
 rw[YO,YY]
 omega
theorem Vals.Zi8 {xs:List V}{us:List Value} (r:Vals xs us):us=[]↔xs=[]:=by
 cases r with
 |nil=>simp
 |cons _ _=>simp
end
noncomputable def ixN (n:Nat) (i:Int):Option Nat:=if 0<=i then (if i<n then some i.toNat else none)else if -(n:Int)<=i then some (i+n).toNat else none
noncomputable def atI {α:Type} (xs:List α) (i:Int):Option α:=(ixN xs.length i).bind λj=>xs[j]?
theorem ZlS {n:Nat}{i:Int}{j:Nat} (h:ixN n i=some j):seqIndex? i n=some j/\j<n/\-(n:Int)<=i/\i<n:=by
 unfold ixN at h
 by_cases h0:0<=i
 ·rw[Yd h0]at h
  by_cases h1:i<n
  ·rw[Yd h1]at h
   have e:i.toNat=j:=Yq h
   exact⟨by rw[seqIndex_of h0 h1,e],by omega,by omega,h1⟩
  ·rw[Yb h1]at h;cases h
 ·rw[Yb h0]at h
  by_cases h1:-(n:Int)<=i
  ·rw[Yd h1]at h
   have e:(i+n).toNat=j:=Yq h
   exact⟨by rw[seqIndex_neg (by omega) h1,e],by omega,h1,by omega⟩
  ·rw[Yb h1]at h;cases h
theorem ZlT {α:Type}{xs:List α}{i:Int}{v:α} (h:atI xs i=some v):∃j,seqIndex? i xs.length=some j/\xs[j]?=some v/\j<xs.length/\-(xs.length:Int)<=i/\i<xs.length:=by
 unfold atI at h
 cases e:ixN xs.length i with
 |none=>rw[e]at h;cases h
 |some j =>
  rw[e]at h
  obtain⟨h1,h2,h3,h4⟩:=ZlS e
  exact⟨j,h1,h,h2,h3,h4⟩
theorem Zhn {α:Type}{xs:List α}{j:Nat}{v:α} (h:xs[j]?=some v):atI xs (j:Int)=some v:=by
 have hj:j<xs.length:=(Yu.mp h).1
 have e:ixN xs.length (j:Int)=some j:=by
  unfold ixN
  rw[Yd (by omega),Yd (by omega)];simp
 unfold atI;rw[e];exact h
theorem ZjX {α:Type} (xs:List α) (v:α):atI (xs++[v]) (-1)=some v:=by
 have hl:(xs++[v]).length=xs.length+1:=by simp
 have e:ixN (xs++[v]).length (-1)=some xs.length:=by
  unfold ixN
  rw[hl,Yb (by decide),Yd (by omega)]
  congr 1
  omega
 unfold atI
 rw[e]
 show(xs++[v])[xs.length]?=some v
 simp
noncomputable def ZpP (b:Expr):Prop:=∀o i,subscripted b false o i=operate [o,i] (getItem o i)
noncomputable def IxR (X:Cx) (r:R2):Prop :=
 ∀(value slice:Expr) (pins:List (Addr×Obj)) (s:Shared) (σ:St) (H:Hp) (x y:V) (v u:Value) (Q:VK),Inv X pins σ H s->RelV x v->RelV y u->r x y H Q ->
  subscripted slice false v u=operate [v,u] (getItem v u)->wpAny (model X.prog X.w) X.A (subscriptTail value slice v u) (EP X pins σ Q) X.xe s
noncomputable def MtR (X:Cx) (id:String) (r:V->List V->Hp->VK->Prop):Prop :=
 ∀(pins:List (Addr×Obj)) (s:Shared) (σ:St) (H:Hp) (x:V) (xs:List V) (v:Value) (us:List Value) (Q:VK),Inv X pins σ H s->RelV x v->Vals xs us->r x xs H Q ->
  wpAny (model X.prog X.w) X.A (call (.builtin id) (v::us)) (EP X pins σ Q) X.xe s
section
variable {X:Cx}{a b:Expr}{ta tb:TE}{pos:Pos}
theorem IxR.or {r r':R2} (h:IxR X r) (h':IxR X r'):IxR X (λx y H Q=>r x y H Q\/r' x y H Q):=by
 intro value slice pins s σ H x y v u Q I rx ry q hs
 rcases q with q|q
 ·exact h value slice pins s σ H x y v u Q I rx ry q hs
 ·exact h' value slice pins s σ H x y v u Q I rx ry q hs
theorem Zah {r:R2} (hr:IxR X r) (ha:PE X a ta) (hb:PE X b tb) (hs:ZpP b):PE X (.Subscript a b pos) (tOp r ta tb):=by
 intro pins s σ H Q I h
 exact Subscript_ (binT ha hb I h λv u s2 x y H2 I2 rx ry q=>hr a b pins s2 σ H2 x y v u Q I2 rx ry q (hs _ _))
noncomputable def rIxL (K:PySem.W.Frag):R2:=λx y H Q=>∃p xs i v,x=.ref p/\y=.int i/\SqL K H p xs/\atI xs i=some v/\Q v H
noncomputable def rIxT (K:PySem.W.Frag):R2:=λx y H Q=>∃p xs i v,x=.ref p/\y=.int i/\SqT K H p xs/\atI xs i=some v/\Q v H
theorem ZP:IxR X (rIxL X.K):=by
 intro value slice pins s σ H x y v u Q I rx ry h hs
 obtain⟨p,xs,i,z,rfl,rfl,hq,he,q⟩:=h
 cases rx
 obtain⟨t,rfl⟩:=ry
 obtain⟨its,r,pl,hz⟩:=I.list hq
 obtain⟨j,h1,h2,h3,h4,h5⟩:=ZlT he
 obtain⟨w,ew,rw'⟩:=r.get h2
 have hl:=r.length
 have hn:=Zhy
 have fin:EP X pins σ Q w s:=⟨z,H,I,rw',q⟩
 by_cases h0:0<=i
 ·have hj:i.toNat=j:=by
   rw[seqIndex_of h0 h5]at h1
   exact Yq h1
  exact item_listR pl.isList h0 (by omega) (by rw[hj];simpa using ew) fin hs
 ·have hj:(i+(its.toArray.size:Int)).toNat=j:=by
   rw[seqIndex_neg (by omega) h4]at h1
   rw[Ym,<-hl]
   exact Yq h1
  exact subscriptTail_builtinR (x:=w) pl.isList.typeIs slot_list_getitem.lookup
   (wpAny_getItem_list_neg (Q:=λr s'=>r=w/\EP X pins σ Q r s') pl.isList (by omega) (by rw[Ym]<;>omega) (by omega) (by rw[hj];simpa using ew) ⟨rfl,fin⟩) hs
theorem ZhA:IxR X (rIxT X.K):=by
 intro value slice pins s σ H x y v u Q I rx ry h hs
 obtain⟨p,xs,i,z,rfl,rfl,hq,he,q⟩:=h
 cases rx
 obtain⟨t,rfl⟩:=ry
 obtain⟨its,r,pl,hz⟩:=I.tuple hq
 obtain⟨j,h1,h2,h3,h4,h5⟩:=ZlT he
 obtain⟨w,ew,rw'⟩:=r.get h2
 have hl:=r.length
 have hn:=Zhy
 have fin:EP X pins σ Q w s:=⟨z,H,I,rw',q⟩
 exact subscriptTail_builtinR (x:=w) pl.typeIs slot_tuple_getitem.lookup
  (getItem_tuple (j:=j) (Q:=λr s'=>r=w/\EP X pins σ Q r s') pl (by omega) (by omega) (by rw[Ym,<-hl];exact h1) (by simpa using ew) ⟨rfl,fin⟩) hs
theorem Zk8 (its:List Value) (n j:Nat) (u:Value):Obj.mapSeq (·.setIfInBounds j u) {cls:=.type "list",data:=.seq its.toArray n}={cls:=.type "list",data:=.seq (its.set j u).toArray n}:=by
 simp[Obj.mapSeq]
theorem Inv.lst {pins:List (Addr×Obj)}{σ:St}{H:Hp}{s:Shared}{p:Addr}{xs:List V} (I:Inv X pins σ H s) (h:H p=some (.lst xs)) :
  ∃(its:List Value) (n:Nat),Vals xs its/\s.heap.get? p=some {cls:=.type "list",data:=.seq its.toArray n}/\xs.length<=sizeLine:=by
 obtain⟨z,its,n,r,e⟩:=I.hok p _ h
 exact⟨its,n,r,e,z⟩
theorem Inv.lstUpd {pins:List (Addr×Obj)}{σ:St}{H:Hp}{s:Shared}{p:Addr}{xs ys:List V}{its its':List Value}{n n':Nat}{f:Obj->Obj} (I:Inv X pins σ H s) (h:H p=some (.lst xs))
  (ho:s.heap.get? p=some {cls:=.type "list",data:=.seq its.toArray n}) (hf:f {cls:=.type "list",data:=.seq its.toArray n}={cls:=.type "list",data:=.seq its'.toArray n'}) (r:Vals ys its') (hz:ys.length<=sizeLine) (t:Nat) :
  Inv X pins σ (upd H p (.lst ys)) {s with heap:=s.heap.update p f,toks:=t}:=by
 have e:(s.heap.update p f).get? p=some {cls:=.type "list",data:=.seq its'.toArray n'}:=by
  rw[Heap.get?_update_self f ho (by rw[hf]<;>rfl),hf]
 refine I.write (x:=p) (e:=p) (by rw[h];trivial) (.inl rfl) (λb u hb q=>(Heap.get?_update_other _ _ (Ne.symm hb)).trans q) ⟨_,e⟩ ?_
 exact⟨hz,its',n',r,e⟩
noncomputable def rSetL:V->V->V->Hp->(Hp->Prop)->Prop:=λo i v H Q=>∃p xs k j,o=.ref p/\i=.int k/\H p=some (.lst xs)/\ixN xs.length k=some j/\Q (upd H p (.lst (xs.set j v)))
theorem set_list:PSet X rSetL:=by
 intro pins s σ H o i v ov iv u Q I ro ri rv h
 obtain⟨p,xs,k,j,rfl,rfl,hp,hj,q⟩:=h
 cases ro
 obtain⟨t,rfl⟩:=ri
 obtain⟨its,n,r,ho,hz⟩:=I.lst hp
 obtain⟨h1,h2,h3,h4⟩:=ZlS hj
 have hl:=r.length
 have hn:=Zhy
 have I':Inv X pins σ (upd H p (.lst (xs.set j v))) {s with heap:=s.heap.update p (Obj.mapSeq (·.setIfInBounds j u))} :=
  I.lstUpd hp ho (Zk8 its n j u) (r.set rv j) (by rw[List.length_set];exact hz) s.toks
 by_cases h0:0<=k
 ·have hk:k.toNat=j:=by
   rw[seqIndex_of h0 h4]at h1
   exact Yq h1
  exact PySem.W.ki_setAt ho h0 (by omega) (by rw[Ym,<-hl];exact h4) (by rw[hk];exact⟨_,I',q⟩)
 ·have hk:(k+(its.toArray.size:Int)).toNat=j:=by
   rw[seqIndex_neg (by omega) h3]at h1
   rw[Ym,<-hl]
   exact Yq h1
  exact PySem.W.ki_setBack ho (by omega) (by rw[Ym,<-hl];exact h3) (by omega) (by rw[hk];exact⟨_,I',q⟩)
theorem Zi9 (lo hi:Option Int) (n:Nat):(sliceBounds lo hi none n).1=((HT.sIx n 0 lo:Nat):Int)/\(sliceBounds lo hi none n).2.1=((HT.sIx n n hi:Nat):Int)/\(sliceBounds lo hi none n).2.2=1:=by
 refine⟨?_,?_,rfl⟩
 ·cases lo with
  |none=>simp[sliceBounds,HT.sIx]
  |some i =>
   simp only[sliceBounds,HT.sIx,Option.getD_none,show(1:Int)>0 by decide,if_true]
   by_cases h:i<0
   ·simp only[h,if_true]<;>omega
   ·simp only[h,if_false]<;>omega
 ·cases hi with
  |none=>simp[sliceBounds,HT.sIx]
  |some i =>
   simp only[sliceBounds,HT.sIx,Option.getD_none,show(1:Int)>0 by decide,if_true]
   by_cases h:i<0
   ·simp only[h,if_true]<;>omega
   ·simp only[h,if_false]<;>omega
theorem Zig (its:List Value) (lo hi:Option Int):slicePick its.toArray lo hi none=((its.drop (HT.sIx its.length 0 lo)).take (HT.sIx its.length its.length hi-HT.sIx its.length 0 lo)).toArray:=by
 obtain⟨h1,h2,h3⟩:=Zi9 lo hi its.toArray.size
 unfold slicePick
 rw[h1,h2,h3]
 simp only[sliceRange_one,pick_run,Ym]<;>rfl
noncomputable def rSlL (K:PySem.W.Frag):V->Option Int->Option Int->Hp->VK->Prop:=λx lo hi H Q=>∃a xs,x=.ref a/\SqL K H a xs/\∀p,H p=none->Q (.ref p) (upd H p (.lst (ZcD xs lo hi)))
theorem Za9:SlR X (rSlL X.K):=by
 intro pins s σ H x v vl vu lo hi sl Q I rx hs pl pu h
 obtain⟨a,xs,rfl,hx,q⟩:=h
 cases rx
 obtain⟨its,r,ht,hz⟩:=I.list hx
 have hlen:=r.length
 refine⟨"list",_,slot_list_getitem.lookup,ht.isList.typeIs,?_⟩
 refine wpAny_getItem_list_slice ht.isList hs pl pu .none (by simp) ?_ (by rw[Ym]<;>omega)
 rw[Zig,<-hlen]
 refine⟨.ref s.heap.objs.size,_,I.laid (t':=s.toks) (o:=.lst (ZcD xs lo hi)) (λb ob q=>Yi _ q) (Ye _) ?_,rfl,q _ (I.hok.fresh (Ye _))⟩
 exact⟨Yj (ZjW xs lo hi) hz,_,0,(r.drop (HT.sIx xs.length 0 lo)).take (HT.sIx xs.length xs.length hi-HT.sIx xs.length 0 lo),Yl _ rfl⟩
noncomputable def flatV:V->Bool
 |.non=>true
 |.bl _=>true
 |.int _=>true
 |.str _=>true
 |_=>false
noncomputable def eqV:V->V->Bool
 |.non,.non=>true
 |.bl a,.bl b=>a==b
 |.bl a,.int b=>(if a then 1 else 0)==b
 |.int a,.bl b=>a==(if b then 1 else 0)
 |.int a,.int b=>a==b
 |.str a,.str b=>a==b
 |_,_=>false
theorem Zoo {A:Around}{s:Shared}{y x:V}{u v:Value} (ry:RelV y u) (rx:RelV x v) (fy:flatV y=true) (fx:flatV x=true):SeqAt.EqAt A s u v (eqV y x):=by
 cases y with
 |non =>
  cases ry
  cases x with
  |non=>cases rx;exact SeqAt.EqAt.same _
  |bl b=>cases rx;exact SeqAt.EqAt.none_bool b
  |int b=>obtain⟨t,rfl⟩:=rx;exact SeqAt.EqAt.none_int b t
  |str b=>obtain⟨t,rfl⟩:=rx;exact SeqAt.EqAt.none_str b t
  |_=>exact absurd (show false=true from fx) Ys
 |bl a =>
  cases ry
  cases x with
  |non=>cases rx;exact SeqAt.EqAt.bool_none a
  |bl b=>cases rx;exact SeqAt.EqAt.bool_bool a b
  |int b=>obtain⟨t,rfl⟩:=rx;exact SeqAt.EqAt.bool_int a b t
  |str b=>obtain⟨t,rfl⟩:=rx;exact SeqAt.EqAt.bool_str a b t
  |_=>exact absurd (show false=true from fx) Ys
 |int a =>
  obtain⟨t',rfl⟩:=ry
  cases x with
  |non=>cases rx;exact SeqAt.EqAt.int_none a t'
  |bl b=>cases rx;exact SeqAt.EqAt.int_bool a t' b
  |int b=>obtain⟨t,rfl⟩:=rx;exact SeqAt.EqAt.int_int a t' b t
  |str b=>obtain⟨t,rfl⟩:=rx;exact SeqAt.EqAt.int_str a t' b t
  |_=>exact absurd (show false=true from fx) Ys
 |str a =>
  obtain⟨t',rfl⟩:=ry
  cases x with
  |non=>cases rx;exact SeqAt.EqAt.str_none a t'
  |bl b=>cases rx;exact SeqAt.EqAt.str_bool a t' b
  |int b=>obtain⟨t,rfl⟩:=rx;exact SeqAt.EqAt.str_int a t' b t
  |str b=>obtain⟨t,rfl⟩:=rx;exact SeqAt.EqAt.str_str a t' b t
  |_=>exact absurd (show false=true from fx) Ys
 |_=>exact absurd (show false=true from fy) Ys
noncomputable def eqU (x:V) (u:Value):Bool:=match u with
 |.none=>eqV .non x
 |.bool b=>eqV (.bl b) x
 |.int i _=>eqV (.int i) x
 |.str z _=>eqV (.str z) x
 |_=>false
theorem Zop {x y:V}{u:Value} (r:RelV y u) (f:flatV y=true):eqU x u=eqV y x:=by
 cases y with
 |non=>cases r;rfl
 |bl b=>cases r;rfl
 |int i=>obtain⟨t,rfl⟩:=r;rfl
 |str z=>obtain⟨t,rfl⟩:=r;rfl
 |_=>exact absurd (show false=true from f) Ys
theorem Zja {x:V}:∀{xs:List V}{us:List Value},Vals xs us->xs.all flatV=true->us.any (eqU x)=xs.any λy=>eqV y x
 |_,_,.nil,_=>rfl
 |y::xs,u::us,.cons r t,f=>by
  rw[List.all_cons,Bool.and_eq_true]at f
  rw[List.any_cons,List.any_cons,Zop r f.1,Zja t f.2]
theorem ZhB {A:Around}{s:Shared}{x:V}{v:Value} (rx:RelV x v) (fx:flatV x=true):∀{xs:List V}{us:List Value},Vals xs us->xs.all flatV=true->∀u∈us,SeqAt.EqAt A s u v (eqU x u)
 |_,_,.nil,_=>λu hu=>by cases hu
 |y::xs,u::us,.cons r t,f=>λu' hu=>by
  rw[List.all_cons,Bool.and_eq_true]at f
  rcases Yk.mp hu with rfl|hu
  ·rw[Zop r f.1];exact Zoo r rx f.1 fx
  ·exact ZhB rx fx t f.2 u' hu
noncomputable def inV (x:V) (xs:List V):Bool:=xs.any λy=>eqV y x
noncomputable def rIn (K:PySem.W.Frag) (neg:Bool):R2:=λx y H Q=>∃p xs,y=.ref p/\(SqL K H p xs\/SqT K H p xs)/\flatV x=true/\xs.all flatV=true/\Q (.bl (if neg then !inV x xs else inV x xs)) H
theorem Zjb:OpR X (compareOp .NotIn) (rIn X.K true):=by
 intro pins s σ H x y v u Q I rx ry h
 obtain⟨p,xs,rfl,hq,fx,fs,q⟩:=h
 cases ry
 rcases hq with hq|hq
 ·obtain⟨its,r,pl,hz⟩:=I.list hq
  refine SeqAt.notIn_listAt (eqU x) pl.isList (λw hw=>ZhB rx fx r fs w (by simpa using hw)) ⟨.bl _,H,I,rfl,?_⟩
  rw[show its.toArray.any (eqU x)=its.any (eqU x) by simp,Zja r fs]
  exact q
 ·obtain⟨its,r,pl,hz⟩:=I.tuple hq
  refine SeqAt.notIn_tupleAt (eqU x) pl (λw hw=>ZhB rx fx r fs w (by simpa using hw)) ⟨.bl _,H,I,rfl,?_⟩
  rw[show its.toArray.any (eqU x)=its.any (eqU x) by simp,Zja r fs]
  exact q
theorem Zjc:ZcY X (.builtin "len") (λxs H Q=>∃p ys,xs=[.ref p]/\(SqL X.K H p ys\/SqT X.K H p ys)/\Q (.int ys.length) H):=by
 intro pins s σ H xs us Q I r h
 obtain⟨p,ys,rfl,hq,q⟩:=h
 obtain⟨u,rfl,rx⟩:=vals1 r
 cases rx
 have hn:=Zhy
 rcases hq with hq|hq
 ·obtain⟨its,r',pl,hz⟩:=I.list hq
  have hlen:=r'.length
  exact Calls.call_len_list pl.isList (by simp only[Ym]<;>omega) ⟨.int ys.length,H,I.tok _,⟨s.toks+1,by rw[Ym,hlen]⟩,q⟩
 ·obtain⟨its,r',pl,hz⟩:=I.tuple hq
  have hlen:=r'.length
  exact len_tuple pl (by simp only[Ym]<;>omega) ⟨.int ys.length,H,I.tok _,⟨s.toks+1,by rw[Ym,hlen]⟩,q⟩
theorem Zjd:ZcY X (.type "list") (λxs H Q=>∃p ys,xs=[.ref p]/\(SqL X.K H p ys\/SqT X.K H p ys)/\∀l,H l=none->Q (.ref l) (upd H l (.lst ys))):=by
 intro pins s σ H xs us Q I r h
 obtain⟨p,ys,rfl,hq,q⟩:=h
 obtain⟨u,rfl,rx⟩:=vals1 r
 cases rx
 have fin:∀(its:List Value),Vals ys its->ys.length<=sizeLine->∀(h':Heap) (c':Nat),(∀b o',s.heap.get? b=some o'->h'.get? b=some o') ->
   h'.get? s.heap.objs.size=some {cls:=.type "list",dict:=none,data:=.seq its.toArray c',slots:=#[]}->EP X pins σ Q (.ref s.heap.objs.size) {s with heap:=h'}:=λits r' hz h' c' kp e =>
  ⟨.ref s.heap.objs.size,_,I.laid (t':=s.toks) kp (Ye _) (show Zao X.prog X.w _ h' _ (.lst ys)from⟨hz,its,c',r',e⟩),rfl,q _ (I.hok.fresh (Ye _))⟩
 rcases hq with hq|hq
 ·obtain⟨its,r',pl,hz⟩:=I.list hq
  have hlen:=r'.length
  obtain⟨o,ho,hc,n,hd⟩:=pl.isList
  exact call_list_seq p (.inl rfl) ho hc hd (λh' c' kp e=>fin its r' hz h' c' kp e) (by simp only[Ym]<;>omega)
 ·obtain⟨its,r',pl,hz⟩:=I.tuple hq
  have hlen:=r'.length
  obtain⟨o,ho,hc,n,hd⟩:=pl
  exact call_list_seq p (.inr rfl) ho hc hd (λh' c' kp e=>fin its r' hz h' c' kp e) (by simp only[Ym]<;>omega)
theorem Zih:ZcY X (.type "tuple") (λxs H Q=>∃p ys,xs=[.ref p]/\((SqL X.K H p ys/\∀l,H l=none->Q (.ref l) (upd H l (.tup ys)))\/(SqT X.K H p ys/\Q (.ref p) H))):=by
 intro pins s σ H xs us Q I r h
 obtain⟨p,ys,rfl,h⟩:=h
 obtain⟨u,rfl,rx⟩:=vals1 r
 cases rx
 rcases h with⟨hq,q⟩|⟨hq,q⟩
 ·obtain⟨its,r',pl,hz⟩:=I.list hq
  have hlen:=r'.length
  refine call_tuple_list pl.isList (λh' kp=>?_) (by simp only[Ym]<;>omega)
  have I1:Inv X pins σ H {s with heap:=h'}:=I.kept (t':=s.toks) kp
  have I2:Inv X pins σ (upd H h'.objs.size (.tup ys)) {s with heap:=h'.push {cls:=.type "tuple",data:=.seq its.toArray}} :=
   I1.laid (t':=s.toks) (λb o e=>Yi _ e) (Ye _) (show Zao X.prog X.w _ _ _ (.tup ys)from⟨hz,its,r',IsTup.new _ _⟩)
  exact⟨.ref h'.objs.size,_,I2,rfl,q _ (I1.hok.fresh (Ye _))⟩
 ·obtain⟨its,r',pl,hz⟩:=I.tuple hq
  exact call_tuple_same pl ⟨.ref p,H,I,rfl,q⟩
noncomputable def tyV (K:PySem.W.Frag) (T:String) (x:V) (H:Hp):Prop:=match x with
 |.str _=>T="str"
 |.int _=>T="int"
 |.ref p=>(T="list"/\∃xs,SqL K H p xs)\/(T="tuple"/\∃o,K.lookup p=some o/\o.cls=.type "tuple"/\o.dict=none) \/
   (T="dict"/\((∃kvs,H p=some (.dK kvs))\/∃kvs,H p=some (.dT kvs)))\/(T="set"/\∃S n,H p=some (.set S n))
 |_=>False
theorem Zoq {pins:List (Addr×Obj)}{σ:St}{H:Hp}{s:Shared}{T:String}{x:V}{v:Value} (I:Inv X pins σ H s) (r:RelV x v) (ty:tyV X.K T x H) :
  s.TypeIs v T/\∀a,v=.ref a->∃ob,s.heap.get? a=some ob/\ob.dict=none:=by
 cases x with
 |str z =>
  obtain⟨t,rfl⟩:=r
  cases(show T="str" from ty)
  exact⟨typeIs_str s z t,λ_ e=>nomatch e⟩
 |int i =>
  obtain⟨t,rfl⟩:=r
  cases(show T="int" from ty)
  exact⟨typeIs_int s i t,λ_ e=>nomatch e⟩
 |ref p =>
  cases r
  rcases ty with⟨rfl,xs,hq⟩|⟨rfl,o,hk,hc,hd⟩|⟨rfl,hk⟩|⟨rfl,S,n,hk⟩
  ·obtain⟨its,_,pl,_⟩:=I.list hq
   refine⟨pl.isList.typeIs,λa e=>?_⟩
   cases e
   obtain⟨o,n,e,c,hd,_⟩:=pl
   exact⟨o,e,hd⟩
  ·refine⟨⟨o,I.kIn p o hk,hc⟩,λa e=>?_⟩
   cases e
   exact⟨o,I.kIn _ o hk,hd⟩
  ·have z:∃o,s.heap.get? p=some o/\o.ExactDict:=by
    rcases hk with⟨kvs,hk⟩|⟨kvs,hk⟩
    ·obtain⟨_,_,_,_,o,_,_,e,ex,_⟩:=I.hok p _ hk
     exact⟨o,e,ex⟩
    ·obtain⟨_,_,_,_,o,_,_,e,ex,_⟩:=I.hok p _ hk
     exact⟨o,e,ex⟩
   obtain⟨o,e,ex⟩:=z
   refine⟨⟨o,e,ex.1⟩,λa e2=>?_⟩
   cases e2
   exact⟨o,e,ex.2.1⟩
  ·obtain⟨o,_,_,_,e,ex,_⟩:=I.hok p _ hk
   refine⟨⟨o,e,ex.1⟩,λa e2=>?_⟩
   cases e2
   exact⟨o,e,ex.2.1⟩
 |_=>exact False.elim ty
noncomputable def tBM0 (K:PySem.W.Frag) (T:String) (r:V->List V->Hp->VK->Prop) (to:TE):TE:=fun σ H Q=>to σ H λx H1=>tyV K T x H1/\r x [] H1 Q
noncomputable def tBM (K:PySem.W.Frag) (T:String) (r:V->List V->Hp->VK->Prop) (to:TE) (t:TA):TE:=fun σ H Q=>to σ H λx H1=>tyV K T x H1/\t σ H1 λxs H2=>r x xs H2 Q
variable {o e:Expr}{es:List Expr}{to:TE}{t:TA}{name:Str}{apos cpos:Pos}{T id:String}{r:V->List V->Hp->VK->Prop}
theorem Zor (pa:PlainAttrs T) (slot:Slot T name id) (hty:typeOf (.builtin id)=pure (.type "method_descriptor")) (hm:MtR X id r) (ho:PE X o to)
  (hbase:attributeBase o name X.env (eval o X.env)=eval o X.env:=by rfl) (hline:(apos.endLine==cpos.line)=true:=by rfl):PE X (.Call (.Attribute o name apos) [] [] cpos) (tBM0 X.K T r to):=by
 intro pins s σ H Q I h
 refine wpAny_Call_method0_late hbase hline (thn (ho pins s σ H _ I h) λv s1 ⟨x,H1,I1,r1,ty,q1⟩=>?_)
 obtain⟨h1,h2⟩:=Zoq I1 r1 ty
 exact⟨T,id,pa,slot,hty,h1,h2,Calls.callWith_builtin rfl (PySem.evalArgs_none (hm pins s1 σ H1 x [] v [] Q I1 r1 .nil q1))⟩
theorem Za0 (pa:PlainAttrs T) (slot:Slot T name id) (hty:typeOf (.builtin id)=pure (.type "method_descriptor")) (hm:MtR X id r) (ho:PE X o to) (ha:PA X (e::es) t)
  (hbase:attributeBase o name X.env (eval o X.env)=eval o X.env:=by rfl)
  (hfew:((backTo cpos (starEach (e::es) X.env)).all (λx=>!x.1)&&(backToKw cpos (keywordEach [] X.env)).all (λx=>x.1.isSome)
   && decide ((e::es).length+([]:List Keyword).length+(if ([]:List Keyword).isEmpty then 0 else 1)<30))=true:=by rfl)
  (hline:(apos.endLine==cpos.line)=true:=by rfl) (hs:starEach (e::es) X.env=(false,eval e X.env)::starEach es X.env:=by rfl) (hplain:(backTo cpos (starEach es X.env)).any (·.1)=false:=by rfl) :
  PE X (.Call (.Attribute o name apos) (e::es) [] cpos) (tBM X.K T r to t):=by
 intro pins s σ H Q I h
 refine wpAny_Call_method_late hbase hfew hline rfl (thn (ho pins s σ H _ I h) λv s1 ⟨x,H1,I1,r1,ty,q1⟩=>?_)
 obtain⟨h1,h2⟩:=Zoq I1 r1 ty
 refine⟨T,id,pa,slot,hty,h1,h2,?_⟩
 have hA:=ha cpos pins s1 σ H1 _ I1 q1
 rw[hs]at hA⊢
 refine Calls.callWith_builtin (by show(false||(backTo cpos (starEach es X.env)).any (·.1))=false;rw[hplain]<;>rfl) (Calls.evalArgs_plain ?_)
 exact thn hA λus s2 ⟨vs,H2,I2,r2,q2⟩=>hm pins s2 σ H2 x vs v us Q I2 r1 r2 q2
end
noncomputable def MtM (X:Cx) (id:String) (r:V->List V->Hp->VK->Prop):Prop :=
 ∀(pins:List (Addr×Obj)) (s:Shared) (σ:St) (H:Hp) (x:V) (xs:List V) (v:Value) (us:List Value) (Q:VK),Inv X pins σ H s->RelV x v->Vals xs us->r x xs H Q ->
  wpAny (model X.prog X.w) X.A (call (.builtin id) (v::us)) (EP X pins σ Q) X.xe s
theorem Vals.one:∀{x:V}{us:List Value},Vals [x] us->∃u,us=[u]/\RelV x u
 |_,_,.cons r .nil=>⟨_,rfl,r⟩
theorem Vals.two:∀{x y:V}{us:List Value},Vals [x,y] us->∃u v,us=[u,v]/\RelV x u/\RelV y v
 |_,_,_,.cons r (.cons q .nil)=>⟨_,_,rfl,r,q⟩
theorem Vals.zero:∀{us:List Value},Vals [] us->us=[]
 |_,.nil=>rfl
theorem Vals.dropLast {xs:List V}{us:List Value} (h:Vals xs us):Vals xs.dropLast us.dropLast:=by
 induction h with
 |nil=>exact .nil
 |cons r t ih =>
  cases t with
  |nil=>exact .nil
  |cons q t'=>exact .cons r ih
theorem Vals.rep {xs:List V}{us:List Value} (h:Vals xs us):∀k:Nat,Vals (List.replicate k xs).flatten (List.replicate k us).flatten
 |0=>.nil
 |k+1=>by
  rw[List.replicate_succ,List.replicate_succ,List.flatten_cons,List.flatten_cons]
  exact Vals.append h (Vals.rep h k)
theorem Zk9 {α:Type} (l:List α):l.eraseIdx (l.length-1)=l.dropLast:=by
 induction l with
 |nil=>rfl
 |cons a r ih =>
  cases r with
  |nil=>rfl
  |cons b r =>
   have e:(a::b::r).length-1=((b::r).length-1)+1:=by
    have h1:(a::b::r).length=r.length+2:=rfl
    have h2:(b::r).length=r.length+1:=rfl
    omega
   rw[e,List.eraseIdx_cons_succ,ih]
   all_goals rfl
theorem foldl_rep (its:List Value):∀(k:Nat) (acc:List Value),
  List.foldl (λx1 x2=>x1++x2) acc.toArray (List.replicate k its.toArray)=(acc++(List.replicate k its).flatten).toArray
 |0,acc=>by simp
 |k+1,acc=>by
  have e:acc.toArray++its.toArray=(acc++its).toArray:=by simp
  have e2:(acc++its)++(List.replicate k its).flatten=acc++(List.replicate (k+1) its).flatten:=by
   rw[List.replicate_succ,List.flatten_cons,YZ]
  rw[<-e2,<-foldl_rep its k (acc++its),<-e,List.replicate_succ,List.foldl_cons]
section
variable {X:Cx}{pins:List (Addr×Obj)}{σ:St}{H:Hp}{s:Shared}{l b:Addr}{xs ys zs:List V}
theorem Inv.lset {its its':List Value}{n:Nat}{f:Array Value->Array Value}{t':Nat} (I:Inv X pins σ H s) (hH:H l=some (.lst xs))
  (e:s.heap.get? l=some {cls:=.type "list",data:=.seq its.toArray n}) (hf:f its.toArray=its'.toArray) (hv:Vals ys its') (hz:ys.length<=sizeLine) :
  Inv X pins σ (upd H l (.lst ys)) {s with heap:=s.heap.update l (Obj.mapSeq f),toks:=t'}:=by
 have q:=PySem.IsL.update e f
 rw[hf]at q
 refine I.write (x:=l) (e:=l) (by rw[hH];exact trivial) (.inl rfl) (λb' u hb hu=>(Heap.get?_update_other s.heap (Obj.mapSeq f) (Ne.symm hb)).trans hu) ⟨_,q⟩ ?_
 exact⟨hz,its',_,hv,q⟩
theorem Inv.lnew {its:List Value}{t':Nat} (I:Inv X pins σ H s) (hv:Vals ys its) (hz:ys.length<=sizeLine) :
  Inv X pins σ (upd H s.heap.objs.size (.lst ys)) {s with heap:=s.heap.push {cls:=.type "list",data:=.seq its.toArray},toks:=t'} :=
 I.laid (λ_ _ q=>Yi _ q) (Ye _) ⟨hz,its,0,hv,Yl _ rfl⟩
theorem Inv.fresh (I:Inv X pins σ H s):H s.heap.objs.size=none:=I.hok.fresh (Ye _)
theorem Inv.Zje (I:Inv X pins σ H s) (hH:H l=some (.lst xs)):xs.length<=sizeLine/\∃(its:List Value) (n:Nat),Vals xs its/\xs.length=its.length/\s.heap.get? l=some {cls:=.type "list",data:=.seq its.toArray n}:=by
 obtain⟨z,its,n,r,e⟩:=I.hok l _ hH
 exact⟨z,its,n,r,r.length,e⟩
theorem ZjY {n:Nat} (h:n<=sizeLine):Builtin.List.listTooLong n=false:=by
 unfold Builtin.List.listTooLong
 exact YU (by omega)
end
section
variable {X:Cx}
noncomputable def rAppend:V->List V->Hp->VK->Prop:=λx vs H Q=>∃l xs y,x=.ref l/\vs=[y]/\H l=some (.lst xs)/\xs.length<sizeLine/\Q .non (upd H l (.lst (xs++[y])))
theorem ZM:MtM X "list.append" rAppend:=by
 intro pins s σ H x vs v us Q I rx rv h
 obtain⟨l,xs,y,rfl,rfl,hH,hz,q⟩:=h
 cases rx
 obtain⟨u,rfl,ru⟩:=rv.one
 obtain⟨z,its,n,r,hl,e⟩:=I.Zje hH
 refine call_meets F.slot_list_append ⟨_,e,rfl⟩ F.entry_list_append (F.args_list_append_2 _ _) (PySem.list_append l its.toArray n u (by rw[Ym];omega)) ⟨e,?_⟩
 refine⟨.non,_,I.lset (its':=its++[u]) hH e (by simp) (r.append (.cons ru .nil)) ?_,rfl,q⟩
 rw[YE,List.length_singleton]
 omega
noncomputable def rExtend:V->List V->Hp->VK->Prop:=λx vs H Q=>∃l b xs zs,x=.ref l/\vs=[.ref b]/\H l=some (.lst xs)/\H b=some (.lst zs)/\xs.length+zs.length<=sizeLine/\Q .non (upd H l (.lst (xs++zs)))
theorem ZiC:MtM X "list.extend" rExtend:=by
 intro pins s σ H x vs v us Q I rx rv h
 obtain⟨l,b,xs,zs,rfl,rfl,hH,hB,hz,q⟩:=h
 cases rx
 obtain⟨u,rfl,ru⟩:=rv.one
 cases ru
 obtain⟨z,its,n,r,hl,e⟩:=I.Zje hH
 obtain⟨z2,its2,n2,r2,hl2,e2⟩:=I.Zje hB
 have hsz:its.toArray.size+its2.toArray.size<=sizeLine:=by rw[Ym,Ym];omega
 have hlong:¬ (!its.toArray.isEmpty&&Builtin.List.listTooLong (its.toArray.size+its2.toArray.size))=true:=by
  rw[ZjY hsz,Bool.and_false]
  exact Ys
 refine call_meets F.slot_list_extend ⟨_,e,rfl⟩ F.entry_list_extend (F.args_list_extend_2 _ _)
  (AutoSeq1.list_extend_list_list_0 l its.toArray n b its2.toArray n2 hlong (by rw[Ym];omega) (by omega)) ⟨e,e2,?_⟩
 refine⟨.non,_,I.lset (its':=its++its2) hH e (by simp) (r.append r2) ?_,rfl,q⟩
 rw[YE]
 omega
noncomputable def rPop:V->List V->Hp->VK->Prop:=λx vs H Q=>∃l xs y,x=.ref l/\vs=[]/\H l=some (.lst xs)/\xs[xs.length-1]?=some y/\Q y (upd H l (.lst xs.dropLast))
theorem Zos:MtM X "list.pop" rPop:=by
 intro pins s σ H x vs v us Q I rx rv h
 obtain⟨l,xs,y,rfl,rfl,hH,hy,q⟩:=h
 cases rx
 have hus:=rv.zero
 subst hus
 obtain⟨z,its,n,r,hl,e⟩:=I.Zje hH
 obtain⟨u,hu,ru⟩:=r.get hy
 have hy':its.toArray[its.toArray.size-1]?=some u:=by
  show its.toArray[its.length-1]?=some u
  rw[<-Array.getElem?_toList,<-hl]
  exact hu
 refine call_meets F.slot_list_pop ⟨_,e,rfl⟩ F.entry_list_pop (F.args_list_pop_1 _) (MeetsSeq.list_pop_last l its.toArray n u hy' (by rw[Ym];omega)) ⟨e,?_⟩
 refine⟨y,_,I.lset (its':=its.dropLast) hH e ?_ r.dropLast ?_,ru,q⟩
 ·show its.toArray.eraseIdxIfInBounds (its.toArray.size-1)=its.dropLast.toArray
  rw[Ym,List.eraseIdxIfInBounds_toArray,Zk9]
 ·rw[List.length_dropLast]
  omega
noncomputable def rCat:R2:=λx y H Q=>∃l b xs zs,x=.ref l/\y=.ref b/\H l=some (.lst xs)/\H b=some (.lst zs)/\xs.length+zs.length<=sizeLine/\∀p,H p=none->Q (.ref p) (upd H p (.lst (xs++zs)))
theorem Zla:OpR X (binaryOp .Add) rCat:=by
 intro pins s σ H x y v u Q I rx ry h
 obtain⟨l,b,xs,zs,rfl,rfl,hH,hB,hz,q⟩:=h
 cases rx
 cases ry
 obtain⟨z,its,n,r,hl,e⟩:=I.Zje hH
 obtain⟨z2,its2,n2,r2,hl2,e2⟩:=I.Zje hB
 refine PySem.P.add_list e e2 ?_ (by rw[Ym,Ym];omega)
 have ea:its.toArray++its2.toArray=(its++its2).toArray:=by simp
 rw[ea]
 exact⟨.ref _,_,I.lnew (t':=s.toks) (r.append r2) (by rw[YE];omega),rfl,q _ I.fresh⟩
noncomputable def rRep:R2:=λx y H Q=>∃l k xs,x=.ref l/\y=.int k/\H l=some (.lst xs)/\-(2 ^ 63)<=k/\k<2 ^ 63/\xs.length*k.toNat<=sizeLine /\
 ∀p,H p=none->Q (.ref p) (upd H p (.lst (List.replicate k.toNat xs).flatten))
theorem len_rep {α:Type} (xs:List α) (k:Nat):(List.replicate k xs).flatten.length=k*xs.length:=by
 induction k with
 |zero=>simp
 |succ k ih=>rw[List.replicate_succ,List.flatten_cons,YE,ih,Nat.succ_mul,Nat.add_comm]
theorem Zjf:OpR X (binaryOp .Mult) rRep:=by
 intro pins s σ H x y v u Q I rx ry h
 obtain⟨l,k,xs,rfl,rfl,hH,h1,h2,hz,q⟩:=h
 cases rx
 obtain⟨t,rfl⟩:=ry
 obtain⟨z,its,n,r,hl,e⟩:=I.Zje hH
 have hlen:its.toArray.size*k.toNat<=sizeLine:=by rw[Ym,<-hl];exact hz
 have hcap:¬ its.toArray.size*k.toNat>(2 ^ 63-1) / 8:=by
  have:(sizeLine:Nat)<=(2 ^ 63-1) / 8:=by decide
  omega
 have hfit:¬ (!Builtin.List.listFitsIndex k)=true:=by
  rw[fitsIndex_both h1 h2]
  exact Ys
 have hlong:¬ Builtin.List.listTooLong (its.toArray.size*k.toNat)=true:=by
  rw[ZjY hlen]
  exact Ys
 have hnew:List.foldl (λx1 x2=>x1++x2) #[] (List.replicate (if its.toArray.isEmpty=true then 0 else k.toNat) its.toArray)=(List.replicate k.toNat its).flatten.toArray:=by
  have f0:∀m:Nat,List.foldl (λx1 x2=>x1++x2) #[] (List.replicate m its.toArray)=(List.replicate m its).flatten.toArray:=λm=>by
   have:=foldl_rep its m []
   rw[List.nil_append]at this
   exact this
  rw[f0]
  cases its with
  |nil=>simp
  |cons a r'=>rw[Yb (by simp)]
 refine wpAny_binaryOp_repeat_ref (T:="list") (U:="int") (by decide) ⟨_,e,rfl⟩ (λs'=>typeIs_int s' k t) noFill_list_mul F.fills_int_mul F.slot_int_rmul repeat_list F.slot_int_index.lookup
  (call_meets F.slot_int_rmul (typeIs_int s k t) F.entry_int_rmul (F.args_int_rmul_2 _ _) (int___rmul___int_list k t l its.toArray n)
   ⟨e,rfl,⟨_,e,rfl⟩,call_meets F.slot_list_mul ⟨_,e,rfl⟩ F.entry_list_mul (F.args_list_mul_2 _ _) (AutoListH.list___mul___list_int_3 l its.toArray n k t hfit hcap hlong) ⟨e,?_⟩⟩)
 rw[hnew]
 exact⟨.ref _,_,I.lnew (t':=s.toks) (r.rep k.toNat) (by rw[len_rep,Nat.mul_comm];exact hz),rfl,q _ I.fresh⟩
end
end L2
namespace Att
open PySem PySem.W PySem.Calls PyProof.Rows
theorem Zg7 {P:Params}{h:Heap}:∀(ns:List Int) (vs:List Value),WellAll P h vs (ns.map WData.int)->IntsAre vs ns:=by
 intro ns
 induction ns with
 |nil =>
  intro vs w
  rw[List.map_nil]at w
  cases w
  exact .nil
 |cons n ns ih =>
  intro vs w
  rw[YD]at w
  cases w with
  |cons a b =>
   cases a
   exact .cons _ _ (ih _ b)
theorem Zmt {l:OpenLaw}{n:Nat} (hn:l.most=some n) {P:Params}{h:Heap}{args:List WData}{vals:List Value}
  (hpre:l.row.toRowW.claim.pre args=true) (hwl:WellAll P h vals args) :
  ∃a vs ns,vals=[Value.ref a]/\args=[WData.list (ns.map WData.int)]/\h.get? a=some {cls:=.type "list",data:=.seq vs.toArray}/\IntsAre vs ns/\ns.length<=n:=by
 have hsh:WShape.hasAll [] args [.list .int]=true:=(pre_splitW hpre).1
 have hc:l.pre.holds [] {args:=args}=true:=(pre_splitW hpre).2
 obtain⟨d,r,rfl,h1,h2⟩:=hasAllW_cons hsh
 obtain rfl:=hasAllW_nil h2
 obtain⟨xs,rfl,h3⟩:=hasW_list h1
 obtain⟨ns,rfl⟩:=items_int h3
 have hlen:ns.length<=n:=by
  unfold OpenLaw.pre at hc
  have h4:(WTm.not (.lt (.lit (.int (n:Int))) (.len (.arg 0)))).holds [] {args:=[.list (ns.map .int)]}=true:=by
   have h4:=(holds_andW hc).1
   rw[hn]at h4
   exact h4
  have h5:=condW_of h4 (w_not (w_lt w_lit (w_len_list (w_arg rfl))))
  rw[Yf]at h5
  refine Nat.le_of_not_lt λq=>?_
  have q':(n:Int)<((ns.length:Nat):Int):=by omega
  first
   |(rw[YW q']at h5;exact absurd h5 (by decide))
   |(simp at h5;omega)
 cases hwl with
 |cons w1 w2 =>
  cases w2
  cases w1 with
  |list ho hall=>exact⟨_,_,ns,rfl,rfl,ho,Zg7 ns _ hall,hlen⟩
theorem Zmu (l:OpenLaw) (args:List WData):l.row.toRowW.claim.post args (.bool true) args=true :=
 postW_of (r:=l.row.toRowW) (X:=(true==true))
  (show WShape.has [] (.bool true) .bool=true by first|rfl|decide|simp[WShape.has,WShape.arms,WShape.armsAll])
  (show(WTm.eq .res (.lit (.bool true))).value [] {args:=args,res:=some (.bool true),after:=args}=some (.bool (true==true))from w_eq_bool (w_res rfl) w_lit) rfl
theorem ZjZ {l:OpenLaw}{n:Nat}{q:Program}{loose:List Str}{XP:(Str->Option Value)->Heap->Prop}{YP:World->Heap->Prop}{d:DefRec}
  (hn:l.most=some n) (hdf:d.params.defaults=[])
  (call:∀(w:World) (s₀ s₁:Shared) (mg mb:Str->Option Value) (fa:Addr) (o:Obj) (pm cd doc:Value) (a:Addr) (vs:List Value) (ns:List Int),
   Ground q loose [] XP w s₀ mg mb s₁.heap->YP w s₁.heap ->
   s₁.heap.get? fa=some o->o.data=.func (docDef d.name d.params d.body d.scope pm cd doc)->s₁.heap.CodeRec cd d.name->mg d.name=some (.ref fa) ->
   s₁.heap.get? a=some {cls:=.type "list",data:=.seq vs.toArray}->IntsAre vs ns->ns.length<=n->s₁.gens=#[] ->
   codeAny (model l.prog w) callerA (.call (.ref fa) ⟨[.ref a],[]⟩) (λr s'=>r=.ok (.ret (.bool true))/\OldK s₁.heap s'.heap/\s'.os=s₁.os/\AllBare s'.gens) s₁) :
  WalkO q loose XP YP l.row.toRowW d [] (λf vs=>PySem.call f vs):=by
 intro w s₀ s₁ mg mb G Y fa o pm cd doc dV kV ho hd hcd hD hmg hg args vals as hpre hlay hrd hwl hlo
 obtain rfl:dV=.none:=Dflts.none hD hdf
 obtain rfl:kV=.none:=Dflts.noKw hD
 obtain⟨a,vs,ns,rfl,rfl,hobj,hints,hlen⟩:=Zmt hn hpre hwl
 refine enter_call (codeAny_mono (call w s₀ s₁ mg mb fa o pm cd doc a vs ns G Y ho (fd_plain hd) hcd hmg hobj hints hlen hg) λr s' hq=>?_)
 obtain⟨rfl,h2,h3,h4⟩:=hq
 exact⟨.inl ⟨.bool true,.bool true,[],rfl,λ_=>rfl,.bool true,Zmu l _,λ_=>⟨List.Pairwise.nil,λ_ hm=>(nomatch hm)⟩⟩,h2,h3,h4⟩
end Att
namespace L2
open PySem PySem.Spec PyProof.Rows
theorem ZiD:∀{vs:List Value}{ns:List Int},IntsAre vs ns->Vals (ns.map V.int) vs
 |_,_,.nil=>.nil
 |_,_,.cons n t h=>.cons ⟨t,rfl⟩ (ZiD h)
noncomputable def inClass (s:Stmt) (j:Nat):Stmt:=match s with
 |.ClassDef _ _ _ body _ _ _ _ _ _ _=>body.getD j (.Pass ⟨0,0,0,0⟩)
 |_=>.Pass ⟨0,0,0,0⟩
noncomputable def defArgs (s:Stmt):Arguments:=match s with
 |.FunctionDef _ a _ _ _ _ _ _ _ _=>a
 |_=>{posonlyargs:=[],args:=[],vararg:=none,kwonlyargs:=[],kw_defaults:=[],kwarg:=none,defaults:=[]}
noncomputable def defBody (s:Stmt):List Stmt:=match s with
 |.FunctionDef _ _ b _ _ _ _ _ _ _=>b
 |_=>[]
noncomputable def defScope (s:Stmt):Scope:=match s with
 |.FunctionDef _ _ _ _ _ _ sc _ _ _=>sc
 |_=>{kind:=.function,names:=[],isGenerator:=false,isCoroutine:=false}
noncomputable abbrev E0:XK:=λ_ _ _=>False
structure Fun (K:PySem.W.Frag) (x qual:Str) (st:Stmt) (f:Addr) (fd:FuncData):Prop where
 ex:∃(oc:Value) (od:Option Addr) (kV doc pm:Value) (an:Option Addr) (cdv ct:Value) (osl:Array (Option Value)),
  fd=PySem.W.fnOf x qual (defArgs st) (defBody st) (defScope st) .none kV doc pm an cdv ct/\K.lookup f=some ⟨oc,od,.func fd,osl⟩/\PySem.W.codeIn K cdv qual=true
 kp:PySem.W.keepIn K (.ref f)=true
section
variable {P:Program}{w:World}{K:PySem.W.Frag}{mg:Str->Option Value}{base:Heap}
theorem Fun.binds {x qual:Str}{st:Stmt}{f:Addr}{fd:FuncData}{ps:List Str} (F:Fun K x qual st f fd)
  (h:∀(kV doc pm:Value) (an:Option Addr) (cdv ct:Value) (us:List Value),us.length=ps.length->bindArgs (PySem.W.fnOf x qual (defArgs st) (defBody st) (defScope st) .none kV doc pm an cdv ct) ⟨us,[]⟩=pure (ps.zip us)):Binds K fd ps []:=by
 obtain⟨oc,od,kV,doc,pm,an,cdv,ct,osl,rfl,lk,hcd⟩:=F.ex
 exact .all (h kV doc pm an cdv ct)
theorem ZL {x qual:Str}{st:Stmt}{f:Addr}{oc:Value}{od an:Option Addr}{osl:Array (Option Value)}{kV doc pm cdv ct:Value} (l:K.lookup f=some ⟨oc,od,.func (PySem.W.fnOf x qual (defArgs st) (defBody st) (defScope st) .none kV doc pm an cdv ct),osl⟩)
  (c:PySem.W.codeIn K cdv qual=true) (k:PySem.W.keepIn K (.ref f)=true):Fun K x qual st f (PySem.W.fnOf x qual (defArgs st) (defBody st) (defScope st) .none kV doc pm an cdv ct):=⟨⟨oc,od,kV,doc,pm,an,cdv,ct,osl,rfl,l,c⟩,k⟩
end
theorem Zj0 {A:Around}{k:Nat} (hr:Room k A):A.units+1<cLine:=Yv (Nat.add_le_add_left (by decide:1<=64) _) hr.units
section
variable {X:Cx}
theorem pv (i:Nat) {x:Str}{pos:Pos} (hN:X.N[i]?=some x:=by rfl) (hv:Vis X.env.scope x:=by first|exact Or.inl rfl|exact Or.inr (Or.inl rfl)|exact Or.inr (Or.inr rfl)) (hd:(x==("__debug__":Str))=false:=by decide)
  (hcd:(x==("__classdict__":Str))=false:=by decide):PE X (.Name x pos) (tVar i):=pe_var hN hv hd hcd
end
theorem iteF {A B:Prop} (h:B):if false=true then A else B:=by
 rw[Yb Ys]
 exact h
theorem iteT {A B:Prop} (h:A):if true=true then A else B:=by
 rw[Yd rfl]
 exact h
theorem Z4 {c A B:Prop} [Decidable c] (h1:c->A) (h2:¬ c->B):if c then A else B:=by
 by_cases h:c
 ·rw[Yd h]
  exact h1 h
 ·rw[Yb h]
  exact h2 h
noncomputable def Zh (H H':Hp):Prop:=∀b o,H b=some o->H' b=some o
theorem Zh.refl (H:Hp):Zh H H:=λ_ _ h=>h
theorem Zh.trans {H H1 H2:Hp} (a:Zh H H1) (b:Zh H1 H2):Zh H H2:=λc o h=>b c o (a c o h)
theorem Zh.free {H H':Hp} (e:Zh H H') {l:Addr} (h:H' l=Option.none):H l=Option.none:=by
 cases q:H l with
 |none=>rfl
 |some o =>
  rw[e l o q]at h
  cases h
theorem Zh.seq {K:PySem.W.Frag}{H H':Hp}{a:Addr}{xs:List V} (e:Zh H H') (h:SqL K H a xs):SqL K H' a xs:=by
 rcases h with(h|⟨o,h⟩)|h
 ·exact .inl (.inl (e _ _ h))
 ·exact .inl (.inr ⟨o,e _ _ h⟩)
 ·exact .inr h
theorem ZdF {env:Env}:∀(names:List (Str×NameKind)) (cs0:List (Str×Addr)),(∀y∈names,y.2=.free->∃c,env.cells.lookup y.1=some c) ->
  ∃cl,(forIn names cs0 (λ(x:Str×NameKind) r=>(do
   match x with
   |(name,kind)=>if (kind==NameKind.free)=true then do let a <-cellOf env name;pure (ForInStep.yield ((name,a)::r))else pure (ForInStep.yield r)):_->_->Sem (ForInStep (List (Str×Addr)))))=pure cl /\
   (∀p∈cl,p∈cs0\/env.cells.lookup p.1=some p.2)/\(∀p∈cs0,p∈cl)/\(∀y∈names,y.2=.free->∃c,(y.1,c)∈cl)
 |[],cs0,_=>⟨cs0,rfl,λp h=>.inl h,λp h=>h,λy h=>by cases h⟩
 |(n,k)::r,cs0,h=>by
  by_cases hk:k=.free
  ·subst hk
   obtain⟨c,hc⟩:=h (n,.free) (.head _) rfl
   obtain⟨cl,e,h1,h2,h3⟩:=ZdF r ((n,c)::cs0) λy hy=>h y (.tail _ hy)
   refine⟨cl,?_,λp hp=>?_,λp hp=>h2 p (.tail _ hp),λy hy hf=>?_⟩
   ·rw[List.forIn_cons]
    have e1:cellOf env n=pure c:=by unfold cellOf;rw[hc]
    simp only[beq_self_eq_true,if_true,e1,pure_bind]
    exact e
   ·rcases h1 p hp with q|q
    ·rcases Yk.mp q with q|q
     ·subst q;exact .inr hc
     ·exact .inl q
    ·exact .inr q
   ·rcases Yk.mp hy with q|q
    ·subst q;exact⟨c,h2 _ (.head _)⟩
    ·exact h3 y q hf
  ·obtain⟨cl,e,h1,h2,h3⟩:=ZdF r cs0 λy hy=>h y (.tail _ hy)
   refine⟨cl,?_,h1,h2,λy hy hf=>?_⟩
   ·rw[List.forIn_cons]
    have e1:(k==NameKind.free)=false:=by cases k<;>first|rfl|exact absurd rfl hk
    simp only[e1,Bool.false_eq_true,if_false,pure_bind]
    exact e
   ·rcases Yk.mp hy with q|q
    ·subst q;exact absurd hf hk
    ·exact h3 y q hf
theorem Zlb {env:Env}{scope:Scope} (h:∀y∈scope.names,y.2=.free->∃c,env.cells.lookup y.1=some c) :
  ∃cl,closureFor scope env=pure cl/\(∀x c,cl.lookup x=some c->env.cells.lookup x=some c)/\(∀y∈scope.names,y.2=.free->∃c,cl.lookup y.1=some c/\env.cells.lookup y.1=some c):=by
 obtain⟨cl,e,h1,h2,h3⟩:=ZdF (env:=env) scope.names [] h
 have up:∀x c,cl.lookup x=some c->env.cells.lookup x=some c:=λx c q=>by
  rcases h1 _ (PySem.mem_of_lookup q)with z|z
  ·cases z
  ·exact z
 refine⟨cl,?_,up,λy hy hf=>?_⟩
 ·unfold closureFor
  simp only[bind_pure_comp]at e⊢
  rw[e]
  exact pure_bind _ _
 ·obtain⟨c,hc⟩:=h3 y hy hf
  cases q:cl.lookup y.1 with
  |none=>exact absurd (List.lookup_eq_none_iff.mp q _ hc) (by simp)
  |some c'=>exact⟨c',rfl,up _ _ q⟩
noncomputable def compOk (around scope:Scope):Bool :=
 scope.kind==.function&&around.kind==.function&&scope.names.all λy=>match y.2 with
  |.local=>scope.names.lookup y.1==some .local
  |.cell=>false
  |.free=>(scope.names.lookup y.1==some .free)&&(around.names.lookup y.1==some .cell||around.names.lookup y.1==some .free)
  |_=>true
theorem Zj1 {a s:Scope} (h:compOk a s=true):s.kind=.function:=by
 simp only[compOk,Bool.and_eq_true,beq_iff_eq]at h;exact h.1.1
theorem ZiE {a s:Scope} (h:compOk a s=true) {y:Str×NameKind} (hy:y∈s.names):(match y.2 with
  |.local=>s.names.lookup y.1==some .local
  |.cell=>false
  |.free=>(s.names.lookup y.1==some .free)&&(a.names.lookup y.1==some .cell||a.names.lookup y.1==some .free)
  |_=>true)=true:=by
 simp only[compOk,Bool.and_eq_true]at h
 exact List.all_eq_true.mp h.2 y hy
theorem Zj2 {a s:Scope} (h:compOk a s=true):∀y∈s.names,y.2≠.cell:=λy hy e=>by
 have q:=ZiE h hy
 rw[e]at q
 cases q
theorem ZgM {a s:Scope} (h:compOk a s=true):∀y∈s.names,y.2=.free->a.names.lookup y.1=some .cell\/a.names.lookup y.1=some .free:=λy hy e=>by
 have q:=ZiE h hy
 rw[e]at q
 simp only[Bool.and_eq_true,Bool.or_eq_true,beq_iff_eq]at q
 exact q.2
theorem Zbk {env:Env}:∀{names:List (Str×NameKind)}{x:Str}{k:NameKind},(names.map λ(n,k)=>if (k==NameKind.free&&env.scope.kind==.function&&env.kindOf n==some .cell)then (n,NameKind.cell)else (n,k)).lookup x=some k ->
  ∃k',names.lookup x=some k'/\(k=k'\/(k'=.free/\k=.cell))
 |[],_,_,h=>by simp at h
 |(n,k0)::r,x,k,h=>by
  by_cases hx:x=n
  ·subst hx
   refine⟨k0,by simp,?_⟩
   simp only[YD]at h
   split at h
   ·rename_i hc
    simp only[Bool.and_eq_true,beq_iff_eq]at hc
    simp only[List.lookup_cons_self,Option.some.injEq]at h
    exact .inr ⟨hc.1.1,h.symm⟩
   ·simp only[List.lookup_cons_self,Option.some.injEq]at h
    exact .inl h.symm
  ·have hb:(x==n)=false:=by simpa using hx
   simp only[YD]at h
   have e2:∀k1,((n,k1)::r).lookup x=r.lookup x:=λk1=>by simp[List.lookup_cons,hb]
   split at h<;>(simp only[List.lookup_cons,hb]at h;obtain⟨k',h1,h2⟩:=Zbk h;exact⟨k',by rw[e2];exact h1,h2⟩)
noncomputable def Zot (X:Cx) (Nc:List Str) (scope:Scope) (cl:List (Str×Addr)) (C:Addr) (s2:Shared) (H2:Hp) (fp:List Addr):Cx where
 prog:=X.prog
 w:=X.w
 K:=X.K
 mg:=X.mg
 base:=X.base
 A:=X.A
 N:=Nc
 s₀:=s2
 H₀:=H2
 env:=compEnvC scope cl C X.env
 outer:=X.stack
 stack:=X.stack
 ex:=fp
 fn:=λ_=>false
 calm:=X.calm
 pn:=[]
 xe:=λ_ _=>False
noncomputable def iniC (js:List (Option Nat)) (σ:St):St:=js.map λj=>match j with
 |none=>none
 |some i=>(σ[i]?).join
noncomputable def ZbS (N Nc:List Str) (scope:Scope):List (Option Nat)->Nat->Bool
 |[],i=>i==Nc.length
 |none::r,i=>ZbS N Nc scope r (i+1)
 |some j::r,i=>(match Nc[i]?,N[j]? with
  |some x,some y=>x==y&&scope.names.lookup x==some .free
  |_,_=>false)&&ZbS N Nc scope r (i+1)
theorem Zfh {N Nc:List Str}{scope:Scope}:∀{js:List (Option Nat)}{i:Nat},ZbS N Nc scope js i=true->i+js.length=Nc.length
 |[],i,h=>by simpa[ZbS]using h
 |none::r,i,h=>by
  have:=Zfh (js:=r) (i:=i+1) (by simpa[ZbS]using h)
  simp only[YF];omega
 |some j::r,i,h=>by
  simp only[ZbS,Bool.and_eq_true]at h
  have:=Zfh (js:=r) (i:=i+1) h.2
  simp only[YF];omega
theorem Zgh {N Nc:List Str}{scope:Scope}:∀{js:List (Option Nat)}{i k j:Nat},ZbS N Nc scope js i=true->js[k]?=some (some j)->∃x,Nc[i+k]?=some x/\N[j]?=some x/\scope.names.lookup x=some .free
 |[],i,k,j,h,e=>by simp at e
 |none::r,i,0,j,h,e=>by simp at e
 |none::r,i,k+1,j,h,e=>by
  obtain⟨x,h1,h2,h3⟩:=Zgh (js:=r) (i:=i+1) (k:=k) (j:=j) (by simpa[ZbS]using h) (by simpa using e)
  exact⟨x,by rw[<-h1];congr 1;omega,h2,h3⟩
 |some j0::r,i,0,j,h,e=>by
  simp only[ZbS,Bool.and_eq_true]at h
  simp only[List.getElem?_cons_zero,Option.some.injEq]at e
  subst e
  cases e1:Nc[i]? with
  |none=>rw[e1]at h;simp at h
  |some x =>
   cases e2:N[j0]? with
   |none=>rw[e1,e2]at h;simp at h
   |some y =>
    rw[e1,e2]at h
    simp only[Bool.and_eq_true,beq_iff_eq]at h
    exact⟨x,by simpa using e1,by rw[h.1.1],h.1.2⟩
 |some j0::r,i,k+1,j,h,e=>by
  simp only[ZbS,Bool.and_eq_true]at h
  obtain⟨x,h1,h2,h3⟩:=Zgh (js:=r) (i:=i+1) (k:=k) (j:=j) h.2 (by simpa using e)
  exact⟨x,by rw[<-h1];congr 1;omega,h2,h3⟩
section
variable {X:Cx}
theorem lookup_mem {names:List (Str×NameKind)}{x:Str}{k:NameKind} (h:names.lookup x=some k):(x,k)∈names:=PySem.mem_of_lookup h
theorem Zeg {prog:Program}{w:World}{A:Around}{R:Result->Shared->Prop}{s:Shared}{elt target iter:Expr}{ifs:List Expr}{scope:Scope}{pos:Pos}{it acc:Value}{env:Env} (I:Nat->Shared->Prop)
  (turn:∀n s,I n s->wpAny (model prog w) A (pyNext it) (λr s₁=>match r with
   |none=>R (.ok .next) s₁
   |some v=>wpAny (model prog w) A (letOwnedTupleGo target it v) (λ_ s₁=>wpAny (model prog w) A (assign target env v) (λ_ s₂ =>
     wpAny (model prog w) A (forIn ifs true λc r=>if r=true then do let ok <-isTrue c env (eval c env);pure (ForInStep.yield ok)else pure (ForInStep.yield r)) (λok s₃ =>
      if ok=true then wpAny (model prog w) A (eval elt env) (λx s₄ =>
       wpAny (model prog w) A (call (.builtin "list.append") [acc,x]) (λ_ s₅=>∃m,m<n/\I m s₅) (λ_ _=>False) s₄) (λ_ _=>False) s₃
      else ∃m,m<n/\I m s₃) (λ_ _=>False) s₂) (λ_ _=>False) s₁) (λ_ _=>False) s₁) (λ_ _=>False) s)
  (n:Nat) (h:I n s) :
  codeAny (model prog w) A (.compLoop (.ListComp elt [⟨target,iter,ifs,0⟩] scope pos) 0 it acc env) R s:=by
 refine codeAny_loop rfl I (λn s hI=>?_) n h
 show wpAny _ A ((compTurn (.ListComp elt [⟨target,iter,ifs,0⟩] scope pos) 0 it acc env).onRaise (λx=>do noteFrame x env;theTreesLotGoes x)) _ _ s
 refine wpAny_noted ?_
 rw[compTurn_list]
 refine Ya (wpAny_standAt (Ya (YI (turn n s hI) (λr s₁ h₁=>?_) λ_ _ h'=>h'.elim)))
 cases r with
 |none=>exact Yc h₁
 |some v =>
  refine Ya (YI h₁ (λ_ s₁' h₁=>?_) λ_ _ h'=>h'.elim)
  refine Ya (YI h₁ (λ_ s₂ h₂=>Ya (YI h₂ (λok s₃ h₃=>?_) λ_ _ h'=>h'.elim)) λ_ _ h'=>h'.elim)
  cases ok with
  |false=>exact Yc ⟨rfl,h₃⟩
  |true =>
   exact Ya (Ya (YI h₃ (λx s₄ h₄=>Ya (YI h₄ (λ_ s₅ h₅=>Yc (Yc ⟨rfl,h₅⟩)) λ_ _ h'=>h'.elim)) λ_ _ h'=>h'.elim))
noncomputable def PIfs (X:Cx) (ifs:List Expr) (t:TT):Prop :=
 ∀(pins:List (Addr×Obj)) (s:Shared) (σ:St) (H:Hp) (Q:Bool->Hp->Prop),Inv X pins σ H s->t σ H Q ->
  wpAny (model X.prog X.w) X.A (forIn ifs true λc r=>if r=true then do let ok <-isTrue c X.env (eval c X.env);pure (ForInStep.yield ok)else pure (ForInStep.yield r)) (TP X pins σ Q) X.xe s
noncomputable def tYes:TT:=λ_ H Q=>Q true H
theorem Za6:PIfs X [] tYes:=λpins s σ H Q I h=>wpAny_tests_nil ⟨H,I,h⟩
theorem ZhC {c:Expr}{t:TT} (h:PT X c t):PIfs X [c] t:=λpins s σ H Q I hq=>wpAny_tests_one (h pins s σ H Q I hq)
noncomputable def Zde (L:List Nat) (σ σ':St):Prop:=σ'.length=σ.length/\∀k,k∉L->σ'[k]?=σ[k]?
noncomputable def Zj3 (g:TG) (L:List Nat):Prop:=∀v σ H (Q Q':St->Hp->Prop),(∀σ' H',Zde L σ σ'->Q σ' H'->Q' σ' H')->g v σ H Q->g v σ H Q'
noncomputable def Zjg (g:TGs) (L:List Nat):Prop:=∀v σ H (Q Q':St->Hp->Prop),(∀σ' H',Zde L σ σ'->Q σ' H'->Q' σ' H')->g v σ H Q->g v σ H Q'
theorem Zde.refl {L:List Nat}{σ:St}:Zde L σ σ:=⟨rfl,λ_ _=>rfl⟩
theorem Zde.trans {L L':List Nat}{a b c:St} (x:Zde L a b) (y:Zde L' b c):Zde (L++L') a c :=
 ⟨y.1.trans x.1,λk hk=>(y.2 k λz=>hk (YC _ z)).trans (x.2 k λz=>hk (YM _ z))⟩
theorem ZO {i:Nat}:Zj3 (gName i) [i]:=λv σ H Q Q' hq h=>hq _ _ ⟨by simp,λk hk=>by
 rw[List.getElem?_set_ne]
 intro z;subst z;exact hk (by simp)⟩ h
theorem ZfH:Zjg gNil []:=λv σ H Q Q' hq h=>⟨h.1,hq _ _ Zde.refl h.2⟩
theorem Zbq {t:TG}{u:TGs}{L L':List Nat} (h1:Zj3 t L) (h2:Zjg u L'):Zjg (gCons t u) (L++L'):=λv σ H Q Q' hq h=>by
 obtain⟨x,r,e,h⟩:=h
 exact⟨x,r,e,h1 _ _ _ _ _ (fun σ' H' k1 q=>h2 _ _ _ _ _ (fun σ2 H2 k2 q2=>hq _ _ (k1.trans k2) q2) q) h⟩
theorem ZfI {K:PySem.W.Frag}{n:Nat}{t:TGs}{L:List Nat} (h:Zjg t L):Zj3 (gTup K n t) L:=λv σ H Q Q' hq q=>by
 obtain⟨a,xs,e1,e2,e3,q⟩:=q
 exact⟨a,xs,e1,e2,e3,h _ _ _ _ _ hq q⟩
noncomputable def Zou (wi:TI) (g:TG) (tt:TT) (te:TE) (js:List (Option Nat)):TE:=fun σ H Q=>wi σ H λJ H1=>∃W:Nat->Nat->List V->Hp->Prop,(∃m,W 0 m [] H1)/\∀i m acc H,W i m acc H ->
 (J.stop i H/\acc.length<=sizeLine/\∀p,H p=none->Q (.ref p) (upd H p (.lst acc))) \/
 (J.go i H/\acc.length<sizeLine/\∀x H',J.yld i H x H'->g x (iniC js σ) H' fun σ2 H2=>tt σ2 H2 λb H3=>if b=true then te σ2 H3 λv H4=>∃m',m'<m/\W (i+1) m' (acc++[v]) H4 else ∃m',m'<m/\W (i+1) m' acc H3)
end
end L2
namespace L2
open PySem PySem.Spec PyProof.Rows PySem.W PySem.Builtin.ObjectAttr PySem.Builtin.Getset_descriptor
end L2
namespace L2
open PySem PySem.Spec PyProof.Rows
structure Fly (P:Program) (w:World) (outer:List Env) (H:Hp) (s:Shared) (H':Hp) (B:Heap) (e:Addr) (C a0:Value) (s':Shared):Prop where
 os:s'.os=s.os
 bare:AllBare s'.gens
 fly:Heap.FlyingW B outer e C a0 s'.heap
 hok:HOk P w H' B
 keep:∀b o,s.heap.get? b=some o->H b=none->b∉frs outer->B.get? b=some o
 slot:∀b o,s.heap.get? b=some o->b∈frs outer->(∀vs,o.data≠.fields vs)->∃sl,s'.heap.get? b=some {o with slots:=sl}
 free:∀b o,s.heap.get? b=some o->H b=none->H' b=none
 there:∀b o,s.heap.get? b=some o->b∉frs outer->∃o',B.get? b=some o'
 tups:∀b xs,H b=some (.tup xs)->H' b=some (.tup xs)
 frzs:∀b o u,H b=some (.frz o u)->H' b=some (.frz o u)
 tbls:∀b ps,H b=some (.tbl ps)->∃more,H' b=some (.tbl (ps++more))
noncomputable def CXE (P:Program) (w:World):CXT:=λouter H s E ev s'=>∃e C a0 H' B,ev=.ref e/\Fly P w outer H s H' B e C a0 s'/\E C none H'
theorem Zu {P:Program}{w:World}{X:Cx}:Passes (CXE P w) X E0:=λ_ _ _ _ _ _ _ ⟨_,_,_,_,_,_,_,z⟩=>z.elim
section
variable {P:Program}{w:World}{K:PySem.W.Frag}{mg:Str->Option Value}{base:Heap}{N:List Str}{qual:Str}{scope:Scope}{f:Addr}{cd:Value}{A:Around}{outer:List Env}{s:Shared}{H:Hp}{E:XK}
theorem Zjh {pins:List (Addr×Obj)}{σ:St}{H1:Hp}{s1:Shared}{h':Heap}{e:Addr}{C:Value}{vs:List Value} (I:Inv (Zfg (CXE P w) P w K mg base N qual scope f cd A outer s H E) pins σ H1 s1)
  (hx:Heap.MadeExcOf s1.heap h' e C vs) (hE:E C none H1):(Zfg (CXE P w) P w K mg base N qual scope f cd A outer s H E).xe (.ref e) {s1 with heap:=h'}:=by
 let env:=envOfC qual scope s.heap.objs.size f cd
 let B:=PySem.W.hideAll s1.heap (frs (env::outer))
 have hin:∀en∈(env::outer),∀b,en.frame=some b->b∈frs (env::outer):=λen he b hb=>List.mem_filterMap.mpr ⟨en,he,hb⟩
 have st:s1.heap.FunFrames base (env::outer):=I.stack
 have loc:∀b,b∈frs (env::outer)->b=s.heap.objs.size\/b∈frs outer:=λb hb=>Yk.mp (I.Zfd b hb)
 have old:∀b o,s.heap.get? b=some o->b∉frs outer->b∉frs (env::outer):=λb o q nb hb=>by
  rcases loc b hb with z|z
  ·exact absurd (Yh q) (by rw[z];exact Yx _)
  ·exact nb z
 have un:Un (frs outer) [] H H1 s.heap s1.heap:=I.base
 have hokB:HOk P w H1 B:=λa o q=>by
  have nf:∀b o,H1 b=some o->b∉frs (env::outer):=λb o z hb=>by
   have:=I.Zi3 b hb
   rw[this]at z;cases z
  refine(I.hok a o q).Zg6 (λb u hb z=>?_) (λ_ z=>z) (λ_ _ z=>z) λ_ _ _ z=>z
  rcases hb with hb|hb
  ·rw[hb]at z⊢;exact PySem.W.hideAll_get _ z (nf a o q)
  ·exact PySem.W.hideAll_get _ z (nf b _ hb)
 refine wpAny_leaves_madeW (base:=B) (h:=s1.heap) (env:=env) (outer:=outer) (L:=s.heap.objs.size) I.ok.frames rfl (λb o q=>PySem.W.of_hideAll _ q) (PySem.W.funFrames_hide st hin) hx λh2 t x1 x2 x3 x4=>?_
 refine⟨e,C,.ref t,H1,B,rfl,⟨I.os,I.bare,x1,hokB,λb o q n nb=>?_,λb o q hb hd=>?_,λb o q n=>un.free b o q n (by simp),λb o q nb=>?_,un.tups,un.frzs,un.tbls⟩,hE⟩
 ·exact PySem.W.hideAll_get _ (un.keep b o q n nb (by simp)) (old b o q nb)
 ·obtain⟨sl,z⟩:=un.slot b o q (I.ok.frf b hb) hb (by simp)
  obtain⟨sl2,z2⟩:=x4 b _ (hx.keeps _ _ z) hd
  exact⟨sl2,z2⟩
 ·obtain⟨o',z⟩:=un.there b o q (by simp)
  exact⟨o',PySem.W.hideAll_get _ z (old b o q nb)⟩
theorem Zb5:Passes (CXE P w) (Zfg (CXE P w) P w K mg base N qual scope f cd A outer s H E) E:=by
 intro pins σ H1 s1 ev s2 I h
 obtain⟨e,C,a0,H',B,rfl,F,hE⟩:=h
 let env:=envOfC qual scope s.heap.objs.size f cd
 have un:Un (frs outer) [] H H1 s.heap s1.heap:=I.base
 have loc:∀b,b∈frs (env::outer)->b=s.heap.objs.size\/b∈frs outer:=λb hb=>Yk.mp (I.Zfd b hb)
 have old:∀b o,s.heap.get? b=some o->b∉frs outer->b∉frs (env::outer):=λb o q nb hb=>by
  rcases loc b hb with z|z
  ·exact absurd (Yh q) (by rw[z];exact Yx _)
  ·exact nb z
 refine wpAny_leaves_onW (env:=env) (outer:=outer) (L:=s.heap.objs.size) I.ok.frames rfl F.fly λh2 x1 x2=>?_
 refine⟨e,C,a0,H',B,rfl,⟨F.os.trans I.os,F.bare,x1,F.hok,λb o q n nb=>F.keep b o (un.keep b o q n nb (by simp)) (un.free b o q n (by simp)) (old b o q nb),λb o q hb hd=>?_,λb o q n=>?_,λb o q nb=>?_,λb xs z=>F.tups b xs (un.tups b xs z),λb o u z=>F.frzs b o u (un.frzs b o u z),λb ps z=>?_⟩,hE⟩
 ·obtain⟨sl,z⟩:=un.slot b o q (I.ok.frf b hb) hb (by simp)
  obtain⟨en,he,hf⟩:=List.mem_filterMap.mp hb
  obtain⟨sl2,z2⟩:=F.slot b _ z (List.mem_filterMap.mpr ⟨en,.tail _ he,hf⟩) hd
  obtain⟨sl3,z3⟩:=x2 b _ z2 hd
  exact⟨sl3,z3⟩
 ·by_cases hb:b∈frs outer
  ·have h1:H1 b=none:=un.free b o q n (by simp)
   obtain⟨sl,z⟩:=un.slot b o q n hb (by simp)
   exact F.free b _ z h1
  ·exact F.free b o (un.keep b o q n hb (by simp)) (un.free b o q n (by simp))
 ·obtain⟨o',z⟩:=un.there b o q (by simp)
  exact F.there b o' z (old b o q nb)
 ·obtain⟨m1,z1⟩:=un.tbls b ps z
  obtain⟨m2,z2⟩:=F.tbls b _ z1
  exact⟨m1++m2,by rw[<-Array.append_assoc];exact z2⟩
end
abbrev bmV:List Value:=[.type "ValueError",.type "Exception",.type "BaseException",.type "object"]
abbrev newV:String:="ValueError.__new__"
theorem own_mk {K:PySem.W.Frag}{h:Heap}{mg:Str->Option Value}{x:Str}{C:Addr} (X:K.In h) (hm:mg x=some (.ref C)) (q:PySem.W.excIn K C bmV newV=true):OwnCls x C bmV newV mg h:=by
 refine⟨hm,?_⟩
 unfold PySem.W.excIn at q;split at q
 ·rename_i dd cd sl ho
  split at q
  ·rename_i C' bm k0 k1 k2 k3 n k5 hmm hs
   simp only[Bool.and_eq_true,beq_iff_eq,Bool.not_eq_true']at q;obtain⟨⟨⟨⟨⟨rfl,rfl⟩,hdel⟩,ht⟩,hok⟩,hni⟩:=q
   obtain⟨nm,bs,mro,ns,qn,hd,sn,sub,ab,col,del⟩:=cd;dsimp only at hmm hdel hok hni;subst hmm hdel
   have hsl:sl=#[k0,k1,k2,k3,some (.builtin newV),k5]:=by obtain⟨l⟩:=sl;simp only at hs;rw[hs]
   subst hsl;exact⟨bm,ns,nm,qn,bs,hd,sn,sub,ab,col,dd,k0,k1,k2,k3,k5,_,X _ _ ho,.of_isNs (PySem.W.isNs_of_in X hok),PySem.W.nsMap_none_of_in X hok hni,PySem.W.tail_of_in X ht⟩
  ·cases q
 ·cases q
section
variable {X:Cx}
noncomputable def tRaise (C:Addr) (E:XK) (t:TA):TS:=λ_ σ H=>t σ H λvs H1=>vs.length<=sizeLine/\E (.ref C) none H1
theorem ZfJ {x:Str}{C:Addr}{np cpos pos:Pos}{e0:Expr}{es:List Expr}{t:TA}{E:XK} (hc:X.calm=true) (hg:Gl X x) (hm:X.mg x=some (.ref C)) (q:PySem.W.excIn X.K C bmV newV=true) (ha:PA X (e0::es) t)
  (hx:∀pins σ H s h' e vs,Inv X pins σ H s->Heap.MadeExcOf s.heap h' e (.ref C) vs->E (.ref C) none H->X.xe (.ref e) {s with heap:=h'})
  (he:starEach (e0::es) X.env=(false,eval e0 X.env)::starEach es X.env:=by rfl) (hpl:(backTo cpos (starEach es X.env)).any (·.1)=false:=by rfl) (hd:(x==("__debug__":Str))=false:=by decide) :
  PS X (.Raise (some (.Call (.Name x np) (e0::es) [] cpos)) none pos) (tRaise C E t):=by
 intro pins s σ H D I h
 obtain⟨tl,Nn,nm,qn,bs,hdct,sn,sub,ab,col,dd,k0,k1,k2,k3,k5,mN,hC,hN,hni,T⟩:=(own_mk (x:=x) I.mod.kin hm q).obj
 refine wpAny_Raise_call_subT (C:=C) (nm:=nm) (q:=qn) (N:=Nn) (bs:=bs) (bm:=tl) (hdct:=hdct) (sn:=sn) (sub:=sub) (ab:=ab) (col:=col) (dd:=dd) (k0:=k0) (k1:=k1) (k2:=k2) (k3:=k3) (k5:=k5)
  PySem.F.excBase_ValueError (mN:=mN) (T.hasType PySem.F.excBase_ValueError.hasBase) (I.ok.hd hc) (by rw[he];show(false||(backTo cpos (starEach es X.env)).any (·.1))=false;rw[hpl];rfl) hni (ZfE I hg hm ⟨rfl,?_⟩ hd)
 have h2:=ha cpos pins s σ H _ I h
 rw[he]at h2⊢
 exact Calls.evalArgs_plain (thn h2 λus s2 ⟨vs,H2,I2,r,z,q2⟩=>⟨rfl,by rw[<-r.length];exact z,I2.bk _ _ hC,hN.keeps I2.bk,T.keeps I2.bk,λh' e hm'=>hx pins σ H2 s2 h' e us I2 hm' q2⟩)
end
section
variable {P:Program}{w:World}{K:PySem.W.Frag}{mg:Str->Option Value}{base:Heap}
theorem Fun.okX {x qual:Str}{st:Stmt}{f:Addr}{fd:FuncData}{N ps:List Str}{k:Nat}{sp:Sp} (F:Fun K x qual st f fd) (S:FnScope N ps (defScope st)) (len:∀vs H Q E,sp vs H Q E->vs.length=ps.length)
  (hbody:∀(cdv:Value) (A:Around) (outer:List Env) (s:Shared) (H:Hp) (vs:List V) (Q:VK) (E:XK),Room k (A.deeper (envOfC qual (defScope st) s.heap.objs.size f cdv))->sp vs H Q E ->
   ∃t,PSs (Zfg (CXE P w) P w K mg base N qual (defScope st) f cdv A outer s H E) (defBody st) t/\t {nx:=λ_ H'=>Q .non H',rt:=Q} (start N vs) H):FnOk P w K mg base (CXE P w) (k+1) f fd ps sp:=by
 obtain⟨oc,od,kV,doc,pm,an,cdv,ct,osl,rfl,lk,hcd⟩:=F.ex
 exact Zon lk hcd S len λA outer s H vs Q E hr hsp=>hbody cdv A outer s H vs Q E hr hsp
end
end L2
namespace L2
open PySem PySem.Spec PyProof.Rows PySem.W
theorem Zho:∀{ns:List Int}{us:List Value},Vals (ns.map V.int) us->∃xs:Array (Int×Tok),us.toArray=intItems xs/\xs.toList.map (·.1)=ns
 |[],_,.nil=>⟨#[],by simp[intItems],rfl⟩
 |n::ns,_,.cons (b:=u) r t=>by
  obtain⟨tk,rfl⟩:=(show ∃t,u=Value.int n t from r)
  obtain⟨xs,e1,e2⟩:=Zho t
  refine⟨#[(n,tk)]++xs,?_,by simp[e2]⟩
  have:∀(l:List Value),(Value.int n tk::l).toArray=#[Value.int n tk]++l.toArray:=λl=>by simp
  rw[this,e1]
  simp[intItems]
section
variable {X:Cx}
theorem Zb6:OpR X (binaryOp .Mult) (rI IntMulOk λi j=>.int (i*j)):=opI λ_ _ _ _ _ _ _ hc q=>mul_int q hc
noncomputable def PJ (X:Cx) (es:List (Sem Value)) (t:St->Hp->(Hp->Prop)->Prop):Prop :=
 ∀(out:Str) (pins:List (Addr×Obj)) (s:Shared) (σ:St) (H:Hp) (Q:Hp->Prop),out.length+2000*es.length<=100000->Inv X pins σ H s->t σ H Q ->
  wpAny (model X.prog X.w) X.A (joinParts out es) (λu s'=>∃y tk H',u=.str y tk/\Inv X pins σ H' s'/\Q H') X.xe s
theorem Zov:PJ X [] (λ_ H Q=>Q H):=λout pins s σ H Q hl I h =>
 joinParts_nil ⟨out,_,H,rfl,I.tok _,h⟩ (by simp at hl;exact Yj hl (by decide))
theorem ZfK {x:Str}{j:Nat}{pos:Pos}{es:List (Sem Value)}{t:St->Hp->(Hp->Prop)->Prop} (hx:x.length<=2000) (h:PJ X es t):PJ X (eval (.Constant (.str x) j pos) X.env::es) t:=by
 intro out pins s σ H Q hl I hq
 have hl':(out++x).length+2000*es.length<=100000:=by rw[PySem.strLen_append];simp at hl;omega
 refine joinParts_cons (Calls.Constant_str ⟨Yj (Yj (Nat.le_add_right _ _) hl') (by decide),?_⟩)
 exact h _ pins _ σ H Q hl' (I.tok _) hq
theorem Zmv {i:Int} (h0:0<=i) (h1:i<10 ^ 18):i.natAbs.log2<1920:=by
 by_cases hz:i.natAbs=0
 ·rw[hz];decide
 ·have h3:i.natAbs<2 ^ 60:=by
   have:(2:Nat) ^ 60=1152921504606846976:=by decide
   have h2:(10:Int) ^ 18=1000000000000000000:=by decide
   omega
  exact Yt ((Nat.log2_lt hz).mpr h3) (by decide)
theorem Zlc {e:Expr}{pos:Pos}{es:List (Sem Value)}{te:TE}{t:St->Hp->(Hp->Prop)->Prop} (he:PE X e te) (h:PJ X es t):PJ X (eval (.FormattedValue e (-1) none pos) X.env::es) (fun σ H Q=>te σ H λx H1=>∃i:Int,x=.int i/\(0<=i/\i<10 ^ 18)/\t σ H1 Q):=by
 intro out pins s σ H Q hl I hq
 refine joinParts_cons (FormattedValue_plain (thn (he pins s σ H _ I hq) λu s1 ⟨x,H1,I1,r1,i,ex,⟨h0,h1⟩,q⟩=>?_))
 subst ex
 obtain⟨tk,rfl⟩:=(show ∃t,u=Value.int i t from r1)
 refine wpAny_formatField_int (Zmv h0 h1) ?_
 have hx:(Str.ofString (toString i)).length<=18:=toString_length_le h0 (by decide) h1
 have hl':(out++Str.ofString (toString i)).length+2000*es.length<=100000:=by rw[PySem.strLen_append];simp at hl;omega
 refine⟨Yj (Yj (Nat.le_add_right _ _) hl') (by decide),?_⟩
 exact h _ pins _ σ H1 Q hl' (I1.tok _) q
theorem Zj4 (env:Env):∀l:List Expr,(evalEach l env).length=l.length
 |[]=>rfl
 |e::r=>by
  have:evalEach (e::r) env=eval e env::evalEach r env:=rfl
  rw[this,YF,YF,Zj4 env r]
theorem ZiF {e1 e2:Expr}{rest:List Expr}{pos:Pos}{t:St->Hp->(Hp->Prop)->Prop} (h:PJ X (eval e1 X.env::eval e2 X.env::evalEach rest X.env) t) (hn:rest.length<=20:=by decide) :
  PE X (.JoinedStr (e1::e2::rest) pos) (fun σ H Q=>t σ H λH1=>∀y,Q (.str y) H1):=by
 intro pins s σ H Q I hq
 have hle:=Zj4 X.env rest
 refine JoinedStr_many (thn (h Str.empty pins s σ H _ (by simp only[YF,hle];show 0+_<=_;omega) I hq) λu s' ⟨y,tk,H',e,I',q⟩=>?_)
 subst e
 exact⟨.str y,H',I',⟨tk,rfl⟩,q y⟩
end
noncomputable def clsAt (mg:Str->Option Value) (x:Str):Addr:=match mg x with
 |some (.ref C)=>C
 |_=>0
noncomputable def tokAt (mg:Str->Option Value) (x:Str):Tok:=match mg x with
 |some (.int _ t)=>t
 |_=>default
noncomputable def Callee (P:Program) (w:World) (K:Frag) (mg:Str->Option Value) (base:Heap) (x:Str) (k:Nat) (ps:List Str) (sp:Sp):Prop :=
 ∃f fd,mg x=some (.ref f)/\keepIn K (.ref f)=true/\Binds K fd ps []/\FnOk P w K mg base (CXE P w) k f fd ps sp
section
variable {X:Cx}
theorem Z2 {st:Stmt}{t:TS} (h:PS X.nox st t):PS X st t:=λpins s σ H D I hw =>
 YI (h pins s σ H D (I.Zif _) hw) (λ_ _ q=>q.Zeb) λ_ _ z=>False.elim z
theorem Zi {x:Str}{k:Nat}{ps:List Str}{sp:Sp}{E:XK}{e:Expr}{es:List Expr}{t:TA}{p pos:Pos} (C:Callee X.prog X.w X.K X.mg X.base x k ps sp) (hr:Room k X.A) (hg:Gl X x) (hx:Passes (CXE X.prog X.w) X E)
  (ha:PA X (e::es) t) (hdb:(x==("__debug__":Str))=false:=by decide) (he:starEach (e::es) X.env=(false,eval e X.env)::starEach es X.env:=by rfl) (hpl:(backTo pos (starEach es X.env)).any (·.1)=false:=by rfl) :
  PE X (.Call (.Name x p) (e::es) [] pos) (tCall sp [] E t):=by
 obtain⟨f,fd,hm,hk,hb,F⟩:=C
 exact ZlP F hr hg hm hk hb .nil hx ha hdb he hpl
theorem Zhp {P:Program}{w:World}{K:Frag}{mg:Str->Option Value}{base:Heap}{N:List Str}{qual:Str}{scope:Scope}{f:Addr}{cd:Value}{A:Around}{outer:List Env}{s0:Shared}{H0:Hp}{E:XK}{C:Addr} :
  ∀pins σ H s h' e vs,Inv (Zfg (CXE P w) P w K mg base N qual scope f cd A outer s0 H0 E) pins σ H s->Heap.MadeExcOf s.heap h' e (.ref C) vs->E (.ref C) none H->(Zfg (CXE P w) P w K mg base N qual scope f cd A outer s0 H0 E).xe (.ref e) {s with heap:=h'} :=
 λ_ _ _ _ _ _ _ I hx hE=>Zjh I hx hE
end
theorem Zgi:bootBuiltins "max"=some (.builtin "max"):=by decide +kernel
theorem Zji:bootBuiltins "min"=some (.builtin "min"):=by decide +kernel
theorem Zjj:bootBuiltins "list"=some (.type "list"):=by decide +kernel
theorem Zj5:bootBuiltins "tuple"=some (.type "tuple"):=by decide +kernel
section
variable {X:Cx}{pins:List (Addr×Obj)}{σ:St}{H:Hp}{s:Shared}{h':Heap}
theorem Inv.Zjk {t':Nat}{fp:List Addr} (I:Inv X pins σ H s) (k:∀b o,b∉fp->s.heap.get? b=some o->h'.get? b=some o) (hf:∀b∈fp,FpOk X pins H b):Inv X pins σ H {s with heap:=h',toks:=t'}:=by
 have nit:∀b u,H b=some u->b∉fp:=λb u e z=>by rw[(hf b z).1]at e;cases e
 refine I.step (g':=s.gens) (d':=s.drawn) (ch:=fp) (λb hb=>?_) (λb o _ _ hc e _=>k b o hc e) (λb o _ _ hc e _=>⟨o.slots,k b o hc e⟩) (λ_ _ _ _ n=>n)
  (λb o hc e=>⟨o,k b o hc e⟩) (λ_ _ e=>e) (λ_ _ _ e=>e) (λb ps e=>⟨#[],by rw[e];simp⟩) (λm hm=>?_) (λb u e=>?_) I.bare
 ·obtain⟨_,f1,_,f3,f4,f5⟩:=hf b hb
  exact⟨f3,f1,f4,f5⟩
 ·obtain⟨o,es,ep,ho,r⟩:=hm
  exact⟨o,es,ep,k _ o (λz=>(hf _ z).2.1 rfl) ho,r⟩
 ·refine(I.hok b u e).Zg6 (λc v hc q=>k c v ?_ q) (λ_ q=>q) (λ_ _ q=>q) λ_ _ _ q=>q
  rcases hc with z|z
  ·rw[z];exact nit b u e
  ·exact nit c _ z
theorem Zmw:bootBuiltins "zip"=some (.type "zip"):=by decide +kernel
end
theorem cxK {CX:CXT}{P:Program}{w:World}{K:Frag}{mg:Str->Option Value}{base:Heap}{N:List Str}{qual:Str}{scope:Scope}{f:Addr}{cd:Value}{A:Around}{outer:List Env}{s:Shared}{H:Hp}{E:XK} :
  (Zfg CX P w K mg base N qual scope f cd A outer s H E).K=K:=rfl
theorem Zh.upd {H H1:Hp}{p:Addr}{o:HO} (h:H p=none) (e:Zh H H1):Zh H (upd H1 p o):=λb u z=>by
 rw[Zf (Zj z h)];exact e b u z
theorem Zh.ZaL {H H1:Hp}{p:Addr}{o:HO} (e:Zh H H1) (h:H1 p=none):Zh H (L2.upd H1 p o):=e.upd (e.free h)
theorem Zhq {X:Cx}{K:Frag}{es:List Expr}{pos:Pos}{k:Nat}{t:TGs}{n:Nat} (hK:X.K=K) (hc:X.calm=true) (h:PGs X es t)
  (hn:(assignEach es X.env).length=n:=by rfl) (hst:(assignEach es X.env).findIdx? (·.1)=none:=by rfl):PG X (.Tuple es k pos) (gTup K n t):=hK▸ZdC hc h hn hst
noncomputable def LoopR (J:It) (g:TG) (tb:TS) (D:Ends) (σ:St) (H1:Hp):Prop:=∃W:Nat->Nat->St->Hp->Prop,(∃m,W 0 m σ H1)/\∀i m σ H,W i m σ H ->
 (J.stop i H/\D.nx σ H)\/(J.go i H/\∃N:St->Hp->Prop,(∀σ' H',N σ' H'->∃m',m'<m/\W (i+1) m' σ' H')/\∀x H',J.yld i H x H'->g x σ H' fun σ2 H2=>tb {D with nx:=N,ct:=N,bk:=D.nx} σ2 H2)
theorem ZlU {wi:TI}{g:TG}{tb:TS}{D:Ends}{σ:St}{H:Hp}:tFor wi g tb D σ H=wi σ H λJ H1=>LoopR J g tb D σ H1:=rfl
noncomputable def Zld (c:TT) (tb:TS) (D:Ends) (σ:St) (H:Hp):Prop:=ZkY c tb D σ H
theorem ZiG {c:TT}{tb:TS}{D:Ends}{σ:St}{H:Hp}:ZkY c tb D σ H=Zld c tb D σ H:=rfl
noncomputable def Zj6 (J:It) (g:TG) (tt:TT) (te:TE) (σ0:St) (Q:VK) (H1:Hp):Prop:=∃W:Nat->Nat->List V->Hp->Prop,(∃m,W 0 m [] H1)/\∀i m acc H,W i m acc H ->
 (J.stop i H/\acc.length<=sizeLine/\∀p,H p=none->Q (.ref p) (upd H p (.lst acc))) \/
 (J.go i H/\acc.length<sizeLine/\∀x H',J.yld i H x H'->g x σ0 H' fun σ2 H2=>tt σ2 H2 λb H3=>if b=true then te σ2 H3 λv H4=>∃m',m'<m/\W (i+1) m' (acc++[v]) H4 else ∃m',m'<m/\W (i+1) m' acc H3)
theorem Zj7 {wi:TI}{g:TG}{tt:TT}{te:TE}{js:List (Option Nat)}{σ:St}{H:Hp}{Q:VK}:Zou wi g tt te js σ H Q=wi σ H λJ H1=>Zj6 J g tt te (iniC js σ) Q H1:=rfl
noncomputable def CW (n:Nat) (vals:Nat->V) (H1:Hp) (i m:Nat) (acc:List V) (H:Hp):Prop:=m=n-i/\i<=n/\acc=(List.range i).map vals/\Zh H1 H
theorem CW.next {n:Nat}{vals:Nat->V}{H1 H:Hp}{i:Nat}{v:V} (hi:i<n) (hv:v=vals i) (s:Zh H1 H):∃m',m'<n-i/\CW n vals H1 (i+1) m' ((List.range i).map vals++[v]) H :=
 ⟨n-(i+1),by omega,rfl,hi,by rw[YJ,YB,hv];rfl,s⟩
theorem comp_map {J:It}{n:Nat}{H1:Hp}{g:TG}{tt:TT}{te:TE}{σ0:St}{Q:VK} (vals:Nat->V) (hn:n<sizeLine) (hgo:∀i H,Zh H1 H->i<n->J.go i H) (hstop:∀H,Zh H1 H->J.stop n H)
  (hb:∀i x H H',i<n->Zh H1 H->J.yld i H x H'->g x σ0 H' fun σ2 H2=>tt σ2 H2 λb H3=>if b=true then te σ2 H3 λv H4=>∃m',m'<n-i/\CW n vals H1 (i+1) m' ((List.range i).map vals++[v]) H4 else ∃m',m'<n-i/\CW n vals H1 (i+1) m' ((List.range i).map vals) H3)
  (hk:∀l H',Zh H1 H'->H' l=none->Q (.ref l) (upd H' l (.lst ((List.range n).map vals)))) :
  Zj6 J g tt te σ0 Q H1:=by
 refine⟨CW n vals H1,⟨n,rfl,Yr _,rfl,Zh.refl _⟩,?_⟩
 rintro i m acc H ⟨rfl,hi,rfl,s⟩
 by_cases h:i<n
 ·refine .inr ⟨hgo i H s h,by simpa using Nat.lt_trans h hn,λx H' y=>hb i x H H' h s y⟩
 ·have e:i=n:=by omega
  subst e
  exact .inl ⟨hstop H s,by simpa using YV hn,λp hp=>hk p H s hp⟩
theorem Zgj {α:Type}{xs:List α}{i:Int}{j:Nat} (h:i=(j:Int)) (hj:j<xs.length):atI xs i=some xs[j]:=by
 subst h
 unfold atI ixN
 rw[Yd (by omega),Yd (by omega)]
 simp
theorem ZfL {α:Type}{xs:List α}{i:Int} (C:α->Prop) (h0:0<=i) (h1:i<xs.length) (h:∀x∈xs,C x):∃v,atI xs i=some v/\C v:=by
 obtain⟨j,rfl⟩:=YX h0
 have hj:j<xs.length:=by omega
 exact⟨xs[j],Zgj rfl hj,h _ (Yz hj)⟩
theorem mul_r {a b:Int} (h1:-(2 ^ 64)<b) (h2:b<2 ^ 64):IntMulOk a b:=IntMulOk.of_right (intBits_le_64 h1 h2)
theorem ZiH {a b:Int} (h1:-(2 ^ 64)<a) (h2:a<2 ^ 64):IntMulOk a b:=IntMulOk.of_left (intBits_le_64 h1 h2)
theorem Zjl {a b:Int} (ha:Builtin.Int.intBits a<=2 ^ 20) (hb:Builtin.Int.intBits b<=2 ^ 20):IntMulOk a b:=IntMulOk.of_bits ha hb
theorem cp18:Zk1 10 18:=by unfold Zk1;decide
theorem cp59:Zk1 10 59:=by unfold Zk1;decide
noncomputable def Exc (p:Addr) (H H':Hp):Prop:=∀b o,b≠p->H b=some o->H' b=some o
theorem Zh.exc {H H1 H2:Hp}{p:Addr} (s:Zh H H1) (h:H p=none) (e:Exc p H1 H2):Zh H H2:=λb o z=>e b o (Zj z h) (s b o z)
theorem Zh.ZfM {H H':Hp}{p:Addr} (s:Zh H H'):Exc p H H':=λb o _ z=>s b o z
theorem Exc.upd {H:Hp}{p:Addr}{o:HO}:Exc p H (L2.upd H p o):=λb u n z=>by rw[Zf n];exact z
theorem ZF {K:Frag}{H:Hp}{p:Addr}{xs:List V} (h:H p=some (.lst xs)):tyV K "list" (.ref p) H:=.inl ⟨rfl,_,SqL.of h⟩
theorem ZfN {i j:Int}:ZjT (.int i) (.int j)=true:=rfl
theorem ZlV {i j:Bool}:ZjT (.bl i) (.bl j)=true:=rfl
theorem ZlW {i j:Str}:ZjT (.str i) (.str j)=true:=rfl
theorem ZlX:ZjT .non .non=true:=rfl
theorem ZlY {i:Int}:ZjT .non (.int i)=true:=rfl
theorem ZlZ {i:Int}:ZjT (.int i) .non=true:=rfl
section
variable {X:Cx}
noncomputable def rLen (K:Frag):List V->Hp->VK->Prop:=λxs H Q=>∃p ys,xs=[.ref p]/\(SqL K H p ys\/SqT K H p ys)/\Q (.int ys.length) H
theorem Zl {K:Frag} (hK:X.K=K):ZcY X (.builtin "len") (rLen K):=by subst hK;exact Zjc
noncomputable def rLof (K:Frag):List V->Hp->VK->Prop:=λxs H Q=>∃p ys,xs=[.ref p]/\(SqL K H p ys\/SqT K H p ys)/\∀l,H l=none->Q (.ref l) (upd H l (.lst ys))
theorem Zle {K:Frag} (hK:X.K=K):ZcY X (.type "list") (rLof K):=by subst hK;exact Zjd
noncomputable def rTof (K:Frag):List V->Hp->VK->Prop:=λxs H Q=>∃p ys,xs=[.ref p]/\((SqL K H p ys/\∀l,H l=none->Q (.ref l) (upd H l (.tup ys)))\/(SqT K H p ys/\Q (.ref p) H))
theorem ZiI {K:Frag} (hK:X.K=K):ZcY X (.type "tuple") (rTof K):=by subst hK;exact Zih
end
noncomputable def Rows (H:Hp) (l:Addr) (rs:List (List Int)):Prop:=∃as:List Addr,H l=some (.lst (as.map V.ref))/\l∉as/\as.length=rs.length/\∀i (h1:i<as.length) (h2:i<rs.length),H as[i]=some (.lst (rs[i].map V.int))
theorem Rows.push {H:Hp}{l p:Addr}{rs:List (List Int)}{r:List Int}{as:List Addr} (e:H l=some (.lst (as.map V.ref))) (n:l∉as) (hl:as.length=rs.length) (h:∀i (h1:i<as.length) (h2:i<rs.length),H as[i]=some (.lst (rs[i].map V.int)))
  (hp:H p=some (.lst (r.map V.int))) (np:p≠l):Rows (upd H l (.lst (as.map V.ref++[.ref p]))) l (rs++[r]):=by
 refine⟨as++[p],by rw[Zb];simp,?_,by simp[hl],λi h1 h2=>?_⟩
 ·simp only[Yy,YG,not_or]
  exact⟨n,λz=>np z.symm⟩
 ·by_cases hi:i<as.length
  ·have e1:(as++[p])[i]=as[i]:=YK hi
   have e2:(rs++[r])[i]=rs[i]'(by omega):=YK (by omega)
   rw[e1,e2,Zf]
   ·exact h i hi (by omega)
   ·intro z;exact n (z▸Yz hi)
  ·have e1:(as++[p])[i]=p:=by rw[Y3 (by omega)];simp
   have e2:(rs++[r])[i]=r:=by rw[Y3 (by omega)];simp
   rw[e1,e2,Zf np];exact hp
inductive EqD (K:Frag) (H:Hp):Nat->V->V->Bool->Prop
 |flat {n:Nat}{x y:V} (fx:flatV x=true) (fy:flatV y=true):EqD K H n x y (eqV x y)
 |lst {n:Nat}{a b:Addr}{xs ys:List V} (e:Nat->Bool) (hx:SqL K H a xs) (hy:SqL K H b ys) (hl:xs.length=ys.length) (h:∀j x y,xs[j]?=some x->ys[j]?=some y->EqD K H n x y (e j)):EqD K H (n+1) (.ref a) (.ref b) ((List.range xs.length).all e)
 |len {n:Nat}{a b:Addr}{xs ys:List V} (hx:SqL K H a xs) (hy:SqL K H b ys) (hl:xs.length≠ys.length):EqD K H (n+1) (.ref a) (.ref b) false
 |tup {n:Nat}{a b:Addr}{xs ys:List V} (e:Nat->Bool) (hx:SqT K H a xs) (hy:SqT K H b ys) (h:∀j x y,xs[j]?=some x->ys[j]?=some y->EqD K H n x y (e j)):EqD K H (n+1) (.ref a) (.ref b) ((List.range (min xs.length ys.length)).all e&&xs.length==ys.length)
theorem Zow {x:V} (h:flatV x=true):eqV x x=true:=by
 cases x<;>first
  |rfl
  |(simp[eqV];done)
  |cases h
section
variable {X:Cx}{pins:List (Addr×Obj)}{σ:St}{H:Hp}{s:Shared}
theorem Zj8 (I:Inv X pins σ H s) {n:Nat}{x y:V}{b:Bool} (h:EqD X.K H n x y b):x=y->b=true:=by
 induction h with
 |flat fx fy=>rintro rfl;exact Zow fx
 |lst e hx hy hl h ih =>
  intro z
  cases z
  have:=I.Zcd hx hy
  subst this
  refine List.all_eq_true.mpr λj hj=>?_
  have hj':=YA.mp hj
  exact ih j _ _ (Yg hj') (Yg hj') rfl
 |len hx hy hl =>
  intro z
  cases z
  have:=I.Zcd hx hy
  subst this
  exact absurd rfl hl
 |tup e hx hy h ih =>
  intro z
  cases z
  have:=I.Ziw hx hy
  subst this
  rw[Nat.min_self]
  have:(List.range _).all e=true:=List.all_eq_true.mpr λj hj=>by
   have hj':=YA.mp hj
   exact ih j _ _ (Yg hj') (Yg hj') rfl
  rw[this];simp
theorem Zjm (I:Inv X pins σ H s) {n:Nat}{x y:V}{b:Bool} (h:EqD X.K H n x y b):∀(A:Around) (u v:Value),A.units+n<cLine->RelV x u->RelV y v->SeqAt.EqAt A s u v b:=by
 induction h with
 |flat fx fy=>intro A u v _ ru rv;exact Zoo ru rv fx fy
 |@lst n a b xs ys e hx hy hl h ih =>
  intro A u v hu ru rv
  have hb:=Zj8 I (.lst e hx hy hl h)
  cases ru
  cases rv
  by_cases hab:a=b
  ·subst hab
   rw[hb rfl];exact SeqAt.EqAt.same _
  ·obtain⟨is1,r1,p1,_⟩:=I.list hx
   obtain⟨is2,r2,p2,_⟩:=I.list hy
   have e1:=r1.length
   have e2:=r2.length
   have key:=SeqAt.RcAt.lists (A:=A) (s:=s) (e:=e) p1.isList p2.isList (by simp;omega) (by omega) λj h1 h2=>by
    have h1':j<xs.length:=by simpa[e1]using h1
    have h2':j<ys.length:=by simpa[e2]using h2
    obtain⟨u,hu1,ru⟩:=r1.get (Yg h1')
    obtain⟨v,hv1,rv⟩:=r2.get (Yg h2')
    have eu:is1.toArray[j]=u:=by simpa using(Yu.mp hu1).2
    have ev:is2.toArray[j]=v:=by simpa using(Yu.mp hv1).2
    rw[eu,ev]
    exact ih j _ _ (Yg h1') (Yg h2') A.in1 u v (by show A.units+1+n<cLine;omega) ru rv
   have e3:is1.toArray.size=xs.length:=by simp[e1]
   rw[e3]at key
   exact SeqAt.EqAt.of_refs hab key
 |@len n a b xs ys hx hy hl =>
  intro A u v hu ru rv
  cases ru
  cases rv
  have hab:a≠b:=λz=>by subst z;exact hl (congrArg List.length (I.Zcd hx hy))
  obtain⟨is1,r1,p1,_⟩:=I.list hx
  obtain⟨is2,r2,p2,_⟩:=I.list hy
  have e1:=r1.length
  have e2:=r2.length
  exact SeqAt.EqAt.of_refs hab (SeqAt.RcAt.lists_lengths p1.isList p2.isList (by simp;omega) (by omega))
 |@tup n a b xs ys e hx hy h ih =>
  intro A u v hu ru rv
  have hb:=Zj8 I (.tup e hx hy h)
  cases ru
  cases rv
  by_cases hab:a=b
  ·subst hab
   rw[hb rfl];exact SeqAt.EqAt.same _
  ·obtain⟨is1,r1,p1,_⟩:=I.tuple hx
   obtain⟨is2,r2,p2,_⟩:=I.tuple hy
   have e1:=r1.length
   have e2:=r2.length
   have key:=SeqAt.RcAt.tuples (A:=A) (s:=s) (e:=e) p1 p2 (by omega) λj h1 h2=>by
    have h1':j<xs.length:=by simpa[e1]using h1
    have h2':j<ys.length:=by simpa[e2]using h2
    obtain⟨u,hu1,ru⟩:=r1.get (Yg h1')
    obtain⟨v,hv1,rv⟩:=r2.get (Yg h2')
    have eu:is1.toArray[j]=u:=by simpa using(Yu.mp hu1).2
    have ev:is2.toArray[j]=v:=by simpa using(Yu.mp hv1).2
    rw[eu,ev]
    exact ih j _ _ (Yg h1') (Yg h2') A.in1 u v (by show A.units+1+n<cLine;omega) ru rv
   have e3:is1.toArray.size=xs.length:=by simp[e1]
   have e4:is2.toArray.size=ys.length:=by simp[e2]
   rw[e3,e4]at key
   exact SeqAt.EqAt.of_refs hab key
end
noncomputable def rEqD (K:Frag) (neg:Bool):R2:=λx y H Q=>∃a b k,x=.ref a/\y=.ref b/\EqD K H 3 x y k/\Q (.bl (if neg then !k else k)) H
section
variable {X:Cx}
theorem Zlf {K:Frag} (hK:X.K=K) {k:Nat} (hr:Room k X.A):OpR X (compareOp .Eq) (rEqD K false):=by
 subst hK
 have hu0:=hr.un
 intro pins s σ H x y v u Q I rx ry h
 obtain⟨a,b,k,rfl,rfl,h,q⟩:=h
 cases rx
 cases ry
 cases h with
 |flat fx fy=>cases fx
 |@lst n _ _ xs ys e hx hy hl h =>
  obtain⟨is1,r1,p1,_⟩:=I.list hx
  obtain⟨is2,r2,p2,_⟩:=I.list hy
  have e1:=r1.length
  have e2:=r2.length
  have e3:is1.toArray.size=xs.length:=by simp[e1]
  refine SeqAt.eq_listAt (e:=e) p1.isList p2.isList (by simp;omega) (by omega) (λj h1 h2=>?_) ⟨.bl _,H,I,rfl,by rw[e3];exact q⟩
  have h1':j<xs.length:=by simpa[e1]using h1
  have h2':j<ys.length:=by simpa[e2]using h2
  obtain⟨u,hu1,ru⟩:=r1.get (Yg h1')
  obtain⟨v,hv1,rv⟩:=r2.get (Yg h2')
  have eu:is1.toArray[j]=u:=by simpa using(Yu.mp hu1).2
  have ev:is2.toArray[j]=v:=by simpa using(Yu.mp hv1).2
  rw[eu,ev]
  exact Zjm I (h j _ _ (Yg h1') (Yg h2')) X.A.in1 u v (by show X.A.units+1+2<cLine;omega) ru rv
 |@len n _ _ xs ys hx hy hl =>
  obtain⟨is1,r1,p1,_⟩:=I.list hx
  obtain⟨is2,r2,p2,_⟩:=I.list hy
  have e1:=r1.length
  have e2:=r2.length
  exact SeqAt.eq_list_lengthsAt p1.isList p2.isList (by simp;omega) (by omega) ⟨.bl _,H,I,rfl,q⟩
 |@tup n _ _ xs ys e hx hy h =>
  obtain⟨is1,r1,p1,_⟩:=I.tuple hx
  obtain⟨is2,r2,p2,_⟩:=I.tuple hy
  have e1:=r1.length
  have e2:=r2.length
  have e3:is1.toArray.size=xs.length:=by simp[e1]
  have e4:is2.toArray.size=ys.length:=by simp[e2]
  refine SeqAt.eq_tupleAt (e:=e) p1 p2 (by omega) (λj h1 h2=>?_) ⟨.bl _,H,I,rfl,by rw[e3,e4];exact q⟩
  have h1':j<xs.length:=by simpa[e1]using h1
  have h2':j<ys.length:=by simpa[e2]using h2
  obtain⟨u,hu1,ru⟩:=r1.get (Yg h1')
  obtain⟨v,hv1,rv⟩:=r2.get (Yg h2')
  have eu:is1.toArray[j]=u:=by simpa using(Yu.mp hu1).2
  have ev:is2.toArray[j]=v:=by simpa using(Yu.mp hv1).2
  rw[eu,ev]
  exact Zjm I (h j _ _ (Yg h1') (Yg h2')) X.A.in1 u v (by show X.A.units+1+2<cLine;omega) ru rv
theorem Zgk {K:Frag} (hK:X.K=K) {k:Nat} (hr:Room k X.A):OpR X (compareOp .NotEq) (rEqD K true):=by
 subst hK
 have hu0:=hr.un
 intro pins s σ H x y v u Q I rx ry h
 obtain⟨a,b,k,rfl,rfl,h,q⟩:=h
 cases rx
 cases ry
 cases h with
 |flat fx fy=>cases fx
 |@lst n _ _ xs ys e hx hy hl h =>
  obtain⟨is1,r1,p1,_⟩:=I.list hx
  obtain⟨is2,r2,p2,_⟩:=I.list hy
  have e1:=r1.length
  have e2:=r2.length
  have e3:is1.toArray.size=xs.length:=by simp[e1]
  refine SeqAt.RcNeAt.lists (e:=e) p1.isList p2.isList (by simp;omega) (by omega) (λj h1 h2=>?_) _ _ _ _ ⟨.bl _,H,I,rfl,by rw[e3];exact q⟩
  have h1':j<xs.length:=by simpa[e1]using h1
  have h2':j<ys.length:=by simpa[e2]using h2
  obtain⟨u,hu1,ru⟩:=r1.get (Yg h1')
  obtain⟨v,hv1,rv⟩:=r2.get (Yg h2')
  have eu:is1.toArray[j]=u:=by simpa using(Yu.mp hu1).2
  have ev:is2.toArray[j]=v:=by simpa using(Yu.mp hv1).2
  rw[eu,ev]
  exact Zjm I (h j _ _ (Yg h1') (Yg h2')) X.A.in1 u v (by show X.A.units+1+2<cLine;omega) ru rv
 |@len n _ _ xs ys hx hy hl =>
  obtain⟨is1,r1,p1,_⟩:=I.list hx
  obtain⟨is2,r2,p2,_⟩:=I.list hy
  have e1:=r1.length
  have e2:=r2.length
  exact SeqAt.RcNeAt.lists_lengths p1.isList p2.isList (by simp;omega) (by omega) _ _ _ _ ⟨.bl _,H,I,rfl,q⟩
 |@tup n _ _ xs ys e hx hy h =>
  obtain⟨is1,r1,p1,_⟩:=I.tuple hx
  obtain⟨is2,r2,p2,_⟩:=I.tuple hy
  have e1:=r1.length
  have e2:=r2.length
  have e3:is1.toArray.size=xs.length:=by simp[e1]
  have e4:is2.toArray.size=ys.length:=by simp[e2]
  refine SeqAt.RcNeAt.tuples (e:=e) p1 p2 (by omega) (λj h1 h2=>?_) _ _ _ _ ⟨.bl _,H,I,rfl,by rw[e3,e4];exact q⟩
  have h1':j<xs.length:=by simpa[e1]using h1
  have h2':j<ys.length:=by simpa[e2]using h2
  obtain⟨u,hu1,ru⟩:=r1.get (Yg h1')
  obtain⟨v,hv1,rv⟩:=r2.get (Yg h2')
  have eu:is1.toArray[j]=u:=by simpa using(Yu.mp hu1).2
  have ev:is2.toArray[j]=v:=by simpa using(Yu.mp hv1).2
  rw[eu,ev]
  exact Zjm I (h j _ _ (Yg h1') (Yg h2')) X.A.in1 u v (by show X.A.units+1+2<cLine;omega) ru rv
end
noncomputable def IsI (v:V) (i:Int):Prop:=v=.int i
noncomputable def IsL (K:Frag) (H:Hp) {α:Type} (P:V->α->Prop) (v:V) (as:List α):Prop:=∃a xs,v=.ref a/\SqL K H a xs/\xs.length=as.length/\∀(j:Nat) (x:V) (y:α),xs[j]?=some x->as[j]?=some y->P x y
noncomputable def EqP (K:Frag) (H:Hp) (n:Nat) {α:Type} [DecidableEq α] (P:V->α->Prop):Prop:=∀x y a b,P x a->P y b->EqD K H n x y (decide (a=b))
theorem Zhr {K:Frag}{H:Hp}{n:Nat}:EqP K H n IsI:=by
 rintro x y a b rfl rfl
 have:=EqD.flat (K:=K) (H:=H) (n:=n) (x:=.int a) (y:=.int b) rfl rfl
 have e:eqV (.int a) (.int b)=decide (a=b):=by simp[eqV,Bool.beq_eq_decide_eq]
 rw[<-e];exact this
theorem all_eq {α:Type} [DecidableEq α] (as bs:List α) (h:as.length=bs.length):(List.range as.length).all (λj=>decide (as[j]?=bs[j]?))=decide (as=bs):=by
 rw[Bool.eq_iff_iff,List.all_eq_true,decide_eq_true_iff]
 constructor
 ·intro q
  refine List.ext_getElem? λj=>?_
  by_cases hj:j<as.length
  ·simpa using q j (YA.mpr hj)
  ·rw[List.getElem?_eq_none (by omega),List.getElem?_eq_none (by omega)]
 ·rintro rfl j _;simp
theorem Zhs {K:Frag}{H:Hp}{n:Nat}{α:Type} [DecidableEq α] {P:V->α->Prop} (h:EqP K H n P):EqP K H (n+1) (IsL K H P):=by
 rintro x y as bs ⟨a,xs,rfl,hx,lx,px⟩ ⟨b,ys,rfl,hy,ly,py⟩
 by_cases hl:as.length=bs.length
 ·rw[<-all_eq as bs hl,<-lx]
  refine .lst _ hx hy (by omega) λj x y h1 h2=>?_
  have j1:=(Yu.mp h1).1
  have j2:=(Yu.mp h2).1
  have ha:as[j]?=some as[j]:=Yg (by omega)
  have hb:bs[j]?=some bs[j]:=Yg (by omega)
  have:=h x y _ _ (px j _ _ h1 ha) (py j _ _ h2 hb)
  rw[ha,hb]
  simpa using this
 ·have e:decide (as=bs)=false:=by simp;intro z;exact hl (congrArg List.length z)
  rw[e]
  exact .len hx hy (by omega)
theorem Zce {K:Frag}{H:Hp}{a:Addr}{ns:List Int} (h:SqL K H a (ns.map V.int)):IsL K H IsI (.ref a) ns:=⟨a,_,rfl,h,by simp,λj x y h1 h2=>by
 rw[Yp,h2]at h1
 exact(Yq h1).symm⟩
section
variable {X:Cx}
theorem ZpQ {g:Nat->V}{P:Nat->Value->Prop} (hP:∀i v,P i v->RelV (g i) v):∀(n:Nat) (us:List Value),us.length=n->(∀(j:Nat) (v:Value),us[j]?=some v->P j v)->Vals ((List.range n).map g) us:=by
 intro n
 induction n with
 |zero =>
  intro us hl _
  cases us with
  |nil=>exact .nil
  |cons _ _=>cases hl
 |succ n ih =>
  intro us hl h
  have hne:us≠[]:=λz=>by rw[z]at hl;cases hl
  rw[YJ,YB,<-List.dropLast_concat_getLast hne]
  have hl2:us.dropLast.length=n:=by rw[List.length_dropLast,hl];rfl
  refine(ih us.dropLast hl2 λj v hj=>?_).append (.cons ?_ .nil)
  ·have hj2:=(Yu.mp hj).1
   refine h j v ?_
   rw[List.getElem?_dropLast]at hj
   split at hj
   ·exact hj
   ·cases hj
  ·refine hP n _ (h n _ ?_)
   rw[List.getLast_eq_getElem]
   rw[Yu]
   refine⟨by omega,?_⟩
   congr 1
   omega
noncomputable def rAll (K:Frag):List V->Hp->VK->Prop:=λxs H Q=>∃(p:Addr) (bs:List Bool),xs=[.ref p]/\SqL K H p (bs.map V.bl)/\Q (.bl (bs.all id)) H
theorem all_ix (bs:List Bool):(List.range bs.length).all (λi=>bs.getD i false)=bs.all id:=by
 rw[Bool.eq_iff_iff,List.all_eq_true,List.all_eq_true]
 constructor
 ·intro h x hx
  obtain⟨j,hj,rfl⟩:=List.getElem_of_mem hx
  have:=h j (YA.mpr hj)
  simpa[Yw,hj]using this
 ·intro h j hj
  have hj':=YA.mp hj
  have:=h _ (Yz hj')
  simpa[Yw,hj']using this
theorem Zj9 {prog:Program}{w:World}{A:Around}{bs:List Bool}{its:List Value} (r:Vals (bs.map V.bl) its):TruthOf prog w A (λi v=>its.toArray[i]?=some v) (λi=>bs.getD i false):=by
 intro i v s Q E hv hq
 have hv':its[i]?=some v:=by simpa using hv
 have hl:=r.length
 have hi:i<bs.length:=by
  have:=(Yu.mp hv').1
  rw[Yf]at hl;omega
 obtain⟨u,hu,ru⟩:=r.get (i:=i) (x:=V.bl bs[i]) (by rw[Yp,Yg hi];rfl)
 rw[hv']at hu
 cases hu
 cases ru
 refine wpAny_truthy_bool ?_
 simpa[Yw,hi]using hq
theorem Zox {K:Frag} (hK:X.K=K) (hc:X.calm=true):ZcY X (.builtin "all") (rAll K):=by
 subst hK
 intro pins s σ H xs us Q I r h
 obtain⟨p,bs,rfl,hp,q⟩:=h
 obtain⟨u,rfl,ru⟩:=r.one
 cases(show u=Value.ref p from ru)
 obtain⟨its,r',pl,hz⟩:=I.list hp
 have hl:=r'.length
 refine call_all_walk (wpAny_pyIter_list pl.isList ?_)
 have hne:p≠s.heap.objs.size:=by obtain⟨o,e,_⟩:=pl.isList;exact Yo (Yh e)
 refine⟨s.heap.objs.size,_,_,_,_,_,λi=>bs.getD i false,rfl,Walks.list (A:=X.A.in1) (show X.A.in1.handled=none from I.ok.hd hc) _ p hne its.toArray,⟨⟨_,Yl _ rfl,rfl,rfl⟩,pl.isList.push _⟩,Zj9 r',λh' tk kp=>?_⟩
 have e1:its.toArray.size=bs.length:=by rw[Ym];rw[Yf]at hl;omega
 rw[e1,all_ix]
 exact⟨.bl _,H,I.kept (t':=tk) λb o e=>kp b o (by simp;exact Yo (Yh e)) (Yi _ e),rfl,q⟩
noncomputable def rIxQ (K:Frag):R2:=λx y H Q=>∃p xs i v,x=.ref p/\y=.int i/\(SqL K H p xs\/SqT K H p xs)/\atI xs i=some v/\Q v H
theorem ix_q {K:Frag} (hK:X.K=K):IxR X (rIxQ K):=by
 subst hK
 intro value slice pins s σ H x y v u Q I rx ry h hs
 refine(ZP.or ZhA) (value:=value) (slice:=slice) pins s σ H x y v u Q I rx ry ?_ hs
 obtain⟨p,xs,i,v,rfl,rfl,hq,ha,q⟩:=h
 rcases hq with hq|hq
 ·exact .inl ⟨p,xs,i,v,rfl,rfl,hq,ha,q⟩
 ·exact .inr ⟨p,xs,i,v,rfl,rfl,hq,ha,q⟩
theorem bt_all:bootBuiltins "all"=some (.builtin "all"):=by decide +kernel
end
noncomputable def nth (ns:List Int) (i:Nat):Int:=ns.getD i 0
theorem ZhD {ns:List Int}{i:Nat} (h:i<ns.length):atI (ns.map V.int) (i:Int)=some (V.int (nth ns i)):=by
 rw[Zgj rfl (by simpa using h)]
 simp[nth,Yw,h]
noncomputable def WI (N:Nat) (Pv:Nat->St->Hp->Prop) (m:Nat) (σ:St) (H:Hp):Prop:=∃i,m=N-i/\i<=N/\Pv i σ H
theorem WI.next {N:Nat}{Pv:Nat->St->Hp->Prop}{i:Nat}:∀σ' H',(i+1<=N/\Pv (i+1) σ' H')->∃m',m'<N-i/\WI N Pv m' σ' H':=fun σ' H' h=>⟨N-(i+1),by omega,i+1,rfl,h.1,h.2⟩
theorem Zjn {c:TT}{tb:TS}{D:Ends}{σ:St}{H:Hp} (N:Nat) (Pv:Nat->St->Hp->Prop) (h0:Pv 0 σ H)
  (hs:∀i σ H,i<=N->Pv i σ H->c σ H λb H1=>if b=true then ∃Nx:St->Hp->Prop,(∀σ' H',Nx σ' H'->∃m',m'<N-i/\WI N Pv m' σ' H')/\tb {D with nx:=Nx,ct:=Nx,bk:=D.nx} σ H1 else D.nx σ H1):Zld c tb D σ H:=by
 refine⟨WI N Pv,⟨N,0,rfl,Yr _,h0⟩,?_⟩
 rintro m σ H ⟨i,rfl,hi,p⟩
 exact hs i σ H hi p
theorem Zh.seqT {K:Frag}{H H':Hp}{a:Addr}{xs:List V} (e:Zh H H') (h:SqT K H a xs):SqT K H' a xs:=by
 rcases h with(h|⟨o,h⟩)|h
 ·exact .inl (.inl (e _ _ h))
 ·exact .inl (.inr ⟨o,e _ _ h⟩)
 ·exact .inr h
theorem Zh.q {K:Frag}{H H':Hp}{a:Addr}{xs:List V} (e:Zh H H') (h:SqL K H a xs\/SqT K H a xs):SqL K H' a xs\/SqT K H' a xs:=h.imp e.seq e.seqT
theorem Exc.trans {p:Addr}{H H1 H2:Hp} (a:Exc p H H1) (b:Exc p H1 H2):Exc p H H2:=λc o n z=>b c o n (a c o n z)
theorem Exc.free {p q:Addr}{H H':Hp} (e:Exc p H H') (n:q≠p) (h:H' q=none):H q=none:=by
 cases z:H q with
 |none=>rfl
 |some o=>rw[e q o n z]at h;cases h
theorem Exc.ZhE {p q:Addr}{H H':Hp}{o:HO} (e:Exc p H H') (h:H q=none):Exc p H (L2.upd H' q o):=λb u n z=>by
 rw[Zf (Zj z h)];exact e b u n z
theorem Exc.same {p:Addr}{H H1 H2:Hp} (a:Exc p H H1) (s:Zh H1 H2):Exc p H H2:=a.trans s.ZfM
noncomputable def Zc0 (H0 H:Hp) (l:Addr) (rs:List (List Int)):Prop:=∃as:List Addr,H l=some (.lst (as.map V.ref))/\l∉as/\as.length=rs.length/\(∀i (h1:i<as.length) (h2:i<rs.length),H as[i]=some (.lst (rs[i].map V.int)))/\H0 l=none/\∀a∈as,H0 a=none
theorem Zc0.push {H0 H:Hp}{l p:Addr}{rs:List (List Int)}{r:List Int}{as:List Addr} (e:H l=some (.lst (as.map V.ref))) (n:l∉as) (hl:as.length=rs.length) (h:∀i (h1:i<as.length) (h2:i<rs.length),H as[i]=some (.lst (rs[i].map V.int)))
  (z1:H0 l=none) (z2:∀a∈as,H0 a=none) (hp:H p=some (.lst (r.map V.int))) (np:p≠l) (zp:H0 p=none):Zc0 H0 (upd H l (.lst (as.map V.ref++[.ref p]))) l (rs++[r]):=by
 obtain⟨bs,q1,q2,q3,q4⟩:=Rows.push e n hl h hp np
 rw[Zb]at q1
 have e2:bs=as++[p]:=by
  have q1':(as++[p]).map V.ref=bs.map V.ref:=by
   have:=HO.lst.inj (Yq q1)
   simpa using this
  have inj:∀(u v:List Addr),u.map V.ref=v.map V.ref->u=v:=by
   intro u
   induction u with
   |nil=>intro v hv;cases v with|nil=>rfl|cons _ _=>cases hv
   |cons x u ih =>
    intro v hv
    cases v with
    |nil=>cases hv
    |cons y v =>
     rw[YD,YD]at hv
     injection hv with h1 h2
     injection h1 with h1
     rw[h1,ih v h2]
  exact(inj _ _ q1').symm
 subst e2
 refine⟨as++[p],Zb.trans (by simp),q2,q3,q4,z1,λa ha=>?_⟩
 rcases Yy.mp ha with ha|ha
 ·exact z2 a ha
 ·have:a=p:=by simpa using ha
  rw[this];exact zp
noncomputable def CA (n:Nat) (Pv:Nat->List V->Hp->Prop) (i m:Nat) (acc:List V) (H:Hp):Prop:=m=n-i/\i<=n/\acc.length<=i/\Pv i acc H
theorem CA.take {n:Nat}{Pv:Nat->List V->Hp->Prop}{i:Nat}{acc:List V}{v:V}{H:Hp} (hi:i<n) (hl:acc.length<=i) (h:Pv (i+1) (acc++[v]) H):∃m',m'<n-i/\CA n Pv (i+1) m' (acc++[v]) H:=⟨n-(i+1),by omega,rfl,hi,by simp;omega,h⟩
theorem CA.skip {n:Nat}{Pv:Nat->List V->Hp->Prop}{i:Nat}{acc:List V}{H:Hp} (hi:i<n) (hl:acc.length<=i) (h:Pv (i+1) acc H):∃m',m'<n-i/\CA n Pv (i+1) m' acc H:=⟨n-(i+1),by omega,rfl,hi,by omega,h⟩
theorem ZfO {J:It}{n:Nat}{H1:Hp}{g:TG}{tt:TT}{te:TE}{σ0:St}{Q:VK} (Pv:Nat->List V->Hp->Prop) (hn:n<sizeLine) (h0:Pv 0 [] H1) (hgo:∀i acc H,Pv i acc H->i<n->J.go i H) (hstop:∀acc H,Pv n acc H->J.stop n H)
  (hb:∀i x acc H H',i<n->acc.length<=i->Pv i acc H->J.yld i H x H'->g x σ0 H' fun σ2 H2=>tt σ2 H2 λb H3=>if b=true then te σ2 H3 λv H4=>∃m',m'<n-i/\CA n Pv (i+1) m' (acc++[v]) H4 else ∃m',m'<n-i/\CA n Pv (i+1) m' acc H3)
  (hk:∀l acc H',Pv n acc H'->acc.length<=n->H' l=none->Q (.ref l) (upd H' l (.lst acc))):Zj6 J g tt te σ0 Q H1:=by
 refine⟨CA n Pv,⟨n,rfl,Yr _,Ye _,h0⟩,?_⟩
 rintro i m acc H ⟨rfl,hi,hl,p⟩
 by_cases h:i<n
 ·exact .inr ⟨hgo i acc H p h,by omega,λx H' y=>hb i x acc H H' h hl p y⟩
 ·have e:i=n:=by omega
  subst e
  exact .inl ⟨hstop acc H p,by omega,λq hq=>hk q acc H p hl hq⟩
section
variable {X:Cx}
noncomputable def rInsert:V->List V->Hp->VK->Prop:=λx vs H Q=>∃l xs i y,x=.ref l/\vs=[.int i,y]/\H l=some (.lst xs)/\0<=i/\i<2 ^ 62/\xs.length<sizeLine/\Q .non (upd H l (.lst (xs.take i.toNat++y::xs.drop i.toNat)))
theorem Vals.Zoy:∀{xs:List V}{us:List Value} (k:Nat),Vals xs us->Vals (xs.take k) (us.take k)
 |_,_,0,_=>by simp;exact .nil
 |_,_,_+1,.nil=>.nil
 |_,_,k+1,.cons r h=>.cons r (Vals.Zoy k h)
theorem Vals.dropN:∀{xs:List V}{us:List Value} (k:Nat),Vals xs us->Vals (xs.drop k) (us.drop k)
 |_,_,0,h=>by simpa using h
 |_,_,_+1,.nil=>.nil
 |_,_,k+1,.cons _ h=>Vals.dropN k h
theorem Zmx:MtM X "list.insert" rInsert:=by
 intro pins s σ H x vs v us Q I rx rv h
 obtain⟨l,xs,i,y,rfl,rfl,hH,h1,h2,hz,q⟩:=h
 cases rx
 obtain⟨u,u2,rfl,ru,ru2⟩:=rv.two
 obtain⟨t,rfl⟩:=ru
 obtain⟨z,its,n,r,hl,e⟩:=I.Zje hH
 have hf:¬ (!Builtin.List.listFitsIndex i)=true:=by
  unfold Builtin.List.listFitsIndex
  have a1:decide (-(2 ^ 63:Int)<=i)=true:=YW (by omega)
  have a2:decide (i<(2 ^ 63:Int))=true:=YW (by omega)
  rw[a1,a2];decide
 refine call_meets F.slot_list_insert ⟨_,e,rfl⟩ F.entry_list_insert (F.args_list_insert_3 _ _ _) (AutoListH.list_insert_list_int_val_1 l its.toArray n i t u2 hf (by rw[Ym];omega)) ⟨e,?_⟩
 refine⟨.non,_,I.lset (its':=its.take i.toNat++u2::its.drop i.toNat) (ys:=xs.take i.toNat++y::xs.drop i.toNat) hH e ?_ ((r.Zoy _).append (.cons ru2 (r.dropN _))) ?_,rfl,q⟩
 ·show((its.toArray.extract 0 (if i<0 then (i+((its.toArray.size:Nat):Int)).toNat else min i.toNat its.toArray.size)).push u2++its.toArray.extract (if i<0 then (i+((its.toArray.size:Nat):Int)).toNat else min i.toNat its.toArray.size))=_
  rw[Yb (by omega)]
  have e1:its.take (min i.toNat its.length)=its.take i.toNat:=by
   by_cases hh:i.toNat<=its.length
   ·rw[Nat.min_eq_left hh]
   ·rw[Nat.min_eq_right (by omega),List.take_of_length_le (by omega),List.take_of_length_le (by omega)]
  have e2:its.drop (min i.toNat its.length)=its.drop i.toNat:=by
   by_cases hh:i.toNat<=its.length
   ·rw[Nat.min_eq_left hh]
   ·rw[Nat.min_eq_right (by omega),List.drop_of_length_le (by omega),List.drop_of_length_le (by omega)]
  apply Array.ext'
  simp[e1,e2]
  exact List.take_of_length_le (by rw[YY];omega)
 ·rw[YE,YF,YO,YY];omega
noncomputable def rIndex (K:Frag):V->List V->Hp->VK->Prop:=λx vs H Q=>∃(l:Addr) (ns:List Int) (k:Int),x=.ref l/\vs=[.int k]/\SqL K H l (ns.map V.int)/\ns.length<=100000/\k∈ns/\Q (.int (ns.idxOf k:Nat)) H
theorem Zoz {K:Frag} (hK:X.K=K):MtM X "list.index" (rIndex K):=by
 subst hK
 intro pins s σ H x vs v us Q I rx rv h
 obtain⟨l,ns,k,rfl,rfl,hH,hz,hk,q⟩:=h
 cases rx
 obtain⟨u,rfl,ru⟩:=rv.one
 obtain⟨t,rfl⟩:=ru
 obtain⟨its,r,pl,_⟩:=I.list hH
 have hi:IntsAre its ns:=intsAre_of r
 have hlen:=r.length
 rw[Yf]at hlen
 obtain⟨⟨cls,dd,data,sl⟩,ho,hc,n,hd⟩:=pl.isList
 simp only at hc hd
 subst hc hd
 have hj:ns.idxOf k<ns.length:=List.idxOf_lt_length_iff.mpr hk
 refine call_meets F.slot_list_index ⟨_,ho,rfl⟩ F.entry_list_index (F.args_list_index_2 _ _)
  (SeqAt.list_indexAt l its.toArray n dd sl (.int k t) (isInt k) (ns.idxOf k) (by rw[Ym];omega) (by omega) ?_ ?_) ⟨ho,λy hy=>(eq_isInt k t hi y (by simpa using hy)).at _ _,⟨.int _,H,I.tok _,⟨_,rfl⟩,q⟩⟩
 ·show isInt k its[ns.idxOf k]=true
  rw[isInt_at k hi _ (by omega) hj]
  simpa using List.getElem_idxOf hj
 ·intro j hjs hlt
  show isInt k its[j]=false
  rw[isInt_at k hi j (by simpa using hjs) (by omega)]
  exact ne_of_lt_idxOf hlt _
end
noncomputable def ZR (H:Hp) (p:Addr):Prop:=∃x:Int,H p=some (.lst [.int x])/\0<=x
theorem ZR.ne {H:Hp}{p q:Addr} (P:ZR H p) (h:H q=none):q≠p:=by
 obtain⟨x,e,_⟩:=P
 exact(Zj e h).symm
theorem ZR.same {H H':Hp}{p:Addr} (P:ZR H p) (s:Zh H H'):ZR H' p:=by
 obtain⟨x,e,r⟩:=P
 exact⟨x,s _ _ e,r⟩
theorem ZR.upd {H:Hp}{p q:Addr}{o:HO} (P:ZR H p) (h:H q=none):ZR (L2.upd H q o) p:=P.same ((Zh.refl H).upd h)
theorem ZR.ZhE {H:Hp}{p q:Addr}{o:HO} (P:ZR H p) (h:q≠p):ZR (L2.upd H q o) p:=by
 obtain⟨x,e,r⟩:=P
 exact⟨x,by rw[Zf h.symm];exact e,r⟩
theorem cp60:Zk1 10 60:=by unfold Zk1;decide
theorem qm1:IntMulOk (10 ^ Int.toNat 60) (10 ^ Int.toNat 60):=Zjl (by decide +kernel) (by decide +kernel)
theorem qm2:IntMulOk (10 ^ Int.toNat 60*10 ^ Int.toNat 60) (10 ^ Int.toNat 60):=Zjl (by decide +kernel) (by decide +kernel)
theorem qm3:IntMulOk (10 ^ Int.toNat 60*10 ^ Int.toNat 60*10 ^ Int.toNat 60) (10 ^ Int.toNat 60):=Zjl (by decide +kernel) (by decide +kernel)
theorem qm4:(0:Int)<10 ^ Int.toNat 60*10 ^ Int.toNat 60*10 ^ Int.toNat 60*10 ^ Int.toNat 60:=by decide +kernel
end L2
namespace L2
noncomputable def Zav (f:Nat->Int) (p q:Nat):Prop:=q<p/\f q<=f p/\∀r,q<r->r<p->f p<f r
noncomputable def ZaH (f:Nat->Int) (n p r:Nat):Prop:=p<r/\r<n/\f r<f p/\∀s,p<s->s<r->f p<=f s
noncomputable def ZdG (f:Nat->Int) (p:Nat):Prop:=∀q,q<p->f p<f q
noncomputable def Zeh (f:Nat->Int) (n p:Nat):Prop:=∀r,p<r->r<n->f p<=f r
noncomputable def ZaT (f:Nat->Int) (n p:Nat) (e:Int):Prop :=
 (ZdG f p/\Zeh f n p/\e=-1)\/(∃q,Zav f p q/\Zeh f n p/\e=q)\/(∃r,ZdG f p/\ZaH f n p r/\e=r) \/
 ∃q r,Zav f p q/\ZaH f n p r/\e=if f q<=f r then (r:Int)else q
theorem Zka {P:Nat->Prop} [DecidablePred P] (i:Nat):∀d r,r+d=i->P r->∃t,r<=t/\t<=i/\P t/\∀s,t<s->s<=i->¬ P s:=by
 intro d
 induction d with
 |zero=>intro r e h;exact⟨r,Ye _,by omega,h,λs h1 h2=>by omega⟩
 |succ d ih =>
  intro r e h
  by_cases hx:∃t,r<t/\t<=i/\P t
  ·obtain⟨t,h1,h2,h3⟩:=hx
   -- step to r+1 by cases
   by_cases h4:P (r+1)
   ·obtain⟨u,u1,u2,u3,u4⟩:=ih (r+1) (by omega) h4
    exact⟨u,by omega,u2,u3,u4⟩
   ·-- go on from the next one
    have gen:∀k t,t+k=i->r<t->P t->∃u,r<=u/\u<=i/\P u/\∀s,u<s->s<=i->¬ P s:=by
     intro k
     induction k with
     |zero=>intro t e h1 h3;exact⟨t,by omega,by omega,h3,λs h1 h2=>by omega⟩
     |succ k ihk =>
      intro t e h1 h3
      by_cases hy:∃s,t<s/\s<=i/\P s
      ·-- the last one of the rest
       have key:∀m,m<=i->(∃s,t<s/\s<=m/\P s)->∃u,t<u/\u<=m/\P u/\∀s,u<s->s<=m->¬ P s:=by
        intro m
        induction m with
        |zero=>rintro _ ⟨s,h5,h6,_⟩;omega
        |succ m ihm =>
         rintro hm ⟨s,h5,h6,h7⟩
         by_cases hp:P (m+1)
         ·exact⟨m+1,by omega,Ye _,hp,λs h1 h2=>by omega⟩
         ·have hs:s<=m:=by
           rcases Nat.lt_or_ge m s with z|z
           ·have:s=m+1:=by omega
            rw[this]at h7;exact absurd h7 hp
           ·exact z
          obtain⟨u,u1,u2,u3,u4⟩:=ihm (by omega) ⟨s,h5,hs,h7⟩
          refine⟨u,u1,by omega,u3,λs' h1 h2=>?_⟩
          by_cases e:s'=m+1
          ·rw[e];exact hp
          ·exact u4 s' h1 (by omega)
       obtain⟨u,u1,u2,u3,u4⟩:=key i (Ye _) hy
       exact⟨u,by omega,u2,u3,u4⟩
      ·exact⟨t,by omega,by omega,h3,λs h1 h2 h5=>hy ⟨s,h1,h2,h5⟩⟩
    exact gen (i-t) t (by omega) h1 h3
  ·exact⟨r,Ye _,by omega,h,λs h1 h2 h3=>hx ⟨s,h1,h2,h3⟩⟩
theorem Zlg {P:Nat->Prop} [DecidablePred P] {n r:Nat} (hr:r<n) (h:P r):∃t,r<=t/\t<n/\P t/\∀s,t<s->s<n->¬ P s:=by
 obtain⟨t,h1,h2,h3,h4⟩:=Zka (P:=P) (n-1) (n-1-r) r (by omega) h
 exact⟨t,h1,by omega,h3,λs a b=>h4 s a (by omega)⟩
noncomputable def ZoA (f:Nat->Int) (i:Nat) (sp:List Nat):Prop:=sp.Pairwise (· < ·)/\∀q,q∈sp↔q<i/\∀r,q<r->r<i->f q<=f r
theorem Zjo (f:Nat->Int) (p:Nat):ZdG f p\/∃q,Zav f p q:=by
 by_cases h:∃q,q<p/\f q<=f p
 ·obtain⟨q,h1,h2⟩:=h
  obtain⟨t,_,t2,t3,t4⟩:=Zlg (P:=λq=>f q<=f p) h1 h2
  exact .inr ⟨t,t2,t3,λr a b=>by have:=t4 r a b;omega⟩
 ·exact .inl λq hq=>by
   have:¬ (f q<=f p):=λz=>h ⟨q,hq,z⟩
   omega
theorem Zmy {f:Nat->Int}{i p q:Nat} (hp:p<i) (ho:∀r,p<r->r<i->f p<=f r) (h:Zav f p q):(∀r,q<r->r<i->f q<=f r)/\∀s,q<s->s<p->¬ ∀r,s<r->r<i->f s<=f r:=by
 obtain⟨h1,h2,h3⟩:=h
 refine⟨λr a b=>?_,λs a b z=>?_⟩
 ·rcases Nat.lt_trichotomy r p with c|c|c
  ·have:=h3 r a c;omega
  ·rw[c];exact h2
  ·have:=ho r c b;omega
 ·have:=z p b hp
  have:=h3 s a b
  omega
theorem Zlh {f:Nat->Int}{i:Nat}{A B:List Nat} (hs:ZoA f i (A++B)) (hA:∀q∈A,f q<=f i) (hB:∀q∈B,f i<f q) :
  ZoA f (i+1) (A++[i])/\ZaT f (i+1) i (match A.getLast? with|some q=>(q:Int)|none=>-1)/\∀p e,p<i->ZaT f i p e->ZaT f (i+1) p (if B.head?=some p then (i:Int)else e):=by
 obtain⟨hso,hm⟩:=hs
 have hAB:=List.pairwise_append.mp hso
 have noNx:Zeh f (i+1) i:=λr a b=>by omega
 refine⟨⟨?_,λq=>?_⟩,?_,λp e hp he=>?_⟩
 ·refine List.pairwise_append.mpr ⟨hAB.1,List.pairwise_singleton _ _,λa ha b hb=>?_⟩
  have:b=i:=by simpa using hb
  rw[this]
  exact((hm a).mp (YM _ ha)).1
 ·rw[Yy,YG]
  constructor
  ·rintro(h|h)
   ·obtain⟨h1,h2⟩:=(hm q).mp (YM _ h)
    refine⟨by omega,λr a b=>?_⟩
    by_cases e:r=i
    ·rw[e];exact hA q h
    ·exact h2 r a (by omega)
   ·subst h;exact⟨by omega,λr a b=>by omega⟩
  ·rintro⟨h1,h2⟩
   by_cases e:q=i
   ·exact .inr e
   ·have hq:q∈A++B:=(hm q).mpr ⟨by omega,λr a b=>h2 r a (by omega)⟩
    rcases Yy.mp hq with h|h
    ·exact .inl h
    ·have:=hB q h
     have:=h2 i (by omega) (by omega)
     omega
 ·-- the elder of i
  rcases Zjo f i with h|⟨q,h⟩
  ·have hA0:A=[]:=by
    cases A with
    |nil=>rfl
    |cons a r =>
     have h1:=((hm a).mp (by simp)).1
     have:=hA a (by simp)
     have:=h a h1
     omega
   rw[hA0]
   exact .inl ⟨h,noNx,rfl⟩
  ·have ho:∀r,q<r->r<i->f q<=f r:=λr a b=>by have:=h.2.2 r a b;have:=h.2.1;omega
   have hqA:q∈A:=by
    rcases Yy.mp ((hm q).mpr ⟨h.1,ho⟩)with z|z
    ·exact z
    ·have:=hB q z;have:=h.2.1;omega
   have hlast:A.getLast?=some q:=by
    have hne:A≠[]:=λz=>by rw[z]at hqA;cases hqA
    rw[List.getLast?_eq_some_getLast hne]
    congr 1
    have hl:A.getLast hne∈A:=List.getLast_mem hne
    -- q<=last,and last is not past q
    by_cases e:A.getLast hne=q
    ·exact e
    ·exfalso
     have hlt:q<A.getLast hne:=by
      have hd:=List.dropLast_concat_getLast hne
      have hq2:q∈A.dropLast:=by
       rw[<-hd]at hqA
       rcases Yy.mp hqA with z|z
       ·exact z
       ·exact absurd (by simpa using z) (Ne.symm e)
      have hp2:=hAB.1
      rw[<-hd]at hp2
      exact(List.pairwise_append.mp hp2).2.2 q hq2 _ (by simp)
     have h1:=((hm (A.getLast hne)).mp (YM _ hl)).1
     have:=h.2.2 _ hlt h1
     have:=hA _ hl
     omega
   rw[hlast]
   exact .inr (.inl ⟨q,h,noNx,rfl⟩)
 ·-- the elder of an earlier place
  have nxt:∀r,ZaH f i p r->ZaH f (i+1) p r:=λr ⟨a,b,c,d⟩=>⟨a,by omega,c,d⟩
  by_cases hop:Zeh f i p
  ·have hmem:p∈A++B:=(hm p).mpr ⟨hp,hop⟩
   by_cases hlt:f i<f p
   ·have hnx:ZaH f (i+1) p i:=⟨hp,by omega,hlt,λs a b=>hop s a b⟩
    have hpB:p∈B:=by
     rcases Yy.mp hmem with z|z
     ·have:=hA p z;omega
     ·exact z
    obtain⟨b0,Br,rfl⟩:∃b0 Br,B=b0::Br:=by
     cases B with
     |nil=>cases hpB
     |cons b0 Br=>exact⟨b0,Br,rfl⟩
    have hhead:(b0::Br).head?=some b0:=rfl
    rw[hhead]
    rcases Zjo f p with hn|⟨q,hq⟩
    ·-- nothing ahead: p is the first of all
     have e0:b0=p:=by
      by_cases z:b0=p
      ·exact z
      ·exfalso
       have hpr:p∈Br:=by
        rcases Yk.mp hpB with y|y
        ·exact absurd y.symm z
        ·exact y
       have hlt2:b0<p:=(Y4.mp hAB.2.1).1 p hpr
       have:=((hm b0).mp (by simp)).2 p hlt2 hp
       have:=hn b0 hlt2
       omega
     rw[Yd (by rw[e0])]
     exact .inr (.inr (.inl ⟨i,hn,hnx,rfl⟩))
    ·obtain⟨hq1,hq2⟩:=Zmy hp hop hq
     have hqm:q∈A++b0::Br:=(hm q).mpr ⟨Nat.lt_trans hq.1 hp,hq1⟩
     by_cases hqi:f q<=f i
     ·-- q is kept: p is the first of B
      have e0:b0=p:=by
       by_cases z:b0=p
       ·exact z
       ·exfalso
        have hpr:p∈Br:=by
         rcases Yk.mp hpB with y|y
         ·exact absurd y.symm z
         ·exact y
        have hlt2:b0<p:=(Y4.mp hAB.2.1).1 p hpr
        have hb0:=(hm b0).mp (by simp)
        have hqA:q∈A:=by
         rcases Yy.mp hqm with y|y
         ·exact y
         ·have:=hB q y;omega
        have hqb:q<b0:=hAB.2.2 q hqA b0 (by simp)
        exact hq2 b0 hqb hlt2 hb0.2
      rw[Yd (by rw[e0])]
      refine .inr (.inr (.inr ⟨q,i,hq,hnx,?_⟩))
      rw[Yd hqi]
     ·-- q goes,too: the elder stays
      have hqB:q∈b0::Br:=by
       rcases Yy.mp hqm with y|y
       ·exact absurd (hA q y) hqi
       ·exact y
      have hne:b0≠p:=by
       intro z
       subst z
       rcases Yk.mp hqB with y|y
       ·have:=hq.1;omega
       ·have:=(Y4.mp hAB.2.1).1 q y
        have:=hq.1;omega
      rw[Yb (by intro z;exact hne (Yq z))]
      have ee:e=q:=by
       rcases he with⟨h1,_,_⟩|⟨q',h1,_,h3⟩|⟨r,h1,_,_⟩|⟨q',r,_,h2,_⟩
       ·have:=h1 q hq.1;have:=hq.2.1;omega
       ·have:q'=q:=by
         rcases Nat.lt_trichotomy q' q with y|y|y
         ·have:=h1.2.2 q y hq.1;have:=hq.2.1;omega
         ·exact y
         ·have:=hq.2.2 q' y h1.1;have:=h1.2.1;omega
        rw[h3,this]
       ·have:=h1 q hq.1;have:=hq.2.1;omega
       ·have:=hop r h2.1 h2.2.1;have:=h2.2.2.1;omega
      refine .inr (.inr (.inr ⟨q,i,hq,hnx,?_⟩))
      rw[Yb hqi,ee]
   ·-- still open: not of B
    have hnn:Zeh f (i+1) p:=λr a b=>by
     by_cases z:r=i
     ·rw[z];omega
     ·exact hop r a (by omega)
    have hne:B.head?≠some p:=λz=>by
     have:p∈B:=List.mem_of_head? z
     have:=hB p this
     omega
    rw[Yb hne]
    rcases he with⟨h1,_,h3⟩|⟨q,h1,_,h3⟩|⟨r,_,h2,_⟩|⟨q,r,_,h2,_⟩
    ·exact .inl ⟨h1,hnn,h3⟩
    ·exact .inr (.inl ⟨q,h1,hnn,h3⟩)
    ·have:=hop r h2.1 h2.2.1;have:=h2.2.2.1;omega
    ·have:=hop r h2.1 h2.2.1;have:=h2.2.2.1;omega
  ·-- shut already
   have hne:B.head?≠some p:=λz=>hop ((hm p).mp (YC _ (List.mem_of_head? z))).2
   rw[Yb hne]
   rcases he with⟨_,h2,_⟩|⟨q,_,h2,_⟩|⟨r,h1,h2,h3⟩|⟨q,r,h1,h2,h3⟩
   ·exact absurd h2 hop
   ·exact absurd h2 hop
   ·exact .inr (.inr (.inl ⟨r,h1,nxt r h2,h3⟩))
   ·exact .inr (.inr (.inr ⟨q,r,h1,nxt r h2,h3⟩))
end L2
namespace L2
open PySem PySem.Spec PyProof.Rows PySem.W
theorem ZhF {α β:Type}{f g:α->Option β}:∀{l:List α},(∀x∈l,f x=g x)->l.filterMap f=l.filterMap g
 |[],_=>rfl
 |x::r,h=>by rw[List.filterMap_cons,List.filterMap_cons,h x (Y1 ..),ZhF λy hy=>h y (YQ _ hy)]
theorem Zmz (its:List Value) (k:Nat) (hk:k<=its.length) (start:Nat):(its.zipIdx start).filterMap (λxk=>if (decide (((start+k:Nat):Int)<=(xk.2:Int))&&decide ((xk.2:Int)<((start+its.length:Nat):Int))&&(((xk.2:Int)-((start+k:Nat):Int)) % 1==0))=true then none else some xk.1)=its.take k:=by
 induction its generalizing k start with
 |nil=>simp
 |cons x r ih =>
  rw[List.zipIdx_cons,List.filterMap_cons]
  cases k with
  |zero =>
   have h1:(decide (((start+0:Nat):Int)<=(start:Int))&&decide ((start:Int)<((start+(x::r).length:Nat):Int))&&(((start:Int)-((start+0:Nat):Int)) % 1==0))=true:=by
    simp;omega
   simp only[h1,if_true]
   have:=ih 0 (by omega) (start+1)
   rw[List.take_zero]at this⊢
   rw[<-this]
   refine ZhF λxk hxk=>?_
   have hm:=List.mem_zipIdx hxk
   have e1:(decide (((start+0:Nat):Int)<=(xk.2:Int)))=(decide (((start+1+0:Nat):Int)<=(xk.2:Int))):=by
    rw[decide_eq_decide];omega
   have e2:((start+(x::r).length:Nat):Int)=((start+1+r.length:Nat):Int):=by simp;omega
   have e3:(((xk.2:Int)-((start+0:Nat):Int)) % 1==0)=(((xk.2:Int)-((start+1+0:Nat):Int)) % 1==0):=by simp[Int.emod_one]
   rw[e1,e2,e3]
  |succ k =>
   have h1:(decide (((start+(k+1):Nat):Int)<=(start:Int))&&decide ((start:Int)<((start+(x::r).length:Nat):Int))&&(((start:Int)-((start+(k+1):Nat):Int)) % 1==0))=false:=by
    have:decide (((start+(k+1):Nat):Int)<=(start:Int))=false:=YU (by omega)
    rw[this];rfl
   simp only[h1,Bool.false_eq_true,if_false]
   rw[List.take_succ_cons]
   congr 1
   have:=ih k (by simpa using hk) (start+1)
   rw[<-this]
   refine ZhF λxk hxk=>?_
   have e1:((start+(k+1):Nat):Int)=((start+1+k:Nat):Int):=by omega
   have e2:((start+(x::r).length:Nat):Int)=((start+1+r.length:Nat):Int):=by simp;omega
   rw[e1,e2]
section
variable {X:Cx}{e st:Expr}{te ts:TE}{pos pos1 p2:Pos}
noncomputable def tDelT (te ts:TE):TS:=λD σ H=>te σ H λx H1=>ts σ H1 λz H2=>∃(l:Addr) (xs:List V) (k:Nat),x=.ref l/\z=.int k/\H2 l=some (.lst xs)/\k<=xs.length/\D.nx σ (upd H2 l (.lst (xs.take k)))
theorem Zli (he:PE X e te) (hs:PE X st ts):PS X (.Delete [.Subscript e (.Slice (some st) none none p2) pos1] pos) (tDelT te ts):=by
 intro pins s σ H D I h
 refine wpAny_Delete (wpAny_deleteEach_cons ?_)
 show wpAny _ _ (eval e X.env >>= λov=>holding [ov] (eval (.Slice (some st) none none p2) X.env) >>= λiv=>(do standAt pos1;holding [ov,iv] (delItem ov iv);release [ov,iv] [])) _ _ _
 refine Ya (thn (he pins s σ H _ I h) λv s1 ⟨x,H1,I1,r1,q1⟩=>?_)
 refine Ya (wpAny_holding ?_)
 refine wpAny_Slice ?_
 rw[evalPart_some]
 refine thn (hs pins s1 σ H1 _ I1 q1) λvs s2 ⟨z,H2,I2,r2,l,xs,k,e1,e2,hx,hk,q⟩=>?_
 subst e1 e2
 obtain⟨tk,rfl⟩:=r2
 cases r1
 rw[evalPart_none]
 refine Yc ?_
 refine Yc ?_
 have I4:Inv X pins σ H2 {s2 with heap:=s2.heap.push {cls:=.type "slice",data:=.fields #[.int k tk,.none,.none]}}:=I2.kept (t':=s2.toks) λb ob q=>Yi _ q
 have hsl:({s2 with heap:=s2.heap.push {cls:=.type "slice",data:=.fields #[.int k tk,.none,.none]}}:Shared).heap.get? s2.heap.objs.size=some {cls:=.type "slice",data:=.fields #[.int k tk,.none,.none]}:=Yl _ rfl
 obtain⟨z,its,n,r,hlen,hob⟩:=I4.Zje hx
 generalize ({s2 with heap:=s2.heap.push {cls:=.type "slice",data:=.fields #[.int k tk,.none,.none]}}:Shared)=s4 at I4 hsl hob⊢
 have hT:s4.TypeIs (.ref l) "list":=⟨_,hob,rfl⟩
 have hTs:s4.TypeIs (.ref s2.heap.objs.size) "slice":=⟨_,hsl,rfl⟩
 refine Ya (wpAny_standAt (Ya (wpAny_holding ?_)))
 refine wpAny_delItem_slot hT (by decide) F.slot_list_delitem (wpAny_call_entry F.slot_list_delitem hT F.entry_list_delitem ?_ (F.args_list_delitem_2 _ _))
 show wpAny _ _ (Builtin.List.listSubscript? (.ref s2.heap.objs.size) >>= _) _ _ s4
 refine Ya ?_;unfold Builtin.List.listSubscript?;refine Ya (wpAny_specialOf hTs slice_no_index ?_)
 simp only[Option.isNone_none,if_true];refine Yc ?_
 show wpAny _ _ (typeOf (.ref s2.heap.objs.size) >>= _) _ _ s4
 refine Ya (wpAny_typeOf hTs ?_);rw[Yb (by decide),listSliceParts_eq]
 refine Ya (Ya (wpAny_field hsl rfl (x:=.none) rfl (Ya (wpAny_listPart (k:=none) .none ?_))));rw[Yb (show ¬ ((rawPart none==rawInt 0)=true)from Ys)]
 refine Ya (wpAny_field hsl rfl (x:=.int k tk) rfl (Ya (wpAny_listPart (.int (k:Int) tk) ?_)))
 refine Ya (wpAny_field hsl rfl (x:=.none) rfl (Ya (wpAny_listPart (k:=none) .none (Yc ?_))))
 refine Ya (m:=Builtin.List.listItems (.ref l)) ?_;unfold Builtin.List.listItems
 refine Ya (wpAny_seqItems hob rfl (Yc ?_));refine Ya (wpAny_of_eq (sliceIndices_raw (some (k:Int)) none none its.toArray.size (by simp)) (Ya (wpAny_rule ?_)))
 have hb:sliceBounds (some (k:Int)) none none its.toArray.size=((k:Int),((its.length:Nat):Int),1):=by
  unfold sliceBounds
  simp
  omega
 rw[hb]
 have hf:∀f:Array Value->Array Value,(∀ys:Array Value,f ys=(ys.toList.zipIdx.filterMap λxk=>if (decide ((k:Int)<=(xk.2:Int))&&decide ((xk.2:Int)<((its.length:Nat):Int))&&(((xk.2:Int)-(k:Int)) % 1==0))=true then none else some xk.1).toArray)->f its.toArray=(its.take k).toArray:=λf h=>by
  rw[h]
  congr 1
  have:=Zmz its k (by omega) 0
  simpa using this
 refine Ya (m:=updateSeq l _) ?_
 refine wpAny_updateSeq (n:=n) hob rfl ?_ (by rw[Ym];omega) ?_
 ·refine Ya (wpAny_letGo (Yc ⟨_,rfl,?_⟩))
  refine wpAny_release (wpAny_deleteEach_nil ⟨σ,_,I4.lset hx hob (hf _ λys=>rfl) (r.Zoy k) ?_,q⟩)
  rw[YO];omega
 ·rw[Ym]
  refine Yj (List.length_filterMap_le _ _) ?_
  rw[List.length_zipIdx]
  show its.length<=sizeLine+1
  omega
end
theorem Zav.unique {f:Nat->Int}{p q q':Nat} (h:Zav f p q) (k:Zav f p q'):q=q':=by
 rcases Nat.lt_trichotomy q q' with z|z|z
 ·have:=h.2.2 q' z k.1;have:=k.2.1;omega
 ·exact z
 ·have:=k.2.2 q z h.1;have:=h.2.1;omega
theorem ZaH.unique {f:Nat->Int}{n p r r':Nat} (h:ZaH f n p r) (k:ZaH f n p r'):r=r':=by
 rcases Nat.lt_trichotomy r r' with z|z|z
 ·have:=k.2.2.2 r h.1 z;have:=h.2.2.1;omega
 ·exact z
 ·have:=h.2.2.2 r' k.1 z;have:=k.2.2.1;omega
theorem Zav.no {f:Nat->Int}{p q:Nat} (h:Zav f p q) (k:ZdG f p):False:=by have:=k q h.1;have:=h.2.1;omega
theorem ZaH.no {f:Nat->Int}{n p r:Nat} (h:ZaH f n p r) (k:Zeh f n p):False:=by have:=k r h.1 h.2.1;have:=h.2.2.1;omega
noncomputable def Zfi (ns:List Int) (es:List Int):Prop:=es.length=ns.length/\∀p,p<ns.length->ZaT (nth ns) ns.length p (es.getD p 0)
theorem Zl0 {c:TT}{tb:TS}{D:Ends}{σ:St}{H:Hp} (Pv:Nat->St->Hp->Prop) (m0:Nat) (h0:Pv m0 σ H)
  (hs:∀m σ H,Pv m σ H->c σ H λb H1=>if b=true then ∃Nx:St->Hp->Prop,(∀σ' H',Nx σ' H'->∃m',m'<m/\Pv m' σ' H')/\tb {D with nx:=Nx,ct:=Nx,bk:=D.nx} σ H1 else D.nx σ H1):Zld c tb D σ H:=⟨Pv,⟨m0,h0⟩,hs⟩
end L2
namespace L2
noncomputable def Over (f:Nat->Int) (o p:Nat):Prop:=(o<p/\∀r,o<r->r<=p->f o<=f r)\/(p<o/\∀r,p<=r->r<o->f o<f r)
theorem Over.irrefl {f:Nat->Int}{p:Nat}:¬ Over f p p:=by rintro(⟨h,_⟩|⟨h,_⟩)<;>omega
theorem Over.trans {f:Nat->Int}{o e p:Nat} (h:Over f o e) (k:Over f e p):Over f o p:=by
 rcases h with⟨h1,h2⟩|⟨h1,h2⟩<;>rcases k with⟨k1,k2⟩|⟨k1,k2⟩
 ·refine .inl ⟨by omega,λr r1 r2=>?_⟩
  by_cases z:r<=e
  ·exact h2 r r1 z
  ·have:=k2 r (by omega) r2;have:=h2 e h1 (Ye _);omega
 ·have he:=h2 e h1 (Ye _)
  rcases Nat.lt_trichotomy o p with z|z|z
  ·exact .inl ⟨z,λr r1 r2=>h2 r r1 (by omega)⟩
  ·have:=k2 p (Ye _) k1;subst z;omega
  ·exact .inr ⟨z,λr r1 r2=>by have:=k2 r r1 (by omega);omega⟩
 ·have he:=h2 e (Ye _) h1
  rcases Nat.lt_trichotomy o p with z|z|z
  ·exact .inl ⟨z,λr r1 r2=>by have:=k2 r (by omega) r2;omega⟩
  ·have:=k2 p k1 (Ye _);subst z;omega
  ·exact .inr ⟨z,λr r1 r2=>h2 r (by omega) r2⟩
 ·refine .inr ⟨by omega,λr r1 r2=>?_⟩
  by_cases z:r<e
  ·have:=k2 r r1 z;have:=h2 e (Ye _) h1;omega
  ·exact h2 r (by omega) r2
theorem Zfj {f:Nat->Int}{n p:Nat}{e:Int} (hp:p<n) (h:ZaT f n p e):e=-1\/∃q:Nat,e=q/\q<n/\Over f q p:=by
 have pv:∀q,Zav f p q->Over f q p:=λq h=>.inl ⟨h.1,λr r1 r2=>by
  by_cases z:r=p
  ·rw[z];exact h.2.1
  ·have:=h.2.2 r r1 (by omega);have:=h.2.1;omega⟩
 have nx:∀q,ZaH f n p q->Over f q p:=λq h=>.inr ⟨h.1,λr r1 r2=>by
  by_cases z:r=p
  ·rw[z];exact h.2.2.1
  ·have:=h.2.2.2 r (by omega) r2;have:=h.2.2.1;omega⟩
 rcases h with⟨_,_,h⟩|⟨q,h1,_,h⟩|⟨r,_,h1,h⟩|⟨q,r,h1,h2,h⟩
 ·exact .inl h
 ·exact .inr ⟨q,h,by have:=h1.1;omega,pv q h1⟩
 ·exact .inr ⟨r,h,h1.2.1,nx r h1⟩
 ·by_cases z:f q<=f r
  ·rw[Yd z]at h;exact .inr ⟨r,h,h2.2.1,nx r h2⟩
  ·rw[Yb z]at h;exact .inr ⟨q,h,by have:=h1.1;omega,pv q h1⟩
theorem ZiJ {f:Nat->Int}{n p o:Nat}{e:Int} (hp:p<n) (ho:o<n) (h:ZaT f n p e) (hO:Over f o p):∃q:Nat,e=q/\q<n/\(o=q\/Over f o q):=by
 rcases hO with⟨o1,o2⟩|⟨o1,o2⟩
 ·have op:=o2 p o1 (Ye _)
  have pv:∀q,Zav f p q->o=q\/(o<q/\Over f o q/\f o<=f q):=λq h=>by
   rcases Nat.lt_trichotomy o q with z|z|z
   ·have:=h.1;exact .inr ⟨z,.inl ⟨z,λr r1 r2=>o2 r r1 (by omega)⟩,o2 q z (by omega)⟩
   ·exact .inl z
   ·have:=h.2.2 o z o1;omega
  rcases h with⟨h1,_,h⟩|⟨q,h1,_,h⟩|⟨r,h1,_,h⟩|⟨q,r,h1,h2,h⟩
  ·have:=h1 o o1;omega
  ·refine⟨q,h,by have:=h1.1;omega,?_⟩
   rcases pv q h1 with z|z
   ·exact .inl z
   ·exact .inr z.2.1
  ·have:=h1 o o1;omega
  ·by_cases z:f q<=f r
   ·rw[Yd z]at h
    refine⟨r,h,h2.2.1,.inr (.inl ⟨by have:=h2.1;omega,λs s1 s2=>?_⟩)⟩
    by_cases sp:s<=p
    ·exact o2 s s1 sp
    ·by_cases sr:s=r
     ·rw[sr]
      rcases pv q h1 with y|y
      ·rw[y];exact z
      ·have:=y.2.2;omega
     ·have:=h2.2.2.2 s (by omega) (by omega);omega
   ·rw[Yb z]at h
    refine⟨q,h,by have:=h1.1;omega,?_⟩
    rcases pv q h1 with z|z
    ·exact .inl z
    ·exact .inr z.2.1
 ·have op:=o2 p (Ye _) o1
  have nx:∀r,ZaH f n p r->o=r\/(r<o/\Over f o r/\f o<f r):=λr h=>by
   rcases Nat.lt_trichotomy o r with z|z|z
   ·have:=h.2.2.2 o o1 z;omega
   ·exact .inl z
   ·have:=h.1;exact .inr ⟨z,.inr ⟨z,λs s1 s2=>o2 s (by omega) s2⟩,o2 r (by omega) z⟩
  rcases h with⟨_,h1,h⟩|⟨q,_,h1,h⟩|⟨r,_,h1,h⟩|⟨q,r,h1,h2,h⟩
  ·have:=h1 o o1 ho;omega
  ·have:=h1 o o1 ho;omega
  ·refine⟨r,h,h1.2.1,?_⟩
   rcases nx r h1 with z|z
   ·exact .inl z
   ·exact .inr z.2.1
  ·by_cases z:f q<=f r
   ·rw[Yd z]at h
    refine⟨r,h,h2.2.1,?_⟩
    rcases nx r h2 with z|z
    ·exact .inl z
    ·exact .inr z.2.1
   ·rw[Yb z]at h
    refine⟨q,h,by have:=h1.1;omega,.inr (.inr ⟨by have:=h1.1;omega,λs s1 s2=>?_⟩)⟩
    by_cases sp:p<=s
    ·exact o2 s sp s2
    ·by_cases sq:s=q
     ·rw[sq]
      rcases nx r h2 with y|y
      ·rw[y];omega
      ·have:=y.2.2;omega
     ·have:=h1.2.2 s (by omega) (by omega);omega
theorem Zkb {f:Nat->Int}{n p o q:Nat} (hp:p<n) (ho:o<n) (h:ZaT f n p (q:Int)):Over f o p↔o=q\/Over f o q:=by
 refine⟨λk=>?_,λk=>?_⟩
 ·obtain⟨q',e,_,z⟩:=ZiJ hp ho h k
  have:q'=q:=by omega
  rw[this]at z;exact z
 ·rcases Zfj hp h with z|⟨q',e,_,z⟩
  ·omega
  ·have:q'=q:=by omega
   rw[this]at z
   rcases k with k|k
   ·rw[k];exact z
   ·exact k.trans z
theorem ZiK {f:Nat->Int}{n p o:Nat} (hp:p<n) (ho:o<n) (h:ZaT f n p (-1)):¬ Over f o p:=λk=>by
 obtain⟨q',e,_,z⟩:=ZiJ hp ho h k
 omega
theorem ZhG {P Q:Nat->Bool}:∀n,(∀o,o<n->P o=Q o)->(List.range n).countP P=(List.range n).countP Q
 |0,_=>rfl
 |n+1,h=>by
  rw[YJ,List.countP_append,List.countP_append,ZhG n (λo ho=>h o (by omega))]
  simp[List.countP_cons,h n (by omega)]
theorem Zfk {P Q:Nat->Bool}{e:Nat}:∀n,e<n->(∀o,o<n->(P o=true↔o=e\/Q o=true))->Q e=false->(List.range n).countP P=(List.range n).countP Q+1
 |0,h,_,_=>by omega
 |n+1,h,hi,hq=>by
  rw[YJ,List.countP_append,List.countP_append]
  by_cases z:e=n
  ·have e1:(List.range n).countP P=(List.range n).countP Q:=ZhG n λo ho=>by
    have:=hi o (by omega)
    cases hP:P o<;>cases hQ:Q o<;>simp[hP,hQ]at this<;>first|rfl|omega
   have hPn:P n=true:=(hi n (by omega)).mpr (.inl z.symm)
   rw[z]at hq
   rw[e1];simp[List.countP_cons,hPn,hq]
  ·rw[Zfk n (by omega) (λo ho=>hi o (by omega)) hq]
   have:=hi n (by omega)
   have hn:P n=Q n:=by
    cases hP:P n<;>cases hQ:Q n<;>simp[hP,hQ]at this<;>first|rfl|omega
   simp[List.countP_cons,hn];omega
theorem ZoB {P:Nat->Bool}{e n:Nat} (he:e<n) (h:P e=false):(List.range n).countP P<n:=by
 have h1:=Zfk (P:=λo=>decide (o=e)||P o) (Q:=P) n he (λo _=>by simp) h
 have h2:=List.countP_le_length (p:=λo=>decide (o=e)||P o) (l:=List.range n)
 rw[h1,Y0]at h2
 omega
noncomputable def Zbl (T:List Int):Nat->Int->List Nat
 |0,_=>[]
 |k+1,at_=>if 0<=at_/\at_<T.length then at_.toNat::Zbl T k (nth T at_.toNat)else []
open Classical in
noncomputable def dep (f:Nat->Int) (n p:Nat):Nat:=(List.range n).countP λo=>decide (Over f o p)
theorem dep_lt {f:Nat->Int}{n p:Nat} (hp:p<n):dep f n p<n:=by
 classical
 exact ZoB hp (by simpa using Over.irrefl)
theorem ZmA {f:Nat->Int}{n p q:Nat} (hp:p<n) (h:ZaT f n p (q:Int)):dep f n p=dep f n q+1:=by
 classical
 have hq:q<n:=by
  rcases Zfj hp h with z|⟨q',e,z,_⟩<;>omega
 exact Zfk n hq (λo ho=>by simpa using Zkb hp ho h) (by simpa using Over.irrefl)
theorem ZpR {f:Nat->Int}{n p:Nat} (hp:p<n) (h:ZaT f n p (-1)):dep f n p=0:=by
 classical
 unfold dep
 rw[List.countP_eq_zero]
 intro o ho
 simpa using ZiK hp (by simpa using ho) h
theorem Zkc {ns T:List Int} (hT:Zfi ns T):∀k p,p<ns.length->dep (nth ns) ns.length p<=k->(∀o,o∈Zbl T k (nth T p)↔o<ns.length/\Over (nth ns) o p)/\(Zbl T k (nth T p)).length=dep (nth ns) ns.length p
 |k,p,hp,hk=>by
  have hE:ZaT (nth ns) ns.length p (nth T p):=hT.2 p hp
  rcases Zfj hp hE with z|⟨q,e,hq,hO⟩
  ·have e0:Zbl T k (nth T p)=[]:=by
    cases k with
    |zero=>rfl
    |succ k=>rw[Zbl,Yb (by omega)]
   rw[e0]
   rw[z]at hE
   exact⟨λo=>⟨λh=>by simp at h,λh=>absurd h.2 (ZiK hp h.1 hE)⟩,by rw[ZpR hp hE];rfl⟩
  ·rw[e]at hE
   have hd:=ZmA hp hE
   obtain⟨k',rfl⟩:∃k',k=k'+1:=⟨k-1,by omega⟩
   have ih:=Zkc hT k' q hq (by omega)
   have eT:((q:Nat):Int).toNat=q:=by omega
   rw[Zbl,e,Yd ⟨by omega,by rw[hT.1];omega⟩,eT]
   refine⟨λo=>?_,by simp[ih.2,hd]⟩
   rw[Yk,ih.1 o]
   refine⟨λh=>?_,λh=>?_⟩
   ·rcases h with h|h
    ·rw[h];exact⟨hq,hO⟩
    ·exact⟨h.1,h.2.trans hO⟩
   ·rcases(Zkb hp h.1 hE).mp h.2 with z|z
    ·exact .inl z
    ·exact .inr ⟨h.1,z⟩
end L2
namespace L2
open PySem PySem.Spec PyProof.Rows PySem.W
noncomputable def Zg8 (es:List Int) (A B:List Nat) (i:Nat):List Int:=match A.getLast? with
 |some q=>(match B.head? with|some b=>es.set b i|none=>es).set i (q:Int)
 |none=>match B.head? with|some b=>es.set b i|none=>es
noncomputable def Zr (l:List Nat):List V:=l.map λq=>V.int (q:Nat)
theorem ZfP (l:List Int) (a p:Nat) (v:Int) (h:p<l.length):(l.set a v).getD p 0=if a=p then v else l.getD p 0:=by
 rw[Yw,Yw]
 by_cases e:a=p
 ·subst e;rw[Yd rfl,List.getElem?_set_self h];rfl
 ·rw[Yb e,List.getElem?_set_ne e]
theorem ZoC (es:List Int) (A B:List Nat) (i:Nat):(Zg8 es A B i).length=es.length:=by
 unfold Zg8
 cases A.getLast?<;>cases B.head?<;>simp
theorem Zl1 (es:List Int) (A B:List Nat) (i p:Nat) (hp:p<es.length) (hb:∀b,B.head?=some b->b≠i):(Zg8 es A B i).getD p 0=if p=i then (match A.getLast? with|some q=>(q:Int)|none=>es.getD i 0)else if B.head?=some p then (i:Int)else es.getD p 0:=by
 unfold Zg8
 cases hA:A.getLast? with
 |none =>
  cases hB:B.head? with
  |none =>
   by_cases e:p=i
   ·rw[Yd e,e]
   ·rw[Yb e,Yb (by simp)]
  |some b =>
   show(es.set b i).getD p 0=_
   rw[ZfP _ _ _ _ hp]
   by_cases e:p=i
   ·rw[Yd e,Yb (by rw[e];exact hb b hB),e]
   ·rw[Yb e]
    by_cases e2:b=p
    ·rw[Yd e2,Yd (by rw[e2])]
    ·rw[Yb e2,Yb (by intro z;exact e2 (Yq z))]
 |some q =>
  cases hB:B.head? with
  |none =>
   show(es.set i q).getD p 0=_
   rw[ZfP _ _ _ _ hp]
   by_cases e:p=i
   ·rw[Yd e,Yd e.symm]
   ·rw[Yb e,Yb (λz=>e z.symm),Yb (by simp)]
  |some b =>
   show((es.set b i).set i q).getD p 0=_
   rw[ZfP _ _ _ _ (by simpa using hp),ZfP _ _ _ _ hp]
   by_cases e:p=i
   ·rw[Yd e,Yd e.symm]
   ·rw[Yb e,Yb (λz=>e z.symm)]
    by_cases e2:b=p
    ·rw[Yd e2,Yd (by rw[e2])]
    ·rw[Yb e2,Yb (by intro z;exact e2 (Yq z))]
theorem ZoD:∀(l:List Nat) (i lo:Nat),l.Pairwise (· < ·)->(∀q∈l,lo<=q/\q<i)->l.length+lo<=i\/l=[]
 |[],_,_,_,_=>.inr rfl
 |q::r,i,lo,h,hq=>by
  have h1:=hq q (by simp)
  have hr:=Y4.mp h
  rcases ZoD r i (q+1) hr.2 (λx hx=>⟨hr.1 x hx,(hq x (by simp[hx])).2⟩)with z|z
  ·left;simp;omega
  ·left;rw[z];simp;omega
theorem ZS (l:List Nat):(Zr l).length=l.length:=by simp[Zr]
theorem ZbT (a b:List Nat):Zr (a++b)=Zr a++Zr b:=by simp[Zr]
theorem ZfQ {l:List Nat}{j q:Nat} (h:l[j]?=some q):atI (Zr l) (j:Int)=some (V.int (q:Nat)):=by
 have hj:=(Yu.mp h).1
 have e:=(Yu.mp h).2
 rw[Zgj rfl (by rw[ZS];exact hj)]
 simp[Zr,e]
theorem Zl2 {n j:Nat} (h:j<n):ixN n (j:Int)=some j:=by
 unfold ixN
 rw[Yd (by omega),Yd (by omega)];simp
section
variable {X:Cx}
noncomputable def tRngV2 (ta:TA):TE:=fun σ H Q=>ta σ H λvs H1=>∃i j:Int,vs=[.int i,.int j]/\-(2 ^ 62)<=i/\i<2 ^ 62/\-(2 ^ 62)<=j/\j<2 ^ 62/\∀p,H1 p=none->Q (.ref p) (upd H1 p (.rng i j))
theorem ZmB {a b:Expr}{ta:TA}{p pos:Pos} (hg:Gl X "range") (hm:X.mg "range"=none) (ha:PA X [a,b] ta) (hs:starEach [a,b] X.env=[(false,eval a X.env),(false,eval b X.env)]:=by rfl) (hs2:starEach [b] X.env=[(false,eval b X.env)]:=by rfl):PE X (.Call (.Name "range" p) [a,b] [] pos) (tRngV2 ta):=by
 intro pins s σ H Q I h
 refine wpAny_Call_Name_kw (ZdB I hg hm boot_range (PyProof.Rows.callWith_type1 (thn (ha pos pins s σ H _ I h) λus s1 ⟨vs,H1,I1,r1,q1⟩=>?_) (by rw[hs,hs2]) (by rw[hs2];rfl)))
 obtain⟨i,j,e,q1,q2,q3,q4,q⟩:=q1
 subst e
 cases r1 with
 |cons r rr =>
  cases rr with
  |cons r' rr =>
   cases rr
   obtain⟨t,rfl⟩:=r
   obtain⟨t',rfl⟩:=r'
   refine call_range_2 ⟨.ref s1.heap.objs.size,_,I1.laid (λb o e=>Yi _ e) (Ye _) ?_,rfl,q _ (I1.hok.fresh (Ye _))⟩
   exact⟨_,_,_,Yl _ rfl⟩
noncomputable def rLstR2:List V->Hp->VK->Prop:=λxs H Q=>∃p i j,xs=[.ref p]/\H p=some (.rng i j)/\-(2 ^ 62)<=i/\i<2 ^ 62/\-(2 ^ 62)<=j/\j<2 ^ 62/\j-i<=1000/\∀l,H l=none->Q (.ref l) (upd H l (.lst ((List.range (j-i).toNat).map λ(k:Nat)=>V.int (i+(k:Int)))))
theorem ZhH (hc:X.calm=true):ZcY X (.type "list") rLstR2:=by
 intro pins s σ H xs us Q I r h
 obtain⟨p,i,j,rfl,hp,h0,h1,h2,h3,h4,q⟩:=h
 obtain⟨u,rfl,ru⟩:=r.one
 cases(show u=Value.ref p from ru)
 obtain⟨t,u,v,hob⟩:=(show ∃t u v,s.heap.get? p=some {cls:=.type "range",data:=.fields #[.int i t,.int j u,.int 1 v]}from I.hok p _ hp)
 refine call_list_range (n:=(j-i).toNat) (I.ok.hd hc) hob (small_one (by omega) (by omega) (by omega) (by omega)) (by rw[rangeSize_one];split<;>omega) (by omega) λh' tk acc' c' kp hn hacc=>?_
 have hv:Vals ((List.range (j-i).toNat).map λ(k:Nat)=>V.int (i+(k:Int))) acc'.toList:=by
  exact ZpQ (g:=λ(k:Nat)=>V.int (i+(k:Int))) (P:=λ(k:Nat) v=>∃t,v=.int (i+(k:Int)*1) t) (λk v h=>by obtain⟨t,e⟩:=h;exact⟨t,by rw[e];simp⟩) _ _ (by rw[YN];exact hacc.1) λk v hk=>hacc.2 k v (by simpa using hk)
 refine⟨.ref s.heap.objs.size,_,I.laid kp (Ye _) ?_,rfl,q _ (I.hok.fresh (Ye _))⟩
 exact⟨by rw[Yf,Y0];exact Yj (show(j-i).toNat<=1000 by omega) (by decide),_,c',hv,hn⟩
end
noncomputable def wayI (T:List Int) (p:Nat):List Int:=(Zbl T T.length (nth T p)).map λq=>((q:Nat):Int)
theorem Zkd (T:List Int):∀k a,(Zbl T k a).length<=k
 |0,_=>by simp[Zbl]
 |k+1,a=>by
  rw[Zbl]
  split
  ·have:=Zkd T k (nth T a.toNat);simp;omega
  ·simp
noncomputable def Za1 (T:List Int):Nat->Int->Int
 |0,a=>a
 |j+1,a=>if 0<=a/\a<T.length then Za1 T j (nth T a.toNat)else a
theorem ZiL (T:List Int):∀j a,0<=Za1 T j a->Za1 T j a<T.length->(Zbl T j a).length=j->Zbl T (j+1) a=Zbl T j a++[(Za1 T j a).toNat]/\Za1 T (j+1) a=nth T (Za1 T j a).toNat
 |0,a,h0,h1,_=>by
  have h0':0<=a:=h0
  have h1':a<T.length:=h1
  constructor
  ·simp[Zbl,Za1,h0',h1']
  ·simp[Za1,h0',h1']
 |j+1,a,h0,h1,hl=>by
  rw[Zbl]at hl
  by_cases z:0<=a/\a<T.length
  ·rw[Yd z]at hl
   have e1:Za1 T (j+1) a=Za1 T j (nth T a.toNat):=by rw[Za1,Yd z]
   rw[e1]at h0 h1
   have ih:=ZiL T j (nth T a.toNat) h0 h1 (by simpa using hl)
   constructor
   ·rw[Zbl,Yd z,ih.1,Zbl.eq_def T (j+1) a]
    simp only[Yd z,e1];simp
   ·rw[Za1,Yd z,ih.2,e1]
  ·rw[Yb z]at hl;simp at hl
theorem ZiM (T:List Int):∀j k a,j<=k->(Zbl T j a).length=j->¬ (0<=Za1 T j a/\Za1 T j a<T.length)->Zbl T k a=Zbl T j a
 |0,k,a,_,_,h=>by
  have h':¬ (0<=a/\a<T.length):=h
  cases k with
  |zero=>rfl
  |succ k=>rw[show Zbl T 0 a=[]from rfl,Zbl,Yb h']
 |j+1,k,a,hk,hl,h=>by
  rw[Zbl]at hl
  by_cases z:0<=a/\a<T.length
  ·rw[Yd z]at hl
   rw[Za1,Yd z]at h
   obtain⟨k',rfl⟩:∃k',k=k'+1:=⟨k-1,by omega⟩
   rw[Zbl,Yd z,ZiM T j k' _ (by omega) (by simpa using hl) h,Zbl,Yd z]
  ·rw[Yb z]at hl;simp at hl
section
variable {X:Cx}
theorem ZmC {K:Frag} (hK:X.K=K):OpR X (compareOp .NotIn) (rIn K true):=hK▸Zjb
end
theorem Zaw {a b:TS}{D:Ends}{σ:St}{H:Hp} (Mid:St->Hp->Prop) (h1:∀R:St->Hp->Prop,(∀σ' H',Mid σ' H'->R σ' H')->a {D with nx:=R} σ H) (h2:∀σ' H',Mid σ' H'->b D σ' H'):tSeq a b D σ H:=h1 _ h2
theorem Zgl (xs:List V) (j:Nat):ZcD xs none (some (j:Int))=xs.take j:=by
 have h:¬ ((j:Int)<0):=by omega
 unfold ZcD HT.sIx
 simp only[Yb h,List.drop_zero,Nat.sub_zero]
 rw[List.take_eq_take_iff]
 omega
theorem ZmD (xs:List V) (j:Nat):ZcD xs (some (j:Int)) none=xs.drop j:=by
 have h:¬ ((j:Int)<0):=by omega
 unfold ZcD HT.sIx
 simp only[Yb h,Y6]
 by_cases z:j<=xs.length
 ·rw[Nat.min_eq_left z]
  exact List.take_of_length_le (by rw[YY];omega)
 ·rw[Nat.min_eq_right (by omega),Nat.sub_self,List.take_zero,List.drop_eq_nil_of_le (show xs.length<=j by omega)]
end L2
namespace L2
open PySem PySem.Spec PyProof.Rows
structure CellsOf (cl:List (Str×Addr)) (n0:Nat) (cs:List (Str×Addr)) (h0 h:Heap) (done:List (Str×NameKind)):Prop where
 old:∀b o,h0.get? b=some o->h.get? b=some o
 sz:n0<=h.objs.size
 mem:∀p∈cs,p∈cl\/(n0<=p.2/\p.2<h.objs.size/\h.IsCell p.2 none)
 inj:∀p∈cs,∀q∈cs,n0<=p.2->p.2=q.2->p.1=q.1
 own:∀y∈done,y.2=.cell->∃c,cs.lookup y.1=some c/\n0<=c
 oth:∀x,(∀y∈done,y.2=.cell->y.1≠x)->cs.lookup x=cl.lookup x
theorem Zgm {M:Model}{A:Around}{E:Value->Shared->Prop}{cl:List (Str×Addr)}{n0:Nat}{h0:Heap} (hcl:∀p∈cl,p.2<n0):∀(names:List (Str×NameKind)) (cs:List (Str×Addr)) (done:List (Str×NameKind)) (s:Shared),CellsOf cl n0 cs h0 s.heap done ->
  wpAny M A (forIn names cs λ(x:Str×NameKind) (r:List (Str×Addr))=>(match x with
   |(name,kind)=>if (kind==NameKind.cell)=true then do
     let a <-alloc {cls:=.type "cell",data:=.cell none}
     pure (ForInStep.yield ((name,a)::r))
    else pure (ForInStep.yield r):Sem (ForInStep (List (Str×Addr))))) (λcs' s'=>∃h',s'={s with heap:=h'}/\CellsOf cl n0 cs' h0 h' (done++names)) E s
 |[],cs,done,s,I=>by
  rw[List.forIn_nil,List.append_nil]
  exact Yc ⟨s.heap,rfl,I⟩
 |(n,k)::r,cs,done,s,I=>by
  rw[List.forIn_cons]
  by_cases hk:k=.cell
  ·subst hk
   simp only[beq_self_eq_true,if_true]
   refine Ya (Ya (wpAny_alloc (Yc ?_)))
   have hget:(s.heap.push {cls:=.type "cell",data:=.cell none}).get? s.heap.objs.size=some {cls:=.type "cell",data:=.cell none}:=Yl _ rfl
   have I':CellsOf cl n0 ((n,s.heap.objs.size)::cs) h0 (s.heap.push {cls:=.type "cell",data:=.cell none}) (done++[(n,.cell)]):=by
    refine⟨λb o e=>Yi _ (I.old b o e),by rw[Heap.size_push];exact Nat.le_succ_of_le I.sz,λp hp=>?_,λp hp q hq hn e=>?_,λy hy hc=>?_,λx hx=>?_⟩
    ·rcases Yk.mp hp with z|z
     ·subst z
      exact .inr ⟨I.sz,by rw[Heap.size_push];exact Nat.lt_succ_self _,_,hget,rfl⟩
     ·rcases I.mem p z with w|⟨w1,w2,o,w3,w4⟩
      ·exact .inl w
      ·exact .inr ⟨w1,by rw[Heap.size_push];exact YR w2,o,Yi _ w3,w4⟩
    ·have lt:∀p∈cs,p.2<s.heap.objs.size:=λp hp=>by
      rcases I.mem p hp with w|w
      ·exact Yt (hcl p w) I.sz
      ·exact w.2.1
     rcases Yk.mp hp with z|z<;>rcases Yk.mp hq with z'|z'
     ·rw[z,z']
     ·subst z;exact absurd (show s.heap.objs.size<s.heap.objs.size from(show s.heap.objs.size=q.2 from e)▸lt q z') (Yx _)
     ·subst z';exact absurd (show s.heap.objs.size<s.heap.objs.size from(show p.2=s.heap.objs.size from e)▸lt p z) (Yx _)
     ·exact I.inj p z q z' hn e
    ·rcases Yy.mp hy with z|z
     ·obtain⟨c,e1,e2⟩:=I.own y z hc
      by_cases hx:y.1=n
      ·exact⟨s.heap.objs.size,by rw[hx];simp,I.sz⟩
      ·have hb:(y.1==n)=false:=by simpa using hx
       exact⟨c,by simp only[List.lookup_cons,hb];exact e1,e2⟩
     ·have:y=(n,.cell):=by simpa using z
      subst this
      exact⟨s.heap.objs.size,by simp,I.sz⟩
    ·have hxn:n≠x:=hx (n,.cell) (by simp) rfl
     have hb:(x==n)=false:=by simpa using hxn.symm
     simp only[List.lookup_cons,hb]
     exact I.oth x λy hy=>hx y (YM _ hy)
   refine thn (Zgm hcl r _ _ {s with heap:=s.heap.push {cls:=.type "cell",data:=.cell none}} I') λcs' s' ⟨h',e1,e2⟩=>⟨h',e1,?_⟩
   rw[YZ]at e2
   exact e2
  ·have e1:(k==NameKind.cell)=false:=by cases k<;>first|rfl|exact absurd rfl hk
   simp only[e1,Bool.false_eq_true,if_false]
   refine Ya (Yc ?_)
   have I':CellsOf cl n0 cs h0 s.heap (done++[(n,k)]):=by
    refine⟨I.old,I.sz,I.mem,I.inj,λy hy hc=>?_,λx hx=>I.oth x λy hy=>hx y (YM _ hy)⟩
    rcases Yy.mp hy with z|z
    ·exact I.own y z hc
    ·have:y=(n,k):=by simpa using z
     subst this
     exact absurd hc hk
   refine thn (Zgm hcl r _ _ s I') λcs' s' ⟨h',e1,e2⟩=>⟨h',e1,?_⟩
   rw[YZ]at e2
   exact e2
theorem Zlj {M:Model}{A:Around}{E:Value->Shared->Prop}{s:Shared}{scope:Scope}{globals:Addr}{cl:List (Str×Addr)}{qual:Str}{around:Env}{Q:Env->Shared->Prop} (hcl:∀p∈cl,p.2<s.heap.objs.size)
  (h:∀cs h',CellsOf cl (s.heap.objs.size+1) cs (s.heap.push {cls:=.type "dict",data:=.dict #[]}) h' scope.names->Q {scope:=scope,locals:=s.heap.objs.size,globals:=globals,cells:=cs,qual:=qual,func:=none,code:=around.code,frame:=around.frame,builtins:=around.builtins} {s with heap:=h'}) :
  wpAny M A (newFunctionEnv scope globals cl [] qual none .none (some around)) Q E s:=by
 unfold newFunctionEnv
 refine Ya (wpAny_alloc ?_)
 refine Ya (thn (Zgm (cl:=cl) (n0:=s.heap.objs.size+1) (h0:=s.heap.push {cls:=.type "dict",data:=.dict #[]}) (λp hp=>YR (hcl p hp)) scope.names cl [] {s with heap:=s.heap.push {cls:=.type "dict",data:=.dict #[]}} ⟨λb o e=>e,by rw[Heap.size_push];exact Ye _,λp hp=>.inl hp,λp hp q hq hn e=>absurd (hcl p hp) (Nat.not_lt_of_le (Nat.le_of_succ_le hn)),λy hy=>(nomatch hy),λx hx=>rfl⟩) λcs s' ⟨h',e1,e2⟩=>?_)
 subst e1
 rw[List.nil_append]at e2
 exact Ya (Yc (Yc (h cs h' e2)))
noncomputable def Zb7 (around scope:Scope):Bool :=
 scope.kind==.function&&around.kind==.function&&scope.names.all λy=>match y.2 with
  |.local=>scope.names.lookup y.1==some .local
  |.cell=>scope.names.lookup y.1==some .cell
  |.free=>(scope.names.lookup y.1==some .free)&&(around.names.lookup y.1==some .cell||around.names.lookup y.1==some .free)
  |_=>true
theorem ZfR {a s:Scope} (h:Zb7 a s=true):s.kind=.function:=by
 simp only[Zb7,Bool.and_eq_true,beq_iff_eq]at h;exact h.1.1
theorem Zfl {a s:Scope} (h:Zb7 a s=true) {y:Str×NameKind} (hy:y∈s.names):(match y.2 with
  |.local=>s.names.lookup y.1==some .local
  |.cell=>s.names.lookup y.1==some .cell
  |.free=>(s.names.lookup y.1==some .free)&&(a.names.lookup y.1==some .cell||a.names.lookup y.1==some .free)
  |_=>true)=true:=by
 simp only[Zb7,Bool.and_eq_true]at h
 exact List.all_eq_true.mp h.2 y hy
theorem Zii {a s:Scope} (h:Zb7 a s=true):∀y∈s.names,y.2=.local->s.names.lookup y.1=some .local:=λy hy e=>by
 have q:=Zfl h hy
 rw[e]at q
 exact beq_iff_eq.mp q
theorem Zjp {a s:Scope} (h:Zb7 a s=true):∀y∈s.names,y.2=.cell->s.names.lookup y.1=some .cell:=λy hy e=>by
 have q:=Zfl h hy
 rw[e]at q
 exact beq_iff_eq.mp q
theorem ZdH {a s:Scope} (h:Zb7 a s=true):∀y∈s.names,y.2=.free->s.names.lookup y.1=some .free/\(a.names.lookup y.1=some .cell\/a.names.lookup y.1=some .free):=λy hy e=>by
 have q:=Zfl h hy
 rw[e]at q
 simp only[Bool.and_eq_true,Bool.or_eq_true,beq_iff_eq]at q
 exact q
noncomputable def Zb8 (X:Cx) (Nc:List Str) (scope:Scope) (cs:List (Str×Addr)) (C:Addr) (s2:Shared) (H2:Hp) (fp:List Addr):Cx :=
 {Zot X Nc scope cs C s2 H2 fp with fn:=λx=>scope.names.lookup x==some .cell}
theorem Zke {env:Env}{scope:Scope} (h:∀y∈scope.names,y.2=.free->∃c,env.cells.lookup y.1=some c) :
  ∃cl,closureFor scope env=pure cl/\(∀p∈cl,env.cells.lookup p.1=some p.2)/\(∀y∈scope.names,y.2=.free->∃c,cl.lookup y.1=some c/\env.cells.lookup y.1=some c):=by
 obtain⟨cl,e,h1,h2,h3⟩:=ZdF (env:=env) scope.names [] h
 have up:∀p∈cl,env.cells.lookup p.1=some p.2:=λp q=>by
  rcases h1 _ q with z|z
  ·cases z
  ·exact z
 refine⟨cl,?_,up,λy hy hf=>?_⟩
 ·unfold closureFor
  simp only[bind_pure_comp]at e⊢
  rw[e]
  exact pure_bind _ _
 ·obtain⟨c,hc⟩:=h3 y hy hf
  cases q:cl.lookup y.1 with
  |none=>exact absurd (List.lookup_eq_none_iff.mp q _ hc) (by simp)
  |some c'=>exact⟨c',rfl,up _ (PySem.mem_of_lookup q)⟩
section
variable {X:Cx}
theorem Zkf {pins:List (Addr×Obj)}{σ:St}{H2:Hp}{s2:Shared}{Nc:List Str}{js:List (Option Nat)}{scope:Scope}{cs:List (Str×Addr)}{fp:List Addr}{h1:Heap}{tk:Nat}{D C:Addr}{oD:Obj}{m:Str->Option Value}
  (I:Inv X pins σ H2 s2) (hok:Zb7 X.env.scope scope=true) (htk:ZbS X.N Nc scope js 0=true) (up:∀x c,cs.lookup x=some c->X.env.cells.lookup x=some c\/(C<c/\h1.IsCell c none)) (hinj:∀x y c,cs.lookup x=some c->cs.lookup y=some c->x=y) (hown:∀y∈scope.names,y.2=.cell->∃c,cs.lookup y.1=some c/\C<c) (hfr:∀y∈scope.names,y.2=.free->∃c,cs.lookup y.1=some c/\X.env.cells.lookup y.1=some c)
  (hfp:∀b∈fp,FpOk X pins H2 b) (hfl:∀b∈fp,b<s2.heap.objs.size) (hD:D=s2.heap.objs.size) (hC:C=s2.heap.objs.size+1) (old:∀b o,s2.heap.get? b=some o->h1.get? b=some o) (hns:h1.Ns C m) (hoD:h1.get? D=some oD) (hdD:∀v,oD.data≠.cell v) :
  Inv (Zb8 X Nc scope cs C s2 H2 fp) [(D,oD)] (iniC js σ) H2 {s2 with heap:=h1,toks:=tk}:=by
 have leC:s2.heap.objs.size<=C:=by rw[hC];exact Nat.le_succ _
 have leD:s2.heap.objs.size<=D:=Nat.le_of_eq hD.symm
 have kf:∀x,((compEnvC scope cs C X.env).kindOf x=some .cell\/(compEnvC scope cs C X.env).kindOf x=some .free)->∃c,cs.lookup x=some c:=λx hx=>by
  have:∃k,(compEnvC scope cs C X.env).kindOf x=some k/\(k=.cell\/k=.free):=hx.elim (λq=>⟨_,q,.inl rfl⟩) λq=>⟨_,q,.inr rfl⟩
  obtain⟨k,e,hk⟩:=this
  obtain⟨k',h1,h2⟩:=Zbk (show(scope.names.map _).lookup x=some k from e)
  have hm:=lookup_mem h1
  have:k'=.free\/k'=.cell:=by
   rcases h2 with q|q
   ·subst q
    exact hk.symm
   ·exact .inl q.1
  rcases this with z|z
  ·subst z
   obtain⟨c,q,_⟩:=hfr _ hm rfl
   exact⟨c,q⟩
  ·subst z
   obtain⟨c,q,_⟩:=hown _ hm rfl
   exact⟨c,q⟩
 have nC:∀c x,X.env.cells.lookup x=some c->c<s2.heap.objs.size:=λc x e=>by
  obtain⟨v,q⟩:=I.cell x c e
  exact q.lt
 have noB:∀b,b∈fp->b∉frs X.stack:=λb hb q=>by
  rcases Yk.mp (I.Zfd b q)with z|z
  ·exact(hfp b hb).2.1 z
  ·exact(hfp b hb).2.2.1 z
 have okX:(Zb8 X Nc scope cs C s2 H2 fp).Ok:=by
  refine⟨I.ok.mod,(show scope.kind=.function from ZfR hok),I.ok.glob,I.ok.blt,?_,λx y c e1 e2=>hinj x y c e1 e2,λx hx=>?_,(λx c e1 e2=>?_),I.ok.hd,I.ok.frames,.inl rfl,λb hb=>⟨?_,λx c e=>(up _ _ e).elim (λz=>(hfp b hb).2.2.2.2.1 x c z) λz=>Nat.ne_of_gt (Nat.lt_trans (Yt (hfl b hb) leC) z.1)⟩,I.bs,Yj I.ok.bsz I.sz,λb o e hb=>?_,λb hb=>noB b hb,I.stack,I.Zi3⟩
  ·show s2.heap.objs.size<=C;exact leC
  ·exact kf x hx
  ·have hm:=lookup_mem (beq_iff_eq.mp (show(scope.names.lookup x==some NameKind.cell)=true from e1))
   obtain⟨c',q1,q2⟩:=hown _ hm rfl
   have:c=c':=Yq ((show cs.lookup x=some c from e2).symm.trans q1)
   rw[this]
   exact Yj leC (YV q2)
  ·exact Yo (Yt (hfl b hb) leC)
  ·rcases(hfp b hb).2.2.2.1 with q|q
   ·exact I.ok.noex b o e q
   ·exact absurd (Yt (Yh e) (Yj I.ok.bsz q)) (Yx _)
 refine⟨okX,rfl,I.bare,Un.kept old,⟨m,hns,λi x v e1 e2 e3=>?_⟩,λx c e=>?_,I.hok.fresh leC,λx c e=>(up _ _ e).elim (λz=>I.freeC x c z) λz=>I.hok.fresh (Yj leC (YV z.1)),λp hp=>?_,I.hok.kept old,?_⟩
 ·have e2':(iniC js σ)[i]?=some (some v):=e2
  unfold iniC at e2'
  rw[Yp]at e2'
  cases q:js[i]? with
  |none=>rw[q]at e2';cases e2'
  |some j0 =>
   cases j0 with
   |none=>rw[q]at e2';cases e2'
   |some j =>
    rw[q]at e2'
    simp only[Option.map_some,Option.some.injEq]at e2'
    have e4:σ[j]?=some (some v):=by
     cases z:σ[j]? with
     |none=>rw[z]at e2';cases e2'
     |some o=>rw[z]at e2';simp only[Option.join_some]at e2';rw[e2']
    obtain⟨y,y1,y2,y3⟩:=Zgh htk q
    rw[Nat.zero_add]at y1
    have:x=y:=Yq ((show Nc[i]?=some x from e1).symm.trans y1)
    subst this
    have hm:=lookup_mem y3
    obtain⟨c,c1,c2⟩:=hfr _ hm rfl
    have hk:=(ZdH hok _ hm rfl).2
    obtain⟨m0,hn0,hl0⟩:=I.loc
    obtain⟨u,r,l⟩:=hl0 j x v y2 e4 (hk.elim (λz=>.inr (.inl z)) λz=>.inr (.inr z))
    refine⟨u,r,.inr ⟨?_,c,c1,?_⟩⟩
    ·rcases e3 with z|z|z
     ·obtain⟨k',w1,w2⟩:=Zbk (show(scope.names.map _).lookup x=some NameKind.local from z)
      rw[y3]at w1;cases w1
      rcases w2 with w|w
      ·cases w
      ·cases w.2
     ·exact .inl z
     ·exact .inr z
    ·rcases l with⟨lk,_⟩|⟨_,c',c3,c4⟩
     ·rcases hk with z|z
      ·rw[show X.env.kindOf x=some .cell from z]at lk;cases lk
      ·rw[show X.env.kindOf x=some .free from z]at lk;cases lk
     ·rw[c2]at c3;cases c3
      obtain⟨oc,w1,w2⟩:=c4
      exact⟨oc,old _ _ w1,w2⟩
 ·rcases up _ _ e with z|z
  ·obtain⟨v,oc,w1,w2⟩:=I.cell x c z
   exact⟨v,oc,old _ _ w1,w2⟩
  ·exact⟨_,z.2⟩
 ·have:p=(D,oD):=by
   have hp':p∈([]++[(D,oD)]:List (Addr×Obj)):=hp
   simpa using hp'
  subst this
  refine⟨hoD,I.hok.fresh leD,(by show D≠C;rw[hD,hC];exact Yo (Nat.lt_succ_self _)),λhb=>?_,hdD⟩
  have hb':D∈frs X.stack:=hb
  obtain⟨_,o,ho,_⟩:=I.stack.mem hb'
  exact absurd (Yt (Yh ho) leD) (Yx _)
 ·have:=Zfh htk
  show(iniC js σ).length=Nc.length
  unfold iniC;rw[Yf];omega
theorem ZmE {pins:List (Addr×Obj)}{σ:St}{H:Hp}{s:Shared}{tg elt iter:Expr}{ifs:List Expr}{scope:Scope}{pos:Pos}{wi:TI}{g:TG}{tt:TT}{te:TE}{Nc:List Str}{js:List (Option Nat)}{use:Option (Value->Sem Unit)}{Q:VK}{QQ:Value->Shared->Prop}
  (hc:X.calm=true) (hok:Zb7 X.env.scope scope=true) (htk:ZbS X.N Nc scope js 0=true) (hi:PI X tg iter wi)
  (hg:∀cl C s2 H2 fp,PG (Zb8 X Nc scope cl C s2 H2 fp) tg g) (ht:∀cl C s2 H2 fp,PIfs (Zb8 X Nc scope cl C s2 H2 fp) ifs tt) (he:∀cl C s2 H2 fp,PE (Zb8 X Nc scope cl C s2 H2 fp) elt te)
  (hs:∀x,foldedSetIterable iter X.env x=pure x) {L:List Nat} (ho:Zj3 g L) (hL:(L.all λk=>js[k]?==some none)=true) (I:Inv X pins σ H s) (h:Zou wi g tt te js σ H Q)
  (fin:∀(D C:Addr) (H' H2:Hp) (s2 s':Shared) (xs:List V) (m:Str->Option Value),Inv X pins σ H2 s2->H' C=none->C=D+1->D=s2.heap.objs.size->s'.heap.Ns C m->(∀h',Heap.SameBut C s'.heap h'->Inv X pins σ (upd H' D (.lst xs)) {s' with heap:=h'})->Q (.ref D) (upd H' D (.lst xs)) ->
   compPost (model X.prog X.w) X.A X.xe use QQ (.ref D) C (.ok .next) s') :
  wpAny (model X.prog X.w) X.A (comprehension (.ListComp elt [⟨tg,iter,ifs,0⟩] scope pos) scope X.env (firstIterPos [⟨tg,iter,ifs,0⟩] pos) (newList []) false (eval iter X.env) use) QQ X.xe s:=by
 have hcells:∀y∈scope.names,y.2=.free->∃c,X.env.cells.lookup y.1=some c:=λy hy hf=>I.ok.has y.1 (ZdH hok y hy hf).2
 obtain⟨cl,hcl,upM,hfr0⟩:=Zke hcells
 have hk:=ZfR hok
 refine wpAny_comprehension_free (use:=use) rfl hs hcl hk (Zii hok) (thn (hi pins s σ H _ I h) λv s1 h1=>thn h1 λitv s2 h2=>?_)
 obtain⟨it,fp,tn,J,H2,e,I2,T,st2,f2,W,⟨m0,w0⟩,turn⟩:=h2
 subst e
 have clt:∀p∈cl,p.2<s2.heap.objs.size:=λp hp=>by
  obtain⟨v,q⟩:=I2.cell p.1 p.2 (upM p hp)
  exact q.lt
 refine wpAny_newObj_type (Zlj (λp hp=>?_) λcs h₁ CO=>?_)
 ·show p.2<(s2.heap.push _).objs.size
  rw[Heap.size_push];exact YR (clt p hp)
 dsimp only at CO⊢
 generalize hH2:s2.heap.push {cls:=.type "list",dict:=none,data:=.seq ([]:List Value).toArray}=HH at CO⊢
 have hC:HH.objs.size=s2.heap.objs.size+1:=by rw[<-hH2,Heap.size_push]
 have hcl':∀p∈cl,p.2<HH.objs.size:=λp hp=>by rw[hC];exact YR (clt p hp)
 have hns₁:h₁.Ns HH.objs.size (λ_=>none):=⟨_,#[],_,CO.old _ _ (Yl _ rfl),rfl,λe he=>absurd he (by simp),λn=>rfl⟩
 have up:∀x c,cs.lookup x=some c->X.env.cells.lookup x=some c\/(HH.objs.size<c/\h₁.IsCell c none):=λx c e=>by
  rcases CO.mem _ (PySem.mem_of_lookup e)with z|z
  ·exact .inl (upM _ z)
  ·exact .inr ⟨z.1,z.2.2⟩
 have hinj:∀x y c,cs.lookup x=some c->cs.lookup y=some c->x=y:=λx y c e1 e2=>by
  have m1:=PySem.mem_of_lookup e1
  have m2:=PySem.mem_of_lookup e2
  rcases CO.mem _ m1 with z|z
  ·rcases CO.mem _ m2 with z'|z'
   ·exact I2.ok.inj x y c (upM _ z) (upM _ z')
   ·exact absurd (hcl' _ z) (Nat.not_lt_of_le (Nat.le_of_succ_le z'.1))
  ·exact CO.inj _ m1 _ m2 z.1 rfl
 have hfr:∀y∈scope.names,y.2=.free->∃c,cs.lookup y.1=some c/\X.env.cells.lookup y.1=some c:=λy hy hf=>by
  obtain⟨c,q1,q2⟩:=hfr0 y hy hf
  refine⟨c,?_,q2⟩
  rw[CO.oth y.1 λy' hy' hc' z=>?_]
  ·exact q1
  ·have w1:=Zjp hok y' hy' hc'
   have w2:=(ZdH hok y hy hf).1
   rw[z,w2]at w1;cases w1
 have hfl:∀b∈fp,b<s2.heap.objs.size:=λb hb=>by
  obtain⟨o,ho,_⟩:=T.obj 0 _ st2 b hb
  exact Yh ho
 have hDC:s2.heap.objs.size≠HH.objs.size:=by rw[hC];exact Yo (Nat.lt_succ_self _)
 have old:∀b o,s2.heap.get? b=some o->h₁.get? b=some o:=λb o e=>CO.old b o (Yi _ (hH2▸Yi _ e))
 have hacc:h₁.get? s2.heap.objs.size=some {cls:=.type "list",dict:=none,data:=.seq ([]:List Value).toArray}:=CO.old _ _ (Yi _ (hH2▸Yl _ rfl))
 have I4:=Zkf (Nc:=Nc) (js:=js) (tk:=s2.toks) I2 hok htk up hinj (λy hy hc=>CO.own y hy hc) hfr f2 hfl rfl hC old hns₁ hacc (by intro v z;cases z)
 have st4:tn 0 h₁:=T.keep _ _ _ st2 λb _ o e=>old b o e
 generalize hXc:Zb8 X Nc scope cs HH.objs.size s2 H2 fp=Xc at I4
 have hXA:Xc.A=X.A:=by rw[<-hXc];rfl
 have hXe:Xc.env=compEnvC scope cs HH.objs.size X.env:=by rw[<-hXc];rfl
 have hXp:Xc.prog=X.prog:=by rw[<-hXc];rfl
 have hXw:Xc.w=X.w:=by rw[<-hXc];rfl
 have hXx:Xc.xe=λ_ _=>False:=by rw[<-hXc];rfl
 have hXk:Xc.K=X.K:=by rw[<-hXc];rfl
 have hXcalm:Xc.calm=true:=by rw[<-hXc];exact hc
 have fpok:∀{pl:List (Addr×Obj)}{H':Hp},(∀p∈pl,s2.heap.objs.size<=p.1)->(∀b∈fp,H' b=none)->∀b∈fp,FpOk Xc pl H' b:=λ{pl H'} hpl hn b hb=>by
  have k1:b≠HH.objs.size:=Yo (by rw[hC];exact YR (hfl b hb))
  have k2:b∉frs X.stack:=λq=>by
   rcases Yk.mp (I2.Zfd b q)with z|z
   ·exact(f2 b hb).2.1 z
   ·exact(f2 b hb).2.2.1 z
  rw[<-hXc]
  refine⟨hn b hb,k1,k2,.inl hb,λx c e=>(up _ _ e).elim (λz=>(f2 b hb).2.2.2.2.1 x c z) λz=>Nat.ne_of_gt (Nat.lt_trans (by rw[hC];exact YR (hfl b hb)) z.1),λp hp=>?_⟩
  have hp':p∈pl:=by simpa[Zb8,Zot]using hp
  exact Nat.ne_of_gt (Yt (hfl b hb) (hpl p hp'))
 have gX:PG Xc tg g:=hXc▸hg cs HH.objs.size s2 H2 fp
 have tX:PIfs Xc ifs tt:=hXc▸ht cs HH.objs.size s2 H2 fp
 have eX:PE Xc elt te:=hXc▸he cs HH.objs.size s2 H2 fp
 have hs0:Xc.s₀=s2:=by rw[<-hXc];rfl
 have hh0:Xc.H₀=H2:=by rw[<-hXc];rfl
 have hfs:Xc.fs=frs X.stack:=by rw[<-hXc];rfl
 have hex:Xc.ex=fp:=by rw[<-hXc];rfl
 have loop:codeAny (model X.prog X.w) X.A (.compLoop (.ListComp elt [⟨tg,iter,ifs,0⟩] scope pos) 0 (.ref it) (.ref s2.heap.objs.size) (compEnvC scope cs HH.objs.size X.env)) (compPost (model X.prog X.w) X.A X.xe use QQ (.ref s2.heap.objs.size) HH.objs.size)
   {s2 with heap:=h₁,toks:=s2.toks}:=by
  refine Zeg (λn s'=>∃i acc its nn H',Inv Xc [(s2.heap.objs.size,{cls:=.type "list",dict:=none,data:=.seq (its:List Value).toArray nn})] (iniC js σ) H' s'/\Vals acc its/\acc.length<=sizeLine/\tn i s'.heap/\(∀b∈fp,H' b=none)/\W i n acc H') ?_ m0
   ⟨0,[],[],0,H2,I4,.nil,Yr _,st4,λb hb=>(f2 b hb).1,w0⟩
  rintro n s3 ⟨i,acc,its,nn,H3,I3,va,hlen,st3,fr3,w3⟩
  have pg:∀p∈([(s2.heap.objs.size,{cls:=.type "list",dict:=none,data:=.seq its.toArray nn})]:List (Addr×Obj)),s2.heap.objs.size<=p.1:=λp hp=>by
   simp only[Yk,List.not_mem_nil,or_false]at hp
   subst hp;exact Ye _
  rcases turn i n acc H3 w3 with⟨stop,hl,qn⟩|⟨go,hl,step⟩
  ·have q:=T.done Xc hXp hXw hXk hXcalm i _ s3 (iniC js σ) H3 (λ_ _=>False) I3 (fpok pg fr3) st3 stop
   rw[hXA]at q
   refine thn q λr s4 ⟨hr,I5⟩=>?_
   subst hr
   have hpin:=I5.pin _ (YC _ (.head _))
   obtain⟨m5,hn5,_⟩:=I5.loc
   rw[hXe]at hn5
   refine fin _ _ H3 H2 s2 s4 acc m5 I2 (by have:=I5.free;rw[hXe]at this;exact this) hC rfl hn5 (λh' hsb=>?_) (qn _ hpin.2.1)
   have same:∀b o,b≠HH.objs.size->s4.heap.get? b=some o->h'.get? b=some o:=λb o hb e=>hsb.extBut b o hb e
   have un:=I5.base
   rw[hfs,hex,hh0,hs0]at un
   have lt:∀b o,s2.heap.get? b=some o->b<s2.heap.objs.size:=λb o e=>Yh e
   have neC:∀b o,s2.heap.get? b=some o->b≠HH.objs.size:=λb o e=>Yo (by rw[hC];exact YR (lt b o e))
   have neD:∀b o,s2.heap.get? b=some o->b≠s2.heap.objs.size:=λb o e=>Yo (lt b o e)
   have trkC:∀b o,H3 b=some o->b≠HH.objs.size:=λb o e z=>by
    have:=I5.free;rw[hXe]at this;rw[z,show H3 HH.objs.size=none from this]at e;cases e
   refine I2.call' (s':={s4 with heap:=h'}) (ch:=fp) (I5.os.trans (by rw[hs0])) ⟨λb o e n hb hx=>same _ _ (neC b o e) (un.keep b o e n hb hx),λb o e n hb hx=>?_,λb o e n hx=>by rw[Zf (neD b o e)];exact un.free b o e n hx,λb o e hx=>?_,λb xs e=>?_,λb o u e=>?_,λb ps e=>?_⟩ (λa o e=>?_) I5.bare λb hb=>⟨(f2 b hb).2.2.2.1,(f2 b hb).2.1,(f2 b hb).2.2.2.2.1,(f2 b hb).2.2.2.2.2⟩
   ·obtain⟨sl,z⟩:=un.slot b o e n hb hx
    exact⟨sl,same _ _ (neC b o e) z⟩
   ·obtain⟨o',z⟩:=un.there b o e hx
    exact⟨o',same _ _ (neC b o e) z⟩
   ·rw[Zf (Yo (I2.hok.lt e))];exact un.tups b xs e
   ·rw[Zf (Yo (I2.hok.lt e))];exact un.frzs b o u e
   ·obtain⟨more,z⟩:=un.tbls b ps e
    exact⟨more,by rw[Zf (Yo (I2.hok.lt e))];exact z⟩
   ·by_cases ha:a=s2.heap.objs.size
    ·subst ha
     rw[Zb]at e;cases e
     exact⟨hl,its,nn,va,same _ _ hDC hpin.1⟩
    ·rw[Zf ha]at e
     have q:=I5.hok a o e
     rw[hXp,hXw]at q
     refine q.Zg6 (λb u hb z=>same b u ?_ z) (λb z=>by rw[Zf];exact z;intro y;subst y;rw[hpin.2.1]at z;cases z) (λb xs z=>by rw[Zf];exact z;intro y;subst y;rw[hpin.2.1]at z;cases z) λb o u z=>by rw[Zf];exact z;intro y;subst y;rw[hpin.2.1]at z;cases z
     rcases hb with hb|hb
     ·subst hb;exact trkC _ _ e
     ·exact trkC _ _ hb
  ·have q:=T.item Xc hXp hXw hXk hXcalm i _ s3 (iniC js σ) H3 (λ_ _=>False) I3 (fpok pg fr3) st3 go
   rw[hXA]at q
   refine thn q λr s4 ⟨u,hr,h4⟩=>?_
   subst hr
   refine thn h4 λ_ s5 ⟨x,H5,I5,r5,y5,st5,fr5⟩=>?_
   have I5':=I5.pinned (fpok pg fr5) (T.obj _ _ st5)
   have again:∀{σ7:St}{H7:Hp}{s7:Shared}{acc7:List V}{its7:List Value}{n7:Nat}{m:Nat},Inv Xc ([(s2.heap.objs.size,{cls:=.type "list",dict:=none,data:=.seq its7.toArray n7})]++Zed fp s5.heap) σ7 H7 s7->Vals acc7 its7->acc7.length<=sizeLine->W (i+1) m acc7 H7->σ7.length=(iniC js σ).length->(∀(k:Nat) v,(iniC js σ)[k]?=some (some v)->σ7[k]?=some (some v)) ->
     ∃i acc its nn H',Inv Xc [(s2.heap.objs.size,{cls:=.type "list",dict:=none,data:=.seq (its:List Value).toArray nn})] (iniC js σ) H' s7/\Vals acc its/\acc.length<=sizeLine/\tn i s7.heap/\(∀b∈fp,H' b=none)/\W i m acc H':=λ{σ7 H7 s7 acc7 its7 n7 m} I7 v7 l7 w7 hl7 hw7=>by
    refine⟨i+1,acc7,its7,n7,H7,(I7.weak hl7.symm hw7).ZfF,v7,l7,T.keep _ _ _ st5 λb hb o e=>(I7.pin (b,o) (YC _ (YC _ (ZdD hb e)))).1,λb hb=>?_,w7⟩
    obtain⟨o,e,d⟩:=T.obj _ _ st5 b hb
    exact(I7.pin (b,o) (YC _ (YC _ (ZdD hb e)))).2.1
   have keep:∀{σ6:St},Zde L (iniC js σ) σ6->σ6.length=(iniC js σ).length/\∀(k:Nat) v,(iniC js σ)[k]?=some (some v)->σ6[k]?=some (some v):=λ{σ6} hk=>⟨hk.1,λk v e=>by
    rw[hk.2 k]
    ·exact e
    ·intro z
     have q:=List.all_eq_true.mp hL k z
     simp only[beq_iff_eq]at q
     unfold iniC at e
     rw[Yp,q]at e
     cases e⟩
   have q6:=gX _ s5 (iniC js σ) H5 x u _ I5' r5 (ho _ _ _ _ _ (fun σ' H' kk z=>And.intro kk z) (step x H5 y5))
   rw[hXe,hXA,hXp,hXw,hXx]at q6
   refine thn q6 λ_ s6 ⟨σ6,H6,I6,k6,q6⟩=>?_
   obtain⟨kl,kv⟩:=keep k6
   have q7:=tX _ s6 σ6 H6 _ I6 q6
   rw[hXe,hXA,hXp,hXw,hXx]at q7
   refine thn q7 λb s7 ⟨H7,I7,q7⟩=>?_
   cases b with
   |false =>
    obtain⟨m',hm,w7⟩:=q7
    exact⟨m',hm,again I7 va hlen w7 kl kv⟩
   |true =>
    have q8:=eX _ s7 σ6 H7 _ I7 q7
    rw[hXe,hXA,hXp,hXw,hXx]at q8
    refine thn q8 λy s8 ⟨v8,H8,I8,r8,m',hm,w8⟩=>?_
    have pinD:=I8.pin _ (YC _ (YM _ (.head _)))
    have hnf:∀p∈Zed fp s5.heap,p.1≠s2.heap.objs.size:=λp hp=>by
     obtain⟨z,_⟩:=Zix hp
     exact Yo (hfl _ z)
    have va':=va.length
    refine call_meets F.slot_list_append ⟨_,pinD.1,rfl⟩ F.entry_list_append (F.args_list_append_2 _ _) (PySem.list_append s2.heap.objs.size its.toArray nn y (by rw[Ym];omega)) ⟨pinD.1,?_⟩
    have e9:=PySem.IsL.update pinD.1 (λa=>a.push y)
    have e9':its.toArray.push y=(its++[y]).toArray:=by simp
    dsimp only at e9
    rw[e9']at e9
    have I8':Inv Xc (Zed fp s5.heap) σ6 H8 s8:=I8.Zhm λp hp=>I8.pin p (YC _ (YC _ hp))
    have hXpn:Xc.pn=[]:=by rw[<-hXc];rfl
    have hXs:s2.heap.objs.size∉frs X.stack:=by rw[<-hfs];exact pinD.2.2.2.1
    have I9:=I8'.turned (t':=s8.toks) (it:=s2.heap.objs.size) (h':=s8.heap.update s2.heap.objs.size (Obj.mapSeq λa=>a.push y)) (λb o hb e=>(Heap.get?_update_other s8.heap _ (Ne.symm hb)).trans e) pinD.2.1 pinD.2.2.1
     (.inr (by rw[hs0];exact Ye _)) (λx c e=>by
      rw[hXe]at e
      intro z
      rcases up _ _ e with y|y
      ·obtain⟨v,q⟩:=I2.cell x c y
       exact absurd q.lt (by rw[z];exact Yx _)
      ·have:=y.1
       rw[z,hC]at this
       exact absurd this (Nat.not_lt_of_le (Nat.le_succ _))) (λp hp=>by rw[hXpn,List.nil_append]at hp;exact hnf p hp)
    have I10:=I9.Zhm (pins':=[(s2.heap.objs.size,{cls:=.type "list",dict:=none,data:=.seq (its++[y]).toArray _})]++Zed fp s5.heap) λp hp=>by
     rcases Yy.mp hp with z|z
     ·simp only[Yk,List.not_mem_nil,or_false]at z
      subst z
      exact⟨e9,pinD.2.1,pinD.2.2.1,pinD.2.2.2.1,by intro v z;cases z⟩
     ·exact I9.pin p (YC _ z)
    exact⟨m',hm,again I10 (va.append (.cons r8 .nil)) (by rw[YE,List.length_singleton];omega) w8 kl kv⟩
 exact codeAny_compStart_list loop (T.self _ 0 _ _ _ st4 loop)
theorem Zap {tg elt iter:Expr}{ifs:List Expr}{scope:Scope}{pos:Pos}{wi:TI}{g:TG}{tt:TT}{te:TE} (Nc:List Str) (js:List (Option Nat)) {L:List Nat}
  (hc:X.calm=true) (hok:Zb7 X.env.scope scope=true) (htk:ZbS X.N Nc scope js 0=true) (hi:PI X tg iter wi)
  (hg:∀cl C s2 H2 fp,PG (Zb8 X Nc scope cl C s2 H2 fp) tg g) (ht:∀cl C s2 H2 fp,PIfs (Zb8 X Nc scope cl C s2 H2 fp) ifs tt) (he:∀cl C s2 H2 fp,PE (Zb8 X Nc scope cl C s2 H2 fp) elt te)
  (ho:Zj3 g L) (hL:(L.all λk=>js[k]?==some none)=true:=by rfl) (hs:∀x,foldedSetIterable iter X.env x=pure x:=by intro _;rfl):PE X (.ListComp elt [⟨tg,iter,ifs,0⟩] scope pos) (Zou wi g tt te js):=by
 intro pins s σ H Q I h
 rw[eval_ListComp]
 exact ZmE (use:=none) hc hok htk hi hg ht he hs ho hL I h λD C H' H2 s2 s' xs m I2 hHC e1 e2 hn hI q=>⟨m,hn,λh' hsb=>⟨.ref D,_,hI h' hsb,rfl,q⟩⟩
end
end L2
namespace L2
open PySem PySem.Spec PyProof.Rows PySem.W
noncomputable def CF (n:Nat) (P:Nat->Bool) (vals:Nat->V) (H1:Hp) (i m:Nat) (acc:List V) (H:Hp):Prop:=m=n-i/\i<=n/\acc=((List.range i).filter P).map vals/\Zh H1 H
theorem CF.take {n:Nat}{P:Nat->Bool}{vals:Nat->V}{H1 H:Hp}{i:Nat}{v:V} (hi:i<n) (hP:P i=true) (hv:v=vals i) (s:Zh H1 H):∃m',m'<n-i/\CF n P vals H1 (i+1) m' (((List.range i).filter P).map vals++[v]) H :=
 ⟨n-(i+1),by omega,rfl,hi,by rw[YJ,List.filter_append,YB,hv];simp[hP],s⟩
theorem CF.skip {n:Nat}{P:Nat->Bool}{vals:Nat->V}{H1 H:Hp}{i:Nat} (hi:i<n) (hP:P i=false) (s:Zh H1 H):∃m',m'<n-i/\CF n P vals H1 (i+1) m' (((List.range i).filter P).map vals) H :=
 ⟨n-(i+1),by omega,rfl,hi,by rw[YJ,List.filter_append,YB];simp[hP],s⟩
theorem ZmF {J:It}{n:Nat}{H1:Hp}{g:TG}{tt:TT}{te:TE}{σ0:St}{Q:VK} (P:Nat->Bool) (vals:Nat->V) (hn:n<sizeLine) (hgo:∀i H,Zh H1 H->i<n->J.go i H) (hstop:∀H,Zh H1 H->J.stop n H)
  (hb:∀i x H H',i<n->Zh H1 H->J.yld i H x H'->g x σ0 H' fun σ2 H2=>tt σ2 H2 λb H3=>if b=true then te σ2 H3 λv H4=>∃m',m'<n-i/\CF n P vals H1 (i+1) m' (((List.range i).filter P).map vals++[v]) H4 else ∃m',m'<n-i/\CF n P vals H1 (i+1) m' (((List.range i).filter P).map vals) H3)
  (hk:∀l H',Zh H1 H'->H' l=none->Q (.ref l) (upd H' l (.lst (((List.range n).filter P).map vals)))) :
  Zj6 J g tt te σ0 Q H1:=by
 refine⟨CF n P vals H1,⟨n,rfl,Yr _,rfl,Zh.refl _⟩,?_⟩
 rintro i m acc H ⟨rfl,hi,rfl,s⟩
 have hlen:(((List.range i).filter P).map vals).length<=n:=by
  rw[Yf]
  have:=Y5 P (List.range i)
  rw[Y0]at this
  omega
 by_cases h:i<n
 ·exact .inr ⟨hgo i H s h,by omega,λx H' y=>hb i x H H' h s y⟩
 ·have:i=n:=by omega
  subst this
  exact .inl ⟨hstop H s,by omega,λp hp=>hk p H s hp⟩
theorem Zl3 {ns T:List Int} (hT:Zfi ns T) {p o:Nat} (hp:p<ns.length):(o:Int)∈wayI T p↔o<ns.length/\Over (nth ns) o p:=by
 rw[<-(Zkc hT T.length p hp (by rw[hT.1];exact YV (dep_lt hp))).1 o]
 unfold wayI
 rw[YH]
 refine⟨λ⟨q,hq,e⟩=>?_,λh=>⟨o,h,rfl⟩⟩
 have:q=o:=by omega
 rw[<-this];exact hq
theorem ZoE {xs:List V}{v:V} (h:0<xs.length) (hv:xs[xs.length-1]?=some v):atI xs (-1)=some v:=by
 have e:ixN xs.length (-1)=some (xs.length-1):=by
  unfold ixN
  rw[Yb (by omega),Yd (by omega)]
  congr 1
  omega
 unfold atI
 rw[e]
 exact hv
end L2
namespace HT
open PySem PyProof.Rows
section
open PySem.SeqAt
open PySem.AutoSeq1 (wpAny_loadPart')
open PySem.MeetsSeq PySem.MeetsSeq2 PySem.MeetsSeq3
variable {prog:Program}{w:World}{A:Around}{E:Value->Shared->Prop}{s:Shared}
end
end HT
namespace L2
open PySem PySem.Spec PyProof.Rows PySem.W
noncomputable def way (T:List Int) (p:Nat):List Nat:=Zbl T T.length (nth T p)
theorem Zkg (T:List Int) (p:Nat):wayI T p=(way T p).map λq=>((q:Nat):Int):=rfl
section
variable {X:Cx}{pins:List (Addr×Obj)}{σ:St}{H:Hp}{s:Shared}{h':Heap}
theorem Inv.ZpS {t':Nat}{fp:List Addr}{T:Addr}{o:HO} (I:Inv X pins σ H s) (k:∀b u,b∉fp->s.heap.get? b=some u->h'.get? b=some u) (hf:∀b∈fp,FpOk X pins H b) (hT:s.heap.objs.size<=T) (new:Zao X.prog X.w (upd H T o) h' T o) :
  Inv X pins σ (upd H T o) {s with heap:=h',toks:=t'}:=by
 have nit:∀b u,H b=some u->b∉fp:=λb u e z=>by rw[(hf b z).1]at e;cases e
 have hfr:H T=none:=I.hok.fresh hT
 have neT:∀b u,s.heap.get? b=some u->b≠T:=λb u e z=>absurd (Yh e) (by rw[z];exact Nat.not_lt_of_le hT)
 have neH:∀b u,H b=some u->b≠T:=λb u e z=>by rw[z,hfr]at e;cases e
 refine I.step (g':=s.gens) (d':=s.drawn) (ch:=fp) (λb hb=>?_) (λb o _ _ hc e _=>k b o hc e) (λb o _ _ hc e _=>⟨o.slots,k b o hc e⟩) (λb u _ e n=>by rw[Zf (neT b u e)];exact n)
  (λb o hc e=>⟨o,k b o hc e⟩) (λb xs e=>by rw[Zf (neH b _ e)];exact e) (λb o u e=>by rw[Zf (neH b _ e)];exact e) (λb ps e=>⟨#[],by rw[Zf (neH b _ e),e];simp⟩) (λm hm=>?_) (λb u e=>?_) I.bare
 ·obtain⟨_,f1,_,f3,f4,f5⟩:=hf b hb
  exact⟨f3,f1,f4,f5⟩
 ·obtain⟨o,es,ep,ho,r⟩:=hm
  exact⟨o,es,ep,k _ o (λz=>(hf _ z).2.1 rfl) ho,r⟩
 ·by_cases z:b=T
  ·subst z
   rw[Zb]at e;cases e
   exact new
  ·rw[Zf z]at e
   refine(I.hok b u e).Zg6 (λc v hc q=>k c v ?_ q) (λc q=>?_) (λc xs q=>?_) λc o u q=>?_
   ·rcases hc with y|y
    ·rw[y];exact nit b u e
    ·exact nit c _ y
   ·rw[Zf (neH _ _ q)];exact q
   ·rw[Zf (neH _ _ q)];exact q
   ·rw[Zf (neH _ _ q)];exact q
noncomputable def Ite (K : Frag) (a : Addr) : It :=
  ⟨fun i H => ∃ xs x, SqL K H a xs ∧ xs[i]? = some x,
   fun i H v H' => ∃ p x, H p = none ∧ v = .ref p ∧ H' = upd H p (.tup [.int (i : Int), x]) ∧ ∀ xs, SqL K H a xs → xs[i]? = some x,
   fun i H => ∃ xs, SqL K H a xs ∧ xs.length = i⟩
theorem ZmG {P:Program}{w:World}{K:Frag}{elts:List Expr} {x1}{pos:Pos}{a e it:Addr} (h1:e≠it) (h2:a≠e) (h3:a≠it) :
  Turn P w K (.Tuple elts x1 pos) (Ite K a) [e,it] e (λi h=>(∃old,IsEnum h e it (i:Int) old)/\h.IsListIter it a i) where
 mem:=by simp
 obj:=λi h st c hc=>by
  obtain⟨⟨old,q1⟩,⟨o4,q4,_,d4⟩⟩:=st
  simp at hc
  rcases hc with rfl|rfl
  ·exact⟨_,q1,λv z=>by cases z⟩
  ·exact⟨_,q4,λv z=>by rw[d4]at z;cases z⟩
 keep:=λi h h' st k=>by
  obtain⟨⟨old,q1⟩,q4⟩:=st
  exact⟨⟨old,k e (by simp) _ q1⟩,q4.at λo z=>k it (by simp) o z⟩
 item:=by
  intro X hP hw hK hc i pins s σ H E I hf st hg
  subst hP hw hK
  obtain⟨xs,x,qa,hx⟩:=hg
  obtain⟨is1,r1,p1,hz1⟩:=I.list qa
  obtain⟨u,hu,ru⟩:=r1.get hx
  have W:=WalksT.enumerate (prog:=X.prog) (w:=X.w) (I.ok.hd hc) e it a h1 h2 h3 is1.toArray
  have hi:i<is1.toArray.size:=by
   have:=(Yu.mp hu).1
   simpa using this
  refine W.item i s _ E hi ⟨st.1,st.2,p1.isList⟩ λT vals h' tk Pt hT hTup Mid keep=>⟨_,rfl,W.go elts x1 pos i T _ _ E Mid λh2' St2 keep2=>?_⟩
  obtain⟨t,y,hy,rfl⟩:=Pt
  have hyu:y=u:=by
   have:is1[i]?=some y:=by simpa using hy
   rw[hu]at this;exact(Yq this).symm
  subst hyu
  have nT:=W.apart i T h' Mid
  have hfr:H T=none:=I.hok.fresh hT
  have kk:∀b o,b∉[e,it]->s.heap.get? b=some o->h2'.get? b=some o:=λb o hb q=>keep2 b o hb (keep b o hb q)
  have nTe:∀c∈[e,it],c≠T:=λc hc z=>nT (z▸hc)
  refine⟨.ref T,_,Inv.ZpS (s:=s) (t':=tk) (o:=.tup [.int (i:Int),x]) I kk hf hT ?_,rfl,⟨T,x,hfr,rfl,rfl,λxs' q'=>?_⟩,⟨?_,St2.2.1⟩,λc hc=>?_⟩
  ·obtain⟨oT,q1,q2,n,q3⟩:=hTup
   exact⟨by show 2<=sizeLine;decide,[.int (i:Int) t,y],.cons ⟨t,rfl⟩ (.cons ru .nil),⟨oT,keep2 T oT nT q1,q2,n,q3⟩⟩
  ·rw[I.Zcd q' qa];exact hx
  ·obtain⟨old,q⟩:=St2.1
   exact⟨old,by rw[show(((i+1:Nat)):Int)=(i:Int)+1 by omega]at *;exact q⟩
  ·rw[Zf (nTe c hc)];exact(hf c hc).1
 done:=by
  intro X hP hw hK hc i pins s σ H E I hf st hg
  subst hP hw hK
  obtain⟨xs,qa,hx⟩:=hg
  obtain⟨is1,r1,p1,_⟩:=I.list qa
  have W:=WalksT.enumerate (prog:=X.prog) (w:=X.w) (I.ok.hd hc) e it a h1 h2 h3 is1.toArray
  have hi:i=is1.toArray.size:=by
   have:=r1.length
   simp;omega
  refine W.done s _ E ?_ λh' tk keep=>⟨rfl,I.Zjk (t':=tk) (fp:=[e,it]) (λc o hc q=>keep c o hc q) hf⟩
  rw[<-hi]
  exact⟨st.1,st.2,p1.isList⟩
 self:=λA i s Q E st h=>by
  obtain⟨⟨old,q⟩,_⟩:=st
  exact wpAny_pyIter_enum q h
noncomputable def iEnum (K:Frag) (ta:TA):TI:=fun σ H R=>ta σ H λvs H1=>∃a xs,vs=[.ref a]/\SqL K H1 a xs/\R (Ite K a) H1
theorem Zlk:bootBuiltins "enumerate"=some (.type "enumerate"):=by decide +kernel
theorem Zc1 {K:Frag}{elts:List Expr} {x1}{tp:Pos}{e1:Expr}{ta:TA}{p pos:Pos} (hK:X.K=K) (hg:Gl X "enumerate") (hm:X.mg "enumerate"=none) (ha:PA X [e1] ta) (hs:starEach [e1] X.env=[(false,eval e1 X.env)]:=by rfl) :
  PI X (.Tuple elts x1 tp) (.Call (.Name "enumerate" p) [e1] [] pos) (iEnum K ta):=by
 subst hK
 intro pins s σ H R I h
 refine wpAny_Call_Name_kw (ZdB I hg hm Zlk ?_)
 refine PyProof.Rows.callWith_type1 (thn (ha pos pins s σ H _ I h) λus s1 ⟨vs,H1,I1,r1,a,xs,e1,qa,q⟩=>?_) hs rfl
 subst e1
 obtain⟨u,rfl,ru⟩:=r1.one
 cases(show u=Value.ref a from ru)
 obtain⟨is1,rr1,p1,_⟩:=I1.list qa
 refine call_enumerate_list p1.isList λh' c1 c2 c3 c4=>?_
 have l1:a<s1.heap.objs.size:=by obtain⟨o,e,_⟩:=p1.isList;exact Yh e
 have sm:∀b,s1.heap.objs.size<=b->FpOk X pins H1 b:=λb hb=>I1.fpOk hb (I1.hok.fresh hb)
 have n1:s1.heap.objs.size+1≠s1.heap.objs.size:=by show ¬ ((_:Nat)=_);omega
 have n2:a≠s1.heap.objs.size+1:=Yo (YR l1)
 have n3:a≠s1.heap.objs.size:=Yo l1
 have T:=ZmG (P:=X.prog) (w:=X.w) (K:=X.K) (elts:=elts) (x1:=x1) (pos:=tp) n1 n2 n3
 refine T.self _ 0 _ _ _ ⟨⟨_,c1⟩,c2⟩ ?_
 refine⟨_,[s1.heap.objs.size+1,s1.heap.objs.size],_,_,H1,rfl,I1.kept (t':=s1.toks) c4,T,⟨⟨_,c1⟩,c2⟩,λc hc=>?_,q⟩
 simp at hc
 rcases hc with rfl|rfl<;>exact sm _ (by omega)
end
theorem ZmH {prog:Program}{w:World}{A:Around}{R:Result->Shared->Prop}{I:Addr}{fp wr:List Addr}{n:Nat}{P:Nat->Value->Prop}{St:Nat->Heap->Prop} (W:Walks prog w A.in1 I fp wr n P St) (bt:Nat->Nat->Bool) (hc:CmpOf prog w A.in1 .Gt P bt)
  (S:Addr) (hS:S∉fp) (dk:Str) (d:Value) (h0:Heap) (s0:Shared)
  (hR0:n=0->∀h' tk,(∀b o,b∉wr->b≠S->h0.get? b=some o->h'.get? b=some o)->R (.ok (.ret d)) {s0 with heap:=h',toks:=tk})
  (hR:0<n->∀v h' tk,P (argBest bt (n-1)) v->(∀b o,b∉wr->b≠S->h0.get? b=some o->h'.get? b=some o)->R (.ok (.ret v)) {s0 with heap:=h',toks:=tk}) :
  ∀(k j:Nat) (h:Heap) (tk:Nat),n-j=k->j<=n->St j h->(∀b o,b∉wr->b≠S->h0.get? b=some o->h.get? b=some o) ->
   ((j=0/\∃c,h.get? S=some {cls:=.type "list",data:=.seq #[] c})\/(0<j/\∃vb c,P (argBest bt (j-1)) vb/\h.get? S=some {cls:=.type "list",data:=.seq #[vb,vb] c})) ->
   codeAny (model prog w) A (.builtin "max.loop" {pos:=[.ref I,.none,.ref S],kw:=[(dk,d)]}) R {s0 with heap:=h,toks:=tk}:=by
 intro k
 induction k with
 |zero =>
  intro j h tk hk hj hst keep hb
  refine codeAny_builtin F.entry_max_loop ?_
  have hjn:j=n:=by omega
  subst hjn
  rcases hb with⟨hj0,c,hb⟩|⟨hj0,vb,c,hvb,hb⟩
  ·show wpAny _ _ (_ >>= _) _ _ _
   refine Ya (wpAny_seqItems hb rfl ?_)
   refine Ya (wpAny_tryCatch (W.done _ _ _ hst λh' tk' kp=>?_))
   refine Ya (wpAny_rule (Yc ?_))
   exact hR0 hj0 h' tk' λb o hb1 hb2 e=>kp b o hb1 (keep b o hb1 hb2 e)
  ·show wpAny _ _ (_ >>= _) _ _ _
   refine Ya (wpAny_seqItems hb rfl ?_)
   refine Ya (wpAny_tryCatch (W.done _ _ _ hst λh' tk' kp=>?_))
   have hS':S∉wr:=λz=>hS (W.sub S z)
   have hb':=kp S _ hS' hb
   refine Ya (wpAny_updateSeq hb' rfl ?_ (show 2<=sizeLine by decide) (Yr _))
   refine Ya (wpAny_letGo (Yc ?_))
   refine hR hj0 vb _ tk' hvb λb o hb1 hb2 e=>?_
   exact(Heap.get?_update_other _ _ (Ne.symm hb2)).trans (kp b o hb1 (keep b o hb1 hb2 e))
 |succ k ih =>
  intro j h tk hk hj hst keep hb
  refine codeAny_builtin F.entry_max_loop ?_
  have hjn:j<n:=by omega
  have hS':S∉wr:=λz=>hS (W.sub S z)
  rcases hb with⟨hj0,c,hb⟩|⟨hj0,vb,c,hvb,hb⟩
  ·show wpAny _ _ (_ >>= _) _ _ _
   refine Ya (wpAny_seqItems hb rfl ?_)
   refine Ya (wpAny_tryCatch (W.item j _ _ _ hjn hst λv h' tk' hv hst' kp=>?_))
   have hb':=kp S _ hS' hb
   refine Ya (Yc ?_)
   refine Ya (wpAny_updateSeq hb' rfl ?_ (Yr _) (show 2<=sizeLine+1 by decide))
   refine Yc ⟨rfl,?_⟩
   have e9:=PySem.IsL.update hb' (λ_=>#[v,v])
   refine ih (j+1) _ tk' (by omega) (by omega) (W.frame _ _ _ hst' λb hb1 o e=>?_) (λb o hb1 hb2 e=>?_) (.inr ⟨by omega,v,_,?_,e9⟩)
   ·exact(Heap.get?_update_other _ _ (show S≠b from λz=>hS (by rw[z];exact hb1))).trans e
   ·exact(Heap.get?_update_other _ _ (Ne.symm hb2)).trans (kp b o hb1 (keep b o hb1 hb2 e))
   ·rw[hj0];rw[hj0]at hv;exact hv
  ·show wpAny _ _ (_ >>= _) _ _ _
   refine Ya (wpAny_seqItems hb rfl ?_)
   refine Ya (wpAny_tryCatch (W.item j _ _ _ hjn hst λv h' tk' hv hst' kp=>?_))
   have hb':=kp S _ hS' hb
   obtain⟨j',rfl⟩:∃j',j=j'+1:=⟨j-1,by omega⟩
   have hvb':P (argBest bt j') vb:=hvb
   have eA:argBest bt (j'+1)=if bt (j'+1) (argBest bt j')=true then j'+1 else argBest bt j':=rfl
   refine Ya (Yc ?_)
   refine Ya (wpAny_tryCatch (wpAny_holding (Ya (hc (j'+1) (argBest bt j') v vb _ _ _ hv hvb' (Ya (wpAny_holding (wpAny_truthy_bool (Ya (wpAny_letGo (Yc ?_))))))))))
   by_cases z:bt (j'+1) (argBest bt j')=true
   ·rw[Yd z]
    refine Ya (wpAny_updateSeq hb' rfl ?_ (show 2<=sizeLine by decide) (show 2<=sizeLine+1 by decide))
    refine Ya (wpAny_letGo (Yc ⟨rfl,?_⟩))
    have e9:=PySem.IsL.update hb' (λ_=>#[v,v])
    refine ih (j'+1+1) _ tk' (by omega) (by omega) (W.frame _ _ _ hst' λb hb1 o e=>?_) (λb o hb1 hb2 e=>?_) (.inr ⟨by omega,v,_,?_,e9⟩)
    ·exact(Heap.get?_update_other _ _ (show S≠b from λz=>hS (by rw[z];exact hb1))).trans e
    ·exact(Heap.get?_update_other _ _ (Ne.symm hb2)).trans (kp b o hb1 (keep b o hb1 hb2 e))
    ·show P (argBest bt (j'+1)) v
     rw[eA,Yd z];exact hv
   ·rw[Yb z]
    refine Ya (wpAny_letGo (Yc ⟨rfl,?_⟩))
    refine ih (j'+1+1) _ tk' (by omega) (by omega) hst' (λb o hb1 hb2 e=>kp b o hb1 (keep b o hb1 hb2 e)) (.inr ⟨by omega,vb,_,?_,hb'⟩)
    show P (argBest bt (j'+1)) vb
    rw[eA,Yb z];exact hvb'
theorem ZmI (a d:Value):argsOk "max" {pos:=[a],kw:=[("default",d)]}:=by first|rfl|decide
theorem ZmJ {prog:Program}{w:World}{A:Around}{E Q:Value->Shared->Prop}{s:Shared}{l:Addr}{xs:Array (Int×Tok)}{d:Value} (hA:A.handled=none) (hl:s.heap.IsList l (intItems xs))
  (q0:xs.size=0->∀h' tk,(∀b o,s.heap.get? b=some o->h'.get? b=some o)->Q d {s with heap:=h',toks:=tk})
  (q1:0<xs.size->∀v h' tk,(intItems xs)[argBest (λi j=>decide (numAt xs i>numAt xs j)) (xs.size-1)]?=some v->(∀b o,s.heap.get? b=some o->h'.get? b=some o)->Q v {s with heap:=h',toks:=tk}) :
  wpAny (model prog w) A (call (.builtin "max") [.ref l] [("default",d)]) Q E s:=by
 refine wpAny_call (codeAny_call_builtin_code rfl ?_)
 have hck:checkBuiltinCall "max" {pos:=[.ref l],kw:=[("default",d)]}=pure ():=by
  unfold checkBuiltinCall
  rw[F.kind_max]
  exact ZmI (.ref l) d
 rw[hck]
 refine Yc (codeAny_builtin F.entry_max ?_)
 show wpAny _ _ (_ >>= _) _ _ _
 have hbp:Builtin.Builtins.bindParams "max" ["key","default"] 0 {kw:=[("default",d)]}=pure [none,some d]:=by
  first|rfl|with_unfolding_all rfl|(simp[Builtin.Builtins.bindParams];done)
 refine Ya (wpAny_of_eq hbp (Ya (Yc (Ya (wpAny_pyIter_list hl ?_)))))
 refine Ya (wpAny_newObj_type ?_)
 refine Yc ⟨rfl,?_⟩
 have hlt:l<s.heap.objs.size:=by obtain⟨o,e,_⟩:=hl;exact Yh e
 have n1:l≠s.heap.objs.size:=Yo hlt
 have esz:(s.heap.push {cls:=.type "list_iterator",data:=.fields #[.ref l,.int 0 0]}).objs.size=s.heap.objs.size+1:=Heap.size_push _ _
 have old:∀b o,s.heap.get? b=some o->((s.heap.push {cls:=.type "list_iterator",data:=.fields #[.ref l,.int 0 0]}).push {cls:=.type "list",data:=.seq #[]}).get? b=some o:=λb o e=>Yi _ (Yi _ e)
 have ne:∀b o,s.heap.get? b=some o->b∉[s.heap.objs.size]/\b≠(s.heap.push {cls:=.type "list_iterator",data:=.fields #[.ref l,.int 0 0]}).objs.size:=λb o e=>by
  have:=Yh e
  refine⟨λz=>?_,λz=>?_⟩
  ·have:b=s.heap.objs.size:=by simpa using z
   exact absurd (Yh e) (by rw[this];exact Yx _)
  ·rw[z,esz]at this
   exact absurd this (Nat.not_lt_of_le (Nat.le_succ _))
 have W:=Walks.list (prog:=prog) (w:=w) (A:=A.in1) hA s.heap.objs.size l n1 (intItems xs)
 have hitm:(intItems xs).size=xs.size:=by simp[intItems]
 refine ZmH W (λi j=>decide (numAt xs i>numAt xs j)) (CmpOf.ints_gt (numAt xs) λi v h=>intItems_at h) _ ?_ "default" d _ s (λz h' tk kp=>?_) (λz v h' tk hv kp=>?_) (intItems xs).size 0 _ _ rfl (Yr _) ⟨?_,?_⟩ (λb o _ _ e=>e) (.inl ⟨rfl,_,Yl _ rfl⟩)
 ·rw[esz]
  simp only[Yk,List.not_mem_nil,or_false,not_or]
  exact⟨Nat.ne_of_gt (Nat.lt_succ_self _),Nat.ne_of_gt (YR hlt)⟩
 ·exact q0 (by omega) h' tk λb o e=>kp b o (ne b o e).1 (ne b o e).2 (old b o e)
 ·exact q1 (by omega) v h' tk (by rw[<-hitm];exact hv) λb o e=>kp b o (ne b o e).1 (ne b o e).2 (old b o e)
 ·exact⟨_,Yi _ (Yl _ rfl),rfl,rfl⟩
 ·obtain⟨o,e,r⟩:=hl
  exact⟨o,old _ _ e,r⟩
theorem ZmK {prog:Program}{w:World}{A:Around}{R:Result->Shared->Prop}{I:Addr}{fp wr:List Addr}{n:Nat}{P:Nat->Value->Prop}{St:Nat->Heap->Prop} (W:Walks prog w A.in1 I fp wr n P St) (bt:Nat->Nat->Bool) (hc:CmpOf prog w A.in1 .Lt P bt)
  (S:Addr) (hS:S∉fp) (dk:Str) (d:Value) (h0:Heap) (s0:Shared)
  (hR0:n=0->∀h' tk,(∀b o,b∉wr->b≠S->h0.get? b=some o->h'.get? b=some o)->R (.ok (.ret d)) {s0 with heap:=h',toks:=tk})
  (hR:0<n->∀v h' tk,P (argBest bt (n-1)) v->(∀b o,b∉wr->b≠S->h0.get? b=some o->h'.get? b=some o)->R (.ok (.ret v)) {s0 with heap:=h',toks:=tk}) :
  ∀(k j:Nat) (h:Heap) (tk:Nat),n-j=k->j<=n->St j h->(∀b o,b∉wr->b≠S->h0.get? b=some o->h.get? b=some o) ->
   ((j=0/\∃c,h.get? S=some {cls:=.type "list",data:=.seq #[] c})\/(0<j/\∃vb c,P (argBest bt (j-1)) vb/\h.get? S=some {cls:=.type "list",data:=.seq #[vb,vb] c})) ->
   codeAny (model prog w) A (.builtin "min.loop" {pos:=[.ref I,.none,.ref S],kw:=[(dk,d)]}) R {s0 with heap:=h,toks:=tk}:=by
 intro k
 induction k with
 |zero =>
  intro j h tk hk hj hst keep hb
  refine codeAny_builtin F.entry_min_loop ?_
  have hjn:j=n:=by omega
  subst hjn
  rcases hb with⟨hj0,c,hb⟩|⟨hj0,vb,c,hvb,hb⟩
  ·show wpAny _ _ (_ >>= _) _ _ _
   refine Ya (wpAny_seqItems hb rfl ?_)
   refine Ya (wpAny_tryCatch (W.done _ _ _ hst λh' tk' kp=>?_))
   refine Ya (wpAny_rule (Yc ?_))
   exact hR0 hj0 h' tk' λb o hb1 hb2 e=>kp b o hb1 (keep b o hb1 hb2 e)
  ·show wpAny _ _ (_ >>= _) _ _ _
   refine Ya (wpAny_seqItems hb rfl ?_)
   refine Ya (wpAny_tryCatch (W.done _ _ _ hst λh' tk' kp=>?_))
   have hS':S∉wr:=λz=>hS (W.sub S z)
   have hb':=kp S _ hS' hb
   refine Ya (wpAny_updateSeq hb' rfl ?_ (show 2<=sizeLine by decide) (Yr _))
   refine Ya (wpAny_letGo (Yc ?_))
   refine hR hj0 vb _ tk' hvb λb o hb1 hb2 e=>?_
   exact(Heap.get?_update_other _ _ (Ne.symm hb2)).trans (kp b o hb1 (keep b o hb1 hb2 e))
 |succ k ih =>
  intro j h tk hk hj hst keep hb
  refine codeAny_builtin F.entry_min_loop ?_
  have hjn:j<n:=by omega
  have hS':S∉wr:=λz=>hS (W.sub S z)
  rcases hb with⟨hj0,c,hb⟩|⟨hj0,vb,c,hvb,hb⟩
  ·show wpAny _ _ (_ >>= _) _ _ _
   refine Ya (wpAny_seqItems hb rfl ?_)
   refine Ya (wpAny_tryCatch (W.item j _ _ _ hjn hst λv h' tk' hv hst' kp=>?_))
   have hb':=kp S _ hS' hb
   refine Ya (Yc ?_)
   refine Ya (wpAny_updateSeq hb' rfl ?_ (Yr _) (show 2<=sizeLine+1 by decide))
   refine Yc ⟨rfl,?_⟩
   have e9:=PySem.IsL.update hb' (λ_=>#[v,v])
   refine ih (j+1) _ tk' (by omega) (by omega) (W.frame _ _ _ hst' λb hb1 o e=>?_) (λb o hb1 hb2 e=>?_) (.inr ⟨by omega,v,_,?_,e9⟩)
   ·exact(Heap.get?_update_other _ _ (show S≠b from λz=>hS (by rw[z];exact hb1))).trans e
   ·exact(Heap.get?_update_other _ _ (Ne.symm hb2)).trans (kp b o hb1 (keep b o hb1 hb2 e))
   ·rw[hj0];rw[hj0]at hv;exact hv
  ·show wpAny _ _ (_ >>= _) _ _ _
   refine Ya (wpAny_seqItems hb rfl ?_)
   refine Ya (wpAny_tryCatch (W.item j _ _ _ hjn hst λv h' tk' hv hst' kp=>?_))
   have hb':=kp S _ hS' hb
   obtain⟨j',rfl⟩:∃j',j=j'+1:=⟨j-1,by omega⟩
   have hvb':P (argBest bt j') vb:=hvb
   have eA:argBest bt (j'+1)=if bt (j'+1) (argBest bt j')=true then j'+1 else argBest bt j':=rfl
   refine Ya (Yc ?_)
   refine Ya (wpAny_tryCatch (wpAny_holding (Ya (hc (j'+1) (argBest bt j') v vb _ _ _ hv hvb' (Ya (wpAny_holding (wpAny_truthy_bool (Ya (wpAny_letGo (Yc ?_))))))))))
   by_cases z:bt (j'+1) (argBest bt j')=true
   ·rw[Yd z]
    refine Ya (wpAny_updateSeq hb' rfl ?_ (show 2<=sizeLine by decide) (show 2<=sizeLine+1 by decide))
    refine Ya (wpAny_letGo (Yc ⟨rfl,?_⟩))
    have e9:=PySem.IsL.update hb' (λ_=>#[v,v])
    refine ih (j'+1+1) _ tk' (by omega) (by omega) (W.frame _ _ _ hst' λb hb1 o e=>?_) (λb o hb1 hb2 e=>?_) (.inr ⟨by omega,v,_,?_,e9⟩)
    ·exact(Heap.get?_update_other _ _ (show S≠b from λz=>hS (by rw[z];exact hb1))).trans e
    ·exact(Heap.get?_update_other _ _ (Ne.symm hb2)).trans (kp b o hb1 (keep b o hb1 hb2 e))
    ·show P (argBest bt (j'+1)) v
     rw[eA,Yd z];exact hv
   ·rw[Yb z]
    refine Ya (wpAny_letGo (Yc ⟨rfl,?_⟩))
    refine ih (j'+1+1) _ tk' (by omega) (by omega) hst' (λb o hb1 hb2 e=>kp b o hb1 (keep b o hb1 hb2 e)) (.inr ⟨by omega,vb,_,?_,hb'⟩)
    show P (argBest bt (j'+1)) vb
    rw[eA,Yb z];exact hvb'
theorem ZmL (a d:Value):argsOk "min" {pos:=[a],kw:=[("default",d)]}:=by first|rfl|decide
theorem ZmM {prog:Program}{w:World}{A:Around}{E Q:Value->Shared->Prop}{s:Shared}{l:Addr}{xs:Array (Int×Tok)}{d:Value} (hA:A.handled=none) (hl:s.heap.IsList l (intItems xs))
  (q0:xs.size=0->∀h' tk,(∀b o,s.heap.get? b=some o->h'.get? b=some o)->Q d {s with heap:=h',toks:=tk})
  (q1:0<xs.size->∀v h' tk,(intItems xs)[argBest (λi j=>decide (numAt xs i<numAt xs j)) (xs.size-1)]?=some v->(∀b o,s.heap.get? b=some o->h'.get? b=some o)->Q v {s with heap:=h',toks:=tk}) :
  wpAny (model prog w) A (call (.builtin "min") [.ref l] [("default",d)]) Q E s:=by
 refine wpAny_call (codeAny_call_builtin_code rfl ?_)
 have hck:checkBuiltinCall "min" {pos:=[.ref l],kw:=[("default",d)]}=pure ():=by
  unfold checkBuiltinCall
  rw[F.kind_min]
  exact ZmL (.ref l) d
 rw[hck]
 refine Yc (codeAny_builtin F.entry_min ?_)
 show wpAny _ _ (_ >>= _) _ _ _
 have hbp:Builtin.Builtins.bindParams "min" ["key","default"] 0 {kw:=[("default",d)]}=pure [none,some d]:=by
  first|rfl|with_unfolding_all rfl|(simp[Builtin.Builtins.bindParams];done)
 refine Ya (wpAny_of_eq hbp (Ya (Yc (Ya (wpAny_pyIter_list hl ?_)))))
 refine Ya (wpAny_newObj_type ?_)
 refine Yc ⟨rfl,?_⟩
 have hlt:l<s.heap.objs.size:=by obtain⟨o,e,_⟩:=hl;exact Yh e
 have n1:l≠s.heap.objs.size:=Yo hlt
 have esz:(s.heap.push {cls:=.type "list_iterator",data:=.fields #[.ref l,.int 0 0]}).objs.size=s.heap.objs.size+1:=Heap.size_push _ _
 have old:∀b o,s.heap.get? b=some o->((s.heap.push {cls:=.type "list_iterator",data:=.fields #[.ref l,.int 0 0]}).push {cls:=.type "list",data:=.seq #[]}).get? b=some o:=λb o e=>Yi _ (Yi _ e)
 have ne:∀b o,s.heap.get? b=some o->b∉[s.heap.objs.size]/\b≠(s.heap.push {cls:=.type "list_iterator",data:=.fields #[.ref l,.int 0 0]}).objs.size:=λb o e=>by
  have:=Yh e
  refine⟨λz=>?_,λz=>?_⟩
  ·have:b=s.heap.objs.size:=by simpa using z
   exact absurd (Yh e) (by rw[this];exact Yx _)
  ·rw[z,esz]at this
   exact absurd this (Nat.not_lt_of_le (Nat.le_succ _))
 have W:=Walks.list (prog:=prog) (w:=w) (A:=A.in1) hA s.heap.objs.size l n1 (intItems xs)
 have hitm:(intItems xs).size=xs.size:=by simp[intItems]
 refine ZmK W (λi j=>decide (numAt xs i<numAt xs j)) (CmpOf.ints_lt (numAt xs) λi v h=>intItems_at h) _ ?_ "default" d _ s (λz h' tk kp=>?_) (λz v h' tk hv kp=>?_) (intItems xs).size 0 _ _ rfl (Yr _) ⟨?_,?_⟩ (λb o _ _ e=>e) (.inl ⟨rfl,_,Yl _ rfl⟩)
 ·rw[esz]
  simp only[Yk,List.not_mem_nil,or_false,not_or]
  exact⟨Nat.ne_of_gt (Nat.lt_succ_self _),Nat.ne_of_gt (YR hlt)⟩
 ·exact q0 (by omega) h' tk λb o e=>kp b o (ne b o e).1 (ne b o e).2 (old b o e)
 ·exact q1 (by omega) v h' tk (by rw[<-hitm];exact hv) λb o e=>kp b o (ne b o e).1 (ne b o e).2 (old b o e)
 ·exact⟨_,Yi _ (Yl _ rfl),rfl,rfl⟩
 ·obtain⟨o,e,r⟩:=hl
  exact⟨o,old _ _ e,r⟩
section
variable {X:Cx}
noncomputable def tMaxD (K:Frag) (ta td:TA):TE:=fun σ H Q=>ta σ H λvs H1=>td σ H1 λzs H2=>∃(p:Addr) (ns:List Int) (d:Int),vs=[.ref p]/\zs=[.int d]/\SqL K H2 p (ns.map V.int)/\(ns=[]->Q (.int d) H2)/\(ns≠[]->∀m,m∈ns->(∀a∈ns,a<=m)->Q (.int m) H2)
theorem ZpT {K:Frag}{e:Expr}{kws:List Keyword}{ta td:TA}{p pos:Pos} (hK:X.K=K) (hc:X.calm=true) (hg:Gl X "max") (hm:X.mg "max"=none) (ha:PA X [e] ta) (hd:PK X kws td)
  (he:starEach [e] X.env=(false,eval e X.env)::starEach [] X.env:=by rfl) (hpl:(backTo pos (starEach [e] X.env)).any (·.1)=false:=by rfl) (hall:(backToKw pos (keywordEach kws X.env)).all (·.1.isSome)=true:=by rfl)
  (hnn:(backToKw pos (keywordEach kws X.env)).any (·.1.isNone)=false:=by rfl) (hks:(backToKw pos (keywordEach kws X.env)).filterMap (·.1)=[(("default":String):Str)]:=by rfl) (hb:backTo pos (starEach [e] X.env)=(false,eval e X.env)::backTo pos (starEach [] X.env):=by rfl) :
  PE X (.Call (.Name "max" p) [e] kws pos) (tMaxD K ta td):=by
 subst hK
 intro pins s σ H Q I h
 refine wpAny_Call_Name_kw (ZdB I hg hm Zgi ?_)
 refine PyProof.Rows.callWith_kw (thn (ha pos pins s σ H _ I h) λus s1 ⟨vs,H1,I1,r1,q1⟩=>?_) hb hpl hall hnn
 refine thn (hd pos pins s1 σ H1 _ I1 q1) λws s2 ⟨zs,H2,I2,r2,pp,ns,d,e1,e2,hp,q0,qm⟩=>?_
 subst e1 e2
 obtain⟨u,rfl,ru⟩:=r1.one
 obtain⟨v,rfl,rv⟩:=r2.one
 cases(show u=Value.ref pp from ru)
 rw[hks]
 obtain⟨its,rr,pl,hz⟩:=I2.list hp
 obtain⟨ys,e1,e2⟩:=Zho rr
 have hsz:ys.size=ns.length:=by
  have:=congrArg List.length e2
  rw[Yf,YN]at this
  exact this
 refine ZmJ (xs:=ys) (I2.ok.hd hc) (e1▸pl.isList) (λz h' tk k=>?_) (λz v' h' tk hv k=>?_)
 ·exact⟨.int d,H2,I2.kept k,rv,q0 (List.length_eq_zero_iff.mp (by omega))⟩
 ·obtain⟨t,rfl⟩:=intItems_at hv
  obtain⟨h1,h2⟩:=argBest_gt (numAt ys) (ys.size-1)
  refine⟨.int _,H2,I2.kept k,⟨t,rfl⟩,qm (λy=>by have h3:ys.size=0:=(by rw[hsz,y];rfl);omega) _ ?_ λa ha=>?_⟩
  ·rw[numAt_eq,e2];exact getD_mem (by omega)
  ·obtain⟨j,hj,rfl⟩:=mem_getD ha
   rw[<-e2,<-numAt_eq];exact h2 j (by omega)
end
section
variable {X:Cx}
noncomputable def tMinD (K:Frag) (ta td:TA):TE:=fun σ H Q=>ta σ H λvs H1=>td σ H1 λzs H2=>∃(p:Addr) (ns:List Int) (d:Int),vs=[.ref p]/\zs=[.int d]/\SqL K H2 p (ns.map V.int)/\(ns=[]->Q (.int d) H2)/\(ns≠[]->∀m,m∈ns->(∀a∈ns,m<=a)->Q (.int m) H2)
theorem ZpU {K:Frag}{e:Expr}{kws:List Keyword}{ta td:TA}{p pos:Pos} (hK:X.K=K) (hc:X.calm=true) (hg:Gl X "min") (hm:X.mg "min"=none) (ha:PA X [e] ta) (hd:PK X kws td)
  (he:starEach [e] X.env=(false,eval e X.env)::starEach [] X.env:=by rfl) (hpl:(backTo pos (starEach [e] X.env)).any (·.1)=false:=by rfl) (hall:(backToKw pos (keywordEach kws X.env)).all (·.1.isSome)=true:=by rfl)
  (hnn:(backToKw pos (keywordEach kws X.env)).any (·.1.isNone)=false:=by rfl) (hks:(backToKw pos (keywordEach kws X.env)).filterMap (·.1)=[(("default":String):Str)]:=by rfl) (hb:backTo pos (starEach [e] X.env)=(false,eval e X.env)::backTo pos (starEach [] X.env):=by rfl) :
  PE X (.Call (.Name "min" p) [e] kws pos) (tMinD K ta td):=by
 subst hK
 intro pins s σ H Q I h
 refine wpAny_Call_Name_kw (ZdB I hg hm Zji ?_)
 refine PyProof.Rows.callWith_kw (thn (ha pos pins s σ H _ I h) λus s1 ⟨vs,H1,I1,r1,q1⟩=>?_) hb hpl hall hnn
 refine thn (hd pos pins s1 σ H1 _ I1 q1) λws s2 ⟨zs,H2,I2,r2,pp,ns,d,e1,e2,hp,q0,qm⟩=>?_
 subst e1 e2
 obtain⟨u,rfl,ru⟩:=r1.one
 obtain⟨v,rfl,rv⟩:=r2.one
 cases(show u=Value.ref pp from ru)
 rw[hks]
 obtain⟨its,rr,pl,hz⟩:=I2.list hp
 obtain⟨ys,e1,e2⟩:=Zho rr
 have hsz:ys.size=ns.length:=by
  have:=congrArg List.length e2
  rw[Yf,YN]at this
  exact this
 refine ZmM (xs:=ys) (I2.ok.hd hc) (e1▸pl.isList) (λz h' tk k=>?_) (λz v' h' tk hv k=>?_)
 ·exact⟨.int d,H2,I2.kept k,rv,q0 (List.length_eq_zero_iff.mp (by omega))⟩
 ·obtain⟨t,rfl⟩:=intItems_at hv
  obtain⟨h1,h2⟩:=argBest_lt (numAt ys) (ys.size-1)
  refine⟨.int _,H2,I2.kept k,⟨t,rfl⟩,qm (λy=>by have h3:ys.size=0:=(by rw[hsz,y];rfl);omega) _ ?_ λa ha=>?_⟩
  ·rw[numAt_eq,e2];exact getD_mem (by omega)
  ·obtain⟨j,hj,rfl⟩:=mem_getD ha
   rw[<-e2,<-numAt_eq];exact h2 j (by omega)
end
noncomputable def Zax (ns:List Int) (a c:Nat):List Int:=(ns.drop a).take c
theorem Zds {ns:List Int}{a c:Nat} (h:a+c<=ns.length):(Zax ns a c).length=c:=by
 unfold Zax;rw[YO,YY];omega
theorem ZhI {ns:List Int}{a c i:Nat} (h:i<c):nth (Zax ns a c) i=nth ns (a+i):=by
 simp[nth,Zax,Yw,List.getElem?_take,List.getElem?_drop,h]
open Classical in
noncomputable def Zei (f:Nat->Int) (p:Nat):Int:=if h:∃q,Zav f p q then (Classical.choose h:Nat)else -1
open Classical in
noncomputable def ZfS (f:Nat->Int) (n p:Nat):Int:=if h:∃r,ZaH f n p r then (Classical.choose h:Nat)else (n:Int)
theorem ZiN {f:Nat->Int}{p q:Nat} (h:Zav f p q):Zei f p=q:=by
 have hx:∃q,Zav f p q:=⟨q,h⟩
 unfold Zei
 rw[dif_pos hx,(Classical.choose_spec hx).unique h]
theorem Zl4 {f:Nat->Int}{p:Nat} (h:ZdG f p):Zei f p=-1:=by
 unfold Zei
 rw[dif_neg λ⟨q,hq⟩=>hq.no h]
theorem ZmN {f:Nat->Int}{n p r:Nat} (h:ZaH f n p r):ZfS f n p=r:=by
 have hx:∃r,ZaH f n p r:=⟨r,h⟩
 unfold ZfS
 rw[dif_pos hx,(Classical.choose_spec hx).unique h]
theorem ZpV {f:Nat->Int}{n p:Nat} (h:Zeh f n p):ZfS f n p=n:=by
 unfold ZfS
 rw[dif_neg λ⟨q,hq⟩=>hq.no h]
theorem ZfT {f:Nat->Int}{n p:Nat}{e:Int} (h:ZaT f n p e):(ZdG f p\/∃q,Zav f p q)/\(Zeh f n p\/∃r,ZaH f n p r):=by
 rcases h with⟨h1,h2,_⟩|⟨q,h1,h2,_⟩|⟨r,h1,h2,_⟩|⟨q,r,h1,h2,_⟩
 ·exact⟨.inl h1,.inl h2⟩
 ·exact⟨.inr ⟨q,h1⟩,.inl h2⟩
 ·exact⟨.inl h1,.inr ⟨r,h2⟩⟩
 ·exact⟨.inr ⟨q,h1⟩,.inr ⟨r,h2⟩⟩
theorem Zav.over {f:Nat->Int}{p q:Nat} (h:Zav f p q):Over f q p:=.inl ⟨h.1,λr r1 r2=>by
 by_cases z:r=p
 ·rw[z];exact h.2.1
 ·have:=h.2.2 r r1 (by omega);have:=h.2.1;omega⟩
theorem ZaH.over {f:Nat->Int}{n p q:Nat} (h:ZaH f n p q):Over f q p:=.inr ⟨h.1,λr r1 r2=>by
 by_cases z:r=p
 ·rw[z];exact h.2.2.1
 ·have:=h.2.2.2 r (by omega) r2;have:=h.2.2.1;omega⟩
theorem ZoF {ns T:List Int} (hT:Zfi ns T) {p:Nat} (hp:p<ns.length):let L:=(wayI T p).filter λo=>decide (o<(p:Int))
  (L=[]->Zei (nth ns) p=-1)/\(L≠[]->∀m,m∈L->(∀a∈L,a<=m)->m=Zei (nth ns) p):=by
 intro L
 have hL:∀o:Nat,(o:Int)∈L↔o<p/\o<ns.length/\Over (nth ns) o p:=λo=>by
  rw[YL,Zl3 hT hp,decide_eq_true_eq]
  exact⟨λh=>⟨by omega,h.1⟩,λh=>⟨h.2,by omega⟩⟩
 have hN:∀m∈L,∃o:Nat,m=o:=λm hm=>by
  have:=(YL.mp hm).1
  rw[Zkg]at this
  obtain⟨o,_,e⟩:=YH.mp this
  exact⟨o,e.symm⟩
 rcases(ZfT (hT.2 p hp)).1 with h|⟨q,h⟩
 ·refine⟨λ_=>Zl4 h,λhne m hm _=>?_⟩
  obtain⟨o,rfl⟩:=hN m hm
  obtain⟨h1,_,h2⟩:=(hL o).mp hm
  have:=h o h1
  rcases h2 with⟨_,k⟩|⟨z,_⟩
  ·have:=k p h1 (Ye _);omega
  ·omega
 ·have hq:(q:Int)∈L:=(hL q).mpr ⟨h.1,by have:=h.1;omega,h.over⟩
  refine⟨λe=>by rw[e]at hq;simp at hq,λ_ m hm hmax=>?_⟩
  rw[ZiN h]
  obtain⟨o,rfl⟩:=hN m hm
  obtain⟨h1,_,h2⟩:=(hL o).mp hm
  have hqo:=hmax _ hq
  by_cases z:o=q
  ·rw[z]
  ·have:=h.2.2 o (by omega) h1
   rcases h2 with⟨_,k⟩|⟨z,_⟩
   ·have:=k p h1 (Ye _);omega
   ·omega
theorem ZoG {ns T:List Int} (hT:Zfi ns T) {p:Nat} (hp:p<ns.length):let L:=(wayI T p).filter λo=>decide ((p:Int)<o)
  (L=[]->ZfS (nth ns) ns.length p=ns.length)/\(L≠[]->∀m,m∈L->(∀a∈L,m<=a)->m=ZfS (nth ns) ns.length p):=by
 intro L
 have hL:∀o:Nat,(o:Int)∈L↔p<o/\o<ns.length/\Over (nth ns) o p:=λo=>by
  rw[YL,Zl3 hT hp,decide_eq_true_eq]
  exact⟨λh=>⟨by omega,h.1⟩,λh=>⟨h.2,by omega⟩⟩
 have hN:∀m∈L,∃o:Nat,m=o:=λm hm=>by
  have:=(YL.mp hm).1
  rw[Zkg]at this
  obtain⟨o,_,e⟩:=YH.mp this
  exact⟨o,e.symm⟩
 rcases(ZfT (hT.2 p hp)).2 with h|⟨q,h⟩
 ·refine⟨λ_=>ZpV h,λhne m hm _=>?_⟩
  obtain⟨o,rfl⟩:=hN m hm
  obtain⟨h1,h3,h2⟩:=(hL o).mp hm
  have:=h o h1 h3
  rcases h2 with⟨z,_⟩|⟨_,k⟩
  ·omega
  ·have:=k p (Ye _) h1;omega
 ·have hq:(q:Int)∈L:=(hL q).mpr ⟨h.1,h.2.1,h.over⟩
  refine⟨λe=>by rw[e]at hq;simp at hq,λ_ m hm hmin=>?_⟩
  rw[ZmN h]
  obtain⟨o,rfl⟩:=hN m hm
  obtain⟨h1,h3,h2⟩:=(hL o).mp hm
  have hqo:=hmin _ hq
  by_cases z:o=q
  ·rw[z]
  ·have:=h.2.2.2 o h1 (by omega)
   rcases h2 with⟨z,_⟩|⟨_,k⟩
   ·omega
   ·have:=k p (Ye _) h1;omega
noncomputable def Zx (f:Nat->Int) (p:Nat):Int:=if 0<=Zei f p then (p:Int)-Zei f p else 0
noncomputable def ZJ (ns:List Int):List Int:=(List.range ns.length).map (Zx (nth ns))
theorem Z5 (ns:List Int):(ZJ ns).length=ns.length:=by simp[ZJ]
noncomputable def Zba (H:Hp) (l:Addr) (n:Nat) (ps:Nat->Int×Int):Prop:=∃qs:List Addr,H l=some (.lst (qs.map V.ref))/\qs.length=n/\∀(j:Nat) (q:Addr),qs[j]?=some q->H q=some (.tup [.int (ps j).1,.int (ps j).2])
theorem Zba.same {H H':Hp}{l:Addr}{n:Nat}{ps:Nat->Int×Int} (h:Zba H l n ps) (s:Zh H H'):Zba H' l n ps:=by
 obtain⟨qs,h1,h2,h3⟩:=h
 exact⟨qs,s _ _ h1,h2,λj q hq=>s _ _ (h3 j q hq)⟩
theorem Zba.push {H:Hp}{l q:Addr}{n:Nat}{ps:Nat->Int×Int} (h:Zba H l n ps) (hq:H q=some (.tup [.int (ps n).1,.int (ps n).2])):∃xs:List V,H l=some (.lst xs)/\xs.length=n/\Zba (upd H l (.lst (xs++[.ref q]))) l (n+1) ps:=by
 obtain⟨qs,h1,h2,h3⟩:=h
 have hne:∀a o,H a=some (.tup o)->a≠l:=λa o ha z=>by rw[z,h1]at ha;cases ha
 refine⟨_,h1,by simp[h2],qs++[q],by rw[Zb];simp,by simp[h2],λj a ha=>?_⟩
 by_cases z:j<qs.length
 ·rw[YT z]at ha
  have:=h3 j a ha
  rw[Zf (hne _ _ this)];exact this
 ·have hj:=(Yu.mp ha).1
  rw[YE]at hj
  have:j=n:=by simp at hj;omega
  subst this
  rw[Y2 (by omega),h2]at ha
  simp at ha
  rw[<-ha,Zf (hne _ _ hq)];exact hq
theorem Zfm {J:It}{n:Nat}{g:TG}{tb:TS}{D:Ends}{σ:St}{H:Hp} (Pv:Nat->St->Hp->Prop) (h0:Pv 0 σ H) (hgo:∀i σ H,i<n->Pv i σ H->J.go i H) (hstop:∀σ H,Pv n σ H->J.stop n H)
  (hs:∀i x σ H H',i<n->Pv i σ H->J.yld i H x H'->g x σ H' fun σ2 H2=>tb {D with nx:=Pv (i+1),ct:=Pv (i+1),bk:=D.nx} σ2 H2) (hd:∀σ H,Pv n σ H->D.nx σ H):LoopR J g tb D σ H:=by
 refine⟨λi m σ H=>m=n-i/\i<=n/\Pv i σ H,⟨n,by simp,Yr _,h0⟩,?_⟩
 rintro i m σ H ⟨rfl,hi,p⟩
 by_cases hlt:i<n
 ·exact .inr ⟨hgo i σ H hlt p,Pv (i+1),fun σ' H' p'=>⟨n-(i+1),by omega,rfl,hlt,p'⟩,λx H' y=>hs i x σ H H' hlt p y⟩
 ·have:i=n:=by omega
  subst this
  exact .inl ⟨hstop σ H p,hd σ H p⟩
theorem ZoH (L:List Int):L=(List.range L.length).map λi=>L.getD i 0:=by
 refine List.ext_getElem (by simp) λj h1 h2=>?_
 simp[Yw,h1]
theorem ZiO {K:Frag}{a:Addr}{L:List Int}{H1:Hp}{Q:VK}{tt:TT}{σr:St} (P:Int->Bool) (ha:H1 a=some (.lst (L.map V.int))) (hn:L.length<=1000)
  (ht:∀(x:Int) (H:Hp) (R:Bool->Hp->Prop),R (P x) H->tt (some (V.int x)::σr) H R)
  (hk:∀l H',Zh H1 H'->H' l=none->Q (.ref l) (upd H' l (.lst ((L.filter P).map V.int)))) :
  Zj6 (Itl K a) (gName 0) tt (tVar 0) (none::σr) Q H1:=by
 refine ZmF (n:=L.length) (λi=>P (L.getD i 0)) (λi=>V.int (L.getD i 0)) (Yv hn (by decide)) (λi Hx s hi=>⟨_,_,SqL.of (s _ _ ha),Yg (by simpa using hi)⟩) (λHx s=>⟨_,SqL.of (s _ _ ha),by simp⟩) ?_ ?_
 ·rintro i x Hx Hy hi s ⟨rfl,hx⟩
  have ex:=hx _ (SqL.of (s _ _ ha))
  rw[Yp,Yg hi]at ex
  cases ex
  have eg:L.getD i 0=L[i]:=by simp[Yw,hi]
  refine ht _ _ _ ?_
  cases hP:P L[i]with
  |true =>
   rw[Yd rfl]
   exact⟨_,rfl,CF.take hi (by rw[eg];exact hP) (by rw[eg]) s⟩
  |false =>
   rw[Yb (by simp)]
   exact CF.skip hi (by rw[eg];exact hP) s
 ·intro l H' s hl
  have:=hk l H' s hl
  have e:((List.range L.length).filter λi=>P (L.getD i 0)).map (λi=>V.int (L.getD i 0))=(L.filter P).map V.int:=by
   conv=>rhs;rw[ZoH L,List.filter_map,YS]
   rfl
  rw[e];exact this
theorem ZdI (l:List Nat):Zr l=(l.map λq=>((q:Nat):Int)).map V.int:=by simp[Zr,Function.comp_def]
end L2
namespace PySem
open Sem (wp)
end PySem
namespace L2
open PySem PySem.Spec PyProof.Rows PySem.W
section
variable {prog:Program}{w:World}{A:Around}{E:Value->Shared->Prop}{s:Shared}{z TI TO i1 i2 l1 l2:Addr}{k1 k2:Nat}{xs ys:Array Value}{a b:Value}
noncomputable def ZoI (h:Heap) (l:Addr):String:=match h.get? l with
 |some o=>if o.cls=.type "tuple" then "tuple_iterator" else "list_iterator"
 |none=>"list_iterator"
noncomputable abbrev zq1 (h:Heap) (l1:Addr):Heap:=h.push {cls:=.type (ZoI h l1),data:=.fields #[.ref l1,.int 0 0]}
noncomputable abbrev zq2 (h:Heap) (l1 l2:Addr):Heap:=(zq1 h l1).push {cls:=.type (ZoI (zq1 h l1) l2),data:=.fields #[.ref l2,.int 0 0]}
end
theorem Zij {F:Nat->Int}{n k:Nat} (h:k<n):nth ((List.range n).map F) k=F k:=by simp[nth,Yw,h]
noncomputable def CDivL (i j:Int):Prop:=0<j/\j<18446744073709551616
theorem Zej {X:Cx}:OpR X (binaryOp .FloorDiv) (rI CDivL λi j=>.int (i / j)):=opI λi j _ _ _ _ _ hc q=>by
 have h1:(0:Int)<j:=hc.1
 have h2:j<18446744073709551616:=hc.2
 refine floordiv_int (by omega) (by rw[Int.fdiv_eq_ediv_of_nonneg i (by omega)];exact q) (.inl (PyProof.noPylong_of_log2 ?_))
 have h3:j.natAbs<2 ^ 64:=by omega
 have:j.natAbs.log2<64:=(Nat.log2_lt (by omega)).mpr h3
 omega
end L2
namespace L2
theorem snoc_cases {α:Type} (xs:List α):xs=[]\/∃ys y,xs=ys++[y]:=by
 rcases List.eq_nil_or_concat xs with h|⟨ys,y,h⟩
 ·exact .inl h
 ·exact .inr ⟨ys,y,by rw[h,List.concat_eq_append]⟩
end L2
namespace L2
open PySem PySem.Spec PyProof.Rows PySem.W
theorem ZoJ (xs:List V) {a c:Nat} (h1:a<=c) (h2:c<=xs.length):ZcD xs (some (a:Int)) (some (c:Int))=(xs.drop a).take (c-a):=by
 unfold ZcD
 rw[HT.ZlR,HT.ZlR,Nat.min_eq_left h2,Nat.min_eq_left (Yj h1 h2)]
theorem ZfU (ns:List Int) {a c:Nat} (h1:a<=c) (h2:c<=ns.length):ZcD (ns.map V.int) (some (a:Int)) (some (c:Int))=(Zax ns a (c-a)).map V.int:=by
 rw[ZoJ _ h1 (by simpa using h2)]
 unfold Zax
 rw[List.map_take,List.map_drop]
noncomputable def sw (d:Int) (k:Nat):Int:=if d<=k then d else 0
theorem sw_sw {d:Int}{a b:Nat} (h:a<=b):sw (sw d b) a=sw d a:=by
 unfold sw
 by_cases h1:d<=b
 ·rw[Yd h1]
 ·rw[Yb h1,Yd (by omega:(0:Int)<=a),Yb (by omega)]
theorem ZaM (f:Nat->Int) (p:Nat):(ZdG f p/\Zx f p=0)\/∃q,Zav f p q/\Zx f p=(p:Int)-q:=by
 rcases Zjo f p with h|⟨q,h⟩
 ·exact .inl ⟨h,by unfold Zx;rw[Zl4 h,Yb (by omega)]⟩
 ·exact .inr ⟨q,h,by unfold Zx;rw[ZiN h,Yd (by omega)]⟩
theorem ZaU (f:Nat->Int) (p:Nat):0<=Zx f p/\Zx f p<=p:=by
 rcases ZaM f p with⟨_,e⟩|⟨q,h,e⟩
 ·omega
 ·have:=h.1;omega
theorem Zl5 (f:Nat->Int) (p:Nat):sw (Zx f p) p=Zx f p:=Yd (ZaU f p).2
theorem ZgN {f g:Nat->Int}{x i:Nat} (h:∀k,k<=i->g k=f (x+k)):Zx g i=sw (Zx f (x+i)) i:=by
 rcases ZaM f (x+i)with⟨h1,e⟩|⟨q,h1,e⟩
 ·have:ZdG g i:=λk hk=>by rw[h k (by omega),h i (Ye _)];exact h1 (x+k) (by omega)
  rw[e]
  rcases ZaM g i with⟨_,e2⟩|⟨r,h2,_⟩
  ·rw[e2];unfold sw;rw[Yd (by omega)]
  ·exact absurd this (λz=>h2.no z)
 ·rw[e]
  obtain⟨q1,q2,q3⟩:=h1
  unfold sw
  by_cases hx:x<=q
  ·rw[Yd (by omega)]
   have:Zav g i (q-x):=⟨by omega,by rw[h _ (by omega),h i (Ye _),show x+(q-x)=q by omega];exact q2,λr r1 r2=>by rw[h r (by omega),h i (Ye _)];exact q3 (x+r) (by omega) (by omega)⟩
   rcases ZaM g i with⟨h2,_⟩|⟨r,h2,e2⟩
   ·exact(this.no h2).elim
   ·have:=h2.unique this;omega
  ·rw[Yb (by omega)]
   have:ZdG g i:=λk hk=>by rw[h k (by omega),h i (Ye _)];exact q3 (x+k) (by omega) (by omega)
   rcases ZaM g i with⟨_,e2⟩|⟨r,h2,_⟩
   ·exact e2
   ·exact(h2.no this).elim
theorem Zkh {ns:List Int}{a c i:Nat} (h:i<c):Zx (nth (Zax ns a c)) i=sw (Zx (nth ns) (a+i)) i:=ZgN λk hk=>ZhI (by omega)
noncomputable def Mt (f g:Nat->Int) (m p:Nat):Prop:=∀i,i<m->Zx f i=sw (Zx g (p-m+i)) i
theorem Mt.succ {f g:Nat->Int}{m p:Nat} (h:m<=p):Mt f g (m+1) (p+1)↔Mt f g m p/\Zx f m=sw (Zx g p) m:=by
 constructor
 ·intro H
  refine⟨λi hi=>?_,?_⟩
  ·have:=H i (by omega);rw[show p+1-(m+1)+i=p-m+i by omega]at this;exact this
  ·have:=H m (by omega);rw[show p+1-(m+1)+m=p by omega]at this;exact this
 ·rintro⟨H,h2⟩ i hi
  rw[show p+1-(m+1)+i=p-m+i by omega]
  by_cases e:i=m
  ·rw[e,show p-m+m=p by omega];exact h2
  ·exact H i (by omega)
theorem Mt.part {f g:Nat->Int}{m c p:Nat} (hm:m<=c) (hc:c<=p) (h:Mt f g c p):Mt f g m p↔Mt f f m c:=by
 have key:∀j,j<m->sw (Zx f (c-m+j)) j=sw (Zx g (p-m+j)) j:=λj hj=>by
  have:=h (c-m+j) (by omega)
  rw[this,show p-c+(c-m+j)=p-m+j by omega,sw_sw (by omega)]
 constructor
 ·intro H j hj;rw[key j hj];exact H j hj
 ·intro H j hj;rw[<-key j hj];exact H j hj
theorem Mt.zero (f g:Nat->Int) (p:Nat):Mt f g 0 p:=λi hi=>absurd hi (by omega)
theorem Mt.self (f:Nat->Int) (m:Nat):Mt f f m m:=λi hi=>by rw[Nat.sub_self,Nat.zero_add,Zl5]
noncomputable def ZcJ (f:Nat->Int) (k m:Nat):Prop:=m<k/\Mt f f m k/\∀j,m<j->j<k->¬ Mt f f j k
theorem Zjq (f:Nat->Int):Zx f 0=0:=by have:=ZaU f 0;omega
theorem ZpW (d:Int) (h:0<=d):sw d 0=0:=by unfold sw;split<;>omega
noncomputable def Goes (f:Nat->Int) (n s:Nat) (d:Int) (m:Nat):Prop:=m<=s/\Mt f f m s/\m<n/\Zx f m=sw d m/\∀j,m<j->j<=s->Mt f f j s->¬ (j<n/\Zx f j=sw d j)
noncomputable def Walk (f:Nat->Int) (n s:Nat) (d:Int) (c:Nat):Prop:=c<=s/\Mt f f c s/\∀j,c<j->j<=s->Mt f f j s->¬ (j<n/\Zx f j=sw d j)
theorem Walk.start (f:Nat->Int) (n s:Nat) (d:Int):Walk f n s d s:=⟨Ye _,Mt.self f s,λj h1 h2=>absurd h1 (by omega)⟩
theorem Walk.step {f:Nat->Int}{n s:Nat}{d:Int}{c b:Nat} (h:Walk f n s d c) (no:¬ (c<n/\Zx f c=sw d c)) (hb:ZcJ f c b):Walk f n s d b:=by
 obtain⟨h1,h2,h3⟩:=h
 obtain⟨b1,b2,b3⟩:=hb
 refine⟨by omega,(Mt.part (by omega) h1 h2).mpr b2,λj j1 j2 j3=>?_⟩
 rcases Nat.lt_trichotomy j c with z|z|z
 ·exact absurd ((Mt.part (by omega) h1 h2).mp j3) (b3 j j1 z)
 ·rw[z];exact no
 ·exact h3 j z j2 j3
theorem Walk.goes {f:Nat->Int}{n s:Nat}{d:Int}{c:Nat} (h:Walk f n s d c) (ok:c<n/\Zx f c=sw d c):Goes f n s d c:=⟨h.1,h.2.1,ok.1,ok.2,h.2.2⟩
theorem Zki {f:Nat->Int}{n k b m:Nat} (hk:k<n) (hb:ZcJ f k b) (h:Goes f n b (Zx f k) m):ZcJ f (k+1) (m+1):=by
 obtain⟨b1,b2,b3⟩:=hb
 obtain⟨h1,h2,h3,h4,h5⟩:=h
 have hm:Mt f f m k:=(Mt.part (by omega) (by omega) b2).mpr h2
 refine⟨by omega,(Mt.succ (by omega)).mpr ⟨hm,h4⟩,λj j1 j2 j3=>?_⟩
 obtain⟨i,rfl⟩:∃i,j=i+1:=⟨j-1,by omega⟩
 obtain⟨j4,j5⟩:=(Mt.succ (by omega)).mp j3
 have ib:i<=b:=by
  by_cases z:i<=b
  ·exact z
  ·exact absurd j4 (b3 i (by omega) (by omega))
 exact h5 i (by omega) ib ((Mt.part ib (by omega) b2).mp j4) ⟨by omega,j5⟩
theorem Zll (f:Nat->Int):ZcJ f 1 0:=⟨by omega,Mt.zero f f 1,λj h1 h2=>absurd h1 (by omega)⟩
noncomputable def Zbm (f g:Nat->Int) (n p m:Nat):Prop:=m<=n/\m<=p/\Mt f g m p/\∀j,m<j->j<=n->j<=p->¬ Mt f g j p
theorem ZiP {f g:Nat->Int}{n p s m:Nat} (hs:Zbm f g n p s) (h:Goes f n s (Zx g p) m):Zbm f g n (p+1) (m+1):=by
 obtain⟨s1,s2,s3,s4⟩:=hs
 obtain⟨h1,h2,h3,h4,h5⟩:=h
 have hm:Mt f g m p:=(Mt.part h1 s2 s3).mpr h2
 refine⟨by omega,by omega,(Mt.succ (by omega)).mpr ⟨hm,h4⟩,λj j1 j2 j3 j4=>?_⟩
 obtain⟨i,rfl⟩:∃i,j=i+1:=⟨j-1,by omega⟩
 obtain⟨j5,j6⟩:=(Mt.succ (by omega)).mp j4
 have ib:i<=s:=by
  by_cases z:i<=s
  ·exact z
  ·exact absurd j5 (s4 i (by omega) (by omega) (by omega))
 exact h5 i (by omega) ib ((Mt.part ib s2 s3).mp j5) ⟨by omega,j6⟩
theorem ZiQ (f g:Nat->Int) (n:Nat):Zbm f g n 0 0:=⟨by omega,by omega,Mt.zero f g 0,λj h1 h2 h3=>absurd h1 (by omega)⟩
theorem Zgn {ns:List Int}{m:Nat} (h:m<ns.length):nth (ZJ ns) m=Zx (nth ns) m:=Zij h
theorem Zfn {bs:List Nat}{i:Nat} (h:bs.length=i+1):atI (Zr bs) (-1)=some (V.int ((bs.getD i 0:Nat):Int)):=by
 refine ZoE (by rw[ZS];omega) ?_
 rw[ZS,h,Nat.add_sub_cancel]
 simp[Zr,Yw,h]
theorem Zl6 (ns:List Int) {m:Nat} (h:m<=ns.length):ZcD (ns.map V.int) none (some (m:Int))=(Zax ns 0 m).map V.int:=by
 rw[Zgl];unfold Zax;simp[List.map_take]
end L2
namespace L2
open PySem PySem.Spec PyProof.Rows PySem.W
structure FunD (K:PySem.W.Frag) (x qual:Str) (st:Stmt) (f:Addr) (fd:FuncData) (dV:Value):Prop where
 ex:∃(oc:Value) (od:Option Addr) (kV doc pm:Value) (an:Option Addr) (cdv ct:Value) (osl:Array (Option Value)),
  fd=PySem.W.fnOf x qual (defArgs st) (defBody st) (defScope st) dV kV doc pm an cdv ct/\K.lookup f=some ⟨oc,od,.func fd,osl⟩/\PySem.W.codeIn K cdv qual=true
 kp:PySem.W.keepIn K (.ref f)=true
section
variable {P:Program}{w:World}{K:PySem.W.Frag}{mg:Str->Option Value}{base:Heap}
theorem FunD.okX {x qual:Str}{st:Stmt}{f:Addr}{fd:FuncData}{dV:Value}{N ps:List Str}{k:Nat}{sp:Sp} (F:FunD K x qual st f fd dV) (S:FnScope N ps (defScope st)) (len:∀vs H Q E,sp vs H Q E->vs.length=ps.length)
  (hbody:∀(cdv:Value) (A:Around) (outer:List Env) (s:Shared) (H:Hp) (vs:List V) (Q:VK) (E:XK),Room k (A.deeper (envOfC qual (defScope st) s.heap.objs.size f cdv))->sp vs H Q E ->
   ∃t,PSs (Zfg (CXE P w) P w K mg base N qual (defScope st) f cdv A outer s H E) (defBody st) t/\t {nx:=λ_ H'=>Q .non H',rt:=Q} (start N vs) H):FnOk P w K mg base (CXE P w) (k+1) f fd ps sp:=by
 obtain⟨oc,od,kV,doc,pm,an,cdv,ct,osl,rfl,lk,hcd⟩:=F.ex
 exact Zon lk hcd S len λA outer s H vs Q E hr hsp=>hbody cdv A outer s H vs Q E hr hsp
theorem FunD.binds {x qual:Str}{st:Stmt}{f:Addr}{fd:FuncData}{D:Addr}{ps:List Str}{ds:List Value}{oc:Value}{od:Option Addr}{items:Array Value}{ep:Nat}{sl:Array (Option Value)} (F:FunD K x qual st f fd (.ref D))
  (lk:K.lookup D=some ⟨oc,od,.seq items ep,sl⟩)
  (h:∀(kV doc pm:Value) (an:Option Addr) (cdv ct:Value) (us:List Value),(us++ds).length=ps.length->∃k,bindArgs (PySem.W.fnOf x qual (defArgs st) (defBody st) (defScope st) (.ref D) kV doc pm an cdv ct) ⟨us,[]⟩=seqItems? (.ref D) >>= k/\k (some items)=pure (ps.zip (us++ds))):Binds K fd ps ds:=by
 obtain⟨oc,od,kV,doc,pm,an,cdv,ct,osl,rfl,lf,hcd⟩:=F.ex
 intro s us KX hl
 obtain⟨k,h1,h2⟩:=h kV doc pm an cdv ct us hl
 exact BindsTo.of_defaults rfl (KX _ _ lk) rfl h1 h2
theorem ZpX {x qual:Str}{st:Stmt}{f:Addr}{oc:Value}{od an:Option Addr}{osl:Array (Option Value)}{dV kV doc pm cdv ct:Value} (l:K.lookup f=some ⟨oc,od,.func (PySem.W.fnOf x qual (defArgs st) (defBody st) (defScope st) dV kV doc pm an cdv ct),osl⟩)
  (c:PySem.W.codeIn K cdv qual=true) (k:PySem.W.keepIn K (.ref f)=true):FunD K x qual st f (PySem.W.fnOf x qual (defArgs st) (defBody st) (defScope st) dV kV doc pm an cdv ct) dV:=⟨⟨oc,od,kV,doc,pm,an,cdv,ct,osl,rfl,l,c⟩,k⟩
end
noncomputable def ZfV (P:Program) (w:World) (K:Frag) (mg:Str->Option Value) (base:Heap) (x:Str) (k:Nat) (ps:List Str) (dvs:List V) (sp:Sp):Prop :=
 ∃f fd ds,mg x=some (.ref f)/\keepIn K (.ref f)=true/\Binds K fd ps ds/\Vals dvs ds/\FnOk P w K mg base (CXE P w) k f fd ps sp
theorem Ze0 {X:Cx}{x:Str}{k:Nat}{ps:List Str}{dvs:List V}{sp:Sp}{E:XK}{e:Expr}{es:List Expr}{t:TA}{p pos:Pos} (C:ZfV X.prog X.w X.K X.mg X.base x k ps dvs sp) (hr:Room k X.A) (hg:Gl X x) (hx:Passes (CXE X.prog X.w) X E)
  (ha:PA X (e::es) t) (hdb:(x==("__debug__":Str))=false:=by decide) (he:starEach (e::es) X.env=(false,eval e X.env)::starEach es X.env:=by rfl) (hpl:(backTo pos (starEach es X.env)).any (·.1)=false:=by rfl) :
  PE X (.Call (.Name x p) (e::es) [] pos) (tCall sp dvs E t):=by
 obtain⟨f,fd,ds,hm,hk,hb,hv,F⟩:=C
 exact ZlP F hr hg hm hk hb hv hx ha hdb he hpl
open Classical in
noncomputable def Zv (f g:Nat->Int) (n p:Nat):List Nat:=(List.range (p+1-n)).filter λs=>decide (Mt f g n (s+n))
theorem Zdf (f g:Nat->Int) {n p:Nat} (hn:0<n):(n<=p+1->Mt f g n (p+1)->Zv f g n (p+1)=Zv f g n p++[p+1-n])/\(¬ (n<=p+1/\Mt f g n (p+1))->Zv f g n (p+1)=Zv f g n p):=by
 unfold Zv
 by_cases h:n<=p+1
 ·have e:p+1+1-n=(p+1-n)+1:=by omega
  rw[e,YJ,List.filter_append]
  have e2:p+1-n+n=p+1:=by omega
  constructor
  ·intro _ hM;simp[e2,hM]
  ·intro hM
   have:¬ Mt f g n (p+1):=λz=>hM ⟨h,z⟩
   simp[e2,this]
 ·have e:p+1+1-n=p+1-n:=by omega
  rw[e]
  exact⟨λz=>absurd z h,λ_=>rfl⟩
theorem ZdJ (f g:Nat->Int) (n p:Nat):(Zv f g n p).length<=p+1:=by
 unfold Zv
 exact Yj (Y5 _ _) (by simp)
theorem Zc0.exc {Z H H':Hp}{l p:Addr}{rs:List (List Int)} (R:Zc0 Z H l rs) (e:Exc p H H') (hp:Z p≠none):Zc0 Z H' l rs:=by
 obtain⟨as,h1,h2,h3,h4,h5,h6⟩:=R
 exact⟨as,e _ _ (λz=>hp (by rw[<-z];exact h5)) h1,h2,h3,λi i1 i2=>e _ _ (λz=>hp (by rw[<-z];exact h6 _ (Yz _))) (h4 i i1 i2),h5,h6⟩
noncomputable def Once (k:Nat) (ss ls:List Int):Prop:=ss=((List.range k).map λ(j:Nat)=>(j:Int)).filter (λj=>decide (j∉ls))/\ls=((List.range k).map λ(j:Nat)=>(j:Int)).filter (λj=>decide (j∈ls))
noncomputable instance (k:Nat) (ss ls:List Int):Decidable (Once k ss ls):=inferInstanceAs (Decidable (_/\_))
theorem Zdt {K:Frag}{H:Hp}{n:Nat}{a c:Addr}{xs:List V} (h1:H a=some (.lst xs)) (h2:H c=some (.lst [])):EqD K H (n+1) (.ref a) (.ref c) (decide (xs=[])):=by
 cases xs with
 |nil =>
  have:=EqD.lst (K:=K) (H:=H) (n:=n) (λ_=>true) (SqL.of h1) (SqL.of h2) rfl λj x y e1 e2=>by simp at e1
  simpa using this
 |cons x xs =>
  have:=EqD.len (K:=K) (H:=H) (n:=n) (SqL.of h1) (SqL.of h2) (by simp)
  simpa using this
section
variable {N:Nat}{k:Nat->Int}{cmp:Nat->Nat->(Bool->Shared->Prop)->Shared->Prop}{s:Shared}{p:Array Nat}
noncomputable def kk (k:Nat->Int) (p:Array Nat) (i:Nat):Int:=k (p.getD i 0)
end
theorem Zfo (l:List Nat) (y:Nat):atI (Zr (l++[y])) (-1)=some (V.int (y:Nat)):=by
 have:=Zfn (bs:=l++[y]) (i:=l.length) (by simp)
 rw[this];simp[Yw]
theorem ZmO (Y:List Int) (m:Int):atI ((Y++[m]).map V.int) (-1)=some (V.int m):=ZoE (by simp) (by simp)
end L2
namespace L2
open PySem PySem.Spec PyProof.Rows PySem.W
end L2
namespace L2
noncomputable def Ok:Nat->List Nat->Prop
 |_,[]=>True
 |st,d::ds=>d<=st/\Ok (st-d+1) ds
end L2
namespace L2
open PySem PySem.Spec PyProof.Rows PySem.W
end L2
namespace L2
open PySem PySem.Spec PyProof.Rows PySem.W
noncomputable def dg (m:Nat):List Nat:=(Nat.toDigits 10 m).map Char.toNat
noncomputable def Zht (P:Program) (w:World) (K:Frag) (mg:Str->Option Value) (base:Heap) (c:Str) (k:Nat) (ps:List Str) (sp:Sp):Prop :=
 ∃f fd,Mk K (clsAt mg c) f/\mg c=some (.ref (clsAt mg c))/\Binds K fd ps []/\FnOk P w K mg base (CXE P w) k f fd ps sp
noncomputable def Zb9 (P:Program) (w:World) (K:Frag) (mg:Str->Option Value) (base:Heap) (c m:Str) (k:Nat) (ps:List Str) (sp:Sp):Prop :=
 ∃f fd,Cls K (clsAt mg c)/\Meth K (clsAt mg c) m f/\Binds K fd ps []/\FnOk P w K mg base (CXE P w) k f fd ps sp
section
variable {X:Cx}{a:Expr}{ta:TE}{pos:Pos}
noncomputable def tFldC (C:Addr) (ta:TE) (f:Str):TE:=fun σ H Q=>ta σ H λx H1=>∃(o dx:Addr) (fs:List (Str×V)) (v:V),x=.ref o/\H1 o=some (.ins C dx fs)/\fs.lookup f=some v/\Q v H1
theorem Zbb {K:Frag}{C:Addr}{f:Str} (hK:X.K=K) (c:Cls K C) (n:NoAttr K C f) (he:PE X a ta) (hb:attributeBase a f X.env (eval a X.env)=eval a X.env:=by rfl):PE X (.Attribute a f pos) (tFldC C ta f):=by
 subst hK
 intro pins s σ H Q I h
 refine ZpL hb (thn (he pins s σ H _ I h) λu s1 ⟨x,H1,I1,rx,o,dx,fs,v,ex,ea,l,q⟩=>?_)
 subst ex
 obtain rfl:u=Value.ref o:=rx
 exact Zk3 I1 ea c n l λu' s2 I2 ru=>⟨v,H1,I2,ru,q⟩
noncomputable def sFldC (C:Addr) (ta tv:TE) (f:Str):TS:=λD σ H=>tv σ H λy H1=>ta σ H1 λx H2=>∃(o dx:Addr) (fs:List (Str×V)),x=.ref o/\H2 o=some (.ins C dx fs)/\fs.length<1000/\D.nx σ (upd H2 o (.ins C dx (ZG f y fs)))
theorem Zhu {K:Frag}{C:Addr}{f:Str}{value:Expr}{tv:TE}{pos':Pos} (hK:X.K=K) (c:Cls K C) (n:NoAttr K C f) (ha:PE X a ta) (hv:PE X value tv) (hs:swapsWith value (some (.Attribute a f pos')) pos.line X.env=pure false:=by rfl):PS X (.Assign [.Attribute a f pos'] value pos) (sFldC C ta tv f):=by
 subst hK
 intro pins s σ H D I h
 refine plainObj_wpAny_Assign_Attribute (thn (hv pins s σ H _ I h) λu s1 ⟨y,H1,I1,ry,q⟩=>thn (ha pins s1 σ H1 _ I1 q) λov s2 ⟨x,H2,I2,rx,o,dx,fs,ex,ea,l,q2⟩=>?_) hs
 subst ex
 obtain rfl:ov=Value.ref o:=rx
 exact Zk4 I2 ea c n l ry λs3 I3=>⟨σ,_,I3,q2⟩
theorem Zkj {x:Str}{k:Nat}{ps:List Str}{sp:Sp}{E:XK}{e:Expr}{es:List Expr}{t:TA}{p:Pos}{mg:Str->Option Value} (hmg:X.mg=mg) (C:Zht X.prog X.w X.K mg X.base x k ps sp) (hr:Room (k+1) X.A) (hg:Gl X x) (hx:Passes (CXE X.prog X.w) X E)
  (ha:PA X (e::es) t) (hdb:(x==("__debug__":Str))=false:=by decide) (he:starEach (e::es) X.env=(false,eval e X.env)::starEach es X.env:=by rfl) (hpl:(backTo pos (starEach es X.env)).any (·.1)=false:=by rfl) :
  PE X (.Call (.Name x p) (e::es) [] pos) (tMake (clsAt mg x) sp [] E t):=by
 subst hmg
 obtain⟨f,fd,hM,hm,hb,F⟩:=C
 exact ZpN hM F hr hg hm hb .nil hx ha hdb he hpl
theorem ZhJ {c m:Str}{k:Nat}{ps:List Str}{sp:Sp}{E:XK}{e:Expr}{es:List Expr}{t:TA}{apos:Pos}{mg:Str->Option Value} (hmg:X.mg=mg) {pl:Sem Bool} (C:Zb9 X.prog X.w X.K mg X.base c m k ps sp) (hr:Room k X.A) (hx:Passes (CXE X.prog X.w) X E) (he:PE X a ta)
  (ha:PA X (e::es) t) (hst:starEach (e::es) X.env=(false,eval e X.env)::starEach es X.env:=by rfl) (hpl:(backTo pos (starEach es X.env)).any (·.1)=false:=by rfl)
  (ht:eval (.Call (.Attribute a m apos) (e::es) [] pos) X.env=(do
   let ov <-eval a X.env
   standAt apos.atName
   let (f,first) <-holding [ov] (getMethod ov m pl)
   callWith pos f first (backTo pos (starEach (e::es) X.env)) (backToKw pos (keywordEach [] X.env))):=by rfl) :
  PE X (.Call (.Attribute a m apos) (e::es) [] pos) (tMeth (clsAt mg c) m sp [] E ta t):=by
 subst hmg
 obtain⟨f,fd,hc,hm,hb,F⟩:=C
 exact ZpM he hc hm F hr hb .nil hx ha hst hpl ht
theorem ZbU {c m:Str}{k:Nat}{ps:List Str}{sp:Sp}{E:XK}{apos:Pos}{mg:Str->Option Value} (hmg:X.mg=mg) {pl:Sem Bool} (C:Zb9 X.prog X.w X.K mg X.base c m k ps sp) (hr:Room k X.A) (hx:Passes (CXE X.prog X.w) X E) (he:PE X a ta)
  (ht:eval (.Call (.Attribute a m apos) [] [] pos) X.env=(do
   let ov <-eval a X.env
   standAt apos.atName
   let (f,first) <-holding [ov] (getMethod ov m pl)
   callWith pos f first (backTo pos (starEach [] X.env)) (backToKw pos (keywordEach [] X.env))):=by rfl) :
  PE X (.Call (.Attribute a m apos) [] [] pos) (tMeth (clsAt mg c) m sp [] E ta tNil):=by
 subst hmg
 obtain⟨f,fd,hc,hm,hb,F⟩:=C
 exact Zok he hc hm F hr hb .nil hx ht
end
end L2
namespace L2
open PySem PySem.Spec PyProof.Rows
section
variable {κ:Type} [DecidableEq κ]
noncomputable def ZbV (kvs:List (κ×V)) (k:κ):Option V:=(kvs.find? λkv=>decide (kv.1=k)).map (·.2)
noncomputable def putK (kvs:List (κ×V)) (k:κ) (v:V):List (κ×V) :=
 if (kvs.any λkv=>decide (kv.1=k))=true then kvs.map (λkv=>if kv.1=k then (kv.1,v)else kv)else kvs++[(k,v)]
theorem Zcf {p:κ×V}{r:List (κ×V)}{k:κ} (e:p.1=k):ZbV (p::r) k=some p.2:=by simp[ZbV,List.find?_cons,e]
theorem Zcg {p:κ×V}{r:List (κ×V)}{k:κ} (e:¬ p.1=k):ZbV (p::r) k=ZbV r k:=by simp[ZbV,List.find?_cons,e]
theorem ZfW (k:κ):∀kvs:List (κ×V),(kvs.any λkv=>decide (kv.1=k))=(ZbV kvs k).isSome
 |[]=>rfl
 |p::r=>by
  rw[List.any_cons]
  by_cases e:p.1=k
  ·simp only[Zcf e,YW e,Bool.true_or,Option.isSome_some]
  ·rw[Zcg e,YU e,Bool.false_or];exact ZfW k r
theorem ZiR (k j:κ) (y:V):∀kvs:List (κ×V),ZbV kvs k=none->ZbV (kvs++[(k,y)]) j=if j=k then some y else ZbV kvs j
 |[],_=>by
  by_cases e:k=j
  ·rw[Yd e.symm];exact Zcf (p:=(k,y)) e
  ·rw[Yb (λz=>e z.symm)];exact Zcg (p:=(k,y)) e
 |p::r,hn=>by
  rw[List.cons_append]
  have hk:¬ p.1=k:=λz=>by rw[Zcf z]at hn;cases hn
  rw[Zcg hk]at hn
  have ih:=ZiR k j y r hn
  by_cases e:p.1=j
  ·rw[Zcf e,Zcf e,Yb (λz=>hk (e.trans z))]
  ·rw[Zcg e,Zcg e,ih]
theorem Zkk (kvs:List (κ×V)) (k:κ) (v:V):(putK kvs k v).length<=kvs.length+1:=by
 unfold putK
 split
 ·rw[Yf];omega
 ·rw[YE,YF,List.length_nil];omega
theorem ZoK {kvs:List (κ×V)}{k:κ} (v:V) (h:ZbV kvs k=none):putK kvs k v=kvs++[(k,v)]:=by
 unfold putK
 rw[ZfW,h]
 exact Yb (by decide)
theorem Ze5.Zgo {o:Option V}{u:Option Value} (r:Ze5 o u):o.isSome=u.isSome:=by
 cases o with
 |none=>cases u with
  |none=>rfl
  |some _=>exact(show False from r).elim
 |some _=>cases u with
  |none=>exact(show False from r).elim
  |some _=>rfl
theorem KV.val {kvs:List (κ×V)}{vs:List (κ×Value)} (r:KV kvs vs) (k:κ):Ze5 (ZbV kvs k) (valueAt vs k):=by
 unfold KV at r
 induction r with
 |nil=>exact True.intro
 |@cons p q ps qs h t ih =>
  obtain⟨h1,h2⟩:=h
  by_cases e:p.1=k
  ·have e':q.1=k:=h1.symm.trans e
   have b:valueAt (q::qs) k=some q.2:=by simp[valueAt,List.find?_cons,e']
   rw[Zcf e,b];exact h2
  ·have e':¬ q.1=k:=λz=>e (h1.trans z)
   have b:valueAt (q::qs) k=valueAt qs k:=by simp[valueAt,List.find?_cons,e']
   rw[Zcg e,b];exact ih
end
theorem ZoL {P:Program}{w:World}{k:Key}{u:Value} (r:RelV (kV k) u):(ZaS P w).is k u=true:=by
 cases k with
 |inl i=>obtain⟨t,e⟩:=(show ∃t,u=Value.int i t from r);subst e;exact ZjP P w i t
 |inr x=>obtain⟨t,e⟩:=(show ∃t,u=Value.str x t from r);subst e;exact ZjQ P w x t
theorem ZiS {P:Program}{w:World}:∀{ks:List Key}{us:List Value},Vals (ks.map kV) us->ItemsAre (ZaS P w) ks us
 |[],_,r=>by rw[List.map_nil]at r;cases r;exact .nil
 |k::ks,_,r=>by
  rw[YD]at r
  cases r with
  |cons h t=>exact .cons (ZoL h) (ZiS t)
noncomputable abbrev KT (H:Hp):List (List Key×V)->List (List Key×Addr×Value)->Prop:=Paired λp q=>p.1=q.1/\H q.2.1=some (.tup (p.1.map kV))/\RelV p.2 q.2.2
theorem KT.val {H:Hp}{kvs:List (List Key×V)}{xs:List (List Key×Addr×Value)} (r:KT H kvs xs) (k:List Key):Ze5 (ZbV kvs k) ((atKey xs k).map (·.2)):=by
 induction r with
 |nil=>exact True.intro
 |@cons p q ps qs h t ih =>
  obtain⟨h1,_,h2⟩:=h
  by_cases e:p.1=k
  ·have e':q.1=k:=h1.symm.trans e
   have b:atKey (q::qs) k=some q.2:=by simp[atKey,List.find?_cons,e']
   rw[Zcf e,b];exact h2
  ·have e':¬ q.1=k:=λz=>e (h1.trans z)
   have b:atKey (q::qs) k=atKey qs k:=by simp[atKey,List.find?_cons,e']
   rw[Zcg e,b];exact ih
theorem KT.repl {H:Hp}{kvs:List (List Key×V)}{xs:List (List Key×Addr×Value)} (r:KT H kvs xs) (k:List Key) {y:V}{u:Value} (ry:RelV y u) :
  KT H (kvs.map λkv=>if kv.1=k then (kv.1,y)else kv) (xs.map (putAt k u)):=by
 induction r with
 |nil=>exact .nil
 |@cons p q ps qs h t ih =>
  rw[YD,YD]
  refine .cons ?_ ih
  obtain⟨h1,h2,h3⟩:=h
  unfold putAt
  by_cases e:p.1=k
  ·rw[Yd e,Yd (h1.symm.trans e)];exact⟨h1,h2,ry⟩
  ·rw[Yb e,Yb (λz=>e (h1.trans z))];exact⟨h1,h2,h3⟩
theorem KT.put {H:Hp}{kvs:List (List Key×V)}{xs:List (List Key×Addr×Value)} (r:KT H kvs xs) (k:List Key) {b:Addr}{y:V}{u:Value} (hb:H b=some (.tup (k.map kV))) (ry:RelV y u) :
  KT H (putK kvs k y) (storedH xs k b u):=by
 have e:(kvs.any λkv=>decide (kv.1=k))=(atKey xs k).isSome:=by
  rw[ZfW,(r.val k).Zgo,Option.isSome_map]
 unfold putK storedH
 rw[e]
 by_cases q:(atKey xs k).isSome=true
 ·rw[Yd q,Yd q];exact r.repl k ry
 ·rw[Yb q,Yb q];exact Paired.snoc r ⟨rfl,hb,ry⟩
theorem KT.keeps {H H':Hp}{kvs:List (List Key×V)}{xs:List (List Key×Addr×Value)} (r:KT H kvs xs) (ht:∀b ys,H b=some (.tup ys)->H' b=some (.tup ys)):KT H' kvs xs :=
 Paired.mapP r λ_ _ z=>⟨z.1,ht _ _ z.2.1,z.2.2⟩
section
variable {P:Program}{w:World}{H:Hp}{h:Heap}{a:Addr}
theorem rd_of {u:HO} (ok:HOk P w H h) (e:Rd H a u):Zao P w H h a u:=e.ok ok
theorem Zl7 {kvs:List (Key×V)} (ok:HOk P w H h) (e:Rd H a (.dK kvs)):kvs.length<=sizeLine/\(a==sysModules)=false/\∃vs,KV kvs vs/\h.DictOf (ZaS P w) a vs :=
 show Zao P w H h a (.dK kvs)from rd_of ok e
theorem Zjr {ks:List Key} (ok:HOk P w H h) (e:H a=some (.tup (ks.map kV))):(tupleKind (ZaS P w)).is h ks a:=by
 obtain⟨_,its,r,o,h1,h2,n,h3⟩:=(show Zao P w H h a (.tup (ks.map kV))from ok a _ e)
 exact⟨o,its.toArray,n,h1,h2,h3,by simpa using ZiS r⟩
theorem Zkl {kvs:List (List Key×V)} (ok:HOk P w H h) (e:Rd H a (.dT kvs)):kvs.length<=sizeLine/\(a==sysModules)=false /\
  ∃xs,KT H kvs xs/\h.DictOfH (tupleKind (ZaS P w)) a xs:=by
 obtain⟨z,y,xs,r,o,es,ep,h1,h2,h3,h4,h5⟩:=(show Zao P w H h a (.dT kvs)from rd_of ok e)
 refine⟨z,y,xs,r,o,es,ep,h1,h2,h3,h4,λx hx=>?_,h5⟩
 have all:∀{l:List (List Key×V)}{m:List (List Key×Addr×Value)},KT H l m->∀x∈m,(tupleKind (ZaS P w)).is h x.1 x.2.1:=by
  intro l m q
  induction q with
  |nil=>intro x hx;exact nomatch hx
  |@cons p q ps qs hq t ih =>
   intro x hx
   rcases Yk.mp hx with e|hx
   ·subst e
    exact Zjr ok (by rw[<-hq.1];exact hq.2.1)
   ·exact ih x hx
 exact all r x hx
theorem dt_of {kvs:List (List Key×V)} (ok:HOk P w H h) (e:H a=some (.dT kvs)):kvs.length<=sizeLine/\(a==sysModules)=false /\
  ∃xs,KT H kvs xs/\h.DictOfH (tupleKind (ZaS P w)) a xs:=Zkl ok (.inl e)
end
noncomputable def Zik (H:Hp) (a:Addr) (y:V) (r:Option V):Prop :=
 (∃kvs k,Rd H a (.dK kvs)/\y=kV k/\r=ZbV kvs k)\/∃kvs k b,Rd H a (.dT kvs)/\y=.ref b/\H b=some (.tup (k.map kV))/\r=ZbV kvs k
theorem Zik.t {H:Hp}{a b:Addr}{kvs:List (List Key×V)}{k:List Key} (e:H a=some (.dT kvs)) (eb:H b=some (.tup (k.map kV))):Zik H a (.ref b) (ZbV kvs k):=.inr ⟨kvs,k,b,.inl e,rfl,eb,rfl⟩
section
variable {X:Cx}{pins:List (Addr×Obj)}{σ:St}{H:Hp}{s:Shared}{a:Addr}{y v:V}{u r:Value}{o:Option V}{A:Around}{E:Value->Shared->Prop}
theorem Inv.big (I:Inv X pins σ H s):sysModules<s.heap.objs.size:=by
 have h:mainGlobals<s.heap.objs.size:=(I.mod.glob.keeps I.bk).lt
 exact Nat.lt_trans (by decide) h
theorem ZmP {Q:Value->Shared->Prop} (hu:A.units+1<cLine) (I:Inv X pins σ H s) (g:Zik H a y (some v)) (ry:RelV y u) (h:∀w' s',Inv X pins σ H s'->RelV v w'->Q w' s') :
  wpAny (model X.prog X.w) A (getItem (.ref a) u) Q E s:=by
 rcases g with⟨kvs,k,e,ey,l⟩|⟨kvs,k,b,e,ey,eb,l⟩
 ·subst ey
  obtain⟨z,hd,vs,rel,dd⟩:=Zl7 I.hok e
  obtain⟨w',hw,rw'⟩:=Ze5.some_of (v:=v) (o:=valueAt vs k) (by rw[l];exact rel.val k)
  exact wpAny_getItem_of (ZoL ry) dd.mapOf hw (h w' _ (I.tok _) rw')
 ·subst ey
  cases(show u=Value.ref b from ry)
  obtain⟨z,hd,xs,rel,dd⟩:=Zkl I.hok e
  obtain⟨w',hw,rw'⟩:=Ze5.some_of (v:=v) (o:=(atKey xs k).map (·.2)) (by rw[l];exact rel.val k)
  obtain⟨p,hp,hp2⟩:=Option.map_eq_some_iff.mp hw
  refine wpAny_getItem_heap (tupleKind_room_in1 hu) (Zjr I.hok eb) dd hp ?_
  rw[hp2]
  exact h w' _ (I.tok _) rw'
theorem d_in {Q:Value->Shared->Prop} (hu:A.units+1<cLine) (I:Inv X pins σ H s) (g:Zik H a y o) (ry:RelV y u) (h:∀s',Inv X pins σ H s'->Q (.bool o.isSome) s') :
  wpAny (model X.prog X.w) A (compareOp .In u (.ref a)) Q E s:=by
 rcases g with⟨kvs,k,e,ey,l⟩|⟨kvs,k,b,e,ey,eb,l⟩
 ·subst ey
  obtain⟨z,hd,vs,rel,dd⟩:=Zl7 I.hok e
  refine wpAny_in_of (ZoL ry) hd dd.mapOf ?_
  rw[<-(rel.val k).Zgo,<-l]
  exact h _ (I.tok _)
 ·subst ey
  cases(show u=Value.ref b from ry)
  obtain⟨z,hd,xs,rel,dd⟩:=Zkl I.hok e
  refine wpAny_in_heap (tupleKind_room_in1 hu) (Zjr I.hok eb) hd dd ?_
  have q:=(rel.val k).Zgo
  rw[Option.isSome_map]at q
  rw[<-q,<-l]
  exact h _ (I.tok _)
theorem ZpY {h':Heap}{t':Nat}{ob:HO} (I:Inv X pins σ H s) (mu:Mut (H a)) (hs:Heap.SameBut a s.heap h') (he:∃q,h'.get? a=some q) (new:Zao X.prog X.w (upd H a ob) h' a ob) :
  Inv X pins σ (upd H a ob) {s with heap:=h',toks:=t'} :=
 I.write (x:=a) (e:=a) mu (.inl rfl) (λb q hb z=>(hs.2 b hb).trans z) he new
end
noncomputable def NoSl (i:Expr):Prop:=∀ov iv,subscripted i false ov iv=operate [ov,iv] (getItem ov iv)
theorem ZpZ {prog:Program}{w:World}{A:Around}{E:Value->Shared->Prop}{s:Shared}{env:Env}{value slice:Expr}{pos:Pos}{T id:String}{Q:Value->Shared->Prop}
  (hl:typeLookup (.type T) "__getitem__"=pure (some (.builtin id))) (hs:NoSl slice)
  (h:wpAny (model prog w) A (eval value env) (λo s₁=>wpAny (model prog w) A (eval slice env) (λi s₂=>s₂.TypeIs o T/\wpAny (model prog w) A (getItem o i) Q E s₂) E s₁) E s) :
  wpAny (model prog w) A (eval (.Subscript value slice pos) env) Q E s:=by
 refine Subscript_ (YI h (λo s₁ h₁=>YI h₁ (λi s₂ h₂=>?_) λ_ _ x=>x) λ_ _ x=>x)
 obtain⟨hT,h₂⟩:=h₂
 unfold subscriptTail
 refine Ya ?_
 rw[getitemInPython_of_ne hT.not_modules]
 refine Ya (wpAny_specialOf hT hl ?_)
 have fin:wpAny (model prog w) A (subscripted slice false o i) (λr s₃=>wpAny (model prog w) A (letTemporaryGo value o r >>= λ_=>pure r) Q E s₃) E s₂:=by
  rw[hs o i]
  exact wpAny_operating (YI h₂ (λr s₃ h₃=>Ya (wpAny_letTemporaryGo (Yc h₃))) λ_ _ x=>x)
 first
  |exact Yc (Ya fin)
  |exact Ya (Yc (Ya fin))
  |exact Ya fin
theorem Zkm {X:Cx}{pins:List (Addr×Obj)}{σ:St}{H:Hp}{s:Shared}{a:Addr}{y:V}{o:Option V} (I:Inv X pins σ H s) (g:Zik H a y o):s.TypeIs (.ref a) "dict":=by
 rcases g with⟨kvs,k,e,_,_⟩|⟨kvs,k,b,e,_,_,_⟩
 ·obtain⟨_,_,vs,_,dd⟩:=Zl7 I.hok e
  exact dd.typeIs
 ·obtain⟨_,_,xs,_,dd⟩:=Zkl I.hok e
  exact dd.typeIs
noncomputable def tDGet (td ty:TE):TE:=fun σ H Q=>td σ H λx H1=>ty σ H1 λy H2=>∃a v,x=.ref a/\Zik H2 a y (some v)/\Q v H2
noncomputable def tDIn (ty td:TE):TE:=fun σ H Q=>ty σ H λy H1=>td σ H1 λx H2=>∃a o,x=.ref a/\Zik H2 a y o/\Q (.bl o.isSome) H2
section
variable {X:Cx}{o i e value:Expr}{pos pos' tpos:Pos}{td ty tv:TE}
theorem Zl8 (hu:X.A.units+1<cLine) (ho:PE X o td) (hi:PE X i ty) (hs:NoSl i):PE X (.Subscript o i pos) (tDGet td ty):=by
 intro pins s σ H Q I h
 refine ZpZ PySem.F.slot_dict_getitem.lookup hs (thn (ho pins s σ H _ I h) λu s1 ⟨x,H1,I1,rx,q1⟩=>thn (hi pins s1 σ H1 _ I1 q1) λiv s2 ⟨y,H2,I2,ry,a,v,ex,g,q2⟩=>?_)
 subst ex
 obtain rfl:u=Value.ref a:=rx
 exact⟨Zkm I2 g,ZmP hu I2 g ry λw' s3 I3 rw'=>⟨v,H2,I3,rw',q2⟩⟩
theorem pc_din (hu:X.A.units+1<cLine) (hi:PE X i ty) (ho:PE X o td):PC X .In i o (tDIn ty td):=by
 intro pins s σ H Q I h
 refine thn (hi pins s σ H _ I h) λiv s1 ⟨y,H1,I1,ry,q1⟩=>thn (ho pins s1 σ H1 _ I1 q1) λu s2 ⟨x,H2,I2,rx,a,ov,ex,g,q2⟩=>?_
 subst ex
 obtain rfl:u=Value.ref a:=rx
 exact d_in hu I2 g ry λs3 I3=>⟨.bl ov.isSome,H2,I3,rfl,q2⟩
end
theorem ZoM {P:Program}{w:World}{H:Hp} (h:Heap) (hb:sysModules<h.objs.size):Zao P w H (h.push {cls:=.type "dict",data:=.dict #[]}) h.objs.size (.dT []) :=
 ⟨Yr _,beq_eq_false_iff_ne.mpr (Ne.symm (Yo hb)),[],.nil,_,#[],0,Yl _ rfl,⟨rfl,rfl,rfl⟩,rfl,rfl,List.nodup_nil⟩
noncomputable def tDNewT:TE:=λ_ H Q=>∀p,H p=none->Q (.ref p) (upd H p (.dT []))
section
variable {X:Cx}{pos:Pos}
theorem Zkn:PE X (.Dict [] [] pos) tDNewT:=λpins s σ H Q I h =>
 wpAny_Dict_empty ⟨.ref s.heap.objs.size,_,I.laid (a:=s.heap.objs.size) (o:=.dT []) (t':=s.toks) (λ_ _ q=>Yi _ q) (Ye _) (ZoM s.heap I.big),rfl,h _ (I.hok.fresh (Ye _))⟩
end
structure M2 (X:Cx) (o:Expr) (m:Str) (apos:Pos) (e f:Expr) (cpos:Pos):Prop where
 base:attributeBase o m X.env (eval o X.env)=eval o X.env
 few:((backTo cpos (starEach [e,f] X.env)).all (λx=>!x.1)&&(backToKw cpos (keywordEach [] X.env)).all (λx=>x.1.isSome)
  && decide (([e,f]:List Expr).length+([]:List Keyword).length+(if ([]:List Keyword).isEmpty then 0 else 1)<30))=true
 line:(apos.endLine==cpos.line)=true
 trees:backTo cpos (starEach [e,f] X.env)=[(false,eval e X.env),(false,eval f X.env)]
noncomputable def IsD (H:Hp) (a:Addr):Prop:=(∃kvs,Rd H a (.dK kvs))\/∃kvs,Rd H a (.dT kvs)
theorem ZoN {X:Cx}{pins:List (Addr×Obj)}{σ:St}{H:Hp}{s:Shared}{a:Addr} (I:Inv X pins σ H s) (d:IsD H a) :
  s.TypeIs (.ref a) "dict"/\(∀b,Value.ref a=.ref b->∃ob,s.heap.get? b=some ob/\ob.dict=none)/\(a==sysModules)=false:=by
 rcases d with⟨kvs,e⟩|⟨kvs,e⟩
 ·obtain⟨_,hd,vs,_,dd⟩:=Zl7 I.hok e
  refine⟨dd.typeIs,λb q=>?_,hd⟩
  cases q
  obtain⟨ob,_,_,h1,h2,_⟩:=dd
  exact⟨ob,h1,h2.2.1⟩
 ·obtain⟨_,hd,xs,_,dd⟩:=Zkl I.hok e
  refine⟨dd.typeIs,λb q=>?_,hd⟩
  cases q
  obtain⟨ob,_,_,h1,h2,_⟩:=dd
  exact⟨ob,h1,h2.2.1⟩
section
variable {κ:Type} [DecidableEq κ]
theorem Zko {kvs:List (κ×V)}{k:κ} (h:ZbV kvs k=none):¬ k∈kvs.map (·.1):=by
 intro m
 obtain⟨p,hp,e⟩:=YH.mp m
 have q:(kvs.any λkv=>decide (kv.1=k))=true:=List.any_eq_true.mpr ⟨p,hp,YW e⟩
 rw[ZfW,h]at q
 exact absurd q (by simp)
theorem Zl9:∀{l:List κ}{k:κ},l.Nodup->¬ k∈l->(l++[k]).Nodup
 |[],k,_,_=>by simp
 |a::r,k,h,hk=>by
  obtain⟨h1,h2⟩:=List.nodup_cons.mp h
  show(a::(r++[k])).Nodup
  refine List.nodup_cons.mpr ⟨λm=>?_,Zl9 h2 λm=>hk (Yk.mpr (Or.inr m))⟩
  rcases Yy.mp m with q|q
  ·exact h1 q
  ·exact hk (Yk.mpr (Or.inl (YG.mp q).symm))
end
end L2
namespace L2
open PySem PySem.Spec PyProof.Rows PySem.W PySem.Calls
end L2
namespace L2
open PySem PySem.Spec PyProof.Rows PySem.W
theorem Zp0 {M:Program}{w:World}{A:Around}{E:Value->Shared->Prop}{s:Shared}{t b:Addr}{vs ws:List Value}{Q:Value->Shared->Prop} (ht:IsTup s.heap t vs.toArray) (hb:IsTup s.heap b ws.toArray) (hv:vs=[]) (h:Q (.ref b) s):wpAny (model M w) A (binaryOp .Add (.ref t) (.ref b)) Q E s:=by
 obtain⟨⟨k1,d1,x1,l1⟩,e1,c1,n1,y1⟩:=id ht
 obtain⟨⟨k2,d2,x2,l2⟩,e2,c2,n2,y2⟩:=id hb
 simp only at c1 y1 c2 y2
 subst c1 y1 c2 y2
 exact concat_meets ⟨_,e1,rfl⟩ ⟨_,e2,rfl⟩ noFill_tuple_add seq_tuple_add PySem.F.slot_tuple_add PySem.F.entry_tuple_add (PySem.F.args_tuple_add_2 _ _) (tuple_addW0 t b vs.toArray ws.toArray n1 n2 d1 d2 l1 l2 (by simp[hv])) ⟨e1,e2,h⟩
section
variable {X:Cx}
noncomputable def rCatU:R2:=λx y H Q=>∃(a b:Addr) (xs ys:List V),x=.ref a/\y=.ref b/\H a=some (.tup xs)/\H b=some (.tup ys)/\xs.length+ys.length<=sizeLine/\∀(p:Addr) H',Zh H H'->H' p=some (.tup (xs++ys))->Q (.ref p) H'
theorem Zp1:OpR X (binaryOp .Add) rCatU:=by
 intro pins s σ H x y v u Q I rx ry h
 obtain⟨a,b,xs,ys,rfl,rfl,ha,hb,hz,q⟩:=h
 cases rx
 cases ry
 obtain⟨its,r1,p1,_⟩:=I.tuple (SqT.of ha)
 obtain⟨its2,r2,p2,_⟩:=I.tuple (SqT.of hb)
 by_cases hx:xs=[]
 ·exact Zp0 p1 p2 (r1.Zi8.mpr hx) ⟨.ref b,H,I,rfl,q b H (Zh.refl H) (by rw[hx];exact hb)⟩
 refine HT.ZpO p1 p2 (λz=>hx (r1.Zi8.mp z)) (λz=>⟨.ref a,H,I,rfl,q a H (Zh.refl H) (by rw[r2.Zi8.mp z,List.append_nil];exact ha)⟩) (λz=>?_) (by rw[<-r1.length,<-r2.length];exact hz)
 refine⟨.ref s.heap.objs.size,_,I.laid (t':=s.toks) (o:=.tup (xs++ys)) (λb ob q=>Yi _ q) (Ye _) ?_,rfl,q _ _ ((Zh.refl H).upd (I.hok.fresh (Ye _))) Zb⟩
 exact⟨by rw[YE];exact hz,_,r1.append r2,IsTup.new _ _⟩
end
theorem Zkp {a:List Int}{x:Int}{p:Nat} (h:p<a.length):nth (a++[x]) p=nth a p:=by simp[nth,Yw,YT h]
noncomputable abbrev ZbW (h:Heap) (T:Addr) (a b c:Value):Prop:=h.get? T=some {cls:=.type "tuple",data:=.seq #[a,b,c]}
structure Apart3 (z TI TO i j k a b c:Addr):Prop where
 own:z≠TI/\z≠TO/\z≠i/\z≠j/\z≠k/\TI≠TO/\TI≠i/\TI≠j/\TI≠k/\TO≠i/\TO≠j/\TO≠k/\i≠j/\i≠k/\j≠k
 la:a≠z/\a≠TO/\a≠i/\a≠j/\a≠k
 lb:b≠z/\b≠TO/\b≠i/\b≠j/\b≠k
 lc:c≠z/\c≠TO/\c≠i/\c≠j/\c≠k
section
variable {s:Shared}{prog:Program}{w:World}{A:Around}{E:Value->Shared->Prop}
theorem Zek {T:Addr}{a b c x:Value}{n:Nat}{Q:Unit->Shared->Prop} (e:ZbW s.heap T a b c)
  (h:∀h',h'.get? T=some {cls:=.type "tuple",data:=.seq ((#[a,b,c]:Array Value).setIfInBounds n x)}->Heap.SameBut T s.heap h'->Q () {s with heap:=h'}) :
  wpAny (model prog w) A (updateSeq T (·.setIfInBounds n x)) Q E s:=by
 refine wpAny_updateSeq e rfl (h _ ?_ (Heap.SameBut.update ..))
 rw[Heap.get?_update_self _ e rfl]
 simp[Obj.mapSeq]
theorem ZmQ {z TI TO i j k a b c:Addr}{n:Nat}{xs ys us:Array Value}{x y u p q r:Value}{Q:Value->Shared->Prop} (D:Apart3 z TI TO i j k a b c)
  (zz:IsZip s.heap z TI TO .none) (tI:ZbW s.heap TI (.ref i) (.ref j) (.ref k)) (tO:ZbW s.heap TO p q r)
  (gi:s.heap.IsListIter i a n) (gj:s.heap.IsListIter j b n) (gk:s.heap.IsListIter k c n) (la:s.heap.IsList a xs) (lb:s.heap.IsList b ys) (lc:s.heap.IsList c us) (ex:xs[n]?=some x) (ey:ys[n]?=some y) (eu:us[n]?=some u)
  (hQ:∀h',IsZip h' z TI TO (rawInt s.heap.objs.size)->ZbW h' TO x y u->h'.IsListIter i a (n+1)->h'.IsListIter j b (n+1)->h'.IsListIter k c (n+1)->ZbW h' s.heap.objs.size x y u ->
   (∀d o,d≠z->d≠TO->d≠i->d≠j->d≠k->s.heap.get? d=some o->h'.get? d=some o)->Q (.ref s.heap.objs.size) {s with heap:=h'}):wpAny (model prog w) A (Builtin.«zip.__next__» ⟨[.ref z],[]⟩) (λfin s'=>∃v,fin=.done (.ret v)/\Q v s') E s:=by
 obtain⟨⟨zI,zO,zi,zj,zk,IO,Ii,Ij,Ik,Oi,Oj,Ok,ij,ik,jk⟩,⟨az,aO,ai,aj,ak⟩,⟨bz,bO,bi,bj,bk⟩,⟨cz,cO,ci,cj,ck⟩⟩:=D
 refine show wpAny _ _ (field (.ref z) 2 >>= _) _ _ _ from Ya (wpAny_field zz rfl (x:=.bool false) rfl ?_)
 refine show wpAny _ _ (field (.ref z) 3 >>= _) _ _ _ from Ya (wpAny_field zz rfl (x:=.ref TI) rfl ?_)
 refine Ya (wpAny_seqItems tI rfl ?_)
 refine show wpAny _ _ (Builtin.SmallTypes.ownedTupleIsFree (.ref z) >>= _) _ _ _ from Ya ?_
 delta Builtin.SmallTypes.ownedTupleIsFree
 refine Ya (wpAny_field zz rfl (x:=.none) rfl (Yc ?_))
 simp only[if_true]
 refine Ya <| wpAny_rule ?_
 refine Ya (wpAny_field zz rfl (x:=.ref TO) rfl ?_)
 refine Ya (wpAny_setField_rec zz (by simp) λh1 z1 s1=>?_)
 replace z1:IsZip h1 z TI TO .ellipsis:=z1
 refine Ya ?_
 simp only[List.forIn_cons,List.forIn_nil,List.zipIdx_cons,List.zipIdx_nil]
 refine Ya <| Ya <| wpAny_onRaise ?_
 show wpAny _ _ (Builtin.SmallTypes.nextOf (.ref i) >>= _) _ _ _
 refine Ya (wpAny_nextOf_list_item (gi.extBut s1.extBut zi.symm) (la.extBut s1.extBut az) ex λh2 i2 s2=>Yc ?_)
 have o2:ZbW h2 TO p q r:=s2.extBut _ _ Oi (s1.extBut _ _ zO.symm tO)
 refine Ya (wpAny_seqItems o2 rfl ?_)
 refine Ya (Zek o2 λh3 o3 s3=>?_)
 replace o3:ZbW h3 TO x q r:=o3
 refine Ya <| wpAny_letGo <| Yc ?_
 refine Ya <| Ya <| wpAny_onRaise ?_
 show wpAny _ _ (Builtin.SmallTypes.nextOf (.ref j) >>= _) _ _ _
 refine Ya (wpAny_nextOf_list_item (((gj.extBut s1.extBut zj.symm).extBut s2.extBut ij.symm).extBut s3.extBut Oj.symm) (((lb.extBut s1.extBut bz).extBut s2.extBut bi).extBut s3.extBut bO) ey λh4 j4 s4=>Yc ?_)
 have o4:ZbW h4 TO x q r:=s4.extBut _ _ Oj o3
 refine Ya (wpAny_seqItems o4 rfl ?_)
 refine Ya (Zek o4 λh5 o5 s5=>?_)
 replace o5:ZbW h5 TO x y r:=o5
 refine Ya <| wpAny_letGo <| Yc ?_
 refine Ya <| Ya <| wpAny_onRaise ?_
 show wpAny _ _ (Builtin.SmallTypes.nextOf (.ref k) >>= _) _ _ _
 refine Ya (wpAny_nextOf_list_item (((((gk.extBut s1.extBut zk.symm).extBut s2.extBut ik.symm).extBut s3.extBut Ok.symm).extBut s4.extBut jk.symm).extBut s5.extBut Ok.symm) (((((lc.extBut s1.extBut cz).extBut s2.extBut ci).extBut s3.extBut cO).extBut s4.extBut cj).extBut s5.extBut cO) eu λh6 k6 s6=>Yc ?_)
 have o6:ZbW h6 TO x y r:=s6.extBut _ _ Ok o5
 refine Ya (wpAny_seqItems o6 rfl ?_)
 refine Ya (Zek o6 λh7 o7 s7=>?_)
 replace o7:ZbW h7 TO x y u:=o7
 refine Ya <| wpAny_letGo <| Yc <| Yc ?_
 refine Ya (wpAny_seqItems o7 rfl ?_)
 refine Ya <| wpAny_newTuple ?_
 have size:h7.objs.size=s.heap.objs.size:=by rw[s7.1,s6.1,s5.1,s4.1,s3.1,s2.1,s1.1]
 have z7:IsZip h7 z TI TO .ellipsis:=s7.extBut _ _ zO (s6.extBut _ _ zk (s5.extBut _ _ zO (s4.extBut _ _ zj (s3.extBut _ _ zO (s2.extBut _ _ zi z1)))))
 have keep:∀d o,d≠z->d≠TO->d≠i->d≠j->d≠k->s.heap.get? d=some o->h7.get? d=some o:=λd o d1 d2 d3 d4 d5 e =>
  s7.extBut _ _ d2 (s6.extBut _ _ d5 (s5.extBut _ _ d2 (s4.extBut _ _ d4 (s3.extBut _ _ d2 (s2.extBut _ _ d3 (s1.extBut _ _ d1 e))))))
 have i7:h7.IsListIter i a (n+1):=((((i2.extBut s3.extBut Oi.symm).extBut s4.extBut ij).extBut s5.extBut Oi.symm).extBut s6.extBut ik).extBut s7.extBut Oi.symm
 have j7:h7.IsListIter j b (n+1):=((j4.extBut s5.extBut Oj.symm).extBut s6.extBut jk).extBut s7.extBut Oj.symm
 have k7:h7.IsListIter k c (n+1):=k6.extBut s7.extBut Ok.symm
 have zlt:z<h7.objs.size:=Yh z7
 show wpAny _ _ (Builtin.SmallTypes.ownedTupleHandOut (.ref z) (.ref h7.objs.size) >>= _) _ _ _
 refine Ya ?_
 delta Builtin.SmallTypes.ownedTupleHandOut
 have z8:IsZip (h7.push {cls:=.type "tuple",data:=.seq #[x,y,u]}) z TI TO .ellipsis:=Yi _ z7
 refine Ya (wpAny_setField_rec z8 (by simp) λh9 z9 s9=>?_)
 replace z9:IsZip h9 z TI TO (rawInt h7.objs.size):=z9
 refine wpAny_setField_rec z9 (by simp) λh10 z10 s10=>?_
 replace z10:IsZip h10 z TI TO (rawInt h7.objs.size):=z10
 have up:∀d o,d≠z->h7.get? d=some o->h10.get? d=some o:=λd o d1 e=>s10.extBut _ _ d1 (s9.extBut _ _ d1 (Yi _ e))
 have t10:ZbW h10 h7.objs.size x y u:=s10.extBut _ _ (Nat.ne_of_gt zlt) (s9.extBut _ _ (Nat.ne_of_gt zlt) (Yl _ rfl))
 rw[size]at z10 t10
 refine Yc ⟨.ref h7.objs.size,rfl,?_⟩
 show Q (.ref h7.objs.size) _
 rw[size]
 exact hQ h10 z10 (up _ _ zO.symm o7) (i7.at λo e=>up _ o zi.symm e) (j7.at λo e=>up _ o zj.symm e) (k7.at λo e=>up _ o zk.symm e) t10 λd o d1 d2 d3 d4 d5 e=>up d o d1 (keep d o d1 d2 d3 d4 d5 e)
theorem ZoO {z TI TO i j k a b c:Addr}{n:Nat}{xs ys us:Array Value}{p q r:Value}{Q:Fin->Shared->Prop} (hh:A.handled=none) (D:Apart3 z TI TO i j k a b c)
  (zz:IsZip s.heap z TI TO .none) (tI:ZbW s.heap TI (.ref i) (.ref j) (.ref k)) (tO:ZbW s.heap TO p q r)
  (gi:s.heap.IsListIter i a n) (gj:s.heap.IsListIter j b n) (gk:s.heap.IsListIter k c n) (la:s.heap.IsList a xs) (lb:s.heap.IsList b ys) (lc:s.heap.IsList c us) (no:xs[n]?=none\/ys[n]?=none\/us[n]?=none)
  (hE:∀h' e,(∀d o,d≠z->d≠TO->d≠i->d≠j->d≠k->s.heap.get? d=some o->h'.get? d=some o)->(∃o,h'.get? e=some o/\o.cls=.type "StopIteration")->E (.ref e) {s with heap:=h'}):wpAny (model prog w) A (Builtin.«zip.__next__» ⟨[.ref z],[]⟩) Q E s:=by
 obtain⟨⟨zI,zO,zi,zj,zk,IO,Ii,Ij,Ik,Oi,Oj,Ok,ij,ik,jk⟩,⟨az,aO,ai,aj,ak⟩,⟨bz,bO,bi,bj,bk⟩,⟨cz,cO,ci,cj,ck⟩⟩:=D
 refine show wpAny _ _ (field (.ref z) 2 >>= _) _ _ _ from Ya (wpAny_field zz rfl (x:=.bool false) rfl ?_)
 refine show wpAny _ _ (field (.ref z) 3 >>= _) _ _ _ from Ya (wpAny_field zz rfl (x:=.ref TI) rfl ?_)
 refine Ya (wpAny_seqItems tI rfl ?_)
 refine show wpAny _ _ (Builtin.SmallTypes.ownedTupleIsFree (.ref z) >>= _) _ _ _ from Ya ?_
 delta Builtin.SmallTypes.ownedTupleIsFree
 refine Ya (wpAny_field zz rfl (x:=.none) rfl (Yc ?_))
 simp only[if_true]
 refine Ya <| wpAny_rule ?_
 refine Ya (wpAny_field zz rfl (x:=.ref TO) rfl ?_)
 refine Ya (wpAny_setField_rec zz (by simp) λh1 z1 s1=>?_)
 replace z1:IsZip h1 z TI TO .ellipsis:=z1
 refine Ya ?_
 simp only[List.forIn_cons,List.forIn_nil,List.zipIdx_cons,List.zipIdx_nil]
 refine Ya <| Ya <| wpAny_onRaise ?_
 show wpAny _ _ (Builtin.SmallTypes.nextOf (.ref i) >>= _) _ _ _
 rcases ex:xs[n]? with _|x
 ·refine Ya (wpAny_nextOf_list_end hh (gi.extBut s1.extBut zi.symm) (la.extBut s1.extBut az) ex λh2 e s2 ⟨oe,he,ce⟩=>?_)
  have z2:IsZip h2 z TI TO .ellipsis:=s2 _ _ zi z1
  have ez:e≠z:=λy=>by subst y;rw[z2]at he;cases he;simp at ce
  exact wpAny_setField_rec z2 (by simp) λh3 _ s3=>hE h3 e (λd o d1 _ d3 _ _ y=>s3.extBut _ _ d1 (s2 _ _ d3 (s1.extBut _ _ d1 y))) ⟨oe,s3.extBut _ _ ez he,ce⟩
 refine Ya (wpAny_nextOf_list_item (gi.extBut s1.extBut zi.symm) (la.extBut s1.extBut az) ex λh2 i2 s2=>Yc ?_)
 have o2:ZbW h2 TO p q r:=s2.extBut _ _ Oi (s1.extBut _ _ zO.symm tO)
 refine Ya (wpAny_seqItems o2 rfl ?_)
 refine Ya (Zek o2 λh3 o3 s3=>?_)
 replace o3:ZbW h3 TO x q r:=o3
 refine Ya <| wpAny_letGo <| Yc ?_
 refine Ya <| Ya <| wpAny_onRaise ?_
 show wpAny _ _ (Builtin.SmallTypes.nextOf (.ref j) >>= _) _ _ _
 have gj3:=((gj.extBut s1.extBut zj.symm).extBut s2.extBut ij.symm).extBut s3.extBut Oj.symm
 have lb3:=((lb.extBut s1.extBut bz).extBut s2.extBut bi).extBut s3.extBut bO
 have z3:IsZip h3 z TI TO .ellipsis:=s3.extBut _ _ zO (s2.extBut _ _ zi z1)
 have k3:∀d o,d≠z->d≠TO->d≠i->s.heap.get? d=some o->h3.get? d=some o:=λd o d1 d2 d3 y=>s3.extBut _ _ d2 (s2.extBut _ _ d3 (s1.extBut _ _ d1 y))
 rcases ey:ys[n]? with _|y
 ·refine Ya (wpAny_nextOf_list_end hh gj3 lb3 ey λh4 e s4 ⟨oe,he,ce⟩=>?_)
  have z4:IsZip h4 z TI TO .ellipsis:=s4 _ _ zj z3
  have ez:e≠z:=λy=>by subst y;rw[z4]at he;cases he;simp at ce
  exact wpAny_setField_rec z4 (by simp) λh5 _ s5=>hE h5 e (λd o d1 d2 d3 d4 _ y=>s5.extBut _ _ d1 (s4 _ _ d4 (k3 d o d1 d2 d3 y))) ⟨oe,s5.extBut _ _ ez he,ce⟩
 refine Ya (wpAny_nextOf_list_item gj3 lb3 ey λh4 j4 s4=>Yc ?_)
 have o4:ZbW h4 TO x q r:=s4.extBut _ _ Oj o3
 refine Ya (wpAny_seqItems o4 rfl ?_)
 refine Ya (Zek o4 λh5 o5 s5=>?_)
 refine Ya <| wpAny_letGo <| Yc ?_
 refine Ya <| Ya <| wpAny_onRaise ?_
 show wpAny _ _ (Builtin.SmallTypes.nextOf (.ref k) >>= _) _ _ _
 have eu:us[n]?=none:=by
  rcases no with h|h|h
  ·rw[ex]at h;cases h
  ·rw[ey]at h;cases h
  ·exact h
 refine Ya (wpAny_nextOf_list_end hh (((((gk.extBut s1.extBut zk.symm).extBut s2.extBut ik.symm).extBut s3.extBut Ok.symm).extBut s4.extBut jk.symm).extBut s5.extBut Ok.symm) (((((lc.extBut s1.extBut cz).extBut s2.extBut ci).extBut s3.extBut cO).extBut s4.extBut cj).extBut s5.extBut cO) eu λh6 e s6 ⟨oe,he,ce⟩=>?_)
 have z6:IsZip h6 z TI TO .ellipsis:=s6 _ _ zk (s5.extBut _ _ zO (s4.extBut _ _ zj z3))
 have ez:e≠z:=λy=>by subst y;rw[z6]at he;cases he;simp at ce
 exact wpAny_setField_rec z6 (by simp) λh7 _ s7=>hE h7 e (λd o d1 d2 d3 d4 d5 y=>s7.extBut _ _ d1 (s6 _ _ d5 (s5.extBut _ _ d2 (s4.extBut _ _ d4 (k3 d o d1 d2 d3 y))))) ⟨oe,s7.extBut _ _ ez he,ce⟩
theorem ZmR {z TI TO i j k a b c:Addr}{n:Nat}{xs ys us:Array Value}{x y u p q r:Value}{Q:Option Value->Shared->Prop} (D:Apart3 z TI TO i j k a b c)
  (zz:IsZip s.heap z TI TO .none) (tI:ZbW s.heap TI (.ref i) (.ref j) (.ref k)) (tO:ZbW s.heap TO p q r)
  (gi:s.heap.IsListIter i a n) (gj:s.heap.IsListIter j b n) (gk:s.heap.IsListIter k c n) (la:s.heap.IsList a xs) (lb:s.heap.IsList b ys) (lc:s.heap.IsList c us) (ex:xs[n]?=some x) (ey:ys[n]?=some y) (eu:us[n]?=some u)
  (hQ:∀h',IsZip h' z TI TO (rawInt s.heap.objs.size)->ZbW h' TO x y u->h'.IsListIter i a (n+1)->h'.IsListIter j b (n+1)->h'.IsListIter k c (n+1)->ZbW h' s.heap.objs.size x y u ->
   (∀d o,d≠z->d≠TO->d≠i->d≠j->d≠k->s.heap.get? d=some o->h'.get? d=some o)->Q (some (.ref s.heap.objs.size)) {s with heap:=h'}):wpAny (model prog w) A (pyNext (.ref z)) Q E s:=by
 have ty:s.TypeIs (.ref z) "zip":=⟨_,zz,rfl⟩
 delta pyNext
 exact Ya (wpAny_attempt (wpAny_callSpecial?_slot (name:=Str.ofString "__next__") ty F.slot_zip_next (wpAny_call_entry F.slot_zip_next ty F.entry_zip_next
  (ZmQ D zz tI tO gi gj gk la lb lc ex ey eu λh' a1 a2 a3 a4 a5 a6 a7=>Yc (hQ h' a1 a2 a3 a4 a5 a6 a7)) (F.args_zip_next_1 _))))
theorem ZmS {z TI TO i j k a b c:Addr}{n:Nat}{xs ys us:Array Value}{p q r:Value}{Q:Option Value->Shared->Prop} (hh:A.handled=none) (D:Apart3 z TI TO i j k a b c)
  (zz:IsZip s.heap z TI TO .none) (tI:ZbW s.heap TI (.ref i) (.ref j) (.ref k)) (tO:ZbW s.heap TO p q r)
  (gi:s.heap.IsListIter i a n) (gj:s.heap.IsListIter j b n) (gk:s.heap.IsListIter k c n) (la:s.heap.IsList a xs) (lb:s.heap.IsList b ys) (lc:s.heap.IsList c us) (no:xs[n]?=none\/ys[n]?=none\/us[n]?=none)
  (hQ:∀h',(∀d o,d≠z->d≠TO->d≠i->d≠j->d≠k->s.heap.get? d=some o->h'.get? d=some o)->Q none {s with heap:=h'}):wpAny (model prog w) A (pyNext (.ref z)) Q E s:=by
 have ty:s.TypeIs (.ref z) "zip":=⟨_,zz,rfl⟩
 delta pyNext
 refine Ya (wpAny_attempt (wpAny_callSpecial?_slot (name:=Str.ofString "__next__") ty F.slot_zip_next (wpAny_call_entry F.slot_zip_next ty F.entry_zip_next
  (ZoO hh D zz tI tO gi gj gk la lb lc no λh' e hk ⟨o,ho,hc⟩=>?_) (F.args_zip_next_1 _))))
 exact Ya (wpAny_isInstance (T:="StopIteration") (b:=true) ⟨o,ho,hc⟩ isSubtype_stop (Yc (hQ _ hk)))
end
theorem Zp2 (a b c:Value):checkTypeCall "zip" ⟨[a,b,c],[]⟩=pure ():=by kernel_rfl
theorem Zp3 (a b c:Value):checkBuiltinCall "zip.__new__" ⟨[.type "zip",a,b,c],[]⟩=pure ():=by kernel_rfl
theorem Zp4 (a b c d:Value):argsOk "object.__init__" ⟨[a,b,c,d],[]⟩:=by
 delta argsOk
 rw[signature?_of (n:=['_','_','t','i','n','i','_','_']) (o:=['t','c','e','j','b','o']) (id:="object.__init__") (by kernel_rfl) F.owner_object]
 kernel_rfl
noncomputable abbrev itO (l:Addr):Obj:={cls:=.type "list_iterator",data:=.fields #[.ref l,.int 0 0]}
noncomputable abbrev zA (h:Heap) (a:Addr):Heap:=h.push (itO a)
noncomputable abbrev zB (h:Heap) (a b:Addr):Heap:=(zA h a).push (itO b)
noncomputable abbrev zC (h:Heap) (a b c:Addr):Heap:=(zB h a b).push (itO c)
noncomputable abbrev zD (h:Heap) (a b c:Addr):Heap:=(zC h a b c).push {cls:=.type "tuple",data:=.seq #[.ref h.objs.size,.ref (zA h a).objs.size,.ref (zB h a b).objs.size]}
noncomputable abbrev zE (h:Heap) (a b c:Addr):Heap:=(zD h a b c).push {cls:=.type "tuple",data:=.seq #[.none,.none,.none]}
noncomputable abbrev zF (h:Heap) (a b c:Addr):Heap:=(zE h a b c).push {cls:=.type "zip",data:=.fields #[.none,.bool false,.bool false,.ref (zC h a b c).objs.size,.ref (zD h a b c).objs.size]}
theorem ZoP (a b c:Addr) (xs ys us:Array Value) :
  Meets (Builtin.«zip.__new__» ⟨[.type "zip",.ref a,.ref b,.ref c],[]⟩) (λ_ R s=>s.heap.IsList a xs/\s.heap.IsList b ys/\s.heap.IsList c us /\
   R (.ok (.ret (.ref (zE s.heap a b c).objs.size))) {s with heap:=zF s.heap a b c}) :=
 .of_wp λpg wd A R s h=>by
  obtain⟨hp,gs,dn,tk,os⟩:=s
  obtain⟨la,lb,lc,h⟩:=h
  have hsub:=sub_zip
  have A1:Heap.IsList (Shared.heap ⟨hp,gs,dn,tk,os⟩) a xs:=la
  have B1:Heap.IsList (Shared.heap ⟨hp.push (itO a),gs,dn,tk,os⟩) b ys:=Heap.IsList.push lb _
  have C1:Heap.IsList (Shared.heap ⟨(hp.push (itO a)).push (itO b),gs,dn,tk,os⟩) c us:=Heap.IsList.push (Heap.IsList.push lc _) _
  wp_walk using wpAny_pyIter_list A1,wpAny_pyIter_list B1,wpAny_pyIter_list C1
  exact⟨_,rfl,h⟩
section
variable {s:Shared}{prog:Program}{w:World}{A:Around}{E:Value->Shared->Prop}
theorem ZmT {a b c:Addr}{xs ys us:Array Value}{Q:Value->Shared->Prop} (la:s.heap.IsList a xs) (lb:s.heap.IsList b ys) (lc:s.heap.IsList c us)
  (h:∀h',IsZip h' (s.heap.objs.size+5) (s.heap.objs.size+3) (s.heap.objs.size+4) .none->ZbW h' (s.heap.objs.size+3) (.ref s.heap.objs.size) (.ref (s.heap.objs.size+1)) (.ref (s.heap.objs.size+2)) ->
   ZbW h' (s.heap.objs.size+4) .none .none .none->h'.IsListIter s.heap.objs.size a 0->h'.IsListIter (s.heap.objs.size+1) b 0->h'.IsListIter (s.heap.objs.size+2) c 0 ->
   (∀d o,s.heap.get? d=some o->h'.get? d=some o)->Q (.ref (s.heap.objs.size+5)) {s with heap:=h'}) :
  wpAny (model prog w) A (call (.type "zip") [.ref a,.ref b,.ref c]) Q E s:=by
 refine callType_new F.called_zip (by decide) (Zp2 _ _ _) (Zp3 _ _ _) (λobj=>Zp4 obj _ _ _) F.entry_zip_new (ZoP a b c xs ys us) ⟨la,lb,lc,?_⟩
 have n1:(zA s.heap a).objs.size=s.heap.objs.size+1:=Heap.size_push ..
 have n2:(zB s.heap a b).objs.size=s.heap.objs.size+2:=by rw[Heap.size_push,n1]
 have n3:(zC s.heap a b c).objs.size=s.heap.objs.size+3:=by rw[Heap.size_push,n2]
 have n4:(zD s.heap a b c).objs.size=s.heap.objs.size+4:=by rw[Heap.size_push,n3]
 have n5:(zE s.heap a b c).objs.size=s.heap.objs.size+5:=by rw[Heap.size_push,n4]
 have up:∀(h:Heap) (o':Obj) d o,h.get? d=some o->(h.push o').get? d=some o:=λ_ _ _ _ e=>Yi _ e
 have g6:(zF s.heap a b c).get? (zE s.heap a b c).objs.size=some _:=Yl _ rfl
 have g5:(zF s.heap a b c).get? (zD s.heap a b c).objs.size=some _:=up _ _ _ _ (Yl _ rfl)
 have g4:(zF s.heap a b c).get? (zC s.heap a b c).objs.size=some _:=up _ _ _ _ (up _ _ _ _ (Yl _ rfl))
 have g3:(zF s.heap a b c).get? (zB s.heap a b).objs.size=some _:=up _ _ _ _ (up _ _ _ _ (up _ _ _ _ (Yl _ rfl)))
 have g2:(zF s.heap a b c).get? (zA s.heap a).objs.size=some _:=up _ _ _ _ (up _ _ _ _ (up _ _ _ _ (up _ _ _ _ (Yl _ rfl))))
 have g1:(zF s.heap a b c).get? s.heap.objs.size=some _:=up _ _ _ _ (up _ _ _ _ (up _ _ _ _ (up _ _ _ _ (up _ _ _ _ (Yl _ rfl)))))
 show _/\_
 rw[n3,n4,n5]at g6
 rw[n1,n2,n3]at g4
 rw[n4]at g5
 rw[n2]at g3
 rw[n1]at g2
 rw[n5]
 exact⟨⟨_,g6,rfl⟩,h _ g6 g4 g5 ⟨_,g1,rfl,rfl⟩ ⟨_,g2,rfl,rfl⟩ ⟨_,g3,rfl,rfl⟩ λd o e=>up _ _ _ _ (up _ _ _ _ (up _ _ _ _ (up _ _ _ _ (up _ _ _ _ (up _ _ _ _ e)))))⟩
end
noncomputable def Itz3 (K : Frag) (a b c : Addr) : It :=
  ⟨fun i H => ∃ xs ys us x y u, SqL K H a xs ∧ SqL K H b ys ∧ SqL K H c us ∧ xs[i]? = some x ∧ ys[i]? = some y ∧ us[i]? = some u,
   fun i H v H' => ∃ p x y u, H p = none ∧ v = .ref p ∧ H' = upd H p (.tup [x, y, u]) ∧ (∀ xs, SqL K H a xs → xs[i]? = some x) ∧ (∀ ys, SqL K H b ys → ys[i]? = some y) ∧ ∀ us, SqL K H c us → us[i]? = some u,
   fun i H => ∃ xs ys us, SqL K H a xs ∧ SqL K H b ys ∧ SqL K H c us ∧ (xs.length ≤ i ∨ ys.length ≤ i ∨ us.length ≤ i)⟩
theorem ZmU {P:Program}{w:World}{K:Frag}{elts:List Expr} {x1}{pos:Pos}{a b c z TI TO i1 i2 i3:Addr} (D:Apart3 z TI TO i1 i2 i3 a b c) :
  Turn P w K (.Tuple elts x1 pos) (Itz3 K a b c) [z,TI,TO,i1,i2,i3] z (λi h=>IsZip h z TI TO .none/\ZbW h TI (.ref i1) (.ref i2) (.ref i3)/\(∃u v t,ZbW h TO u v t)/\h.IsListIter i1 a i/\h.IsListIter i2 b i/\h.IsListIter i3 c i) where
 mem:=by simp
 obj:=λi h st d hd=>by
  obtain⟨q1,q2,⟨u,v,t,q3⟩,⟨o4,q4,_,d4⟩,⟨o5,q5,_,d5⟩,⟨o6,q6,_,d6⟩⟩:=st
  simp at hd
  rcases hd with rfl|rfl|rfl|rfl|rfl|rfl
  ·exact⟨_,q1,λv z=>by cases z⟩
  ·exact⟨_,q2,λv z=>by cases z⟩
  ·exact⟨_,q3,λv z=>by cases z⟩
  ·exact⟨_,q4,λv z=>by rw[d4]at z;cases z⟩
  ·exact⟨_,q5,λv z=>by rw[d5]at z;cases z⟩
  ·exact⟨_,q6,λv z=>by rw[d6]at z;cases z⟩
 keep:=λi h h' st k=>by
  obtain⟨q1,q2,⟨u,v,t,q3⟩,q4,q5,q6⟩:=st
  exact⟨k z (by simp) _ q1,k TI (by simp) _ q2,⟨u,v,t,k TO (by simp) _ q3⟩,q4.at λo e=>k i1 (by simp) o e,q5.at λo e=>k i2 (by simp) o e,q6.at λo e=>k i3 (by simp) o e⟩
 item:=by
  intro X hP hw hK hc i pins s σ H E I hf st hg
  subst hP hw hK
  obtain⟨xs,ys,us,x,y,u,qa,qb,qc,hx,hy,hu⟩:=hg
  obtain⟨q1,q2,⟨u0,v0,t0,q3⟩,q4,q5,q6⟩:=st
  obtain⟨is1,r1,p1,_⟩:=I.list qa
  obtain⟨is2,r2,p2,_⟩:=I.list qb
  obtain⟨is3,r3,p3,_⟩:=I.list qc
  obtain⟨vx,gx,rx⟩:=r1.get hx
  obtain⟨vy,gy,ry⟩:=r2.get hy
  obtain⟨vu,gu,ru⟩:=r3.get hu
  refine ZmR D q1 q2 q3 q4 q5 q6 p1.isList p2.isList p3.isList (x:=vx) (y:=vy) (u:=vu) (by simpa using gx) (by simpa using gy) (by simpa using gu) λh' a1 a2 a3 a4 a5 a6 a7=>?_
  refine⟨_,rfl,?_⟩
  refine wpAny_letOwnedTupleGo_zip (s:={s with heap:=h'}) a1 λh2 b1 b2=>?_
  have hfr:H s.heap.objs.size=none:=I.hok.fresh (Ye _)
  have I1:Inv X pins σ (upd H s.heap.objs.size (.tup [x,y,u])) {s with heap:=s.heap.push {cls:=.type "tuple",data:=.seq #[vx,vy,vu]}}:=by
   refine I.laid (t':=s.toks) (λb u e=>Yi _ e) (Ye _) ?_
   exact⟨by show 3<=sizeLine;decide,[vx,vy,vu],.cons rx (.cons ry (.cons ru .nil)),⟨_,Yl _ rfl,rfl,_,rfl⟩⟩
  have nz:∀d∈[z,TI,TO,i1,i2,i3],d≠s.heap.objs.size:=λd hd e=>by
   have:∃o,s.heap.get? d=some o:=by
    simp at hd
    rcases hd with rfl|rfl|rfl|rfl|rfl|rfl
    ·exact⟨_,q1⟩
    ·exact⟨_,q2⟩
    ·exact⟨_,q3⟩
    ·obtain⟨o,q,_⟩:=q4;exact⟨o,q⟩
    ·obtain⟨o,q,_⟩:=q5;exact⟨o,q⟩
    ·obtain⟨o,q,_⟩:=q6;exact⟨o,q⟩
   obtain⟨o,q⟩:=this
   exact absurd (Yh q) (by rw[e];exact Yx _)
  have hf1:∀d∈[z,TI,TO,i1,i2,i3],FpOk X pins (upd H s.heap.objs.size (.tup [x,y,u])) d:=λd hd=>by
   obtain⟨f0,f1,f2,f3,f4,f5⟩:=hf d hd
   exact⟨by rw[Zf (nz d hd)];exact f0,f1,f2,f3,f4,f5⟩
  obtain⟨⟨zI,zO,zi,zj,zk,IO,Ii,Ij,Ik,Oi,Oj,Ok,ij,ik,jk⟩,_⟩:=D
  have I2:Inv X pins σ (upd H s.heap.objs.size (.tup [x,y,u])) {s with heap:=h2}:=by
   refine Inv.Zjk (s:={s with heap:=s.heap.push {cls:=.type "tuple",data:=.seq #[vx,vy,vu]}}) (t':=s.toks) (fp:=[z,TI,TO,i1,i2,i3]) I1 (λd o hd e=>?_) hf1
   simp only[Yk,List.not_mem_nil,or_false,not_or]at hd
   obtain⟨c1,c2,c3,c4,c5,c6⟩:=hd
   refine b2.extBut _ _ c1 ?_
   by_cases hs:d=s.heap.objs.size
   ·subst hs
    have e':(s.heap.push {cls:=.type "tuple",data:=.seq #[vx,vy,vu]}).get? s.heap.objs.size=some _:=Yl _ rfl
    have ee:o={cls:=.type "tuple",data:=.seq #[vx,vy,vu]}:=Yq (e.symm.trans e')
    rw[ee];exact a6
   ·have:s.heap.get? d=some o:=by
     rcases Heap.get?_push_cases e with⟨q,_⟩|q
     ·exact absurd q hs
     ·exact q
    exact a7 d o c1 c3 c4 c5 c6 this
  refine⟨.ref s.heap.objs.size,_,I2,rfl,⟨_,x,y,u,hfr,rfl,rfl,λxs' q'=>?_,λys' q'=>?_,λus' q'=>?_⟩,⟨b1,?_,⟨vx,vy,vu,?_⟩,?_,?_,?_⟩,λd hd=>(hf1 d hd).1⟩
  ·rw[I.Zcd q' qa];exact hx
  ·rw[I.Zcd q' qb];exact hy
  ·rw[I.Zcd q' qc];exact hu
  ·exact b2.extBut _ _ zI.symm (a7 _ _ zI.symm IO Ii Ij Ik q2)
  ·exact b2.extBut _ _ zO.symm a2
  ·exact a3.extBut b2.extBut zi.symm
  ·exact a4.extBut b2.extBut zj.symm
  ·exact a5.extBut b2.extBut zk.symm
 done:=by
  intro X hP hw hK hc i pins s σ H E I hf st hg
  subst hP hw hK
  obtain⟨xs,ys,us,qa,qb,qc,hx⟩:=hg
  obtain⟨q1,q2,⟨u0,v0,t0,q3⟩,q4,q5,q6⟩:=st
  obtain⟨is1,r1,p1,_⟩:=I.list qa
  obtain⟨is2,r2,p2,_⟩:=I.list qb
  obtain⟨is3,r3,p3,_⟩:=I.list qc
  refine ZmS (I.ok.hd hc) D q1 q2 q3 q4 q5 q6 p1.isList p2.isList p3.isList ?_ λh' k=>⟨rfl,I.Zjk (t':=s.toks) (fp:=[z,TI,TO,i1,i2,i3]) (λd o hd e=>?_) hf⟩
  ·rcases hx with hx|hx|hx
   ·left;simp;rw[<-r1.length];exact hx
   ·right;left;simp;rw[<-r2.length];exact hx
   ·right;right;simp;rw[<-r3.length];exact hx
  ·simp only[Yk,List.not_mem_nil,or_false,not_or]at hd
   obtain⟨c1,c2,c3,c4,c5,c6⟩:=hd
   exact k d o c1 c3 c4 c5 c6 e
 self:=λ_ _ _ _ _ st h=>wpAny_pyIter_zip st.1 h
theorem Zlm:∀{x y z:V}{us:List Value},Vals [x,y,z] us->∃u v t,us=[u,v,t]/\RelV x u/\RelV y v/\RelV z t
 |_,_,_,_,.cons r (.cons q (.cons t .nil))=>⟨_,_,_,rfl,r,q,t⟩
theorem apart3 (n a b c:Nat) (h1:a<n) (h2:b<n) (h3:c<n):Apart3 (n+5) (n+3) (n+4) n (n+1) (n+2) a b c:=by
 have N:∀u v:Nat,u<v\/v<u->(u:Addr)≠v:=λu v h e=>by have e:u=v:=e;omega
 exact⟨⟨N _ _ (by omega),N _ _ (by omega),N _ _ (by omega),N _ _ (by omega),N _ _ (by omega),N _ _ (by omega),N _ _ (by omega),N _ _ (by omega),N _ _ (by omega),N _ _ (by omega),N _ _ (by omega),N _ _ (by omega),N _ _ (by omega),N _ _ (by omega),N _ _ (by omega)⟩,
  ⟨N _ _ (by omega),N _ _ (by omega),N _ _ (by omega),N _ _ (by omega),N _ _ (by omega)⟩,⟨N _ _ (by omega),N _ _ (by omega),N _ _ (by omega),N _ _ (by omega),N _ _ (by omega)⟩,⟨N _ _ (by omega),N _ _ (by omega),N _ _ (by omega),N _ _ (by omega),N _ _ (by omega)⟩⟩
section
variable {X:Cx}
noncomputable def iZip3 (K:Frag) (ta:TA):TI:=fun σ H R=>ta σ H λvs H1=>∃a b c xs ys us,vs=[.ref a,.ref b,.ref c]/\SqL K H1 a xs/\SqL K H1 b ys/\SqL K H1 c us/\R (Itz3 K a b c) H1
theorem Zp5 {elts:List Expr} {x1}{tp:Pos}{e1 e2 e3:Expr}{ta:TA}{p pos:Pos} (hg:Gl X "zip") (hm:X.mg "zip"=none) (ha:PA X [e1,e2,e3] ta) (he:starEach [e1,e2,e3] X.env=(false,eval e1 X.env)::starEach [e2,e3] X.env:=by rfl) (hpl:(backTo pos (starEach [e2,e3] X.env)).any (·.1)=false:=by rfl) :
  PI X (.Tuple elts x1 tp) (.Call (.Name "zip" p) [e1,e2,e3] [] pos) (iZip3 X.K ta):=by
 intro pins s σ H R I h
 refine wpAny_Call_Name_kw (ZdB I hg hm Zmw ?_)
 refine PyProof.Rows.callWith_type1 (thn (ha pos pins s σ H _ I h) λus s1 ⟨vs,H1,I1,r1,a,b,c,xs,ys,zs,e1,qa,qb,qc,q⟩=>?_) he hpl
 subst e1
 obtain⟨u,v,t,rfl,ru,rv,rt⟩:=Zlm r1
 cases(show u=Value.ref a from ru)
 cases(show v=Value.ref b from rv)
 cases(show t=Value.ref c from rt)
 obtain⟨is1,rr1,p1,_⟩:=I1.list qa
 obtain⟨is2,rr2,p2,_⟩:=I1.list qb
 obtain⟨is3,rr3,p3,_⟩:=I1.list qc
 refine ZmT p1.isList p2.isList p3.isList λh' c1 c2 c3 c4 c5 c6 c7=>?_
 refine wpAny_pyIter_zip c1 ?_
 have l1:a<s1.heap.objs.size:=by obtain⟨o,e,_⟩:=p1.isList;exact Yh e
 have l2:b<s1.heap.objs.size:=by obtain⟨o,e,_⟩:=p2.isList;exact Yh e
 have l3:c<s1.heap.objs.size:=by obtain⟨o,e,_⟩:=p3.isList;exact Yh e
 have sm:∀b,s1.heap.objs.size<=b->FpOk X pins H1 b:=λb hb=>I1.fpOk hb (I1.hok.fresh hb)
 refine⟨_,[s1.heap.objs.size+5,s1.heap.objs.size+3,s1.heap.objs.size+4,s1.heap.objs.size,s1.heap.objs.size+1,s1.heap.objs.size+2],_,_,H1,rfl,I1.kept (t':=s1.toks) c7,ZmU (a:=a) (b:=b) (c:=c) ?_,⟨c1,c2,⟨_,_,_,c3⟩,c4,c5,c6⟩,λd hd=>?_,q⟩
 ·exact apart3 _ _ _ _ l1 l2 l3
 ·simp at hd
  rcases hd with rfl|rfl|rfl|rfl|rfl|rfl<;>exact sm _ (by omega)
end
section
variable {X:Cx}
theorem ZiT (hc:X.calm=true):ZcY X (.builtin "max") (λxs H Q=>∃(p:Addr) (ns:List Int),xs=[.ref p]/\SqL X.K H p (ns.map V.int)/\ns≠[]/\∀m,m∈ns->(∀a∈ns,a<=m)->Q (.int m) H):=by
 intro pins s σ H xs us Q I r h
 obtain⟨p,ns,rfl,hp,hne,q⟩:=h
 obtain⟨u,rfl,ru⟩:=r.one
 cases(show u=Value.ref p from ru)
 obtain⟨its,rv,pl,hz⟩:=I.list hp
 obtain⟨ys,e1,e2⟩:=Zho rv
 have hsz:0<ys.size:=by
  have:=congrArg List.length e2
  rw[Yf,YN]at this
  cases ns with
  |nil=>exact absurd rfl hne
  |cons=>simp at this;omega
 refine max_intList (xs:=ys) (I.ok.hd hc) (e1▸pl.isList) hsz λv h' tk hv k=>?_
 obtain⟨tq,rfl⟩:=intItems_at hv
 obtain⟨h1,h2⟩:=argBest_gt (numAt ys) (ys.size-1)
 refine⟨.int _,H,I.kept k,⟨tq,rfl⟩,q _ ?_ λa ha=>?_⟩
 ·rw[numAt_eq,e2];exact getD_mem (by rw[<-e2,Yf,YN];omega)
 ·obtain⟨jq,hj,rfl⟩:=mem_getD ha
  rw[<-e2,Yf,YN]at hj
  rw[<-e2,<-numAt_eq];exact h2 jq (by omega)
end
section
variable {X:Cx}
theorem pe_bmK {K:Frag}{T:String}{id:String}{name:Str}{r:V->List V->Hp->VK->Prop}{o e:Expr}{es:List Expr}{to:TE}{t:TA}{apos cpos:Pos} (hK:X.K=K) (pa:PlainAttrs T) (slot:Slot T name id) (hty:typeOf (.builtin id)=pure (.type "method_descriptor")) (hm:MtM X id r) (ho:PE X o to) (ha:PA X (e::es) t)
  (hbase:attributeBase o name X.env (eval o X.env)=eval o X.env:=by rfl)
  (hfew:((backTo cpos (starEach (e::es) X.env)).all (λx=>!x.1)&&(backToKw cpos (keywordEach [] X.env)).all (λx=>x.1.isSome)
   && decide ((e::es).length+([]:List Keyword).length+(if ([]:List Keyword).isEmpty then 0 else 1)<30))=true:=by rfl)
  (hline:(apos.endLine==cpos.line)=true:=by rfl) (hs:starEach (e::es) X.env=(false,eval e X.env)::starEach es X.env:=by rfl) (hplain:(backTo cpos (starEach es X.env)).any (·.1)=false:=by rfl) :
  PE X (.Call (.Attribute o name apos) (e::es) [] cpos) (tBM K T r to t):=by
 subst hK
 exact Za0 pa slot hty hm ho ha hbase hfew hline hs hplain
end
end L2
namespace L2
open PySem PySem.Spec PyProof.Rows PySem.W PySem.Calls
noncomputable def ZcK (h:Heap) (d:Addr) (vs:List Value) (ep:Nat):Prop:=∃(o:Obj) (es:Array DictEntry),h.get? d=some o/\o.cls=.type "dict"/\o.data=.dict es ep/\es.toList.map (·.val)=vs
theorem ZcK.moved {h h':Heap}{d:Addr}{vs:List Value}{ep:Nat} (x:ZcK h d vs ep) (k:∀o,h.get? d=some o->h'.get? d=some o):ZcK h' d vs ep :=
 let ⟨o,es,a,r⟩:=x;⟨o,es,k o a,r⟩
theorem ZcK.lt {h:Heap}{d:Addr}{vs:List Value}{ep:Nat} (x:ZcK h d vs ep):d<h.objs.size:=let ⟨_,_,a,_⟩:=x;Yh a
section
variable {prog:Program}{w:World}{A:Around}{E:Value->Shared->Prop}{s:Shared}{va dd ja:Addr}{vs:List Value}{ep i:Nat}
theorem ZmV {Q:Value->Shared->Prop} (hv:s.heap.IsValuesView va dd) (hm:ZcK s.heap dd vs ep)
  (kQ:Q (.ref s.heap.objs.size) {s with heap:=s.heap.push {cls:=.type "dict_valueiterator",data:=.fields #[.ref dd,.int 0 0,.int vs.length 0,.int ep 0]}}) :
  wpAny (model prog w) A (pyIter (.ref va)) Q E s:=by
 obtain⟨o1,g1,c1,f1⟩:=id hv
 obtain⟨o2,es,g2,c2,f2,e2⟩:=id hm
 refine wpAny_pyIter_slot hv.typeIs PySem.F.slot_dict_values_iter (wpAny_call_entry PySem.F.slot_dict_values_iter hv.typeIs PySem.F.entry_dict_values_iter ?_ (PySem.F.args_dict_values_iter_1 _))
 unfold Builtin.«dict_values.__iter__»;refine Ya (Yc (Ya ?_));unfold Builtin.Dict_items.dictOf
 refine Ya (wpAny_field g1 f1 (x:=.ref dd) rfl (Yc (Ya ?_)))
 unfold Builtin.Dict_items.newIterator;refine Ya (wpAny_dictEntries g2 f2 (Ya (wpAny_dictEpoch g2 f2 ?_)))
 have z1:es.size=vs.length:=by rw[<-e2];simp
 have z2:Builtin.Dict_items.ownsTuple "dict_valueiterator"=false:=by decide
 simp only[z2,Bool.false_eq_true,if_false]
 refine wpAny_newObj_type (Yc ⟨_,rfl,"dict_valueiterator",_,⟨_,Yl _ rfl,rfl⟩,PySem.F.slot_dict_valueiterator_next.lookup,?_⟩)
 simpa[rawInt,z1]using kQ
theorem ZmW {x:Value}{Q:Option Value->Shared->Prop} (hi:s.heap.IsValIter ja dd i vs.length ep) (hm:ZcK s.heap dd vs ep) (hx:vs[i]?=some x)
  (kQ:∀h',h'.IsValIter ja dd (i+1) vs.length ep->Heap.SameBut ja s.heap h'->Q (some x) {s with heap:=h'}):wpAny (model prog w) A (pyNext (.ref ja)) Q E s:=by
 obtain⟨o1,g1,c1,f1⟩:=id hi
 obtain⟨o2,es,g2,c2,f2,e2⟩:=id hm
 have z1:es.size=vs.length:=by rw[<-e2];simp
 have z2:Builtin.Dict_items.ownsTuple "dict_valueiterator"=false:=by decide
 have hl:i<es.size:=by
  rw[z1]
  exact(Yu.mp hx).1
 have hval:es[i].val=x:=by
  rw[<-e2,Yp,Array.getElem?_toList,Array.getElem?_eq_getElem hl]at hx
  exact Yq hx
 unfold pyNext
 refine Ya (wpAny_attempt (wpAny_callSpecial?_slot (name:=Str.ofString "__next__") hi.typeIs PySem.F.slot_dict_valueiterator_next (wpAny_call_entry PySem.F.slot_dict_valueiterator_next hi.typeIs PySem.F.entry_dict_valueiterator_next ?_ (PySem.F.args_dict_valueiterator_next_1 _))))
 refine Ya (Yc (Ya (Ya ?_)))
 first|refine Ya (wpAny_typeNameOfWhole_valiter hi.typeIs (Yc (Ya (wpAny_fieldsOf g1 f1 ?_))))|refine Ya (wpAny_typeNameOf_valiter hi.typeIs (Yc (Ya (wpAny_fieldsOf g1 f1 ?_))))
 simp only[z2,Bool.false_eq_true,if_false]
 show wpAny _ _ (if (Value.ref dd==Value.none)=true then _ else _) _ _ s
 rw[Yb (show ¬ ((Value.ref dd==Value.none)=true)from Ys)]
 refine Ya (Yc (Ya (wpAny_dictEntries g2 f2 ?_)))
 rw[Yb (by rw[z1];simp)]
 refine Ya (Yc (Ya (wpAny_dictEpoch g2 f2 ?_)))
 rw[Yb (by simp)]
 refine Yc ?_
 simp only[show ¬ ((i:Int)<0)from by omega,if_false,Y6,Array.getElem?_eq_getElem hl]
 refine Ya ?_
 first|refine Ya (wpAny_typeNameOfWhole_valiter hi.typeIs (Yc (Ya (wpAny_isOneOf_valiter hi.typeIs ?_))))|refine Ya (wpAny_typeNameOf_valiter hi.typeIs (Yc (Ya (wpAny_isOneOf_valiter hi.typeIs ?_))))
 show wpAny _ _ (setField (.ref ja) 1 (rawInt ((i:Int)+1)) >>= _) _ _ s
 refine Ya (wpAny_setField g1 f1 (by simp) ?_)
 have g3:(s.heap.update ja (Obj.mapFields (·.setIfInBounds 1 (rawInt ((i:Int)+1))))).IsValIter ja dd (i+1) vs.length ep :=
  ⟨_,Heap.get?_update_self _ g1 (Obj.isFreed_of_fields (Obj.data_mapFields f1 _)),(Obj.cls_mapFields ..).trans c1,by rw[Obj.data_mapFields f1];simp[rawInt]⟩
 refine Ya (wpAny_holding (Ya (wpAny_isOneOf_valiter (s:={s with heap:=s.heap.update ja (Obj.mapFields (·.setIfInBounds 1 (rawInt ((i:Int)+1))))}) g3.typeIs ?_)))
 refine Ya (wpAny_isOneOf_valiter (s:={s with heap:=s.heap.update ja (Obj.mapFields (·.setIfInBounds 1 (rawInt ((i:Int)+1))))}) g3.typeIs ?_)
 show wpAny _ _ (pure es[i].val) _ _ _;exact Yc (Yc ⟨_,rfl,Yc (hval▸kQ _ g3 (Heap.SameBut.update ..))⟩)
theorem Zjs {Q:Option Value->Shared->Prop} (nh:A.handled=none) (hi:s.heap.IsValIter ja dd i vs.length ep) (hm:ZcK s.heap dd vs ep) (hx:vs[i]?=none)
  (kQ:∀h',Heap.ExtBut ja s.heap h'->Q none {s with heap:=h'}):wpAny (model prog w) A (pyNext (.ref ja)) Q E s:=by
 obtain⟨o1,g1,c1,f1⟩:=id hi
 obtain⟨o2,es,g2,c2,f2,e2⟩:=id hm
 have z1:es.size=vs.length:=by rw[<-e2];simp
 have z2:Builtin.Dict_items.ownsTuple "dict_valueiterator"=false:=by decide
 unfold pyNext
 refine Ya (wpAny_attempt (wpAny_callSpecial?_slot (name:=Str.ofString "__next__") hi.typeIs PySem.F.slot_dict_valueiterator_next (wpAny_call_entry PySem.F.slot_dict_valueiterator_next hi.typeIs PySem.F.entry_dict_valueiterator_next ?_ (PySem.F.args_dict_valueiterator_next_1 _))))
 refine Ya (Yc (Ya (Ya ?_)))
 first|refine Ya (wpAny_typeNameOfWhole_valiter hi.typeIs (Yc (Ya (wpAny_fieldsOf g1 f1 ?_))))|refine Ya (wpAny_typeNameOf_valiter hi.typeIs (Yc (Ya (wpAny_fieldsOf g1 f1 ?_))))
 simp only[z2,Bool.false_eq_true,if_false]
 show wpAny _ _ (if (Value.ref dd==Value.none)=true then _ else _) _ _ s
 rw[Yb (show ¬ ((Value.ref dd==Value.none)=true)from Ys)]
 refine Ya (Yc (Ya (wpAny_dictEntries g2 f2 ?_)))
 rw[Yb (by rw[z1];simp)]
 refine Ya (Yc (Ya (wpAny_dictEpoch g2 f2 ?_)))
 rw[Yb (by simp)]
 refine Yc ?_
 have ge:es.size<=i:=by rw[z1];simpa using hx
 simp only[show ¬ ((i:Int)<0)from by omega,if_false,Y6,Array.getElem?_eq_none ge]
 refine Ya ?_
 first|refine Ya (wpAny_typeNameOfWhole_valiter hi.typeIs (Yc ?_))|refine Ya (wpAny_typeNameOf_valiter hi.typeIs (Yc ?_))
 show wpAny _ _ (setField (.ref ja) 0 .none >>= _) _ _ s
 refine Ya (wpAny_setField g1 f1 (by simp) ?_)
 show wpAny _ _ (newExc (.type "StopIteration") [] >>= _) _ _ _;refine Ya ?_
 simp only[newExc,newTuple]
 refine Ya (wpAny_newObj_type ?_ (by size_fits));refine Ya (m:=firstArgMember _ _) (wpAny_of_eq (a:=Value.none) (by first|rfl|(simp only[firstArgMember];rfl)) (wpAny_newObj_type ?_ (by size_fits)))
 simp only[raiseNew]
 refine Ya (wpAny_handled ?_);rw[show A.in1.handled=none from nh]
 refine(Ya (Yc (wpAny_throw ?_)))
 refine Ya (wpAny_isInstance (b:=true) (T:="StopIteration") ⟨_,Yl _ rfl,rfl⟩ isSubtype_stop (Yc (kQ _ ?_)))
 exact((Heap.SameBut.update ..).extBut.push _).push _
theorem Zln (nh:A.handled=none) (I dd:Addr) (hne:dd≠I) (vs:List Value) (ep:Nat) :
  Walks prog w A I [I,dd] [I] vs.length (λi x=>vs[i]?=some x) (λi h=>h.IsValIter I dd i vs.length ep/\ZcK h dd vs ep) where
 sub:=λb mb=>by simp at mb;simp[mb]
 frame:=λ_ _ _ st hk=>⟨let ⟨o,e,r⟩:=st.1;⟨o,hk I (by simp) o e,r⟩,st.2.moved λo e=>hk dd (by simp) o e⟩
 item:=λi s Q E hi st kQ=>by
  have hx:vs[i]?=some vs[i]:=Yg hi
  refine ZmW st.1 st.2 hx λh' g1 g2=>?_
  exact kQ _ h' s.toks hx ⟨g1,st.2.moved λo e=>g2.extBut dd o hne e⟩ λb o mb e=>g2.extBut b o (λh=>mb (by simp[h])) e
 done:=λs Q E st kQ=>Zjs nh st.1 st.2 (by simp) λh' he'=>kQ h' s.toks λb o mb e=>he' b o (λh=>mb (by simp[h])) e
 self:=λ_ _ _ _ st0 kQ=>wpAny_pyIter_valiter st0.1 kQ
theorem ZoQ:KdlSrc prog w "dict_values" va dd vs.length (λi x=>vs[i]?=some x) (λh=>h.IsValuesView va dd/\ZcK h dd vs ep) where
 type:=λ_ x0=>x0.1.typeIs
 there:=λ_ hm=>⟨let ⟨_,a,_⟩:=hm.1;Yh a,hm.2.lt⟩
 keep:=λ_ _ hm hk=>⟨let ⟨o,a,x⟩:=hm.1;⟨o,hk va (.inl rfl) o a,x⟩,hm.2.moved λo e=>hk dd (.inr rfl) o e⟩
 notList:=by decide
 notTuple:=by decide
 hint:=λ_ _ _ _ x0 hq=>kdl_hint_values x0.1.typeIs hq
 iter:=λ_ _ nh hm=>⟨_,_,(λ_ _ hq=>ZmV hm.1 hm.2 hq),Zln nh _ dd (Yo hm.2.lt) vs ep,⟨⟨_,Yl _ rfl,rfl,rfl⟩,hm.2.moved λo e=>Yi _ e⟩⟩
end
section
variable {prog:Program}{w:World}{K:Type} [DecidableEq K] {knd:HeapKind prog w K}{A:Around}{E:Value->Shared->Prop}{s:Shared}{dd ka:Addr}{k:K}{xs:List (K×Addr×Value)}{df:Value}
theorem Zjt {Q:Value->Shared->Prop} (hu:knd.room A) (hkey:knd.is s.heap k ka) (hm:s.heap.DictOfH knd dd xs) (hz:xs.length<=sizeLine)
  (h1:∀p,atKey xs k=some p->Q p.2 {s with toks:=s.toks+knd.draws k})
  (h2:atKey xs k=none->∀h',h'.DictOfH knd dd (storedH xs k ka df)->Heap.SameBut dd s.heap h'->Q df {s with heap:=h',toks:=s.toks+knd.draws k}) :
  wpAny (model prog w) A (dictSetDefault dd (.ref ka) df) Q E s:=by
 obtain⟨o,es,ep,g1,g2,g3,g4,g5,g6⟩:=hm
 unfold dictSetDefault;try with_reducible refine wpAny_holding ?_
 refine Ya (knd.pyHash hu hkey (Ya (wpAny_dictFind_heap (s:={s with toks:=s.toks+knd.draws k}) hu hkey g1 g3 g4 g5 g6 (λno=>?_) (λj p hj=>?_))))
 ·have nk:=atKey_none_of_get no
  have no':=not_mem_keys_of_get no
  refine Ya (wpAny_rule (Ya (wpAny_updateDictKeys (hz:=by have e:=size_of_entries g4;omega) (s:={s with toks:=s.toks+knd.draws k}) g1 g3 (Yc (h2 nk _ ⟨_,_,ep+1,Heap.get?_update_self _ g1 (Obj.isFreed_of_dict (Obj.data_mapDictKeys g3 _)),g2.mapDictKeys _,Obj.data_mapDictKeys g3 _,?_,?_,?_⟩ (Heap.SameBut.update ..))))))
  ·rw[storedH_new nk];simp[g4,entryOfKey]
  ·rw[storedH_new nk];intro x hx
   rcases Yy.mp hx with hx|hx0
   ·exact knd.keeps (g5 x hx) g1 g3 (Heap.SameBut.update ..)
   ·rw[YG.mp hx0];exact knd.keeps hkey g1 g3 (Heap.SameBut.update ..)
  ·rw[storedH_new nk,YB,List.nodup_append]
   refine⟨g6,by simp,λx hx y hy e=>?_⟩
   have ey:y=k:=by simpa using hy
   exact no' (ey▸e▸hx)
 ·refine Ya (wpAny_dictEntries (s:={s with toks:=s.toks+knd.draws k}) g1 g3 ?_)
  rw[entry_at g4 j,hj]
  exact Ya (wpAny_rule (Yc (h1 p (atKey_of_get g6 hj))))
theorem Zfp (knd:HeapKind prog w K) (dd ka:Addr) (hd:(dd==sysModules)=false) (df:Value) :
  MeetsIn prog w (Builtin.«dict.setdefault» ⟨[.ref dd,.ref ka,df],[]⟩) (λA R s=>knd.room A.in1/\∃k xs,knd.is s.heap k ka/\s.heap.DictOfH knd dd xs/\xs.length<=sizeLine /\
   (∀p,atKey xs k=some p->R (.ok (.ret p.2)) {s with toks:=s.toks+knd.draws k}) /\
   (atKey xs k=none->∀h',h'.DictOfH knd dd (storedH xs k ka df)->Heap.SameBut dd s.heap h'->R (.ok (.ret df)) {s with heap:=h',toks:=s.toks+knd.draws k})) :=
 .of_wp λA R s ⟨hu,k,xs,hkey,hm,hz,h1,h2⟩=>by
  unfold Builtin.«dict.setdefault»;refine Ya ?_;unfold Builtin.Dict.keyAndDefault
  refine(Ya (wpAny_notOrdered_dict hm.typeIs ?_))
  show wpAny _ _ (pure (dd,Value.ref ka,some df)) _ _ s
  refine Yc ?_
  show wpAny _ _ (if (dd==sysModules)=true then _ else (dictSetDefault dd (.ref ka) df >>= _)) _ _ s
  rw[Yb (show ¬ (dd==sysModules)=true from hd▸Ys)]
  exact Ya (Zjt hu hkey hm hz (λp hp=>Yc ⟨p.2,rfl,h1 p hp⟩) λhn h' hm' hs'=>Yc ⟨df,rfl,h2 hn h' hm' hs'⟩)
end
section
variable {X:Cx}{o e f:Expr}{apos cpos:Pos}{td ty tx:TE}
noncomputable def tDSetD (td ty tx:TE):TE:=fun σ H Q=>td σ H λx H1=>∃a,x=.ref a/\IsD H1 a/\ty σ H1 λy H2=>tx σ H2 λz H3=>∃kvs k b,H3 a=some (.dT kvs)/\y=.ref b/\H3 b=some (.tup (k.map kV))/\kvs.length<sizeLine /\
 (∀v,ZbV kvs k=some v->Q v H3)/\(ZbV kvs k=none->Q z (upd H3 a (.dT (kvs++[(k,z)]))))
theorem Zkq (hu:X.A.units+1<cLine) (ho:PE X o td) (he:PE X e ty) (hf:PE X f tx) (m:M2 X o "setdefault" apos e f cpos):PE X (.Call (.Attribute o "setdefault" apos) [e,f] [] cpos) (tDSetD td ty tx):=by
 intro pins s σ H Q I h
 refine wpAny_Call_method m.base m.few m.line PySem.F.plainAttrs_dict PySem.F.slot_dict_setdefault PySem.F.type_dict_setdefault (thn (ho pins s σ H _ I h) λu s1 ⟨x,H1,I1,rx,a,ex,d,q1⟩=>?_)
 subst ex
 obtain rfl:u=Value.ref a:=rx
 obtain⟨t1,t2,_⟩:=ZoN I1 d
 refine⟨t1,t2,?_⟩
 rw[m.trees]
 refine Calls.callWith_builtin rfl (Calls.evalArgs_plain (Calls.spliced_cons (thn (he pins s1 σ H1 _ I1 q1) λiv s2 ⟨y,H2,I2,ry,q2⟩ =>
  Calls.spliced_cons (thn (hf pins s2 σ H2 _ I2 q2) λfv s3 ⟨z,H3,I3,rz,kvs,k,b,ea,ey,eb,hl,q3,q4⟩=>Calls.spliced_nil ?_))))
 subst ey
 cases(show iv=Value.ref b from ry)
 obtain⟨z1,hd,xs,rel,dd⟩:=dt_of I3.hok ea
 have hz:xs.length<=sizeLine:=by rw[<-Paired.length rel];exact z1
 have hv:=rel.val k
 refine call_meetsIn PySem.F.slot_dict_setdefault dd.typeIs PySem.F.entry_dict_setdefault (PySem.F.args_dict_setdefault_3 _ _ _) (Zfp (tupleKind (ZaS X.prog X.w)) a b hd fv) ⟨tupleKind_room_in1 hu,k,xs,Zjr I3.hok eb,dd,hz,λp hp=>?_,λhn h' dd' hs=>?_⟩
 ·rw[hp]at hv
  cases l:ZbV kvs k with
  |none=>rw[l]at hv;exact absurd hv (by intro z;cases z)
  |some v =>
   rw[l]at hv
   exact⟨v,H3,I3.tok _,hv,q3 v l⟩
 ·rw[hn]at hv
  cases l:ZbV kvs k with
  |some v=>rw[l]at hv;exact absurd hv (by intro z;cases z)
  |none =>
   obtain⟨q,es,ep,hq,h2,h3,h4,_,h5⟩:=dd'
   rw[<-ZoK z l]at q4
   have hl':(putK kvs k z).length<=sizeLine:=by have:=Zkk kvs k z;omega
   refine⟨z,_,ZpY (ob:=.dT (putK kvs k z)) I3 (by rw[ea];exact True.intro) hs ⟨q,hq⟩ ⟨hl',hd,_,(rel.put k eb rz).keeps λc ys ec=>?_,q,es,ep,hq,h2,h3,h4,h5⟩,rz,q4 l⟩
   rw[Zf (ne_of ec ea (λz=>nomatch z))]
   exact ec
end
section
variable {X:Cx}{o:Expr}{apos cpos:Pos}{td:TE}
noncomputable def ZhK (v d:Addr):Heap->Prop:=λh=>h.IsValuesView v d
theorem Zlo {prog:Program}{w:World} (dd:Addr) (hd:(dd==sysModules)=false) :
  MeetsIn prog w (Builtin.«dict.values» ⟨[.ref dd],[]⟩) (λ_ R s=>s.TypeIs (.ref dd) "dict" /\
   R (.ok (.ret (.ref s.heap.objs.size))) {s with heap:=s.heap.push {cls:=.type "dict_values",data:=.fields #[.ref dd]}}) :=
 .of_wp λA R s ⟨ht,h⟩=>by
  refine Ya ?_;unfold Builtin.Dict.noArgs
  refine Ya (wpAny_notOrdered_dict ht ?_)
  show wpAny _ _ (pure dd) _ _ s
  refine Yc ?_
  show wpAny _ _ (Builtin.Dict.showsAll dd >>= _) _ _ s
  unfold Builtin.Dict.showsAll;rw[Yb (show ¬ (dd==sysModules)=true from hd▸Ys)]
  exact Ya (Yc (Ya (wpAny_newObj_type (Yc ⟨_,rfl,h⟩))))
noncomputable def tDVals (td:TE):TE:=fun σ H Q=>td σ H λx H1=>∃a kvs,x=.ref a/\H1 a=some (.dT kvs)/\∀v,H1 v=none->Q (.ref v) (upd H1 v (.ext (ZhK v a)))
theorem ZoR (ho:PE X o td) (hbase:attributeBase o "values" X.env (eval o X.env)=eval o X.env:=by rfl) (hline:(apos.endLine==cpos.line)=true:=by rfl):PE X (.Call (.Attribute o "values" apos) [] [] cpos) (tDVals td):=by
 intro pins s σ H Q I h
 refine wpAny_Call_method0_late hbase hline (thn (ho pins s σ H _ I h) λu s1 ⟨x,H1,I1,rx,a,kvs,ex,ea,q⟩=>?_)
 subst ex
 obtain rfl:u=Value.ref a:=rx
 obtain⟨t1,t2,hd⟩:=ZoN I1 (.inr ⟨kvs,.inl ea⟩)
 refine⟨"dict",_,PySem.F.plainAttrs_dict,PySem.F.slot_dict_values,PySem.F.type_dict_values,t1,t2,Calls.callWith_builtin rfl (PySem.evalArgs_none ?_)⟩
 refine call_meetsIn PySem.F.slot_dict_values t1 PySem.F.entry_dict_values (PySem.F.args_dict_values_1 _) (Zlo a hd) ⟨t1,?_⟩
 refine⟨.ref s1.heap.objs.size,_,I1.laid (t':=s1.toks) (a:=s1.heap.objs.size) (o:=.ext (ZhK s1.heap.objs.size a)) (λb o e=>Yi _ e) (Ye _) ⟨⟨_,Yl _ rfl,rfl,rfl⟩,⟨_,Yl _ rfl⟩,λh1 h2 e k=>?_⟩,rfl,q _ (I1.hok.fresh (Ye _))⟩
 obtain⟨o,a1,a2⟩:=e
 exact⟨o,k o a1,a2⟩
theorem Zp6 {H:Hp}{kvs:List (List Key×V)}{xs:List (List Key×Addr×Value)} (r:KT H kvs xs):Vals (kvs.map (·.2)) (xs.map (·.2.2)):=by
 induction r with
 |nil=>exact .nil
 |cons h t ih=>exact .cons h.2.2 ih
noncomputable def rLVals:List V->Hp->VK->Prop:=λxs H Q=>∃(v a:Addr) (kvs:List (List Key×V)),xs=[.ref v]/\H v=some (.ext (ZhK v a))/\H a=some (.dT kvs)/\∀l,H l=none->Q (.ref l) (upd H l (.lst (kvs.map (·.2))))
theorem ZhL (hc:X.calm=true):ZcY X (.type "list") rLVals:=by
 intro pins s σ H xs us Q I r h
 obtain⟨v,a,kvs,rfl,hv,ha,q⟩:=h
 obtain⟨u,rfl,ru⟩:=r.one
 cases(show u=Value.ref v from ru)
 obtain⟨hz,lo,ys,rel,o,es,ep,g1,g2,g3,g4,g5,g6⟩:=dt_of I.hok ha
 have hV:s.heap.IsValuesView v a:=(show Zao X.prog X.w H s.heap v (.ext (ZhK v a))from I.hok v _ hv).1
 have hA:ZcK s.heap a (ys.map (·.2.2)) ep:=⟨o,es,g1,g2.1,g3,by rw[g4,YS];rfl⟩
 have hl:(ys.map (·.2.2)).length<=sizeLine:=by rw[Yf,<-Paired.length rel];exact hz
 refine kdl_call (A:=X.A) ZoQ (I.ok.hd hc) ⟨hV,hA⟩ hl λh' tk acc c kp hS hacc=>?_
 have eacc:acc.toList=ys.map (·.2.2):=by
  refine List.ext_getElem? λi=>?_
  rw[Array.getElem?_toList]
  rcases Nat.lt_or_ge i acc.size with hi|hi
  ·have:=hacc.2 i acc[i] (Array.getElem?_eq_getElem hi)
   rw[this,Array.getElem?_eq_getElem hi]
  ·rw[Array.getElem?_eq_none hi,List.getElem?_eq_none (by rw[<-hacc.1];exact hi)]
 have hsz:s.heap.objs.size<h'.objs.size:=Yh hS
 refine⟨.ref s.heap.objs.size,_,I.laid (t':=tk) (a:=s.heap.objs.size) (o:=.lst (kvs.map (·.2))) kp (Ye _) ⟨by rw[Yf];exact hz,acc.toList,c,by rw[eacc];exact Zp6 rel,by rw[hS,Array.toArray_toList]⟩,rfl,q _ (I.hok.fresh (Ye _))⟩
end
theorem Zju {κ:Type} [DecidableEq κ] {k:κ}{v:V}:∀{kvs:List (κ×V)},ZbV kvs k=some v->∃(i:Nat) (h:i<kvs.length),kvs[i]=(k,v)
 |[],h=>by simp[ZbV]at h
 |p::r,h=>by
  by_cases e:p.1=k
  ·rw[Zcf e]at h
   exact⟨0,by simp,by cases p;cases e;cases h;rfl⟩
  ·rw[Zcg e]at h
   obtain⟨i,h1,h2⟩:=Zju h
   exact⟨i+1,by simpa using h1,by simpa using h2⟩
noncomputable def Zp (E:Nat->Nat->Bool) (j:Nat):List Nat:=(List.range j).filter λa=>(List.range a).all λb=>!E b a
noncomputable def Zd9 (E:Nat->Nat->Bool) (j f:Nat):List Nat:=(List.range j).filter λb=>E b f
theorem ZiU (E:Nat->Nat->Bool) (j f:Nat):Zd9 E (j+1) f=Zd9 E j f++(if E j f=true then [j]else []):=by
 unfold Zd9
 rw[YJ,List.filter_append]
 by_cases e:E j f=true
 ·simp[e]
 ·simp[e]
theorem ZgO {E:Nat->Nat->Bool}{j b:Nat} (hb:b<j) (e:E b j=true):Zp E (j+1)=Zp E j:=by
 unfold Zp
 rw[YJ,List.filter_append]
 have:((List.range j).all λb=>!E b j)=false:=by
  rw[Bool.eq_false_iff];intro h
  have:=List.all_eq_true.mp h b (YA.mpr hb)
  rw[e]at this;cases this
 simp[this]
theorem ZgP {E:Nat->Nat->Bool}{j:Nat} (h:∀b,b<j->E b j=false):Zp E (j+1)=Zp E j++[j]:=by
 unfold Zp
 rw[YJ,List.filter_append]
 have:((List.range j).all λb=>!E b j)=true:=List.all_eq_true.mpr λb hb=>by rw[h b (YA.mp hb)];rfl
 simp[this]
theorem Zai {E:Nat->Nat->Bool}{j f:Nat}:f∈Zp E j↔f<j/\∀b,b<f->E b f=false:=by
 unfold Zp
 rw[YL,YA,List.all_eq_true]
 constructor
 ·rintro⟨a,b⟩
  exact⟨a,λc hc=>by have:=b c (YA.mpr hc);simpa using this⟩
 ·rintro⟨a,b⟩
  exact⟨a,λc hc=>by rw[b c (YA.mp hc)];rfl⟩
theorem ZhM {E:Nat->Nat->Bool} (tr:∀a b c,E a b=true->E b c=true->E a c=true) (rf:∀a,E a a=true) (j:Nat):∀a,a<j->∃f,f∈Zp E j/\E f a=true/\f<=a:=by
 intro a
 induction a using Nat.strongRecOn with
 |ind a ih =>
  intro ha
  by_cases h:∀b,b<a->E b a=false
  ·exact⟨a,Zai.mpr ⟨ha,h⟩,rf a,Ye _⟩
  ·obtain⟨b,hb⟩:=Classical.not_forall.mp h
   obtain⟨hb1,hb2⟩:=Classical.not_imp.mp hb
   have hb3:E b a=true:=by cases e:E b a with|true=>rfl|false=>exact absurd e hb2
   obtain⟨f,f1,f2,f3⟩:=ih b hb1 (by omega)
   exact⟨f,f1,tr _ _ _ f2 hb3,by omega⟩
theorem Zil (E:Nat->Nat->Bool) (j:Nat):(Zp E j).Nodup:=List.Pairwise.filter _ List.nodup_range
end L2
namespace L2
open PySem PySem.Spec PyProof.Rows PySem.W
noncomputable def ZmX (K:Frag) (f:Addr):Option Addr:=match K.lookup f with
 |some ⟨_,_,.func fd,_⟩=>(match fd.code with|.ref c=>some c|_=>none)
 |_=>none
noncomputable def tabOf (K:Frag) (c:Addr):Addr:=match K.lookup c with
 |some ⟨_,_,.fields vs,_⟩=>(match (vs[11]?:Option Value)with|some (.ref P)=>P|_=>0)
 |_=>0
noncomputable def Zkr (K:Frag) (mg:Str->Option Value) (x:Str):Addr:=match mg x with
 |some (.ref f)=>(match ZmX K f with|some c=>tabOf K c|none=>0)
 |_=>0
noncomputable def ZhN (q:Str):HO:=.tbl #[.str q 0]
noncomputable def BM (mg:Str->Option Value) (base:Heap):Prop :=
 ∃bm o,mg "__builtins__"=some (.ref bm)/\bm≠builtinsNs/\bm≠mainGlobals/\base.get? bm=some o/\o.cls=.type "module"/\o.dict=some builtinsNs/\o.data=.plain
noncomputable def LamO (env:Env) (P:Addr) (q:Str) (params:Arguments) (body:Expr) (scope:Scope) (H:Hp) (f:Addr):Prop :=
 ∃c oc vs t cl pm ctv,H f=some (.frz (kla_obj "<lambda>" q params body scope cl pm c ctv) (.own f))/\H c=some (.frz oc (.own P))/\oc.data=.fields vs/\vs[1]?=some (.str q t) /\
  (∀x c,cl.lookup x=some c->env.cells.lookup x=some c)/\(∀y∈scope.names,y.2=.free->∃c,cl.lookup y.1=some c/\env.cells.lookup y.1=some c)
structure LamIn (X:Cx) (P:Addr) (q:Str):Prop where
 code:∃c,X.env.code=.ref c/\codeHdIn X.K c P=true
 bm:BM X.mg X.base
 ql:X.env.qual++"<lambda>"=q
theorem Zlp {pos:Pos}{a b:Int}{c cv:Value}:∀(l:List Value),TriplesOk l->codeAmong pos (l++[rawInt a,rawInt b,c])=some cv->codeAmong pos l=some cv\/cv=c:=by
 intro l h e
 fun_induction TriplesOk l with
 |case1 =>
  simp only[List.nil_append,codeAmong,rawInt]at e
  split at e
  ·cases e;exact .inr rfl
  ·cases e
 |case2 a' t b' u x rest ih =>
  simp only[List.cons_append,codeAmong]at e⊢
  split at e
  ·rename_i hc;rw[Yd hc];exact .inl e
  ·rename_i hc;rw[Yb hc];exact ih h e
 |case3 l h1 h2=>exact h.elim
section
variable {X:Cx}
theorem Inv.lam {pins:List (Addr×Obj)}{σ:St}{H:Hp}{s:Shared}{h':Heap}{t':Nat}{P c f:Addr}{q:Str}{oc fo:Obj}{ts:Array Value}{vs:Array Value}{tq:Tok}
  (I:Inv X pins σ H s) (hP:H P=some (ZhN q)) (k:∀b o,b≠P->s.heap.get? b=some o->h'.get? b=some o) (hts:h'.get? P=some (tabObj ts)) (h3:TriplesOk ts.toList)
  (hc:H c=some (.frz oc (.own P))\/s.heap.objs.size<=c) (hcP:c≠P) (hoc:h'.get? c=some oc) (hd:oc.data=.fields vs) (hv:vs[1]?=some (.str q tq)) (hf:s.heap.objs.size<=f) (hfc:f≠c) (hfo:h'.get? f=some fo)
  (hcodes:∀pos cv,codeAmong pos ts.toList=some cv->cv=.ref c\/∃c2 oc vs t t',cv=.ref c2/\H c2=some (.frz oc (.own P))/\oc.data=.fields vs/\vs[1]?=some (.str q t)/\t'=(0:Tok)) :
  Inv X pins σ (upd (upd H c (.frz oc (.own P))) f (.frz fo (.own f))) {s with heap:=h',toks:=t'}:=by
 have hPlt:P<s.heap.objs.size:=I.hok.lt hP
 have hfP:f≠P:=λz=>by rw[z]at hf;exact absurd (Yt hPlt hf) (Yx _)
 have hfn:H f=none:=I.hok.fresh hf
 have up:∀b o,H b=some o->upd (upd H c (.frz oc (.own P))) f (.frz fo (.own f)) b=some o:=λb o e=>by
  have nf:b≠f:=Zj e hfn
  rw[Zf nf]
  rcases hc with hc|hc
  ·by_cases z:b=c
   ·subst z;rw[Zb,<-e,hc]
   ·rw[Zf z];exact e
  ·rw[Zf (Zj e (I.hok.fresh hc))];exact e
 have un:Un X.fs [] H (upd (upd H c (.frz oc (.own P))) f (.frz fo (.own f))) s.heap h':=by
  have nP:∀b,H b=none->b≠P:=λb n z=>by rw[z,hP]at n;cases n
  refine⟨λb o e n _ _=>k b o (nP b n) e,λb o e n _ _=>⟨o.slots,k b o (nP b n) e⟩,λb o e n _=>?_,λb o e _=>?_,λb xs e=>up _ _ e,λb o u e=>up _ _ e,λb ps e=>⟨#[],by rw[up _ _ e];simp⟩⟩
  ·have lt:=Yh e
   have nf:b≠f:=λz=>by rw[z]at lt;exact absurd (Yt lt hf) (Yx _)
   have nc:b≠c:=λz=>by
    rcases hc with hc|hc
    ·rw[z,hc]at n;cases n
    ·rw[z]at lt;exact absurd (Yt lt hc) (Yx _)
   rw[Zf nf,Zf nc];exact n
  ·by_cases z:b=P
   ·subst z;exact⟨_,hts⟩
   ·exact⟨o,k b o z e⟩
 refine I.un un λb o e=>?_
 by_cases zf:b=f
 ·subst zf
  rw[Zb]at e;cases e
  exact⟨hfo,_,hfo⟩
 rw[Zf zf]at e
 by_cases zc:b=c
 ·subst zc
  rw[Zb]at e;cases e
  exact⟨hoc,_,hoc⟩
 rw[Zf zc]at e
 by_cases zP:b=P
 ·subst zP
  rw[hP]at e;cases e
  refine⟨ts,hts,h3,λpos cv hcv=>?_⟩
  rcases hcodes pos cv hcv with rfl|⟨c2,oc2,vs2,t2,t2',e1,e2,e3,e4,_⟩
  ·exact⟨c,oc,vs,q,0,tq,rfl,by rw[Zf (Ne.symm hfc),Zb],hd,rfl,hv⟩
  ·exact⟨c2,oc2,vs2,q,0,t2,e1,up _ _ e2,e3,rfl,e4⟩
 ·refine(I.hok b o e).Zg6 (λb2 u hb z=>k b2 u ?_ z) (λb2 z=>up _ _ z) (λb2 xs z=>up _ _ z) λb2 o2 u2 z=>up _ _ z
  rcases hb with rfl|hb
  ·exact zP
  ·intro z;rw[z,hP]at hb;cases hb
noncomputable def tLam (env:Env) (P:Addr) (q:Str) (params:Arguments) (body:Expr) (scope:Scope):TE:=λ_ H Q=>H P=some (ZhN q)/\∀f H',H f=none->Zh H H'->LamO env P q params body scope H' f->Q (.ref f) H'
theorem pe_lam {P:Addr}{q:Str}{params:Arguments}{body:Expr}{scope:Scope}{pos:Pos} (L:LamIn X P q) (hok:compOk X.env.scope scope=true) (hdef:defaultsOf params X.env=([],[]):=by rfl) :
  PE X (.Lambda params body scope pos) (tLam X.env P q params body scope):=by
 intro pins s σ H Q I h
 obtain⟨hP,h⟩:=h
 obtain⟨c0,hc0,hcd⟩:=L.code
 have C:CodeHd s.heap c0 P:=codeHd_of_K I.kIn hcd
 obtain⟨bm,ob,b1,b2,b3,b4,b5,b6,b7⟩:=L.bm
 have hbm:=I.bs bm ob b4
 have bP:bm≠P:=λz=>by rw[z,hP]at hbm;cases hbm.2
 have gP:mainGlobals≠P:=λz=>by
  obtain⟨o,es,ep,e,_⟩:=I.ok.mod.glob
  have:=(I.bs _ _ e).2
  rw[z,hP]at this;cases this
 have hg:s.heap.Ns mainGlobals X.mg:=I.ok.mod.glob.keeps I.bk
 have hb:s.heap.BuiltinsAt X.mg P:=⟨bm,ob,b1,b2,b3,bP,hbm.1,b5,b6,b7⟩
 obtain⟨ts,hts,h3,hco⟩:=I.hok P _ hP
 obtain⟨cl,hcl,up,hfr⟩:=Zlb (env:=X.env) (scope:=scope) λy hy hf=>I.ok.has y.1 ((ZgM hok y hy hf).elim (λz=>.inl z) λz=>.inr z)
 have hco':∀pos cv,codeAmong pos ts.toList=some cv->∃c2 oc vs t t',cv=.ref c2/\H c2=some (.frz oc (.own P))/\oc.data=.fields vs/\vs[1]?=some (.str q t)/\t'=(0:Tok):=λpos cv e=>by
  obtain⟨c,oc,vs,q',t,t',e1,e2,e3,e4,e5⟩:=hco pos cv e
  have e4':some (Value.str q (0:Tok))=some (Value.str q' t):=e4
  cases e4'
  exact⟨c,oc,vs,t',0,e1,e2,e3,e5,rfl⟩
 refine kla_eval hdef ?_
 rw[L.ql]
 cases hca:codeAmong pos ts.toList with
 |some cv =>
  obtain⟨c,oc,vs,tq,t',rfl,e2,e3,e4,_⟩:=hco' pos cv hca
  refine kla_makeFunctionHit (mg:=X.mg) hcl I.ok.glob hg hc0 C hts h3 hca hb λctv h' tk hk hsz=>?_
  have hoc:s.heap.get? c=some oc:=(I.hok c _ e2).1
  have hcP:c≠P:=λz=>by rw[z,hP]at e2;cases e2
  have lt:=Yh hoc
  have kk:∀b o,s.heap.get? b=some o->(h'.push {cls:=.type "function",data:=.func (kla_fn "<lambda>" q params body scope cl ((X.mg "__name__").getD .none) (.ref c) ctv)}).get? b=some o:=λb o e=>Yi _ (hk b o e)
  have J:=I.lam (t':=tk) (f:=h'.objs.size) hP (λb o _ e=>kk b o e) (kk _ _ hts) h3 (.inl e2) hcP (kk _ _ hoc) e3 e4 hsz (λz=>by rw[<-z]at lt;exact absurd (Yt lt hsz) (Yx _)) (Yl _ rfl) λp2 cv2 z=>.inr (hco' p2 cv2 z)
  have hfn:H h'.objs.size=none:=I.hok.fresh hsz
  have ne:c≠h'.objs.size:=Yo (Yt lt hsz)
  refine⟨.ref h'.objs.size,_,J,rfl,h _ _ hfn (λb o e=>?_) ⟨c,oc,vs,tq,cl,_,ctv,Zb,by rw[Zf ne,Zb],e3,e4,up,hfr⟩⟩
  rw[Zf (Zj e hfn)]
  by_cases z:b=c
  ·subst z;rw[Zb,<-e,e2]
  ·rw[Zf z];exact e
 |none =>
  refine kla_makeFunction (mg:=X.mg) hcl I.ok.glob hg hc0 C hts h3 hca gP hb λc ctv h' tk hx hge hlt hrec htb=>?_
  obtain⟨c2,oc,vs,tq,e2,hoc,e3,e4⟩:=hrec
  cases e2
  have hsz:s.heap.objs.size<=h'.objs.size:=Yj hge (YV hlt)
  have kk:∀b o,h'.get? b=some o->(h'.push (kla_obj "<lambda>" q params body scope cl ((X.mg "__name__").getD .none) c ctv)).get? b=some o:=λb o e=>Yi _ e
  have hPlt:P<s.heap.objs.size:=I.hok.lt hP
  have hcP:c≠P:=λz=>by rw[z]at hge;exact absurd (Yt hPlt hge) (Yx _)
  have tl:(ts++#[rawInt pos.line,rawInt pos.col,Value.ref c]).toList=ts.toList++[rawInt pos.line,rawInt pos.col,Value.ref c]:=by simp
  have J:=I.lam (t':=tk) (f:=h'.objs.size) (ts:=ts++#[rawInt pos.line,rawInt pos.col,.ref c]) hP (λb o nb e=>kk b o (hx b o nb e)) (kk _ _ htb) (by rw[tl];exact TriplesOk_snoc _ _ _ _ h3) (.inr hge) hcP (kk _ _ hoc) e3 e4 hsz (Nat.ne_of_gt hlt) (Yl _ rfl) λp2 cv2 z=>by
   rw[tl]at z
   rcases Zlp ts.toList h3 z with y|y
   ·exact .inr (hco' p2 cv2 y)
   ·exact .inl y
  have hfn:H h'.objs.size=none:=I.hok.fresh hsz
  have hcn:H c=none:=I.hok.fresh hge
  refine⟨.ref h'.objs.size,_,J,rfl,h _ _ hfn (λb o e=>?_) ⟨c,oc,vs,tq,cl,_,ctv,Zb,by rw[Zf (Yo hlt),Zb],e3,e4,up,hfr⟩⟩
  rw[Zf (Zj e hfn),Zf (Zj e hcn)];exact e
end
noncomputable def lamQ (x:Str):Str:=(x++".<locals>.")++"<lambda>"
noncomputable def ZmY (K:Frag) (mg:Str->Option Value) (x:Str) (H:Hp):Prop:=H (Zkr K mg x)=some (ZhN (lamQ x))
theorem ZmY.same {K:Frag}{mg:Str->Option Value}{x:Str}{H H':Hp} (h:ZmY K mg x H) (s:Zh H H'):ZmY K mg x H':=s _ _ h
noncomputable def LamD (K:Frag) (mg:Str->Option Value) (x:Str) (f:Addr):Prop:=∃c,ZmX K f=some c/\codeHdIn K c (Zkr K mg x)=true
section
variable {P:Program}{w:World}{K:Frag}{mg:Str->Option Value}{base:Heap}
theorem Fun.okL {x qual:Str}{st:Stmt}{f:Addr}{fd:FuncData}{N ps:List Str}{k:Nat}{sp:Sp} (F:Fun K x qual st f fd) (L:LamD K mg qual f) (B:BM mg base) (S:FnScope N ps (defScope st)) (len:∀vs H Q E,sp vs H Q E->vs.length=ps.length)
  (hbody:∀(cdv:Value) (A:Around) (outer:List Env) (s:Shared) (H:Hp) (vs:List V) (Q:VK) (E:XK),LamIn (Zfg (CXE P w) P w K mg base N qual (defScope st) f cdv A outer s H E) (Zkr K mg qual) (lamQ qual)->Room k (A.deeper (envOfC qual (defScope st) s.heap.objs.size f cdv))->sp vs H Q E ->
   ∃t,PSs (Zfg (CXE P w) P w K mg base N qual (defScope st) f cdv A outer s H E) (defBody st) t/\t {nx:=λ_ H'=>Q .non H',rt:=Q} (start N vs) H):FnOk P w K mg base (CXE P w) (k+1) f fd ps sp:=by
 obtain⟨oc,od,kV,doc,pm,an,cdv,ct,osl,rfl,lk,hcd⟩:=F.ex
 obtain⟨c,h1,h2⟩:=L
 have e:cdv=.ref c:=by
  unfold ZmX at h1
  rw[lk]at h1
  dsimp only at h1
  cases cdv<;>first|(cases h1;rfl)|(cases h1;done)
 exact Zon lk hcd S len λA outer s H vs Q E hr hsp=>hbody cdv A outer s H vs Q E ⟨⟨c,e,h2⟩,B,rfl⟩ hr hsp
end
theorem ZoS {b:Addr}{q:Str}:∀{l:List (Addr×Str)},l.lookup b=some q->(b,q)∈l
 |[],e=>by cases e
 |(c,y)::r,e=>by
  rw[List.lookup_cons]at e
  cases hb:b==c with
  |true=>rw[hb]at e;cases e;rw[eq_of_beq hb];exact Y1
  |false=>rw[hb]at e;exact YQ _ (ZoS e)
theorem Zp7 {K:Frag}{mg:Str->Option Value}{x:Str}{f c T:Addr}{oc1 oc2:Value}{od1 od2:Option Addr}{fd:FuncData}{sl1 sl2:Array (Option Value)}{vs:Array Value} (hm:mg x=some (.ref f)) (l1:K.lookup f=some ⟨oc1,od1,.func fd,sl1⟩) (e:fd.code=.ref c) (l2:K.lookup c=some ⟨oc2,od2,.fields vs,sl2⟩) (h11:vs[11]?=some (.ref T)):Zkr K mg x=T/\ZmX K f=some c:=by
 have h1:ZmX K f=some c:=by
  unfold ZmX
  rw[l1]
  dsimp only
  rw[e]
 refine⟨?_,h1⟩
 unfold Zkr
 rw[hm]
 dsimp only
 rw[h1]
 dsimp only
 unfold tabOf
 rw[l2]
 dsimp only
 rw[h11]
theorem ZmZ {P:Program}{w:World}{K:Frag}{mg mb:Str->Option Value}{CX:CXT}{k:Nat}{fa a:Addr}{fd:FuncData}{x:Str}{sp:Sp}{s₁:Shared}{vs:List Value}{ns:List Int}{tabs:List (Addr×Str)}
  (KX:K.In s₁.heap) (hns:s₁.heap.Ns mainGlobals mg) (hb:s₁.heap.Ns builtinsNs mb) (hbb:∀x:Str,x≠"__name__"->mb x=bootBuiltins x) (hlim:s₁.heap.NoLimit) (hg:s₁.gens=#[]) (hbm:BM mg s₁.heap)
  (ha:s₁.heap.get? a=some {cls:=.type "list",data:=.seq vs.toArray}) (hi:IntsAre vs ns) (hl:ns.length<=sizeLine) (hr:Room k callerA)
  (hT:∀p∈tabs,s₁.heap.get? p.1=some (tabObj #[])/\K.lookup p.1=none/\∃c,codeHdIn K c p.1=true) (nd:(tabs.map (·.1)).Nodup)
  (F:∀base:Heap,K.In base->base.Ns mainGlobals mg->BM mg base->FnOk P w K mg base CX k fa fd [x] sp) (hbind:∀(s:Shared) (u:Value),BindsTo s fd ⟨[u],[]⟩ [(x,u)])
  (hsp:∀H:Hp,SqL K H a (ns.map V.int)->(∀p∈tabs,H p.1=some (ZhN p.2))->sp [.ref a] H (λv _=>v=.bl true) λ_ _ _=>False)
  (hCX:∀H e s',CX [] H s₁ (λ_ _ _=>False) e s'->False) :
  codeAny (model P w) callerA (.call (.ref fa) ⟨[.ref a],[]⟩) (λr s'=>r=.ok (.ret (.bool true))/\OldK s₁.heap s'.heap/\s'.os=s₁.os/\AllBare s'.gens) s₁:=by
 have rv:=ZiD hi
 have lenV:=hi.length
 have tmem:∀b q,tabs.lookup b=some q->(b,q)∈tabs:=λb q e=>ZoS e
 have tlook:∀p∈tabs,tabs.lookup p.1=some p.2:=by
  clear hT hsp tmem
  induction tabs with
  |nil=>intro p hp;cases hp
  |cons t r ih =>
   intro p hp
   rw[YD,List.nodup_cons]at nd
   rcases Yk.mp hp with rfl|hp
   ·rw[List.lookup_cons,beq_self_eq_true]
   ·have:(p.1==t.1)=false:=beq_eq_false_iff_ne.mpr λz=>nd.1 (YH.mpr ⟨p,hp,z⟩)
    rw[List.lookup_cons,this]
    exact ih nd.2 p hp
 have core:∀H:Hp,SqL K H a (ns.map V.int)->HOk P w H s₁.heap->(∀b,H b=none\/(b=a/\K.lookup a=none/\∃o xs,H b=some (.frz o (.lst xs)))\/∃q,(b,q)∈tabs/\H b=some (ZhN q))->(∀p∈tabs,H p.1=some (ZhN p.2)) ->
   codeAny (model P w) callerA (.call (.ref fa) ⟨[.ref a],[]⟩) (λr s'=>r=.ok (.ret (.bool true))/\OldK s₁.heap s'.heap/\s'.os=s₁.os/\AllBare s'.gens) s₁:=by
  intro H hS hok hA hTb
  have base_of:∀{b:Addr}{o:Obj},s₁.heap.get? b=some o->H b=none->(Zie s₁.heap H).get? b=some o:=λe n=>Zn9 e n
  have noA:∀{b:Addr}{o:Obj},s₁.heap.get? b=some o->o.cls≠.type "list"->o.cls≠.none->H b=none:=λ{b o} e d1 d2=>by
   rcases hA b with z|⟨z,_⟩|⟨q,z,_⟩
   ·exact z
   ·subst z;rw[ha]at e;cases e;exact absurd rfl d1
   ·rw[(hT _ z).1]at e;cases e;exact absurd rfl d2
  have noD:∀{b:Addr}{o:Obj}{es:Array DictEntry}{ep:Nat},s₁.heap.get? b=some o->o.data=.dict es ep->H b=none:=λ{b o es ep} e d=>by
   rcases hA b with z|⟨z,_⟩|⟨q,z,_⟩
   ·exact z
   ·subst z;rw[ha]at e;cases e;cases d
   ·rw[(hT _ z).1]at e;cases e;cases d
  have nsK:∀{b:Addr}{m:Str->Option Value},s₁.heap.Ns b m->(Zie s₁.heap H).Ns b m:=λ{b m} ⟨o,es,ep,e,d,r⟩=>⟨o,es,ep,base_of e (noD e d),d,r⟩
  have hKb:K.In (Zie s₁.heap H):=λb o e=>base_of (KX b o e) (by
   rcases hA b with z|⟨z,zk,_⟩|⟨q,z,_⟩
   ·exact z
   ·subst z;rw[zk]at e;cases e
   ·rw[(hT _ z).2.1]at e;cases e)
  have hM:Mod K mg (Zie s₁.heap H):=⟨hKb,nsK hns,⟨mb,nsK hb,hbb⟩,let ⟨mc,h1,h2⟩:=hlim;⟨mc,nsK h1,h2⟩⟩
  have hB:BM mg (Zie s₁.heap H):=by
   obtain⟨bm,ob,b1,b2,b3,b4,b5,b6,b7⟩:=hbm
   exact⟨bm,ob,b1,b2,b3,base_of b4 (noA b4 (by rw[b5];decide) (by rw[b5];nofun)),b5,b6,b7⟩
  have e0:Env0 P w K mg (Zie s₁.heap H) callerA [] s₁ H:=⟨rfl,hM,λb o e=>ZpH e,Nat.le_of_eq (Zmm _ _),trivial,λb hb=>absurd (show b∈([]:List Addr)from hb) (by simp),hok,.of_eq hg⟩
  refine codeAny_mono ((F _ hKb (nsK hns) hB).run callerA [] s₁ H ⟨[.ref a],[]⟩ [.ref a] [.ref a] _ _ hr e0 (hbind s₁ (.ref a)) (.cons rfl .nil) (hsp H hS hTb)) λr s' h=>?_
  cases r with
  |error e=>exact(hCX H e s' h).elim
  |ok fl =>
   cases fl with
   |next=>exact False.elim h
   |brk=>exact False.elim h
   |cont=>exact False.elim h
   |ret u =>
    obtain⟨v,H',os,bare,un,hok',r',q⟩:=h
    have q':v=.bl true:=q
    subst q'
    obtain rfl:u=Value.bool true:=r'
    have old:∀b o,s₁.heap.get? b=some o->asItWas s₁.heap s'.heap b o/\∃o',s'.heap.get? b=some o':=λb o e=>by
     rcases hA b with z|⟨_,_,ob,xs,z⟩|⟨q,zm,z⟩
     ·have:=un.keep b o e z (by intro y;exact absurd (show b∈([]:List Addr)from y) (by simp)) (by simp)
      exact⟨.inl this,o,this⟩
     ·have z2:=un.frzs b ob _ z
      obtain⟨e1,_⟩:=hok b _ z
      obtain⟨e2,_⟩:=hok' b _ z2
      rw[e]at e1;cases e1
      exact⟨.inl e2,o,e2⟩
     ·obtain⟨more,z2⟩:=un.tbls b _ z
      obtain⟨ts,e2,_⟩:=hok' b _ z2
      obtain⟨t1,_,c,t3⟩:=hT _ zm
      have t1':s₁.heap.get? b=some (tabObj #[]):=t1
      rw[e]at t1';cases t1'
      refine⟨.inr (.inl ⟨((codeHd_of_K KX t3).tab t1).isCodeTable,rfl,#[],ts,rfl,by rw[Array.empty_append];exact e2⟩),_,e2⟩
    exact⟨rfl,⟨λb o e=>(old b o e).1,λb o e=>(old b o e).2⟩,os,bare⟩
 have neA:∀q,(a,q)∉tabs:=λq z=>by
  have:=(hT _ z).1
  rw[show((a,q):Addr×Str).1=a from rfl,ha]at this;cases this
 have tabok:∀(H:Hp) (b:Addr) (q:Str),(b,q)∈tabs->Zao P w H s₁.heap b (ZhN q):=λH b q z=>⟨#[],(hT _ z).1,trivial,λpos cv e=>by cases e⟩
 cases hk:K.lookup a with
 |some o =>
  have e:=KX a o hk
  rw[ha]at e
  cases e
  refine core (λb=>(tabs.lookup b).map ZhN) (.inr ⟨_,vs.toArray,_,hk,rfl,rfl,rfl,by rw[Ym,lenV];exact hl,by simpa using rv⟩) (λb u z=>?_) (λb=>?_) λp hp=>by rw[tlook p hp];rfl
  ·dsimp only at z
   cases q:tabs.lookup b with
   |none=>rw[q]at z;cases z
   |some y=>rw[q]at z;cases z;exact tabok _ b y (tmem b y q)
  ·cases q:tabs.lookup b with
   |none=>exact .inl rfl
   |some y=>exact .inr (.inr ⟨y,tmem b y q,rfl⟩)
 |none =>
  refine core (λb=>if b=a then some (.frz {cls:=.type "list",data:=.seq vs.toArray} (.lst (ns.map V.int)))else (tabs.lookup b).map ZhN) (.inl (.inr ⟨{cls:=.type "list",data:=.seq vs.toArray},Yd rfl⟩)) (λb u z=>?_) (λb=>?_) λp hp=>?_
  ·by_cases hb:b=a
   ·have z':=(Yd hb).symm.trans z
    cases z'
    subst hb
    exact⟨ha,by rw[Yf];exact hl,vs,_,rv,ha⟩
   ·have z':=(Yb hb).symm.trans z
    cases q:tabs.lookup b with
    |none=>rw[q]at z';cases z'
    |some y=>rw[q]at z';cases z';exact tabok _ b y (tmem b y q)
  ·by_cases hb:b=a
   ·exact .inr (.inl ⟨hb,hk,_,_,Yd hb⟩)
   ·cases q:tabs.lookup b with
    |none=>exact .inl (by rw[Yb hb];rfl)
    |some y=>exact .inr (.inr ⟨y,tmem b y q,by rw[Yb hb];rfl⟩)
  ·have:p.1≠a:=λz=>neA p.2 (by rw[<-z];exact hp)
   rw[Yb this,tlook p hp];rfl
theorem ZoT {l:OpenLaw}{n k:Nat}{q:Program}{loose:List Str}{XP:(Str->Option Value)->Heap->Prop}{YP:World->Heap->Prop}{d:DefRec}{K:Params->Frag}{CX:World->CXT}{sp:World->(Str->Option Value)->Sp}{x:Str}{ts:List Addr}{tabs:Frag->(Str->Option Value)->List (Addr×Str)}
  (hn:l.most=some n) (hn2:n<=sizeLine) (hdf:d.params.defaults=[]) (hr:Room k callerA)
  (hY:∀(w:World) (h:Heap),YP w h->(K w.params).In h) (hY2:∀(w:World) (h:Heap),YP w h->∀P∈ts,h.get? P=some (tabObj #[]))
  (F:∀(w:World) (mg:Str->Option Value) (fa:Addr) (h:Heap),(K w.params).In h->h.Ns mainGlobals mg->mg d.name=some (.ref fa) ->
   ∃fd:FuncData,(∀(s:Shared) (u:Value),BindsTo s fd ⟨[u],[]⟩ [(x,u)])/\(∀p∈tabs (K w.params) mg,p.1∈ts/\(K w.params).lookup p.1=none/\∃c,codeHdIn (K w.params) c p.1=true)/\((tabs (K w.params) mg).map (·.1)).Nodup /\
    ∀base:Heap,(K w.params).In base->base.Ns mainGlobals mg->BM mg base->FnOk l.prog w (K w.params) mg base (CX w) k fa fd [x] (sp w mg))
  (hsp:∀(w:World) (mg:Str->Option Value) (H:Hp) (a:Addr) (ns:List Int),ns.length<=n->SqL (K w.params) H a (ns.map V.int)->(∀p∈tabs (K w.params) mg,H p.1=some (ZhN p.2))->sp w mg [.ref a] H (λv _=>v=.bl true) λ_ _ _=>False)
  (hCX:∀(w:World) (H:Hp) (s:Shared) (e:Value) (s':Shared),CX w [] H s (λ_ _ _=>False) e s'->False) :
  WalkO q loose XP YP l.row.toRowW d [] (λf vs=>PySem.call f vs):=by
 refine Att.ZjZ hn hdf λw s₀ s₁ mg mb fa o pm cd doc a vs ns G Y ho hd hcd hmg hobj hints hlen hg=>?_
 have KX:=hY w _ Y
 have TX:=hY2 w _ Y
 obtain⟨fd,hb,hT,nd,hF⟩:=F w mg fa _ KX G.T.g hmg
 have hbm:BM mg s₁.heap:=by
  obtain⟨bm,ob,b1,b2,b3,b4,b5,b6⟩:=G.T.bmain
  have bG:bm≠mainGlobals:=λz=>by
   obtain⟨o,es,ep,e,hd,_⟩:=G.T.g
   rw[z,e]at b3;cases b3;rw[hd]at b6;cases b6
  exact⟨bm,ob,b1,b2,bG,b3,b4,b5,b6⟩
 exact ZmZ KX G.T.g G.T.b G.T.builtins G.T.nolimit hg hbm hobj hints (Yj hlen hn2) hr (λp hp=>⟨TX _ (hT p hp).1,(hT p hp).2⟩) nd hF hb (λH hS hTb=>hsp w mg H a ns hlen hS hTb) λH e s'=>hCX w H s₁ e s'
section
variable {ky:Keyed->Int}
noncomputable def Srt (ky:Keyed->Int) (l:List Keyed):Prop:=l.Pairwise (λx y=>ky x<=ky y)
variable {a b out:List Keyed}{ia ib:Nat}
noncomputable def Gd (ky:Keyed->Int) (a b res:List Keyed):Prop:=res.Perm (a++b)/\Srt ky res
variable {prog:Program}{w:World}{A:Around}{E:Value->Shared->Prop}{s:Shared}{κ:SortKind}{P:Keyed->Prop}
end
section
variable {ky:Keyed->Int}
noncomputable def kp (ky:Keyed->Int) (a:Array Keyed) (i:Nat):Int:=ky (a.getD i (Value.none,Value.none))
theorem kp_at {a:Array Keyed}{i:Nat} (h:i<a.size):kp ky a i=ky a[i]:=by unfold kp;simp[Array.getD,h]
noncomputable def SoR (ky:Keyed->Int) (a:Array Keyed) (l r:Nat):Prop:=∀i j,l<=i->i<=j->j<r->kp ky a i<=kp ky a j
structure Chg (a a':Array Keyed) (l r:Nat):Prop where
 perm:a'.Perm a
 same:∀i,i<l\/r<=i->a'[i]?=a[i]?
variable {prog:Program}{w:World}{A:Around}{E:Value->Shared->Prop}{s:Shared}{κ:SortKind}{P:Keyed->Prop}
end
section
variable {ky:Keyed->Int}
variable {a a':Array Keyed}
theorem Zma (base:Nat):∀(m:List Keyed) (n:Nat) (a:Array Keyed),base+n+m.length<=a.size ->
  (List.foldl (λ(a:Array Keyed) (x:Keyed×Nat)=>a.setIfInBounds (base+x.2) x.1) a (m.zipIdx n)).toList=a.toList.take (base+n)++m++a.toList.drop (base+n+m.length)
 |[],n,a,h=>by simp
 |x::m,n,a,h=>by
  simp only[YF]at h
  rw[List.zipIdx_cons,List.foldl_cons,Zma base m (n+1) _ (by simp;omega)]
  simp only[Array.toList_setIfInBounds,YF]
  have e1:(a.toList.set (base+n) x).take (base+(n+1))=a.toList.take (base+n)++[x]:=by
   rw[<-Nat.add_assoc,List.take_add_one,List.take_set,List.getElem?_set]
   rw[List.set_eq_of_length_le (by simp;omega)]
   simp[show base+n<a.size by omega]
  have e2:(a.toList.set (base+n) x).drop (base+(n+1)+m.length)=a.toList.drop (base+n+(m.length+1)):=by
   rw[List.drop_set_of_lt (by omega)]
   congr 1;omega
  rw[e1,e2]
  simp
variable {prog:Program}{w:World}{A:Around}{E:Value->Shared->Prop}{s:Shared}{κ:SortKind}{P:Keyed->Prop}
theorem laid {base mid r:Nat}{res:Array Keyed} (h1:base<=mid) (h2:mid<=r) (h3:r<=a.size) (hg:Gd ky (a.extract base mid).toList (a.extract mid r).toList res.toList) :
  ∃a':Array Keyed,List.foldl (λ(a:Array Keyed) (x:Keyed×Nat)=>a.setIfInBounds (base+x.2) x.1) a res.toList.zipIdx=a'/\Chg a a' base r/\SoR ky a' base r/\∀j,base<=j->j<r->∃t,base<=t/\t<r/\kp ky a' j=kp ky a t:=by
 have hlen:res.toList.length=r-base:=by
  have:=hg.1.length_eq
  simp only[YE,YN,Array.size_extract]at this⊢;omega
 have key:=Zma base res.toList 0 a (by omega)
 have hb:base+0+res.toList.length=r:=by omega
 rw[hb,Nat.add_zero]at key
 refine⟨_,rfl,⟨?_,?_⟩,?_,?_⟩
 ·rw[Array.perm_iff_toList_perm,key]
  have e:a.toList=a.toList.take base++((a.extract base mid).toList++(a.extract mid r).toList)++a.toList.drop r:=by
   simp only[Array.toList_extract,List.extract_eq_drop_take]
   have:(a.toList.drop base).take (mid-base)++(a.toList.drop mid).take (r-mid)=(a.toList.drop base).take (r-base):=by
    have e2:r-base=(mid-base)+(r-mid):=by omega
    rw[e2,List.take_add,List.drop_drop]
    congr 3;omega
   rw[this]
   have e3:a.toList.drop r=(a.toList.drop base).drop (r-base):=by rw[List.drop_drop];congr 1;omega
   rw[e3,YZ,Y7,Y7]
  conv=>rhs;rw[e]
  exact List.Perm.append_right _ (List.Perm.append_left _ hg.1)
 ·intro i hi
  rw[<-Array.getElem?_toList,<-Array.getElem?_toList,key]
  have hl0:(a.toList.take base).length=base:=by simp;omega
  rcases hi with hi|hi
  ·rw[YZ,YT (by omega),List.getElem?_take_of_lt hi]
  ·rw[Y2 (by simp;simp at hlen;omega),List.getElem?_drop]
   congr 1
   simp only[YE,hl0,hlen];omega
 all_goals
  have atm:∀j,(hj0:base<=j)->(hj:j<r)->kp ky (List.foldl (λ(a:Array Keyed) (x:Keyed×Nat)=>a.setIfInBounds (base+x.2) x.1) a res.toList.zipIdx) j=ky (res.toList[j-base]'(by omega)):=by
   intro j j1 j2
   have hl0:(a.toList.take base).length=base:=by simp;omega
   have:(List.foldl (λ(a:Array Keyed) (x:Keyed×Nat)=>a.setIfInBounds (base+x.2) x.1) a res.toList.zipIdx)[j]?=some (res.toList[j-base]'(by omega)):=by
    rw[<-Array.getElem?_toList,key,YZ,Y2 (by omega),YT (by omega),hl0,Yg (by omega)]
   unfold kp
   rw[Array.getD_eq_getD_getElem?,this];rfl
 ·intro i j hi hij hj
  rw[atm i hi (by omega),atm j (by omega) hj]
  by_cases e:i=j
  ·subst e;exact Int.le_refl _
  ·exact List.pairwise_iff_getElem.mp hg.2 _ _ _ _ (by omega)
 ·intro j j1 j2
  rw[atm j j1 j2]
  have hm:(res.toList[j-base]'(by omega))∈(a.extract base mid).toList++(a.extract mid r).toList:=(List.Perm.mem_iff hg.1).mp (Yz _)
  rcases Yy.mp hm with hm|hm
  ·obtain⟨t,ht,e⟩:=List.mem_iff_getElem.mp hm
   simp only[YN,Array.size_extract]at ht
   simp only[Array.getElem_toList,Array.getElem_extract]at e
   exact⟨base+t,by omega,by omega,by rw[kp_at (by omega),e,Array.getElem_toList]⟩
  ·obtain⟨t,ht,e⟩:=List.mem_iff_getElem.mp hm
   simp only[YN,Array.size_extract]at ht
   simp only[Array.getElem_toList,Array.getElem_extract]at e
   exact⟨mid+t,by omega,by omega,by rw[kp_at (by omega),e,Array.getElem_toList]⟩
end
end L2
namespace L2
open PySem PySem.Spec PyProof.Rows
end L2
namespace L2
open PySem PySem.Spec PyProof.Rows PySem.W
end L2
namespace L2
open PySem PySem.Spec PyProof.Rows PySem.W PySem.Calls
end L2
namespace L2
open PySem PySem.Spec PyProof.Rows PySem.W
theorem le1 {n:Nat}{us:List Value} (e:us.length=n+1):∃a t,us=a::t/\t.length=n:=by
 cases us with
 |nil=>cases e
 |cons a t=>exact⟨a,t,rfl,Nat.succ.inj e⟩
theorem le0 {us:List Value} (e:us.length=0):us=[]:=List.length_eq_zero_iff.mp e
end L2
namespace L2
open PySem PySem.Spec PyProof.Rows PySem.W PyProof
end L2
namespace L2
open PySem PySem.Spec PyProof.Rows PySem.W
end L2
namespace HT
open PySem PyProof.Rows
section
open PySem.SeqAt
open PySem.AutoSeq1 (wpAny_loadPart')
open PySem.MeetsSeq PySem.MeetsSeq2 PySem.MeetsSeq3
end
end HT
namespace L2
open PySem PySem.Spec PyProof.Rows PySem.W
end L2
namespace L2
open PySem PySem.Spec PyProof.Rows PySem.W PyProof
noncomputable def Zdu (cs:List Addr) (H:Hp):Hp:=λb=>if b∈cs then none else H b
noncomputable def onC (cs:List Addr) (H H1:Hp):Hp:=λb=>if b∈cs then H b else H1 b
theorem Ze1 {cs:List Addr}{H:Hp}{b:Addr} (h:b∈cs):Zdu cs H b=none:=Yd h
theorem Zaj {cs:List Addr}{H:Hp}{b:Addr} (h:b∉cs):Zdu cs H b=H b:=Yb h
theorem Zlq {cs:List Addr}{H H1:Hp}{b:Addr} (h:b∈cs):onC cs H H1 b=H b:=Yd h
theorem Zc2 {cs:List Addr}{H H1:Hp}{b:Addr} (h:b∉cs):onC cs H H1 b=H1 b:=Yb h
noncomputable def CellsIn (cs:List Addr) (H:Hp):Prop:=∀b∈cs,∃o v,H b=some (.frz o (.own b))/\o.data=.cell v
theorem CellsIn.out {cs:List Addr}{H:Hp} (h:CellsIn cs H) {b:Addr}{u:HO} (e:H b=some u) (n:∀o v,u=.frz o (.own b)->o.data=.cell v->False):b∉cs:=λhb=>by
 obtain⟨o,v,e2,e3⟩:=h b hb
 rw[e]at e2
 exact n o v (Yq e2) e3
theorem Zao.stayF {P:Program}{w:World}{H H':Hp}{h h':Heap}{a:Addr}{o:HO} (x:Zao P w H h a o) (k:∀b u,(b=a\/H b=some (.own a))->h.get? b=some u->h'.get? b=some u)
  (ho:∀b,H b=some (.own a)->H' b=some (.own a)) (ht:∀b xs,H b=some (.tup xs)->H' b=some (.tup xs)) (hz:∀b o u vs,o.data=.fields vs->H b=some (.frz o u)->H' b=some (.frz o u)):Zao P w H' h' a o:=by
 induction o with
 |lst xs=>obtain⟨z,its,n,r,e⟩:=x;exact⟨z,its,n,r,k _ _ (.inl rfl) e⟩
 |tup xs=>obtain⟨z,its,r,ob,e,c⟩:=x;exact⟨z,its,r,ob,k _ _ (.inl rfl) e,c⟩
 |dK kvs=>obtain⟨z,y,vs,r,ob,es,ep,e,c⟩:=x;exact⟨z,y,vs,r,ob,es,ep,k _ _ (.inl rfl) e,c⟩
 |dT kvs =>
  obtain⟨z,y,xs,r,ob,es,ep,e,c⟩:=x
  exact⟨z,y,xs,Paired.mapP r λp q z=>⟨z.1,ht _ _ z.2.1,z.2.2⟩,ob,es,ep,k _ _ (.inl rfl) e,c⟩
 |set S n=>obtain⟨ob,es,ep,t,e,c⟩:=x;exact⟨ob,es,ep,t,k _ _ (.inl rfl) e,c⟩
 |ins C dx fs =>
  obtain⟨d,z,ne,e,mA,⟨od,es,ep,e2,c⟩,r⟩:=x
  exact⟨ho _ d,z,ne,k _ _ (.inl rfl) e,mA,⟨od,es,ep,k _ _ (.inr d) e2,c⟩,r⟩
 |own y=>obtain⟨ob,e⟩:=x;exact⟨ob,k _ _ (.inl rfl) e⟩
 |xd fs=>obtain⟨mA,⟨od,es,ep,e,c⟩,r⟩:=x;exact⟨mA,⟨od,es,ep,k _ _ (.inl rfl) e,c⟩,r⟩
 |rng lo hi=>obtain⟨t,u,v,e⟩:=x;exact⟨t,u,v,k _ _ (.inl rfl) e⟩
 |frz ob u ih=>obtain⟨e,q⟩:=x;exact⟨k _ _ (.inl rfl) e,ih q⟩
 |tbl ps =>
  obtain⟨ts,e,t3,z⟩:=x
  refine⟨ts,k a _ (.inl rfl) e,t3,λpos cv hc=>?_⟩
  obtain⟨c,oc,vs,q,t,t',e1,e2,e3,r⟩:=z pos cv hc
  exact⟨c,oc,vs,q,t,t',e1,hz _ _ _ _ e3 e2,e3,r⟩
 |met f y =>
  have e:h.get? a=some (PySem.W.methodObj (.ref f) (.ref y)):=x
  show h'.get? a=some (PySem.W.methodObj (.ref f) (.ref y))
  exact k a _ (.inl rfl) e
 |ext φ=>obtain⟨p,⟨o,e⟩,st⟩:=x;exact⟨st _ _ p λo q=>k _ _ (.inl rfl) q,⟨o,k _ _ (.inl rfl) e⟩,st⟩
theorem HOk.Zdu {P:Program}{w:World}{H:Hp}{h h':Heap}{cs:List Addr} (x:HOk P w H h) (hc:CellsIn cs H) (k:∀b o,h.get? b=some o->h'.get? b=some o):HOk P w (Zdu cs H) h':=λa o e=>by
 by_cases ha:a∈cs
 ·rw[Ze1 ha]at e;cases e
 rw[Zaj ha]at e
 refine(x a o e).stayF (λb u _ z=>k b u z) (λb z=>?_) (λb xs z=>?_) λb ob u vs hd z=>?_
 ·rw[Zaj (hc.out z λ_ _ y _=>nomatch y)];exact z
 ·rw[Zaj (hc.out z λ_ _ y _=>nomatch y)];exact z
 ·rw[Zaj (hc.out z λo v y q=>by cases y;rw[hd]at q;cases q)];exact z
theorem HOk.onC {P:Program}{w:World}{H H':Hp}{h:Heap}{cs:List Addr} (x:HOk P w H' h) (hn:∀b∈cs,H' b=none) (hc:∀b∈cs,∃o,H b=some (.frz o (.own b))/\h.get? b=some o):HOk P w (onC cs H H') h:=λa o e=>by
 by_cases ha:a∈cs
 ·rw[Zlq ha]at e
  obtain⟨ob,e1,e2⟩:=hc a ha
  rw[e1]at e;cases e
  exact⟨e2,ob,e2⟩
 rw[Zc2 ha]at e
 have up:∀b u,H' b=some u->L2.onC cs H H' b=some u:=λb u z=>by
  rw[Zc2 (λhb=>by rw[hn b hb]at z;cases z)];exact z
 exact(x a o e).Zg6 (λb u _ z=>z) (λb z=>up _ _ z) (λb xs z=>up _ _ z) λb ob u z=>up _ _ z
noncomputable def FnV (P:Program) (w:World) (K:Frag) (mg:Str->Option Value) (base:Heap) (k:Nat) (f:Addr) (sp:V->Hp->VK->Prop):Prop :=
 ∀(A:Around) (outer:List Env) (s:Shared) (H:Hp) (u:Value) (v:V) (Q:VK),Room k A->Env0 P w K mg base A outer s H->RelV v u->sp v H Q->codeAny (model P w) A (.call (.ref f) ⟨[u],[]⟩) (λr s'=>∃u',r=.ok (.ret u')/\CE outer P w H s Q u' s') s
noncomputable def Zks (H:Hp) (f:Addr):Prop:=∃oc od fd sl u,H f=some (.frz ⟨oc,od,.func fd,sl⟩ u)
theorem Zks.same {H H':Hp}{f:Addr} (h:Zks H f) (s:Zh H H'):Zks H' f:=let ⟨a,b,c,d,e,z⟩:=h;⟨a,b,c,d,e,s _ _ z⟩
section
variable {X:Cx}
noncomputable def Zlr (P:Program) (w:World) (K:Frag) (mg:Str->Option Value) (base:Heap) (k:Nat) (tf:TE) (t:TA):TE:=fun σ H Q=>tf σ H λy H1=>∃f,y=.ref f/\Zks H1 f/\t σ H1 λvs H2=>∃v sp,vs=[v]/\Zks H2 f/\FnV P w K mg base k f sp/\sp v H2 Q
theorem Zkt {k:Nat}{fx e:Expr}{tf:TE}{t:TA}{pos:Pos} (hr:Room k X.A) (hf:PE X fx tf) (ha:PA X [e] t)
  (hev:eval (.Call fx [e] [] pos) X.env=(do callWith pos (<-eval fx X.env) [] (backTo pos (starEach [e] X.env)) (backToKw pos (keywordEach [] X.env))):=by rfl)
  (he:starEach [e] X.env=(false,eval e X.env)::starEach [] X.env:=by rfl) (hpl:(backTo pos (starEach [] X.env)).any (·.1)=false:=by rfl):PE X (.Call fx [e] [] pos) (Zlr X.prog X.w X.K X.mg X.base k tf t):=by
 intro pins s σ H Q I h
 refine Call_ (thn (hf pins s σ H _ I h) λv s1 ⟨y,H1,I1,r1,f,ey,hF1,q1⟩=>?_) hev
 subst ey
 cases r1
 have fat:∀{H:Hp}{s:Shared}{σ:St},Inv X pins σ H s->Zks H f->FnAt f s.heap:=λI ⟨oc,od,fd,sl,u,z⟩=>⟨oc,od,fd,sl,(I.hok f _ z).1⟩
 refine callWith_F (fat I1 hF1) (thn (ha pos pins s1 σ H1 _ I1 q1) λus s2 ⟨vs,H2,I2,r,v,sp,ev,hF2,hV,q⟩=>⟨fat I2 hF2,?_⟩) he hpl
 subst ev
 obtain⟨u,rfl,ru⟩:=r.one
 exact wpAny_call (codeAny_mono (hV X.A X.stack s2 H2 u v Q hr I2.env0 ru q) λr s' ⟨u',hr',z⟩=>by subst hr';exact I2.after z)
end
noncomputable def Zel (P:Program) (w:World) (K:Frag) (mg:Str->Option Value) (base:Heap) (A':Around) (outer:List Env) (Nc:List Str) (q:Str) (scope:Scope) (cl:List (Str×Addr)) (L f c:Addr) (s:Shared) (H:Hp):Cx where
 prog:=P
 w:=w
 K:=K
 mg:=mg
 base:=base
 A:=A'.deeper (envX q scope L f (.ref c) cl)
 N:=Nc
 s₀:=s
 H₀:=H
 env:=envX q scope L f (.ref c) cl
 outer:=outer
 stack:=envX q scope L f (.ref c) cl::outer
 ex:=[]
 fn:=λ_=>false
 calm:=true
 pn:=[]
 xe:=λ_ _=>False
structure LamSF (fr:List Str) (params:Arguments) (body:Expr) (scope:Scope) (pn:Str):Prop where
 cell:∀y∈scope.names,y.2≠.cell
 kind:scope.kind=.function
 frs:∀x∈fr,scope.names.lookup x=some .free
 pl:scope.names.lookup pn=some .local
 co:scope.isCoroutine=false
 gen:scope.isGenerator=false
 bd:∀(q:Str) (cl:List (Str×Addr)) (pm cd ctv u:Value),bindArgs (kla_fn "<lambda>" q params body scope cl pm cd ctv) ⟨[u],[]⟩=pure [(pn,u)]
noncomputable def ZoU (Hz:Hp) (cs:List Addr) (vals:St) (tb:TE):V->Hp->VK->Prop:=λv H Q=>(∀b o u,Hz b=some (.frz o u)->H b=some (.frz o u))/\tb (some v::vals) (Zdu cs H) λx H'=>(∀b∈cs,H' b=none)->Q x (onC cs H H')
theorem Zp8 {P:Program}{w:World}{K:Frag}{mg:Str->Option Value}{base:Heap}{k:Nat}{fr:List Str}{q pn:Str}{params:Arguments}{body:Expr}{scope:Scope}{tb:TE}{Hz:Hp}{f c P0:Addr}{oc:Obj}{vs:Array Value}{t:Tok}{cl:List (Str×Addr)}{pm ctv:Value}{vals:St}{cs:List Addr}
  (S:LamSF fr params body scope pn) (hbody:∀(A':Around) (outer:List Env) (cl:List (Str×Addr)) (L f c:Addr) (s:Shared) (H:Hp),Room k (Zel P w K mg base A' outer (pn::fr) q scope cl L f c s H).A->PE (Zel P w K mg base A' outer (pn::fr) q scope cl L f c s H) body tb)
  (e1:Hz f=some (.frz (kla_obj "<lambda>" q params body scope cl pm c ctv) (.own f))) (e2:Hz c=some (.frz oc (.own P0))) (e3:oc.data=.fields vs) (e4:vs[1]?=some (.str q t))
  (inj:∀x y a,cl.lookup x=some a->cl.lookup y=some a->x=y) (hfr:∀y∈scope.names,y.2=.free->∃a,cl.lookup y.1=some a) (hin:∀x a,cl.lookup x=some a->a∈cs) (hcs:CellsIn cs Hz)
  (hv:∀(i:Nat) (x:Str) (v:V) (a:Addr),fr[i]?=some x->vals[i]?=some (some v)->cl.lookup x=some a->∃u o,RelV v u/\Hz a=some (.frz o (.own a))/\o.data=.cell (some u)) (hl:vals.length=fr.length) :
  FnV P w K mg base (k+1) f (ZoU Hz cs vals tb):=by
 intro A outer s H u v Q hr E r ⟨hz,h⟩
 have hfo:=(E.hok f _ (hz _ _ _ e1)).1
 have hoc:=(E.hok c _ (hz _ _ _ e2)).1
 have hcs':CellsIn cs H:=λb hb=>by
  obtain⟨o,v,z1,z2⟩:=hcs b hb
  exact⟨o,v,hz _ _ _ z1,z2⟩
 refine kla_callFunE hr.depth hfo rfl S.co S.gen rfl ⟨c,oc,vs,t,rfl,hoc,e3,e4⟩ ?_
 show wpAny _ _ (bindArgs (kla_fn "<lambda>" q params body scope cl pm (.ref c) ctv) ⟨[u],[]⟩) _ _ _
 rw[S.bd]
 refine Yc (wpAny_newFunctionEnv (λx hx=>S.cell x hx) (λx hx=>?_) (λh₁ hns hsb=>⟨(E.mod.nolimit.keeps λb o z=>(E.bs b o z).1).fresh _ hsb,?_⟩) S.kind)
 ·have:x=(pn,u):=by simpa using hx
  subst this;exact S.pl
 show codeAny _ _ (.expr body (envX q scope s.heap.objs.size f (.ref c) cl)) _ _
 have old:∀b o,s.heap.get? b=some o->h₁.get? b=some o:=λb o e=>hsb.extBut b o (Yo (Yh e)) (Yi _ e)
 have lt0:∀b u,H b=some u->b<s.heap.objs.size:=λb u z=>E.hok.lt z
 have kf:∀x,((envX q scope s.heap.objs.size f (.ref c) cl).kindOf x=some .cell\/(envX q scope s.heap.objs.size f (.ref c) cl).kindOf x=some .free)->∃c,cl.lookup x=some c:=λx hx=>by
  rcases hx with z|z
  ·exact absurd rfl (S.cell _ (lookup_mem (show scope.names.lookup x=some .cell from z)))
  ·exact hfr _ (lookup_mem (show scope.names.lookup x=some .free from z)) rfl
 have noA:∀b:Addr,b∉(Zel P w K mg base A outer (pn::fr) q scope cl s.heap.objs.size f c s (Zdu cs H)).ex:=λb z=>absurd (show b∈([]:List Addr)from z) (by simp)
 have offN:∀b,H b=none->Zdu cs H b=none:=λb z=>by
  unfold Zdu;split
  ·rfl
  ·exact z
 have J:Inv (Zel P w K mg base A outer (pn::fr) q scope cl s.heap.objs.size f c s (Zdu cs H)) [] (some v::vals) (Zdu cs H) {s with heap:=h₁,toks:=s.toks+[(pn,u)].length}:=by
  refine⟨⟨E.mod,S.kind,rfl,rfl,Ye _,inj,(λx hx=>kf x hx),(λx c e=>nomatch e),(λ_=>hr.hd),Around.frames_deeper E.frames,.inr ⟨rfl,rfl⟩,λb z=>absurd z (noA b),λb o z=>⟨(E.bs b o z).1,offN _ (E.bs b o z).2⟩,E.bsz,λb _ _=>noA b,λb z=>absurd z (noA b),E.funs,λb hb=>offN _ (E.frf b hb)⟩,
   rfl,E.bare,Un.kept old,⟨_,hns,λi x v' z1 z2 z3=>?_⟩,λx c z=>?_,offN _ (E.hok.fresh (Ye _)),λx c z=>Ze1 (hin x c z),λp hp=>absurd (show p∈([]:List (Addr×Obj))from hp) (by simp),E.hok.Zdu hcs' old,?_⟩
  ·cases i with
   |zero =>
    have ex:pn=x:=Yq z1
    have ev:v=v':=Yq (Yq z2)
    subst ex ev
    exact⟨u,r,.inl ⟨S.pl,by simp⟩⟩
   |succ i =>
    have z1':fr[i]?=some x:=z1
    have z2':vals[i]?=some (some v'):=z2
    have hm:=S.frs x (List.mem_of_getElem? z1')
    obtain⟨a,ha⟩:=hfr _ (lookup_mem hm) rfl
    obtain⟨u',o,r',y1,y2⟩:=hv i x v' a z1' z2' ha
    exact⟨u',r',.inr ⟨.inr hm,a,ha,o,old _ _ (E.hok a _ (hz _ _ _ y1)).1,y2⟩⟩
  ·obtain⟨o,v,y1,y2⟩:=hcs' c (hin x c z)
   exact⟨v,o,old _ _ (E.hok c _ y1).1,y2⟩
  ·show vals.length+1=fr.length+1
   rw[hl]
 refine kla_codeExpr (YI (hbody A outer cl _ f c s _ (hr.deeper _) [] _ _ _ _ J h) (λv' s' ⟨x,H',J',r',q'⟩=>⟨v',rfl,x,onC cs H H',J'.os,J'.bare,?_,?_,r',q' λb hb=>?_⟩) λ_ _ z=>z.elim)
 ·have ub:Un (frs outer) [] (Zdu cs H) H' s.heap s'.heap:=J'.base
  have inH:∀b∈cs,∃o,H b=some (.frz o (.own b)):=λb hb=>by obtain⟨o,_,z,_⟩:=hcs' b hb;exact⟨o,z⟩
  refine⟨λb o z n hb hx=>ub.keep b o z (offN b n) hb hx,λb o z n hb hx=>ub.slot b o z (offN b n) hb hx,λb o z n hx=>?_,ub.there,λb xs z=>?_,λb o u z=>?_,λb ps z=>?_⟩
  ·rw[Zc2 (λhb=>by obtain⟨o,y⟩:=inH b hb;rw[n]at y;cases y)]
   exact ub.free b o z (offN b n) hx
  ·have n:=hcs'.out z λ_ _ y _=>nomatch y
   rw[Zc2 n]
   exact ub.tups b xs (by rw[Zaj n];exact z)
  ·by_cases hb:b∈cs
   ·rw[Zlq hb];exact z
   ·rw[Zc2 hb]
    exact ub.frzs b o u (by rw[Zaj hb];exact z)
  ·have n:=hcs'.out z λ_ _ y _=>nomatch y
   rw[Zc2 n]
   exact ub.tbls b ps (by rw[Zaj n];exact z)
 ·have ub:Un (frs outer) [] (Zdu cs H) H' s.heap s'.heap:=J'.base
  have hn:∀b∈cs,H' b=none:=λb hb=>by
   obtain⟨o,_,z,_⟩:=hcs' b hb
   exact ub.free b o (E.hok b _ z).1 (Ze1 hb) (by simp)
  refine J'.hok.onC hn λb hb=>?_
  obtain⟨o,_,z,_⟩:=hcs' b hb
  exact⟨o,z,ub.keep b o (E.hok b _ z).1 (Ze1 hb) (λy=>by rw[E.frf b y]at z;cases z) (by simp)⟩
 ·have ub:Un (frs outer) [] (Zdu cs H) H' s.heap s'.heap:=J'.base
  obtain⟨o,_,z,_⟩:=hcs' b hb
  exact ub.free b o (E.hok b _ z).1 (Ze1 hb) (by simp)
theorem ZoV {cs:List Addr}{H H':Hp} (s:Zh (Zdu cs H) H'):Zh H (onC cs H H'):=λb o z=>by
 by_cases hb:b∈cs
 ·rw[Zlq hb];exact z
 ·rw[Zc2 hb];exact s _ _ (by rw[Zaj hb];exact z)
theorem onC_at {cs:List Addr}{H H':Hp}{b:Addr}{o:HO} (h:∀b∈cs,H' b=none) (z:H' b=some o):onC cs H H' b=some o:=by
 rw[Zc2 (λhb=>by rw[h b hb]at z;cases z)];exact z
theorem ZoW {x:Str}{a:Addr}:∀{cl:List (Str×Addr)},cl.lookup x=some a->(x,a)∈cl
 |[],h=>nomatch h
 |(y,b)::r,h=>by
  by_cases e:x=y
  ·subst e
   rw[List.lookup_cons_self]at h
   rw[Yq h];exact Y1
  ·rw[List.lookup_cons,show(x==y)=false from by simpa using e]at h
   exact YQ _ (ZoW h)
structure Lent (cs:List Addr) (H1 H2:Hp):Prop where
 out:∀b,b∉cs->H2 b=H1 b
 was:∀b∈cs,H1 b=none
 is:CellsIn cs H2
theorem Lent.same {cs:List Addr}{H1 H2:Hp} (L:Lent cs H1 H2):Zh H1 H2:=λb o z=>by
 rw[L.out b (λhb=>by rw[L.was b hb]at z;cases z)];exact z
theorem Lent.back {cs:List Addr}{H1 H2 H3:Hp} (L:Lent cs H1 H2) (s:Zh H2 H3):Zh H1 (Zdu cs H3):=λb o z=>by
 rw[Zaj (λhb=>by rw[L.was b hb]at z;cases z)];exact s _ _ (L.same _ _ z)
theorem Lent.tup {cs:List Addr}{H1 H2 H3:Hp} (L:Lent cs H1 H2) (s:Zh H2 H3) {t:Addr}{xs:List V} (z:H3 t=some (.tup xs)):Zdu cs H3 t=some (.tup xs):=by
 rw[Zaj (λhb=>by
  obtain⟨o,v,e,_⟩:=L.is t hb
  rw[s _ _ e]at z;cases z)];exact z
noncomputable def Zm0 (js:List Nat) (σ:St):St:=js.map λj=>(σ[j]?).join
noncomputable def Zjv (P:Program) (w:World) (K:Frag) (mg:Str->Option Value) (base:Heap) (k:Nat) (env:Env) (P0:Addr) (q:Str) (params:Arguments) (body:Expr) (scope:Scope) (js:List Nat) (tb:TE) (sp:Sp) (E:XK) (t:TA):TE:=fun σ H Q=>t σ H λvs H1=>∃f,vs.getLast?=some (.ref f)/\LamO env P0 q params body scope H1 f /\
 ∀(cs:List Addr) (H2:Hp),Lent cs H1 H2->Zks H2 f->FnV P w K mg base (k+1) f (ZoU H2 cs (Zm0 js σ) tb)->sp vs H2 (λx H3=>Q x (Zdu cs H3)) E
section
variable {X:Cx}
theorem ZoX {k m:Nat}{x q pn:Str}{f0:Addr}{fd:FuncData}{ps fr:List Str}{js:List Nat}{params:Arguments}{body:Expr}{scope:Scope}{P0:Addr}{tb:TE}{sp:Sp}{t:TA}{p pos:Pos}{e:Expr}{es:List Expr}
  (S:LamSF fr params body scope pn) (hok:compOk X.env.scope scope=true) (hjs:js.map (X.N[·]?)=fr.map some) (hfn:∀x,X.fn x=true)
  (hbody:∀(A':Around) (outer:List Env) (cl:List (Str×Addr)) (L f c:Addr) (s:Shared) (H:Hp),Room k (Zel X.prog X.w X.K X.mg X.base A' outer (pn::fr) q scope cl L f c s H).A->PE (Zel X.prog X.w X.K X.mg X.base A' outer (pn::fr) q scope cl L f c s H) body tb)
  (F:FnOk X.prog X.w X.K X.mg X.base (CXE X.prog X.w) m f0 fd ps sp) (hr:Room m X.A) (hg:Gl X x) (hm:X.mg x=some (.ref f0)) (hk:PySem.W.keepIn X.K (.ref f0)=true) (hb:Binds X.K fd ps [])
  (ha:PA X (e::es) t) (hdb:(x==("__debug__":Str))=false:=by decide) (he:starEach (e::es) X.env=(false,eval e X.env)::starEach es X.env:=by rfl) (hpl:(backTo pos (starEach es X.env)).any (·.1)=false:=by rfl) :
  PE X (.Call (.Name x p) (e::es) [] pos) (Zjv X.prog X.w X.K X.mg X.base k X.env P0 q params body scope js tb sp E0 t):=by
 intro pins s σ H Q I h
 refine wpAny_Call_Name_kw (ZfE I hg hm ?_ hdb)
 refine PySem.W.callWith_K (h₀:=X.base) I.ok.mod.kin hk (thn (ha pos pins s σ H _ I h) λus s1 ⟨vs,H1,I1,r,f,ef,L,hsp⟩=>⟨I1.kIn,?_⟩) he hpl
 obtain⟨c,oc,vv,tk,cl,pm,ctv,e1,e2,e3,e4,up,hfr⟩:=L
 let cs:List Addr:=(cl.map (·.2)).filter λa=>@decide (∃x,cl.lookup x=some a) (Classical.propDecidable _)
 have mcs:∀a,a∈cs↔∃x,cl.lookup x=some a:=λa=>by
  show a∈List.filter _ _↔_
  rw[YL,@decide_eq_true_iff _ (Classical.propDecidable _)]
  refine⟨λz=>z.2,λz=>⟨?_,z⟩⟩
  obtain⟨x,hx⟩:=z
  exact YH.mpr ⟨(x,a),ZoW hx,rfl⟩
 have cIn:∀a∈cs,∃o v,s1.heap.get? a=some o/\o.data=.cell v/\H1 a=none/\X.s₀.heap.objs.size<=a:=λa ha=>by
  obtain⟨x,hx⟩:=(mcs a).mp ha
  obtain⟨v,o,z1,z2⟩:=I1.cell x a (up _ _ hx)
  exact⟨o,v,z1,z2,I1.freeC x a (up _ _ hx),I1.ok.cab x a (hfn x) (up _ _ hx)⟩
 let H2:Hp:=λb=>if b∈cs then (s1.heap.get? b).map (λo=>.frz o (.own b))else H1 b
 have h2in:∀b∈cs,∀o,s1.heap.get? b=some o->H2 b=some (.frz o (.own b)):=λb hb o z=>by
  show(if b∈cs then _ else _)=_
  rw[Yd hb,z];rfl
 have h2out:∀b,b∉cs->H2 b=H1 b:=λb hb=>Yb hb
 have LT:Lent cs H1 H2:=⟨h2out,λb hb=>(cIn b hb).choose_spec.choose_spec.2.2.1,λb hb=>by
  obtain⟨o,v,z1,z2,_⟩:=cIn b hb
  exact⟨o,v,h2in b hb o z1,z2⟩⟩
 have up2:=LT.same
 have hok2:HOk X.prog X.w H2 s1.heap:=λa o z=>by
  by_cases ha:a∈cs
  ·obtain⟨ob,v,z1,_⟩:=cIn a ha
   rw[h2in a ha ob z1]at z;cases z
   exact⟨z1,ob,z1⟩
  ·rw[h2out a ha]at z
   exact(I1.hok a o z).Zg6 (λ_ _ _ q=>q) (λb q=>up2 _ _ q) (λb xs q=>up2 _ _ q) λb ob u q=>up2 _ _ q
 have E1:=I1.env0
 have nfs:∀b∈frs X.stack,b∉cs:=λb hb hc=>by
  obtain⟨o,v,z1,z2,_,z4⟩:=cIn b hc
  obtain⟨x,hx⟩:=(mcs b).mp hc
  rcases Yk.mp (I1.Zfd b hb)with z|z
  ·exact I1.cne x b (up _ _ hx) z
  ·obtain⟨_,o',ho',_⟩:=I1.ok.funs.mem z
   exact absurd (Yt (Yh ho') z4) (Yx _)
 have E2:Env0 X.prog X.w X.K X.mg X.base X.A X.stack s1 H2:=by
  refine⟨E1.frames,E1.mod,λb o z=>⟨(E1.bs b o z).1,?_⟩,E1.bsz,E1.funs,λb hb=>?_,hok2,E1.bare⟩
  ·rw[h2out b (λhc=>by
    obtain⟨_,_,_,_,_,z4⟩:=cIn b hc
    exact absurd (Yt (Yh z) (Yj I1.ok.bsz z4)) (Yx _))]
   exact(E1.bs b o z).2
  ·rw[h2out b (nfs b hb)];exact E1.frf b hb
 have hV:FnV X.prog X.w X.K X.mg X.base (k+1) f (ZoU H2 cs (Zm0 js σ) tb):=by
  refine Zp8 (vals:=Zm0 js σ) S hbody (up2 _ _ e1) (up2 _ _ e2) e3 e4 (λx y a z1 z2=>I1.ok.inj x y a (up _ _ z1) (up _ _ z2)) (λy hy hf=>let ⟨c,z,_⟩:=hfr y hy hf;⟨c,z⟩) (λx a z=>(mcs a).mpr ⟨x,z⟩) LT.is ?hv ?hl
  case hl =>
   have:=congrArg List.length hjs
   simpa[Zm0]using this
  case hv =>
   intro i x v a z1 z2 z3
   have hj:(js.map (X.N[·]?))[i]?=some (some x):=by rw[hjs,Yp,z1];rfl
   rw[Yp]at hj
   cases hji:js[i]? with
   |none=>rw[hji]at hj;cases hj
   |some j =>
    rw[hji]at hj
    have hN:X.N[j]?=some x:=Yq hj
    unfold Zm0 at z2
    rw[Yp,hji]at z2
    have hσ:(σ[j]?).join=some v:=Yq z2
    have hσ2:σ[j]?=some (some v):=by
     cases w:σ[j]? with
     |none=>rw[w]at hσ;cases hσ
     |some o=>rw[w]at hσ;rw[show o=some v from hσ]
    have hm:=lookup_mem (S.frs x (List.mem_of_getElem? z1))
    have hkd:=ZgM hok _ hm rfl
    obtain⟨m0,hn0,hl0⟩:=I1.loc
    obtain⟨u',r',l⟩:=hl0 j x v hN hσ2 (hkd.elim (λz=>.inr (.inl z)) λz=>.inr (.inr z))
    obtain⟨c2,y1,y2⟩:=hfr _ hm rfl
    rw[y1]at z3;cases z3
    rcases l with⟨lk,_⟩|⟨_,c',c3,oc',w1,w2⟩
    ·rcases hkd with z|z
     ·rw[show X.env.kindOf x=some .cell from z]at lk;cases lk
     ·rw[show X.env.kindOf x=some .free from z]at lk;cases lk
    ·rw[y2]at c3;cases c3
     exact⟨u',oc',r',h2in _ ((mcs _).mpr ⟨x,y1⟩) oc' w1,w2⟩
 have h2:=hsp cs H2 LT ⟨_,_,_,_,_,up2 _ _ e1⟩ hV
 have hl:(us++[]).length=ps.length:=by
  rw[List.append_nil,<-r.length]
  exact F.len _ _ _ _ h2
 have hb1:=hb s1 us I1.kIn hl
 rw[List.append_nil]at hb1
 refine wpAny_call (codeAny_mono (F.run X.A X.stack s1 H2 ⟨us,[]⟩ us vs _ E0 hr E2 hb1 r h2) λr s' hq=>?_)
 cases r with
 |error e =>
  obtain⟨_,_,_,_,_,_,_,z⟩:=hq
  exact z.elim
 |ok fl =>
  cases fl with
  |next=>exact False.elim hq
  |brk=>exact False.elim hq
  |cont=>exact False.elim hq
  |ret u =>
   obtain⟨v,H3,os,bare,un,hok3,rv,q⟩:=hq
   have c3:CellsIn cs H3:=λb hb=>by
    obtain⟨o,v,z1,z2⟩:=LT.is b hb
    exact⟨o,v,un.frzs _ _ _ z1,z2⟩
   have nc:∀b o,H1 b=some o->b∉cs:=λb o z hc=>by rw[LT.was b hc]at z;cases z
   refine⟨v,Zdu cs H3,I1.call' (ch:=[]) os ⟨λb o z n hb hx=>?_,λb o z n hb hx=>un.slot b o z (by rw[h2out b (nfs b hb)];exact n) hb hx,λb o z n hx=>?_,un.there,λb xs z=>?_,λb o u z=>?_,λb ps z=>?_⟩ (hok3.Zdu c3 λ_ _ z=>z) bare (λb z=>absurd z (by simp)),rv,q⟩
   ·by_cases hc:b∈cs
    ·obtain⟨o',v',z1,z2,_⟩:=cIn b hc
     rw[z1]at z;cases z
     exact(hok3 b _ (un.frzs _ _ _ (h2in b hc _ z1))).1
    ·exact un.keep b o z (by rw[h2out b hc];exact n) hb hx
   ·by_cases hc:b∈cs
    ·exact Ze1 hc
    ·rw[Zaj hc]
     exact un.free b o z (by rw[h2out b hc];exact n) hx
   ·rw[Zaj (nc b _ z)]
    exact un.tups b xs (by rw[h2out b (nc b _ z)];exact z)
   ·rw[Zaj (nc b _ z)]
    exact un.frzs b o u (by rw[h2out b (nc b _ z)];exact z)
   ·rw[Zaj (nc b _ z)]
    exact un.tbls b ps (by rw[h2out b (nc b _ z)];exact z)
structure LamSL (X:Cx) (fr:List Str) (js:List Nat) (params:Arguments) (body:Expr) (scope:Scope) (pn:Str):Prop where
 ok:compOk X.env.scope scope=true
 js:js.map (X.N[·]?)=fr.map some
 frs:(fr.all λx=>scope.names.lookup x==some .free)=true
 pl:scope.names.lookup pn=some .local
 co:scope.isCoroutine=false
 gen:scope.isGenerator=false
 bd:∀(q:Str) (cl:List (Str×Addr)) (pm cd ctv u:Value),bindArgs (kla_fn "<lambda>" q params body scope cl pm cd ctv) ⟨[u],[]⟩=pure [(pn,u)]
 fn:∀x,X.fn x=true
theorem Zm1 {k m:Nat}{x q pn:Str}{ps fr:List Str}{js:List Nat}{params:Arguments}{body:Expr}{scope:Scope}{lpos:Pos}{P0:Addr}{tb:TE}{sp:Sp}{t:TA}{p pos:Pos}{e:Expr}
  (S:LamSL X fr js params body scope pn)
  (hbody:∀(A':Around) (outer:List Env) (cl:List (Str×Addr)) (L f c:Addr) (s:Shared) (H:Hp),Room k (Zel X.prog X.w X.K X.mg X.base A' outer (pn::fr) q scope cl L f c s H).A->PE (Zel X.prog X.w X.K X.mg X.base A' outer (pn::fr) q scope cl L f c s H) body tb)
  (C:Callee X.prog X.w X.K X.mg X.base x m ps sp) (hr:Room m X.A) (hg:Gl X x) (ha:PA X [e,.Lambda params body scope lpos] t) (hdb:(x==("__debug__":Str))=false:=by decide)
  (he:starEach [e,.Lambda params body scope lpos] X.env=(false,eval e X.env)::starEach [.Lambda params body scope lpos] X.env:=by rfl) (hpl:(backTo pos (starEach [.Lambda params body scope lpos] X.env)).any (·.1)=false:=by rfl) :
  PE X (.Call (.Name x p) [e,.Lambda params body scope lpos] [] pos) (Zjv X.prog X.w X.K X.mg X.base k X.env P0 q params body scope js tb sp E0 t):=by
 obtain⟨f,fd,hm,hk,hb,F⟩:=C
 exact ZoX (fr:=fr) (pn:=pn) ⟨λy hy=>Zj2 S.ok y hy,Zj1 S.ok,λx hx=>beq_iff_eq.mp (List.all_eq_true.mp S.frs x hx),S.pl,S.co,S.gen,S.bd⟩ S.ok S.js S.fn hbody F hr hg hm hk hb ha hdb he hpl
end
end L2
namespace K49
open PySem PySem.Spec PyProof.Rows L2
open PySem.W (nsIn mg_of fnOf keepIn codeIn mg_none_of)
local macro_rules | `(tactic| walk_at "rd") => `(tactic| simp only [tIfS, tNot, tTest, tChain, rI0, rI, rU, tVar, tC, tB, tIf, tAndV, tCall, tCons, tNil, tAsg, tSeq, tRet, tNext, tOp, tUn, tAnd, tOr, tDrop, gName, gSub, tAug, tCB, tSl, tRaise, tLst, tTup, L2.start, tYes, gTup, gCons, gNil, iniC, Option.join_some, Option.join_none, rEq, rNe, ZfN, ZlV, ZlW, ZlX, ZlY, ZlZ, tBM, Bool.true_eq_false, YD, List.map_nil, List.cons_append, List.nil_append, YF, List.length_nil, List.replicate, List.append_nil, List.set_cons_zero, List.set_cons_succ, List.getElem?_cons_zero, List.getElem?_cons_succ, Option.some.injEq, V.int.injEq, V.bl.injEq, V.ref.injEq, List.cons.injEq, and_true, true_and, exists_eq_left, exists_eq_left', exists_and_left, exists_eq, decide_eq_true_eq, Bool.not_eq_true', decide_eq_false_iff_not, cxK, and_assoc, Bool.false_eq_true, ↓reduceIte, ZlU, ZiG, Zj7, iRng1, iRng2, iList, iTup, rIxL, rIxT, rSetL, rCat, tDelT, rPop, tPar, rInsert, rIndex, rLen, rLof, rTof, tBM0, rEqD, tRngV2, rLstR2, rIn, iEnum, tMaxD, tMinD, rAll, rIxQ, rSlL, tPart, tNoPart, tSl, ipI, rAppend, rRep, rExtend, V.str.injEq, tFldC, sFldC, tMeth, tMake, tDGet, tDIn, rCatU, iZip3, tDNewT, tDSetD, tDVals, rLVals, tLam, Zlr, Zjv])
noncomputable def top (i:Nat):Stmt:=PySem.Challenge.pw_dipkin_k49_whole_watched_sought_and_grou.main.body.getD i (.Pass ⟨0,0,0,0⟩)
noncomputable abbrev Zaq:Stmt:=top 7
noncomputable abbrev s_settle:Stmt:=top 9
noncomputable abbrev s_tree_of:Stmt:=top 10
noncomputable abbrev s_way_up:Stmt:=top 11
noncomputable abbrev s_fences_of:Stmt:=top 12
noncomputable abbrev Zaa:Stmt:=top 14
noncomputable abbrev Zab:Stmt:=top 16
noncomputable abbrev ZaD:Stmt:=top 17
noncomputable abbrev Zdv:Stmt:=top 18
noncomputable abbrev ZaV:Stmt:=top 19
noncomputable abbrev ZaW:Stmt:=top 20
noncomputable abbrev Zbr:Stmt:=top 21
noncomputable abbrev Zar:Stmt:=top 24
noncomputable abbrev Zac:Stmt:=top 25
noncomputable abbrev Z6:Stmt:=inClass (top 26) 0
noncomputable abbrev ZaX:Stmt:=inClass (top 26) 1
noncomputable abbrev ZY:Stmt:=inClass (top 26) 2
noncomputable abbrev ZZ:Stmt:=inClass (top 26) 4
noncomputable abbrev Zas:Stmt:=top 28
noncomputable abbrev Zbs:Stmt:=top 29
noncomputable abbrev Zbt:Stmt:=top 30
noncomputable abbrev ZcH:Stmt:=top 31
noncomputable abbrev ZcI:Stmt:=top 32
noncomputable abbrev Zat:Stmt:=top 33
noncomputable abbrev Zbu:Stmt:=top 35
noncomputable abbrev Zbv:Stmt:=top 36
noncomputable abbrev ZbX:Stmt:=top 37
noncomputable abbrev Zbw:Stmt:=top 38
noncomputable abbrev ZaE:Stmt:=top 39
noncomputable abbrev Zbx:Stmt:=top 40
noncomputable abbrev Z7:Stmt:=top 41
noncomputable abbrev ZT:Stmt:=top 42
noncomputable abbrev Z0:Stmt:=top 43
noncomputable abbrev s_law:Stmt:=top 44
structure Txt (K:PySem.W.Frag) (mg:Str->Option Value):Prop where
 b_all:mg "all"=none
 b_enumerate:mg "enumerate"=none
 b_len:mg "len"=none
 b_list:mg "list"=none
 b_max:mg "max"=none
 b_min:mg "min"=none
 b_range:mg "range"=none
 b_tuple:mg "tuple"=none
 b_zip:mg "zip"=none
 c_DipError:mg "DipError"=some (.ref (clsAt mg "DipError"))
 x_DipError:PySem.W.excIn K (clsAt mg "DipError") bmV newV=true
 c_Empty:mg "Empty"=some (.ref (clsAt mg "Empty"))
 x_Empty:PySem.W.excIn K (clsAt mg "Empty") bmV newV=true
 c_TooMany:mg "TooMany"=some (.ref (clsAt mg "TooMany"))
 x_TooMany:PySem.W.excIn K (clsAt mg "TooMany") bmV newV=true
 c_NoPast:mg "NoPast"=some (.ref (clsAt mg "NoPast"))
 x_NoPast:PySem.W.excIn K (clsAt mg "NoPast") bmV newV=true
 c_Watch:mg "Watch"=some (.ref (clsAt mg "Watch"))
 cl_Watch:Cls K (clsAt mg "Watch")
 n_Watch_distances:NoAttr K (clsAt mg "Watch") "distances"
 n_Watch_borders:NoAttr K (clsAt mg "Watch") "borders"
 n_Watch_given:NoAttr K (clsAt mg "Watch") "given"
 n_Watch_sizes:NoAttr K (clsAt mg "Watch") "sizes"
 m_MOST_WATCHED:mg "MOST_WATCHED"=some (.int 12 (tokAt mg "MOST_WATCHED"))
noncomputable def tabsL (K:PySem.W.Frag) (mg:Str->Option Value):List (Addr×Str):=[(Zkr K mg "longest_both",lamQ "longest_both")]
noncomputable abbrev SpT:=PySem.W.Frag->(Str->Option Value)->Sp
noncomputable def spLaw (K:PySem.W.Frag) (mg:Str->Option Value):Sp:=λvs H Q E=>∃(a:Addr) (ns:List Int),vs=[.ref a]/\SqL K H a (ns.map V.int)/\ns.length<=63/\(∀p∈tabsL K mg,H p.1=some (ZhN p.2))/\∀H',Q (.bl true) H'
noncomputable def ZdK:SpT:=λK mg vs H Q E=>∃(a:Addr) (ns:List Int) (k:Int),vs=[.ref a,.int k]/\SqL K H a (ns.map V.int)/\0<=k/\k<=100/\∀p H',H p=none->Zh H H'->ZR H' p->Q (.ref p) H'
noncomputable def ZbA:SpT:=λK mg vs H Q E=>∃(p:Addr) (many:Int),vs=[.ref p,.int many]/\0<many/\many<=1000000001/\ZR H p/\∀d H',0<=d->d<many->ZR H' p->Exc p H H'->Q (.int d) H'
noncomputable def sp__law_row:SpT:=λK mg vs H Q E=>∃(p:Addr) (most:Int),vs=[.ref p,.int most]/\0<=most/\most<=1000/\ZR H p/\∀(r:Addr) (ns:List Int) H',H r=none->(ns.length:Int)<=most->H' r=some (.lst (ns.map V.int))->ZR H' p->Exc p H H'->Q (.ref r) H'
noncomputable def sp_settle:SpT:=λK mg vs H Q E=>∃(el sp:Addr) (es:List Int) (A B:List Nat) (i:Nat),vs=[.ref el,.ref sp,.int i,.int A.length]/\H el=some (.lst (es.map V.int))/\H sp=some (.lst (Zr (A++B)))/\el≠sp/\i<es.length/\(∀q∈A++B,q<es.length)/\(A++B).length<=1000 /\
 ∀H',(∀b o,b≠el->b≠sp->H b=some o->H' b=some o)->H' el=some (.lst ((Zg8 es A B i).map V.int))->H' sp=some (.lst (Zr (A++[i])))->Q .non H'
noncomputable def sp_tree_of:SpT:=λK mg vs H Q E=>∃(r:Addr) (ns:List Int),vs=[.ref r]/\(SqL K H r (ns.map V.int)\/SqT K H r (ns.map V.int))/\ns.length<=1000/\∀(t:Addr) (es:List Int) H',Zfi ns es->Zh H H'->H' t=some (.tup (es.map V.int))->Q (.ref t) H'
noncomputable def sp_way_up:SpT:=λK mg vs H Q E=>∃(t:Addr) (T:List Int) (p:Nat),vs=[.ref t,.int p]/\H t=some (.tup (T.map V.int))/\T.length<=1000/\p<T.length/\∀(w:Addr) H',H w=none->Zh H H'->H' w=some (.lst ((wayI T p).map V.int))->Q (.ref w) H'
noncomputable def sp_fences_of:SpT:=λK mg vs H Q E=>∃(t:Addr) (ns T:List Int),vs=[.ref t]/\H t=some (.tup (T.map V.int))/\Zfi ns T/\ns.length<=1000/\∀(l:Addr) H',Zh H H'->Zba H' l ns.length (λp=>(Zei (nth ns) p,ZfS (nth ns) ns.length p))->Q (.ref l) H'
noncomputable def ZbY:SpT:=λK mg vs H Q E=>∃(t:Addr) (ns T:List Int),vs=[.ref t]/\H t=some (.tup (T.map V.int))/\Zfi ns T/\ns.length<=1000/\∀(l:Addr) H',H l=none->Zh H H'->H' l=some (.lst ((ZJ ns).map V.int))->Q (.ref l) H'
noncomputable def ZX:SpT:=λK mg vs H Q E=>∃(r:Addr) (ns:List Int),vs=[.ref r]/\(SqL K H r (ns.map V.int)\/SqT K H r (ns.map V.int))/\ns.length<=1000/\∀(l:Addr) H',H l=none->Zh H H'->H' l=some (.lst ((ZJ ns).map V.int))->Q (.ref l) H'
noncomputable def ZbB:SpT:=λK mg vs H Q E=>∃(d:Int) (k:Nat),vs=[.int d,.int k]/\Q (.int (sw d k)) H
noncomputable def Zby (f:Nat->Int) (bs:List Nat):Prop:=∀k,k<bs.length->ZcJ f (k+1) (bs.getD k 0)
noncomputable def Zdw:SpT:=λK mg vs H Q E=>∃(l b:Addr) (ns:List Int) (bs:List Nat) (s:Nat) (d:Int),vs=[.ref l,.ref b,.int s,.int d]/\H l=some (.lst ((ZJ ns).map V.int))/\H b=some (.lst (Zr bs))/\Zby (nth ns) bs/\ns.length<=1000/\0<ns.length/\s<=bs.length/\bs.length<=ns.length/\0<=d/\∀m:Nat,Goes (nth ns) ns.length s d m->Q (.int ((m+1:Nat):Int)) H
noncomputable def Za7:SpT:=λK mg vs H Q E=>∃(l:Addr) (ns:List Int),vs=[.ref l]/\H l=some (.lst ((ZJ ns).map V.int))/\ns.length<=1000/\∀(b:Addr) (bs:List Nat) H',H b=none->bs.length=ns.length->Zby (nth ns) bs->Zh H H'->H' b=some (.lst (Zr bs))->Q (.ref b) H'
noncomputable def Zdg:SpT:=λK mg vs H Q E=>∃(r:Addr) (ns:List Int),vs=[.ref r]/\(SqL K H r (ns.map V.int)\/SqT K H r (ns.map V.int))/\ns.length<=1000/\∀(b:Addr) (bs:List Nat) H',H b=none->bs.length=ns.length->Zby (nth ns) bs->Zh H H'->H' b=some (.lst (Zr bs))->Q (.ref b) H'
noncomputable def Zad:SpT:=λK mg vs H Q E=>∃(r:Addr) (ns:List Int) (k:Int),vs=[.ref r,.int k]/\(SqL K H r (ns.map V.int)\/SqT K H r (ns.map V.int))/\ns.length<=1000/\0<=k/\k<=1000/\(k<=ns.length->Q .non H)/\((ns.length:Int)<k->E (.ref (clsAt mg "Empty")) none H)
noncomputable def ZaY:SpT:=λK mg vs H Q E=>∃(r t:Addr) (ns ms:List Int),vs=[.ref r,.ref t]/\(SqL K H r (ns.map V.int)\/SqT K H r (ns.map V.int))/\(SqL K H t (ms.map V.int)\/SqT K H t (ms.map V.int))/\ns.length<=1000/\ms.length<=1000/\(ns.length=0->E (.ref (clsAt mg "Empty")) none H) /\
 (0<ns.length->∀(b:Addr) H',H b=none->Zh H H'->H' b=some (.lst (Zr (Zv (nth ns) (nth ms) ns.length ms.length)))->Q (.ref b) H')
noncomputable def Zdx (N:Addr->Prop) (H:Hp) (q:Addr) (Rs:List (List Int)):Prop:=∃as:List Addr,H q=some (.lst (as.map V.ref))/\as.length=Rs.length/\∀i (h1:i<as.length) (h2:i<Rs.length),N as[i]/\H as[i]=some (.lst (Rs[i].map V.int))
theorem Zdx.same {N:Addr->Prop}{H H':Hp}{q:Addr}{Rs:List (List Int)} (h:Zdx N H q Rs) (s:Zh H H'):Zdx N H' q Rs:=by
 obtain⟨as,h1,h2,h3⟩:=h
 exact⟨as,s _ _ h1,h2,λi i1 i2=>⟨(h3 i i1 i2).1,s _ _ (h3 i i1 i2).2⟩⟩
theorem Zdx.pot {H H':Hp}{q p:Addr}{Rs:List (List Int)} (h:Zdx (λa=>a≠p) H q Rs) (n:q≠p) (e:Exc p H H'):Zdx (λa=>a≠p) H' q Rs:=by
 obtain⟨as,h1,h2,h3⟩:=h
 exact⟨as,e _ _ n h1,h2,λi i1 i2=>⟨(h3 i i1 i2).1,e _ _ (h3 i i1 i2).1 (h3 i i1 i2).2⟩⟩
noncomputable def Few (Rs:List (List Int)) (n:Nat):Prop:=0<Rs.length/\Rs.length<=n/\∀R∈Rs,0<R.length/\R.length<=12
noncomputable def ZbZ:SpT:=λK mg vs H Q E=>∃(g:Addr) (gs:List Int) (n:Int),vs=[.ref g,.int n]/\H g=some (.lst (gs.map V.int))/\gs.length<=1000/\Q (.int (Zx (nth (gs++[n])) gs.length)) H
noncomputable def Zch:SpT:=λK mg vs H Q E=>∃(q:Addr) (N:Addr->Prop) (Rs:List (List Int)),vs=[.ref q]/\Zdx N H q Rs/\Few Rs 12/\∀H',Zh H H'->Q .non H'
noncomputable def cW (mg:Str->Option Value):Addr:=clsAt mg "Watch"
noncomputable def wF (d b g z:Addr):List (Str×V):=ZG "sizes" (.ref z) (ZG "given" (.ref g) (ZG "borders" (.ref b) (ZG "distances" (.ref d) [])))
theorem wF_z (d b g z:Addr):(wF d b g z).lookup ("sizes":Str)=some (.ref z):=by unfold wF;rw[ZE,Yd rfl]
theorem wF_g (d b g z:Addr):(wF d b g z).lookup ("given":Str)=some (.ref g):=by unfold wF;rw[ZE,Yb (by decide +kernel),ZE,Yd rfl]
theorem wF_b (d b g z:Addr):(wF d b g z).lookup ("borders":Str)=some (.ref b):=by unfold wF;rw[ZE,Yb (by decide +kernel),ZE,Yb (by decide +kernel),ZE,Yd rfl]
theorem wF_d (d b g z:Addr):(wF d b g z).lookup ("distances":Str)=some (.ref d):=by unfold wF;rw[ZE,Yb (by decide +kernel),ZE,Yb (by decide +kernel),ZE,Yb (by decide +kernel),ZE,Yd rfl]
theorem Zem {m:Str}{d b g z:Addr} (h1:¬ m="sizes") (h2:¬ m="given") (h3:¬ m="borders") (h4:¬ m="distances"):(wF d b g z).lookup m=none:=by unfold wF;rw[ZE,Yb h1,ZE,Yb h2,ZE,Yb h3,ZE,Yb h4];rfl
noncomputable def Zjw (N:Addr->Prop) (H:Hp) (da ba:List Addr) (Rs:List (List Int)):Prop:=da.length=Rs.length/\ba.length=Rs.length/\∀i (h1:i<da.length) (h2:i<ba.length) (h3:i<Rs.length),N da[i]/\N ba[i]/\H da[i]=some (.lst ((ZJ Rs[i]).map V.int))/\∃L:List Nat,L.length=Rs[i].length/\Zby (nth Rs[i]) L/\H ba[i]=some (.lst (Zr L))
noncomputable def ZfX (Rs:List (List Int)) (gs:List Int) (S:List Nat):Prop:=S.length=Rs.length/\∀i (h1:i<Rs.length) (h2:i<S.length),Zbm (nth Rs[i]) (nth gs) Rs[i].length gs.length S[i]
noncomputable def ZQ (N:Addr->Prop) (mg:Str->Option Value) (H:Hp) (x d b g z:Addr) (Rs:List (List Int)) (gs:List Int) (S:List Nat):Prop:=∃(dx:Addr) (da ba za:List Addr) (zl:Addr),H x=some (.ins (cW mg) dx (wF d b g z))/\H d=some (.lst (da.map V.ref))/\H b=some (.lst (ba.map V.ref))/\Zjw (λa=>a≠g/\a≠z) H da ba Rs/\H g=some (.lst (gs.map V.int))/\H z=some (.lst ((za++[zl]).map V.ref))/\za.length=gs.length/\H zl=some (.lst (Zr S))/\(d≠g/\d≠z/\b≠g/\b≠z/\g≠z/\zl≠g/\zl≠z/\N d/\N b/\N zl/\(∀a∈da,N a)/\∀a∈ba,N a)/\ZfX Rs gs S/\∀j (h:j<za.length),∃S0,(N za[j]/\za[j]≠g/\za[j]≠z)/\H za[j]=some (.lst (Zr S0))/\ZfX Rs (gs.take j) S0
noncomputable def ZoY (Rs:List (List Int)) (S:List Nat):List Nat:=(List.range Rs.length).filter λi=>decide (S.getD i 0=(Rs.getD i []).length)
noncomputable def ZaI:SpT:=λK mg vs H Q E=>∃(x dx q:Addr) (N M:Addr->Prop) (Rs:List (List Int)),vs=[.ref x,.ref q]/\H x=some (.ins (cW mg) dx [])/\Zdx N H q Rs/\Few Rs 12/\(∀a,H a=none->M a)/\∀(d b g z:Addr) H',ZQ M mg H' x d b g z Rs [] (List.replicate Rs.length 0)->H g=none->H z=none->Exc x H H'->Q .non H'
noncomputable def Zay:SpT:=λK mg vs H Q E=>∃(N:Addr->Prop) (x d b g z:Addr) (Rs:List (List Int)) (gs:List Int) (S:List Nat),vs=[.ref x]/\ZQ N mg H x d b g z Rs gs S/\0<Rs.length/\∀m:Nat,m∈S->(∀a∈S,a<=m)->Q (.int (m:Int)) H
noncomputable def Zca:SpT:=λK mg vs H Q E=>∃(N:Addr->Prop) (x d b g z:Addr) (n:Int) (Rs:List (List Int)) (gs:List Int) (S:List Nat),vs=[.ref x,.int n]/\ZQ N mg H x d b g z Rs gs S/\(∀a,H a=none->N a)/\Few Rs 12/\gs.length<=100/\∀(c:Addr) (S':List Nat) H',H c=none->H' c=some (.lst (Zr (ZoY Rs S')))->ZQ N mg H' x d b g z Rs (gs++[n]) S'->(∀a o,a≠g->a≠z->H a=some o->H' a=some o)->Q (.ref c) H'
noncomputable def ZdL:SpT:=λK mg vs H Q E=>∃p:Addr,vs=[.ref p]/\ZR H p/\∀(q:Addr) (Rs:List (List Int)) H',H q=none->q≠p->Few Rs 12->Zdx (λa=>a≠p) H' q Rs->ZR H' p->Exc p H H'->Q (.ref q) H'
noncomputable def ZcL:SpT:=λK mg vs H Q E=>∃(p q:Addr) (Rs:List (List Int)),vs=[.ref p,.ref q]/\ZR H p/\Zdx (λa=>a≠p) H q Rs/\q≠p/\Few Rs 12/\∀(g:Addr) (gs:List Int) H',H g=none->gs.length<=60->H' g=some (.lst (gs.map V.int))->ZR H' p->Exc p H H'->Q (.ref g) H'
noncomputable def BackW (mg:Str->Option Value) (N:Addr->Prop) (H:Hp) (x d b g z:Addr) (Rs:List (List Int)) (gs:List Int) (Q:VK):Prop:=∀(gs0:List Int) (n:Int),gs=gs0++[n]->∀S0 H',ZQ N mg H' x d b g z Rs gs0 S0->(∀a o,a≠g->a≠z->H a=some o->H' a=some o)->Q (.int n) H'
noncomputable def Zbn:SpT:=λK mg vs H Q E=>∃(N:Addr->Prop) (x d b g z:Addr) (Rs:List (List Int)) (gs:List Int) (S:List Nat),vs=[.ref x]/\ZQ N mg H x d b g z Rs gs S/\gs.length<=200/\(gs=[]->E (.ref (clsAt mg "NoPast")) none H)/\BackW mg N H x d b g z Rs gs Q
noncomputable def Z9 (ns:List Int) (c a:Nat):List Int:=(List.range c).map λi=>sw (Zx (nth ns) (a+i)) i
noncomputable def ZH (n c:Nat):Nat:=n+1-c
noncomputable def Zw (ns:List Int) (c:Nat):Nat->Nat->Bool:=λa b=>decide (Z9 ns c a=Z9 ns c b)
noncomputable def Zc3 (ns:List Int) (c:Nat):List (List Nat):=(Zp (Zw ns c) (ZH ns.length c)).map (Zd9 (Zw ns c) (ZH ns.length c))
noncomputable def ZfY (H0 H:Hp) (l:Addr) (rs:List (List Nat)):Prop:=∃as:List Addr,H l=some (.lst (as.map V.ref))/\as.Nodup/\l∉as/\as.length=rs.length/\(∀i (h1:i<as.length) (h2:i<rs.length),H as[i]=some (.lst (Zr rs[i])))/\H0 l=none/\∀a∈as,H0 a=none
noncomputable def KeysAt (H:Hp) (l:Addr) (m:Nat) (f:Nat->List Int):Prop:=∃as:List Addr,H l=some (.lst (as.map V.ref))/\as.length=m/\∀i (h:i<as.length),H as[i]=some (.tup ((f i).map V.int))
noncomputable def Zbc:SpT:=λK mg vs H Q E=>∃(l:Addr) (ns:List Int) (c:Nat),vs=[.ref l,.int (c:Int)]/\H l=some (.lst ((ZJ ns).map V.int))/\ns.length<=1000/\1<=c/\c<=2000/\∀(q:Addr) H',H q=none->Zh H H'->KeysAt H' q (ZH ns.length c) (Z9 ns c)->Q (.ref q) H'
noncomputable def ZdM:SpT:=λK mg vs H Q E=>∃(l:Addr) (ns:List Int) (c:Nat),vs=[.ref l,.int (c:Int)]/\H l=some (.lst ((ZJ ns).map V.int))/\ns.length<=1000/\1<=c/\c<=2000/\∀(q:Addr) H',Zh H H'->ZfY H H' q (Zc3 ns c)->Q (.ref q) H'
noncomputable def ZdN:SpT:=λK mg vs H Q E=>∃(r:Addr) (ns:List Int) (c:Nat),vs=[.ref r,.int (c:Int)]/\(SqL K H r (ns.map V.int)\/SqT K H r (ns.map V.int))/\ns.length<=1000/\1<=c/\c<=2000/\∀(q:Addr) H',Zh H H'->ZfY H H' q (Zc3 ns c)->Q (.ref q) H'
noncomputable def TwIs (E:Nat->Nat->Bool) (m:Nat):Option (Nat×Nat)->Prop
 |none=>∀a b,a<b->b<m->E a b=false
 |some (a,b)=>a<b/\b<m/\E a b=true/\(∀x y,x<y->y<m->E x y=true->a<=x)/\∀y,a<y->y<m->E a y=true->b<=y
noncomputable def BoIs (E:Nat->Nat->Bool) (m1 m2:Nat):Option (Nat×Nat)->Prop
 |none=>∀a b,a<m1->b<m2->E a b=false
 |some (a,b)=>a<m1/\b<m2/\E a b=true/\(∀x y,x<m1->y<m2->E x y=true->a<=x)/\∀y,y<m2->E a y=true->b<=y
noncomputable def PrAt (H:Hp) (y:V):Option (Nat×Nat)->Prop
 |none=>y=.non
 |some (a,b)=>∃t,y=.ref t/\H t=some (.tup [.int (a:Int),.int (b:Int)])
noncomputable def Zdh (ns ms:List Int) (c:Nat):Nat->Nat->Bool:=λa b=>decide (Z9 ns c a=Z9 ms c b)
noncomputable def Zfq:SpT:=λK mg vs H Q E=>∃(l1 l2:Addr) (ns ms:List Int) (c:Nat),vs=[.ref l1,.ref l2,.int (c:Int)]/\H l1=some (.lst ((ZJ ns).map V.int))/\H l2=some (.lst ((ZJ ms).map V.int))/\ns.length<=1000/\ms.length<=1000/\1<=c/\c<=2000/\∀(y:V) (o:Option (Nat×Nat)) H',BoIs (Zdh ns ms c) (ZH ns.length c) (ZH ms.length c) o->PrAt H' y o->Zh H H'->Q y H'
noncomputable def Zfr (P:Program) (w:World) (K:PySem.W.Frag) (mg:Str->Option Value) (base:Heap):Sp:=λvs H Q E=>∃(f:Addr) (most:Nat) (sp:V->Hp->VK->Prop) (PrO:Nat->Option (Nat×Nat)->Prop),vs=[.int (most:Int),.ref f]/\Zks H f/\FnV P w K mg base 7 f sp/\1<=most/\most<=1000/\(∀o,PrO 1 o->o≠none)/\(∀(n:Nat) (H1:Hp) (R:VK),1<=n->n<=most->Zh H H1->(∀y o H2,Zh H1 H2->PrO n o->PrAt H2 y o->R y H2)->sp (.int (n:Int)) H1 R)/\∀(t:Addr) (c a b:Nat) H',Zh H H'->1<=c->c<=most->PrO c (some (a,b))->(c<most->PrO (c+1) none)->H' t=some (.tup [.int (c:Int),.int (a:Int),.int (b:Int)])->Q (.ref t) H'
noncomputable def LongB (ns ms:List Int) (c a b:Nat):Prop:=1<=c/\c<=ns.length/\c<=ms.length/\BoIs (Zdh ns ms c) (ZH ns.length c) (ZH ms.length c) (some (a,b))/\BoIs (Zdh ns ms (c+1)) (ZH ns.length (c+1)) (ZH ms.length (c+1)) none
noncomputable def Zci:SpT:=λK mg vs H Q E=>∃(r x:Addr) (ns ms:List Int),vs=[.ref r,.ref x]/\(SqL K H r (ns.map V.int)\/SqT K H r (ns.map V.int))/\(SqL K H x (ms.map V.int)\/SqT K H x (ms.map V.int))/\ns.length<=1000/\ms.length<=1000/\ZmY K mg "longest_both" H/\(ns.length=0\/ms.length=0->E (.ref (clsAt mg "Empty")) none H)/\(0<ns.length->0<ms.length->∀(t:Addr) (c a b:Nat) H',Zh H H'->LongB ns ms c a b->H' t=some (.tup [.int (c:Int),.int (a:Int),.int (b:Int)])->Q (.ref t) H')
noncomputable def EndsM (R ms:List Int) (most:Nat):Prop:=(most=0\/∃p,most<=p/\p<=ms.length/\most<=R.length/\Mt (nth R) (nth ms) most p)/\∀k p,k<=R.length->k<=p->p<=ms.length->Mt (nth R) (nth ms) k p->k<=most
noncomputable def ZdO:SpT:=λK mg vs H Q E=>∃(r t:Addr) (R ms:List Int),vs=[.ref r,.ref t]/\H r=some (.lst (R.map V.int))/\H t=some (.lst (ms.map V.int))/\0<R.length/\R.length<=12/\ms.length<=60/\∀(u e:Addr) (m:Nat) H',Zh H H'->EndsM R ms m->H' u=some (.tup [.ref e,.int (m:Int)])->H' e=some (.lst (Zr ((Zv (nth R) (nth ms) R.length ms.length).map (·+R.length))))->Q (.ref u) H'
noncomputable def ZbC:SpT:=λK mg vs H Q E=>∃(r:Addr) (R:List Int),vs=[.ref r]/\H r=some (.lst (R.map V.int))/\0<R.length/\R.length<=12/\∀H',Zh H H'->Q (.bl true) H'
noncomputable def ZaN:SpT:=λK mg vs H Q E=>∃(t:Addr) (ms:List Int),vs=[.ref t]/\H t=some (.lst (ms.map V.int))/\ms.length<=60/\∀H',Zh H H'->Q (.bl true) H'
noncomputable def Zbo:SpT:=λK mg vs H Q E=>∃(r t:Addr) (R ms:List Int),vs=[.ref r,.ref t]/\H r=some (.lst (R.map V.int))/\H t=some (.lst (ms.map V.int))/\0<R.length/\R.length<=12/\0<ms.length/\ms.length<=60/\ZmY K mg "longest_both" H/\∀H',Zh H H'->Q (.bl true) H'
section
variable {P:Program}{w:World}{K:PySem.W.Frag}{mg:Str->Option Value}{base:Heap}
theorem Zg9:FnScope ["row","fewest"] ["row","fewest"] (defScope Zaq):=⟨rfl,rfl,rfl,by decide +kernel,rfl,by decide +kernel,by decide +kernel⟩
theorem sc_settle:FnScope ["elders","spine","place","keep"] ["elders","spine","place","keep"] (defScope s_settle):=⟨rfl,rfl,rfl,by decide +kernel,rfl,by decide +kernel,by decide +kernel⟩
theorem sc_tree_of:FnScope ["row","elders","spine","place","keep"] ["row"] (defScope s_tree_of):=⟨rfl,rfl,rfl,by decide +kernel,rfl,by decide +kernel,by decide +kernel⟩
theorem sc_way_up:FnScope ["tree","place","way","at"] ["tree","place"] (defScope s_way_up):=⟨rfl,rfl,rfl,by decide +kernel,rfl,by decide +kernel,by decide +kernel⟩
theorem sc_fences_of:FnScope ["tree","fences","place","way","ahead","behind"] ["tree"] (defScope s_fences_of):=⟨rfl,rfl,rfl,by decide +kernel,rfl,by decide +kernel,by decide +kernel⟩
theorem Zgp:FnScope ["tree"] ["tree"] (defScope Zaa):=⟨rfl,rfl,rfl,by decide +kernel,rfl,by decide +kernel,by decide +kernel⟩
theorem Zgq:FnScope ["row"] ["row"] (defScope Zab):=⟨rfl,rfl,rfl,by decide +kernel,rfl,by decide +kernel,by decide +kernel⟩
theorem ZhO:FnScope ["distance","size"] ["distance","size"] (defScope ZaD):=⟨rfl,rfl,rfl,by decide +kernel,rfl,by decide +kernel,by decide +kernel⟩
theorem ZiV:FnScope ["told","borders","size","distance"] ["told","borders","size","distance"] (defScope Zdv):=⟨rfl,rfl,rfl,by decide +kernel,rfl,by decide +kernel,by decide +kernel⟩
theorem Zdi:FnScope ["told","borders","distance"] ["told"] (defScope ZaV):=⟨rfl,rfl,rfl,by decide +kernel,rfl,by decide +kernel,by decide +kernel⟩
theorem Zim:FnScope ["row"] ["row"] (defScope ZaW):=⟨rfl,rfl,rfl,by decide +kernel,rfl,by decide +kernel,by decide +kernel⟩
theorem Zak:FnScope ["row","text","told","borders","starts","size","place","distance"] ["row","text"] (defScope Zbr):=⟨rfl,rfl,rfl,by decide +kernel,rfl,by decide +kernel,by decide +kernel⟩
theorem ZdZ:FnScope ["rows","row"] ["rows"] (defScope Zar):=⟨rfl,rfl,rfl,by decide +kernel,rfl,by decide +kernel,by decide +kernel⟩
theorem Zdy:FnScope ["given","number","back"] ["given","number"] (defScope Zac):=⟨rfl,rfl,rfl,by decide +kernel,rfl,by decide +kernel,by decide +kernel⟩
theorem ZfZ:FnScope ["self","rows"] ["self","rows"] (defScope Z6):=⟨rfl,rfl,rfl,by decide +kernel,rfl,by decide +kernel,by decide +kernel⟩
theorem ZaF:FnScope ["self","number","distance","sizes","told","borders","size"] ["self","number"] (defScope ZaX):=⟨rfl,rfl,rfl,by decide +kernel,rfl,by decide +kernel,by decide +kernel⟩
theorem Zfs:FnScope ["self"] ["self"] (defScope ZY):=⟨rfl,rfl,rfl,by decide +kernel,rfl,by decide +kernel,by decide +kernel⟩
theorem Zft:FnScope ["self"] ["self"] (defScope ZZ):=⟨rfl,rfl,rfl,by decide +kernel,rfl,by decide +kernel,by decide +kernel⟩
theorem Zcj:FnScope ["told","size","keys","a"] ["told","size"] (defScope Zas):=⟨rfl,rfl,rfl,by decide +kernel,rfl,by decide +kernel,by decide +kernel⟩
theorem ZcE:FnScope ["told","size","groups","a","key"] ["told","size"] (defScope Zbs):=⟨rfl,rfl,rfl,by decide +kernel,rfl,by decide +kernel,by decide +kernel⟩
theorem Zjx:FnScope ["row","size"] ["row","size"] (defScope Zbt):=⟨rfl,rfl,rfl,by decide +kernel,rfl,by decide +kernel,by decide +kernel⟩
theorem Zb0:FnScope ["ones","others","size","firsts","b","key","a"] ["ones","others","size"] (defScope ZcH):=⟨rfl,rfl,rfl,by decide +kernel,rfl,by decide +kernel,by decide +kernel⟩
theorem Zbp:FnScope ["most","pair_at","size","pair","above","middle","found"] ["most","pair_at"] (defScope ZcI):=⟨rfl,rfl,rfl,by decide +kernel,rfl,by decide +kernel,by decide +kernel⟩
theorem Zck:FnScope ["one","other","ones","others"] ["one","other"] (defScope Zat):=⟨rfl,rfl,rfl,by decide +kernel,rfl,by decide +kernel,by decide +kernel⟩
theorem Zal:FnScope ["script","k","cell","seed","number","turn"] ["script","k"] (defScope Zbu):=⟨rfl,rfl,rfl,by decide +kernel,rfl,by decide +kernel,by decide +kernel⟩
theorem Zf0:FnScope ["pot","many","digit"] ["pot","many"] (defScope Zbv):=⟨rfl,rfl,rfl,by decide +kernel,rfl,by decide +kernel,by decide +kernel⟩
theorem ZaO:FnScope ["pot","most","many","kind","turn","row","k"] ["pot","most"] (defScope ZbX):=⟨rfl,rfl,rfl,by decide +kernel,rfl,by decide +kernel,by decide +kernel⟩
theorem ZbD:FnScope ["pot","rows","turn","row"] ["pot"] (defScope Zbw):=⟨rfl,rfl,rfl,by decide +kernel,rfl,by decide +kernel,by decide +kernel⟩
theorem ZaP:FnScope ["pot","rows","most","given","row","turn"] ["pot","rows"] (defScope ZaE):=⟨rfl,rfl,rfl,by decide +kernel,rfl,by decide +kernel,by decide +kernel⟩
theorem Zaz:FnScope ["row","text","watch","ends","most","at","number"] ["row","text"] (defScope Zbx):=⟨rfl,rfl,rfl,by decide +kernel,rfl,by decide +kernel,by decide +kernel⟩
theorem Z1:FnScope ["row","watch","known","number","ahead","behind"] ["row"] (defScope Z7):=⟨rfl,rfl,rfl,by decide +kernel,rfl,by decide +kernel,by decide +kernel⟩
theorem ZaQ:FnScope ["text","size","starts"] ["text"] (defScope ZT):=⟨rfl,rfl,rfl,by decide +kernel,rfl,by decide +kernel,by decide +kernel⟩
theorem ZaA:FnScope ["row","text","size","one","other"] ["row","text"] (defScope Z0):=⟨rfl,rfl,rfl,by decide +kernel,rfl,by decide +kernel,by decide +kernel⟩
theorem sc_law:FnScope ["script","k","pot","rows","row","text","ends","most"] ["script"] (defScope s_law):=⟨rfl,rfl,rfl,by decide +kernel,rfl,by decide +kernel,by decide +kernel⟩
theorem Zjy {f:Addr}{fd:FuncData} (F:Fun K "_law_deal" "_law_deal" Zbu f fd) (T:Txt K mg):FnOk P w K mg base (CXE P w) 1 f fd ["script","k"] (ZdK K mg):=by
 refine F.okX Zal (λvs H Q E h=>?_) (λcdv A outer s H vs Q E hr h=>?_)
 ·obtain⟨a,ns,k,rfl,_⟩:=h;rfl
 obtain⟨a,ns,k,rfl,hS,h0,h1,k1⟩:=h
 refine⟨_,(Zd (Zq (i:=2) Zal.nd rfl (Or.inl rfl) Ze)
   (Zd (Zag (Zt Ze8 (pv 1) (Zk (Zl (K:=K) rfl) rfl T.b_len Yn (Za (pv 0) Zc)) (Zy _)) (Zg (Zq (i:=2) Zal.nd rfl (Or.inl rfl) (Zn Zef (Zah ZP (pv 0) (pv 1) (λ_ _=>rfl)) (Zn Zb6 (Zn Zb6 (Zn Zb6 (Zn Zfe Ze Ze) (Zn Zfe Ze Ze)) (Zn Zfe Ze Ze)) (Zn Zfe Ze Ze))))) ZW)
   (Zd (Zag (Zt op_ge (pv 2) (Zn Zfe Ze Ze) (Zy _)) (Zg (ZC (ZK (Za (Zn Zbj (pv 2) (Zn Zfe Ze Ze)) Zc)))) ZW)
   (Zd (Zq (i:=3) Zal.nd rfl (Or.inl rfl) (Zn ZV (Zn ZV (Zn Zef (pv 2) Ze) (Zn Zb6 Ze (pv 1))) Ze))
   (Zd (Zq (i:=4) Zal.nd rfl (Or.inl rfl) Ze)
   (Zd (Z2 (Zau PassesOwn.never rfl (ZaC rfl T.b_range (Za Ze Zc)) (Zo (i:=5) Zal.nd rfl (Or.inl rfl)) (Zd (Zq (i:=3) Zal.nd rfl (Or.inl rfl) (Zn Zef (Zn ZV (Zn Zb6 (pv 3) Ze) Ze) Ze))
   (Zg (Zq (i:=4) Zal.nd rfl (Or.inl rfl) (Zn ZV (Zn Zb6 (pv 4) Ze) (Zn Zef (Zn Zej (Zn Zef (Zn Zb6 (pv 3) (pv 3)) Ze) Ze) Ze)))))))
   (Zg (ZC (ZK (Za (pv 4) Zc)))))))))),?_⟩
 simp only[tIfS,tNot,tTest,tChain,rI0,rI,rU,tVar,tC,tB,tIf,tAndV,tCall,tCons,tNil,tAsg,tSeq,tRet,tNext,tOp,tUn,tAnd,tOr,tDrop,gName,gSub,tAug,tCB,tSl,tRaise,tLst,tTup,L2.start,tYes,gTup,gCons,gNil,iniC,Option.join_some,Option.join_none,rEq,rNe,ZfN,ZlV,ZlW,ZlX,ZlY,ZlZ,tBM,Bool.true_eq_false,YD,List.map_nil,List.cons_append,List.nil_append,YF,List.length_nil,List.replicate,List.append_nil,List.set_cons_zero,List.set_cons_succ,List.getElem?_cons_zero,List.getElem?_cons_succ,Option.some.injEq,V.int.injEq,V.bl.injEq,V.ref.injEq,List.cons.injEq,and_true,true_and,exists_eq_left,exists_eq_left',exists_and_left,exists_eq,decide_eq_true_eq,Bool.not_eq_true',decide_eq_false_iff_not,cxK,and_assoc,Bool.false_eq_true,↓reduceIte,ZlU,ZiG,Zj7,iRng1,iRng2,iList,iTup,rIxL,rIxT,rSetL,rCat,tDelT,rPop,tPar,rInsert,rIndex,rLen,rLof,rTof,tBM0,rEqD,tRngV2,rLstR2,rIn,iEnum,tMaxD,tMinD,rAll,rIxQ,rSlL,tPart,tNoPart,tSl,ipI,rAppend,rRep,rExtend,V.str.injEq,tFldC,sFldC,tMeth,tMake,tDGet,tDIn,rCatU,iZip3,tDNewT,tDSetD,tDVals,rLVals,tLam,Zlr,Zjv,cp18,cp60,qm1,qm2,qm3,qm4]
 have fin:∀g:Int,0<=g->∀p,H p=none->Q (V.ref p) (upd H p (.lst [V.int g])):=λg hg p hp=>k1 p _ hp ((Zh.refl H).upd hp) ⟨_,Zb,hg⟩
 refine⟨_,.inl hS,Z4 (λhk=>?_) (λhk=>?_)⟩
 case' refine_1 =>
  obtain⟨j,hj0⟩:=YX h0
  have hj:j<(ns.map V.int).length:=by omega
  refine⟨_,hS,_,Zgj hj0 hj,ns[j]'(by simpa using hj),by simp,Z4 (λc=>⟨by decide,fin _ (Int.sub_nonneg.mpr c)⟩) (λ_=>⟨by decide,ZiH (by decide) (by decide),by decide,by decide,?_⟩)⟩
 case' refine_2 =>
  refine Z4 (λz=>absurd z (by decide)) (λ_=>⟨by decide,ZiH (by decide) (by decide),by decide,by decide,?_⟩)
 all_goals
  refine ZbR (λi σ H'=>∃v2 g o v5,σ=[some (.ref a),some (.int k),v2,some (.int o),some (.int g),v5]/\0<=g/\H'=H) ⟨_,0,_,none,rfl,Int.le_refl _,rfl⟩ ?_ ?_
  ·rintro i σ H' hi ⟨v2,g,o,v5,rfl,hg,rfl⟩
   walk_at "rd"
   have b1:=Int.emod_nonneg (o*48271+12345) (b:=2147483647) (by decide)
   have b2:=Int.emod_lt_of_pos (o*48271+12345) (b:=2147483647) (by decide)
   refine⟨mul_r (by decide) (by decide),by decide,mul_r (by decide) (by decide),ZiH (by omega) (by omega),by decide,⟨by decide,by decide⟩,by decide,?_⟩
   have b3:=Int.emod_nonneg ((o*48271+12345) % 2147483647*((o*48271+12345) % 2147483647) % 2147483629 / 64) (b:=16777216) (by decide)
   have b4:=Int.mul_nonneg hg (show(0:Int)<=16777216 by decide)
   omega
  ·rintro σ H' ⟨v2,g,o,v5,rfl,hg,rfl⟩
   walk_at "rd"
   exact⟨by decide,fin g hg⟩
theorem Zjz {f:Addr}{fd:FuncData} (F:Fun K "_law_take" "_law_take" Zbv f fd) (T:Txt K mg):FnOk P w K mg base (CXE P w) 1 f fd ["pot","many"] (ZbA K mg):=by
 refine F.okX Zf0 (λvs H Q E h=>?_) (λcdv A outer s H vs Q E hr h=>?_)
 ·obtain⟨p,many,rfl,_⟩:=h;rfl
 obtain⟨p,many,rfl,h0,h1,⟨x,hp,hx⟩,k1⟩:=h
 refine⟨_,(Zd (Zq (i:=2) Zf0.nd rfl (Or.inl rfl) (Zn Zef (Zah ZP (pv 0) Ze (λ_ _=>rfl)) (pv 1)))
   (Zd (Zhw (Zn Zej (Zah ZP (pv 0) Ze (λ_ _=>rfl)) (pv 1)) (ZkX (pv 0) Ze set_list (λ_=>rfl)))
   (Zg (ZC (pv 2))))),?_⟩
 walk_at "rd"
 refine⟨_,SqL.of hp,_,rfl,_,rfl,h0,?_⟩
 refine⟨_,SqL.of hp,_,rfl,_,rfl,⟨h0,by omega⟩,_,hp,_,rfl,?_⟩
 exact k1 _ _ (Int.emod_nonneg _ (by omega)) (Int.emod_lt_of_pos _ h0) ⟨_,Zb,Int.ediv_nonneg hx (by omega)⟩ Exc.upd
theorem Zku {f:Addr}{fd:FuncData} (F:Fun K "_law_row" "_law_row" ZbX f fd) (Zm:Callee P w K mg base "_law_take" 1 ["pot","many"] (ZbA K mg)) (T:Txt K mg):FnOk P w K mg base (CXE P w) 2 f fd ["pot","most"] (sp__law_row K mg):=by
 refine F.okX ZaO (λvs H Q E h=>?_) (λcdv A outer s H vs Q E hr h=>?_)
 ·obtain⟨p,most,rfl,_⟩:=h;rfl
 obtain⟨p,most,rfl,h0,h1,hP,k1⟩:=h
 refine⟨_,(Zd (Zq (i:=2) ZaO.nd rfl (Or.inl rfl) (Zi Zm (hr.mono (by decide)) rfl Zu (Za (pv 0) (Za (Zn ZV (pv 1) Ze) Zc))))
   (Zd (Zq (i:=3) ZaO.nd rfl (Or.inl rfl) (Zi Zm (hr.mono (by decide)) rfl Zu (Za (pv 0) (Za Ze Zc))))
   (Zd (Zq (i:=4) ZaO.nd rfl (Or.inl rfl) (Zn ZV Ze (Zi Zm (hr.mono (by decide)) rfl Zu (Za (pv 0) (Za Ze Zc)))))
   (Zd (Zq (i:=5) ZaO.nd rfl (Or.inr rfl) (ZK Zc))
   (Zd (Z2 (Zau PassesOwn.never rfl (ZaC rfl T.b_range (Za (pv 2) Zc)) (Zo (i:=6) ZaO.nd rfl (Or.inl rfl)) (Zg (Zag (Zt Ze8 (pv 3) Ze (Zy _)) (Zg (ZA (Za0 PySem.F.plainAttrs_list PySem.F.slot_list_append PySem.F.type_list_append ZM (pv 5) (Za (Zi Zm (hr.mono (by decide)) rfl Zu (Za (pv 0) (Za (pv 4) Zc))) Zc)))) (Zg (Zag (Zt ZdY (pv 3) Ze (Zy _)) (Zg (ZA (Za0 PySem.F.plainAttrs_list PySem.F.slot_list_insert PySem.F.type_list_insert Zmx (pv 5) (Za (Zi Zm (hr.mono (by decide)) rfl Zu (Za (pv 0) (Za (Zn ZV (pv 6) Ze) Zc))) (Za (pv 6) Zc))))) (Zg (Zag (Zt ZdY (pv 3) Ze (Zy _)) (Zg (ZA (Za0 PySem.F.plainAttrs_list PySem.F.slot_list_append PySem.F.type_list_append ZM (pv 5) (Za (Zn Zbj (Zn Zef (pv 6) (pv 4)) (Zn Zej (pv 6) (pv 4))) Zc)))) (Zg (Zag (Zt ZdY (pv 3) Ze (Zy _)) (Zg (ZA (Za0 PySem.F.plainAttrs_list PySem.F.slot_list_append PySem.F.type_list_append ZM (pv 5) (Za (Zah ZP (ZK (Za (pv 6) (Za (ZfG ZdE (pv 6)) Zc))) (Zn Zef (pv 4) Ze) (λ_ _=>rfl)) Zc)))) (Zg (Zag (Zt ZdY (pv 3) Ze (Zy _)) (Zg (ZA (Za0 PySem.F.plainAttrs_list PySem.F.slot_list_append PySem.F.type_list_append ZM (pv 5) (Za (Zn Zb6 (Zn Zbj (Zi Zm (hr.mono (by decide)) rfl Zu (Za (pv 0) (Za Ze Zc))) Ze) (Zn Zfe Ze Ze)) Zc)))) (Zg (ZA (Za0 PySem.F.plainAttrs_list PySem.F.slot_list_append PySem.F.type_list_append ZM (pv 5) (Za (Zn Zbj (Zi Zm (hr.mono (by decide)) rfl Zu (Za (pv 0) (Za Ze Zc))) Ze) Zc))))))))))))))))
   (Zd (Zag (Zt ZdY (pv 3) Ze (Zy _)) (Zg (Zq (i:=5) ZaO.nd rfl (Or.inr rfl) (Zap ["k","row"] [none,some 5] rfl rfl rfl (ZaC rfl T.b_range (Za (pv 2) Zc)) (λ_ _ _ _ _=>(Zo (i:=0) (show(["k","row"]:List Str).Nodup from by decide +kernel) rfl (Or.inl rfl))) (λ_ _ _ _ _=>Za6) (λ_ _ _ _ _=>(pe_bmK (K:=K) rfl PySem.F.plainAttrs_list PySem.F.slot_list_index PySem.F.type_list_index (Zoz (K:=K) rfl) (pv 1) (Za (pv 0) Zc))) ZO))) ZW)
   (Zg (ZC (pv 5))))))))),?_⟩
 refine Zaw (fun σ Hx=>∃m:Int,σ=[some (.ref p),some (.int most),some (.int m),none,none,none,none]/\0<=m/\m<=most/\ZR Hx p/\Exc p H Hx) (λR hR=>?_) ?_
 ·walk_at "rd"
  exact⟨p,_,rfl,by omega,by omega,hP,λd H1 d0 d1 P1 e1=>hR _ _ ⟨d,rfl,d0,by omega,P1,e1⟩⟩
 rintro σ H1 ⟨many,rfl,m0,m1,P1,e1⟩
 refine Zaw (fun σ Hx=>∃k:Int,σ=[some (.ref p),some (.int most),some (.int many),some (.int k),none,none,none]/\0<=k/\k<8/\ZR Hx p/\Exc p H Hx) (λR hR=>?_) ?_
 ·walk_at "rd"
  exact⟨p,_,rfl,by decide,by decide,P1,λd H2 d0 d1 P2 e2=>hR _ _ ⟨d,rfl,d0,d1,P2,e1.trans e2⟩⟩
 clear P1 e1 H1
 rintro σ H1 ⟨kd,rfl,d0,d1,P1,e1⟩
 refine Zaw (fun σ Hx=>∃t:Int,σ=[some (.ref p),some (.int most),some (.int many),some (.int kd),some (.int t),none,none]/\2<=t/\t<6/\ZR Hx p/\Exc p H Hx) (λR hR=>?_) ?_
 ·walk_at "rd"
  exact⟨p,_,rfl,by decide,by decide,P1,λd H2 d0 d1 P2 e2=>⟨d,rfl,hR _ _ ⟨_,rfl,by omega,by omega,P2,e1.trans e2⟩⟩⟩
 clear P1 e1 H1
 rintro σ H1 ⟨tn,rfl,t0,t1,P1,e1⟩
 refine Zaw (fun σ Hx=>∃q:Addr,σ=[some (.ref p),some (.int most),some (.int many),some (.int kd),some (.int tn),some (.ref q),none]/\H q=none/\q≠p/\Hx q=some (.lst [])/\ZR Hx p/\Exc p H Hx) (λR hR=>?_) ?_
 ·walk_at "rd"
  exact⟨Yr _,λq hq=>hR _ _ ⟨q,rfl,e1.free (P1.ne hq) hq,P1.ne hq,Zb,P1.upd hq,e1.same ((Zh.refl H1).upd hq)⟩⟩
 clear P1 e1 H1
 rintro σ H1 ⟨q,rfl,zq,nqp,hq1,P1,e1⟩
 refine Zaw (fun σ Hx=>∃(ns:List Int) (v6:Option V),σ=[some (.ref p),some (.int most),some (.int many),some (.int kd),some (.int tn),some (.ref q),v6]/\(ns.length:Int)=many/\(kd=3->∀j:Nat,(j:Int)<many->(j:Int)∈ns)/\Hx q=some (.lst (ns.map V.int))/\ZR Hx p/\Exc p H Hx) (λR hR=>?_) ?_
 ·walk_at "rd"
  refine⟨by omega,by omega,?_⟩
  refine ZbR (λi σ Hx=>∃(ns:List Int) (v6:Option V),σ=[some (.ref p),some (.int most),some (.int many),some (.int kd),some (.int tn),some (.ref q),v6]/\ns.length=i/\(kd=3->∀j:Nat,j<i->(j:Int)∈ns)/\Hx q=some (.lst (ns.map V.int))/\ZR Hx p/\Exc p H Hx) ⟨[],none,rfl,rfl,(λ_ j hj=>absurd hj (by omega)),hq1,P1,e1⟩ ?_ ?_
  ·rintro i σ Hx hi ⟨ns,v6,rfl,hl,hin,hqx,Px,ex⟩
   have hi':i<1000:=by omega
   have hb:(ns.map V.int).length<sizeLine:=Yv (show _<=1000 by rw[Yf];omega) (by decide)
   have app:kd≠3->∀(y:Int) (Hy:Hp),Hy q=some (.lst (ns.map V.int))->ZR Hy p->Exc p H Hy->∃x_1,Hy q=some (HO.lst x_1)/\x_1.length<sizeLine/\∃ns':List Int,ns'.length=i+1/\(kd=3->∀(j:Nat),j<i+1->(j:Int)∈ns')/\upd Hy q (HO.lst (x_1++[V.int y])) q=some (HO.lst (List.map V.int ns'))/\ZR (upd Hy q (HO.lst (x_1++[V.int y]))) p/\Exc p H (upd Hy q (HO.lst (x_1++[V.int y]))):=λn3 y Hy hy Py ey =>
    ⟨_,hy,hb,ns++[y],by simp[hl],(λz=>absurd z n3),by rw[Zb];simp,Py.ZhE nqp,ey.ZhE zq⟩
   walk_at "rd"
   refine Z4 (λk3=>⟨ZF hqx,p,_,rfl,by omega,by omega,Px,λd H2 d0 d1 P2 e2=>app (by omega) d H2 (e2 _ _ nqp hqx) P2 (ex.trans e2)⟩) λk3=>?_
   refine Z4 (λk4=>⟨ZF hqx,p,_,rfl,by omega,by omega,Px,λd H2 d0 d1 P2 e2=>?_⟩) λk4=>?_
   ·refine⟨_,d,rfl,e2 _ _ nqp hqx,d0,by omega,hb,ns.take d.toNat++(0+(i:Int))::ns.drop d.toNat,by simp;omega,λ_ j hj=>?_,by rw[Zb];simp,P2.ZhE nqp,(ex.trans e2).ZhE zq⟩
    by_cases ej:j=i
    ·rw[ej];simp
    ·have hm:=hin k4 j (by omega)
     rw[<-Y7 d.toNat ns]at hm
     rcases Yy.mp hm with z|z
     ·exact YM _ z
     ·exact YC _ (YQ _ z)
   refine Z4 (λk5=>⟨ZF hqx,by omega,⟨by omega,by omega⟩,app k4 _ Hx hqx Px ex⟩) λk5=>?_
   refine Z4 (λk6=>⟨ZF hqx,by decide,λu hu=>⟨by decide,?_⟩⟩) λk6=>?_
   ·obtain⟨v,hv,y,rfl⟩:=ZfL (xs:=[V.int (0+(i:Int)),V.int (-(0+(i:Int)))]) (i:=tn % 2) (λv=>∃y:Int,v=V.int y) (by omega) (by show _<((2:Nat):Int);omega) (by
     intro x hx
     simp only[Yk,List.not_mem_nil,or_false]at hx
     rcases hx with rfl|rfl<;>exact⟨_,rfl⟩)
    have g:=(Zh.refl Hx).upd (o:=.lst [V.int (0+(i:Int)),V.int (-(0+(i:Int)))]) hu
    exact⟨_,SqL.of Zb,_,hv,app k4 y _ (g _ _ hqx) (Px.same g) (ex.same g)⟩
   exact Z4 (λk7=>⟨ZF hqx,p,_,rfl,by decide,by decide,Px,λd H2 d0 d1 P2 e2=>⟨d,rfl,cp59,ZiH (by omega) (by omega),app k4 _ H2 (e2 _ _ nqp hqx) P2 (ex.trans e2)⟩⟩) λk7=>⟨ZF hqx,p,_,rfl,by decide,by decide,Px,λd H2 d0 d1 P2 e2=>⟨d,rfl,app k4 _ H2 (e2 _ _ nqp hqx) P2 (ex.trans e2)⟩⟩
  ·rintro σ Hx ⟨ns,v6,rfl,hl,hin,hqx,Px,ex⟩
   exact hR _ _ ⟨ns,v6,rfl,by omega,(λz j hj=>hin z j (by omega)),hqx,Px,ex⟩
 clear P1 e1 hq1 H1
 rintro σ H1 ⟨ns,v6,rfl,hl,hin,hq1,P1,e1⟩
 refine Zaw (fun σ Hx=>∃(q:Addr) (ns:List Int) (v6:Option V),σ=[some (.ref p),some (.int most),some (.int many),some (.int kd),some (.int tn),some (.ref q),v6]/\H q=none/\(ns.length:Int)=many/\Hx q=some (.lst (ns.map V.int))/\ZR Hx p/\Exc p H Hx) (λR hR=>?_) ?_
 ·walk_at "rd"
  refine Z4 (λk3=>⟨by omega,by omega,?_⟩) λk3=>hR _ _ ⟨q,ns,v6,rfl,zq,hl,hq1,P1,e1⟩
  refine comp_map (n:=many.toNat) (λj=>V.int ((ns.idxOf ((j:Nat):Int):Nat):Int)) (Yv (show _<=1000 by omega) (by decide)) (λj Hx s hj=>hj) (λHx s=>Ye _) ?_ ?_
  ·rintro j x Hx Hy hj s ⟨rfl,rfl⟩
   have e0:((0:Int)+(j:Int))=(j:Int):=by omega
   rw[e0]
   walk_at "rd"
   exact⟨ZF (s _ _ hq1),_,SqL.of (s _ _ hq1),by omega,hin k3 j (by omega),CW.next hj rfl s⟩
  ·intro l Hx s hlx
   have em:(List.range many.toNat).map (λj=>V.int ((ns.idxOf ((j:Nat):Int):Nat):Int))=((List.range many.toNat).map λj=>((ns.idxOf ((j:Nat):Int):Nat):Int)).map V.int:=by rw[YS];rfl
   rw[em]
   exact hR _ _ ⟨l,_,v6,rfl,e1.free ((P1.same s).ne hlx) (s.free hlx),by simp;omega,Zb,(P1.same s).upd hlx,(e1.same s).same ((Zh.refl Hx).upd hlx)⟩
 rintro σ H2 ⟨q2,ms,v6',rfl,zq2,hl2,hq2,P2,e2⟩
 walk_at "rd"
 exact k1 q2 ms _ zq2 (by omega) hq2 P2 e2
theorem ok_settle {f:Addr}{fd:FuncData} (F:Fun K "settle" "settle" s_settle f fd) (T:Txt K mg):FnOk P w K mg base (CXE P w) 1 f fd ["elders","spine","place","keep"] (sp_settle K mg):=by
 refine F.okX sc_settle (λvs H Q E h=>?_) (λcdv A outer s H vs Q E hr h=>?_)
 ·obtain⟨el,sp,es,A,B,i,rfl,_⟩:=h;rfl
 obtain⟨el,sp,es,A',B,i,rfl,hel,hsp,hne,hi,hq,hlen,k1⟩:=h
 refine⟨_,(Zd (Zag (Zt Ze8 (pv 3) (Zk (Zl (K:=K) rfl) rfl T.b_len Yn (Za (pv 1) Zc)) (Zy _)) (Zg (Zhw (pv 2) (ZkX (pv 0) (Zah ZP (pv 1) (pv 3) (λ_ _=>rfl)) set_list (λ_=>rfl)))) ZW)
   (Zd (Zag (Zt ZgL (pv 3) Ze (Zy _)) (Zg (Zhw (Zah ZP (pv 1) (Zn Zbj (pv 3) Ze) (λ_ _=>rfl)) (ZkX (pv 0) (pv 2) set_list (λ_=>rfl)))) ZW)
   (Zd (Zli (pv 1) (pv 3))
   (Zg (ZA (Za0 PySem.F.plainAttrs_list PySem.F.slot_list_append PySem.F.type_list_append ZM (pv 1) (Za (pv 2) Zc))))))),?_⟩
 walk_at "rd"
 have hb1:(Zr A').length<sizeLine:=by
  rw[ZS]
  rw[YE]at hlen
  exact Yv (show _<=1000 by omega) (by decide)
 have etk:List.take A'.length (Zr (A'++B))=Zr A':=by
  rw[ZbT]
  have:A'.length=(Zr A').length:=(ZS A').symm
  rw[this,List.take_left]
 have hle:A'.length<=(Zr (A'++B)).length:=by rw[ZS,YE];omega
 have esn:Zr A'++[V.int (i:Nat)]=Zr (A'++[i]):=by rw[ZbT];rfl
 refine⟨_,.inl (SqL.of hsp),?_⟩
 rw[ZS,YE]
 -- the end: behind the two stores
 have fin:∀(es1:List Int) (Hx:Hp),(∀b o,b≠el->b≠sp->H b=some o->Hx b=some o)->Hx el=some (.lst (es1.map V.int))->Hx sp=some (.lst (Zr (A'++B)))->es1=Zg8 es A' B i ->
   ∃(xs:List V) (k:Nat),(A'.length:Int)=(k:Int)/\Hx sp=some (HO.lst xs)/\k<=xs.length/\tyV K "list" (V.ref sp) (upd Hx sp (HO.lst (List.take k xs)))/\∃x,upd Hx sp (HO.lst (List.take k xs)) sp=some (HO.lst x)/\x.length<sizeLine/\Q V.non (upd (upd Hx sp (HO.lst (List.take k xs))) sp (HO.lst (x++[V.int (i:Nat)]))):=by
  intro es1 Hx h1 h2 h3 h4
  refine⟨_,A'.length,rfl,h3,hle,ZF Zb,_,Zb,by rw[etk];exact hb1,k1 _ (λb o n1 n2 z=>by rw[Zf n2,Zf n2];exact h1 b o n1 n2 z) (by rw[Zf hne,Zf hne,h2,h4]) (by rw[Zb,etk,esn])⟩
 -- elders[place]=spine[keep-1]
 have mid:∀(es1:List Int) (Hx:Hp),(∀b o,b≠el->b≠sp->H b=some o->Hx b=some o)->Hx el=some (.lst (es1.map V.int))->es1.length=es.length->Hx sp=some (.lst (Zr (A'++B)))->∀q,A'.getLast?=some q->es1.set i (q:Int)=Zg8 es A' B i ->
   ∃x,SqL K Hx sp x/\∃x_1,atI x ((A'.length:Int)-1)=some x_1/\∃x,Hx el=some (HO.lst x)/\∃x_2,ixN x.length (i:Int)=some x_2/\∃(xs:List V) (k:Nat),(A'.length:Int)=(k:Int)/\upd Hx el (HO.lst (x.set x_2 x_1)) sp=some (HO.lst xs)/\k<=xs.length/\tyV K "list" (V.ref sp) (upd (upd Hx el (HO.lst (x.set x_2 x_1))) sp (HO.lst (List.take k xs))) /\
    ∃x_3,upd (upd Hx el (HO.lst (x.set x_2 x_1))) sp (HO.lst (List.take k xs)) sp=some (HO.lst x_3)/\x_3.length<sizeLine/\Q V.non (upd (upd (upd Hx el (HO.lst (x.set x_2 x_1))) sp (HO.lst (List.take k xs))) sp (HO.lst (x_3++[V.int (i:Nat)]))):=by
  intro es1 Hx h1 h2 hl1 h3 q hq h4
  have hpos:0<A'.length:=by
   cases A' with
   |nil=>cases hq
   |cons _ _=>simp
  have hat:(A'++B)[A'.length-1]?=some q:=by
   rw[YT (by omega)]
   rw[List.getLast?_eq_getElem?]at hq;exact hq
  have ei:((A'.length:Int)-1)=((A'.length-1:Nat):Int):=by omega
  refine⟨_,SqL.of h3,_,by rw[ei];exact ZfQ hat,_,h2,i,by rw[Yf,hl1];exact Zl2 hi,?_⟩
  have em:(es1.map V.int).set i (V.int (q:Nat))=(es1.set i (q:Int)).map V.int:=by rw[List.map_set]
  rw[em]
  exact fin _ _ (λb o n1 n2 z=>by rw[Zf n1];exact h1 b o n1 n2 z) Zb (by rw[Zf hne.symm];exact h3) h4
 cases B with
 |nil =>
  rw[Yb (by simp)]
  cases hq:A'.getLast? with
  |none =>
   have:A'=[]:=List.getLast?_eq_none_iff.mp hq
   rw[Yb (by rw[this];simp)]
   exact fin es H (λb o _ _ z=>z) hel hsp (by unfold Zg8;rw[hq];rfl)
  |some q =>
   have:A'≠[]:=λz=>by rw[z]at hq;cases hq
   rw[Yd (by have:=List.length_pos_iff.mpr this;omega)]
   exact mid es H (λb o _ _ z=>z) hel rfl hsp q hq (by unfold Zg8;rw[hq];rfl)
 |cons b Br =>
  rw[Yd (by simp;omega)]
  have hat:(A'++b::Br)[A'.length]?=some b:=by rw[Y2 (Ye _)];simp
  have hbn:b<es.length:=hq b (by simp)
  refine⟨_,SqL.of hsp,_,ZfQ hat,_,_,rfl,hel,b,by rw[Yf];exact Zl2 hbn,?_⟩
  have em:(es.map V.int).set b (V.int (i:Nat))=(es.set b (i:Int)).map V.int:=by rw[List.map_set]
  rw[em]
  cases hq2:A'.getLast? with
  |none =>
   have:A'=[]:=List.getLast?_eq_none_iff.mp hq2
   rw[Yb (by rw[this];simp)]
   exact fin (es.set b i) _ (λc o n1 n2 z=>by rw[Zf n1];exact z) Zb (by rw[Zf hne.symm];exact hsp) (by unfold Zg8;rw[hq2];rfl)
  |some q =>
   have:A'≠[]:=λz=>by rw[z]at hq2;cases hq2
   rw[Yd (by have:=List.length_pos_iff.mpr this;omega)]
   exact mid (es.set b i) _ (λc o n1 n2 z=>by rw[Zf n1];exact z) Zb (by simp) (by rw[Zf hne.symm];exact hsp) q hq2 (by unfold Zg8;rw[hq2];rfl)
theorem ok_tree_of {f:Addr}{fd:FuncData} (F:Fun K "tree_of" "tree_of" s_tree_of f fd) (ZhT:Callee P w K mg base "settle" 1 ["elders","spine","place","keep"] (sp_settle K mg)) (T:Txt K mg):FnOk P w K mg base (CXE P w) 2 f fd ["row"] (sp_tree_of K mg):=by
 refine F.okX sc_tree_of (λvs H Q E h=>?_) (λcdv A outer s H vs Q E hr h=>?_)
 ·obtain⟨r,ns,rfl,_⟩:=h;rfl
 obtain⟨r,ns,rfl,hS,hn,k1⟩:=h
 refine⟨_,(Zd (Zq (i:=1) sc_tree_of.nd rfl (Or.inl rfl) (Zn Zjf (ZK (Za (ZfG ZdE Ze) Zc)) (Zk (Zl (K:=K) rfl) rfl T.b_len Yn (Za (pv 0) Zc))))
   (Zd (Zq (i:=2) sc_tree_of.nd rfl (Or.inl rfl) (ZK Zc))
   (Zd (Z2 (Zau PassesOwn.never rfl (ZaC rfl T.b_range (Za (Zk (Zl (K:=K) rfl) rfl T.b_len Yn (Za (pv 0) Zc)) Zc)) (Zo (i:=3) sc_tree_of.nd rfl (Or.inl rfl)) (Zd (Zq (i:=4) sc_tree_of.nd rfl (Or.inl rfl) (Zk (Zl (K:=K) rfl) rfl T.b_len Yn (Za (pv 2) Zc)))
   (Zd (Z2 (Zec PassesOwn.never (PW.pt (Zgd (Zt ZgL (pv 4) Ze (Zy _)) (ZeZ (Zt ZgL (Zah (ix_q (K:=K) rfl) (pv 0) (Zah ZP (pv 2) (Zn Zbj (pv 4) Ze) (λ_ _=>rfl)) (λ_ _=>rfl)) (Zah (ix_q (K:=K) rfl) (pv 0) (pv 3) (λ_ _=>rfl)) (Zy _))))) (Zg (ps_aug (i:=4) sc_tree_of.nd rfl (Or.inl rfl) Ze ip_sub))))
   (Zg (ZA (Zi ZhT (hr.mono (by decide)) rfl Zu (Za (pv 1) (Za (pv 2) (Za (pv 3) (Za (pv 4) Zc)))))))))))
   (Zg (ZC (Zdr (ZiI (K:=K) rfl) rfl T.b_tuple Zj5 (Za (pv 1) Zc))))))),?_⟩
 walk_at "rd"
 have eL:(ns.map V.int).length=ns.length:=Yf ..
 refine⟨by decide,λp hp=>⟨_,((Zh.refl H).upd hp).q hS,_,Zb,by omega,by rw[eL];omega,?_,λel hel=>⟨Yr _,λsp hsp=>?_⟩⟩⟩
 ·exact Yj (show _<=1000 by simp;omega) (by decide)
 have s0:Zh H (upd (upd (upd H p (.lst [V.int (-1)])) el (.lst (List.replicate (((ns.map V.int).length:Nat):Int).toNat [V.int (-1)]).flatten)) sp (.lst [])):=(((Zh.refl H).upd hp).ZaL hel).ZaL hsp
 refine⟨_,s0.q hS,by omega,by rw[eL];omega,?_⟩
 have en:(((ns.map V.int).length:Nat):Int).toNat=ns.length:=by rw[eL];omega
 have hel0:(upd (upd (upd H p (.lst [V.int (-1)])) el (.lst (List.replicate (((ns.map V.int).length:Nat):Int).toNat [V.int (-1)]).flatten)) sp (.lst [])) el=some (.lst ((List.replicate ns.length (-1:Int)).map V.int)):=by
  have:=((Zh.refl _).ZaL (o:=.lst []) hsp) el _ Zb
  rw[this,en];simp
 have hsp0:(upd (upd (upd H p (.lst [V.int (-1)])) el (.lst (List.replicate (((ns.map V.int).length:Nat):Int).toNat [V.int (-1)]).flatten)) sp (.lst [])) sp=some (.lst (Zr [])):=Zb
 have nes:el≠sp:=λz=>by
  subst z
  rw[Zb]at hsp;cases hsp
 have zel:H el=none:=((Zh.refl H).upd hp).free hel
 have zsp:H sp=none:=(((Zh.refl H).upd hp).ZaL hel).free hsp
 rw[en]at hel0 hsp0 s0⊢
 generalize (upd (upd (upd H p (.lst [V.int (-1)])) el (.lst (List.replicate ns.length [V.int (-1)]).flatten)) sp (.lst []))=H0 at s0 hel0 hsp0⊢
 refine ZbR (λi σ Hx=>∃(es:List Int) (S:List Nat) (v3 v4:Option V),σ=[some (.ref r),some (.ref el),some (.ref sp),v3,v4]/\Zh H Hx/\Hx el=some (.lst (es.map V.int))/\Hx sp=some (.lst (Zr S))/\es.length=ns.length/\ZoA (nth ns) i S/\(∀p e,p<i->e=es.getD p 0->ZaT (nth ns) i p e)/\∀p,i<=p->p<ns.length->es.getD p 0=-1)
  ⟨List.replicate ns.length (-1),[],none,none,rfl,s0,hel0,hsp0,by simp,⟨List.Pairwise.nil,λq=>by simp⟩,λp e hp=>by omega,λp _ hp=>by simp[Yw,hp]⟩ ?_ ?_
 ·rintro i σ Hx hi ⟨es,S,v3,v4,rfl,sx,hxe,hxs,hesl,hS2,hE,hE2⟩
  walk_at "rd"
  have hin:i<ns.length:=by omega
  have hSl:S.length<=1000:=by
   rcases ZoD S i 0 hS2.1 (λq hq=>⟨Yr _,((hS2.2 q).mp hq).1⟩)with z|z
   ·omega
   ·rw[z];simp
  refine⟨_,.inl (SqL.of hxs),?_⟩
  rw[ZS]
  refine Zjn S.length (λj σ Hy=>∃A B,S=A++B/\B.length=j/\(∀q∈B,nth ns i<nth ns q)/\σ=[some (.ref r),some (.ref el),some (.ref sp),some (.int (0+(i:Int))),some (.int (A.length:Nat))]/\Hy=Hx) ⟨S,[],by simp,rfl,(λq hq=>absurd hq (by simp)),rfl,rfl⟩ ?_
  rintro j σ Hy hj ⟨A,B,hAB,hBl,hBg,rfl,rfl⟩
  walk_at "rd"
  have hmem:∀q,q∈A++B->q<i:=λq hq=>((hS2.2 q).mp (by rw[hAB];exact hq)).1
  have hix:(0+(i:Int))=(i:Int):=by omega
  rw[hix]
  by_cases hA0:A=[]
  case' pos =>
   rw[Yb (by rw[hA0];simp)]
   have hA:∀q∈A,nth ns q<=nth ns i:=λq hq=>absurd hq (by rw[hA0];simp)
  case' neg =>
   obtain⟨q,Al,rfl⟩:∃q Al,A=Al++[q]:=⟨A.getLast hA0,A.dropLast,(List.dropLast_concat_getLast hA0).symm⟩
   have hal:(Al++[q]).length=Al.length+1:=by simp
   rw[Yd (by rw[hal];omega)]
   have eiA:(((Al++[q]).length:Nat):Int)-1=(Al.length:Int):=by rw[hal];omega
   have hat:S[Al.length]?=some q:=by
    rw[hAB,YZ,Y2 (Ye _)];simp
   have hqi:q<i:=hmem q (by simp)
   refine⟨_,SqL.of hxs,_,by rw[eiA];exact ZfQ hat,_,_,rfl,sx.q hS,_,ZhD (by omega),_,sx.q hS,_,ZhD hin,_,rfl,_,rfl,Z4 (λhlt=>?_) (λhge=>?_)⟩
   ·have hj2:j+1<=S.length:=by rw[hAB,YE,hal];omega
    refine⟨_,WI.next,hj2,Al,q::B,by rw[hAB];simp,by simp[hBl],λx hx=>?_,by rw[eiA],rfl⟩
    rcases Yk.mp hx with z|z
    ·rw[z];exact hlt
    ·exact hBg x z
   have hA:∀x∈Al++[q],nth ns x<=nth ns i:=λx hx=>by
    by_cases z:x=q
    ·rw[z];omega
    ·have hxa:x∈Al:=by
      rcases Yy.mp hx with y|y
      ·exact y
      ·exact absurd (by simpa using y) z
     have hpw:=hS2.1
     rw[hAB]at hpw
     have hxq:x<q:=(List.pairwise_append.mp (List.pairwise_append.mp hpw).1).2.2 x hxa q (by simp)
     have:=((hS2.2 x).mp (by rw[hAB];exact YM _ hx)).2 q hxq hqi
     omega
   generalize Al++[q]=A at hA hAB hmem hA0⊢
  all_goals
   have SS:=Zlh (f:=nth ns) (i:=i) (A:=A) (B:=B) (by rw[<-hAB];exact hS2) hA hBg
   refine⟨el,sp,es,A,B,i,rfl,hxe,by rw[<-hAB];exact hxs,nes,by omega,λq hq=>by have:=hmem q hq;omega,by rw[<-hAB];exact hSl,λH' q1 q2 q3=>?_⟩
   have hbi:∀b,B.head?=some b->b≠i:=λb hb=>by
    have:=hmem b (YC _ (List.mem_of_head? hb));omega
   refine⟨λb o z=>q1 b o (Zj z zel) (Zj z zsp) (sx b o z),Zg8 es A B i,q2,A++[i],q3,by rw[ZoC];exact hesl,SS.1,λp e hp he=>?_,λp hp1 hp2=>?_⟩
   ·rw[Zl1 _ _ _ _ _ (by omega) hbi]at he
    by_cases z:p=i
    ·subst z
     rw[Yd rfl,hE2 p (Ye _) (by omega)]at he
     rw[he];exact SS.2.1
    ·rw[Yb z]at he
     rw[he]
     exact SS.2.2 p _ (by omega) (hE p _ (by omega) rfl)
   ·rw[Zl1 _ _ _ _ _ (by omega) hbi,Yb (by omega),Yb (λz=>?_)]
    ·exact hE2 p (by omega) hp2
    ·have:=hmem p (YC _ (List.mem_of_head? z));omega
 ·rintro σ Hx ⟨es,S,v3,v4,rfl,sx,hxe,hxs,hesl,hS2,hE,hE2⟩
  walk_at "rd"
  exact⟨_,.inl ⟨SqL.of hxe,λt ht=>k1 t es _ ⟨hesl,λp hp=>hE p _ hp rfl⟩ (sx.ZaL ht) Zb⟩⟩
theorem ok_way_up {f:Addr}{fd:FuncData} (F:Fun K "way_up" "way_up" s_way_up f fd) (T:Txt K mg):FnOk P w K mg base (CXE P w) 1 f fd ["tree","place"] (sp_way_up K mg):=by
 refine F.okX sc_way_up (λvs H Q E h=>?_) (λcdv A outer s H vs Q E hr h=>?_)
 ·obtain⟨t,T,p,rfl,_⟩:=h;rfl
 obtain⟨t,T',p,rfl,ht,hn,hp,k1⟩:=h
 refine⟨_,(Zd (Zq (i:=2) sc_way_up.nd rfl (Or.inl rfl) (ZK Zc))
   (Zd (Zq (i:=3) sc_way_up.nd rfl (Or.inl rfl) (Zah ZhA (pv 0) (pv 1) (λ_ _=>rfl)))
   (Zd (Z2 (Zec PassesOwn.never (PW.pt (Zgd (Zoh Zog Ze8 Ze (pv 3) (Zk (Zl (K:=K) rfl) rfl T.b_len Yn (Za (pv 0) Zc))) (ZeZ (Zt Ze8 (Zk (Zl (K:=K) rfl) rfl T.b_len Yn (Za (pv 2) Zc)) (Zk (Zl (K:=K) rfl) rfl T.b_len Yn (Za (pv 0) Zc)) (Zy _))))) (Zd (ZA (Za0 PySem.F.plainAttrs_list PySem.F.slot_list_append PySem.F.type_list_append ZM (pv 2) (Za (pv 3) Zc)))
   (Zg (Zq (i:=3) sc_way_up.nd rfl (Or.inl rfl) (Zah ZhA (pv 0) (pv 3) (λ_ _=>rfl)))))))
   (Zg (ZC (pv 2)))))),?_⟩
 walk_at "rd"
 refine⟨Yr _,λl hl=>⟨_,SqT.of (((Zh.refl H).upd hl) _ _ ht),_,ZhD hp,?_⟩⟩
 refine Zjn T'.length (λj σ Hx=>Zh H Hx/\Hx l=some (.lst (Zr (Zbl T' j (nth T' p))))/\(Zbl T' j (nth T' p)).length=j/\σ=[some (.ref t),some (.int p),some (.ref l),some (.int (Za1 T' j (nth T' p)))]) ⟨(Zh.refl H).upd hl,Zb,rfl,rfl⟩ ?_
 rintro j σ Hx hj ⟨sx,hxl,hjl,rfl⟩
 walk_at "rd"
 have hlen:(Zr (Zbl T' j (nth T' p))).length=j:=by rw[ZS];exact hjl
 have eL:(T'.map V.int).length=T'.length:=Yf ..
 have done:(j=T'.length\/¬ (0<=Za1 T' j (nth T' p)/\Za1 T' j (nth T' p)<T'.length))->Q (.ref l) Hx:=λz=>by
  refine k1 l Hx hl sx ?_
  have:Zbl T' T'.length (nth T' p)=Zbl T' j (nth T' p):=by
   rcases z with z|z
   ·rw[<-z]
   ·exact ZiM T' j _ _ hj hjl z
  rw[hxl];unfold wayI;rw[this];simp[Zr]
 refine Z4 (λh0=>⟨_,.inr (SqT.of (sx _ _ ht)),Z4 (λh1=>⟨_,.inl (SqL.of hxl),_,.inr (SqT.of (sx _ _ ht)),Z4 (λh2=>?_) λh2=>done (.inl (by rw[hlen,eL]at h2;omega))⟩) λh1=>done (.inr (by rw[eL]at h1;omega))⟩) λh0=>done (.inr (by omega))
 rw[eL]at h1;rw[hlen,eL]at h2
 obtain⟨a1,a2⟩:=ZiL T' j (nth T' p) h0 h1 hjl
 have ei:Za1 T' j (nth T' p)=(((Za1 T' j (nth T' p)).toNat:Nat):Int):=by omega
 have nlt:t≠l:=Zj ht hl
 refine⟨_,WI.next,ZF hxl,_,hxl,by rw[hlen];exact Yv (show _<=1000 by omega) (by decide),_,SqT.of (by rw[Zf nlt];exact sx _ _ ht),_,(congrArg (atI _) ei).trans (ZhD (by omega)),by omega,sx.upd hl,?_,?_,?_⟩
 ·rw[Zb,a1,ZbT]
  have:Zr [(Za1 T' j (nth T' p)).toNat]=[V.int (Za1 T' j (nth T' p))]:=by rw[ei];simp[Zr]
  rw[this]
 ·rw[a1];simp[hjl]
 ·rw[a2]
theorem ok_fences_of {f:Addr}{fd:FuncData} (F:Fun K "fences_of" "fences_of" s_fences_of f fd) (ZhU:Callee P w K mg base "way_up" 1 ["tree","place"] (sp_way_up K mg)) (T:Txt K mg):FnOk P w K mg base (CXE P w) 2 f fd ["tree"] (sp_fences_of K mg):=by
 refine F.okX sc_fences_of (λvs H Q E h=>?_) (λcdv A outer s H vs Q E hr h=>?_)
 ·obtain⟨t,ns,T,rfl,_⟩:=h;rfl
 obtain⟨t,ns,T',rfl,ht,hT,hn,k1⟩:=h
 refine⟨_,(Zd (Zq (i:=1) sc_fences_of.nd rfl (Or.inl rfl) (ZK Zc))
   (Zd (Z2 (Zau PassesOwn.never rfl (ZaC rfl T.b_range (Za (Zk (Zl (K:=K) rfl) rfl T.b_len Yn (Za (pv 0) Zc)) Zc)) (Zo (i:=2) sc_fences_of.nd rfl (Or.inr rfl)) (Zd (Zq (i:=3) sc_fences_of.nd rfl (Or.inl rfl) (Zi ZhU (hr.mono (by decide)) rfl Zu (Za (pv 0) (Za (pv 2) Zc))))
   (Zd (Zq (i:=4) sc_fences_of.nd rfl (Or.inl rfl) (ZpT (K:=K) rfl rfl rfl T.b_max (Za (Zap ["elder","place"] [none,some 2] rfl rfl rfl (Zbz (pv 3)) (λ_ _ _ _ _=>(Zo (i:=0) (show(["elder","place"]:List Str).Nodup from by decide +kernel) rfl (Or.inl rfl))) (λ_ _ _ _ _=>ZhC (Zt Ze8 (pv 0) (pv 1) (Zy _))) (λ_ _ _ _ _=>(pv 0)) ZO) Zc) (ZlQ (ZfG ZdE Ze) Zom)))
   (Zd (Zq (i:=5) sc_fences_of.nd rfl (Or.inl rfl) (ZpU (K:=K) rfl rfl rfl T.b_min (Za (Zap ["elder","place"] [none,some 2] rfl rfl rfl (Zbz (pv 3)) (λ_ _ _ _ _=>(Zo (i:=0) (show(["elder","place"]:List Str).Nodup from by decide +kernel) rfl (Or.inl rfl))) (λ_ _ _ _ _=>ZhC (Zt ZgL (pv 0) (pv 1) (Zy _))) (λ_ _ _ _ _=>(pv 0)) ZO) Zc) (ZlQ (Zk (Zl (K:=K) rfl) rfl T.b_len Yn (Za (pv 0) Zc)) Zom)))
   (Zg (ZA (Za0 PySem.F.plainAttrs_list PySem.F.slot_list_append PySem.F.type_list_append ZM (pv 1) (Za (Zff (Za (pv 4) (Za (pv 5) Zc))) Zc)))))))))
   (Zg (ZC (pv 1))))),?_⟩
 walk_at "rd"
 have eT:T'.length=ns.length:=hT.1
 have eL:(T'.map V.int).length=T'.length:=Yf ..
 refine⟨Yr _,λp hp=>?_⟩
 have s0:Zh H (upd H p (.lst [])):=(Zh.refl H).upd hp
 refine⟨_,.inr (SqT.of (s0 _ _ ht)),by omega,by rw[eL];omega,?_⟩
 have en:(((T'.map V.int).length:Nat):Int).toNat=ns.length:=by rw[eL];omega
 rw[en]
 have h0:Zba (upd H p (.lst [])) p 0 (λp=>(Zei (nth ns) p,ZfS (nth ns) ns.length p)):=⟨[],Zb,rfl,λj q hq=>by simp at hq⟩
 generalize upd H p (.lst [])=H0 at s0 h0⊢
 refine ZbR (λi σ Hx=>∃v2 v3 v4 v5,σ=[some (.ref t),some (.ref p),v2,v3,v4,v5]/\Zba Hx p i (λp=>(Zei (nth ns) p,ZfS (nth ns) ns.length p))/\Zh H Hx) ⟨_,_,_,_,rfl,h0,s0⟩ ?_ ?_
 ·rintro i σ Hx hi ⟨v2,v3,v4,v5,rfl,hP,sx⟩
  have e0:((0:Int)+(i:Int))=(i:Int):=by omega
  rw[e0]
  have hpi:i<ns.length:=hi
  have hw1:(wayI T' i).length<=1000:=by simp only[wayI,Yf];exact Yj (Zkd _ _ _) (by omega)
  refine Zaw (fun σ Hy=>∃w:Addr,σ=[some (.ref t),some (.ref p),some (.int (i:Int)),some (.ref w),v4,v5]/\Hy w=some (.lst ((wayI T' i).map V.int))/\Zba Hy p i (λp=>(Zei (nth ns) p,ZfS (nth ns) ns.length p))/\Zh H Hy) (λR hR=>?_) ?_
  ·walk_at "rd"
   exact⟨t,T',i,rfl,sx _ _ ht,by omega,by omega,λw H1 hw s1 h1=>hR _ _ ⟨w,rfl,h1,hP.same s1,sx.trans s1⟩⟩
  rintro σ Hy ⟨w,rfl,hw,hP1,sy⟩
  refine Zaw (fun σ Hz=>σ=[some (.ref t),some (.ref p),some (.int (i:Int)),some (.ref w),some (.int (Zei (nth ns) i)),v5]/\Hz w=some (.lst ((wayI T' i).map V.int))/\Zba Hz p i (λp=>(Zei (nth ns) p,ZfS (nth ns) ns.length p))/\Zh H Hz) (λR hR=>?_) ?_
  ·walk_at "rd"
   refine⟨⟨_,SqL.of hw⟩,ZiO (λo=>decide (o<(i:Int))) hw hw1 (λx Hy R hR=>?_) λl H2 s2 hl=>?_⟩
   ·walk_at "rd"
    exact hR
   have FA:=ZoF hT hpi
   have g:=s2.ZaL (o:=.lst (((wayI T' i).filter λo=>decide (o<(i:Int))).map V.int)) hl
   refine⟨l,rfl,_,SqL.of Zb,λe=>?_,λhne m hm hmax=>?_⟩
   ·rw[<-FA.1 e]
    exact hR _ _ ⟨rfl,g _ _ hw,hP1.same g,sy.trans g⟩
   ·rw[FA.2 hne m hm hmax]
    exact hR _ _ ⟨rfl,g _ _ hw,hP1.same g,sy.trans g⟩
  clear hw hP1 sy Hy
  rintro σ Hy ⟨rfl,hw,hP1,sy⟩
  refine Zaw (fun σ Hz=>σ=[some (.ref t),some (.ref p),some (.int (i:Int)),some (.ref w),some (.int (Zei (nth ns) i)),some (.int (ZfS (nth ns) ns.length i))]/\Zba Hz p i (λp=>(Zei (nth ns) p,ZfS (nth ns) ns.length p))/\Zh H Hz) (λR hR=>?_) ?_
  ·walk_at "rd"
   refine⟨⟨_,SqL.of hw⟩,ZiO (λo=>decide ((i:Int)<o)) hw hw1 (λx Hy R hR=>?_) λl H2 s2 hl=>?_⟩
   ·walk_at "rd"
    exact hR
   have FB:=ZoG hT hpi
   have g:=s2.ZaL (o:=.lst (((wayI T' i).filter λo=>decide ((i:Int)<o)).map V.int)) hl
   refine⟨_,.inr (SqT.of ((sy.trans g) _ _ ht)),l,rfl,_,SqL.of Zb,λe=>?_,λhne m hm hmin=>?_⟩
   ·rw[eL,eT,<-FB.1 e]
    exact hR _ _ ⟨rfl,hP1.same g,sy.trans g⟩
   ·rw[FB.2 hne m hm hmin]
    exact hR _ _ ⟨rfl,hP1.same g,sy.trans g⟩
  clear hw hP1 sy Hy
  rintro σ Hy ⟨rfl,hP1,sy⟩
  walk_at "rd"
  obtain⟨qs,hq1,hq2,hq3⟩:=id hP1
  refine⟨ZF hq1,by decide,λq hq=>?_⟩
  have g:=(Zh.refl Hy).upd (o:=.tup [.int (Zei (nth ns) i),.int (ZfS (nth ns) ns.length i)]) hq
  obtain⟨xs,hx1,hx2,hx3⟩:=(hP1.same g).push (q:=q) Zb
  have zp:H p=none:=hp
  refine⟨xs,hx1,Yv (show _<=1000 by omega) (by decide),hx3,λb o z=>?_⟩
  rw[Zf (Zj z zp)]
  exact(sy.trans g) b o z
 ·rintro σ Hx ⟨v2,v3,v4,v5,rfl,hP,sx⟩
  walk_at "rd"
  exact k1 p Hx sx hP
theorem Zgr {f:Addr}{fd:FuncData} (F:Fun K "distance_list" "distance_list" Zaa f fd) (Zeo:Callee P w K mg base "fences_of" 2 ["tree"] (sp_fences_of K mg)) (T:Txt K mg):FnOk P w K mg base (CXE P w) 3 f fd ["tree"] (ZbY K mg):=by
 refine F.okX Zgp (λvs H Q E h=>?_) (λcdv A outer s H vs Q E hr h=>?_)
 ·obtain⟨t,ns,T,rfl,_⟩:=h;rfl
 obtain⟨t,ns,T',rfl,ht,hT,hn,k1⟩:=h
 refine⟨_,(Zg (ZC (Zap ["place","ahead","behind"] [none,none,none] rfl rfl rfl (Zc1 (K:=K) rfl rfl T.b_enumerate (Za (Zi Zeo (hr.mono (by decide)) rfl Zu (Za (pv 0) Zc)) Zc)) (λ_ _ _ _ _=>(Zhq (K:=K) (n:=2) rfl rfl (ZD (Zo (i:=0) (show(["place","ahead","behind"]:List Str).Nodup from by decide +kernel) rfl (Or.inl rfl)) (ZD (Zhq (K:=K) (n:=2) rfl rfl (ZD (Zo (i:=1) (show(["place","ahead","behind"]:List Str).Nodup from by decide +kernel) rfl (Or.inl rfl)) (ZD (Zo (i:=2) (show(["place","ahead","behind"]:List Str).Nodup from by decide +kernel) rfl (Or.inl rfl)) Za8))) Za8)))) (λ_ _ _ _ _=>Za6) (λ_ _ _ _ _=>(Zhv (Zt op_ge (pv 1) Ze (Zy _)) (Zn Zbj (pv 0) (pv 1)) Ze)) (ZfI (Zbq ZO (Zbq (ZfI (Zbq ZO (Zbq ZO ZfH))) ZfH)))))),?_⟩
 walk_at "rd"
 refine⟨t,ns,T',rfl,ht,hT,hn,λl H1 s1 hP=>?_⟩
 obtain⟨qs,h1,h2,h3⟩:=hP
 refine⟨l,rfl,_,SqL.of h1,comp_map (n:=ns.length) (λq=>V.int (Zx (nth ns) q)) (Yv (show _<=1000 by omega) (by decide)) (λj Hx s hj=>⟨_,_,SqL.of (s _ _ h1),Yg (by simpa[h2]using hj)⟩) (λHx s=>⟨_,SqL.of (s _ _ h1),by simp[h2]⟩) ?_ ?_⟩
 ·rintro j x Hx Hy hj s ⟨p,x,hp,rfl,rfl,hx⟩
  have hx1:=hx _ (SqL.of (s _ _ h1))
  obtain⟨q,hq⟩:∃q,qs[j]?=some q:=⟨qs[j]'(by omega),Yg (by omega)⟩
  rw[Yp,hq]at hx1
  cases hx1
  have hq1:=s _ _ (h3 j q hq)
  have hq2:=((Zh.refl Hx).upd (o:=.tup [.int (j:Int),.ref q]) hp) _ _ hq1
  walk_at "rd"
  refine⟨_,SqT.of Zb,rfl,_,_,rfl,_,_,rfl,_,rfl,_,SqT.of hq2,rfl,_,_,rfl,_,_,rfl,rfl,rfl,_,rfl,Z4 (λz=>⟨_,rfl,_,rfl,CW.next hj ?_ (s.ZaL hp)⟩) λz=>CW.next hj ?_ (s.ZaL hp)⟩
  ·unfold Zx;rw[Yd z]
  ·unfold Zx;rw[Yb z]
 ·intro l' Hx s hl'
  have ed:(List.range ns.length).map (λq=>V.int (Zx (nth ns) q))=(ZJ ns).map V.int:=by simp[ZJ]
  rw[ed]
  exact k1 l' _ ((s1.trans s).free hl') ((s1.trans s).ZaL hl') Zb
theorem Zgs {f:Addr}{fd:FuncData} (F:Fun K "row_distances" "row_distances" Zab f fd) (Zgv:Callee P w K mg base "tree_of" 2 ["row"] (sp_tree_of K mg)) (Zcl:Callee P w K mg base "distance_list" 3 ["tree"] (ZbY K mg)) (T:Txt K mg):FnOk P w K mg base (CXE P w) 4 f fd ["row"] (ZX K mg):=by
 refine F.okX Zgq (λvs H Q E h=>?_) (λcdv A outer s H vs Q E hr h=>?_)
 ·obtain⟨r,ns,rfl,_⟩:=h;rfl
 obtain⟨r,ns,rfl,hS,hn,k1⟩:=h
 refine⟨_,(Zg (ZC (Zi Zcl (hr.mono (by decide)) rfl Zu (Za (Zi Zgv (hr.mono (by decide)) rfl Zu (Za (pv 0) Zc)) Zc)))),?_⟩
 walk_at "rd"
 exact⟨r,ns,rfl,hS,hn,λt es H1 hT s1 ht=>⟨t,ns,es,rfl,ht,hT,hn,λl H2 zl s2 hl=>k1 l _ (s1.free zl) (s1.trans s2) hl⟩⟩
theorem ZhP {f:Addr}{fd:FuncData} (F:Fun K "seen_within" "seen_within" ZaD f fd) (T:Txt K mg):FnOk P w K mg base (CXE P w) 1 f fd ["distance","size"] (ZbB K mg):=by
 refine F.okX ZhO (λvs H Q E h=>?_) (λcdv A outer s H vs Q E hr h=>?_)
 ·obtain⟨d,k,rfl,_⟩:=h;rfl
 obtain⟨d,k,rfl,k1⟩:=h
 refine⟨_,(Zg (ZC (Zhv (Zt Zog (pv 0) (pv 1) (Zy _)) (pv 0) Ze))),?_⟩
 walk_at "rd"
 unfold sw at k1
 by_cases h:d<=k
 ·rw[Yd h]at k1⊢;exact k1
 ·rw[Yb h]at k1⊢;exact k1
theorem Zm2 {f:Addr}{fd:FuncData} (F:Fun K "follow" "follow" Zdv f fd) (ZaG:Callee P w K mg base "seen_within" 1 ["distance","size"] (ZbB K mg)) (T:Txt K mg):FnOk P w K mg base (CXE P w) 2 f fd ["told","borders","size","distance"] (Zdw K mg):=by
 refine F.okX ZiV (λvs H Q E h=>?_) (λcdv A outer s H vs Q E hr h=>?_)
 ·obtain⟨l,b,ns,bs,s,d,rfl,_⟩:=h;rfl
 obtain⟨l,b,ns,bs,s0,d,rfl,hl,hb,hB,hn,hn0,hs,hbn,hd,k1⟩:=h
 refine⟨_,(Zd (Z2 (Zec PassesOwn.never (PW.pt (ZlL (Zt ZdY (pv 2) (Zk (Zl (K:=K) rfl) rfl T.b_len Yn (Za (pv 0) Zc)) (Zy _)) (Zi4 (Zt op_ne (Zah ZP (pv 0) (pv 2) (λ_ _=>rfl)) (Zi ZaG (hr.mono (by decide)) rfl Zu (Za (pv 3) (Za (pv 2) Zc))) (Zy _))))) (Zg (Zq (i:=2) ZiV.nd rfl (Or.inl rfl) (Zah ZP (pv 1) (Zn Zbj (pv 2) Ze) (λ_ _=>rfl))))))
   (Zg (ZC (Zn ZV (pv 2) Ze)))),?_⟩
 walk_at "rd"
 have eD:((ZJ ns).map V.int).length=ns.length:=by rw[Yf,Z5]
 refine Zl0 (λm σ Hx=>m<=s0/\Walk (nth ns) ns.length s0 d m/\Hx=H/\σ=[some (.ref l),some (.ref b),some (.int (m:Int)),some (.int d)]) s0 ⟨Ye _,Walk.start _ _ _ _,rfl,rfl⟩ ?_
 rintro m σ Hx ⟨hm,hW,rfl,rfl⟩
 walk_at "rd"
 have pos:¬ (m<ns.length/\Zx (nth ns) m=sw d m)->0<m:=λno=>by
  cases m with
  |zero=>exact absurd ⟨hn0,by rw[Zjq,ZpW d hd]⟩ no
  |succ m=>omega
 have stp:∀no:¬ (m<ns.length/\Zx (nth ns) m=sw d m),∃x,SqL K Hx b x/\∃x_1,atI x ((m:Int)-1)=some x_1/\∃m',m'<m/\m'<=s0/\Walk (nth ns) ns.length s0 d m'/\Hx=Hx/\[some (V.ref l),some (V.ref b),some x_1,some (V.int d)]=[some (V.ref l),some (V.ref b),some (V.int (m':Int)),some (V.int d)]:=λno=>by
  have hp:=pos no
  have hB1:=hB (m-1) (by omega)
  rw[show m-1+1=m by omega]at hB1
  have em:((m:Int)-1)=((m-1:Nat):Int):=by omega
  have:=hB1.1
  refine⟨_,SqL.of hb,V.int ((bs.getD (m-1) 0:Nat):Int),?_,_,hB1.1,by omega,hW.step no hB1,rfl,rfl⟩
  rw[em]
  refine ZfQ ?_
  simp[Yw,show m-1<bs.length by omega]
 refine⟨_,.inl (SqL.of hl),Z4 (λz=>?_) λz=>?_⟩
 ·obtain⟨x,h1,y,h2,h3⟩:=stp (by rw[eD]at z;omega)
  exact⟨_,fun σ' H' z=>z,x,h1,y,h2,h3⟩
 ·rw[eD]at z
  refine⟨_,SqL.of hl,_,ZhD (by rw[Z5];omega),d,m,rfl,?_⟩
  rw[Zgn (by omega)]
  refine⟨rfl,Z4 (λy=>?_) λy=>?_⟩
  ·obtain⟨x,h1,y,h2,h3⟩:=stp (λh=>y (by rw[h.2]))
   exact⟨_,fun σ' H' z=>z,x,h1,y,h2,h3⟩
  ·have yy:V.int (Zx (nth ns) m)=V.int (sw d m):=Classical.not_not.mp y
   injection yy with yy
   have:=k1 m (hW.goes ⟨by omega,yy⟩)
   rw[show((m:Int)+1)=((m+1:Nat):Int) by omega];exact this
theorem Zin {f:Addr}{fd:FuncData} (F:Fun K "borders_by" "borders_by" ZaV f fd) (ZbE:Callee P w K mg base "follow" 2 ["told","borders","size","distance"] (Zdw K mg)) (T:Txt K mg):FnOk P w K mg base (CXE P w) 3 f fd ["told"] (Za7 K mg):=by
 refine F.okX Zdi (λvs H Q E h=>?_) (λcdv A outer s H vs Q E hr h=>?_)
 ·obtain⟨l,ns,rfl,_⟩:=h;rfl
 obtain⟨l,ns,rfl,hl,hn,k1⟩:=h
 refine⟨_,(Zd (Zq (i:=1) Zdi.nd rfl (Or.inl rfl) (Zhv (ZjU (pv 0) (λ_=>rfl)) (ZK (Za Ze Zc)) (ZK Zc)))
   (Zd (Z2 (Zau PassesOwn.never rfl (Zbz (ZaB Za9 (pv 0) (Zam Ze) ZcZ)) (Zo (i:=2) Zdi.nd rfl (Or.inl rfl)) (Zg (ZA (Za0 PySem.F.plainAttrs_list PySem.F.slot_list_append PySem.F.type_list_append ZM (pv 1) (Za (Zi ZbE (hr.mono (by decide)) rfl Zu (Za (pv 0) (Za (pv 1) (Za (Zah ZP (pv 1) (ZfG ZdE Ze) (λ_ _=>rfl)) (Za (pv 2) Zc))))) Zc))))))
   (Zg (ZC (pv 1))))),?_⟩
 walk_at "rd"
 have eD:((ZJ ns).map V.int).length=ns.length:=by rw[Yf,Z5]
 have e1:ZcD ((ZJ ns).map V.int) (some 1) none=((ZJ ns).drop 1).map V.int:=by
  have:=ZmD ((ZJ ns).map V.int) 1
  rw[show((1:Nat):Int)=1 from rfl]at this
  rw[this,List.map_drop]
 by_cases hn0:ns.length=0
 ·have en:ZJ ns=[]:=List.length_eq_zero_iff.mp (by rw[Z5];exact hn0)
  refine⟨false,.inl ⟨_,SqL.of hl,by rw[en];rfl⟩,iteF ⟨Yr _,λp hp=>⟨_,SqL.of (((Zh.refl H).upd hp) _ _ hl),λq hq=>⟨⟨_,SqL.of Zb⟩,?_⟩⟩⟩⟩
  have g:Zh (upd H p (.lst [])) (upd (upd H p (.lst [])) q (.lst (ZcD ((ZJ ns).map V.int) (some 1) none))):=(Zh.refl _).upd hq
  refine Zee (K:=K) (a:=q) (xs:=[]) (λi σ Hx=>σ=[some (.ref l),some (.ref p),none]/\Hx=upd (upd H p (.lst [])) q (.lst (ZcD ((ZJ ns).map V.int) (some 1) none))) ⟨rfl,rfl⟩ (λi σ Hx _ ⟨_,e⟩=>by rw[e];exact SqL.of (by rw[Zb,e1,en];rfl)) (λi x σ Hx hx=>absurd hx (by simp)) ?_
  rintro σ Hx ⟨rfl,rfl⟩
  walk_at "rd"
  exact k1 p [] _ hp (by simp[hn0]) (λk hk=>absurd hk (by simp)) (((Zh.refl H).upd hp).trans g) (g _ _ Zb)
 ·refine⟨true,.inl ⟨_,SqL.of hl,?_⟩,iteT ⟨by decide,λp hp=>⟨_,SqL.of (((Zh.refl H).upd hp) _ _ hl),λq hq=>⟨⟨_,SqL.of Zb⟩,?_⟩⟩⟩⟩
  ·cases e:(ZJ ns).map V.int with
   |nil=>rw[e]at eD;exact absurd eD.symm hn0
   |cons _ _=>rfl
  have g:Zh (upd H p (.lst [V.int 0])) (upd (upd H p (.lst [V.int 0])) q (.lst (ZcD ((ZJ ns).map V.int) (some 1) none))):=(Zh.refl _).upd hq
  have nqp:q≠p:=λz=>by rw[z,Zb]at hq;cases hq
  have hq0:(upd (upd H p (.lst [V.int 0])) q (.lst (ZcD ((ZJ ns).map V.int) (some 1) none))) q=some (.lst (((ZJ ns).drop 1).map V.int)):=by rw[Zb,e1]
  refine Zee (K:=K) (a:=q) (xs:=((ZJ ns).drop 1).map V.int) (λi σ Hx=>∃(bs:List Nat) (v2:Option V),σ=[some (.ref l),some (.ref p),v2]/\bs.length=i+1/\Zby (nth ns) bs/\Zh H Hx/\Hx p=some (.lst (Zr bs))/\Hx q=some (.lst (((ZJ ns).drop 1).map V.int))) ⟨[0],none,rfl,rfl,λk hk=>?_,((Zh.refl H).upd hp).trans g,g _ _ Zb,hq0⟩ (λi σ Hx _ ⟨_,_,_,_,_,_,_,h⟩=>SqL.of h) ?_ ?_
  ·have:k=0:=by simp at hk;exact hk
   subst this
   exact Zll _
  ·rintro i x σ Hx hi ⟨bs,v2,rfl,hlen,hB,sx,hxp,hxq⟩
   have hi':i+1<ns.length:=by
    have:=(Yu.mp hi).1
    rw[Yf,YY,Z5]at this;omega
   have ex:x=V.int (Zx (nth ns) (i+1)):=by
    rw[Yp,List.getElem?_drop]at hi
    have:(ZJ ns)[1+i]?=some (Zx (nth ns) (i+1)):=by
     rw[show 1+i=i+1 by omega]
     simp[ZJ,hi']
    rw[this]at hi
    exact(Yq hi).symm
   subst ex
   walk_at "rd"
   have hBi:=hB i (by omega)
   have:=hBi.1
   refine⟨ZF hxp,_,SqL.of hxp,_,Zfn hlen,l,p,ns,bs,bs.getD i 0,Zx (nth ns) (i+1),rfl,sx _ _ hl,hxp,hB,hn,by omega,by omega,by omega,(ZaU _ _).1,λm hG=>⟨_,hxp,Yv (show _<=1000 by rw[ZS];omega) (by decide),bs++[m+1],by simp[hlen],λk hk=>?_,sx.upd hp,by rw[Zb,ZbT];rfl,by rw[Zf nqp];exact hxq⟩⟩
   by_cases e:k=i+1
   ·subst e
    have:(bs++[m+1]).getD (i+1) 0=m+1:=by rw[<-hlen];simp[Yw]
    rw[this]
    exact Zki hi' hBi hG
   ·have hk':k<bs.length:=by simp at hk;omega
    have:(bs++[m+1]).getD k 0=bs.getD k 0:=by
     simp only[Yw]
     rw[YT hk']
    rw[this];exact hB k hk'
  ·rintro σ Hx ⟨bs,v2,rfl,hlen,hB,sx,hxp,hxq⟩
   walk_at "rd"
   exact k1 p bs _ hp (by rw[hlen,Yf,YY,Z5];omega) hB sx hxp
theorem Zio {f:Addr}{fd:FuncData} (F:Fun K "borders_of" "borders_of" ZaW f fd) (Zs:Callee P w K mg base "row_distances" 4 ["row"] (ZX K mg)) (Z3:Callee P w K mg base "borders_by" 3 ["told"] (Za7 K mg)) (T:Txt K mg):FnOk P w K mg base (CXE P w) 5 f fd ["row"] (Zdg K mg):=by
 refine F.okX Zim (λvs H Q E h=>?_) (λcdv A outer s H vs Q E hr h=>?_)
 ·obtain⟨r,ns,rfl,_⟩:=h;rfl
 obtain⟨r,ns,rfl,hS,hn,k1⟩:=h
 refine⟨_,(Zg (ZC (Zi Z3 (hr.mono (by decide)) rfl Zu (Za (Zi Zs (hr.mono (by decide)) rfl Zu (Za (pv 0) Zc)) Zc)))),?_⟩
 walk_at "rd"
 exact⟨r,ns,rfl,hS,hn,λl H1 _ s1 hl=>⟨l,ns,rfl,hl,hn,λb bs H2 zb hb hB s2 h2=>k1 b bs _ (s1.free zb) hb hB (s1.trans s2) h2⟩⟩
theorem Zd0 {f:Addr}{fd:FuncData}{dV:Value} (F:FunD K "need_numbers" "need_numbers" Zaq f fd dV) (T:Txt K mg):FnOk P w K mg base (CXE P w) 1 f fd ["row","fewest"] (Zad K mg):=by
 refine F.okX Zg9 (λvs H Q E h=>?_) (λcdv A outer s H vs Q E hr h=>?_)
 ·obtain⟨r,ns,k,rfl,_⟩:=h;rfl
 obtain⟨r,ns,k,rfl,hS,hn,h0,h1,k1,k2⟩:=h
 refine⟨_,(Zg (Zag (Zt Ze8 (Zk (Zl (K:=K) rfl) rfl T.b_len Yn (Za (pv 0) Zc)) (pv 1) (Zy _)) (Zg (ZfJ rfl rfl T.c_Empty T.x_Empty (Za (ZiF (ZfK (by decide) (Zlc (Zk (Zl (K:=K) rfl) rfl T.b_len Yn (Za (pv 0) Zc)) (ZfK (by decide) (Zlc (pv 1) (ZfK (by decide) Zov)))))) Zc) Zhp)) ZW)),?_⟩
 walk_at "rd"
 have eN:(ns.map V.int).length=ns.length:=Yf ..
 exact⟨_,hS,Z4 (λz=>⟨_,hS,by omega,by rw[eN];omega,h0,by omega,λy=>⟨by decide,k2 (by rw[eN]at z;exact z)⟩⟩) λz=>k1 (by rw[eN]at z;omega)⟩
theorem ZjA {f:Addr}{fd:FuncData} (F:Fun K "starts_of" "starts_of" Zbr f fd) (ZI:ZfV P w K mg base "need_numbers" 1 ["row","fewest"] [V.int 1] (Zad K mg)) (Zs:Callee P w K mg base "row_distances" 4 ["row"] (ZX K mg)) (ZbE:Callee P w K mg base "follow" 2 ["told","borders","size","distance"] (Zdw K mg)) (Z3:Callee P w K mg base "borders_by" 3 ["told"] (Za7 K mg)) (T:Txt K mg):FnOk P w K mg base (CXE P w) 5 f fd ["row","text"] (ZaY K mg):=by
 refine F.okX Zak (λvs H Q E h=>?_) (λcdv A outer s H vs Q E hr h=>?_)
 ·obtain⟨r,t,ns,ms,rfl,_⟩:=h;rfl
 obtain⟨r,t,ns,ms,rfl,hS,hS2,hn,hm,k1,k2⟩:=h
 refine⟨_,(Zd (ZA (Ze0 ZI (hr.mono (by decide)) rfl Zb5 (Za (pv 0) Zc)))
   (Zd (Zq (i:=2) Zak.nd rfl (Or.inl rfl) (Zi Zs (hr.mono (by decide)) rfl Zu (Za (pv 0) Zc)))
   (Zd (Zq (i:=3) Zak.nd rfl (Or.inl rfl) (Zi Z3 (hr.mono (by decide)) rfl Zu (Za (pv 2) Zc)))
   (Zd (Zq (i:=4) Zak.nd rfl (Or.inl rfl) (ZK Zc))
   (Zd (Zq (i:=5) Zak.nd rfl (Or.inl rfl) Ze)
   (Zd (Z2 (Zau PassesOwn.never rfl (Zc1 (K:=K) rfl rfl T.b_enumerate (Za (Zi Zs (hr.mono (by decide)) rfl Zu (Za (pv 1) Zc)) Zc)) (ZdC (n:=2) rfl (ZD (Zo (i:=6) Zak.nd rfl (Or.inl rfl)) (ZD (Zo (i:=7) Zak.nd rfl (Or.inl rfl)) Za8))) (Zd (Zq (i:=5) Zak.nd rfl (Or.inl rfl) (Zi ZbE (hr.mono (by decide)) rfl Zu (Za (pv 2) (Za (pv 3) (Za (pv 5) (Za (pv 7) Zc))))))
   (Zg (Zag (Zt ZdY (pv 5) (Zk (Zl (K:=K) rfl) rfl T.b_len Yn (Za (pv 2) Zc)) (Zy _)) (Zg (ZA (Za0 PySem.F.plainAttrs_list PySem.F.slot_list_append PySem.F.type_list_append ZM (pv 4) (Za (Zn ZV (Zn Zbj (pv 6) (pv 5)) Ze) Zc)))) ZW)))))
   (Zg (ZC (pv 4))))))))),?_⟩
 walk_at "rd"
 refine⟨r,ns,1,rfl,hS,hn,by decide,by decide,λh1=>?_,λh1=>k1 (by omega)⟩
 have hn0:0<ns.length:=by omega
 refine⟨r,ns,rfl,hS,hn,λl H1 _ s1 hl=>⟨l,ns,rfl,hl,hn,λb bs H2 zb hb hB s2 hb2=>⟨Yr _,λp hp=>⟨t,ms,rfl,((s1.trans s2).ZaL hp).q hS2,hm,λa H3 _ s3 ha=>⟨a,rfl,_,SqL.of ha,?_⟩⟩⟩⟩⟩
 have zp:H p=none:=(s1.trans s2).free hp
 have nlp:l≠p:=λz=>by rw[<-z,s2 _ _ hl]at hp;cases hp
 have nbp:b≠p:=λz=>by rw[<-z,hb2]at hp;cases hp
 have hp3:=s3 _ _ Zb
 have s03:Zh H H3:=((s1.trans s2).ZaL hp).trans s3
 have hl3:=s3 _ _ (((Zh.refl H2).upd hp) _ _ (s2 _ _ hl))
 have hb3:=s3 _ _ (((Zh.refl H2).upd hp) _ _ hb2)
 have eD:((ZJ ms).map V.int).length=ms.length:=by rw[Yf,Z5]
 refine Zfm (n:=ms.length) (λi σ Hx=>∃(s:Nat) (v6 v7:Option V),σ=[some (.ref r),some (.ref t),some (.ref l),some (.ref b),some (.ref p),some (.int (s:Int)),v6,v7]/\Zbm (nth ns) (nth ms) ns.length i s/\Hx p=some (.lst (Zr (Zv (nth ns) (nth ms) ns.length i)))/\Hx l=some (.lst ((ZJ ns).map V.int))/\Hx b=some (.lst (Zr bs))/\Hx a=some (.lst ((ZJ ms).map V.int))/\Zh H Hx) ⟨0,none,none,rfl,ZiQ _ _ _,?_,hl3,hb3,ha,s03⟩ (λi σ Hx hi ⟨_,_,_,_,_,_,_,_,hxa,sx⟩=>⟨_,_,SqL.of hxa,Yg (by rw[eD];exact hi)⟩) (fun σ Hx ⟨_,_,_,_,_,_,_,_,hxa,sx⟩=>⟨_,SqL.of hxa,by rw[eD]⟩) ?_ ?_
 ·rw[hp3]
  have:Zv (nth ns) (nth ms) ns.length 0=[]:=by
   unfold Zv
   rw[show 0+1-ns.length=0 by omega];rfl
  rw[this];rfl
 ·rintro i x σ Hx Hx' hi ⟨s,v6,v7,rfl,hL,hxp,hxl,hxb,hxa,sx⟩ ⟨q,x,hq,rfl,rfl,hx⟩
  have ex:=hx _ (SqL.of hxa)
  have lD:i<(ZJ ms).length:=by rw[Z5];exact hi
  rw[Yp,Yg lD]at ex
  cases ex
  have eg:(ZJ ms)[i]=Zx (nth ms) i:=by rw[<-Zgn hi];simp[nth,Yw,lD]
  rw[eg]
  have g:=(Zh.refl Hx).upd (o:=.tup [.int (i:Int),.int (Zx (nth ms) i)]) hq
  have tq:(upd Hx q (.tup [.int (i:Int),.int (Zx (nth ms) i)])) q=some (.tup [.int (i:Int),.int (Zx (nth ms) i)]):=Zb
  replace sx:=sx.trans g
  replace hxl:=g _ _ hxl
  replace hxb:=g _ _ hxb
  replace hxa:=g _ _ hxa
  replace hxp:=g _ _ hxp
  generalize upd Hx q (.tup [.int (i:Int),.int (Zx (nth ms) i)])=Hy at sx hxl hxb hxa hxp tq⊢
  clear g hx hq Hx
  have nap:a≠p:=λz=>by
   rw[<-z,ha]at hp3
   have:=congrArg List.length (HO.lst.inj (Yq hp3))
   rw[eD]at this
   rw[this]at hi
   exact absurd hi (Nat.not_lt_zero _)
  have hLn:=hL.1
  have eN:((ZJ ns).map V.int).length=ns.length:=by rw[Yf,Z5]
  have hst:=ZdJ (nth ns) (nth ms) ns.length i
  refine⟨q,_,rfl,SqT.of tq,rfl,_,_,rfl,_,_,rfl,rfl,?_⟩
  walk_at "rd"
  refine⟨l,b,ns,bs,s,Zx (nth ms) i,rfl,hxl,hxb,hB,hn,hn0,by omega,by omega,(ZaU _ _).1,λm hG=>⟨_,.inl (SqL.of hxl),?_⟩⟩
  have hL2:=ZiP hL hG
  have hss:=Zdf (nth ns) (nth ms) (p:=i) hn0
  rw[eN]
  by_cases e:m+1=ns.length
  ·refine⟨rfl,Z4 (λ_=>?_) λz=>absurd (by rw[e]) z⟩
   refine⟨ZF hxp,_,rfl,_,hxp,Yv (show _<=2000 by rw[ZS];omega) (by decide),m+1,rfl,hL2,?_,?_,?_,?_,sx.upd zp⟩
   ·have h2:=hL2.2.1
    rw[Zb,hss.1 (by omega) (by rw[<-e];exact hL2.2.2.1),ZbT]
    have:((i:Int)-((m+1:Nat):Int)+1)=((i+1-ns.length:Nat):Int):=by omega
    rw[this];rfl
   ·rw[Zf nlp];exact hxl
   ·rw[Zf nbp];exact hxb
   ·rw[Zf nap];exact hxa
  ·have h1:=hL2.1
   refine⟨rfl,Z4 (λz=>absurd (by injection z with z;omega) e) λ_=>?_⟩
   refine⟨m+1,rfl,hL2,?_,hxl,hxb,hxa,sx⟩
   rw[hss.2 (λy=>hL2.2.2.2 ns.length (by omega) (Ye _) y.1 y.2)];exact hxp
 ·rintro σ Hx ⟨s,v6,v7,rfl,hL,hxp,hxl,hxb,hxa,sx⟩
  walk_at "rd"
  exact k2 hn0 p Hx zp sx hxp
open Classical in
theorem Zfu {f g:Nat->Int}{p:Nat} (h:∀q,q<=p->g q=f q):Zx g p=Zx f p:=by
 have:=ZgN (f:=f) (g:=g) (x:=0) (i:=p) λk hk=>by rw[Nat.zero_add];exact h k hk
 rwa [Nat.zero_add,Zl5]at this
theorem Zgt {f g g':Nat->Int}{n p m:Nat} (h:∀q,q<p->g' q=g q) (hl:Zbm f g n p m):Zbm f g' n p m:=by
 have key:∀j,j<=p->(Mt f g' j p↔Mt f g j p):=λj hj=>by
  have e:∀i,i<j->Zx g' (p-j+i)=Zx g (p-j+i):=λi hi=>Zfu λq hq=>h q (by omega)
  constructor
  ·intro H i hi;rw[<-e i hi];exact H i hi
  ·intro H i hi;rw[e i hi];exact H i hi
 obtain⟨a,b,c,d⟩:=hl
 exact⟨a,b,(key m b).mpr c,λj h1 h2 h3 h4=>d j h1 h2 h3 ((key j h3).mp h4)⟩
noncomputable def Zc0 (q:Addr) (H:Hp) (p:Addr) (Rs:List (List Int)):Prop:=Zdx (λa=>a≠p/\a≠q) H q Rs
theorem Zc0.exc {q p:Addr}{H H':Hp}{Rs:List (List Int)} (h:Zc0 q H p Rs) (n:q≠p) (e:Exc p H H'):Zc0 q H' p Rs:=by
 obtain⟨as,h1,h2,h3⟩:=h
 exact⟨as,e _ _ n h1,h2,λi i1 i2=>⟨(h3 i i1 i2).1,e _ _ (h3 i i1 i2).1.1 (h3 i i1 i2).2⟩⟩
theorem Zc0.push {q p r:Addr}{H:Hp}{Rs:List (List Int)}{R:List Int}{xs:List V} (h:Zc0 q H p Rs) (hx:H q=some (.lst xs)) (hr:H r=some (.lst (R.map V.int))) (n:r≠p/\r≠q):Zc0 q (upd H q (.lst (xs++[V.ref r]))) p (Rs++[R]):=by
 obtain⟨as,h1,h2,h3⟩:=h
 have ex:xs=as.map V.ref:=by rw[h1]at hx;cases hx;rfl
 subst ex
 refine⟨as++[r],by rw[Zb];simp,by simp[h2],λi i1 i2=>?_⟩
 by_cases hi:i<as.length
 ·rw[YK hi,YK (show i<Rs.length by omega)]
  exact⟨(h3 i hi (by omega)).1,by rw[Zf (h3 i hi (by omega)).1.2];exact(h3 i hi (by omega)).2⟩
 ·have hi':i=as.length:=by simp at i1;omega
  subst hi'
  have e1:(as++[r])[as.length]'i1=r:=by simp
  have e2:(Rs++[R])[as.length]'i2=R:=by simp[h2]
  rw[e1,e2]
  exact⟨n,by rw[Zf n.2];exact hr⟩
theorem ZQ.same {N:Addr->Prop}{mg:Str->Option Value}{H H':Hp}{x d b g z:Addr}{Rs:List (List Int)}{gs:List Int}{S:List Nat} (h:ZQ N mg H x d b g z Rs gs S) (s:Zh H H'):ZQ N mg H' x d b g z Rs gs S:=by
 obtain⟨dx5,da5,ba5,za5,zl5,y1,y2,y3,y4,y5,y6,y7,y8,y9,y10,y11⟩:=h
 refine⟨dx5,da5,ba5,za5,zl5,s _ _ y1,s _ _ y2,s _ _ y3,⟨y4.1,y4.2.1,λi h1 h2 h3=>?_⟩,s _ _ y5,s _ _ y6,y7,s _ _ y8,y9,y10,λj hj=>(y11 j hj).elim λS0 ⟨c1,c2,c3⟩=>⟨S0,c1,s _ _ c2,c3⟩⟩
 obtain⟨a,b,c,L,l1,l2,l3⟩:=y4.2.2 i h1 h2 h3
 exact⟨a,b,s _ _ c,L,l1,l2,s _ _ l3⟩
theorem ZQ.longs {N:Addr->Prop}{mg:Str->Option Value}{H:Hp}{x d b g z:Addr}{Rs:List (List Int)}{gs:List Int}{S:List Nat} (h:ZQ N mg H x d b g z Rs gs S):ZfX Rs gs S:=by
 obtain⟨dx5,da5,ba5,za5,zl5,y1,y2,y3,y4,y5,y6,y7,y8,y9,y10,y11⟩:=h
 exact y10
theorem ZQ.keep {N:Addr->Prop}{mg:Str->Option Value}{H H':Hp}{x d b g z:Addr}{Rs:List (List Int)}{gs:List Int}{S:List Nat} (h:ZQ N mg H x d b g z Rs gs S) (k1:∀a o,N a->H a=some o->H' a=some o) (k2:∀C dx fs,H x=some (.ins C dx fs)->H' x=some (.ins C dx fs)) (k3:∀o,H g=some o->H' g=some o) (k4:∀o,H z=some o->H' z=some o):ZQ N mg H' x d b g z Rs gs S:=by
 obtain⟨dx5,da5,ba5,za5,zl5,y1,y2,y3,y4,y5,y6,y7,y8,y9,y10,y11⟩:=h
 obtain⟨p1,p2,p3,p4,p5,p6,p7,N1,N2,N3,N4,N5⟩:=id y9
 refine⟨dx5,da5,ba5,za5,zl5,k2 _ _ _ y1,k1 _ _ N1 y2,k1 _ _ N2 y3,⟨y4.1,y4.2.1,λi h1 h2 h3=>?_⟩,k3 _ y5,k4 _ y6,y7,k1 _ _ N3 y8,y9,y10,λj hj=>(y11 j hj).elim λS0 ⟨c1,c2,c3⟩=>⟨S0,c1,k1 _ _ c1.1 c2,c3⟩⟩
 obtain⟨a,b,c,L,l1,l2,l3⟩:=y4.2.2 i h1 h2 h3
 exact⟨a,b,k1 _ _ (N4 _ (Yz h1)) c,L,l1,l2,k1 _ _ (N5 _ (Yz h2)) l3⟩
theorem ZQ.updQ {N:Addr->Prop}{mg:Str->Option Value}{H:Hp}{x d b g z q:Addr}{Rs:List (List Int)}{gs:List Int}{S:List Nat}{xs:List V}{o:HO} (h:ZQ N mg H x d b g z Rs gs S) (hq:H q=some (.lst xs)) (hN:∀a,N a->a≠q) (n1:q≠g) (n2:q≠z):ZQ N mg (upd H q o) x d b g z Rs gs S :=
 h.keep (λa o' n e=>by rw[Zf (hN a n)];exact e) (λC dx fs e=>by rw[Zf (λy=>by rw[y,hq]at e;cases e)];exact e) (λo' e=>by rw[Zf n1.symm];exact e) λo' e=>by rw[Zf n2.symm];exact e
theorem ZQ.mono {N M:Addr->Prop}{mg:Str->Option Value}{H:Hp}{x d b g z:Addr}{Rs:List (List Int)}{gs:List Int}{S:List Nat} (h:ZQ N mg H x d b g z Rs gs S) (k:∀a xs,N a->H a=some (.lst xs)->M a):ZQ M mg H x d b g z Rs gs S:=by
 obtain⟨dx5,da5,ba5,za5,zl5,y1,y2,y3,y4,y5,y6,y7,y8,y9,y10,y11⟩:=h
 obtain⟨p1,p2,p3,p4,p5,p6,p7,N1,N2,N3,N4,N5⟩:=y9
 refine⟨dx5,da5,ba5,za5,zl5,y1,y2,y3,y4,y5,y6,y7,y8,⟨p1,p2,p3,p4,p5,p6,p7,k _ _ N1 y2,k _ _ N2 y3,k _ _ N3 y8,λa ha=>?_,λa ha=>?_⟩,y10,λj hj=>(y11 j hj).elim λS0 ⟨c1,c2,c3⟩=>⟨S0,⟨k _ _ c1.1 c2,c1.2⟩,c2,c3⟩⟩
 ·obtain⟨i,hi,rfl⟩:=List.mem_iff_getElem.mp ha
  have h2:i<ba5.length:=by rw[y4.2.1,<-y4.1];exact hi
  have h3:i<Rs.length:=by rw[<-y4.1];exact hi
  obtain⟨a,b,c,L,l1,l2,l3⟩:=y4.2.2 i hi h2 h3
  exact k _ _ (N4 _ (Yz hi)) c
 ·obtain⟨i,hi,rfl⟩:=List.mem_iff_getElem.mp ha
  have h2:i<da5.length:=by rw[y4.1,<-y4.2.1];exact hi
  have h3:i<Rs.length:=by rw[<-y4.2.1];exact hi
  obtain⟨a,b,c,L,l1,l2,l3⟩:=y4.2.2 i h2 hi h3
  exact k _ _ (N5 _ (Yz hi)) l3
theorem Zp9 {gs:List Int}{i:Nat} (h:i<gs.length):atI (gs.map V.int) (-(1+(i:Int)))=some (V.int (nth gs (gs.length-1-i))):=by
 have hl:(gs.map V.int).length=gs.length:=Yf ..
 unfold atI ixN
 rw[Yb (by omega),Yd (by rw[hl];omega)]
 have e:((-(1+(i:Int)))+((gs.map V.int).length:Int)).toNat=gs.length-1-i:=by rw[hl];omega
 simp only[Option.bind_some]
 rw[e,Yp,Yg (by omega)]
 simp[nth,Yw,show gs.length-1-i<gs.length by omega]
theorem Zqa (gs:List Int) (n:Int):nth (gs++[n]) gs.length=n:=by simp[nth,Yw]
theorem Zgu {f:Addr}{fd:FuncData} (F:Fun K "next_distance" "next_distance" Zac f fd) (T:Txt K mg):FnOk P w K mg base (CXE P w) 1 f fd ["given","number"] (ZbZ K mg):=by
 refine F.okX Zdy (λvs H Q E h=>?_) (λcdv A outer s H vs Q E hr h=>?_)
 ·obtain⟨g,gs,n,rfl,_⟩:=h;rfl
 obtain⟨g,gs,n,rfl,hg,hn,k1⟩:=h
 refine⟨_,(Zd (Z2 (Zau PassesOwn.never rfl (Zmp rfl T.b_range (Za Ze (Za (Zn ZV (Zk (Zl (K:=K) rfl) rfl T.b_len Yn (Za (pv 0) Zc)) Ze) Zc))) (Zo (i:=2) Zdy.nd rfl (Or.inl rfl)) (Zg (Zag (Zt Zog (Zah ZP (pv 0) (ZfG ZdE (pv 2)) (λ_ _=>rfl)) (pv 1) (Zy _)) (Zg (ZC (pv 2))) ZW))))
   (Zg (ZC Ze))),?_⟩
 walk_at "rd"
 have hl:(gs.map V.int).length=gs.length:=Yf ..
 have hb:∀j,j<gs.length->nth (gs++[n]) j=nth gs j:=λj hj=>Zkp hj
 have ht:=Zqa gs n
 refine⟨_,.inl (SqL.of hg),by decide,by decide,by omega,by rw[hl];omega,?_⟩
 have em:(((gs.map V.int).length:Nat)+1-1:Int).toNat=gs.length:=by rw[hl];omega
 rw[em]
 refine ZbR (λi σ Hx=>∃v,σ=[some (.ref g),some (.int n),v]/\Hx=H/\∀j,gs.length-i<=j->j<gs.length->n<nth gs j) ⟨_,rfl,rfl,λj h1 h2=>by omega⟩ ?_ ?_
 ·rintro i σ Hx hi ⟨v,rfl,rfl,hno⟩
  walk_at "rd"
  refine⟨_,SqL.of hg,_,Zp9 hi,_,rfl,Z4 (λz=>?_) λz=>?_⟩
  ·have ed:Zx (nth (gs++[n])) gs.length=(1+(i:Int)):=by
    rcases ZaM (nth (gs++[n])) gs.length with⟨hN,e⟩|⟨q,⟨q1,q2,q3⟩,e⟩
    ·have:=hN (gs.length-1-i) (by omega)
     rw[ht,hb _ (by omega)]at this
     omega
    ·have e2:q=gs.length-1-i:=by
      rcases Nat.lt_trichotomy q (gs.length-1-i)with y|y|y
      ·have:=q3 (gs.length-1-i) y (by omega)
       rw[ht,hb _ (by omega)]at this
       omega
      ·exact y
      ·have:=hno q (by omega) q1
       rw[ht,hb _ q1]at q2
       omega
     omega
   rw[ed]at k1
   exact k1
  ·intro j h1 h2
   by_cases e:j=gs.length-1-i
   ·subst e;omega
   ·exact hno j (by omega) h2
 ·rintro σ Hx ⟨v,rfl,rfl,hno⟩
  walk_at "rd"
  have ed:Zx (nth (gs++[n])) gs.length=0:=by
   rcases ZaM (nth (gs++[n])) gs.length with⟨hN,e⟩|⟨q,⟨q1,q2,q3⟩,e⟩
   ·exact e
   ·have:=hno q (by omega) q1
    rw[ht,hb _ q1]at q2
    omega
  rw[ed]at k1
  exact k1
theorem Zha {f:Addr}{fd:FuncData} (F:Fun K "need_watched" "need_watched" Zar f fd) (ZI:ZfV P w K mg base "need_numbers" 1 ["row","fewest"] [V.int 1] (Zad K mg)) (T:Txt K mg):FnOk P w K mg base (CXE P w) 2 f fd ["rows"] (Zch K mg):=by
 refine F.okX ZdZ (λvs H Q E h=>?_) (λcdv A outer s H vs Q E hr h=>?_)
 ·obtain⟨q,N,Rs,rfl,_⟩:=h;rfl
 obtain⟨q,N,Rs,rfl,hq,hF,k1⟩:=h
 refine⟨_,(Zd (Zag (Zt ZdY (Zk (Zl (K:=K) rfl) rfl T.b_len Yn (Za (pv 0) Zc)) Ze (Zy _)) (Zg (ZfJ rfl rfl T.c_Empty T.x_Empty (Za Zob Zc) Zhp)) ZW)
   (Zd (Z2 (Zau PassesOwn.never rfl (Zbz (pv 0)) (Zo (i:=1) ZdZ.nd rfl (Or.inl rfl)) (Zg (ZA (Ze0 ZI (hr.mono (by decide)) rfl Zu (Za (pv 1) Zc))))))
   (Zg (Zag (Zt ZgL (Zk (ZiT rfl) rfl T.b_max Zgi (Za (Zn Zla (ZK (Za (Zk (Zl (K:=K) rfl) rfl T.b_len Yn (Za (pv 0) Zc)) Zc)) (Zap ["row"] [none] rfl rfl rfl (Zbz (pv 0)) (λ_ _ _ _ _=>(Zo (i:=0) (show(["row"]:List Str).Nodup from by decide +kernel) rfl (Or.inl rfl))) (λ_ _ _ _ _=>Za6) (λ_ _ _ _ _=>(Zk (Zl (K:=K) rfl) rfl T.b_len Yn (Za (pv 0) Zc))) ZO)) Zc)) (ZlK (v:=.int 12) rfl T.m_MOST_WATCHED ⟨_,rfl⟩) (Zy _)) (Zg (ZfJ rfl rfl T.c_TooMany T.x_TooMany (Za (ZiF (ZfK (by decide) (Zlc (ZlK (v:=.int 12) rfl T.m_MOST_WATCHED ⟨_,rfl⟩) (ZfK (by decide) Zov)))) Zc) Zhp)) ZW)))),?_⟩
 obtain⟨as,h1,h2,h3⟩:=id hq
 obtain⟨f0,f1,f2⟩:=hF
 have hel:(as.map V.ref).length=Rs.length:=by rw[Yf,h2]
 have hR:∀i (hi:i<Rs.length),0<Rs[i].length/\Rs[i].length<=12:=λi hi=>f2 _ (Yz hi)
 walk_at "rd"
 refine⟨_,.inl (SqL.of h1),Z4 (λz=>absurd z (by rw[hel];omega)) λ_=>⟨⟨_,SqL.of h1⟩,?_⟩⟩
 refine Zee (K:=K) (a:=q) (xs:=as.map V.ref) (λi σ Hx=>∃v,σ=[some (.ref q),v]/\Hx=H) ⟨_,rfl,rfl⟩ (λi σ Hx _ ⟨_,_,e⟩=>by rw[e];exact SqL.of h1) ?_ ?_
 ·rintro i x σ Hx hx ⟨v,rfl,rfl⟩
  have hi:i<as.length:=by
   rcases Nat.lt_or_ge i as.length with y|y
   ·exact y
   ·rw[List.getElem?_eq_none (by rw[Yf];omega)]at hx;cases hx
  rw[Yp,Yg hi]at hx
  cases hx
  have hr:=h3 i hi (by omega)
  have hb:=hR i (by omega)
  walk_at "rd"
  exact⟨as[i],Rs[i],1,rfl,.inl (SqL.of hr.2),by omega,by decide,by decide,λ_=>rfl,λz=>by omega⟩
 ·rintro σ Hx ⟨v,rfl,rfl⟩
  walk_at "rd"
  refine⟨_,.inl (SqL.of h1),by decide,λp hp=>?_⟩
  have gp:=(Zh.refl Hx).upd (o:=.lst [V.int ((as.map V.ref).length:Nat)]) hp
  refine⟨⟨_,SqL.of (gp _ _ h1)⟩,comp_map (n:=as.length) (λj=>V.int ((Rs.getD j []).length:Nat)) (Yv (show _<=1000 by omega) (by decide)) (λj Hy s hj=>⟨_,_,SqL.of ((gp.trans s) _ _ h1),Yg (by simpa using hj)⟩) (λHy s=>⟨_,SqL.of ((gp.trans s) _ _ h1),by simp⟩) ?_ ?_⟩
  ·rintro j x Hy Hz hj s ⟨rfl,hx⟩
   have ex:=hx _ (SqL.of ((gp.trans s) _ _ h1))
   rw[Yp,Yg hj]at ex
   cases ex
   have hr:=h3 j hj (by omega)
   walk_at "rd"
   refine⟨_,.inl (SqL.of ((gp.trans s) _ _ hr.2)),CW.next hj ?_ s⟩
   rw[Yf]
   simp[show j<Rs.length by omega]
  ·intro l Hy s hl
   have hpy:=s p _ Zb
   have npl:p≠l:=Zj hpy hl
   refine⟨l,rfl,_,by rw[Zf npl];exact hpy,_,Zb,Yj (show _<=1000 by simp;omega) (by decide),λp2 hp2=>⟨((Rs.length:Nat):Int)::(List.range as.length).map (λj=>((Rs.getD j []).length:Int)),SqL.of (by rw[Zb];simp[Function.comp_def,h2]),by simp,λm hm _=>Z4 (λz=>?_) λ_=>k1 _ (((gp.trans s).ZaL hl).ZaL hp2)⟩⟩
   rcases Yk.mp hm with y|y
   ·omega
   ·obtain⟨j,hj,rfl⟩:=YH.mp y
    have hj:=YA.mp hj
    have hb:=hR j (by omega)
    rw[show Rs.getD j []=Rs[j]'(by omega) by simp[show j<Rs.length by omega]]at z
    omega
theorem lenF2 (f g:Str) (a b:V):(ZG f a (ZG g b [])).length<1000:=by
 have h1:=ZaK f a (ZG g b [])
 have h2:=ZaK g b []
 simp at h2;omega
theorem lenF3 (f g h:Str) (a b c:V):(ZG f a (ZG g b (ZG h c []))).length<1000:=by
 have h1:=ZaK f a (ZG g b (ZG h c []))
 have h2:=ZaK g b (ZG h c [])
 have h3:=ZaK h c []
 simp at h3;omega
theorem Zf1 {f:Addr}{fd:FuncData} (F:Fun K "__init__" "Watch.__init__" Z6 f fd) (Zs:Callee P w K mg base "row_distances" 4 ["row"] (ZX K mg)) (Z3:Callee P w K mg base "borders_by" 3 ["told"] (Za7 K mg)) (ZcM:Callee P w K mg base "need_watched" 2 ["rows"] (Zch K mg)) (T:Txt K mg):FnOk P w K mg base (CXE P w) 5 f fd ["self","rows"] (ZaI K mg):=by
 refine F.okX ZfZ (λvs H Q E h=>?_) (λcdv A outer s H vs Q E hr h=>?_)
 ·obtain⟨x,dx,q,N,M,Rs,rfl,_⟩:=h;rfl
 obtain⟨x,dx,q,N,M,Rs,rfl,hx,hq,hF,hM,k1⟩:=h
 refine⟨_,(Zd (ZA (Zi ZcM (hr.mono (by decide)) rfl Zb5 (Za (pv 1) Zc)))
   (Zd (Zhu (K:=K) rfl T.cl_Watch T.n_Watch_distances (pv 0) (Zap ["row"] [none] rfl rfl rfl (Zbz (pv 1)) (λ_ _ _ _ _=>(Zo (i:=0) (show(["row"]:List Str).Nodup from by decide +kernel) rfl (Or.inl rfl))) (λ_ _ _ _ _=>Za6) (λ_ _ _ _ _=>(Zi Zs (hr.mono (by decide)) rfl Zu (Za (pv 0) Zc))) ZO))
   (Zd (Zhu (K:=K) rfl T.cl_Watch T.n_Watch_borders (pv 0) (Zap ["told"] [none] rfl rfl rfl (Zbz (Zbb (K:=K) rfl T.cl_Watch T.n_Watch_distances (pv 0))) (λ_ _ _ _ _=>(Zo (i:=0) (show(["told"]:List Str).Nodup from by decide +kernel) rfl (Or.inl rfl))) (λ_ _ _ _ _=>Za6) (λ_ _ _ _ _=>(Zi Z3 (hr.mono (by decide)) rfl Zu (Za (pv 0) Zc))) ZO))
   (Zd (Zhu (K:=K) rfl T.cl_Watch T.n_Watch_given (pv 0) (ZK Zc))
   (Zg (Zhu (K:=K) rfl T.cl_Watch T.n_Watch_sizes (pv 0) (ZK (Za (Zn Zjf (ZK (Za Ze Zc)) (Zk (Zl (K:=K) rfl) rfl T.b_len Yn (Za (pv 1) Zc))) Zc)))))))),?_⟩
 obtain⟨as,h1,h2,h3⟩:=id hq
 have nxq:q≠x:=λe=>by rw[e,hx]at h1;cases h1
 have hR:∀i (hi:i<Rs.length),0<Rs[i].length/\Rs[i].length<=12:=λi hi=>hF.2.2 _ (Yz hi)
 refine Zaw (fun σ Hx=>σ=[some (.ref x),some (.ref q)]/\Zh H Hx) (λR hR=>?_) ?_
 ·walk_at "rd"
  exact⟨q,N,Rs,rfl,hq,hF,λH1 s1=>hR _ _ ⟨rfl,s1⟩⟩
 rintro σ H1 ⟨rfl,s1⟩
 refine Zaw (fun σ Hx=>∃(d:Addr) (da:List Addr) (Hy:Hp),σ=[some (.ref x),some (.ref q)]/\Hx=upd Hy x (.ins (cW mg) dx (ZG "distances" (.ref d) []))/\Hy x=some (.ins (cW mg) dx [])/\Zh H Hy/\H d=none/\Hy d=some (.lst (da.map V.ref))/\da.length=Rs.length/\(∀i (g1:i<da.length) (g2:i<Rs.length),Hy da[i]=some (.lst ((ZJ Rs[i]).map V.int)))/\∀a∈da,H a=none) (λR hR'=>?_) ?_
 ·walk_at "rd"
  refine⟨⟨_,SqL.of (s1 _ _ h1)⟩,ZfO (n:=Rs.length) (λi acc Hx=>∃da:List Addr,acc=da.map V.ref/\da.length=i/\(∀j (g1:j<da.length) (g2:j<Rs.length),Hx da[j]=some (.lst ((ZJ Rs[j]).map V.int)))/\(∀a∈da,H a=none)/\Zh H Hx) (Yv (show _<=1000 by have:=hF.2.1;omega) (by decide)) ⟨[],rfl,rfl,(λj g1=>absurd g1 (by simp)),(λa ha=>nomatch ha),s1⟩ (λi acc Hx ⟨_,_,_,_,_,s⟩ hi=>⟨_,_,SqL.of (s _ _ h1),Yg (by rw[Yf,h2];exact hi)⟩) (λacc Hx ⟨_,_,_,_,_,s⟩=>⟨_,SqL.of (s _ _ h1),by rw[Yf,h2];exact Ye _⟩) ?_ ?_⟩
  ·rintro i v acc Hx Hy hi hla ⟨da,rfl,hd,hD,hZ,sx⟩ ⟨rfl,hv⟩
   have i1:i<as.length:=by rw[h2];exact hi
   have hv:=hv _ (SqL.of (sx _ _ h1))
   rw[Yp,Yg i1]at hv
   cases hv
   have hb:=hR i hi
   walk_at "rd"
   refine⟨as[i],Rs[i],rfl,.inl (SqL.of (sx _ _ (h3 i i1 hi).2)),by omega,λl H2 zl s2 hl=>CA.take hi hla ⟨da++[l],by simp,by simp[hd],λj g1 g2=>?_,λa ha=>by rcases Yy.mp ha with z|z;exact hZ a z;rw[YG.mp z];exact sx.free zl,sx.trans s2⟩⟩
   by_cases e:j<da.length
   ·rw[YK e];exact s2 _ _ (hD j e g2)
   ·have ej:j=i:=by simp at g1;omega
    subst ej
    have e2:(da++[l])[j]'g1=l:=by simp[<-hd]
    rw[e2]
    exact hl
  ·rintro d acc Hx ⟨da,rfl,hd,hD,hZ,sx⟩ _ hdn
   have gd:=(Zh.refl Hx).upd (o:=.lst (da.map V.ref)) hdn
   exact⟨dx,[],gd _ _ (sx _ _ hx),by decide,hR' _ _ ⟨d,da,_,rfl,rfl,gd _ _ (sx _ _ hx),sx.trans gd,sx.free hdn,Zb,hd,(λj g1 g2=>gd _ _ (hD j g1 g2)),hZ⟩⟩
 rintro σ H2 ⟨d,da,Hy,rfl,rfl,hy1,sy,zd,hd1,hda,hD,hZ⟩
 have ndx:d≠x:=λe=>by rw[e,hx]at zd;cases zd
 have nda:∀i (g1:i<da.length) (g2:i<Rs.length),da[i]≠x:=λi g1 g2 e=>by have:=hD i g1 g2;rw[e,hy1]at this;cases this
 have ex1:Exc x H (upd Hy x (.ins (cW mg) dx (ZG "distances" (.ref d) []))):=λa o n e=>by rw[Zf n];exact sy _ _ e
 have hx2:(upd Hy x (.ins (cW mg) dx (ZG "distances" (.ref d) []))) x=some (.ins (cW mg) dx (ZG "distances" (.ref d) [])):=Zb
 have hd2:(upd Hy x (.ins (cW mg) dx (ZG "distances" (.ref d) []))) d=some (.lst (da.map V.ref)):=by rw[Zf ndx];exact hd1
 have hD2:∀i (g1:i<da.length) (g2:i<Rs.length),(upd Hy x (.ins (cW mg) dx (ZG "distances" (.ref d) []))) da[i]=some (.lst ((ZJ Rs[i]).map V.int)):=λi g1 g2=>by rw[Zf (nda i g1 g2)];exact hD i g1 g2
 generalize upd Hy x (.ins (cW mg) dx (ZG "distances" (.ref d) []))=H2 at ex1 hx2 hd2 hD2⊢
 clear hD hd1 hy1 sy Hy
 refine Zaw (fun σ Hx=>∃(b:Addr) (ba:List Addr) (Hy:Hp),σ=[some (.ref x),some (.ref q)]/\Hx=upd Hy x (.ins (cW mg) dx (ZG "borders" (.ref b) (ZG "distances" (.ref d) [])))/\Hy x=some (.ins (cW mg) dx (ZG "distances" (.ref d) []))/\Zh H2 Hy/\H2 b=none/\Hy b=some (.lst (ba.map V.ref))/\ba.length=Rs.length/\∀i (g1:i<ba.length) (g2:i<Rs.length),(∃L:List Nat,L.length=Rs[i].length/\Zby (nth Rs[i]) L/\Hy ba[i]=some (.lst (Zr L)))/\H ba[i]=none) (λR hR'=>?_) ?_
 ·walk_at "rd"
  refine⟨dx,_,hx2,_,by rw[ZE,Yd rfl],d,rfl,⟨_,SqL.of hd2⟩,ZfO (n:=Rs.length) (λi acc Hx=>∃ba:List Addr,acc=ba.map V.ref/\ba.length=i/\(∀j (g1:j<ba.length) (g2:j<Rs.length),(∃L:List Nat,L.length=Rs[j].length/\Zby (nth Rs[j]) L/\Hx ba[j]=some (.lst (Zr L)))/\H ba[j]=none)/\Zh H2 Hx) (Yv (show _<=1000 by have:=hF.2.1;omega) (by decide)) ⟨[],rfl,rfl,(λj g1=>absurd g1 (by simp)),Zh.refl _⟩ (λi acc Hx ⟨_,_,_,_,s⟩ hi=>⟨_,_,SqL.of (s _ _ hd2),Yg (by rw[Yf,hda];exact hi)⟩) (λacc Hx ⟨_,_,_,_,s⟩=>⟨_,SqL.of (s _ _ hd2),Nat.le_of_eq (by rw[Yf,hda])⟩) ?_ ?_⟩
  ·rintro i v acc Hx Hy hi hla ⟨ba,rfl,hb,hB,sx⟩ ⟨rfl,hv⟩
   have i1:i<da.length:=by rw[hda];exact hi
   have hv:=hv _ (SqL.of (sx _ _ hd2))
   rw[Yp,Yg i1]at hv
   cases hv
   have hbo:=hR i hi
   walk_at "rd"
   refine⟨da[i],Rs[i],rfl,sx _ _ (hD2 i i1 hi),by omega,λb L H3 zb hLl hBo s3 hL3=>CA.take hi hla ⟨ba++[b],by simp,by simp[hb],λj g1 g2=>?_,sx.trans s3⟩⟩
   by_cases e:j<ba.length
   ·rw[YK e]
    obtain⟨⟨L',a1,a2,a3⟩,a4⟩:=hB j e g2
    exact⟨⟨L',a1,a2,s3 _ _ a3⟩,a4⟩
   ·have ej:j=i:=by simp at g1;omega
    subst ej
    have e2:(ba++[b])[j]'g1=b:=by simp[<-hb]
    rw[e2]
    exact⟨⟨L,hLl,hBo,hL3⟩,ex1.free (λe=>by rw[e,sx _ _ hx2]at zb;cases zb) (sx.free zb)⟩
  ·rintro b acc Hx ⟨ba,rfl,hb,hB,sx⟩ _ hbn
   have gb:=(Zh.refl Hx).upd (o:=.lst (ba.map V.ref)) hbn
   exact⟨dx,_,gb _ _ (sx _ _ hx2),by unfold ZG;simp,hR' _ _ ⟨b,ba,_,rfl,rfl,gb _ _ (sx _ _ hx2),sx.trans gb,sx.free hbn,Zb,hb,λj g1 g2=>(hB j g1 g2).elim λ⟨L,a1,a2,a3⟩ a4=>⟨⟨L,a1,a2,gb _ _ a3⟩,a4⟩⟩⟩
 rintro σ H3 ⟨b,ba,Hy,rfl,rfl,hy1,sy,zb,hb1,hba,hB⟩
 have nbx:b≠x:=λe=>by rw[e,hx2]at zb;cases zb
 have nba:∀i (g1:i<ba.length) (g2:i<Rs.length),ba[i]≠x:=λi g1 g2 e=>by obtain⟨⟨_,_,_,a⟩,_⟩:=hB i g1 g2;rw[e,hy1]at a;cases a
 have ex3:Exc x H (upd Hy x (.ins (cW mg) dx (ZG "borders" (.ref b) (ZG "distances" (.ref d) [])))):=λa o n e=>by rw[Zf n];exact sy _ _ (ex1 a o n e)
 have up3:∀a o,a≠x->Hy a=some o->(upd Hy x (.ins (cW mg) dx (ZG "borders" (.ref b) (ZG "distances" (.ref d) [])))) a=some o:=λa o n e=>by rw[Zf n];exact e
 have hx3:(upd Hy x (.ins (cW mg) dx (ZG "borders" (.ref b) (ZG "distances" (.ref d) [])))) x=some (.ins (cW mg) dx (ZG "borders" (.ref b) (ZG "distances" (.ref d) []))):=Zb
 have hd3:=up3 _ _ ndx (sy _ _ hd2)
 have hb3:=up3 _ _ nbx hb1
 have hT3:∀i (g1:i<da.length) (g2:i<ba.length) (g3:i<Rs.length),(upd Hy x (.ins (cW mg) dx (ZG "borders" (.ref b) (ZG "distances" (.ref d) [])))) da[i]=some (.lst ((ZJ Rs[i]).map V.int))/\∃L:List Nat,L.length=Rs[i].length/\Zby (nth Rs[i]) L/\(upd Hy x (.ins (cW mg) dx (ZG "borders" (.ref b) (ZG "distances" (.ref d) [])))) ba[i]=some (.lst (Zr L)):=λi g1 g2 g3=>by
  obtain⟨⟨L,a1,a2,a3⟩,_⟩:=hB i g2 g3
  exact⟨up3 _ _ (nda i g1 g3) (sy _ _ (hD2 i g1 g3)),L,a1,a2,up3 _ _ (nba i g2 g3) a3⟩
 have hq3:=ex3 _ _ nxq h1
 have zb0:H b=none:=ex1.free nbx zb
 have hZb:∀a∈ba,H a=none:=λa ha=>by
  obtain⟨i,hi,rfl⟩:=List.mem_iff_getElem.mp ha
  exact(hB i hi (by rw[<-hba];exact hi)).2
 generalize upd Hy x (.ins (cW mg) dx (ZG "borders" (.ref b) (ZG "distances" (.ref d) [])))=H3 at ex3 up3 hx3 hd3 hb3 hT3 hq3⊢
 clear hB hb1 hy1 sy up3 Hy hD2 hd2 hx2 ex1 zb H2
 walk_at "rd"
 refine⟨Yr _,λg hg=>?_⟩
 have gg:=(Zh.refl H3).upd (o:=.lst []) hg
 have ngx:g≠x:=(Zj hx3 hg).symm
 refine⟨dx,_,gg _ _ hx3,lenF2 _ _ _ _,by decide,λu hu=>?_⟩
 have up4:∀a o,a≠x->H3 a=some o->(upd (upd H3 g (.lst [])) x (.ins (clsAt mg "Watch") dx (ZG "given" (.ref g) (ZG "borders" (.ref b) (ZG "distances" (.ref d) []))))) a=some o:=λa o n e=>by rw[Zf n];exact gg _ _ e
 have hg4:(upd (upd H3 g (.lst [])) x (.ins (clsAt mg "Watch") dx (ZG "given" (.ref g) (ZG "borders" (.ref b) (ZG "distances" (.ref d) []))))) g=some (.lst []):=by rw[Zf ngx];exact Zb
 have hx4:(upd (upd H3 g (.lst [])) x (.ins (clsAt mg "Watch") dx (ZG "given" (.ref g) (ZG "borders" (.ref b) (ZG "distances" (.ref d) []))))) x=some (.ins (clsAt mg "Watch") dx (ZG "given" (.ref g) (ZG "borders" (.ref b) (ZG "distances" (.ref d) [])))):=Zb
 generalize upd (upd H3 g (.lst [])) x (.ins (clsAt mg "Watch") dx (ZG "given" (.ref g) (ZG "borders" (.ref b) (ZG "distances" (.ref d) []))))=H4 at up4 hg4 hx4 hu⊢
 have gu:=(Zh.refl H4).upd (o:=.lst [V.int 0]) hu
 have ela:(as.map V.ref).length=Rs.length:=by rw[Yf,h2]
 refine⟨_,.inl (SqL.of (gu _ _ (up4 _ _ nxq hq3))),_,Zb,by omega,by rw[ela];have:=hF.2.1;omega,Yj (show _<=1000 by rw[ela];have:=hF.2.1;simp;omega) (by decide),λv hv=>⟨by decide,λz hz=>?_⟩⟩
 have ev:(List.replicate (((as.map V.ref).length:Nat):Int).toNat [V.int 0]).flatten=Zr (List.replicate Rs.length 0):=by
  rw[ela];simp[Zr]
 rw[ev]at hz⊢
 have gv:=gu.ZaL (o:=.lst (Zr (List.replicate Rs.length 0))) hv
 have gz:=gv.ZaL (o:=.lst [V.ref v]) hz
 have hvz:(upd (upd (upd H4 u (.lst [V.int 0])) v (.lst (Zr (List.replicate Rs.length 0)))) z (.lst [V.ref v])) v=some (.lst (Zr (List.replicate Rs.length 0))):=by rw[Zf (λe=>by rw[<-e,Zb]at hz;cases hz)];exact Zb
 have hzz:(upd (upd (upd H4 u (.lst [V.int 0])) v (.lst (Zr (List.replicate Rs.length 0)))) z (.lst [V.ref v])) z=some (.lst [V.ref v]):=Zb
 have old:∀a o,H4 a=some o->a≠z:=λa o e=>Zj (gv _ _ e) hz
 have nvz:v≠z:=λe=>by rw[<-e,Zb]at hz;cases hz
 have nvx:v≠x:=(Zj (gu _ _ hx4) hv).symm
 have nzx:z≠x:=(old _ _ hx4).symm
 have nvg:v≠g:=(Zj (gu _ _ hg4) hv).symm
 have zv0:H v=none:=by
  rcases e:H v with _|o
  ·rfl
  ·exact absurd (gu _ _ (up4 v o nvx (ex3 v o nvx e))) (by rw[hv];intro z;cases z)
 generalize upd (upd (upd H4 u (.lst [V.int 0])) v (.lst (Zr (List.replicate Rs.length 0)))) z (.lst [V.ref v])=H5 at gz hvz hzz⊢
 have k5:∀a o,a≠x->H3 a=some o->(upd H5 x (.ins (clsAt mg "Watch") dx (ZG "sizes" (.ref z) (ZG "given" (.ref g) (ZG "borders" (.ref b) (ZG "distances" (.ref d) [])))))) a=some o:=λa o n e=>by rw[Zf n];exact gz _ _ (up4 a o n e)
 refine⟨dx,_,gz _ _ hx4,lenF3 _ _ _ _ _ _,k1 d b g z _ ⟨dx,da,ba,[],v,Zb,k5 _ _ ndx hd3,k5 _ _ nbx hb3,⟨hda,hba,λi g1 g2 g3=>?_⟩,by rw[Zf ngx];exact gz _ _ hg4,by rw[Zf nzx];exact hzz,rfl,by rw[Zf nvx];exact hvz,⟨Zj hd3 hg,old _ _ (up4 _ _ ndx hd3),Zj hb3 hg,old _ _ (up4 _ _ nbx hb3),old _ _ hg4,nvg,nvz,hM _ zd,hM _ zb0,hM _ zv0,(λa ha=>hM a (hZ a ha)),λa ha=>hM a (hZb a ha)⟩,⟨by simp,λi g1 g2=>?_⟩,λj h=>absurd h (by simp)⟩ (ex3.free ngx hg) ?_ λa o n e=>k5 a o n (ex3 a o n e)⟩
 ·obtain⟨t1,L,t2,t3,t4⟩:=hT3 i g1 g2 g3
  exact⟨⟨Zj t1 hg,old _ _ (up4 _ _ (nda i g1 g3) t1)⟩,⟨Zj t4 hg,old _ _ (up4 _ _ (nba i g2 g3) t4)⟩,k5 _ _ (nda i g1 g3) t1,L,t2,t3,k5 _ _ (nba i g2 g3) t4⟩
 ·rw[List.getElem_replicate];exact ZiQ _ _ _
 ·rcases e:H z with _|o
  ·rfl
  ·exact absurd rfl (old _ _ (up4 z o nzx (ex3 z o nzx e)))
theorem Zfv {f:Addr}{fd:FuncData} (F:Fun K "reach_now" "Watch.reach_now" ZY f fd) (T:Txt K mg):FnOk P w K mg base (CXE P w) 1 f fd ["self"] (Zay K mg):=by
 refine F.okX Zfs (λvs H Q E h=>?_) (λcdv A outer s H vs Q E hr h=>?_)
 ·obtain⟨N,x,d,b,g,z,Rs,gs,S,rfl,_⟩:=h;rfl
 obtain⟨N,x,d,b,g,z,Rs,gs,S,rfl,hW,hpos,k1⟩:=h
 refine⟨_,(Zg (ZC (Zk (ZiT rfl) rfl T.b_max Zgi (Za (Zah ZP (Zbb (K:=K) rfl T.cl_Watch T.n_Watch_sizes (pv 0)) (ZfG ZdE Ze) (λ_ _=>rfl)) Zc)))),?_⟩
 obtain⟨dx,da,ba,za,zl,w1,w2,w3,w4,w5,w6,w7,w8,w9,w10,w11⟩:=hW
 walk_at "rd"
 refine⟨dx,_,w1,_,wF_z d b g z,z,rfl,_,SqL.of w6,_,(by rw[YB];exact ZjX _ _),zl,rfl,S.map (λk=>((k:Nat):Int)),SqL.of (by rw[w8,ZdI]),λe=>?_,λm hm hmax=>?_⟩
 ·have:=congrArg List.length e
  rw[Yf,w10.1]at this
  have:Rs.length=0:=this
  omega
 ·obtain⟨k,hk,rfl⟩:=YH.mp hm
  exact k1 k hk λa ha=>by have:=hmax _ (YH.mpr ⟨a,ha,rfl⟩);omega
theorem Zjw.same {N:Addr->Prop}{H H':Hp}{da ba:List Addr}{Rs:List (List Int)} (h:Zjw N H da ba Rs) (s:Zh H H'):Zjw N H' da ba Rs:=by
 refine⟨h.1,h.2.1,λi h1 h2 h3=>?_⟩
 obtain⟨a,b,c,L,l1,l2,l3⟩:=h.2.2 i h1 h2 h3
 exact⟨a,b,s _ _ c,L,l1,l2,s _ _ l3⟩
theorem Ziq {f:Addr}{fd:FuncData} (F:Fun K "give" "Watch.give" ZaX f fd) (ZbE:Callee P w K mg base "follow" 2 ["told","borders","size","distance"] (Zdw K mg)) (Zcm:Callee P w K mg base "next_distance" 1 ["given","number"] (ZbZ K mg)) (T:Txt K mg):FnOk P w K mg base (CXE P w) 3 f fd ["self","number"] (Zca K mg):=by
 refine F.okX ZaF (λvs H Q E h=>?_) (λcdv A outer s H vs Q E hr h=>?_)
 ·obtain⟨N,x,d,b,g,z,n,Rs,gs,S,rfl,_⟩:=h;rfl
 obtain⟨N,x,d,b,g,z,n,Rs,gs,S,rfl,hW,hN,hF,hgs,k1⟩:=h
 refine⟨_,(Zd (Zq (i:=2) ZaF.nd rfl (Or.inl rfl) (Zi Zcm (hr.mono (by decide)) rfl Zu (Za (Zbb (K:=K) rfl T.cl_Watch T.n_Watch_given (pv 0)) (Za (pv 1) Zc))))
   (Zd (Zq (i:=3) ZaF.nd rfl (Or.inl rfl) (ZK Zc))
   (Zd (Z2 (Zau PassesOwn.never rfl (Zp5 rfl T.b_zip (Za (Zbb (K:=K) rfl T.cl_Watch T.n_Watch_distances (pv 0)) (Za (Zbb (K:=K) rfl T.cl_Watch T.n_Watch_borders (pv 0)) (Za (Zah ZP (Zbb (K:=K) rfl T.cl_Watch T.n_Watch_sizes (pv 0)) (ZfG ZdE Ze) (λ_ _=>rfl)) Zc)))) (ZdC (n:=3) rfl (ZD (Zo (i:=4) ZaF.nd rfl (Or.inl rfl)) (ZD (Zo (i:=5) ZaF.nd rfl (Or.inl rfl)) (ZD (Zo (i:=6) ZaF.nd rfl (Or.inl rfl)) Za8)))) (Zg (ZA (Za0 PySem.F.plainAttrs_list PySem.F.slot_list_append PySem.F.type_list_append ZM (pv 3) (Za (Zi ZbE (hr.mono (by decide)) rfl Zu (Za (pv 4) (Za (pv 5) (Za (pv 6) (Za (pv 2) Zc))))) Zc))))))
   (Zd (ZA (Za0 PySem.F.plainAttrs_list PySem.F.slot_list_append PySem.F.type_list_append ZM (Zbb (K:=K) rfl T.cl_Watch T.n_Watch_given (pv 0)) (Za (pv 1) Zc)))
   (Zd (ZA (Za0 PySem.F.plainAttrs_list PySem.F.slot_list_append PySem.F.type_list_append ZM (Zbb (K:=K) rfl T.cl_Watch T.n_Watch_sizes (pv 0)) (Za (pv 3) Zc)))
   (Zg (ZC (Zap ["at","size","self"] [none,none,some 0] rfl rfl rfl (Zc1 (K:=K) rfl rfl T.b_enumerate (Za (pv 3) Zc)) (λ_ _ _ _ _=>(Zhq (K:=K) (n:=2) rfl rfl (ZD (Zo (i:=0) (show(["at","size","self"]:List Str).Nodup from by decide +kernel) rfl (Or.inl rfl)) (ZD (Zo (i:=1) (show(["at","size","self"]:List Str).Nodup from by decide +kernel) rfl (Or.inl rfl)) Za8)))) (λ_ _ _ _ _=>ZhC (Zt ZdY (pv 1) (Zk (Zl (K:=K) rfl) rfl T.b_len Yn (Za (Zah (r:=rIxL K) ZP (Zbb (K:=K) rfl T.cl_Watch T.n_Watch_distances (pv 2)) (pv 0) (λ_ _=>rfl)) Zc)) (Zy _))) (λ_ _ _ _ _=>(pv 0)) (ZfI (Zbq ZO (Zbq ZO ZfH))))))))))),?_⟩
 obtain⟨dx,da,ba,za,zl,w1,w2,w3,w4,w5,w6,w7,w8,w9,w10,w11⟩:=id hW
 refine Zaw (fun σ Hx=>σ=[some (.ref x),some (.int n),some (.int (Zx (nth (gs++[n])) gs.length)),none,none,none,none]/\Hx=H) (λR hR=>?_) ?_
 ·walk_at "rd"
  exact⟨dx,_,w1,_,wF_g d b g z,g,gs,n,rfl,w5,by omega,hR _ _ ⟨rfl,rfl⟩⟩
 rintro σ H1 ⟨rfl,rfl⟩
 refine Zaw (fun σ Hx=>∃u:Addr,σ=[some (.ref x),some (.int n),some (.int (Zx (nth (gs++[n])) gs.length)),some (.ref u),none,none,none]/\H1 u=none/\Hx u=some (.lst [])/\Zh H1 Hx) (λR hR=>?_) ?_
 ·walk_at "rd"
  exact⟨Yr _,λu hu=>hR _ _ ⟨u,rfl,hu,Zb,(Zh.refl H1).upd hu⟩⟩
 rintro σ H2 ⟨u,rfl,zu,hu2,s2⟩
 refine Zaw (fun σ Hx=>∃(v4 v5 v6:Option V) (S':List Nat),σ=[some (.ref x),some (.int n),some (.int (Zx (nth (gs++[n])) gs.length)),some (.ref u),v4,v5,v6]/\ZfX Rs (gs++[n]) S'/\Hx u=some (.lst (Zr S'))/\Zh H1 Hx) (λR hR=>?_) ?_
 ·walk_at "rd"
  have w12:=s2 _ _ w1
  refine⟨dx,_,w12,_,wF_d d b g z,dx,_,w12,_,wF_b d b g z,dx,_,w12,_,wF_z d b g z,z,rfl,_,SqL.of (s2 _ _ w6),_,(by rw[YB];exact ZjX _ _),d,rfl,b,rfl,zl,rfl,_,SqL.of (s2 _ _ w2),_,SqL.of (s2 _ _ w3),_,SqL.of (s2 _ _ w8),?_⟩
  refine Zfm (n:=Rs.length) (λi σ Hx=>∃(v4 v5 v6:Option V) (S':List Nat),σ=[some (.ref x),some (.int n),some (.int (Zx (nth (gs++[n])) gs.length)),some (.ref u),v4,v5,v6]/\S'.length=i/\(∀j (h1:j<Rs.length) (h2:j<S'.length),Zbm (nth Rs[j]) (nth (gs++[n])) Rs[j].length (gs.length+1) S'[j])/\Hx u=some (.lst (Zr S'))/\Zh H1 Hx) ⟨_,_,_,[],rfl,rfl,(λj h1 h2=>absurd h2 (by simp)),hu2,s2⟩ (λi σ Hx hi ⟨_,_,_,_,_,_,_,_,sx⟩=>⟨_,_,_,_,_,_,SqL.of (sx _ _ w2),SqL.of (sx _ _ w3),SqL.of (sx _ _ w8),Yg (by rw[Yf,w4.1];exact hi),Yg (by rw[Yf,w4.2.1];exact hi),Yg (by rw[ZS,w10.1];exact hi)⟩) (fun σ Hx ⟨_,_,_,_,_,_,_,_,sx⟩=>⟨_,_,_,SqL.of (sx _ _ w2),SqL.of (sx _ _ w3),SqL.of (sx _ _ w8),.inl (by rw[Yf,w4.1];exact Ye _)⟩) ?_ ?_
  ·rintro i v σ Hx Hx' hi ⟨v4,v5,v6,S',rfl,hSl,hLj,hux,sx⟩ ⟨q,x1,y1,z1,hq,rfl,rfl,e1,e2,e3⟩
   have i1:i<da.length:=by rw[w4.1];exact hi
   have i2:i<ba.length:=by rw[w4.2.1];exact hi
   have i3:i<S.length:=by rw[w10.1];exact hi
   have ex:=e1 _ (SqL.of (sx _ _ w2))
   rw[Yp,Yg i1]at ex
   cases ex
   have ex:=e2 _ (SqL.of (sx _ _ w3))
   rw[Yp,Yg i2]at ex
   cases ex
   have ex:=e3 _ (SqL.of (sx _ _ w8))
   unfold Zr at ex
   rw[Yp,Yg i3]at ex
   cases ex
   obtain⟨m1,m2,m3,L,l1,l2,l3⟩:=w4.2.2 i i1 i2 hi
   have gq:=(Zh.refl Hx).upd (o:=.tup [.ref da[i],.ref ba[i],.int (S[i]:Nat)]) hq
   have tq:(upd Hx q (.tup [.ref da[i],.ref ba[i],.int (S[i]:Nat)])) q=some (.tup [.ref da[i],.ref ba[i],.int (S[i]:Nat)]):=Zb
   replace hux:=gq _ _ hux
   replace sx:=sx.trans gq
   generalize upd Hx q (.tup [.ref da[i],.ref ba[i],.int (S[i]:Nat)])=Hy at tq hux sx⊢
   refine⟨q,_,rfl,SqT.of tq,rfl,_,_,rfl,_,_,rfl,_,_,rfl,rfl,?_⟩
   have hlo:=Zgt (g':=nth (gs++[n])) (λq hq=>Zkp hq) (w10.2 i hi i3)
   have hpos:=(hF.2.2 _ (Yz hi))
   have h1:=hlo.1
   walk_at "rd"
   refine⟨ZF hux,da[i],ba[i],Rs[i],L,S[i],_,rfl,sx _ _ m3,sx _ _ l3,l2,by omega,by omega,by omega,by omega,(ZaU _ _).1,λm hG=>?_⟩
   have hnx:=ZiP hlo hG
   refine⟨_,hux,Yv (show _<=1000 by rw[ZS];have:=hF.2.1;omega) (by decide),S'++[m+1],by simp[hSl],λj j1 j2=>?_,by rw[Zb,ZbT];rfl,sx.upd zu⟩
   by_cases e:j<S'.length
   ·rw[YK e];exact hLj j j1 e
   ·have ej:j=i:=by simp at j2;omega
    subst ej
    have e2:(S'++[m+1])[j]'j2=m+1:=by simp[<-hSl]
    rw[e2]
    exact hnx
  ·rintro σ Hx ⟨v4,v5,v6,S',rfl,hSl,hLj,hux,sx⟩
   refine hR _ _ ⟨v4,v5,v6,S',rfl,⟨hSl,λi h1 h2=>?_⟩,hux,sx⟩
   have:=hLj i h1 h2
   rwa [show(gs++[n]).length=gs.length+1 by simp]
 rintro σ H3 ⟨v4,v5,v6,S',rfl,hL,hu3,s3⟩
 obtain⟨dg,dz,bg,bz,gz,lg,lz,N1,N2,N3,N4,N5⟩:=w9
 have nug:u≠g:=λe=>by rw[e,w5]at zu;cases zu
 have nuz:u≠z:=λe=>by rw[e,w6]at zu;cases zu
 have nxg:x≠g:=λe=>by rw[e,w5]at w1;cases w1
 have nxz:x≠z:=λe=>by rw[e,w6]at w1;cases w1
 refine Zaw (fun σ Hx=>σ=[some (.ref x),some (.int n),some (.int (Zx (nth (gs++[n])) gs.length)),some (.ref u),v4,v5,v6]/\Hx=upd H3 g (.lst (gs.map V.int++[V.int n]))) (λR hR=>?_) ?_
 ·walk_at "rd"
  exact⟨dx,_,s3 _ _ w1,_,wF_g d b g z,ZF (s3 _ _ w5),g,rfl,_,s3 _ _ w5,Yv (show _<=1000 by rw[Yf];omega) (by decide),hR _ _ ⟨rfl,rfl⟩⟩
 rintro σ H4 ⟨rfl,rfl⟩
 refine Zaw (fun σ Hx=>σ=[some (.ref x),some (.int n),some (.int (Zx (nth (gs++[n])) gs.length)),some (.ref u),v4,v5,v6]/\Hx=upd (upd H3 g (.lst (gs.map V.int++[V.int n]))) z (.lst ((za++[zl]).map V.ref++[V.ref u]))) (λR hR=>?_) ?_
 ·walk_at "rd"
  have a1:(upd H3 g (.lst (gs.map V.int++[V.int n]))) z=some (.lst ((za++[zl]).map V.ref)):=by rw[Zf gz.symm];exact s3 _ _ w6
  exact⟨dx,_,by rw[Zf nxg];exact s3 _ _ w1,_,wF_z d b g z,ZF a1,z,rfl,_,a1,Yv (show _<=1000 by simp;omega) (by decide),hR _ _ ⟨rfl,rfl⟩⟩
 rintro σ H4 ⟨rfl,rfl⟩
 have keep:∀a o,a≠g->a≠z->H1 a=some o->(upd (upd H3 g (.lst (gs.map V.int++[V.int n]))) z (.lst ((za++[zl]).map V.ref++[V.ref u]))) a=some o:=λa o h1 h2 e=>by rw[Zf h2,Zf h1];exact s3 _ _ e
 have hu4:(upd (upd H3 g (.lst (gs.map V.int++[V.int n]))) z (.lst ((za++[zl]).map V.ref++[V.ref u]))) u=some (.lst (Zr S')):=by rw[Zf nuz,Zf nug];exact hu3
 have hg4:(upd (upd H3 g (.lst (gs.map V.int++[V.int n]))) z (.lst ((za++[zl]).map V.ref++[V.ref u]))) g=some (.lst ((gs++[n]).map V.int)):=by rw[Zf gz,Zb];simp
 have hz4:(upd (upd H3 g (.lst (gs.map V.int++[V.int n]))) z (.lst ((za++[zl]).map V.ref++[V.ref u]))) z=some (.lst ((za++[zl]++[u]).map V.ref)):=by rw[Zb];simp
 generalize upd (upd H3 g (.lst (gs.map V.int++[V.int n]))) z (.lst ((za++[zl]).map V.ref++[V.ref u]))=H4 at keep hu4 hg4 hz4⊢
 have hW4:ZQ N mg H4 x d b g z Rs (gs++[n]) S':=⟨dx,da,ba,za++[zl],u,keep _ _ nxg nxz w1,keep _ _ dg dz w2,keep _ _ bg bz w3,⟨w4.1,w4.2.1,λi h1 h2 h3=>by
  obtain⟨m1,m2,m3,L,l1,l2,l3⟩:=w4.2.2 i h1 h2 h3
  exact⟨m1,m2,keep _ _ m1.1 m1.2 m3,L,l1,l2,keep _ _ m2.1 m2.2 l3⟩⟩,hg4,hz4,by simp[w7],hu4,⟨dg,dz,bg,bz,gz,nug,nuz,N1,N2,hN u zu,N4,N5⟩,hL,λj hj=>by
  by_cases e:j<za.length
  ·obtain⟨S0,⟨c1,c2,c3⟩,c4,c5⟩:=w11 j e
   refine⟨S0,?_⟩
   rw[YK e]
   exact⟨⟨c1,c2,c3⟩,keep _ _ c2 c3 c4,by rw[List.take_append_of_le_length (by omega)];exact c5⟩
  ·have ej:j=za.length:=by simp at hj;omega
   subst ej
   refine⟨S,?_⟩
   have e1:(za++[zl])[za.length]'hj=zl:=by simp
   rw[e1,w7,List.take_left]
   exact⟨⟨N3,lg,lz⟩,keep _ _ lg lz w8,w10⟩⟩
 walk_at "rd"
 refine⟨_,SqL.of hu4,ZfO (n:=Rs.length) (λi acc Hx=>acc=Zr ((List.range i).filter λj=>decide (S'.getD j 0=(Rs.getD j []).length))/\Zh H4 Hx) (Yv (show _<=1000 by have:=hF.2.1;omega) (by decide)) ⟨rfl,Zh.refl _⟩ (λi acc Hx ⟨_,s⟩ hi=>⟨_,_,SqL.of (s _ _ hu4),Yg (by rw[ZS,hL.1];exact hi)⟩) (λacc Hx ⟨_,s⟩=>⟨_,SqL.of (s _ _ hu4),by rw[ZS,hL.1]⟩) ?_ ?_⟩
 ·rintro i v acc Hx Hy hi hla ⟨rfl,sx⟩ ⟨q,y,hq,rfl,rfl,hy⟩
  have i3:i<S'.length:=by rw[hL.1];exact hi
  have i1:i<da.length:=by rw[w4.1];exact hi
  have i2:i<ba.length:=by rw[w4.2.1];exact hi
  have ey:=hy _ (SqL.of (sx _ _ hu4))
  unfold Zr at ey
  rw[Yp,Yg i3]at ey
  cases ey
  obtain⟨m1,m2,m3,_⟩:=w4.2.2 i i1 i2 hi
  have m4:=keep _ _ m1.1 m1.2 m3
  have gq:=(Zh.refl Hx).upd (o:=.tup [.int (i:Int),.int (S'[i]:Nat)]) hq
  have tq:(upd Hx q (.tup [.int (i:Int),.int (S'[i]:Nat)])) q=some (.tup [.int (i:Int),.int (S'[i]:Nat)]):=Zb
  replace sx:=sx.trans gq
  generalize upd Hx q (.tup [.int (i:Int),.int (S'[i]:Nat)])=Hz at tq sx⊢
  refine⟨q,_,rfl,SqT.of tq,rfl,_,_,rfl,_,_,rfl,rfl,?_⟩
  obtain⟨dx4,da4,_,_,_,x1,x2,_⟩:=id hW4
  have hd4:=sx _ _ (keep _ _ dg dz w2)
  have el:((ZJ Rs[i]).map V.int).length=Rs[i].length:=by rw[Yf,Z5]
  have eg:S'.getD i 0=S'[i]:=by simp[i3]
  have eR:(Rs.getD i [])=Rs[i]:=by simp[hi]
  walk_at "rd"
  refine⟨dx4,_,sx _ _ x1,_,wF_d d b g z,d,rfl,_,SqL.of hd4,_,Zhn (by rw[Yp,Yg i1];rfl),da[i],rfl,_,.inl (SqL.of (sx _ _ m4)),?_⟩
  rw[el]
  refine Z4 (λw=>CA.take hi hla ⟨?_,sx⟩) λw=>CA.skip hi hla ⟨?_,sx⟩
  ·rw[YJ,List.filter_append,ZbT]
   have:List.filter (λj=>decide (S'.getD j 0=(Rs.getD j []).length)) [i]=[i]:=by simp only[List.filter_cons,List.filter_nil,eg,eR];rw[Yd (YW (by omega))]
   rw[this];rfl
  ·rw[YJ,List.filter_append]
   have:List.filter (λj=>decide (S'.getD j 0=(Rs.getD j []).length)) [i]=[]:=by simp only[List.filter_cons,List.filter_nil,eg,eR];rw[Yb (by simp only[decide_eq_true_eq];omega)]
   rw[this,List.append_nil]
 ·rintro c acc Hx ⟨rfl,sx⟩ _ hc
  have gc:=sx.ZaL (o:=.lst (Zr ((List.range Rs.length).filter λj=>decide (S'.getD j 0=(Rs.getD j []).length)))) hc
  refine k1 c S' _ ?_ Zb ?_ λa o h1 h2 e=>gc _ _ (keep a o h1 h2 e)
  ·have ncg:c≠g:=λe=>by rw[e,sx _ _ hg4]at hc;cases hc
   have ncz:c≠z:=λe=>by rw[e,sx _ _ hz4]at hc;cases hc
   rcases e:H1 c with _|o
   ·rfl
   ·rw[sx _ _ (keep c o ncg ncz e)]at hc;cases hc
  ·obtain⟨dx5,da5,ba5,za5,zl5,y1,y2,y3,y4,y5,y6,y7,y8,y9,y10,y11⟩:=hW4
   exact⟨dx5,da5,ba5,za5,zl5,gc _ _ y1,gc _ _ y2,gc _ _ y3,y4.same gc,gc _ _ y5,gc _ _ y6,y7,gc _ _ y8,y9,y10,λj hj=>(y11 j hj).elim λS0 ⟨c1,c2,c3⟩=>⟨S0,c1,gc _ _ c2,c3⟩⟩
theorem ZjB {f:Addr}{fd:FuncData} (F:Fun K "_law_rows" "_law_rows" Zbw f fd) (Zm:Callee P w K mg base "_law_take" 1 ["pot","many"] (ZbA K mg)) (Zfz:Callee P w K mg base "_law_row" 2 ["pot","most"] (sp__law_row K mg)) (T:Txt K mg):FnOk P w K mg base (CXE P w) 3 f fd ["pot"] (ZdL K mg):=by
 refine F.okX ZbD (λvs H Q E h=>?_) (λcdv A outer s H vs Q E hr h=>?_)
 ·obtain⟨p,rfl,_⟩:=h;rfl
 obtain⟨p,rfl,hP,k1⟩:=h
 refine⟨_,(Zd (Zq (i:=1) ZbD.nd rfl (Or.inl rfl) (ZK Zc))
   (Zd (Z2 (Zau PassesOwn.never rfl (ZaC rfl T.b_range (Za (Zah ZP (ZK (Za (Zn ZV Ze (Zi Zm (hr.mono (by decide)) rfl Zu (Za (pv 0) (Za Ze Zc)))) (Za Ze Zc))) (Zn Zej (Zi Zm (hr.mono (by decide)) rfl Zu (Za (pv 0) (Za Ze Zc))) Ze) (λ_ _=>rfl)) Zc)) (Zo (i:=2) ZbD.nd rfl (Or.inl rfl)) (Zd (Zq (i:=3) ZbD.nd rfl (Or.inl rfl) (Zi Zfz (hr.mono (by decide)) rfl Zu (Za (pv 0) (Za (Zah ZhA (Zff (Za Ze (Za Ze (Za Ze (Za Ze Zc))))) (Zi Zm (hr.mono (by decide)) rfl Zu (Za (pv 0) (Za Ze Zc))) (λ_ _=>rfl)) Zc))))
   (Zd (Zag (PW.pt (Zgd (Zt (Zgk (K:=K) rfl hr) (pv 1) (ZK Zc) (Zy _)) (ZeZ (Zt ZdY (Zi Zm (hr.mono (by decide)) rfl Zu (Za (pv 0) (Za Ze Zc))) Ze (Zy _))))) (Zg (Zq (i:=3) ZbD.nd rfl (Or.inl rfl) (Zn Zla (ZaB Za9 (Zdr (Zle (K:=K) rfl) rfl T.b_list Zjj (Za (Zah ZP (pv 1) (Zi Zm (hr.mono (by decide)) rfl Zu (Za (pv 0) (Za (Zk (Zl (K:=K) rfl) rfl T.b_len Yn (Za (pv 1) Zc)) Zc))) (λ_ _=>rfl)) Zc)) ZcZ (Zam (Zn ZV Ze (Zi Zm (hr.mono (by decide)) rfl Zu (Za (pv 0) (Za Ze Zc)))))) (ZaB Za9 (pv 3) ZcZ (Zam (Zn Zb6 Ze (Zi Zm (hr.mono (by decide)) rfl Zu (Za (pv 0) (Za Ze Zc))))))))) ZW)
   (Zg (ZA (Za0 PySem.F.plainAttrs_list PySem.F.slot_list_append PySem.F.type_list_append ZM (pv 1) (Za (ZaB Za9 (Zn Zla (pv 3) (Zn Zjf (ZK (Za (Zi Zm (hr.mono (by decide)) rfl Zu (Za (pv 0) (Za Ze Zc))) Zc)) Ze)) ZcZ (Zam (Zk (Zge rfl) rfl T.b_max Zgi (Za Ze (Za (Zk (Zgf rfl) rfl T.b_min Zji (Za (Zk (Zl (K:=K) rfl) rfl T.b_len Yn (Za (pv 3) Zc)) (Za Ze Zc))) Zc))))) Zc))))))))
   (Zg (ZC (pv 1))))),?_⟩
 walk_at "rd"
 refine⟨Yr _,λq hq=>⟨p,_,rfl,by decide,by decide,hP.upd hq,λx H1 x0 x1 P1 e1=>⟨x,rfl,by decide,λc hc=>⟨p,_,rfl,by decide,by decide,P1.upd hc,λy H2 y0 y1 P2 e2=>⟨y,rfl,⟨by decide,by decide⟩,_,SqL.of (e2 c _ (P1.ne hc) Zb),?_⟩⟩⟩⟩⟩
 have nqp:q≠p:=hP.ne hq
 obtain⟨v,hv,n,rfl,n0,n1⟩:=ZfL (xs:=[V.int (1+x),V.int 12]) (i:=y / 7) (λv=>∃n:Int,v=V.int n/\0<n/\n<=12) (by omega) (by show _<((2:Nat):Int);omega) (by
  intro u hu
  simp only[Yk,List.not_mem_nil,or_false]at hu
  rcases hu with rfl|rfl<;>exact⟨_,rfl,by omega,by omega⟩)
 have hq1:=e2 q _ nqp (((Zh.refl H1).upd (o:=.lst [V.int (1+x),V.int 12]) hc) _ _ (e1 q _ nqp Zb))
 have e01:Exc p H H2:=((((Zh.refl H).upd (o:=.lst []) hq).ZfM.trans e1).same ((Zh.refl H1).upd hc)).trans e2
 clear hc e1 e2 P1 H1
 refine⟨_,hv,n,rfl,by omega,by omega,?_⟩
 obtain⟨t,ht⟩:∃t:Nat,n.toNat=t/\0<t/\t<=12:=⟨_,rfl,by omega,by omega⟩
 rw[ht.1]
 refine ZbR (λi σ Hx=>∃(v2 v3:Option V) (Rs:List (List Int)),σ=[some (.ref p),some (.ref q),v2,v3]/\Zc0 q Hx p Rs/\Rs.length=i/\(∀R∈Rs,0<R.length/\R.length<=12)/\ZR Hx p/\Exc p H Hx) ⟨_,_,[],rfl,?_,rfl,by simp,P2,e01⟩ ?_ ?_
 ·exact⟨[],hq1,rfl,λi i1=>absurd i1 (by simp)⟩
 ·rintro i σ Hx hi ⟨v2,v3,Rs,rfl,hRs,hlen,hbd,P2,e2⟩
  refine Zaw (fun σ Hy=>∃(r:Addr) (R:List Int),σ=[some (.ref p),some (.ref q),some (.int (0+(i:Int))),some (.ref r)]/\Hy r=some (.lst (R.map V.int))/\R.length<=12/\r≠p/\ZR Hy p/\Exc p Hx Hy) (λR hR=>?_) ?_
  ·walk_at "rd"
   refine⟨by decide,λu hu=>⟨p,_,rfl,by decide,by decide,P2.upd hu,λd H3 d0 d1 P3 e3=>?_⟩⟩
   have hu3:=e3 u _ (P2.ne hu) Zb
   have gu:Exc p Hx H3:=((Zh.refl Hx).upd (o:=.tup [V.int 4,V.int 7,V.int 12,V.int 12]) hu).ZfM.trans e3
   obtain⟨v,hv,y,rfl,y0,y1⟩:=ZfL (xs:=[V.int 4,V.int 7,V.int 12,V.int 12]) (i:=d) (λv=>∃y:Int,v=V.int y/\0<=y/\y<=12) d0 d1 (by
    intro x hx
    simp at hx
    rcases hx with rfl|rfl|rfl|rfl<;>exact⟨_,rfl,by decide,by decide⟩)
   refine⟨_,_,rfl,SqT.of hu3,_,hv,p,y,rfl,y0,by omega,P3,λr ns H4 zr hl hr4 P4 e4=>hR _ _ ⟨r,ns,rfl,hr4,by omega,P3.ne zr,P4,gu.trans e4⟩⟩
  rintro σ Hy ⟨r,R,rfl,hr1,r1,nrp,P3,e3⟩
  have hRs3:=hRs.exc nqp e3
  have e23:=e2.trans e3
  clear hRs e2 e3 P2 Hx
  refine Zaw (fun σ Hx=>∃(r:Addr) (R:List Int),σ=[some (.ref p),some (.ref q),some (.int (0+(i:Int))),some (.ref r)]/\Hx r=some (.lst (R.map V.int))/\R.length<=100/\r≠p/\ZR Hx p/\Exc p Hy Hx) (λR' hR=>?_) ?_
  ·walk_at "rd"
   refine⟨Yr _,λu hu=>?_⟩
   have gu:=(Zh.refl Hy).upd (o:=.lst []) hu
   obtain⟨as,b1,b2,b3⟩:=id hRs3
   refine⟨_,Zdt (n:=2) (gu _ _ b1) Zb,Z4 (λz=>?_) λz=>hR _ _ ⟨r,R,rfl,gu _ _ hr1,by omega,nrp,P3.same gu,gu.ZfM⟩⟩
   refine⟨p,_,rfl,by decide,by decide,P3.same gu,λd H4 d0 d1 P4 e4=>⟨rfl,Z4 (λ_=>?_) λ_=>hR _ _ ⟨r,R,rfl,e4 _ _ nrp (gu _ _ hr1),by omega,nrp,P4,gu.ZfM.trans e4⟩⟩⟩
   have hpos:0<as.length:=by
    rcases Nat.eq_zero_or_pos as.length with y|y
    ·rw[List.length_eq_zero_iff.mp y]at z;simp at z
    ·exact y
   have ela:(as.map V.ref).length=as.length:=Yf ..
   refine⟨_,.inl (SqL.of (e4 _ _ nqp (gu _ _ b1))),?_⟩
   rw[ela]
   refine⟨p,_,rfl,by omega,by omega,P4,λd2 H5 d20 d21 P5 e5=>?_⟩
   obtain⟨j,rfl⟩:=YX d20
   have hj:j<as.length:=by omega
   obtain⟨⟨n1,n2⟩,c1⟩:=b3 j hj (by omega)
   have bq5:=e5 _ _ nqp (e4 _ _ nqp (gu _ _ b1))
   have c5:=e5 _ _ n1 (e4 _ _ n1 (gu _ _ c1))
   have hr5:=e5 _ _ nrp (e4 _ _ nrp (gu _ _ hr1))
   have e05:Exc p Hy H5:=(gu.ZfM.trans e4).trans e5
   refine⟨_,_,rfl,SqL.of bq5,_,Zgj rfl (by simpa using hj),as[j],by simp,_,.inl (SqL.of c5),λl hl=>?_⟩
   have g6:=(Zh.refl H5).upd (o:=.lst ((Rs[j]'(by omega)).map V.int)) hl
   refine⟨p,_,rfl,by decide,by decide,P5.upd hl,λd3 H6 d30 d31 P6 e6=>⟨_,rfl,_,SqL.of (e6 _ _ (P5.ne hl) Zb),λl2 hl2=>?_⟩⟩
   obtain⟨m3,rfl⟩:=YX d30
   have ec:ZcD ((Rs[j]'(by omega)).map V.int) none (some (1+(m3:Int)))=((Rs[j]'(by omega)).take (1+m3)).map V.int:=by
    rw[show(1+(m3:Int))=((1+m3:Nat):Int) by omega,Zgl];simp
   rw[ec]
   have g7:=(Zh.refl H6).upd (o:=.lst (((Rs[j]'(by omega)).take (1+m3)).map V.int)) hl2
   refine⟨p,_,rfl,by decide,by decide,P6.upd hl2,λd4 H7 d40 d41 P7 e7=>⟨_,rfl,ZiH (by decide) (by decide),_,SqL.of (e7 _ _ nrp (g7 _ _ (e6 _ _ nrp (g6 _ _ hr5)))),λl3 hl3=>?_⟩⟩
   obtain⟨m4,rfl⟩:=YX d40
   have ec2:ZcD (R.map V.int) none (some (2*(m4:Int)))=(R.take (2*m4)).map V.int:=by
    rw[show(2*(m4:Int))=((2*m4:Nat):Int) by omega,Zgl];simp
   rw[ec2]
   have g8:=(Zh.refl H7).upd (o:=.lst ((R.take (2*m4)).map V.int)) hl3
   have hb:=hbd _ (Yz (show j<Rs.length by omega))
   refine⟨_,g8 _ _ (e7 _ _ (P6.ne hl2) Zb),_,Zb,Yj (show _<=1000 by simp;omega) (by decide),λl4 hl4=>?_⟩
   rw[<-YB]
   exact hR _ _ ⟨l4,_,rfl,Zb,by simp;omega,(P7.same g8).ne hl4,(P7.same g8).upd hl4,((((((e05.same g6).trans e6).same g7).trans e7).same g8).same ((Zh.refl _).upd hl4))⟩
  clear hr1 r1 nrp r R
  rintro σ Hx ⟨r,R,rfl,hr1,r1,nrp,P4,e4⟩
  have hRs4:=hRs3.exc nqp e4
  obtain⟨as,b1,b2,b3⟩:=id hRs4
  walk_at "rd"
  refine⟨ZF b1,p,_,rfl,by decide,by decide,P4,λd H5 d0 d1 P5 e5=>⟨by decide,λl hl=>?_⟩⟩
  have g1:=(Zh.refl H5).upd (o:=.lst [V.int d]) hl
  refine⟨_,Zb,by decide,by decide,(by show 1*12<=sizeLine;decide),λl2 hl2=>?_⟩
  have ef:(List.replicate (Int.toNat 12) [V.int d]).flatten=(List.replicate 12 d).map V.int:=by
   rw[show Int.toNat 12=12 from rfl,List.map_replicate]
   simp[List.flatten_replicate_singleton]
  rw[ef]
  have g2:=g1.ZaL (o:=.lst ((List.replicate 12 d).map V.int)) hl2
  have hr5:=e5 _ _ nrp hr1
  refine⟨_,g2 _ _ hr5,_,Zb,Yj (show _<=1000 by simp;omega) (by decide),λl3 hl3=>?_⟩
  rw[<-YB]
  have g3:=g2.ZaL (o:=.lst ((R++List.replicate 12 d).map V.int)) hl3
  refine⟨_,.inl (SqL.of (g3 _ _ hr5)),_,SqL.of Zb,λl4 hl4=>?_⟩
  have eR:(R.map V.int).length=R.length:=Yf ..
  rw[eR]
  obtain⟨m,hm,m0,m1,m2⟩:∃m:Nat,(if (if (12:Int)<(R.length:Int)then (12:Int)else (R.length:Int))>1 then (if (12:Int)<(R.length:Int)then (12:Int)else (R.length:Int))else 1)=(m:Int)/\0<m/\m<=12/\m<=R.length+12:=by
   refine⟨max 1 (min R.length 12),?_,by omega,by omega,by omega⟩
   split<;>split<;>omega
  rw[hm]
  have ec:ZcD ((R++List.replicate 12 d).map V.int) none (some (m:Int))=((R++List.replicate 12 d).take m).map V.int:=by rw[Zgl];simp
  rw[ec]
  have g4:=g3.ZaL (o:=.lst (((R++List.replicate 12 d).take m).map V.int)) hl4
  have hq5:=g4 _ _ (e5 _ _ nqp b1)
  have hRs6:Zc0 q _ p Rs:=(hRs4.exc nqp e5).same g4
  have lt:((R++List.replicate 12 d).take m).length=m:=by simp;omega
  refine⟨_,hq5,Yv (show _<=1000 by rw[Yf,b2];omega) (by decide),Rs++[(R++List.replicate 12 d).take m],hRs6.push hq5 Zb ⟨((P5.same g3)).ne hl4,(Zj (g3 _ _ (e5 _ _ nqp b1)) hl4).symm⟩,by simp[hlen],λR' hm'=>?_,(P5.same g4).ZhE nqp,(((e23.trans e4).trans e5).same g4).ZhE hq⟩
  rcases Yy.mp hm' with y|y
  ·exact hbd R' y
  ·rw[YG.mp y,lt];exact⟨m0,m1⟩
 ·rintro σ Hx ⟨v2,v3,Rs,rfl,hRs,hlen,hbd,P2,e2⟩
  walk_at "rd"
  refine k1 q Rs Hx hq nqp ⟨by omega,by omega,hbd⟩ ?_ P2 e2
  obtain⟨as,b1,b2,b3⟩:=hRs
  exact⟨as,b1,b2,λi i1 i2=>⟨(b3 i i1 i2).1.1,(b3 i i1 i2).2⟩⟩
theorem ZhQ {f:Addr}{fd:FuncData} (F:Fun K "_law_stream" "_law_stream" ZaE f fd) (Zm:Callee P w K mg base "_law_take" 1 ["pot","many"] (ZbA K mg)) (T:Txt K mg):FnOk P w K mg base (CXE P w) 2 f fd ["pot","rows"] (ZcL K mg):=by
 refine F.okX ZaP (λvs H Q E h=>?_) (λcdv A outer s H vs Q E hr h=>?_)
 ·obtain⟨p,q,Rs,rfl,_⟩:=h;rfl
 obtain⟨p,q,Rs,rfl,hP,hq,nqp,hF,k1⟩:=h
 refine⟨_,(Zd (Zq (i:=2) ZaP.nd rfl (Or.inl rfl) (Zah ZhA (Zff (Za Ze (Za Ze (Za Ze Zc)))) (Zi Zm (hr.mono (by decide)) rfl Zu (Za (pv 0) (Za Ze Zc))) (λ_ _=>rfl)))
   (Zd (Zq (i:=3) ZaP.nd rfl (Or.inl rfl) (ZK Zc))
   (Zd (Z2 (Zec PassesOwn.never (Zt Ze8 (Zk (Zl (K:=K) rfl) rfl T.b_len Yn (Za (pv 3) Zc)) (pv 2) (Zy _)) (Zd (Zq (i:=4) ZaP.nd rfl (Or.inl rfl) (Zah ZP (pv 1) (Zi Zm (hr.mono (by decide)) rfl Zu (Za (pv 0) (Za (Zk (Zl (K:=K) rfl) rfl T.b_len Yn (Za (pv 1) Zc)) Zc))) (λ_ _=>rfl)))
   (Zd (Zq (i:=5) ZaP.nd rfl (Or.inr rfl) (Zi Zm (hr.mono (by decide)) rfl Zu (Za (pv 0) (Za Ze Zc))))
   (Zg (Zag (Zt Ze8 (pv 5) Ze (Zy _)) (Zg (ZA (Za0 PySem.F.plainAttrs_list PySem.F.slot_list_extend PySem.F.type_list_extend ZiC (pv 3) (Za (Zap ["number","turn"] [none,some 5] rfl rfl rfl (Zbz (pv 4)) (λ_ _ _ _ _=>(Zo (i:=0) (show(["number","turn"]:List Str).Nodup from by decide +kernel) rfl (Or.inl rfl))) (λ_ _ _ _ _=>Za6) (λ_ _ _ _ _=>(Zn ZV (Zn Zb6 (Zn ZV (pv 1) Ze) (pv 0)) (pv 1))) ZO) Zc)))) (Zg (ZA (Za0 PySem.F.plainAttrs_list PySem.F.slot_list_extend PySem.F.type_list_extend ZiC (pv 3) (Za (Zap ["k","pot"] [none,some 0] rfl rfl rfl (ZaC rfl T.b_range (Za (Zn ZV Ze (Zi Zm (hr.mono (by decide)) rfl Zu (Za (pv 0) (Za Ze Zc)))) Zc)) (λ_ _ _ _ _=>(Zo (i:=0) (show(["k","pot"]:List Str).Nodup from by decide +kernel) rfl (Or.inl rfl))) (λ_ _ _ _ _=>Za6) (λ_ _ _ _ _=>(Zn Zbj (Zi Zm (hr.mono (by decide)) rfl Zu (Za (pv 1) (Za Ze Zc))) Ze)) ZO) Zc))))))))))
   (Zg (ZC (ZaB Za9 (pv 3) ZcZ (Zam (Zi Zm (hr.mono (by decide)) rfl Zu (Za (pv 0) (Za (Zn ZV (pv 2) Ze) Zc)))))))))),?_⟩
 walk_at "rd"
 refine⟨by decide,λu hu=>⟨p,_,rfl,by decide,by decide,hP.upd hu,λd H1 d0 d1 P1 e1=>?_⟩⟩
 have hu1:=e1 u _ (hP.ne hu) Zb
 have ee:Exc p H H1:=((Zh.refl H).upd (o:=.tup [V.int 12,V.int 25,V.int 60]) hu).ZfM.trans e1
 obtain⟨v,hv,most,rfl,m0,m1⟩:=ZfL (xs:=[V.int 12,V.int 25,V.int 60]) (i:=d) (λv=>∃y:Int,v=V.int y/\0<=y/\y<=60) d0 d1 (by
  intro x hx
  simp at hx
  rcases hx with rfl|rfl|rfl<;>exact⟨_,rfl,by decide,by decide⟩)
 refine⟨_,_,rfl,SqT.of hu1,_,hv,Yr _,λg hg=>?_⟩
 have ngp:g≠p:=P1.ne hg
 have zg:H g=none:=ee.free ngp hg
 have ngq:g≠q:=by
  obtain⟨_,b1,_⟩:=hq
  exact λz=>by rw[z,b1]at zg;cases zg
 refine Zl0 (λm σ Hx=>∃(gs:List Int) (v4 v5:Option V),σ=[some (.ref p),some (.ref q),some (.int most),some (.ref g),v4,v5]/\m=100-gs.length/\gs.length<=80/\Hx g=some (.lst (gs.map V.int))/\ZR Hx p/\Exc p H Hx) 100 ⟨[],none,none,rfl,rfl,by simp,Zb,P1.upd hg,ee.same ((Zh.refl H1).upd hg)⟩ ?_
 clear hu1 hv P1 ee e1 hg H1
 rintro m σ Hx ⟨gs,v4,v5,rfl,rfl,hl,hgx,Px,ex⟩
 have eG:(gs.map V.int).length=gs.length:=Yf ..
 have hqx:=hq.pot nqp ex
 obtain⟨as,b1,b2,b3⟩:=id hqx
 have eA:(as.map V.ref).length=as.length:=Yf ..
 have hF1:=hF.1
 have hF2:=hF.2.1
 walk_at "rd"
 refine⟨_,.inl (SqL.of hgx),?_⟩
 rw[eG]
 refine Z4 (λc=>?_) λc=>?_
 ·refine⟨fun σ' Hy=>∃(gs':List Int) (v4 v5:Option V),σ'=[some (.ref p),some (.ref q),some (.int most),some (.ref g),v4,v5]/\gs.length<gs'.length/\gs'.length<=80/\Hy g=some (.lst (gs'.map V.int))/\ZR Hy p/\Exc p H Hy,fun σ' Hy ⟨gs',w4,w5,h1,h2,h3,h4,h5,h6⟩=>⟨100-gs'.length,by omega,gs',w4,w5,h1,rfl,h3,h4,h5,h6⟩,?_⟩
  refine⟨_,.inl (SqL.of b1),?_⟩
  rw[eA]
  refine⟨p,_,rfl,by omega,by omega,Px,λd2 H5 d20 d21 P5 e5=>?_⟩
  obtain⟨j,rfl⟩:=YX d20
  have hj:j<as.length:=by omega
  obtain⟨n1,c1⟩:=b3 j hj (by omega)
  have hb:=hF.2.2 _ (Yz (show j<Rs.length by omega))
  refine⟨_,_,rfl,SqL.of (e5 _ _ nqp b1),_,Zgj rfl (by simpa using hj),p,_,rfl,by decide,by decide,P5,λd H6 d0 d1 P6 e6=>⟨d,rfl,?_⟩⟩
  have hr6:=e6 _ _ n1 (e5 _ _ n1 c1)
  have hg6:=e6 _ _ ngp (e5 _ _ ngp hgx)
  have ex6:=(ex.trans e5).trans e6
  clear e5 e6 P5 hgx b1 c1 hqx b3
  generalize (Rs[j]'(by omega))=R at hr6 hb
  refine Z4 (λc3=>⟨ZF hg6,as[j],by simp,⟨_,SqL.of hr6⟩,?_⟩) λc3=>⟨ZF hg6,p,_,rfl,by decide,by decide,P6,λd3 H7 d30 d31 P7 e7=>⟨_,rfl,by omega,by omega,?_⟩⟩
  ·refine comp_map (n:=R.length) (λk=>V.int ((d+1)*nth R k+d)) (Yv (show _<=1000 by omega) (by decide)) (λj Hx s hj=>⟨_,_,SqL.of (s _ _ hr6),Yg (by simpa using hj)⟩) (λHx s=>⟨_,SqL.of (s _ _ hr6),by simp⟩) ?_ ?_
   ·rintro k x Hy Hz hk s ⟨rfl,hx⟩
    have ex:=hx _ (SqL.of (s _ _ hr6))
    rw[Yp,Yg hk]at ex
    cases ex
    have eg:R[k]=nth R k:=by simp[nth,Yw,hk]
    rw[eg]
    walk_at "rd"
    exact⟨ZiH (by omega) (by omega),CW.next hk rfl s⟩
   ·intro l Hy s hl
    have em:(List.range R.length).map (λk=>V.int ((d+1)*nth R k+d))=((List.range R.length).map λk=>(d+1)*nth R k+d).map V.int:=by rw[YS];rfl
    rw[em]
    have hg7:=s _ _ hg6
    refine⟨l,rfl,_,by rw[Zf (Zj hg7 hl)];exact hg7,_,Zb,Yj (show _<=1000 by simp;omega) (by decide),gs++(List.range R.length).map (λk=>(d+1)*nth R k+d),_,_,rfl,by simp;omega,by simp;omega,by rw[Zb,YB],(((P6.same s).upd hl)).ZhE ngp,((ex6.same s).same ((Zh.refl Hy).upd hl)).ZhE zg⟩
  ·obtain⟨m3,rfl⟩:=YX d30
   have en:(1+(m3:Int)).toNat=1+m3:=by omega
   rw[en]
   have hg7:=e7 _ _ ngp hg6
   refine ZfO (n:=1+m3) (λk acc Hz=>∃bs:List Int,acc=bs.map V.int/\bs.length=k/\Hz g=some (.lst (gs.map V.int))/\ZR Hz p/\Exc p H Hz) (Yv (show _<=1000 by omega) (by decide)) ⟨[],rfl,rfl,hg7,P7,ex6.trans e7⟩ (λk acc Hz _ hk=>hk) (λacc Hz _=>Ye _) ?_ ?_
   ·rintro k x acc Hy Hz hk hla ⟨bs,rfl,hbl,hgy,Py,ey⟩ ⟨rfl,rfl⟩
    walk_at "rd"
    exact⟨p,_,rfl,by decide,by decide,Py,λd5 H8 d50 d51 P8 e8=>⟨_,rfl,CA.take hk hla ⟨bs++[d5-2],by simp,by simp[hbl],e8 _ _ ngp hgy,P8,ey.trans e8⟩⟩⟩
   ·rintro l acc Hy ⟨bs,rfl,hbl,hgy,Py,ey⟩ _ hl
    refine⟨l,rfl,_,by rw[Zf (Zj hgy hl)];exact hgy,_,Zb,Yj (show _<=1000 by simp;omega) (by decide),gs++bs,_,_,rfl,by simp;omega,by simp;omega,by rw[Zb,YB],(Py.upd hl).ZhE ngp,(ey.same ((Zh.refl Hy).upd hl)).ZhE zg⟩
 ·refine⟨p,_,rfl,by omega,by omega,Px,λd H5 d0 d1 P5 e5=>?_⟩
  obtain⟨n,rfl⟩:=YX d0
  refine⟨_,rfl,_,SqL.of (e5 _ _ ngp hgx),λl hl=>?_⟩
  rw[Zgl,<-List.map_take]
  exact k1 l (gs.take n) _ (ex.trans e5 |>.free (P5.ne hl) hl) (by rw[YO];omega) Zb (P5.upd hl) ((ex.trans e5).same ((Zh.refl H5).upd hl))
theorem Zfw {f:Addr}{fd:FuncData} (F:Fun K "take_back" "Watch.take_back" ZZ f fd) (T:Txt K mg):FnOk P w K mg base (CXE P w) 1 f fd ["self"] (Zbn K mg):=by
 refine F.okX Zft (λvs H Q E h=>?_) (λcdv A outer s H vs Q E hr h=>?_)
 ·obtain⟨N,x,d,b,g,z,Rs,gs,S,rfl,_⟩:=h;rfl
 obtain⟨N,x,d,b,g,z,Rs,gs,S,rfl,hW,hl,k1,k2⟩:=h
 refine⟨_,(Zd (Zag (Zi5 (ZjU (Zbb (K:=K) rfl T.cl_Watch T.n_Watch_given (pv 0)) (λ_=>rfl))) (Zg (ZfJ rfl rfl T.c_NoPast T.x_NoPast (Za Zob Zc) Zhp)) ZW)
   (Zd (ZA (Zor PySem.F.plainAttrs_list PySem.F.slot_list_pop PySem.F.type_list_pop Zos (Zbb (K:=K) rfl T.cl_Watch T.n_Watch_sizes (pv 0))))
   (Zg (ZC (Zor PySem.F.plainAttrs_list PySem.F.slot_list_pop PySem.F.type_list_pop Zos (Zbb (K:=K) rfl T.cl_Watch T.n_Watch_given (pv 0))))))),?_⟩
 obtain⟨dx,da,ba,za,zl,w1,w2,w3,w4,w5,w6,w7,w8,w9,w10,w11⟩:=hW
 walk_at "rd"
 rcases snoc_cases gs with rfl|⟨gs0,n,rfl⟩
 ·exact⟨dx,_,w1,_,wF_g d b g z,false,.inl ⟨_,SqL.of w5,rfl⟩,Z4 (λ_=>⟨by decide,k1 rfl⟩) λz=>absurd rfl z⟩
 obtain⟨dg,dz,bg,bz,gz,lg,lz,N1,N2,N3,N4,N5⟩:=w9
 have nxg:x≠g:=λe=>by rw[e,w5]at w1;cases w1
 have nxz:x≠z:=λe=>by rw[e,w6]at w1;cases w1
 rcases snoc_cases za with rfl|⟨za0,zl0,rfl⟩
 ·simp at w7
 have e1:((za0++[zl0]++[zl]).map V.ref).dropLast=(za0++[zl0]).map V.ref:=by rw[YB];simp
 have e2:((gs0++[n]).map V.int).dropLast=gs0.map V.int:=by rw[YB];simp
 have l1:za0.length=gs0.length:=by simpa using w7
 obtain⟨S0,⟨c1,c2,c3⟩,c4,c5⟩:=w11 za0.length (by simp)
 have ez:(za0++[zl0])[za0.length]'(by simp)=zl0:=by simp
 rw[ez]at c1 c2 c3 c4
 rw[l1,List.take_left]at c5
 have hg1:(upd H z (.lst ((za0++[zl0]).map V.ref))) g=some (.lst ((gs0++[n]).map V.int)):=by rw[Zf gz];exact w5
 refine⟨dx,_,w1,_,wF_g d b g z,true,.inl ⟨_,SqL.of w5,by simp⟩,Z4 (λz=>nomatch z) λ_=>⟨dx,_,w1,_,wF_z d b g z,ZF w6,z,rfl,_,w6,V.ref zl,by simp,?_⟩⟩
 rw[e1]
 refine⟨dx,_,by rw[Zf nxz];exact w1,_,wF_g d b g z,ZF hg1,g,rfl,_,hg1,V.int n,by simp,?_⟩
 rw[e2]
 have keep:∀a o,a≠g->a≠z->H a=some o->(upd (upd H z (.lst ((za0++[zl0]).map V.ref))) g (.lst (gs0.map V.int))) a=some o:=λa o h1 h2 e=>by rw[Zf h1,Zf h2];exact e
 refine k2 gs0 n rfl S0 _ ⟨dx,da,ba,za0,zl0,keep _ _ nxg nxz w1,keep _ _ dg dz w2,keep _ _ bg bz w3,⟨w4.1,w4.2.1,λi h1 h2 h3=>?_⟩,Zb,by rw[Zf gz.symm];exact Zb,l1,keep _ _ c2 c3 c4,⟨dg,dz,bg,bz,gz,c2,c3,N1,N2,c1,N4,N5⟩,c5,λj hj=>?_⟩ keep
 ·obtain⟨m1,m2,m3,L,l1,l2,l3⟩:=w4.2.2 i h1 h2 h3
  exact⟨m1,m2,keep _ _ m1.1 m1.2 m3,L,l1,l2,keep _ _ m2.1 m2.2 l3⟩
 ·obtain⟨S1,⟨d1,d2,d3⟩,d4,d5⟩:=w11 j (by simp;omega)
  rw[YK hj]at d1 d2 d3 d4
  rw[List.take_append_of_le_length (by omega)]at d5
  exact⟨S1,⟨d1,d2,d3⟩,keep _ _ d2 d3 d4,d5⟩
theorem Zls (xs:List Int):(xs.map (Sum.inl:Int->Key)).map kV=xs.map V.int:=by rw[YS];rfl
theorem Zlt:∀{xs ys:List Int},xs.map (Sum.inl:Int->Key)=ys.map Sum.inl->xs=ys
 |[],[],_=>rfl
 |[],_::_,h=>by cases h
 |_::_,[],h=>by cases h
 |x::xs,y::ys,h=>by
  rw[YD,YD]at h
  injection h with h1 h2
  injection h1 with h1
  rw[h1,Zlt h2]
noncomputable def Zdj (H0 H:Hp) (p:Addr) (ns:List Int) (c j:Nat):Prop:=∃(kvs:List (List Key×V)) (as:List Addr),H p=some (.dT kvs)/\kvs.map (·.1)=(Zp (Zw ns c) j).map (λf=>(Z9 ns c f).map Sum.inl)/\kvs.map (·.2)=as.map V.ref/\as.Nodup/\(∀i (h1:i<as.length) (h2:i<(Zp (Zw ns c) j).length),H as[i]=some (.lst (Zr (Zd9 (Zw ns c) j (Zp (Zw ns c) j)[i]))))/\(∀a∈as,H0 a=none)
theorem Zdj.same {H0 H H':Hp}{p:Addr}{ns:List Int}{c j:Nat} (h:Zdj H0 H p ns c j) (s:Zh H H'):Zdj H0 H' p ns c j:=by
 obtain⟨kvs,as,h1,h2,h3,h4,h5,h6⟩:=h
 exact⟨kvs,as,s _ _ h1,h2,h3,h4,λi a b=>s _ _ (h5 i a b),h6⟩
theorem Zz {ns:List Int}{c a b:Nat}:Zw ns c a b=true↔Z9 ns c a=Z9 ns c b:=decide_eq_true_iff
theorem Zm3 {ns:List Int}{c j f g:Nat} (hf:f∈Zp (Zw ns c) j) (hg:g∈Zp (Zw ns c) j) (e:Z9 ns c f=Z9 ns c g):f=g:=by
 have h1:=(Zai.mp hf).2
 have h2:=(Zai.mp hg).2
 rcases Nat.lt_trichotomy f g with h|h|h
 ·have:=h2 f h;rw[Zz.mpr e]at this;cases this
 ·exact h
 ·have:=h1 g h;rw[Zz.mpr e.symm]at this;cases this
theorem Zfo (xs:List Nat) (j:Nat):Zr (xs++[j])=Zr xs++[V.int (j:Int)]:=by unfold Zr;rw[YB];rfl
theorem ZoZ (E:Nat->Nat->Bool) (j f:Nat):(Zd9 E j f).length<=j:=by
 unfold Zd9
 refine Yj (Y5 _ _) ?_
 rw[Y0];exact Ye _
theorem Zdj.old {H0 H:Hp}{p:Addr}{ns:List Int}{c j:Nat} (hG:Zdj H0 H p ns c j) {kvs:List (List Key×V)} (hp:H p=some (.dT kvs)) {v:V} (hv:ZbV kvs ((Z9 ns c j).map Sum.inl)=some v) :
  ∃a xs,v=.ref a/\a≠p/\H0 a=none/\H a=some (.lst xs)/\xs.length<=j/\Zdj H0 (upd H a (.lst (xs++[V.int (j:Int)]))) p ns c (j+1):=by
 obtain⟨kvs',as,h1,h2,h3,h4,h5,h6⟩:=hG
 rw[h1]at hp;cases hp
 obtain⟨i,hi,e⟩:=Zju hv
 have l1:kvs.length=(Zp (Zw ns c) j).length:=by simpa using congrArg List.length h2
 have l2:kvs.length=as.length:=by simpa using congrArg List.length h3
 have hF:i<(Zp (Zw ns c) j).length:=by omega
 have hA:i<as.length:=by omega
 have e1:(Z9 ns c (Zp (Zw ns c) j)[i]).map (Sum.inl:Int->Key)=(Z9 ns c j).map Sum.inl:=by
  have:=congrArg (λ(l:List (List Key))=>l[i]?) h2
  simp only[Yp,Yg hi,Yg hF,Option.map_some,e]at this
  exact(Yq this).symm
 have e2:v=V.ref as[i]:=by
  have:=congrArg (λ(l:List V)=>l[i]?) h3
  simp only[Yp,Yg hi,Yg hA,Option.map_some,e]at this
  exact Yq this
 have ek:=Zlt e1
 have mF:=Yz hF
 have lF:=(Zai.mp mF).1
 have eF:Zp (Zw ns c) (j+1)=Zp (Zw ns c) j:=ZgO lF (Zz.mpr ek)
 have hL:=h5 i hA hF
 have np:as[i]≠p:=λz=>by rw[z,h1]at hL;cases hL
 refine⟨as[i],_,e2,np,h6 _ (Yz hA),hL,by rw[ZS];exact ZoZ _ _ _,kvs,as,by rw[Zf (Ne.symm np)];exact h1,by rw[eF];exact h2,h3,h4,λi' a b=>?_,h6⟩
 have b':i'<(Zp (Zw ns c) j).length:=by rw[eF]at b;exact b
 have eg:(Zp (Zw ns c) (j+1))[i']=(Zp (Zw ns c) j)[i']:=by simp only[eF]
 rw[eg,ZiU]
 by_cases z:i'=i
 ·subst z
  rw[Zb,Yd (Zz.mpr ek.symm),Zfo]
 ·rw[Zf (λy=>z ((List.getElem_inj h4).mp y)),Yb,List.append_nil]
  ·exact h5 i' a b'
  ·intro y
   have:=Zm3 (Yz b') mF ((Zz.mp y).symm.trans ek.symm)
   exact z ((List.getElem_inj (Zil _ _)).mp this)
theorem Zdj.new {H0 Hb H:Hp}{p l:Addr}{ns:List Int}{c j:Nat} (hG:Zdj H0 Hb p ns c j) (s:Zh Hb H) (hlb:Hb l=none) (hl:H l=some (.lst [])) (hl0:H0 l=none) {kvs:List (List Key×V)} (hp:H p=some (.dT kvs)) (hv:ZbV kvs ((Z9 ns c j).map Sum.inl)=none) :
  Zdj H0 (upd (upd H p (.dT (kvs++[((Z9 ns c j).map Sum.inl,V.ref l)]))) l (.lst ([]++[V.int (j:Int)]))) p ns c (j+1):=by
 obtain⟨kvs',as,h1,h2,h3,h4,h5,h6⟩:=hG
 have h1':=s _ _ h1
 rw[h1']at hp;cases hp
 have nlp:p≠l:=λz=>by rw[z,hlb]at h1;cases h1
 have l1:kvs.length=(Zp (Zw ns c) j).length:=by simpa using congrArg List.length h2
 have l2:kvs.length=as.length:=by simpa using congrArg List.length h3
 have no:=Zko hv
 rw[h2]at no
 have noE:∀b,b<j->Zw ns c b j=false:=by
  intro b hb
  rw[Bool.eq_false_iff];intro z
  obtain⟨f,f1,f2,f3⟩:=ZhM (E:=Zw ns c) (λa b c h1 h2=>Zz.mpr ((Zz.mp h1).trans (Zz.mp h2))) (λa=>Zz.mpr rfl) j b hb
  have e:Z9 ns c f=Z9 ns c j:=(Zz.mp f2).trans (Zz.mp z)
  exact no (YH.mpr ⟨f,f1,by rw[e]⟩)
 have eF:=ZgP noE
 have nin:l∉as:=λz=>by
  obtain⟨i,hi,e⟩:=List.getElem_of_mem z
  have:=h5 i hi (by omega)
  rw[e,hlb]at this;cases this
 refine⟨_,as++[l],by rw[Zf nlp,Zb],by rw[eF,YB,YB,h2];rfl,by rw[YB,YB,h3];rfl,Zl9 h4 nin,λi a b=>?_,λa ha=>?_⟩
 ·have b':i<(Zp (Zw ns c) j++[j]).length:=by rw[<-eF];exact b
  have eg:(Zp (Zw ns c) (j+1))[i]=(Zp (Zw ns c) j++[j])[i]:=by simp only[eF]
  rw[eg,ZiU]
  by_cases z:i<as.length
  ·have z':i<(Zp (Zw ns c) j).length:=by omega
   rw[YK z,YK z']
   have h7:=h5 i z z'
   have nl:as[i]≠l:=λy=>nin (y▸Yz z)
   rw[Zf nl,Zf (λy=>by rw[y,h1]at h7;cases h7),Yb,List.append_nil]
   ·exact s _ _ h7
   ·intro y
    have:=noE _ (Zai.mp (Yz z')).1
    rw[Zz.mpr (Zz.mp y).symm]at this;cases this
  ·have ei:i=as.length:=by simp at a;omega
   subst ei
   rw[Y3 (Ye _)]
   simp only[Nat.sub_self,List.getElem_cons_zero]
   have e3:(Zp (Zw ns c) j++[j])[as.length]=j:=by
    rw[Y3 (by omega)]
    simp only[show as.length-(Zp (Zw ns c) j).length=0 by omega,List.getElem_cons_zero]
   rw[e3,Zb,Yd (Zz.mpr rfl)]
   have e4:Zd9 (Zw ns c) j j=[]:=by
    unfold Zd9
    rw[List.filter_eq_nil_iff]
    intro b hb
    rw[noE b (YA.mp hb)];exact Ys
   rw[e4];rfl
 ·rcases Yy.mp ha with ha|ha
  ·exact h6 a ha
  ·rw[YG.mp ha];exact hl0
theorem ZhR {ns:List Int}{c i:Nat} (h:i<(Zc3 ns c).length) (h2:i<(Zp (Zw ns c) (ZH ns.length c)).length):(Zc3 ns c)[i]=Zd9 (Zw ns c) (ZH ns.length c) (Zp (Zw ns c) (ZH ns.length c))[i]:=List.getElem_map _
theorem ZfY.back {H0 H1 H2:Hp}{l:Addr}{rs:List (List Nat)} (h:ZfY H1 H2 l rs) (s:Zh H0 H1):ZfY H0 H2 l rs:=by
 obtain⟨as,h1,h2,h3,h4,h5,h6,h7⟩:=h
 exact⟨as,h1,h2,h3,h4,h5,s.free h6,λa ha=>s.free (h7 a ha)⟩
theorem Zo0 (ns:List Int) {c a:Nat} (e:a+c<=ns.length):(Zax (ZJ ns) a c).map V.int=(List.range c).map (λi=>V.int (Zx (nth ns) (a+i))):=by
 refine(List.ext_getElem (by rw[Yf,Zds (by rw[Z5];omega),Yf,Y0]) λj h1 h2=>?_)
 have hj:j<c:=by simpa using h2
 rw[List.getElem_map,List.getElem_map,List.getElem_range]
 congr 1
 have e1:=ZhI (ns:=ZJ ns) (a:=a) hj
 rw[Zgn (by omega)]at e1
 rw[<-e1]
 unfold nth
 rw[Yw,Yg (by simpa using h1)];rfl
theorem Zhb {f:Addr}{fd:FuncData} (F:Fun K "stretch_keys" "stretch_keys" Zas f fd) (ZaG:Callee P w K mg base "seen_within" 1 ["distance","size"] (ZbB K mg)) (T:Txt K mg):FnOk P w K mg base (CXE P w) 2 f fd ["told","size"] (Zbc K mg):=by
 refine F.okX Zcj (λvs H Q E h=>?_) (λcdv A outer s H vs Q E hr h=>?_)
 ·obtain⟨l,ns,c,rfl,_⟩:=h;rfl
 obtain⟨l,ns,c,rfl,hl,hn,hc1,hc2,k1⟩:=h
 refine⟨_,(Zd (Zq (i:=2) Zcj.nd rfl (Or.inl rfl) (ZK Zc))
   (Zd (Z2 (Zau PassesOwn.never rfl (ZaC rfl T.b_range (Za (Zn ZV (Zn Zbj (Zk (Zl (K:=K) rfl) rfl T.b_len Yn (Za (pv 0) Zc)) (pv 1)) Ze) Zc)) (Zo (i:=3) Zcj.nd rfl (Or.inl rfl)) (Zg (ZA (Za0 PySem.F.plainAttrs_list PySem.F.slot_list_append PySem.F.type_list_append ZM (pv 2) (Za (Zdr (ZiI (K:=K) rfl) rfl T.b_tuple Zj5 (Za (Zap ["at","distance"] [none,none] rfl rfl rfl (Zc1 (K:=K) rfl rfl T.b_enumerate (Za (ZaB Za9 (pv 0) (Zam (pv 3)) (Zam (Zn ZV (pv 3) (pv 1)))) Zc)) (λ_ _ _ _ _=>(Zhq (K:=K) (n:=2) rfl rfl (ZD (Zo (i:=0) (show(["at","distance"]:List Str).Nodup from by decide +kernel) rfl (Or.inl rfl)) (ZD (Zo (i:=1) (show(["at","distance"]:List Str).Nodup from by decide +kernel) rfl (Or.inl rfl)) Za8)))) (λ_ _ _ _ _=>Za6) (λ_ _ _ _ _=>(Zi ZaG (hr.mono (by decide)) rfl Zu (Za (pv 1) (Za (pv 0) Zc)))) (ZfI (Zbq ZO (Zbq ZO ZfH)))) Zc)) Zc))))))
   (Zg (ZC (pv 2))))),?_⟩
 walk_at "rd"
 refine⟨Yr _,λp hp=>?_⟩
 have s0:=(Zh.refl H).upd (o:=.lst []) hp
 have eD:((ZJ ns).map V.int).length=ns.length:=by rw[Yf,Z5]
 refine⟨_,.inl (SqL.of (s0 _ _ hl)),by omega,by omega,?_⟩
 rw[eD,show((ns.length:Int)-(c:Int)+1).toNat=ZH ns.length c by unfold ZH;omega]
 have hm:ZH ns.length c<=1000:=by unfold ZH;omega
 refine Zfm (n:=ZH ns.length c) (λa σ Hz=>∃(v3:Option V) (as:List Addr),σ=[some (.ref l),some (.int (c:Int)),some (.ref p),v3]/\Hz p=some (.lst (as.map V.ref))/\as.length=a/\(∀i (h:i<as.length),Hz as[i]=some (.tup ((Z9 ns c i).map V.int)))/\Zh H Hz) ⟨none,[],rfl,Zb,rfl,(λi h=>absurd h (by simp)),s0⟩ (λa σ Hz ha _=>by show _ < _;omega) (fun σ Hz _=>by show _<=_;omega) ?_ ?_
 ·rintro a x σ Hz Hw ha ⟨v3,as,rfl,hz,hal,hk,sz⟩ ⟨rfl,rfl⟩
  walk_at "rd"
  have hac:a+c<=ns.length:=by unfold ZH at ha;omega
  refine⟨ZF hz,_,SqL.of (sz _ _ hl),λl2 hl2=>?_⟩
  rw[show(0:Int)+(a:Int)=((a:Nat):Int) by omega,show((a:Nat):Int)+(c:Int)=((a+c:Nat):Int) by omega,ZfU (ZJ ns) (by omega) (by rw[Z5];omega),show a+c-a=c by omega,Zo0 ns hac]
  have g1:=(Zh.refl Hw).upd (o:=.lst ((List.range c).map (λi=>V.int (Zx (nth ns) (a+i))))) hl2
  refine⟨_,SqL.of Zb,?_⟩
  have hL:=Zb (H:=Hw) (a:=l2) (o:=.lst ((List.range c).map (λi=>V.int (Zx (nth ns) (a+i)))))
  generalize upd Hw l2 (.lst ((List.range c).map (λi=>V.int (Zx (nth ns) (a+i)))))=H1 at g1 hL⊢
  refine comp_map (n:=c) (λi=>V.int (sw (Zx (nth ns) (a+i)) i)) (Yv (show _<=1000 by omega) (by decide)) (λj Hx s hj=>⟨_,_,SqL.of (s _ _ hL),Yg (by simpa using hj)⟩) (λHx s=>⟨_,SqL.of (s _ _ hL),by simp⟩) ?_ ?_
  ·rintro j v Hx Hy hj s ⟨q,x,hq,rfl,rfl,hx⟩
   have ex:=hx _ (SqL.of (s _ _ hL))
   rw[Yp,List.getElem?_range hj]at ex
   cases ex
   walk_at "rd"
   exact⟨_,SqT.of Zb,rfl,_,_,rfl,_,_,rfl,rfl,_,j,rfl,CW.next hj rfl (s.ZaL hq)⟩
  intro q Hx s hq
  have hz1:=(g1.trans s) _ _ hz
  have npq:q≠p:=λe=>by rw[e,hz1]at hq;cases hq
  refine⟨q,rfl,_,.inl ⟨SqL.of Zb,λt ht=>?_⟩⟩
  have eK:(List.range c).map (λi=>V.int (sw (Zx (nth ns) (a+i)) i))=(Z9 ns c a).map V.int:=by unfold Z9;rw[YS];rfl
  rw[eK]at ht⊢
  have g2:=((g1.trans s).ZaL (o:=.lst ((Z9 ns c a).map V.int)) hq).ZaL (o:=.tup ((Z9 ns c a).map V.int)) ht
  have hT:=Zb (H:=upd Hx q (.lst ((Z9 ns c a).map V.int))) (a:=t) (o:=.tup ((Z9 ns c a).map V.int))
  generalize upd (upd Hx q (.lst ((Z9 ns c a).map V.int))) t (.tup ((Z9 ns c a).map V.int))=H2 at g2 hT⊢
  have hp2:=g2 _ _ hz
  have nt:t≠p:=λe=>by rw[e,hp2]at hT;cases hT
  refine⟨_,hp2,Yv (show _<=1000 by rw[Yf];omega) (by decide),as++[t],by rw[Zb];simp,by simp[hal],λi h=>?_,λx o hx=>?_⟩
  ·by_cases e:i<as.length
   ·rw[YK e]
    have h3:=g2 _ _ (hk i e)
    rw[Zf (λe2=>by rw[e2,hp2]at h3;cases h3)];exact h3
   ·have ei:i=as.length:=by simp at h;omega
    subst ei
    rw[Y3 (Ye _)]
    simp only[Nat.sub_self,List.getElem_cons_zero]
    rw[Zf nt,hal];exact hT
  ·rw[Zf (λe=>by rw[e,hp]at hx;cases hx)]
   exact(sz.trans g2) _ _ hx
 ·rintro σ Hz ⟨v3,as,rfl,hz,hal,hk,sz⟩
  walk_at "rd"
  exact k1 p Hz hp sz ⟨as,hz,hal,hk⟩
theorem ZjC {f:Addr}{fd:FuncData} (F:Fun K "groups_by" "groups_by" Zbs f fd) (Z8:Callee P w K mg base "stretch_keys" 2 ["told","size"] (Zbc K mg)) (T:Txt K mg):FnOk P w K mg base (CXE P w) 3 f fd ["told","size"] (ZdM K mg):=by
 refine F.okX ZcE (λvs H Q E h=>?_) (λcdv A outer s H vs Q E hr h=>?_)
 ·obtain⟨l,ns,c,rfl,_⟩:=h;rfl
 obtain⟨l,ns,c,rfl,hl,hn,hc1,hc2,k1⟩:=h
 refine⟨_,(Zd (Zq (i:=2) ZcE.nd rfl (Or.inl rfl) Zkn)
   (Zd (Z2 (Zau PassesOwn.never rfl (Zc1 (K:=K) rfl rfl T.b_enumerate (Za (Zi Z8 (hr.mono (by decide)) rfl Zu (Za (pv 0) (Za (pv 1) Zc))) Zc)) (ZdC (n:=2) rfl (ZD (Zo (i:=3) ZcE.nd rfl (Or.inl rfl)) (ZD (Zo (i:=4) ZcE.nd rfl (Or.inl rfl)) Za8))) (Zd (ZA (Zkq (Zj0 hr) (pv 2) (pv 4) (ZK Zc) ⟨rfl,rfl,rfl,rfl⟩))
   (Zg (ZA (Za0 PySem.F.plainAttrs_list PySem.F.slot_list_append PySem.F.type_list_append ZM (Zl8 (Zj0 hr) (pv 2) (pv 4) (λ_ _=>rfl)) (Za (pv 3) Zc)))))))
   (Zg (ZC (Zdr (ZhL rfl) rfl T.b_list Zjj (Za (ZoR (pv 2)) Zc)))))),?_⟩
 walk_at "rd"
 intro p hp
 have s0:=(Zh.refl H).upd (o:=.dT []) hp
 have hp0:=Zb (H:=H) (a:=p) (o:=.dT [])
 generalize upd H p (.dT [])=H0 at s0 hp0⊢
 have hm:ZH ns.length c<=1000:=by unfold ZH;omega
 refine⟨l,ns,c,rfl,s0 _ _ hl,hn,hc1,hc2,λq H1 zq s1 hK=>⟨q,rfl,?_⟩⟩
 obtain⟨ks,hq,hkl,hks⟩:=hK
 refine⟨_,SqL.of hq,?_⟩
 have nqp:q≠p:=λe=>by rw[e,hp0]at zq;cases zq
 have hp1:=s1 _ _ hp0
 have nkp:∀i (h:i<ks.length),ks[i]≠p:=λi h e=>by have:=hks i h;rw[e,hp1]at this;cases this
 have sH:=s0.trans s1
 refine Zfm (n:=ZH ns.length c) (λj σ Hz=>∃(v3 v4:Option V),σ=[some (.ref l),some (.int (c:Int)),some (.ref p),v3,v4]/\Zdj H1 Hz p ns c j/\Exc p H1 Hz) ⟨none,none,rfl,⟨[],[],hp1,rfl,rfl,List.nodup_nil,(λi h1 _=>absurd h1 (by simp)),(λa ha=>by cases ha)⟩,(Zh.refl H1).ZfM⟩ (λj σ Hz hj ⟨_,_,_,_,hE⟩=>⟨_,_,SqL.of (hE _ _ nqp hq),Yg (by rw[Yf,hkl];exact hj)⟩) (fun σ Hz ⟨_,_,_,_,hE⟩=>⟨_,SqL.of (hE _ _ nqp hq),by rw[Yf,hkl]⟩) ?_ ?_
 ·rintro j v σ Hz Hw hj ⟨v3,v4,rfl,hG,hE⟩ ⟨t,x,ht,rfl,rfl,hx⟩
  have hjk:j<ks.length:=by omega
  have ex:=hx _ (SqL.of (hE _ _ nqp hq))
  rw[Yp,Yg hjk]at ex
  cases ex
  walk_at "rd"
  refine⟨_,SqT.of Zb,rfl,_,_,rfl,_,_,rfl,rfl,?_⟩
  have g1:=(Zh.refl Hz).upd (o:=.tup [V.int (j:Int),V.ref ks[j]]) ht
  generalize upd Hz t (.tup [V.int (j:Int),V.ref ks[j]])=Hb at g1⊢
  have hGb:=hG.same g1
  obtain⟨kvs,as,hd,hd2,hd3,hd4⟩:=id hGb
  have hkl:kvs.length<=1000:=by
   have l1:kvs.length=(Zp (Zw ns c) j).length:=by simpa using congrArg List.length hd2
   have:(Zp (Zw ns c) j).length<=j:=by
    unfold Zp
    refine Yj (Y5 _ _) ?_
    rw[Y0];exact Ye _
   omega
  refine⟨.inr ⟨_,.inl hd⟩,Yr _,λy hy=>?_⟩
  have g2:=(Zh.refl Hb).upd (o:=.lst []) hy
  have hy2:=Zb (H:=Hb) (a:=y) (o:=.lst [])
  generalize upd Hb y (.lst [])=Hc at g2 hy2⊢
  have gg:=g1.trans g2
  have hE2:Exc p H1 Hc:=hE.same gg
  have hkj:Hc ks[j]=some (.tup (((Z9 ns c j).map (Sum.inl:Int->Key)).map kV)):=by rw[Zls];exact hE2 _ _ (nkp j hjk) (hks j hjk)
  have hdc:=g2 _ _ hd
  have nyp:y≠p:=λe=>by rw[e,hd]at hy;cases hy
  have hy0:H1 y=none:=by
   cases e:H1 y with
   |none=>rfl
   |some o=>have:=(hE.same g1) _ _ nyp e;rw[hy]at this;cases this
  refine⟨kvs,hdc,_,_,rfl,hkj,Yv hkl (by decide),λv hv=>?_,λhv=>?_⟩
  ·obtain⟨a,xs,rfl,nap,ha0,ha,hxl,hG2⟩:=(hGb.same g2).old hdc hv
   refine⟨_,(Zik.t hdc hkj) |> (λz=>by rw[hv]at z;exact z),ZF ha,a,rfl,xs,ha,Yv (show _<=1000 by omega) (by decide),hG2,λx o nx hx=>?_⟩
   rw[Zf (λe=>by rw[e,ha0]at hx;cases hx)];exact hE2 _ _ nx hx
  ·have nky:ks[j]≠p:=nkp j hjk
   refine⟨V.ref y,?_,ZF (by rw[Zf nyp];exact hy2),y,rfl,[],by rw[Zf nyp];exact hy2,by decide,hGb.new g2 hy hy2 hy0 hdc hv,λx o nx hx=>?_⟩
   ·have:=Zik.t (H:=upd Hc p (.dT (kvs++[((Z9 ns c j).map Sum.inl,V.ref y)]))) Zb (b:=ks[j]) (k:=(Z9 ns c j).map Sum.inl) (by rw[Zf nky];exact hkj)
    rw[ZiR _ _ _ _ hv,Yd rfl]at this
    exact this
   ·rw[Zf (λe=>by rw[e,hy0]at hx;cases hx),Zf nx];exact hE2 _ _ nx hx
 ·rintro σ Hz ⟨v3,v4,rfl,hG,hE⟩
  walk_at "rd"
  obtain⟨kvs,as,hd,hd2,hd3,hd4,hd5,hd6⟩:=hG
  refine⟨kvs,hd,λv hv=>⟨p,Zb,kvs,?_,λq2 hq2=>?_⟩⟩
  ·rw[Zf (λe=>by rw[<-e,hd]at hv;cases hv)];exact hd
  have sz:Zh H Hz:=λx o hx=>hE _ _ (λe=>by rw[e,hp]at hx;cases hx) (sH _ _ hx)
  have g1:=(Zh.refl Hz).upd (o:=.ext (ZhK v p)) hv
  have g2:=g1.ZaL (o:=.lst (kvs.map (·.2))) hq2
  have l1:kvs.length=(Zp (Zw ns c) (ZH ns.length c)).length:=by simpa using congrArg List.length hd2
  have l2:kvs.length=as.length:=by simpa using congrArg List.length hd3
  refine k1 q2 _ (sz.trans g2) ⟨as,by rw[Zb];exact congrArg (λz=>some (HO.lst z)) hd3,hd4,λz=>?_,?_,λi a b=>?_,(sz.trans g1).free hq2,λa ha=>sH.free (hd6 a ha)⟩
  ·obtain⟨i,hi,e⟩:=List.getElem_of_mem z
   have:=g1 _ _ (hd5 i hi (by omega))
   rw[e,hq2]at this;cases this
  ·unfold Zc3
   rw[Yf];omega
  ·have b':i<(Zp (Zw ns c) (ZH ns.length c)).length:=by unfold Zc3 at b;simpa using b
   rw[ZhR b b']
   exact g2 _ _ (hd5 i a b')
theorem ZjD {f:Addr}{fd:FuncData} (F:Fun K "groups_of" "groups_of" Zbt f fd) (Zs:Callee P w K mg base "row_distances" 4 ["row"] (ZX K mg)) (Zep:Callee P w K mg base "groups_by" 3 ["told","size"] (ZdM K mg)) (T:Txt K mg):FnOk P w K mg base (CXE P w) 5 f fd ["row","size"] (ZdN K mg):=by
 refine F.okX Zjx (λvs H Q E h=>?_) (λcdv A outer s H vs Q E hr h=>?_)
 ·obtain⟨r,ns,c,rfl,_⟩:=h;rfl
 obtain⟨r,ns,c,rfl,hS,hn,hc1,hc2,k1⟩:=h
 refine⟨_,(Zg (ZC (Zi Zep (hr.mono (by decide)) rfl Zu (Za (Zi Zs (hr.mono (by decide)) rfl Zu (Za (pv 0) Zc)) (Za (pv 1) Zc))))),?_⟩
 walk_at "rd"
 exact⟨r,ns,rfl,hS,hn,λl H1 zl s1 hl=>⟨l,ns,c,rfl,hl,hn,hc1,hc2,λq H2 s2 hR=>k1 q H2 (s1.trans s2) (hR.back s1)⟩⟩
theorem Zkv (E:Nat->Nat->Bool) (m f:Nat):(Zd9 E m f).Pairwise (· < ·):=List.Pairwise.filter _ List.pairwise_lt_range
theorem Zkw {E:Nat->Nat->Bool}{m f b:Nat}:b∈Zd9 E m f↔b<m/\E b f=true:=by
 unfold Zd9
 rw[YL,YA]
section
variable {E:Nat->Nat->Bool}
end
theorem aK_rf (ns:List Int) (c a:Nat):Zw ns c a a=true:=Zz.mpr rfl
theorem aK_tr (ns:List Int) (c a b d:Nat) (h1:Zw ns c a b=true) (h2:Zw ns c b d=true):Zw ns c a d=true:=Zz.mpr ((Zz.mp h1).trans (Zz.mp h2))
theorem ZdP {ns ms:List Int}{c a b:Nat}:Zdh ns ms c a b=true↔Z9 ns c a=Z9 ms c b:=decide_eq_true_iff
theorem Zqb (ns ms:List Int) (a b:Nat):Z9 ns 1 a=Z9 ms 1 b:=by
 have:∀(ns:List Int) a,Z9 ns 1 a=[0]:=λns a=>by
  unfold Z9
  rw[show List.range 1=[0]from rfl,YD,List.map_nil]
  congr 1
  unfold sw
  have:=(ZaU (nth ns) (a+0)).1
  split<;>omega
 rw[this,this]
noncomputable def FirAt (H:Hp) (p:Addr) (ms:List Int) (c j:Nat):Prop:=∃kvs:List (List Key×V),H p=some (.dT kvs)/\kvs=(Zp (Zw ms c) j).map λf=>((Z9 ms c f).map Sum.inl,V.int (f:Int))
theorem ZiW {ms:List Int}{c j:Nat}{k:List Int}{v:V} (h:ZbV ((Zp (Zw ms c) j).map λf=>((Z9 ms c f).map (Sum.inl:Int->Key),V.int (f:Int))) (k.map Sum.inl)=some v):∃f,f∈Zp (Zw ms c) j/\Z9 ms c f=k/\v=V.int (f:Int):=by
 obtain⟨i,hi,e⟩:=Zju h
 have hi':i<(Zp (Zw ms c) j).length:=by simpa using hi
 rw[List.getElem_map]at e
 have e1:=congrArg Prod.fst e
 have e2:=congrArg Prod.snd e
 exact⟨_,Yz hi',Zlt e1,e2.symm⟩
theorem Zkx {ms:List Int}{c j:Nat}{k:List Int} (h:ZbV ((Zp (Zw ms c) j).map λf=>((Z9 ms c f).map (Sum.inl:Int->Key),V.int (f:Int))) (k.map Sum.inl)=none):∀b,b<j->Z9 ms c b≠k:=λb hb e=>by
 have no:=Zko h
 rw[YS]at no
 obtain⟨f,f1,f2,_⟩:=ZhM (E:=Zw ms c) (aK_tr ms c) (aK_rf ms c) j b hb
 exact no (YH.mpr ⟨f,f1,by show(Z9 ms c f).map Sum.inl=_;rw[Zz.mp f2,e]⟩)
theorem Zky (E:Nat->Nat->Bool) (j:Nat):(Zp E j).length<=j:=by
 unfold Zp
 refine Yj (Y5 _ _) ?_
 rw[Y0];exact Ye _
theorem prOn {cs:List Addr}{H H':Hp}{y:V}{o:Option (Nat×Nat)} (hz:∀b∈cs,H' b=none) (h:PrAt H' y o):PrAt (onC cs H H') y o:=by
 match o,h with
 |none,h=>exact h
 |some (a,b),⟨t,e,ht⟩=>exact⟨t,e,onC_at hz ht⟩
theorem Zlu {f:Addr}{fd:FuncData} (F:Fun K "both_at" "both_at" ZcH f fd) (Z8:Callee P w K mg base "stretch_keys" 2 ["told","size"] (Zbc K mg)) (T:Txt K mg):FnOk P w K mg base (CXE P w) 3 f fd ["ones","others","size"] (Zfq K mg):=by
 refine F.okX Zb0 (λvs H Q E h=>?_) (λcdv A outer s H vs Q E hr h=>?_)
 ·obtain⟨l1,l2,ns,ms,c,rfl,_⟩:=h;rfl
 obtain⟨l1,l2,ns,ms,c,rfl,hl1,hl2,hn,hm,hc1,hc2,k1⟩:=h
 refine⟨_,(Zd (Zq (i:=3) Zb0.nd rfl (Or.inl rfl) Zkn)
   (Zd (Z2 (Zau PassesOwn.never rfl (Zc1 (K:=K) rfl rfl T.b_enumerate (Za (Zi Z8 (hr.mono (by decide)) rfl Zu (Za (pv 1) (Za (pv 2) Zc))) Zc)) (ZdC (n:=2) rfl (ZD (Zo (i:=4) Zb0.nd rfl (Or.inl rfl)) (ZD (Zo (i:=5) Zb0.nd rfl (Or.inl rfl)) Za8))) (Zg (ZA (Zkq (Zj0 hr) (pv 3) (pv 5) (pv 4) ⟨rfl,rfl,rfl,rfl⟩)))))
   (Zd (Z2 (Zau PassesOwn.never rfl (Zc1 (K:=K) rfl rfl T.b_enumerate (Za (Zi Z8 (hr.mono (by decide)) rfl Zu (Za (pv 0) (Za (pv 2) Zc))) Zc)) (ZdC (n:=2) rfl (ZD (Zo (i:=6) Zb0.nd rfl (Or.inl rfl)) (ZD (Zo (i:=5) Zb0.nd rfl (Or.inl rfl)) Za8))) (Zg (Zag (pt_cmp (pc_din (Zj0 hr) (pv 5) (pv 3))) (Zg (ZC (Zff (Za (pv 6) (Za (Zl8 (Zj0 hr) (pv 3) (pv 5) (λ_ _=>rfl)) Zc))))) ZW))))
   (Zg (ZC Zoa))))),?_⟩
 have hmm:ZH ms.length c<=1000:=by unfold ZH;omega
 have hmn:ZH ns.length c<=1000:=by unfold ZH;omega
 refine Zaw (fun σ Hx=>∃p,σ=[some (.ref l1),some (.ref l2),some (.int (c:Int)),some (.ref p),none,none,none]/\H p=none/\Hx p=some (.dT [])/\Zh H Hx) (λR hR=>?_) ?_
 ·walk_at "rd"
  exact λp hp=>hR _ _ ⟨p,rfl,hp,Zb,(Zh.refl H).upd hp⟩
 rintro σ H1 ⟨p,rfl,zp,hp,s1⟩
 refine Zaw (fun σ Hx=>∃v4 v5,σ=[some (.ref l1),some (.ref l2),some (.int (c:Int)),some (.ref p),v4,v5,none]/\FirAt Hx p ms c (ZH ms.length c)/\Exc p H1 Hx) (λR hR=>?_) ?_
 ·walk_at "rd"
  refine⟨l2,ms,c,rfl,s1 _ _ hl2,hm,hc1,hc2,λq H2 zq s2 hK=>⟨q,rfl,?_⟩⟩
  obtain⟨ks,hq,hkl,hks⟩:=hK
  have nqp:q≠p:=λe=>by rw[e,hp]at zq;cases zq
  have hp2:=s2 _ _ hp
  have nkp:∀i (h:i<ks.length),ks[i]≠p:=λi h e=>by have:=hks i h;rw[e,hp2]at this;cases this
  refine⟨_,SqL.of hq,?_⟩
  refine Zfm (n:=ZH ms.length c) (λj σ Hz=>∃(v4 v5:Option V),σ=[some (.ref l1),some (.ref l2),some (.int (c:Int)),some (.ref p),v4,v5,none]/\FirAt Hz p ms c j/\Exc p H2 Hz) ⟨none,none,rfl,⟨[],hp2,rfl⟩,(Zh.refl H2).ZfM⟩ (λj σ Hz hj ⟨_,_,_,_,hE⟩=>⟨_,_,SqL.of (hE _ _ nqp hq),Yg (by rw[Yf,hkl];exact hj)⟩) (fun σ Hz ⟨_,_,_,_,hE⟩=>⟨_,SqL.of (hE _ _ nqp hq),by rw[Yf,hkl]⟩) ?_ ?_
  ·rintro j v σ Hz Hw hj ⟨v3,v4,rfl,⟨kvs,hk1,hk2⟩,hE⟩ ⟨t,x,ht,rfl,rfl,hx⟩
   have hjk:j<ks.length:=by omega
   have ex:=hx _ (SqL.of (hE _ _ nqp hq))
   rw[Yp,Yg hjk]at ex
   cases ex
   walk_at "rd"
   have g1:=(Zh.refl Hz).upd (o:=.tup [V.int (j:Int),V.ref ks[j]]) ht
   have hkj:upd Hz t (.tup [V.int (j:Int),V.ref ks[j]]) ks[j]=some (.tup (((Z9 ms c j).map (Sum.inl:Int->Key)).map kV)):=by rw[Zls];exact g1 _ _ (hE _ _ (nkp j hjk) (hks j hjk))
   refine⟨_,SqT.of Zb,rfl,_,_,rfl,_,_,rfl,rfl,.inr ⟨_,.inl (g1 _ _ hk1)⟩,kvs,g1 _ _ hk1,(Z9 ms c j).map Sum.inl,ks[j],rfl,hkj,?_,λv hv=>?_,λhv=>?_⟩
   ·rw[hk2,Yf];exact Yv (Yj (Zky _ _) (show j<=1000 by omega)) (by decide)
   ·rw[hk2]at hv
    obtain⟨f,f1,f2,rfl⟩:=ZiW hv
    refine⟨⟨kvs,g1 _ _ hk1,?_⟩,hE.same g1⟩
    rw[hk2,ZgO (Zai.mp f1).1 (Zz.mpr f2)]
   ·rw[hk2]at hv
    have no:=Zkx hv
    refine⟨⟨_,Zb,?_⟩,(hE.same g1).trans Exc.upd⟩
    rw[hk2,ZgP (λb hb=>by rw[Bool.eq_false_iff];exact λz=>no b hb (Zz.mp z)),YB]
    rfl
  ·rintro σ Hz ⟨v4,v5,rfl,hF,hE⟩
   exact hR _ _ ⟨_,_,rfl,hF,λb o n z=>hE b o n (s2 _ _ z)⟩
 rintro σ H2 ⟨v4,v5,rfl,⟨kvs,hk1,hk2⟩,e2⟩
 have s2:Zh H H2:=s1.exc zp e2
 refine Zaw (fun σ Hx=>∃σ',σ=σ'/\BoIs (Zdh ns ms c) (ZH ns.length c) (ZH ms.length c) none/\Zh H Hx) (λR hR=>?_) ?_
 ·walk_at "rd"
  refine⟨l1,ns,c,rfl,s2 _ _ hl1,hn,hc1,hc2,λq H3 zq s3 hK=>⟨q,rfl,?_⟩⟩
  obtain⟨ks,hq,hkl,hks⟩:=hK
  have s23:=s2.trans s3
  refine⟨_,SqL.of hq,?_⟩
  refine Zfm (n:=ZH ns.length c) (λj σ Hz=>∃(v5 v6:Option V),σ=[some (.ref l1),some (.ref l2),some (.int (c:Int)),some (.ref p),v4,v5,v6]/\(∀a b,a<j->b<ZH ms.length c->Zdh ns ms c a b=false)/\Zh H3 Hz) ⟨_,_,rfl,(λa b h=>absurd h (by omega)),Zh.refl _⟩ (λj σ Hz hj ⟨_,_,_,_,hE⟩=>⟨_,_,SqL.of (hE _ _ hq),Yg (by rw[Yf,hkl];exact hj)⟩) (fun σ Hz ⟨_,_,_,_,hE⟩=>⟨_,SqL.of (hE _ _ hq),by rw[Yf,hkl]⟩) ?_ ?_
  ·rintro j v σ Hz Hw hj ⟨v5,v6,rfl,hno,sz⟩ ⟨t,x,ht,rfl,rfl,hx⟩
   have hjk:j<ks.length:=by omega
   have ex:=hx _ (SqL.of (sz _ _ hq))
   rw[Yp,Yg hjk]at ex
   cases ex
   walk_at "rd"
   have g1:=(Zh.refl Hz).upd (o:=.tup [V.int (j:Int),V.ref ks[j]]) ht
   have sg:=(s3.trans sz).trans g1
   have hkj:upd Hz t (.tup [V.int (j:Int),V.ref ks[j]]) ks[j]=some (.tup (((Z9 ns c j).map (Sum.inl:Int->Key)).map kV)):=by rw[Zls];exact g1 _ _ (sz _ _ (hks j hjk))
   have hd:=Zik.t (sg _ _ hk1) hkj
   refine⟨_,SqT.of Zb,rfl,_,_,rfl,_,_,rfl,rfl,_,hd,?_⟩
   cases hv:ZbV kvs ((Z9 ns c j).map Sum.inl)with
   |some x =>
    rw[hv]at hd
    rw[hk2]at hv
    obtain⟨f,f1,f2,rfl⟩:=ZiW hv
    have fm:=Zai.mp f1
    refine Z4 (λ_=>?_) (λz=>absurd rfl z)
    refine⟨_,hd,by decide,λq hq=>k1 _ (some (j,f)) _ ⟨hj,fm.1,ZdP.mpr f2.symm,λx y hx hy hE=>?_,λy hy hE=>?_⟩ ⟨q,rfl,Zb⟩ ((s23.trans (sz.trans g1)).ZaL hq)⟩
    ·rcases Nat.lt_or_ge x j with z|z
     ·rw[hno x y z hy]at hE;cases hE
     ·exact z
    ·rcases Nat.lt_or_ge y f with z|z
     ·have:=fm.2 y z
      rw[Zz.mpr ((ZdP.mp hE).symm.trans f2.symm)]at this;cases this
     ·exact z
   |none =>
    refine Z4 (λz=>nomatch z) (λ_=>?_)
    rw[hk2]at hv
    have no:=Zkx hv
    refine⟨λa b ha hb=>?_,sz.trans g1⟩
    rcases Nat.lt_or_ge a j with z|z
    ·exact hno a b z hb
    ·have:a=j:=by omega
     subst this
     rw[Bool.eq_false_iff]
     exact λz=>no b hb (ZdP.mp z).symm
  ·rintro σ Hz ⟨v5,v6,rfl,hno,sz⟩
   exact hR _ _ ⟨_,rfl,λa b ha hb=>hno a b ha hb,s23.trans sz⟩
 rintro σ H3 ⟨_,rfl,hno,s3⟩
 walk_at "rd"
 exact k1 _ none _ hno rfl s3
theorem Zlv {f:Addr}{fd:FuncData} (F:Fun K "longest" "longest" ZcI f fd) (T:Txt K mg):FnOk P w K mg base (CXE P w) 8 f fd ["most","pair_at"] (Zfr P w K mg base):=by
 refine F.okX Zbp (λvs H Q E h=>?_) (λcdv A outer s H vs Q E hr h=>?_)
 ·obtain⟨f,most,sp,PrO,rfl,_⟩:=h;rfl
 obtain⟨f,most,sp,PrO,rfl,hf,hV,hm1,hm2,hp1,hsp,k1⟩:=h
 refine⟨_,(Zd (Zod (i:=2) (j:=3) rfl Zbp.nd rfl rfl (by decide) rfl rfl (Za Ze (Za (Zkt (k:=7) (hr.mono (by decide)) (pv 1) (Za Ze Zc)) Zc)) rfl)
   (Zd (Zq (i:=4) Zbp.nd rfl (Or.inl rfl) (Zn ZV (pv 0) Ze))
   (Zd (Z2 (Zec PassesOwn.never (Zt ZgL (Zn Zbj (pv 4) (pv 2)) Ze (Zy _)) (Zd (Zq (i:=5) Zbp.nd rfl (Or.inl rfl) (Zn Zej (Zn ZV (pv 2) (pv 4)) Ze))
   (Zd (Zq (i:=6) Zbp.nd rfl (Or.inl rfl) (Zkt (k:=7) (hr.mono (by decide)) (pv 1) (Za (pv 5) Zc)))
   (Zg (Zag (Zt op_isN (pv 6) Zoa (Zy _)) (Zg (Zq (i:=4) Zbp.nd rfl (Or.inl rfl) (pv 5))) (Zg (Zod (i:=2) (j:=3) rfl Zbp.nd rfl rfl (by decide) rfl rfl (Za (pv 5) (Za (pv 6) Zc)) rfl))))))))
   (Zg (ZC (Zn Zp1 (Zff (Za (pv 2) Zc)) (pv 3))))))),?_⟩
 walk_at "rd"
 refine⟨hf,hf,sp,hV,hsp 1 H _ (Ye _) hm1 (Zh.refl _) λy o H1 s1 ho hy=>?_⟩
 cases o with
 |none=>exact absurd rfl (hp1 _ ho)
 |some ab =>
 obtain⟨a,b⟩:=ab
 obtain⟨t,rfl,ht⟩:=hy
 refine Zjn most (λj σ Hx=>∃(c d a b:Nat) (t:Addr) (v5 v6:Option V),σ=[some (.int (most:Int)),some (.ref f),some (.int (c:Int)),some (.ref t),some (.int (d:Int)),v5,v6]/\1<=c/\c<d/\d<=most+1/\j+(d-c)<=most/\PrO c (some (a,b))/\(d<=most->PrO d none)/\Hx t=some (.tup [.int (a:Int),.int (b:Int)])/\Zh H Hx) ⟨1,most+1,a,b,t,_,_,rfl,by omega,by omega,by omega,by omega,ho,(λz=>absurd z (by omega)),ht,s1⟩ ?_
 clear ht ho s1 t a b H1
 rintro j σ H1 hj ⟨c,d,a,b,t,v5,v6,rfl,h1,h2,h3,h4,h5,h6,ht,s1⟩
 walk_at "rd"
 refine Z4 (λz=>?_) λz=>?_
 ·have em:((c:Int)+(d:Int)) / 2=(((c+d) / 2:Nat):Int):=by omega
  rw[em]
  generalize hM:(c+d) / 2=M
  refine⟨_,WI.next,⟨by omega,by omega⟩,hf.same s1,hf.same s1,sp,hV,hsp M H1 _ (by omega) (by omega) s1 λy o H2 s2 ho hy=>?_⟩
  cases o with
  |none =>
   have hy:y=V.non:=hy
   subst hy
   rw[Yd rfl]
   exact⟨by omega,c,M,a,b,t,_,_,rfl,h1,by omega,by omega,by omega,h5,(λ_=>ho),s2 _ _ ht,s1.trans s2⟩
  |some ab =>
   obtain⟨a2,b2⟩:=ab
   obtain⟨t2,rfl,ht2⟩:=hy
   rw[Yb (λz=>nomatch z)]
   exact⟨by omega,M,d,a2,b2,t2,_,_,rfl,by omega,by omega,h3,by omega,ho,h6,ht2,s1.trans s2⟩
 ·refine⟨by decide,λq zq=>?_⟩
  have g1:=(Zh.refl H1).upd (o:=.tup [V.int (c:Int)]) zq
  have ed:d=c+1:=by omega
  subst ed
  exact⟨_,Zb,_,g1 _ _ ht,(show(3:Nat)<=sizeLine by decide),λu H2 s2 hu=>k1 u c a b H2 (s1.trans (g1.trans s2)) h1 (by omega) h5 (λy=>h6 (by omega)) hu⟩
theorem Zhc {f:Addr}{fd:FuncData} (F:Fun K "longest_both" "longest_both" Zat f fd) (ZI:ZfV P w K mg base "need_numbers" 1 ["row","fewest"] [V.int 1] (Zad K mg)) (Zs:Callee P w K mg base "row_distances" 4 ["row"] (ZX K mg)) (Zgw:Callee P w K mg base "both_at" 3 ["ones","others","size"] (Zfq K mg)) (Zgx:Callee P w K mg base "longest" 8 ["most","pair_at"] (Zfr P w K mg base)) (L:LamD K mg "longest_both" f) (B:BM mg base) (T:Txt K mg):FnOk P w K mg base (CXE P w) 9 f fd ["one","other"] (Zci K mg):=by
 refine F.okL L B Zck (λvs H Q E h=>?_) (λcdv A outer s H vs Q E LI hr h=>?_)
 ·obtain⟨r,x,ns,ms,rfl,_⟩:=h;rfl
 obtain⟨r,x,ns,ms,rfl,hr0,hx0,hn,hm,hT,hE,k1⟩:=h
 refine⟨_,(Zd (ZA (Ze0 ZI (hr.mono (by decide)) rfl Zb5 (Za (pv 0) Zc)))
   (Zd (ZA (Ze0 ZI (hr.mono (by decide)) rfl Zb5 (Za (pv 1) Zc)))
   (Zd (Zq (i:=2) Zck.nd rfl (Or.inr rfl) (Zi Zs (hr.mono (by decide)) rfl Zu (Za (pv 0) Zc)))
   (Zd (Zq (i:=3) Zck.nd rfl (Or.inr rfl) (Zi Zs (hr.mono (by decide)) rfl Zu (Za (pv 1) Zc)))
   (Zg (ZC (Zm1 (k:=6) (q:=lamQ "longest_both") (P0:=Zkr K mg "longest_both") (pn:="size") (fr:=["ones","others"]) (js:=[2,3]) ⟨rfl,rfl,rfl,rfl,rfl,rfl,λ_ _ _ _ _ _=>rfl,λ_=>rfl⟩ (λ_ _ _ _ _ _ _ _ hr=>(Zi Zgw (hr.mono (by decide)) rfl Zu (Za (pv 1) (Za (pv 2) (Za (pv 0) Zc))))) Zgx (hr.mono (by decide)) rfl (Za (Zk (Zgf rfl) rfl T.b_min Zji (Za (Zk (Zl (K:=K) rfl) rfl T.b_len Yn (Za (pv 0) Zc)) (Za (Zk (Zl (K:=K) rfl) rfl T.b_len Yn (Za (pv 1) Zc)) Zc))) (Za (pe_lam ⟨LI.code,LI.bm,LI.ql⟩ rfl) Zc))))))))),?_⟩
 walk_at "rd"
 have el:(ns.map V.int).length=ns.length:=Yf ..
 have em:(ms.map V.int).length=ms.length:=Yf ..
 refine⟨r,ns,1,rfl,hr0,hn,by omega,by omega,λh2=>?_,λh2=>hE (.inl (by omega))⟩
 refine⟨x,ms,1,rfl,hx0,hm,by omega,by omega,λh3=>?_,λh3=>hE (.inr (by omega))⟩
 refine⟨r,ns,rfl,hr0,hn,λd1 H0 zd1 s0 hd1=>⟨x,ms,rfl,s0.q hx0,hm,λd2 H1 zd2 s01 hd2=>⟨_,(s0.trans s01).q hr0,_,(s0.trans s01).q hx0,(hT.same s0).same s01,λf1 H2 zf s2 LO=>⟨f1,rfl,LO,λcs H3 LT hfi hV=>?_⟩⟩⟩⟩
 have s1:=s0.trans s01
 rw[el,em]
 refine⟨f1,min ns.length ms.length,_,λn o=>BoIs (Zdh ns ms n) (ZH ns.length n) (ZH ms.length n) o,?_,hfi,hV,by omega,by omega,λo ho=>?_,λn H5 R n1 n2 s5 hR=>⟨λb o u z=>s5 _ _ z,?_⟩,λt c a b H5 s5 c1 c2 hc hcn ht=>?_⟩
 ·congr 2
  split<;>omega
 ·cases o with
  |some _=>exact λz=>nomatch z
  |none =>
   have:=ho 0 0 (by unfold ZH;omega) (by unfold ZH;omega)
   rw[ZdP.mpr (Zqb ns ms 0 0)]at this;cases this
 ·unfold Zm0
  walk_at "rd"
  exact⟨d1,d2,ns,ms,n,rfl,(LT.back s5) _ _ (s2 _ _ (s01 _ _ hd1)),(LT.back s5) _ _ (s2 _ _ hd2),hn,hm,n1,by omega,λy o H6 ho hy s6 hz=>hR y o _ (ZoV s6) ho (prOn hz hy)⟩
 ·refine k1 (by omega) (by omega) t c a b _ ((s1.trans s2).trans (LT.back s5)) ⟨c1,by omega,by omega,hc,?_⟩ (LT.tup s5 ht)
  by_cases z:c<min ns.length ms.length
  ·exact hcn z
  ·intro x y hx hy
   unfold ZH at hx hy;omega
theorem Zfx {R ms:List Int}{a c:Nat}:Zv (nth (Zax R a c)) (nth ms) c ms.length=(List.range (ZH ms.length c)).filter λs=>Zdh R ms c a s:=by
 unfold Zv ZH
 refine List.filter_congr λs _=>?_
 unfold Zdh
 rw[decide_eq_decide]
 constructor
 ·intro h
  unfold Z9
  refine List.map_congr_left λi hi=>?_
  have h2:=h i (YA.mp hi)
  rw[Zkh (YA.mp hi),show s+c-c+i=s+i by omega]at h2
  exact h2
 ·intro h i hi
  have h2:=List.map_inj_left.mp h i (YA.mpr hi)
  rw[Zkh hi,show s+c-c+i=s+i by omega]
  exact h2
theorem Zlw {ms:List Int}{a c:Nat}:Zv (nth (Zax ms a c)) (nth ms) c ms.length=Zd9 (Zw ms c) (ZH ms.length c) a:=by
 rw[Zfx]
 unfold Zd9
 refine List.filter_congr λs _=>?_
 unfold Zdh Zw
 rw[decide_eq_decide]
 exact⟨Eq.symm,Eq.symm⟩
theorem Zm4 {ns:List Int}{c m f:Nat} (hf:f∈Zp (Zw ns c) m):∃r,Zd9 (Zw ns c) m f=f::r:=by
 obtain⟨h1,h2⟩:=Zai.mp hf
 have hs:=Zkv (Zw ns c) m f
 have hm:=Zkw.mpr ⟨h1,aK_rf ns c f⟩
 cases hg:Zd9 (Zw ns c) m f with
 |nil=>rw[hg]at hm;cases hm
 |cons a r =>
  rw[hg]at hs hm
  have ha:a∈Zd9 (Zw ns c) m f:=by rw[hg];simp
  obtain⟨_,a2⟩:=Zkw.mp ha
  have:a=f:=by
   rcases Yk.mp hm with z|z
   ·exact z.symm
   ·have:=(Y4.mp hs).1 _ z
    rw[h2 a this]at a2
    cases a2
  exact⟨r,by rw[this]⟩
theorem Zo1 {R gs:List Int}{S:List Nat} (h:ZfX [R] gs S):∃s,S=[s]/\Zbm (nth R) (nth gs) R.length gs.length s:=by
 obtain⟨h1,h2⟩:=h
 match S,h1 with
 |[s],_=>exact⟨s,rfl,h2 0 (by simp) (by simp)⟩
theorem hits1 {R:List Int}{s:Nat}:ZoY [R] [s]=if s=R.length then [0]else []:=by
 unfold ZoY
 rw[show List.range [R].length=[0]from rfl]
 by_cases h:s=R.length<;>simp[h]
theorem rows1 {H:Hp}{q r:Addr}{R:List Int} (hq:H q=some (.lst [V.ref r])) (hr:H r=some (.lst (R.map V.int))):Zdx (λ_=>True) H q [R]:=⟨[r],hq,rfl,λi i1 i2=>by
 have:i=0:=by simp at i1;omega
 subst this;exact⟨trivial,hr⟩⟩
noncomputable def St9 (mg:Str->Option Value) (H0 Hx:Hp) (x d b g z e:Addr) (R gs:List Int) (s:Nat):Prop:=ZQ (λa=>a≠e) mg Hx x d b g z [R] gs [s]/\(H0 g=none/\H0 z=none/\H0 e=none)/\(e≠g/\e≠z/\∃o,Hx e=some o)/\Zh H0 Hx
theorem St9.start {mg:Str->Option Value}{H H4:Hp}{x d b g z e:Addr}{R:List Int} (hW:ZQ (λ_=>True) mg H4 x d b g z [R] [] (List.replicate [R].length 0)) (ze:H4 e=none) (zg:H g=none) (zz:H z=none) (sm:Zh H H4):St9 mg H (upd H4 e (.lst [])) x d b g z e R [] 0:=by
 obtain⟨dx5,da5,ba5,za5,zl5,y1,y2,y3,y4,y5,y6,_⟩:=id hW
 exact⟨(hW.mono λa xs _ h=>Zj h ze).same ((Zh.refl H4).upd ze),⟨zg,zz,sm.free ze⟩,⟨(Zj y5 ze).symm,(Zj y6 ze).symm,_,Zb⟩,Zh.upd (sm.free ze) sm⟩
theorem St9.long {mg:Str->Option Value}{H Hx:Hp}{x d b g z e:Addr}{R gs:List Int}{s:Nat} (h:St9 mg H Hx x d b g z e R gs s):Zbm (nth R) (nth gs) R.length gs.length s:=by
 obtain⟨t,e,l⟩:=Zo1 h.1.longs
 cases e;exact l
theorem St9.step {mg:Str->Option Value}{H Hx Hy:Hp}{x d b g z e:Addr}{R gs gs':List Int}{s:Nat}{S:List Nat} (h:St9 mg H Hx x d b g z e R gs s) (hW:ZQ (λa=>a≠e) mg Hy x d b g z [R] gs' S) (k:∀a o,a≠g->a≠z->Hx a=some o->Hy a=some o):∃s',S=[s']/\Zbm (nth R) (nth gs') R.length gs'.length s'/\St9 mg H Hy x d b g z e R gs' s':=by
 obtain⟨t,rfl,l⟩:=Zo1 hW.longs
 exact⟨t,rfl,l,hW,h.2.1,⟨h.2.2.1.1,h.2.2.1.2.1,h.2.2.1.2.2.elim λo e=>⟨o,k _ _ h.2.2.1.1 h.2.2.1.2.1 e⟩⟩,λa o ha=>k a o (Zj ha h.2.1.1) (Zj ha h.2.1.2.1) (h.2.2.2 a o ha)⟩
theorem St9.same {mg:Str->Option Value}{H Hx Hy:Hp}{x d b g z e:Addr}{R gs:List Int}{s:Nat} (h:St9 mg H Hx x d b g z e R gs s) (k:Zh Hx Hy):St9 mg H Hy x d b g z e R gs s:=⟨h.1.same k,h.2.1,⟨h.2.2.1.1,h.2.2.1.2.1,h.2.2.1.2.2.elim λo e=>⟨o,k _ _ e⟩⟩,h.2.2.2.trans k⟩
theorem St9.upd {mg:Str->Option Value}{H Hx:Hp}{x d b g z e:Addr}{R gs:List Int}{s:Nat}{xs:List V}{o:HO} (h:St9 mg H Hx x d b g z e R gs s) (he:Hx e=some (.lst xs)):St9 mg H (L2.upd Hx e o) x d b g z e R gs s:=⟨h.1.updQ he (λa n=>n) h.2.2.1.1 h.2.2.1.2.1,h.2.1,⟨h.2.2.1.1,h.2.2.1.2.1,_,Zb⟩,Zh.upd h.2.1.2.2 h.2.2.2⟩
theorem St9.ins {mg:Str->Option Value}{H Hx:Hp}{x d b g z e:Addr}{R gs:List Int}{s:Nat} (h:St9 mg H Hx x d b g z e R gs s):∃dx,Hx x=some (.ins (cW mg) dx (wF d b g z)):=by
 obtain⟨dx5,da5,ba5,za5,zl5,y1,_⟩:=h.1
 exact⟨_,y1⟩
noncomputable def Zmb (R ms:List Int) (i most:Nat):Prop:=(most=0\/∃p,most<=p/\p<=i/\most<=R.length/\Mt (nth R) (nth ms) most p)/\∀k p,k<=R.length->k<=p->p<=i->Mt (nth R) (nth ms) k p->k<=most
theorem Zqc (R ms:List Int):Zmb R ms 0 0:=⟨.inl rfl,λk p _ h1 h2 _=>by omega⟩
theorem Zlx {R ms:List Int}{i m s:Nat} (h:Zmb R ms i m) (l:Zbm (nth R) (nth ms) R.length (i+1) s):Zmb R ms (i+1) (max m s):=by
 obtain⟨h1,h2⟩:=h
 obtain⟨l1,l2,l3,l4⟩:=l
 refine⟨?_,λk p a b c d=>?_⟩
 ·rcases Nat.lt_or_ge m s with z|z
  ·rw[Nat.max_eq_right (by omega)]
   exact .inr ⟨i+1,l2,Ye _,l1,l3⟩
  ·rw[Nat.max_eq_left z]
   exact h1.imp id λ⟨p,a,b,c,d⟩=>⟨p,a,by omega,c,d⟩
 ·rcases Nat.lt_or_ge i p with z|z
  ·have e:p=i+1:=by omega
   subst e
   rcases Nat.lt_or_ge s k with y|y
   ·exact absurd d (l4 k y a b)
   ·omega
  ·have:=h2 k p a b z d;omega
theorem ZhS {R:List Int}{k s:Nat}{g:Nat->Int} (hk:k<=R.length) (hg:∀q,q<k->g q=nth R q) (h:Zbm (nth R) g R.length k s):s=k:=by
 have h:=Zgt (g':=nth R) (λq hq=>(hg q hq).symm) h
 obtain⟨h1,h2,h3,h4⟩:=h
 apply Classical.byContradiction
 intro no
 exact h4 k (by omega) hk (Ye _) (Mt.self _ _)
theorem Zm5 {R:List Int}{v:Int}{s b:Nat} (hR:0<R.length) (h:Zbm (nth R) (nth (R++[v])) R.length (R.length+1) s) (hb:ZcJ (nth R) R.length b):s<=b+1:=by
 obtain⟨h1,h2,h3,h4⟩:=h
 cases s with
 |zero=>omega
 |succ m =>
  have h5:=((Mt.succ (show m<=R.length by omega)).mp h3).1
  have h6:Mt (nth R) (nth R) m R.length:=λi hi=>by
   rw[h5 i hi]
   congr 1
   exact Zfu (λq hq=>(by simp[nth,Yw,YT (show q<R.length by omega)]))
  obtain⟨b1,b2,b3⟩:=hb
  apply Classical.byContradiction
  intro no
  exact b3 m (by omega) (by omega) h6
theorem Zf2 {R:List Int}{g:Nat->Int}{c p:Nat} (hc:c<=R.length):Zv (nth (Zax R 0 c)) g c p=Zv (nth R) g c p:=by
 unfold Zv
 refine List.filter_congr λs _=>?_
 rw[decide_eq_decide]
 have e:∀i,i<c->Zx (nth (Zax R 0 c)) i=Zx (nth R) i:=λi hi=>Zfu λq hq=>by rw[ZhI (by omega),Nat.zero_add]
 exact⟨λh i hi=>(e i hi).symm.trans (h i hi),λh i hi=>(e i hi).trans (h i hi)⟩
theorem ZjE {f:Addr}{fd:FuncData} (F:Fun K "_law_ends" "_law_ends" Zbx f fd) (GI_Watch:Zht P w K mg base "Watch" 5 ["self","rows"] (ZaI K mg)) (GM_Watch_give:Zb9 P w K mg base "Watch" "give" 3 ["self","number"] (Zca K mg)) (GM_Watch_reach_now:Zb9 P w K mg base "Watch" "reach_now" 1 ["self"] (Zay K mg)) (T:Txt K mg):FnOk P w K mg base (CXE P w) 7 f fd ["row","text"] (ZdO K mg):=by
 refine F.okX Zaz (λvs H Q E h=>?_) (λcdv A outer s H vs Q E hr h=>?_)
 ·obtain⟨_,_,_,_,rfl,_⟩:=h;rfl
 obtain⟨r,t,R,ms,rfl,hr1,ht,hR0,hR12,hm,k1⟩:=h
 refine⟨_,(Zd (Zq (i:=2) Zaz.nd rfl (Or.inl rfl) (Zkj (mg:=mg) rfl GI_Watch (hr.mono (by decide)) rfl Zb5 (Za (ZK (Za (pv 0) Zc)) Zc)))
   (Zd (Zq (i:=3) Zaz.nd rfl (Or.inl rfl) (ZK Zc))
   (Zd (Zq (i:=4) Zaz.nd rfl (Or.inl rfl) Ze)
   (Zd (Z2 (Zau PassesOwn.never rfl (Zc1 (K:=K) rfl rfl T.b_enumerate (Za (pv 1) Zc)) (ZdC (n:=2) rfl (ZD (Zo (i:=5) Zaz.nd rfl (Or.inl rfl)) (ZD (Zo (i:=6) Zaz.nd rfl (Or.inl rfl)) Za8))) (Zd (Zag (Zt (Zlf (K:=K) rfl hr) (ZhJ (mg:=mg) rfl GM_Watch_give (hr.mono (by decide)) Zu (pv 2) (Za (pv 6) Zc)) (ZK (Za Ze Zc)) (Zy _)) (Zg (ZA (Za0 PySem.F.plainAttrs_list PySem.F.slot_list_append PySem.F.type_list_append ZM (pv 3) (Za (Zn ZV (pv 5) Ze) Zc)))) ZW)
   (Zg (Zq (i:=4) Zaz.nd rfl (Or.inl rfl) (Zk (Zge rfl) rfl T.b_max Zgi (Za (pv 4) (Za (ZbU (mg:=mg) rfl GM_Watch_reach_now (hr.mono (by decide)) Zu (pv 2)) Zc))))))))
   (Zg (ZC (Zff (Za (pv 3) (Za (pv 4) Zc))))))))),?_⟩
 walk_at "rd"
 refine⟨by decide,λq zq x dx nx ndx nxd=>?_⟩
 have g0:=(Zh.refl H).upd (o:=.lst [V.ref r]) zq
 have s0:=((g0.ZaL (o:=.own x) ndx).ZaL (o:=.ins (cW mg) dx []) (p:=x) (by rw[Zf nxd.symm];exact nx))
 have s1:=((Zh.refl (upd H q (.lst [V.ref r]))).upd (o:=.own x) ndx).ZaL (o:=.ins (cW mg) dx []) (p:=x) (by rw[Zf nxd.symm];exact nx)
 have hF:Few [R] 12:=⟨by simp,by simp,λR' h=>by rw[YG.mp h];exact⟨hR0,hR12⟩⟩
 refine⟨x,dx,q,λ_=>True,λ_=>True,[R],rfl,Zb,rows1 (s1 _ _ Zb) (s0 _ _ hr1),hF,λ_ _=>trivial,λd b g z H4 hW zg zz e4=>⟨rfl,by decide,λe ze=>?_⟩⟩
 have sm:Zh H H4:=λa o h=>e4 a o (Zj h (g0.free nx)) (s0 a o h)
 have hG:=St9.start hW ze (s0.free zg) (s0.free zz) sm
 have ht0:upd H4 e (.lst []) t=some (.lst (ms.map V.int)):=hG.2.2.2 _ _ ht
 have he0:upd H4 e (.lst []) e=some (.lst []):=Zb
 generalize upd H4 e (.lst [])=H5 at hG ht0 he0
 clear hW ze zg zz e4 sm s0 s1 g0 nx ndx nxd zq
 refine⟨_,SqL.of ht0,?_⟩
 refine Zfm (n:=ms.length) (λi σ Hx=>∃(v5 v6:Option V) (m s:Nat),σ=[some (.ref r),some (.ref t),some (.ref x),some (.ref e),some (.int (m:Int)),v5,v6]/\St9 mg H Hx x d b g z e R (ms.take i) s/\Hx e=some (.lst (Zr ((Zv (nth R) (nth ms) R.length i).map (·+R.length))))/\Zmb R ms i m) ⟨_,_,0,0,rfl,hG,?_,Zqc R ms⟩ (λi σ Hx hi ⟨_,_,_,_,_,hG,_⟩=>⟨_,_,SqL.of (hG.2.2.2 _ _ ht),Yg (by simpa using hi)⟩) (fun σ Hx ⟨_,_,_,_,_,hG,_⟩=>⟨_,SqL.of (hG.2.2.2 _ _ ht),by simp⟩) ?_ ?_
 ·rw[he0]
  have:Zv (nth R) (nth ms) R.length 0=[]:=by
   unfold Zv
   rw[show 0+1-R.length=0 by omega];rfl
  rw[this];rfl
 ·clear hG ht0 he0 H5
  rintro i v σ Hx Hy hi ⟨v5,v6,m,s,rfl,hG,he,hE⟩ ⟨p,y,zp,rfl,rfl,hy⟩
  have hy:=hy _ (SqL.of (hG.2.2.2 _ _ ht))
  rw[Yp,Yg hi]at hy
  cases hy
  have gp:=(Zh.refl Hx).upd (o:=.tup [V.int (i:Int),V.int ms[i]]) zp
  have hG:=hG.same gp
  have he:=gp _ _ he
  have hp:upd Hx p (.tup [V.int (i:Int),V.int ms[i]]) p=some (.tup [V.int (i:Int),V.int ms[i]]):=Zb
  generalize upd Hx p (.tup [V.int (i:Int),V.int ms[i]])=Hz at hG he hp
  have etk:ms.take i++[ms[i]]=ms.take (i+1):=(List.take_append_getElem hi)
  walk_at "rd"
  obtain⟨dx,hx⟩:=hG.ins
  refine⟨_,SqT.of hp,rfl,_,_,rfl,_,_,rfl,rfl,dx,_,hx,Zem (by decide +kernel) (by decide +kernel) (by decide +kernel) (by decide +kernel),_,x,d,b,g,z,_,[R],_,_,rfl,hG.1,λa ha=>(Zj he ha).symm,hF,by rw[YO];omega,λc S' H1 zc hc hW k=>?_⟩
  rw[etk]at hW
  obtain⟨s',rfl,l,hG2⟩:=hG.step hW k
  have l2:Zbm (nth R) (nth ms) R.length (i+1) s':=by
   have el:(ms.take (i+1)).length=i+1:=by rw[YO];omega
   rw[el]at l
   exact Zgt (λq hq=>by simp[nth,Yw,List.getElem?_take,hq]) l
  have he2:=k e _ hG.2.2.1.1 hG.2.2.1.2.1 he
  have hE2:=Zlx hE l2
  have em:(if (s':Int)>(m:Int)then (s':Int)else (m:Int))=((max m s':Nat):Int):=by split<;>omega
  rw[hits1,ZdI]at hc
  refine⟨by decide,λu zu=>⟨c,rfl,?_⟩⟩
  have gu:=(Zh.refl H1).upd (o:=.lst [V.int 0]) zu
  refine⟨_,Zhs (n:=2) (K:=K) (H:=upd H1 u (.lst [V.int 0])) Zhr (V.ref c) (V.ref u) _ [0] (Zce (SqL.of (gu _ _ hc))) (Zce (SqL.of (show upd H1 u (.lst [V.int 0]) u=some (.lst (([0]:List Int).map V.int))from Zb))),Z4 (λq=>?_) λq=>?_⟩
  ·have es:s'=R.length:=by
    by_cases h:s'=R.length
    ·exact h
    ·rw[Yb h]at q;simp at q
   have hG3:=(hG2.same gu).upd (o:=.lst (Zr ((Zv (nth R) (nth ms) R.length i).map (·+R.length))++[V.int ((i:Int)+1)])) (gu _ _ he2)
   obtain⟨dx2,hx2⟩:=hG3.ins
   have lt:(Zr ((Zv (nth R) (nth ms) R.length i).map (·+R.length))).length<sizeLine:=Yv (show _<=1000 by have:=ZdJ (nth R) (nth ms) R.length i;unfold Zr;rw[Yf,Yf];omega) (by decide)
   refine⟨ZF (gu _ _ he2),_,rfl,_,gu _ _ he2,lt,dx2,_,hx2,Zem (by decide +kernel) (by decide +kernel) (by decide +kernel) (by decide +kernel),_,x,d,b,g,z,[R],_,_,rfl,hG3.1,by simp,λm' hm' _=>?_⟩
   obtain rfl:=YG.mp hm'
   have hl1:=l2.2.1
   have hst:=(Zdf (nth R) (nth ms) (n:=R.length) (p:=i) hR0).1 (by omega) (by rw[<-es];exact l2.2.2.1)
   have hfin:upd (upd H1 u (.lst [V.int 0])) e (.lst (Zr ((Zv (nth R) (nth ms) R.length i).map (·+R.length))++[V.int ((i:Int)+1)])) e=some (.lst (Zr ((Zv (nth R) (nth ms) R.length (i+1)).map (·+R.length)))):=by
    rw[Zb,hst,YB,YD,List.map_nil,Zfo,show i+1-R.length+R.length=i+1 by omega]
    rfl
   refine⟨_,rfl,?_⟩
   rw[em]
   exact⟨_,_,max m m',rfl,rfl,rfl,m',hG3,hfin,hE2⟩
  ·have es:s'≠R.length:=λh=>by rw[Yd h]at q;simp at q
   have hst:=(Zdf (nth R) (nth ms) (n:=R.length) (p:=i) hR0).2 (λy=>l2.2.2.2 R.length (by have:=l2.1;omega) (Ye _) y.1 y.2)
   have hG3:=hG2.same gu
   obtain⟨dx2,hx2⟩:=hG3.ins
   refine⟨dx2,_,hx2,Zem (by decide +kernel) (by decide +kernel) (by decide +kernel) (by decide +kernel),_,x,d,b,g,z,[R],_,_,rfl,hG3.1,by simp,λm' hm' _=>?_⟩
   obtain rfl:=YG.mp hm'
   have hfin:upd H1 u (.lst [V.int 0]) e=some (.lst (Zr ((Zv (nth R) (nth ms) R.length (i+1)).map (·+R.length)))):=by rw[hst];exact gu _ _ he2
   refine⟨_,rfl,?_⟩
   rw[em]
   exact⟨_,_,max m m',rfl,rfl,rfl,m',hG3,hfin,hE2⟩
 ·rintro σ Hx ⟨v5,v6,m,s,rfl,hG,he,hE⟩
  walk_at "rd"
  exact⟨by decide,λu zu=>k1 u e m _ (hG.2.2.2.trans ((Zh.refl Hx).upd zu)) hE Zb (by rw[Zf (Zj he zu)];exact he)⟩
theorem Zf3 {f:Addr}{fd:FuncData} (F:Fun K "_law_own_right" "_law_own_right" Z7 f fd) (ZdQ:Callee P w K mg base "borders_of" 5 ["row"] (Zdg K mg)) (GI_Watch:Zht P w K mg base "Watch" 5 ["self","rows"] (ZaI K mg)) (GM_Watch_give:Zb9 P w K mg base "Watch" "give" 3 ["self","number"] (Zca K mg)) (GM_Watch_reach_now:Zb9 P w K mg base "Watch" "reach_now" 1 ["self"] (Zay K mg)) (GM_Watch_take_back:Zb9 P w K mg base "Watch" "take_back" 1 ["self"] (Zbn K mg)) (T:Txt K mg):FnOk P w K mg base (CXE P w) 7 f fd ["row"] (ZbC K mg):=by
 refine F.okX Z1 (λvs H Q E h=>?_) (λcdv A outer s H vs Q E hr h=>?_)
 ·obtain⟨_,_,rfl,_⟩:=h;rfl
 obtain⟨r,R,rfl,hr1,hR0,hR12,k1⟩:=h
 refine⟨_,(Zd (Zq (i:=1) Z1.nd rfl (Or.inl rfl) (Zkj (mg:=mg) rfl GI_Watch (hr.mono (by decide)) rfl Zb5 (Za (ZK (Za (pv 0) Zc)) Zc)))
   (Zd (Zq (i:=2) Z1.nd rfl (Or.inl rfl) (ZK Zc))
   (Zd (Z2 (Zau PassesOwn.never rfl (Zbz (pv 0)) (Zo (i:=3) Z1.nd rfl (Or.inl rfl)) (Zd (ZA (ZhJ (mg:=mg) rfl GM_Watch_give (hr.mono (by decide)) Zu (pv 1) (Za (pv 3) Zc)))
   (Zg (ZA (Za0 PySem.F.plainAttrs_list PySem.F.slot_list_append PySem.F.type_list_append ZM (pv 2) (Za (ZbU (mg:=mg) rfl GM_Watch_reach_now (hr.mono (by decide)) Zu (pv 1)) Zc)))))))
   (Zd (Zag (Zt (Zgk (K:=K) rfl hr) (pv 2) (Zdr (ZhH rfl) rfl T.b_list Zjj (Za (ZmB rfl T.b_range (Za Ze (Za (Zn ZV (Zk (Zl (K:=K) rfl) rfl T.b_len Yn (Za (pv 0) Zc)) Ze) Zc))) Zc)) (Zy _)) (Zg (ZC Ze7)) ZW)
   (Zd (Zq (i:=4) Z1.nd rfl (Or.inl rfl) (Zah ZP (Zn Zjf (pv 0) Ze) (Zk (Zl (K:=K) rfl) rfl T.b_len Yn (Za (pv 0) Zc)) (λ_ _=>rfl)))
   (Zd (ZA (ZhJ (mg:=mg) rfl GM_Watch_give (hr.mono (by decide)) Zu (pv 1) (Za (pv 4) Zc)))
   (Zd (Zq (i:=5) Z1.nd rfl (Or.inl rfl) (ZbU (mg:=mg) rfl GM_Watch_reach_now (hr.mono (by decide)) Zu (pv 1)))
   (Zd (ZA (ZbU (mg:=mg) rfl GM_Watch_take_back (hr.mono (by decide)) Zb5 (pv 1)))
   (Zd (Zag (PW.pt (ZlL (Zt op_ne (ZbU (mg:=mg) rfl GM_Watch_reach_now (hr.mono (by decide)) Zu (pv 1)) (Zk (Zl (K:=K) rfl) rfl T.b_len Yn (Za (pv 0) Zc)) (Zy _)) (Zi4 (Zt ZgL (pv 5) (Zn ZV (Zah ZP (Zi ZdQ (hr.mono (by decide)) rfl Zu (Za (pv 0) Zc)) (ZfG ZdE Ze) (λ_ _=>rfl)) Ze) (Zy _))))) (Zg (ZC Ze7)) ZW)
   (Zg (ZC (pe_and (Zi6 ZdY (ZbU (mg:=mg) rfl GM_Watch_take_back (hr.mono (by decide)) Zb5 (pv 1)) (Zah ZP (pv 0) (ZfG ZdE Ze) (λ_ _=>rfl)) (Zy _)) (pe_one (Zi6 ZdY (ZbU (mg:=mg) rfl GM_Watch_reach_now (hr.mono (by decide)) Zu (pv 1)) (Zn Zbj (Zk (Zl (K:=K) rfl) rfl T.b_len Yn (Za (pv 0) Zc)) Ze) (Zy _))))))))))))))),?_⟩
 walk_at "rd"
 refine⟨by decide,λq zq x dx nx ndx nxd=>?_⟩
 have g0:=(Zh.refl H).upd (o:=.lst [V.ref r]) zq
 have s0:=((g0.ZaL (o:=.own x) ndx).ZaL (o:=.ins (cW mg) dx []) (p:=x) (by rw[Zf nxd.symm];exact nx))
 have s1:=((Zh.refl (upd H q (.lst [V.ref r]))).upd (o:=.own x) ndx).ZaL (o:=.ins (cW mg) dx []) (p:=x) (by rw[Zf nxd.symm];exact nx)
 have hF:Few [R] 12:=⟨by simp,by simp,λR' h=>by rw[YG.mp h];exact⟨hR0,hR12⟩⟩
 refine⟨x,dx,q,λ_=>True,λ_=>True,[R],rfl,Zb,rows1 (s1 _ _ Zb) (s0 _ _ hr1),hF,λ_ _=>trivial,λd b g z H4 hW zg zz e4=>⟨rfl,by decide,λe ze=>?_⟩⟩
 have sm:Zh H H4:=λa o h=>e4 a o (Zj h (g0.free nx)) (s0 a o h)
 have hG:=St9.start hW ze (s0.free zg) (s0.free zz) sm
 have hr0:upd H4 e (.lst []) r=some (.lst (R.map V.int)):=hG.2.2.2 _ _ hr1
 have he0:upd H4 e (.lst []) e=some (.lst []):=Zb
 generalize upd H4 e (.lst [])=H5 at hG hr0 he0
 clear hW ze zg zz e4 sm s0 s1 g0 nx ndx nxd zq
 refine⟨⟨_,SqL.of hr0⟩,?_⟩
 refine Zee (K:=K) (a:=r) (xs:=R.map V.int) (λi σ Hx=>∃(v3:Option V) (s:Nat),σ=[some (.ref r),some (.ref x),some (.ref e),v3,none,none]/\St9 mg H Hx x d b g z e R (R.take i) s/\Hx e=some (.lst ((List.range i).map λ(k:Nat)=>V.int (1+(k:Int))))) ⟨_,0,rfl,hG,he0⟩ (λi σ Hx _ ⟨_,_,_,hG,_⟩=>SqL.of (hG.2.2.2 _ _ hr1)) ?_ ?_
 ·clear hG hr0 he0 H5
  rintro i nv σ Hx hj ⟨v3,s,rfl,hG,he⟩
  obtain⟨hi,rfl⟩:∃hi:i<R.length,nv=V.int R[i]:=by
   obtain⟨h1,h2⟩:=Yu.mp hj
   have h3:i<R.length:=by simpa using h1
   exact⟨h3,by rw[<-h2];simp⟩
  have etk:R.take i++[R[i]]=R.take (i+1):=(List.take_append_getElem hi)
  walk_at "rd"
  obtain⟨dx,hx⟩:=hG.ins
  refine⟨dx,_,hx,Zem (by decide +kernel) (by decide +kernel) (by decide +kernel) (by decide +kernel),_,x,d,b,g,z,_,[R],_,_,rfl,hG.1,λa ha=>(Zj he ha).symm,hF,by rw[YO];omega,λc S' H1 zc hc hW k=>?_⟩
  rw[etk]at hW
  obtain⟨s',rfl,l,hG2⟩:=hG.step hW k
  have el:(R.take (i+1)).length=i+1:=by rw[YO];omega
  rw[el]at l
  have es:s'=i+1:=ZhS (by omega) (λq hq=>by simp[nth,Yw,List.getElem?_take,hq]) l
  have he2:=k e _ hG.2.2.1.1 hG.2.2.1.2.1 he
  obtain⟨dx2,hx2⟩:=hG2.ins
  refine⟨ZF he2,dx2,_,hx2,Zem (by decide +kernel) (by decide +kernel) (by decide +kernel) (by decide +kernel),_,x,d,b,g,z,[R],_,_,rfl,hG2.1,by simp,λm' hm' _=>⟨_,he2,Yv (show _<=1000 by simp;omega) (by decide),s',hG2.upd he2,?_⟩⟩
  obtain rfl:=YG.mp hm'
  rw[Zb,YJ,YB,es,show(((i+1:Nat)):Int)=1+(i:Int) by omega]
  rfl
 ·clear hG hr0 he0 H5
  rintro σ Hx ⟨v3,s,rfl,hG,he⟩
  have etk:R.take (R.map V.int).length=R:=by rw[Yf,List.take_length]
  rw[etk]at hG
  rw[Yf]at he
  have eR:(R.map V.int).length=R.length:=Yf ..
  show tSeq _ _ _ _ _
  refine Zaw (fun σ Hy=>σ=[some (.ref r),some (.ref x),some (.ref e),v3,none,none]/\Hy=Hx) (λR2 hR2=>?_) ?_
  ·walk_at "rd"
   exact hR2 _ _ ⟨rfl,rfl⟩
  rintro σ Hy ⟨rfl,ey⟩
  rw[ey]
  clear ey Hy
  refine Zaw (fun σ Hy=>σ=[some (.ref r),some (.ref x),some (.ref e),v3,none,none]/\St9 mg H Hy x d b g z e R R s) (λR2 hR2=>?_) ?_
  ·walk_at "rd"
   refine⟨_,.inl (SqL.of (hG.2.2.2 _ _ hr1)),by decide,by decide,by omega,by rw[eR];omega,λu zu=>?_⟩
   rw[eR]
   refine⟨_,_,Zb,by decide,by decide,by omega,by omega,by omega,λl zl=>?_⟩
   have em1:(List.range ((R.length:Int)+1-1).toNat).map (λ(k:Nat)=>V.int (1+(k:Int)))=((List.range R.length).map λ(k:Nat)=>1+(k:Int)).map V.int:=by rw[YS,show((R.length:Int)+1-1).toNat=R.length by omega];rfl
   have em2:(List.range R.length).map (λ(k:Nat)=>V.int (1+(k:Int)))=((List.range R.length).map λ(k:Nat)=>1+(k:Int)).map V.int:=by rw[YS];rfl
   rw[em1]
   rw[em2]at he
   have s5:=((Zh.refl Hx).upd (o:=.rng 1 ((R.length:Int)+1)) zu).ZaL (o:=.lst (((List.range R.length).map λ(k:Nat)=>1+(k:Int)).map V.int)) zl
   exact⟨_,Zhs (n:=2) (K:=K) Zhr (V.ref e) (V.ref l) _ _ (Zce (SqL.of (s5 _ _ he))) (Zce (SqL.of Zb)),Z4 (λz=>absurd z (by simp)) λ_=>hR2 _ _ ⟨rfl,hG.same s5⟩⟩
  clear hG he etk
  rintro σ Hx ⟨rfl,hG⟩
  refine Zaw (fun σ Hy=>∃n:Int,σ=[some (.ref r),some (.ref x),some (.ref e),v3,some (.int n),none]/\St9 mg H Hy x d b g z e R R s) (λR2 hR2=>?_) ?_
  ·walk_at "rd"
   have gl:=λ(l:Addr) (zl:Hx l=none)=>(Zh.refl Hx).upd (o:=.lst ((List.replicate (Int.toNat 2) (R.map V.int)).flatten)) zl
   have el2:((List.replicate (Int.toNat 2) (R.map V.int)).flatten).length=2*R.length:=by rw[len_rep,eR];rfl
   refine⟨_,hG.2.2.2 _ _ hr1,by decide,by decide,by rw[eR];exact Yj (show _<=1000 by show R.length*2<=1000;omega) (by decide),λl zl=>?_⟩
   obtain⟨v,hv,n,rfl⟩:=ZfL (xs:=(List.replicate (Int.toNat 2) (R.map V.int)).flatten) (i:=((R.map V.int).length:Int)) (λv=>∃n:Int,v=V.int n) (by omega) (by rw[el2,eR];omega) (by
    intro u hu
    obtain⟨ys,h1,h2⟩:=List.mem_flatten.mp hu
    rw[List.eq_of_mem_replicate h1]at h2
    obtain⟨c,_,rfl⟩:=YH.mp h2
    exact⟨c,rfl⟩)
   exact⟨_,.inl (SqL.of (gl l zl _ _ (hG.2.2.2 _ _ hr1))),_,SqL.of Zb,_,hv,hR2 _ _ ⟨n,rfl,hG.same (gl l zl)⟩⟩
  clear hG Hx
  rintro σ Hx ⟨n,rfl,hG⟩
  refine Zaw (fun σ Hy=>∃s2,σ=[some (.ref r),some (.ref x),some (.ref e),v3,some (.int n),none]/\St9 mg H Hy x d b g z e R (R++[n]) s2) (λR2 hR2=>?_) ?_
  ·walk_at "rd"
   obtain⟨dx,hx⟩:=hG.ins
   refine⟨dx,_,hx,Zem (by decide +kernel) (by decide +kernel) (by decide +kernel) (by decide +kernel),_,x,d,b,g,z,_,[R],_,_,rfl,hG.1,?_,hF,by omega,λc S' H1 zc hc hW k=>?_⟩
   ·obtain⟨o,ho⟩:=hG.2.2.1.2.2
    exact λa ha=>(Zj ho ha).symm
   ·obtain⟨s',rfl,l,hG2⟩:=hG.step hW k
    exact hR2 _ _ ⟨s',rfl,hG2⟩
  clear hG Hx
  rintro σ Hx ⟨s2,rfl,hG⟩
  refine Zaw (fun σ Hy=>σ=[some (.ref r),some (.ref x),some (.ref e),v3,some (.int n),some (.int (s2:Int))]/\St9 mg H Hy x d b g z e R (R++[n]) s2) (λR2 hR2=>?_) ?_
  ·walk_at "rd"
   obtain⟨dx,hx⟩:=hG.ins
   refine⟨dx,_,hx,Zem (by decide +kernel) (by decide +kernel) (by decide +kernel) (by decide +kernel),_,x,d,b,g,z,[R],_,_,rfl,hG.1,by simp,λm' hm' _=>?_⟩
   obtain rfl:=YG.mp hm'
   exact hR2 _ _ ⟨rfl,hG⟩
  clear hG Hx
  rintro σ Hx ⟨rfl,hG⟩
  have hbe:∀b,ZcJ (nth R) R.length b->s2<=b+1:=λb hb=>Zm5 hR0 (by have:=hG.long;rw[YE]at this;exact this) hb
  refine Zaw (fun σ Hy=>∃s3,σ=[some (.ref r),some (.ref x),some (.ref e),v3,some (.int n),some (.int (s2:Int))]/\St9 mg H Hy x d b g z e R R s3) (λR2 hR2=>?_) ?_
  ·walk_at "rd"
   obtain⟨dx,hx⟩:=hG.ins
   refine⟨dx,_,hx,Zem (by decide +kernel) (by decide +kernel) (by decide +kernel) (by decide +kernel),_,x,d,b,g,z,[R],_,_,rfl,hG.1,by simp;omega,λy=>absurd y (by simp),λgs0 n0 eg S0 H' hW k=>?_⟩
   obtain⟨rfl,_⟩:=List.append_inj' eg rfl
   obtain⟨s',rfl,l,hG2⟩:=hG.step hW k
   exact hR2 _ _ ⟨s',rfl,hG2⟩
  clear hG Hx
  rintro σ Hx ⟨s3,rfl,hG⟩
  have es3:s3=R.length:=ZhS (Ye _) (λq hq=>rfl) hG.long
  subst es3
  refine Zaw (fun σ Hy=>σ=[some (.ref r),some (.ref x),some (.ref e),v3,some (.int n),some (.int (s2:Int))]/\St9 mg H Hy x d b g z e R R R.length) (λR2 hR2=>?_) ?_
  ·walk_at "rd"
   obtain⟨dx,hx⟩:=hG.ins
   refine⟨dx,_,hx,Zem (by decide +kernel) (by decide +kernel) (by decide +kernel) (by decide +kernel),_,x,d,b,g,z,[R],_,_,rfl,hG.1,by simp,λm' hm' _=>?_⟩
   obtain rfl:=YG.mp hm'
   refine⟨_,.inl (SqL.of (hG.2.2.2 _ _ hr1)),by rw[eR];exact ZfN,?_⟩
   rw[eR]
   refine Z4 (λz=>absurd rfl z) λ_=>⟨r,R,rfl,.inl (SqL.of (hG.2.2.2 _ _ hr1)),by omega,λbb bs H3 zb lb hB s3 hb=>⟨bb,rfl,_,SqL.of hb,_,Zfn (i:=R.length-1) (by omega),_,rfl,Z4 (λz=>?_) λ_=>hR2 _ _ ⟨rfl,hG.same s3⟩⟩⟩
   have h1:=hB (R.length-1) (by omega)
   rw[show R.length-1+1=R.length by omega]at h1
   have:=hbe _ h1
   omega
  clear hG Hx
  rintro σ Hx ⟨rfl,hG⟩
  walk_at "rd"
  obtain⟨dx,hx⟩:=hG.ins
  refine⟨dx,_,hx,Zem (by decide +kernel) (by decide +kernel) (by decide +kernel) (by decide +kernel),_,x,d,b,g,z,[R],_,_,rfl,hG.1,by omega,λy=>absurd hR0 (by rw[y];simp),λgs0 n0 eg S0 H' hW k=>?_⟩
  obtain⟨s',rfl,l,hG2⟩:=hG.step hW k
  have eg1:gs0.length+1=R.length:=by rw[eg];simp
  have es:s'=gs0.length:=ZhS (by omega) (λq hq=>by rw[eg];simp[nth,Yw,YT hq]) l
  obtain⟨dx2,hx2⟩:=hG2.ins
  refine⟨_,SqL.of (hG2.2.2.2 _ _ hr1),V.int n0,by rw[eg];exact ZmO gs0 n0,ZfN,Z4 (λ_=>?_) λz=>absurd rfl z⟩
  refine⟨dx2,_,hx2,Zem (by decide +kernel) (by decide +kernel) (by decide +kernel) (by decide +kernel),_,x,d,b,g,z,[R],_,_,rfl,hG2.1,by simp,λm' hm' _=>?_⟩
  obtain rfl:=YG.mp hm'
  refine⟨_,.inl (SqL.of (hG2.2.2.2 _ _ hr1)),ZfN,?_⟩
  rw[eR,es,YW (congrArg V.int (show((gs0.length:Nat):Int)=(R.length:Int)-1 by omega))]
  exact k1 _ hG2.2.2.2
theorem Zen {f:Addr}{fd:FuncData} (F:Fun K "_law_groups_right" "_law_groups_right" ZT f fd) (ZU:Callee P w K mg base "starts_of" 5 ["row","text"] (ZaY K mg)) (Zeq:Callee P w K mg base "groups_of" 5 ["row","size"] (ZdN K mg)) (T:Txt K mg):FnOk P w K mg base (CXE P w) 6 f fd ["text"] (ZaN K mg):=by
 refine F.okX ZaQ (λvs H Q E h=>?_) (λcdv A outer s H vs Q E hr h=>?_)
 ·obtain⟨_,_,rfl,_⟩:=h;rfl
 obtain⟨t,ms,rfl,ht,hm,k1⟩:=h
 refine⟨_,(Zd (Z2 (Zau PassesOwn.never rfl (pi_tup (Zff (Za Ze (Za Ze (Za Ze Zc))))) (Zo (i:=1) ZaQ.nd rfl (Or.inl rfl)) (Zg (Z2 (Zau PassesOwn.never rfl (Zbz (Zi Zeq (hr.mono (by decide)) rfl Zu (Za (pv 0) (Za (pv 1) Zc)))) (Zo (i:=2) ZaQ.nd rfl (Or.inl rfl)) (Zg (Zag (Zt (Zgk (K:=K) rfl hr) (Zi ZU (hr.mono (by decide)) rfl Zu (Za (ZaB Za9 (pv 0) (Zam (Zah ZP (pv 2) Ze (λ_ _=>rfl))) (Zam (Zn ZV (Zah ZP (pv 2) Ze (λ_ _=>rfl)) (pv 1)))) (Za (pv 0) Zc))) (pv 2) (Zy _)) (Zg (ZC Ze7)) ZW)))))))
   (Zg (ZC Ze7))),?_⟩
 walk_at "rd"
 refine⟨by decide,λp hp=>?_⟩
 have g:=(Zh.refl H).upd (o:=.tup [V.int 1,V.int 2,V.int 4]) hp
 refine⟨⟨_,SqT.of Zb⟩,?_⟩
 refine ZpJ (K:=K) (a:=p) (xs:=[V.int 1,V.int 2,V.int 4]) (λi σ Hx=>∃v1 v2,σ=[some (.ref t),v1,v2]/\Zh H Hx/\Hx p=some (.tup [V.int 1,V.int 2,V.int 4])) ⟨_,_,rfl,g,Zb⟩ (λi σ Hx _ ⟨_,_,_,_,h⟩=>SqT.of h) ?_ ?_
 ·rintro i nv σ Hx hj ⟨v1,v2,rfl,sx,hp2⟩
  obtain⟨c,rfl,hc1,hc2⟩:∃c:Nat,nv=V.int (c:Int)/\1<=c/\c<=4:=by
   have:=List.mem_of_getElem? hj
   simp at this
   rcases this with rfl|rfl|rfl
   ·exact⟨1,rfl,by decide,by decide⟩
   ·exact⟨2,rfl,by decide,by decide⟩
   ·exact⟨4,rfl,by decide,by decide⟩
  walk_at "rd"
  refine⟨t,ms,c,rfl,.inl (SqL.of (sx _ _ ht)),by omega,hc1,by omega,λq H2 s2 hN=>⟨q,rfl,?_⟩⟩
  obtain⟨as,n1,n2,n3,n4,n5,_⟩:=hN
  refine⟨⟨_,SqL.of n1⟩,?_⟩
  refine Zee (K:=K) (a:=q) (xs:=as.map V.ref) (λi σ Hy=>∃v2,σ=[some (.ref t),some (.int (c:Int)),v2]/\Zh H2 Hy) ⟨_,rfl,Zh.refl _⟩ (λi σ Hx _ ⟨_,_,h⟩=>SqL.of (h _ _ n1)) ?_ ?_
  ·rintro j nv σ Hy hj2 ⟨v2,rfl,sy⟩
   obtain⟨hi,rfl⟩:∃hi:j<as.length,nv=V.ref as[j]:=by
    obtain⟨h1,h2⟩:=Yu.mp hj2
    have h3:j<as.length:=by simpa using h1
    exact⟨h3,by rw[<-h2];simp⟩
   have hgk:j<(Zc3 ms c).length:=by omega
   have hgf:j<(Zp (Zw ms c) (ZH ms.length c)).length:=by unfold Zc3 at hgk;simpa using hgk
   have hs:=n5 j hi hgk
   rw[ZhR hgk hgf]at hs
   have hmf:=Yz hgf
   generalize (Zp (Zw ms c) (ZH ms.length c))[j]=f at hs hmf
   obtain⟨rr,er⟩:=Zm4 hmf
   have hf:=(Zai.mp hmf).1
   have hs:=sy _ _ hs
   have ht2:=sy _ _ (s2 _ _ (sx _ _ ht))
   walk_at "rd"
   have hc:ZcD (ms.map V.int) (some (f:Int)) (some ((f:Int)+(c:Int)))=(Zax ms f c).map V.int:=by rw[show(f:Int)+(c:Int)=((f+c:Nat):Int) by omega,ZfU ms (by omega) (by unfold ZH at hf;omega),show f+c-f=c by omega]
   have elc:(Zax ms f c).length=c:=Zds (by unfold ZH at hf;omega)
   refine⟨_,SqL.of hs,V.int (f:Int),(show atI _ ((0:Nat):Int)=_ from Zhn (by rw[er];rfl)),(f:Int),rfl,_,SqL.of hs,V.int (f:Int),(show atI _ ((0:Nat):Int)=_ from Zhn (by rw[er];rfl)),(f:Int),rfl,_,SqL.of ht2,λu zu=>?_⟩
   rw[hc]
   have gu:=(Zh.refl Hy).upd (o:=.lst ((Zax ms f c).map V.int)) zu
   refine⟨u,t,Zax ms f c,ms,rfl,.inl (SqL.of Zb),.inl (SqL.of (gu _ _ ht2)),by rw[elc];omega,by omega,λz=>absurd z (by rw[elc];omega),λ_ v H3 zv s3 hv=>⟨v,rfl,?_⟩⟩
   rw[elc,Zlw]at hv
   have hs3:=s3 _ _ (gu _ _ hs)
   rw[ZdI]at hv hs3
   exact⟨_,Zhs (n:=2) (K:=K) (H:=H3) Zhr (V.ref v) (V.ref as[j]) _ _ (Zce (SqL.of hv)) (Zce (SqL.of hs3)),Z4 (λz=>absurd z (by simp)) λ_=>sy.trans (gu.trans s3)⟩
  ·rintro σ Hy ⟨v2,rfl,sy⟩
   exact⟨_,_,rfl,sx.trans (s2.trans sy),sy _ _ (s2 _ _ hp2)⟩
 ·rintro σ Hx ⟨v1,v2,rfl,sx,hp2⟩
  walk_at "rd"
  exact k1 _ sx
theorem Zfy {f:Addr}{fd:FuncData} (F:Fun K "_law_both_right" "_law_both_right" Z0 f fd) (ZU:Callee P w K mg base "starts_of" 5 ["row","text"] (ZaY K mg)) (ZcN:Callee P w K mg base "longest_both" 9 ["one","other"] (Zci K mg)) (T:Txt K mg):FnOk P w K mg base (CXE P w) 10 f fd ["row","text"] (Zbo K mg):=by
 refine F.okX ZaA (λvs H Q E h=>?_) (λcdv A outer s H vs Q E hr h=>?_)
 ·obtain⟨_,_,_,_,rfl,_⟩:=h;rfl
 obtain⟨r,t,R,ms,rfl,hr1,ht,hR0,hR12,hm0,hm,hT,k1⟩:=h
 refine⟨_,(Zd (Zhw (Zi ZcN (hr.mono (by decide)) rfl Zb5 (Za (pv 0) (Za (pv 1) Zc))) (ZdC (n:=3) rfl (ZD (Zo (i:=2) ZaA.nd rfl (Or.inr rfl)) (ZD (Zo (i:=3) ZaA.nd rfl (Or.inl rfl)) (ZD (Zo (i:=4) ZaA.nd rfl (Or.inl rfl)) Za8)))))
   (Zd (Zag (Zt (ZmC (K:=K) rfl) (pv 4) (Zi ZU (hr.mono (by decide)) rfl Zb5 (Za (ZaB Za9 (pv 0) (Zam (pv 3)) (Zam (Zn ZV (pv 3) (pv 2)))) (Za (pv 1) Zc))) (by with_unfolding_all rfl)) (Zg (ZC Ze7)) ZW)
   (Zg (ZC (Zk (Zox (K:=K) rfl rfl) rfl T.b_all bt_all (Za (Zap ["at","text","row","size"] [none,some 1,some 0,some 2] rfl rfl rfl (ZaC rfl T.b_range (Za (Zn Zbj (Zk (Zl (K:=K) rfl) rfl T.b_len Yn (Za (pv 0) Zc)) (pv 2)) Zc)) (λ_ _ _ _ _=>(Zo (i:=0) (show(["at","text","row","size"]:List Str).Nodup from by decide +kernel) rfl (Or.inl rfl))) (λ_ _ _ _ _=>Za6) (λ_ _ _ _ _=>(Zi6 (Zlf (K:=K) rfl hr) (Zi ZU (hr.mono (by decide)) rfl Zu (Za (ZaB (r:=rSlL K) Za9 (pv 2) (Zam (pv 0)) (Zam (Zn ZV (Zn ZV (pv 0) (pv 3)) Ze))) (Za (pv 1) Zc))) (ZK Zc) (Zy _))) ZO) Zc)))))),?_⟩
 refine Zaw (fun σ Hx=>∃(c a b:Nat),σ=[some (.ref r),some (.ref t),some (.int (c:Int)),some (.int (a:Int)),some (.int (b:Int))]/\LongB R ms c a b/\Zh H Hx) (λR2 hR2=>?_) ?_
 ·walk_at "rd"
  exact⟨r,t,R,ms,rfl,.inl (SqL.of hr1),.inl (SqL.of ht),by omega,by omega,hT,λz=>absurd z (by omega),λ_ _ u c a b H' s hL hu=>⟨u,rfl,_,SqT.of hu,rfl,_,_,rfl,_,_,rfl,_,_,rfl,rfl,hR2 _ _ ⟨c,a,b,rfl,hL,s⟩⟩⟩
 rintro σ H1 ⟨c,a,b,rfl,hB,s1⟩
 obtain⟨c1,c2,c3,⟨a1,b1,ab,_⟩,hno⟩:=hB
 refine Zaw (fun σ Hx=>σ=[some (.ref r),some (.ref t),some (.int (c:Int)),some (.int (a:Int)),some (.int (b:Int))]/\Zh H Hx) (λR2 hR2=>?_) ?_
 ·walk_at "rd"
  have ha:a+c<=R.length:=by unfold ZH at a1;omega
  have hc:ZcD (R.map V.int) (some (a:Int)) (some ((a:Int)+(c:Int)))=(Zax R a c).map V.int:=by rw[show(a:Int)+(c:Int)=((a+c:Nat):Int) by omega,ZfU R (by omega) ha,show a+c-a=c by omega]
  have elc:(Zax R a c).length=c:=Zds ha
  refine⟨_,SqL.of (s1 _ _ hr1),λu zu=>?_⟩
  rw[hc]
  have gu:=(Zh.refl H1).upd (o:=.lst ((Zax R a c).map V.int)) zu
  refine⟨u,t,Zax R a c,ms,rfl,.inl (SqL.of Zb),.inl (SqL.of (gu _ _ (s1 _ _ ht))),by rw[elc];omega,by omega,λz=>absurd z (by rw[elc];omega),λ_ v H3 zv s3 hv=>⟨v,rfl,_,.inl (SqL.of hv),rfl,?_,Z4 (λz=>?_) λ_=>hR2 _ _ ⟨rfl,s1.trans (gu.trans s3)⟩⟩⟩
  ·rw[List.all_eq_true]
   intro y hy
   obtain⟨n,_,rfl⟩:=YH.mp hy
   rfl
  ·have hin:b∈Zv (nth (Zax R a c)) (nth ms) (Zax R a c).length ms.length:=by
    rw[elc,Zfx]
    exact YL.mpr ⟨YA.mpr b1,ab⟩
   have:inV (V.int (b:Int)) (Zr (Zv (nth (Zax R a c)) (nth ms) (Zax R a c).length ms.length))=true:=List.any_eq_true.mpr ⟨V.int (b:Int),YH.mpr ⟨b,hin,rfl⟩,by simp[eqV]⟩
   rw[this]at z;cases z
 rintro σ H2 ⟨rfl,s2⟩
 walk_at "rd"
 have eR:(R.map V.int).length=R.length:=Yf ..
 refine⟨_,.inl (SqL.of (s2 _ _ hr1)),?_⟩
 rw[eR,show((R.length:Int)-(c:Int)).toNat=R.length-c by omega]
 refine⟨by omega,by omega,?_⟩
 refine comp_map (n:=R.length-c) (λ_=>V.bl true) (Yv (show _<=1000 by omega) (by decide)) (λi Hx s hi=>hi) (λHx s=>Ye _) ?_ ?_
 ·rintro i x Hy Hz hi s ⟨rfl,rfl⟩
  walk_at "rd"
  have hi2:i+(c+1)<=R.length:=by omega
  have elc:(Zax R i (c+1)).length=c+1:=Zds hi2
  have hcv:ZcD (R.map V.int) (some (0+(i:Int))) (some (0+(i:Int)+(c:Int)+1))=(Zax R i (c+1)).map V.int:=by rw[show(0:Int)+(i:Int)=(i:Int) by omega,show(i:Int)+(c:Int)+1=((i+(c+1):Nat):Int) by omega,ZfU R (by omega) hi2,show i+(c+1)-i=c+1 by omega]
  have hnil:Zv (nth (Zax R i (c+1))) (nth ms) (Zax R i (c+1)).length ms.length=[]:=by
   rw[elc,Zfx]
   exact List.filter_eq_nil_iff.mpr λb hb=>by rw[hno i b (by unfold ZH;omega) (YA.mp hb)];simp
  refine⟨_,SqL.of (s _ _ (s2 _ _ hr1)),λu zu=>?_⟩
  rw[hcv]
  have gu:=(Zh.refl Hz).upd (o:=.lst ((Zax R i (c+1)).map V.int)) zu
  refine⟨u,t,Zax R i (c+1),ms,rfl,.inl (SqL.of Zb),.inl (SqL.of (gu _ _ (s _ _ (s2 _ _ ht)))),by rw[elc];omega,by omega,λz=>absurd z (by rw[elc];omega),λ_ v H3 zv s3 hv=>⟨by decide,λy zy=>⟨v,rfl,_,Zdt (n:=2) (((Zh.refl H3).upd (o:=.lst []) zy) _ _ hv) Zb,?_⟩⟩⟩
  rw[hnil]
  exact CW.next hi (congrArg V.bl (YW rfl)) ((s.trans (gu.trans s3)).ZaL zy)
 ·intro l H3 s3 zl
  refine⟨l,rfl,List.replicate (R.length-c) true,SqL.of (by rw[Zb];simp[List.map_const']),?_⟩
  rw[show(List.replicate (R.length-c) true).all id=true by simp]
  exact k1 _ ((s2.trans s3).ZaL zl)
theorem ok_law {f:Addr}{fd:FuncData} (F:Fun K "law" "law" s_law f fd) (ZU:Callee P w K mg base "starts_of" 5 ["row","text"] (ZaY K mg)) (Zer:Callee P w K mg base "_law_deal" 1 ["script","k"] (ZdK K mg)) (Zes:Callee P w K mg base "_law_rows" 3 ["pot"] (ZdL K mg)) (Zdk:Callee P w K mg base "_law_stream" 2 ["pot","rows"] (ZcL K mg)) (Zet:Callee P w K mg base "_law_ends" 7 ["row","text"] (ZdO K mg)) (Zb1:Callee P w K mg base "_law_own_right" 7 ["row"] (ZbC K mg)) (Za2:Callee P w K mg base "_law_groups_right" 6 ["text"] (ZaN K mg)) (ZbF:Callee P w K mg base "_law_both_right" 10 ["row","text"] (Zbo K mg)) (T:Txt K mg):FnOk P w K mg base (CXE P w) 11 f fd ["script"] (spLaw K mg):=by
 refine F.okX sc_law (λvs H Q E h=>?_) (λcdv A outer s H vs Q E hr h=>?_)
 ·obtain⟨a,ns,rfl,_⟩:=h;rfl
 obtain⟨sc,ss,rfl,hsc,hss,hTT,k1⟩:=h
 have hT2:ZmY K mg "longest_both" H:=hTT (Zkr K mg "longest_both",lamQ "longest_both") (by unfold tabsL;simp)
 refine⟨_,(Zd (Z2 (Zau PassesOwn.never rfl (ZaC rfl T.b_range (Za (Zk (Zge rfl) rfl T.b_max Zgi (Za Ze (Za (Zk (Zgf rfl) rfl T.b_min Zji (Za (Zk (Zl (K:=K) rfl) rfl T.b_len Yn (Za (pv 0) Zc)) (Za Ze Zc))) Zc))) Zc)) (Zo (i:=1) sc_law.nd rfl (Or.inl rfl)) (Zd (Zq (i:=2) sc_law.nd rfl (Or.inl rfl) (Zi Zer (hr.mono (by decide)) rfl Zu (Za (pv 0) (Za (pv 1) Zc))))
   (Zd (Zq (i:=3) sc_law.nd rfl (Or.inl rfl) (Zi Zes (hr.mono (by decide)) rfl Zu (Za (pv 2) Zc)))
   (Zd (Zq (i:=4) sc_law.nd rfl (Or.inr rfl) (Zah ZP (pv 3) Ze (λ_ _=>rfl)))
   (Zd (Zq (i:=5) sc_law.nd rfl (Or.inl rfl) (ZaB Za9 (Zi Zdk (hr.mono (by decide)) rfl Zu (Za (pv 2) (Za (ZK (Za (pv 4) Zc)) Zc))) ZcZ (Zam Ze)))
   (Zd (Zhw (Zi Zet (hr.mono (by decide)) rfl Zu (Za (pv 4) (Za (pv 5) Zc))) (ZdC (n:=2) rfl (ZD (Zo (i:=6) sc_law.nd rfl (Or.inl rfl)) (ZD (Zo (i:=7) sc_law.nd rfl (Or.inl rfl)) Za8))))
   (Zd (Zag (Zt (Zgk (K:=K) rfl hr) (Zap ["end","row"] [none,some 4] rfl rfl rfl (Zbz (pv 6)) (λ_ _ _ _ _=>(Zo (i:=0) (show(["end","row"]:List Str).Nodup from by decide +kernel) rfl (Or.inl rfl))) (λ_ _ _ _ _=>Za6) (λ_ _ _ _ _=>(Zn Zbj (pv 0) (Zk (Zl (K:=K) rfl) rfl T.b_len Yn (Za (pv 1) Zc)))) ZO) (Zi ZU (hr.mono (by decide)) rfl Zu (Za (pv 4) (Za (pv 5) Zc))) (Zy _)) (Zg (ZC Ze7)) ZW)
   (Zd (Zag (PW.pt (ZlL (PW.pt (Zgd (Zt ZgL (pv 7) Ze (Zy _)) (ZeZ (Zt (Zlf (K:=K) rfl hr) (Zi ZU (hr.mono (by decide)) rfl Zu (Za (ZaB Za9 (pv 4) ZcZ (Zam (pv 7))) (Za (pv 5) Zc))) (ZK Zc) (Zy _))))) (Zi4 (PW.pt (Zgd (Zt Ze8 (pv 7) (Zk (Zl (K:=K) rfl) rfl T.b_len Yn (Za (pv 4) Zc)) (Zy _)) (ZeZ (Zt (Zgk (K:=K) rfl hr) (Zi ZU (hr.mono (by decide)) rfl Zu (Za (ZaB Za9 (pv 4) ZcZ (Zam (Zn ZV (pv 7) Ze))) (Za (pv 5) Zc))) (ZK Zc) (Zy _)))))))) (Zg (ZC Ze7)) ZW)
   (Zd (Zag (PW.pt (ZlL (Zi5 (ZkW (Zi Zb1 (hr.mono (by decide)) rfl Zu (Za (pv 4) Zc)))) (Zi4 (Zi5 (ZkW (Zi Za2 (hr.mono (by decide)) rfl Zu (Za (pv 5) Zc))))))) (Zg (ZC Ze7)) ZW)
   (Zg (Zag (PW.pt (Zgd (Zt (Zgk (K:=K) rfl hr) (pv 5) (ZK Zc) (Zy _)) (ZeZ (Zi5 (ZkW (Zi ZbF (hr.mono (by decide)) rfl Zu (Za (pv 4) (Za (pv 5) Zc)))))))) (Zg (ZC Ze7)) ZW))))))))))))
   (Zg (ZC Ze7))),?_⟩
 walk_at "rd"
 refine⟨_,.inl hsc,by split<;>(try split)<;>omega,by split<;>(try split)<;>omega,?_⟩
 refine ZbR (λi σ Hx=>∃v1 v2 v3 v4 v5 v6 v7,σ=[some (.ref sc),v1,v2,v3,v4,v5,v6,v7]/\Zh H Hx) ⟨_,_,_,_,_,_,_,rfl,Zh.refl H⟩ ?_ ?_
 ·rintro i σ H' hi ⟨v1,v2,v3,v4,v5,v6,v7,rfl,hs⟩
  have hi8:i<16:=by
   revert hi
   split
   ·split<;>omega
   ·omega
  refine Zaw (fun σ Hx=>∃p,σ=[some (.ref sc),some (.int (0+(i:Int))),some (.ref p),v3,v4,v5,v6,v7]/\H p=none/\ZR Hx p/\Zh H Hx) (λR hR=>?_) ?_
  ·walk_at "rd"
   exact⟨sc,ss,_,rfl,hs.seq hsc,by omega,by omega,λp H1 hp s1 P1=>hR _ _ ⟨p,rfl,hs.free hp,P1,hs.trans s1⟩⟩
  rintro σ H1 ⟨p,rfl,zp,P1,s1⟩
  refine Zaw (fun σ Hx=>∃(q:Addr) (Rs:List (List Int)),σ=[some (.ref sc),some (.int (0+(i:Int))),some (.ref p),some (.ref q),v4,v5,v6,v7]/\Few Rs 12/\q≠p/\Zdx (λa=>a≠p) Hx q Rs/\ZR Hx p/\Zh H Hx) (λR hR=>?_) ?_
  ·walk_at "rd"
   exact⟨p,rfl,P1,λq Rs H2 zq nqp hF hRs P2 e2=>hR _ _ ⟨q,Rs,rfl,hF,nqp,hRs,P2,s1.exc zp e2⟩⟩
  clear P1 s1 H1
  rintro σ H1 ⟨q,Rs,rfl,hF,nqp,hRs,P1,s1⟩
  refine Zaw (fun σ Hx=>∃(r:Addr) (R:List Int),σ=[some (.ref sc),some (.int (0+(i:Int))),some (.ref p),some (.ref q),some (.ref r),v5,v6,v7]/\r≠p/\0<R.length/\R.length<=12/\Hx r=some (.lst (R.map V.int))/\ZR Hx p/\Zh H Hx) (λR hR=>?_) ?_
  ·walk_at "rd"
   obtain⟨as,h1,h2,h3⟩:=hRs
   have h0:0<as.length:=by have:=hF.1;omega
   obtain⟨nn,hh⟩:=h3 0 h0 hF.1
   have hb:=hF.2.2 _ (Yz hF.1)
   exact⟨_,SqL.of h1,_,(show atI _ ((0:Nat):Int)=_ from Zhn (by rw[Yp,Yg h0];rfl)),hR _ _ ⟨as[0],Rs[0],rfl,nn,hb.1,hb.2,hh,P1,s1⟩⟩
  clear P1 s1 hRs hF nqp H1 Rs
  rintro σ H1 ⟨r,R,rfl,nrp,hR0,hR12,hr1,P1,s1⟩
  refine Zaw (fun σ Hx=>∃(t:Addr) (ms:List Int),σ=[some (.ref sc),some (.int (0+(i:Int))),some (.ref p),some (.ref q),some (.ref r),some (.ref t),v6,v7]/\t≠p/\ms.length<=60/\Hx t=some (.lst (ms.map V.int))/\Hx r=some (.lst (R.map V.int))/\ZR Hx p/\Zh H Hx) (λR' hR=>?_) ?_
  ·walk_at "rd"
   refine⟨by decide,λu zu=>?_⟩
   have gu:=(Zh.refl H1).upd (o:=.lst [V.ref r]) zu
   have nup:u≠p:=P1.ne zu
   refine⟨p,u,[R],rfl,P1.same gu,⟨[r],Zb,rfl,λi i1 i2=>?_⟩,nup,⟨by simp,by simp,λR' h=>by rw[YG.mp h];exact⟨hR0,hR12⟩⟩,λw gs H3 zw lg hw P3 e3=>⟨w,rfl,_,SqL.of hw,λt zt=>?_⟩⟩
   ·have:i=0:=by simp at i1;omega
    subst this;exact⟨nrp,gu _ _ hr1⟩
   ·rw[show(40:Int)=((40:Nat):Int)from rfl,Zgl,<-List.map_take]
    have gt:=(Zh.refl H3).upd (o:=.lst ((gs.take 40).map V.int)) zt
    exact hR _ _ ⟨t,gs.take 40,rfl,P3.ne zt,by rw[YO];omega,Zb,gt _ _ (e3 _ _ nrp (gu _ _ hr1)),P3.same gt,(Zh.exc (s1.trans gu) zp e3).trans gt⟩
  clear P1 s1 hr1 H1
  rintro σ H1 ⟨t,ms,rfl,ntp,hm,ht,hr1,P1,s1⟩
  refine Zaw (fun σ Hx=>∃(e:Addr) (m:Nat),σ=[some (.ref sc),some (.int (0+(i:Int))),some (.ref p),some (.ref q),some (.ref r),some (.ref t),some (.ref e),some (.int (m:Int))]/\EndsM R ms m/\Hx e=some (.lst (Zr ((Zv (nth R) (nth ms) R.length ms.length).map (·+R.length))))/\Zh H1 Hx) (λR' hR=>?_) ?_
  ·walk_at "rd"
   exact⟨r,t,R,ms,rfl,hr1,ht,hR0,hR12,hm,λu e m H2 s2 hE hu he=>⟨u,rfl,_,SqT.of hu,rfl,_,_,rfl,_,_,rfl,rfl,hR _ _ ⟨e,m,rfl,hE,he,s2⟩⟩⟩
  rintro σ H2 ⟨e,m,rfl,hE,he,s2⟩
  refine Zaw (fun σ Hx=>σ=[some (.ref sc),some (.int (0+(i:Int))),some (.ref p),some (.ref q),some (.ref r),some (.ref t),some (.ref e),some (.int (m:Int))]/\Zh H1 Hx) (λR' hR=>?_) ?_
  ·walk_at "rd"
   have hr2:=s2 _ _ hr1
   have ht2:=s2 _ _ ht
   have eR:(R.map V.int).length=R.length:=Yf ..
   generalize hL:Zv (nth R) (nth ms) R.length ms.length=L at he
   have lL:L.length<=61:=by rw[<-hL];have:=ZdJ (nth R) (nth ms) R.length ms.length;omega
   refine⟨⟨_,SqL.of he⟩,comp_map (n:=L.length) (λk=>V.int ((L.getD k 0:Nat):Int)) (Yv (show _<=1000 by omega) (by decide)) (λj Hy s hj=>⟨_,_,SqL.of (s _ _ he),Yg (by unfold Zr;simpa using hj)⟩) (λHy s=>⟨_,SqL.of (s _ _ he),by unfold Zr;simp⟩) ?_ ?_⟩
   ·rintro k y Hy Hz hk s ⟨rfl,hx⟩
    have ex:=hx _ (SqL.of (s _ _ he))
    unfold Zr at ex
    rw[YS,Yp,Yg hk]at ex
    cases ex
    walk_at "rd"
    refine⟨_,.inl (SqL.of (s _ _ hr2)),((L[k]+R.length:Nat):Int),rfl,?_⟩
    rw[eR,show((L[k]+R.length:Nat):Int)-(R.length:Int)=(L[k]:Int) by omega]
    exact CW.next hk (by simp[hk]) s
   ·intro l Hy s zl
    have gl:=s.ZaL (o:=.lst ((List.range L.length).map λk=>V.int ((L.getD k 0:Nat):Int))) zl
    have hl:upd Hy l (.lst ((List.range L.length).map λk=>V.int ((L.getD k 0:Nat):Int))) l=some (.lst ((L.map λ(j:Nat)=>(j:Int)).map V.int)):=by
     rw[Zb]
     congr 2
     refine List.ext_getElem (by simp) λk h1 h2=>?_
     have h3:k<L.length:=by simpa using h1
     simp[h3]
    refine⟨r,t,R,ms,rfl,.inl (SqL.of (gl _ _ hr2)),.inl (SqL.of (gl _ _ ht2)),by omega,by omega,λz=>absurd z (by omega),λ_ v H3 zv s3 hv=>⟨l,rfl,v,rfl,?_⟩⟩
    rw[hL,ZdI]at hv
    exact⟨_,Zhs (n:=2) (K:=K) (H:=H3) Zhr (V.ref l) (V.ref v) _ _ (Zce (SqL.of (s3 _ _ hl))) (Zce (SqL.of hv)),Z4 (λz=>absurd z (by simp)) λ_=>hR _ _ ⟨rfl,s2.trans (gl.trans s3)⟩⟩
  clear s2 he H2
  rintro σ H2 ⟨rfl,s2⟩
  refine Zaw (fun σ Hx=>σ=[some (.ref sc),some (.int (0+(i:Int))),some (.ref p),some (.ref q),some (.ref r),some (.ref t),some (.ref e),some (.int (m:Int))]/\Zh H1 Hx) (λR' hR=>?_) ?_
  ·walk_at "rd"
   have hr2:=s2 _ _ hr1
   have ht2:=s2 _ _ ht
   have eR:(R.map V.int).length=R.length:=Yf ..
   have mR:m<=R.length:=by
    rcases hE.1 with z|⟨p,_,_,z,_⟩
    ·omega
    ·exact z
   have big:m<R.length->Zv (nth (Zax R 0 (m+1))) (nth ms) (m+1) ms.length=[]:=λhmR=>by
    rw[Zf2 (by omega)]
    unfold Zv
    refine List.filter_eq_nil_iff.mpr λs hs=>?_
    have hs:=YA.mp hs
    intro y
    have y:=@of_decide_eq_true _ (Classical.propDecidable _) y
    have:=hE.2 (m+1) (s+(m+1)) (by omega) (by omega) (by omega) y
    omega
   have two:∀Hy,Zh H2 Hy->(if (m:Int)<((R.map V.int).length:Int)then ∃x,SqL K Hy r x/\∀(p_3:Addr),Hy p_3=none->ZaY K mg [V.ref p_3,V.ref t] (upd Hy p_3 (.lst (ZcD x none (some ((m:Int)+1))))) (λx H1=>0<=sizeLine/\∀(p_4:Addr),H1 p_4=none->∃a,x=V.ref a/\∃x_2,EqD K (upd H1 p_4 (.lst [])) 3 x (V.ref p_4) x_2/\if x_2=false then Q (V.bl false) (upd H1 p_4 (.lst []))else R' [some (V.ref sc),some (V.int (0+(i:Int))),some (V.ref p),some (V.ref q),some (V.ref r),some (V.ref t),some (V.ref e),some (V.int (m:Int))] (upd H1 p_4 (.lst []))) E0 else R' [some (V.ref sc),some (V.int (0+(i:Int))),some (V.ref p),some (V.ref q),some (V.ref r),some (V.ref t),some (V.ref e),some (V.int (m:Int))] Hy):=λHy sy=>by
    refine Z4 (λz=>?_) λz=>hR _ _ ⟨rfl,s2.trans sy⟩
    rw[eR]at z
    refine⟨_,SqL.of (sy _ _ hr2),λu zu=>?_⟩
    rw[show(m:Int)+1=((m+1:Nat):Int) by omega,Zl6 R (by omega)]
    have elc:(Zax R 0 (m+1)).length=m+1:=Zds (by omega)
    have gu:=(Zh.refl Hy).upd (o:=.lst ((Zax R 0 (m+1)).map V.int)) zu
    refine⟨u,t,Zax R 0 (m+1),ms,rfl,.inl (SqL.of Zb),.inl (SqL.of (gu _ _ (sy _ _ ht2))),by rw[elc];omega,by omega,λz=>absurd z (by rw[elc];omega),λ_ v H3 zv s3 hv=>⟨by decide,λw zw=>⟨v,rfl,?_⟩⟩⟩
    have gw:=(Zh.refl H3).upd (o:=.lst []) zw
    rw[elc,big (by omega)]at hv
    exact⟨_,Zdt (n:=2) (gw _ _ hv) Zb,Z4 (λz=>absurd z (by simp[Zr])) λ_=>hR _ _ ⟨rfl,s2.trans (sy.trans (gu.trans (s3.trans gw)))⟩⟩
   refine Z4 (λz=>?_) λz=>⟨_,.inl (SqL.of hr2),two _ (Zh.refl _)⟩
   refine⟨_,SqL.of hr2,λu zu=>?_⟩
   rw[Zl6 R mR]
   have elc:(Zax R 0 m).length=m:=Zds (by omega)
   have gu:=(Zh.refl H2).upd (o:=.lst ((Zax R 0 m).map V.int)) zu
   refine⟨u,t,Zax R 0 m,ms,rfl,.inl (SqL.of Zb),.inl (SqL.of (gu _ _ ht2)),by rw[elc];omega,by omega,λz=>absurd z (by rw[elc];omega),λ_ v H3 zv s3 hv=>⟨by decide,λw zw=>⟨v,rfl,?_⟩⟩⟩
   have gw:=(Zh.refl H3).upd (o:=.lst []) zw
   rw[elc,Zf2 mR]at hv
   have hne:Zr (Zv (nth R) (nth ms) m ms.length)≠[]:=λy=>by
    rcases hE.1 with y2|⟨p,p1,p2,_,p4⟩
    ·omega
    ·have hin:p-m∈Zv (nth R) (nth ms) m ms.length:=YL.mpr ⟨YA.mpr (by omega),@decide_eq_true _ (Classical.propDecidable _) (by rw[show p-m+m=p by omega];exact p4)⟩
     rw[List.map_eq_nil_iff.mp y]at hin
     cases hin
   exact⟨_,Zdt (n:=2) (gw _ _ hv) Zb,Z4 (λz=>absurd (of_decide_eq_true z) hne) λ_=>⟨_,.inl (SqL.of (gw _ _ (s3 _ _ (gu _ _ hr2)))),two _ (gu.trans (s3.trans gw))⟩⟩
  clear s2 H2
  rintro σ H2 ⟨rfl,s2⟩
  refine Zaw (fun σ Hx=>σ=[some (.ref sc),some (.int (0+(i:Int))),some (.ref p),some (.ref q),some (.ref r),some (.ref t),some (.ref e),some (.int (m:Int))]/\Zh H1 Hx) (λR' hR=>?_) ?_
  ·walk_at "rd"
   exact⟨r,R,rfl,s2 _ _ hr1,hR0,hR12,λH3 s3=>⟨true,rfl,Z4 (λz=>nomatch z) λ_=>⟨t,ms,rfl,s3 _ _ (s2 _ _ ht),hm,λH4 s4=>⟨true,rfl,Z4 (λz=>nomatch z) λ_=>hR _ _ ⟨rfl,s2.trans (s3.trans s4)⟩⟩⟩⟩⟩
  clear s2 H2
  rintro σ H2 ⟨rfl,s2⟩
  walk_at "rd"
  refine⟨by decide,λu zu=>?_⟩
  have gu:=(Zh.refl H2).upd (o:=.lst []) zu
  refine⟨_,Zdt (n:=2) (gu _ _ (s2 _ _ ht)) Zb,Z4 (λz=>?_) λz=>?_⟩
  ·have hm0:0<ms.length:=by
    cases ms with
    |nil=>simp at z
    |cons a b=>simp
   exact⟨r,t,R,ms,rfl,gu _ _ (s2 _ _ hr1),gu _ _ (s2 _ _ ht),hR0,hR12,hm0,hm,hT2.same (s1.trans (s2.trans gu)),λH3 s3=>⟨true,rfl,Z4 (λz=>nomatch z) λ_=>s1.trans (s2.trans (gu.trans s3))⟩⟩
  ·exact s1.trans (s2.trans gu)
 ·rintro σ H' ⟨v1,v2,v3,v4,v5,v6,v7,rfl,hs⟩
  walk_at "rd"
  exact k1 _
end
theorem all_mk {l:PySem.W.OpenLaw}{w:World}{K:PySem.W.Frag}{h:Heap}{mg:Str->Option Value}{fa:Addr}{ts:List Addr} (X:K.In h) (G:h.Ns mainGlobals mg) (hfa:mg "law"=some (.ref fa))
  {C_Watch:Addr} (n_Watch:nsIn K mainGlobals "Watch"=some (some (.ref C_Watch))) (pg_Watch:PySem.W.plainGet K C_Watch Str.empty=true) (hd_Watch:PySem.W.hasDictIn K C_Watch=true) (po_Watch:PySem.W.plainOver K C_Watch=true) (sa_Watch:PySem.W.findIn K (.ref C_Watch) "__setattr__"=some (some (.builtin "object.__setattr__"))) (mk_Watch:PySem.W.makesIn K C_Watch=true) (kc_Watch:keepIn K (.ref C_Watch)=true)
  (na_Watch_distances:PySem.W.findIn K (.ref C_Watch) "distances"=some none)
  (na_Watch_borders:PySem.W.findIn K (.ref C_Watch) "borders"=some none)
  (na_Watch_given:PySem.W.findIn K (.ref C_Watch) "given"=some none)
  (na_Watch_sizes:PySem.W.findIn K (.ref C_Watch) "sizes"=some none)
  {Zd1:Tok}{oc3_need_numbers:Value}{od3_need_numbers:Option Addr}{Zhd:Nat}{sl3_need_numbers:Array (Option Value)}
  (ZbG:nsIn K mainGlobals "need_numbers"=some (some (.ref Zeu))) (ZcO:K.lookup Zeu=some ⟨ZnA,ZnB,.func (fnOf "need_numbers" "need_numbers" (defArgs Zaq) (defBody Zaq) (defScope Zaq) (.ref ZhV) ZnC ZnD ZnE ZnF Zhe ZnG),ZnH⟩) (ZcP:codeIn K Zhe "need_numbers"=true) (ZaR:keepIn K (.ref Zeu)=true)
  (ZbH:K.lookup ZhV=some ⟨oc3_need_numbers,od3_need_numbers,.seq #[.int 1 Zd1] Zhd,sl3_need_numbers⟩)
  (ZhW:nsIn K mainGlobals "settle"=some (some (.ref Zkz))) (ZhX:K.lookup Zkz=some ⟨ZrR,ZrS,.func (fnOf "settle" "settle" (defArgs s_settle) (defBody s_settle) (defScope s_settle) .none ZrT ZrU ZrV ZrW Zm6 ZrX),ZrY⟩) (ZhY:codeIn K Zm6 "settle"=true) (Zf4:keepIn K (.ref Zkz)=true)
  (Zgy:nsIn K mainGlobals "tree_of"=some (some (.ref ZiX))) (Zgz:K.lookup ZiX=some ⟨Zro,Zrp,.func (fnOf "tree_of" "tree_of" (defArgs s_tree_of) (defBody s_tree_of) (defScope s_tree_of) .none Zrq Zrr Zrs Zrt Zly Zru),Zrv⟩) (ZgA:codeIn K Zly "tree_of"=true) (Ze2:keepIn K (.ref ZiX)=true)
  (ZhZ:nsIn K mainGlobals "way_up"=some (some (.ref ZkA))) (Zh0:K.lookup ZkA=some ⟨ZrZ,Zr0,.func (fnOf "way_up" "way_up" (defArgs s_way_up) (defBody s_way_up) (defScope s_way_up) .none Zr1 Zr2 Zr3 Zr4 Zm7 Zr5),Zr6⟩) (Zh1:codeIn K Zm7 "way_up"=true) (Zf5:keepIn K (.ref ZkA)=true)
  (Zev:nsIn K mainGlobals "fences_of"=some (some (.ref ZgQ))) (Zew:K.lookup ZgQ=some ⟨Zqd,Zqe,.func (fnOf "fences_of" "fences_of" (defArgs s_fences_of) (defBody s_fences_of) (defScope s_fences_of) .none Zqf Zqg Zqh Zqi ZjF Zqj),Zqk⟩) (Zex:codeIn K ZjF "fences_of"=true) (Zc4:keepIn K (.ref ZgQ)=true)
  (Zcn:nsIn K mainGlobals "distance_list"=some (some (.ref Zd2))) (Zco:K.lookup Zd2=some ⟨Zm8,Zm9,.func (fnOf "distance_list" "distance_list" (defArgs Zaa) (defBody Zaa) (defScope Zaa) .none Zna Znb Znc Znd ZgB Zne),Znf⟩) (Zcp:codeIn K ZgB "distance_list"=true) (Zbd:keepIn K (.ref Zd2)=true)
  (Zcq:nsIn K mainGlobals "row_distances"=some (some (.ref Zd3))) (Zcr:K.lookup Zd3=some ⟨Zng,Znh,.func (fnOf "row_distances" "row_distances" (defArgs Zab) (defBody Zab) (defScope Zab) .none Zni Znj Znk Znl ZgC Znm),Znn⟩) (Zcs:codeIn K ZgC "row_distances"=true) (Zbe:keepIn K (.ref Zd3)=true)
  (Zdl:nsIn K mainGlobals "seen_within"=some (some (.ref Ze9))) (Zdm:K.lookup Ze9=some ⟨Zo2,Zo3,.func (fnOf "seen_within" "seen_within" (defArgs ZaD) (defBody ZaD) (defScope ZaD) .none Zo4 Zo5 Zo6 Zo7 Zh2 Zo8),Zo9⟩) (Zdn:codeIn K Zh2 "seen_within"=true) (Zcb:keepIn K (.ref Ze9)=true)
  (Zh3:nsIn K mainGlobals "follow"=some (some (.ref ZkB))) (Zh4:K.lookup ZkB=some ⟨Zr7,Zr8,.func (fnOf "follow" "follow" (defArgs Zdv) (defBody Zdv) (defScope Zdv) .none Zr9 Zsa Zsb Zsc Zno Zsd),Zse⟩) (Zh5:codeIn K Zno "follow"=true) (Zf6:keepIn K (.ref ZkB)=true)
  (ZdR:nsIn K mainGlobals "borders_by"=some (some (.ref Zf7))) (ZdS:K.lookup Zf7=some ⟨Zpr,Zps,.func (fnOf "borders_by" "borders_by" (defArgs ZaV) (defBody ZaV) (defScope ZaV) .none Zpt Zpu Zpv Zpw Zir Zpx),Zpy⟩) (ZdT:codeIn K Zir "borders_by"=true) (ZcF:keepIn K (.ref Zf7)=true)
  (ZdU:nsIn K mainGlobals "borders_of"=some (some (.ref Zf8))) (ZdV:K.lookup Zf8=some ⟨Zpz,ZpA,.func (fnOf "borders_of" "borders_of" (defArgs ZaW) (defBody ZaW) (defScope ZaW) .none ZpB ZpC ZpD ZpE Zis ZpF),ZpG⟩) (ZdW:codeIn K Zis "borders_of"=true) (ZcG:keepIn K (.ref Zf8)=true)
  (Zey:nsIn K mainGlobals "starts_of"=some (some (.ref ZgR))) (Zez:K.lookup ZgR=some ⟨Zql,Zqm,.func (fnOf "starts_of" "starts_of" (defArgs Zbr) (defBody Zbr) (defScope Zbr) .none Zqn Zqo Zqp Zqq ZjG Zqr),Zqs⟩) (ZeA:codeIn K ZjG "starts_of"=true) (Zc5:keepIn K (.ref ZgR)=true)
  (ZcQ:nsIn K mainGlobals "need_watched"=some (some (.ref ZeB))) (ZcR:K.lookup ZeB=some ⟨ZnI,ZnJ,.func (fnOf "need_watched" "need_watched" (defArgs Zar) (defBody Zar) (defScope Zar) .none ZnK ZnL ZnM ZnN Zhf ZnO),ZnP⟩) (ZcS:codeIn K Zhf "need_watched"=true) (ZbI:keepIn K (.ref ZeB)=true)
  (Zct:nsIn K mainGlobals "next_distance"=some (some (.ref Zd4))) (Zcu:K.lookup Zd4=some ⟨Znp,Znq,.func (fnOf "next_distance" "next_distance" (defArgs Zac) (defBody Zac) (defScope Zac) .none Znr Zns Znt Znu ZgD Znv),Znw⟩) (Zcv:codeIn K ZgD "next_distance"=true) (Zbf:keepIn K (.ref Zd4)=true)
  {f_Watch___init__:Addr}{od_Watch___init__ an_Watch___init__:Option Addr}{sl_Watch___init__:Array (Option Value)}{oc_Watch___init__ kV_Watch___init__ dc_Watch___init__ pm_Watch___init__ cd_Watch___init__ ct_Watch___init__:Value}
  (a_Watch___init__:PySem.W.findIn K (.ref C_Watch) "__init__"=some (some (.ref f_Watch___init__))) (i_Watch___init__:PySem.W.isFn K (.ref f_Watch___init__)=true) (l_Watch___init__:K.lookup f_Watch___init__=some ⟨oc_Watch___init__,od_Watch___init__,.func (fnOf "__init__" "Watch.__init__" (defArgs Z6) (defBody Z6) (defScope Z6) .none kV_Watch___init__ dc_Watch___init__ pm_Watch___init__ an_Watch___init__ cd_Watch___init__ ct_Watch___init__),sl_Watch___init__⟩) (c_Watch___init__:codeIn K cd_Watch___init__ "Watch.__init__"=true) (k_Watch___init__:keepIn K (.ref f_Watch___init__)=true)
  {f_Watch_give:Addr}{od_Watch_give an_Watch_give:Option Addr}{sl_Watch_give:Array (Option Value)}{oc_Watch_give kV_Watch_give dc_Watch_give pm_Watch_give cd_Watch_give ct_Watch_give:Value}
  (a_Watch_give:PySem.W.findIn K (.ref C_Watch) "give"=some (some (.ref f_Watch_give))) (i_Watch_give:PySem.W.isFn K (.ref f_Watch_give)=true) (l_Watch_give:K.lookup f_Watch_give=some ⟨oc_Watch_give,od_Watch_give,.func (fnOf "give" "Watch.give" (defArgs ZaX) (defBody ZaX) (defScope ZaX) .none kV_Watch_give dc_Watch_give pm_Watch_give an_Watch_give cd_Watch_give ct_Watch_give),sl_Watch_give⟩) (c_Watch_give:codeIn K cd_Watch_give "Watch.give"=true) (k_Watch_give:keepIn K (.ref f_Watch_give)=true)
  {f_Watch_reach_now:Addr}{od_Watch_reach_now an_Watch_reach_now:Option Addr}{sl_Watch_reach_now:Array (Option Value)}{oc_Watch_reach_now kV_Watch_reach_now dc_Watch_reach_now pm_Watch_reach_now cd_Watch_reach_now ct_Watch_reach_now:Value}
  (a_Watch_reach_now:PySem.W.findIn K (.ref C_Watch) "reach_now"=some (some (.ref f_Watch_reach_now))) (i_Watch_reach_now:PySem.W.isFn K (.ref f_Watch_reach_now)=true) (l_Watch_reach_now:K.lookup f_Watch_reach_now=some ⟨oc_Watch_reach_now,od_Watch_reach_now,.func (fnOf "reach_now" "Watch.reach_now" (defArgs ZY) (defBody ZY) (defScope ZY) .none kV_Watch_reach_now dc_Watch_reach_now pm_Watch_reach_now an_Watch_reach_now cd_Watch_reach_now ct_Watch_reach_now),sl_Watch_reach_now⟩) (c_Watch_reach_now:codeIn K cd_Watch_reach_now "Watch.reach_now"=true) (k_Watch_reach_now:keepIn K (.ref f_Watch_reach_now)=true)
  {f_Watch_take_back:Addr}{od_Watch_take_back an_Watch_take_back:Option Addr}{sl_Watch_take_back:Array (Option Value)}{oc_Watch_take_back kV_Watch_take_back dc_Watch_take_back pm_Watch_take_back cd_Watch_take_back ct_Watch_take_back:Value}
  (a_Watch_take_back:PySem.W.findIn K (.ref C_Watch) "take_back"=some (some (.ref f_Watch_take_back))) (i_Watch_take_back:PySem.W.isFn K (.ref f_Watch_take_back)=true) (l_Watch_take_back:K.lookup f_Watch_take_back=some ⟨oc_Watch_take_back,od_Watch_take_back,.func (fnOf "take_back" "Watch.take_back" (defArgs ZZ) (defBody ZZ) (defScope ZZ) .none kV_Watch_take_back dc_Watch_take_back pm_Watch_take_back an_Watch_take_back cd_Watch_take_back ct_Watch_take_back),sl_Watch_take_back⟩) (c_Watch_take_back:codeIn K cd_Watch_take_back "Watch.take_back"=true) (k_Watch_take_back:keepIn K (.ref f_Watch_take_back)=true)
  (ZcT:nsIn K mainGlobals "stretch_keys"=some (some (.ref ZeC))) (ZcU:K.lookup ZeC=some ⟨ZnQ,ZnR,.func (fnOf "stretch_keys" "stretch_keys" (defArgs Zas) (defBody Zas) (defScope Zas) .none ZnS ZnT ZnU ZnV Zhg ZnW),ZnX⟩) (ZcV:codeIn K Zhg "stretch_keys"=true) (ZbJ:keepIn K (.ref ZeC)=true)
  (ZeD:nsIn K mainGlobals "groups_by"=some (some (.ref ZgS))) (ZeE:K.lookup ZgS=some ⟨Zqt,Zqu,.func (fnOf "groups_by" "groups_by" (defArgs Zbs) (defBody Zbs) (defScope Zbs) .none Zqv Zqw Zqx Zqy ZjH Zqz),ZqA⟩) (ZeF:codeIn K ZjH "groups_by"=true) (Zc6:keepIn K (.ref ZgS)=true)
  (ZeG:nsIn K mainGlobals "groups_of"=some (some (.ref ZgT))) (ZeH:K.lookup ZgT=some ⟨ZqB,ZqC,.func (fnOf "groups_of" "groups_of" (defArgs Zbt) (defBody Zbt) (defScope Zbt) .none ZqD ZqE ZqF ZqG ZjI ZqH),ZqI⟩) (ZeI:codeIn K ZjI "groups_of"=true) (Zc7:keepIn K (.ref ZgT)=true)
  (ZgE:nsIn K mainGlobals "both_at"=some (some (.ref ZiY))) (ZgF:K.lookup ZiY=some ⟨Zrw,Zrx,.func (fnOf "both_at" "both_at" (defArgs ZcH) (defBody ZcH) (defScope ZcH) .none Zry Zrz ZrA ZrB Zlz ZrC),ZrD⟩) (ZgG:codeIn K Zlz "both_at"=true) (Ze3:keepIn K (.ref ZiY)=true)
  (ZgH:nsIn K mainGlobals "longest"=some (some (.ref ZiZ))) (ZgI:K.lookup ZiZ=some ⟨ZrE,ZrF,.func (fnOf "longest" "longest" (defArgs ZcI) (defBody ZcI) (defScope ZcI) .none ZrG ZrH ZrI ZrJ ZlA ZrK),ZrL⟩) (ZgJ:codeIn K ZlA "longest"=true) (Ze4:keepIn K (.ref ZiZ)=true)
  (ZbK:nsIn K mainGlobals "longest_both"=some (some (.ref ZcW))) (ZbL:K.lookup ZcW=some ⟨ZnY,ZnZ,.func (fnOf "longest_both" "longest_both" (defArgs Zat) (defBody Zat) (defScope Zat) .none Zn0 Zn1 Zn2 Zn3 Zd5 Zn4),Zn5⟩) (ZcX:codeIn K Zd5 "longest_both"=true) (ZbM:keepIn K (.ref ZcW)=true)
  (Zcw:Zd5=.ref Zbg) (Zcx:K.lookup Zbg=some ⟨Zn6,Zn7,.fields Zhh,Zn8⟩) (Zcy:Zhh[11]?=some (.ref Zbh)) (Zbi:PySem.W.codeHdIn K Zbg Zbh=true) (Zcz:K.lookup Zbh=none) (ZcA:Zbh∈ts)
  (ZeJ:nsIn K mainGlobals "_law_deal"=some (some (.ref ZgU))) (ZeK:K.lookup ZgU=some ⟨ZqJ,ZqK,.func (fnOf "_law_deal" "_law_deal" (defArgs Zbu) (defBody Zbu) (defScope Zbu) .none ZqL ZqM ZqN ZqO ZjJ ZqP),ZqQ⟩) (ZeL:codeIn K ZjJ "_law_deal"=true) (Zc8:keepIn K (.ref ZgU)=true)
  (ZeM:nsIn K mainGlobals "_law_take"=some (some (.ref ZgV))) (ZeN:K.lookup ZgV=some ⟨ZqR,ZqS,.func (fnOf "_law_take" "_law_take" (defArgs Zbv) (defBody Zbv) (defScope Zbv) .none ZqT ZqU ZqV ZqW ZjK ZqX),ZqY⟩) (ZeO:codeIn K ZjK "_law_take"=true) (Zc9:keepIn K (.ref ZgV)=true)
  (ZfA:nsIn K mainGlobals "_law_row"=some (some (.ref Zh6))) (ZfB:K.lookup Zh6=some ⟨Zrf,Zrg,.func (fnOf "_law_row" "_law_row" (defArgs ZbX) (defBody ZbX) (defScope ZbX) .none Zrh Zri Zrj Zrk ZkC Zrl),Zrm⟩) (ZfC:codeIn K ZkC "_law_row"=true) (ZdX:keepIn K (.ref Zh6)=true)
  (ZeP:nsIn K mainGlobals "_law_rows"=some (some (.ref ZgW))) (ZeQ:K.lookup ZgW=some ⟨ZqZ,Zq0,.func (fnOf "_law_rows" "_law_rows" (defArgs Zbw) (defBody Zbw) (defScope Zbw) .none Zq1 Zq2 Zq3 Zq4 ZjL Zq5),Zq6⟩) (ZeR:codeIn K ZjL "_law_rows"=true) (Zda:keepIn K (.ref ZgW)=true)
  (Zdo:nsIn K mainGlobals "_law_stream"=some (some (.ref Zfa))) (Zdp:K.lookup Zfa=some ⟨Zpa,Zpb,.func (fnOf "_law_stream" "_law_stream" (defArgs ZaE) (defBody ZaE) (defScope ZaE) .none Zpc Zpd Zpe Zpf Zh7 Zpg),Zph⟩) (Zdq:codeIn K Zh7 "_law_stream"=true) (Zcc:keepIn K (.ref Zfa)=true)
  (ZeS:nsIn K mainGlobals "_law_ends"=some (some (.ref ZgX))) (ZeT:K.lookup ZgX=some ⟨Zq7,Zq8,.func (fnOf "_law_ends" "_law_ends" (defArgs Zbx) (defBody Zbx) (defScope Zbx) .none Zq9 Zra Zrb Zrc ZjM Zrd),Zre⟩) (ZeU:codeIn K ZjM "_law_ends"=true) (Zdb:keepIn K (.ref ZgX)=true)
  (Zb2:nsIn K mainGlobals "_law_own_right"=some (some (.ref Zdz))) (Zb3:K.lookup Zdz=some ⟨Zmc,Zmd,.func (fnOf "_law_own_right" "_law_own_right" (defArgs Z7) (defBody Z7) (defScope Z7) .none Zme Zmf Zmg Zmh Zf9 Zmi),Zmj⟩) (Zb4:codeIn K Zf9 "_law_own_right"=true) (ZaZ:keepIn K (.ref Zdz)=true)
  (Za3:nsIn K mainGlobals "_law_groups_right"=some (some (.ref ZcB))) (Za4:K.lookup ZcB=some ⟨ZkD,ZkE,.func (fnOf "_law_groups_right" "_law_groups_right" (defArgs ZT) (defBody ZT) (defScope ZT) .none ZkF ZkG ZkH ZkI ZeV ZkJ),ZkK⟩) (Za5:codeIn K ZeV "_law_groups_right"=true) (Zan:keepIn K (.ref ZcB)=true)
  (ZbN:nsIn K mainGlobals "_law_both_right"=some (some (.ref Zdc))) (ZbO:K.lookup Zdc=some ⟨ZlB,ZlC,.func (fnOf "_law_both_right" "_law_both_right" (defArgs Z0) (defBody Z0) (defScope Z0) .none ZlD ZlE ZlF ZlG ZfD ZlH),ZlI⟩) (ZbP:codeIn K ZfD "_law_both_right"=true) (ZaJ:keepIn K (.ref Zdc)=true)
  (Zpi:nsIn K mainGlobals "law"=some (some (.ref Zrn))) (Zpj:K.lookup Zrn=some ⟨Zsg,Zsh,.func (fnOf "law" "law" (defArgs s_law) (defBody s_law) (defScope s_law) .none ZrM ZrN ZrO ZrP Zpk ZrQ),Zsi⟩) (Zpl:codeIn K Zpk "law"=true) (Zpm:keepIn K (.ref Zrn)=true)
  {C_DipError:Addr} (n_DipError:nsIn K mainGlobals "DipError"=some (some (.ref C_DipError))) (x_DipError:PySem.W.excIn K C_DipError bmV newV=true) (d_DipError:PySem.W.hasDictIn K C_DipError=true) (y_DipError:PySem.W.typeIn K (.ref C_DipError)=some (.type "type"))
  {C_Empty:Addr} (n_Empty:nsIn K mainGlobals "Empty"=some (some (.ref C_Empty))) (x_Empty:PySem.W.excIn K C_Empty bmV newV=true) (d_Empty:PySem.W.hasDictIn K C_Empty=true) (y_Empty:PySem.W.typeIn K (.ref C_Empty)=some (.type "type"))
  {C_TooMany:Addr} (n_TooMany:nsIn K mainGlobals "TooMany"=some (some (.ref C_TooMany))) (x_TooMany:PySem.W.excIn K C_TooMany bmV newV=true) (d_TooMany:PySem.W.hasDictIn K C_TooMany=true) (y_TooMany:PySem.W.typeIn K (.ref C_TooMany)=some (.type "type"))
  {C_NoPast:Addr} (n_NoPast:nsIn K mainGlobals "NoPast"=some (some (.ref C_NoPast))) (x_NoPast:PySem.W.excIn K C_NoPast bmV newV=true) (d_NoPast:PySem.W.hasDictIn K C_NoPast=true) (y_NoPast:PySem.W.typeIn K (.ref C_NoPast)=some (.type "type"))
  (b_all:nsIn K mainGlobals "all"=some none)
  (b_enumerate:nsIn K mainGlobals "enumerate"=some none)
  (b_len:nsIn K mainGlobals "len"=some none)
  (b_list:nsIn K mainGlobals "list"=some none)
  (b_max:nsIn K mainGlobals "max"=some none)
  (b_min:nsIn K mainGlobals "min"=some none)
  (b_range:nsIn K mainGlobals "range"=some none)
  (b_tuple:nsIn K mainGlobals "tuple"=some none)
  (b_zip:nsIn K mainGlobals "zip"=some none)
  {t_MOST_WATCHED:Tok} (m_MOST_WATCHED:nsIn K mainGlobals "MOST_WATCHED"=some (some (.int 12 t_MOST_WATCHED)))
  (nd:[Zbh].Nodup)
  : ∃fd:FuncData,(∀(s:Shared) (v:Value),BindsTo s fd ⟨[v],[]⟩ [("script",v)])/\(∀p∈tabsL K mg,p.1∈ts/\K.lookup p.1=none/\∃c,PySem.W.codeHdIn K c p.1=true)/\((tabsL K mg).map (·.1)).Nodup/\∀base:Heap,K.In base->base.Ns mainGlobals mg->BM mg base->FnOk l.prog w K mg base (CXE l.prog w) 11 fa fd ["script"] (spLaw K mg):=by
 have e:=hfa.symm.trans (mg_of X G Zpi)
 cases e
 have q_DipError:clsAt mg "DipError"=C_DipError:=by unfold clsAt;rw[mg_of X G n_DipError]
 have q_Empty:clsAt mg "Empty"=C_Empty:=by unfold clsAt;rw[mg_of X G n_Empty]
 have q_TooMany:clsAt mg "TooMany"=C_TooMany:=by unfold clsAt;rw[mg_of X G n_TooMany]
 have q_NoPast:clsAt mg "NoPast"=C_NoPast:=by unfold clsAt;rw[mg_of X G n_NoPast]
 have q_Watch:clsAt mg "Watch"=C_Watch:=by unfold clsAt;rw[mg_of X G n_Watch]
 have q_MOST_WATCHED:tokAt mg "MOST_WATCHED"=t_MOST_WATCHED:=by unfold tokAt;rw[mg_of X G m_MOST_WATCHED]
 have T:Txt K mg:={
  b_all:=mg_none_of X G b_all
  b_enumerate:=mg_none_of X G b_enumerate
  b_len:=mg_none_of X G b_len
  b_list:=mg_none_of X G b_list
  b_max:=mg_none_of X G b_max
  b_min:=mg_none_of X G b_min
  b_range:=mg_none_of X G b_range
  b_tuple:=mg_none_of X G b_tuple
  b_zip:=mg_none_of X G b_zip
  c_DipError:=by rw[q_DipError];exact mg_of X G n_DipError
  x_DipError:=by rw[q_DipError];exact x_DipError
  c_Empty:=by rw[q_Empty];exact mg_of X G n_Empty
  x_Empty:=by rw[q_Empty];exact x_Empty
  c_TooMany:=by rw[q_TooMany];exact mg_of X G n_TooMany
  x_TooMany:=by rw[q_TooMany];exact x_TooMany
  c_NoPast:=by rw[q_NoPast];exact mg_of X G n_NoPast
  x_NoPast:=by rw[q_NoPast];exact x_NoPast
  c_Watch:=by rw[q_Watch];exact mg_of X G n_Watch
  cl_Watch:=by rw[q_Watch];exact⟨pg_Watch,hd_Watch,po_Watch,sa_Watch⟩
  n_Watch_distances:=by rw[q_Watch];exact na_Watch_distances
  n_Watch_borders:=by rw[q_Watch];exact na_Watch_borders
  n_Watch_given:=by rw[q_Watch];exact na_Watch_given
  n_Watch_sizes:=by rw[q_Watch];exact na_Watch_sizes
  m_MOST_WATCHED:=by rw[q_MOST_WATCHED];exact mg_of X G m_MOST_WATCHED
 }
 subst Zcw
 have Zae:=Zp7 (mg_of X G ZbK) ZbL rfl Zcx Zcy
 have Zh8:LamD K mg "longest_both" ZcW:=⟨Zbg,Zae.2,by rw[Zae.1];exact Zbi⟩
 have ZbQ:=ZpX (st:=Zaq) ZcO ZcP ZaR
 have Zh9:=ZbQ.binds (ps:=["row","fewest"]) (ds:=[]) ZbH λ_ _ _ _ _ _ us hl=>by obtain⟨x0,u0,rfl,h0⟩:=le1 (show us.length=2 by simpa using hl);obtain⟨x1,u1,rfl,h1⟩:=le1 h0;obtain rfl:=le0 h1;exact⟨_,rfl,rfl⟩
 have Zhi:=ZbQ.binds (ps:=["row","fewest"]) (ds:=[.int 1 Zd1]) ZbH λ_ _ _ _ _ _ us hl=>by obtain⟨x0,u0,rfl,h0⟩:=le1 (show us.length=1 from Nat.succ.inj (YE.symm.trans hl));obtain rfl:=le0 h0;exact⟨_,rfl,rfl⟩
 have ZkL:=ZL (st:=s_settle) ZhX ZhY Zf4
 have Zpn:=ZkL.binds (ps:=["elders","spine","place","keep"]) λ_ _ _ _ _ _ us hl=>by obtain⟨x0,u0,rfl,h0⟩:=le1 hl;obtain⟨x1,u1,rfl,h1⟩:=le1 h0;obtain⟨x2,u2,rfl,h2⟩:=le1 h1;obtain⟨x3,u3,rfl,h3⟩:=le1 h2;obtain rfl:=le0 h3;exact rfl
 have Zi0:=ZL (st:=s_tree_of) Zgz ZgA Ze2
 have Znx:=Zi0.binds (ps:=["row"]) λ_ _ _ _ _ _ us hl=>by obtain⟨x0,u0,rfl,h0⟩:=le1 hl;obtain rfl:=le0 h0;exact rfl
 have ZkM:=ZL (st:=s_way_up) Zh0 Zh1 Zf5
 have Zpo:=ZkM.binds (ps:=["tree","place"]) λ_ _ _ _ _ _ us hl=>by obtain⟨x0,u0,rfl,h0⟩:=le1 hl;obtain⟨x1,u1,rfl,h1⟩:=le1 h0;obtain rfl:=le0 h1;exact rfl
 have ZgY:=ZL (st:=s_fences_of) Zew Zex Zc4
 have ZkN:=ZgY.binds (ps:=["tree"]) λ_ _ _ _ _ _ us hl=>by obtain⟨x0,u0,rfl,h0⟩:=le1 hl;obtain rfl:=le0 h0;exact rfl
 have Zd6:=ZL (st:=Zaa) Zco Zcp Zbd
 have Zhj:=Zd6.binds (ps:=["tree"]) λ_ _ _ _ _ _ us hl=>by obtain⟨x0,u0,rfl,h0⟩:=le1 hl;obtain rfl:=le0 h0;exact rfl
 have Zd7:=ZL (st:=Zab) Zcr Zcs Zbe
 have Zhk:=Zd7.binds (ps:=["row"]) λ_ _ _ _ _ _ us hl=>by obtain⟨x0,u0,rfl,h0⟩:=le1 hl;obtain rfl:=le0 h0;exact rfl
 have Zfb:=ZL (st:=ZaD) Zdm Zdn Zcb
 have Zit:=Zfb.binds (ps:=["distance","size"]) λ_ _ _ _ _ _ us hl=>by obtain⟨x0,u0,rfl,h0⟩:=le1 hl;obtain⟨x1,u1,rfl,h1⟩:=le1 h0;obtain rfl:=le0 h1;exact rfl
 have ZkO:=ZL (st:=Zdv) Zh4 Zh5 Zf6
 have Zpp:=ZkO.binds (ps:=["told","borders","size","distance"]) λ_ _ _ _ _ _ us hl=>by obtain⟨x0,u0,rfl,h0⟩:=le1 hl;obtain⟨x1,u1,rfl,h1⟩:=le1 h0;obtain⟨x2,u2,rfl,h2⟩:=le1 h1;obtain⟨x3,u3,rfl,h3⟩:=le1 h2;obtain rfl:=le0 h3;exact rfl
 have Zga:=ZL (st:=ZaV) ZdS ZdT ZcF
 have ZjN:=Zga.binds (ps:=["told"]) λ_ _ _ _ _ _ us hl=>by obtain⟨x0,u0,rfl,h0⟩:=le1 hl;obtain rfl:=le0 h0;exact rfl
 have Zgb:=ZL (st:=ZaW) ZdV ZdW ZcG
 have ZjO:=Zgb.binds (ps:=["row"]) λ_ _ _ _ _ _ us hl=>by obtain⟨x0,u0,rfl,h0⟩:=le1 hl;obtain rfl:=le0 h0;exact rfl
 have ZgZ:=ZL (st:=Zbr) Zez ZeA Zc5
 have ZkP:=ZgZ.binds (ps:=["row","text"]) λ_ _ _ _ _ _ us hl=>by obtain⟨x0,u0,rfl,h0⟩:=le1 hl;obtain⟨x1,u1,rfl,h1⟩:=le1 h0;obtain rfl:=le0 h1;exact rfl
 have ZeW:=ZL (st:=Zar) ZcR ZcS ZbI
 have Zia:=ZeW.binds (ps:=["rows"]) λ_ _ _ _ _ _ us hl=>by obtain⟨x0,u0,rfl,h0⟩:=le1 hl;obtain rfl:=le0 h0;exact rfl
 have Zd8:=ZL (st:=Zac) Zcu Zcv Zbf
 have Zhl:=Zd8.binds (ps:=["given","number"]) λ_ _ _ _ _ _ us hl=>by obtain⟨x0,u0,rfl,h0⟩:=le1 hl;obtain⟨x1,u1,rfl,h1⟩:=le1 h0;obtain rfl:=le0 h1;exact rfl
 have F_Watch___init__:=ZL (st:=Z6) l_Watch___init__ c_Watch___init__ k_Watch___init__
 have B_Watch___init__:=F_Watch___init__.binds (ps:=["self","rows"]) λ_ _ _ _ _ _ us hl=>by obtain⟨x0,u0,rfl,h0⟩:=le1 hl;obtain⟨x1,u1,rfl,h1⟩:=le1 h0;obtain rfl:=le0 h1;exact rfl
 have F_Watch_give:=ZL (st:=ZaX) l_Watch_give c_Watch_give k_Watch_give
 have B_Watch_give:=F_Watch_give.binds (ps:=["self","number"]) λ_ _ _ _ _ _ us hl=>by obtain⟨x0,u0,rfl,h0⟩:=le1 hl;obtain⟨x1,u1,rfl,h1⟩:=le1 h0;obtain rfl:=le0 h1;exact rfl
 have F_Watch_reach_now:=ZL (st:=ZY) l_Watch_reach_now c_Watch_reach_now k_Watch_reach_now
 have B_Watch_reach_now:=F_Watch_reach_now.binds (ps:=["self"]) λ_ _ _ _ _ _ us hl=>by obtain⟨x0,u0,rfl,h0⟩:=le1 hl;obtain rfl:=le0 h0;exact rfl
 have F_Watch_take_back:=ZL (st:=ZZ) l_Watch_take_back c_Watch_take_back k_Watch_take_back
 have B_Watch_take_back:=F_Watch_take_back.binds (ps:=["self"]) λ_ _ _ _ _ _ us hl=>by obtain⟨x0,u0,rfl,h0⟩:=le1 hl;obtain rfl:=le0 h0;exact rfl
 have ZeX:=ZL (st:=Zas) ZcU ZcV ZbJ
 have Zib:=ZeX.binds (ps:=["told","size"]) λ_ _ _ _ _ _ us hl=>by obtain⟨x0,u0,rfl,h0⟩:=le1 hl;obtain⟨x1,u1,rfl,h1⟩:=le1 h0;obtain rfl:=le0 h1;exact rfl
 have Zg0:=ZL (st:=Zbs) ZeE ZeF Zc6
 have ZkQ:=Zg0.binds (ps:=["told","size"]) λ_ _ _ _ _ _ us hl=>by obtain⟨x0,u0,rfl,h0⟩:=le1 hl;obtain⟨x1,u1,rfl,h1⟩:=le1 h0;obtain rfl:=le0 h1;exact rfl
 have Zg1:=ZL (st:=Zbt) ZeH ZeI Zc7
 have ZkR:=Zg1.binds (ps:=["row","size"]) λ_ _ _ _ _ _ us hl=>by obtain⟨x0,u0,rfl,h0⟩:=le1 hl;obtain⟨x1,u1,rfl,h1⟩:=le1 h0;obtain rfl:=le0 h1;exact rfl
 have Zi1:=ZL (st:=ZcH) ZgF ZgG Ze3
 have Zny:=Zi1.binds (ps:=["ones","others","size"]) λ_ _ _ _ _ _ us hl=>by obtain⟨x0,u0,rfl,h0⟩:=le1 hl;obtain⟨x1,u1,rfl,h1⟩:=le1 h0;obtain⟨x2,u2,rfl,h2⟩:=le1 h1;obtain rfl:=le0 h2;exact rfl
 have Zi2:=ZL (st:=ZcI) ZgI ZgJ Ze4
 have Znz:=Zi2.binds (ps:=["most","pair_at"]) λ_ _ _ _ _ _ us hl=>by obtain⟨x0,u0,rfl,h0⟩:=le1 hl;obtain⟨x1,u1,rfl,h1⟩:=le1 h0;obtain rfl:=le0 h1;exact rfl
 have ZeY:=ZL (st:=Zat) ZbL ZcX ZbM
 have Zic:=ZeY.binds (ps:=["one","other"]) λ_ _ _ _ _ _ us hl=>by obtain⟨x0,u0,rfl,h0⟩:=le1 hl;obtain⟨x1,u1,rfl,h1⟩:=le1 h0;obtain rfl:=le0 h1;exact rfl
 have Zg2:=ZL (st:=Zbu) ZeK ZeL Zc8
 have ZkS:=Zg2.binds (ps:=["script","k"]) λ_ _ _ _ _ _ us hl=>by obtain⟨x0,u0,rfl,h0⟩:=le1 hl;obtain⟨x1,u1,rfl,h1⟩:=le1 h0;obtain rfl:=le0 h1;exact rfl
 have Zg3:=ZL (st:=Zbv) ZeN ZeO Zc9
 have ZkT:=Zg3.binds (ps:=["pot","many"]) λ_ _ _ _ _ _ us hl=>by obtain⟨x0,u0,rfl,h0⟩:=le1 hl;obtain⟨x1,u1,rfl,h1⟩:=le1 h0;obtain rfl:=le0 h1;exact rfl
 have Zid:=ZL (st:=ZbX) ZfB ZfC ZdX
 have ZlJ:=Zid.binds (ps:=["pot","most"]) λ_ _ _ _ _ _ us hl=>by obtain⟨x0,u0,rfl,h0⟩:=le1 hl;obtain⟨x1,u1,rfl,h1⟩:=le1 h0;obtain rfl:=le0 h1;exact rfl
 have Zg4:=ZL (st:=Zbw) ZeQ ZeR Zda
 have ZkU:=Zg4.binds (ps:=["pot"]) λ_ _ _ _ _ _ us hl=>by obtain⟨x0,u0,rfl,h0⟩:=le1 hl;obtain rfl:=le0 h0;exact rfl
 have Zfc:=ZL (st:=ZaE) Zdp Zdq Zcc
 have Ziu:=Zfc.binds (ps:=["pot","rows"]) λ_ _ _ _ _ _ us hl=>by obtain⟨x0,u0,rfl,h0⟩:=le1 hl;obtain⟨x1,u1,rfl,h1⟩:=le1 h0;obtain rfl:=le0 h1;exact rfl
 have Zg5:=ZL (st:=Zbx) ZeT ZeU Zdb
 have ZkV:=Zg5.binds (ps:=["row","text"]) λ_ _ _ _ _ _ us hl=>by obtain⟨x0,u0,rfl,h0⟩:=le1 hl;obtain⟨x1,u1,rfl,h1⟩:=le1 h0;obtain rfl:=le0 h1;exact rfl
 have ZdA:=ZL (st:=Z7) Zb3 Zb4 ZaZ
 have ZgK:=ZdA.binds (ps:=["row"]) λ_ _ _ _ _ _ us hl=>by obtain⟨x0,u0,rfl,h0⟩:=le1 hl;obtain rfl:=le0 h0;exact rfl
 have ZcC:=ZL (st:=ZT) Za4 Za5 Zan
 have Ze6:=ZcC.binds (ps:=["text"]) λ_ _ _ _ _ _ us hl=>by obtain⟨x0,u0,rfl,h0⟩:=le1 hl;obtain rfl:=le0 h0;exact rfl
 have Zdd:=ZL (st:=Z0) ZbO ZbP ZaJ
 have Zgc:=Zdd.binds (ps:=["row","text"]) λ_ _ _ _ _ _ us hl=>by obtain⟨x0,u0,rfl,h0⟩:=le1 hl;obtain⟨x1,u1,rfl,h1⟩:=le1 h0;obtain rfl:=le0 h1;exact rfl
 have Zsf:=ZL (st:=s_law) Zpj Zpl Zpm
 refine⟨fnOf "law" "law" (defArgs s_law) (defBody s_law) (defScope s_law) .none ZrM ZrN ZrO ZrP Zpk ZrQ,λs v=>.of_eq rfl,?tb,?nd,λbase _ _ B=>?_⟩
 case tb =>
  intro p hp
  unfold tabsL at hp
  simp only[Yk,List.not_mem_nil,or_false]at hp
  subst hp
  ·exact⟨by rw[Zae.1];exact ZcA,by rw[Zae.1];exact Zcz,Zbg,by rw[Zae.1];exact Zbi⟩
 case nd =>
  unfold tabsL
  simp only[YD,List.map_nil]
  rw[Zae.1]
  exact nd
 have Zpq:Callee l.prog w K mg base "need_numbers" 1 ["row","fewest"] (Zad K mg):=⟨_,_,mg_of X G ZbG,ZaR,Zh9,Zd0 ZbQ T⟩
 have ZI:ZfV l.prog w K mg base "need_numbers" 1 ["row","fewest"] [V.int 1] (Zad K mg):=⟨_,_,_,mg_of X G ZbG,ZaR,Zhi,.cons ⟨_,rfl⟩ .nil,Zd0 ZbQ T⟩
 have ZhT:Callee l.prog w K mg base "settle" 1 ["elders","spine","place","keep"] (sp_settle K mg):=⟨_,_,mg_of X G ZhW,Zf4,Zpn,ok_settle ZkL T⟩
 have Zgv:Callee l.prog w K mg base "tree_of" 2 ["row"] (sp_tree_of K mg):=⟨_,_,mg_of X G Zgy,Ze2,Znx,ok_tree_of Zi0 ZhT T⟩
 have ZhU:Callee l.prog w K mg base "way_up" 1 ["tree","place"] (sp_way_up K mg):=⟨_,_,mg_of X G ZhZ,Zf5,Zpo,ok_way_up ZkM T⟩
 have Zeo:Callee l.prog w K mg base "fences_of" 2 ["tree"] (sp_fences_of K mg):=⟨_,_,mg_of X G Zev,Zc4,ZkN,ok_fences_of ZgY ZhU T⟩
 have Zcl:Callee l.prog w K mg base "distance_list" 3 ["tree"] (ZbY K mg):=⟨_,_,mg_of X G Zcn,Zbd,Zhj,Zgr Zd6 Zeo T⟩
 have Zs:Callee l.prog w K mg base "row_distances" 4 ["row"] (ZX K mg):=⟨_,_,mg_of X G Zcq,Zbe,Zhk,Zgs Zd7 Zgv Zcl T⟩
 have ZaG:Callee l.prog w K mg base "seen_within" 1 ["distance","size"] (ZbB K mg):=⟨_,_,mg_of X G Zdl,Zcb,Zit,ZhP Zfb T⟩
 have ZbE:Callee l.prog w K mg base "follow" 2 ["told","borders","size","distance"] (Zdw K mg):=⟨_,_,mg_of X G Zh3,Zf6,Zpp,Zm2 ZkO ZaG T⟩
 have Z3:Callee l.prog w K mg base "borders_by" 3 ["told"] (Za7 K mg):=⟨_,_,mg_of X G ZdR,ZcF,ZjN,Zin Zga ZbE T⟩
 have ZU:Callee l.prog w K mg base "starts_of" 5 ["row","text"] (ZaY K mg):=⟨_,_,mg_of X G Zey,Zc5,ZkP,ZjA ZgZ ZI Zs ZbE Z3 T⟩
 have Zer:Callee l.prog w K mg base "_law_deal" 1 ["script","k"] (ZdK K mg):=⟨_,_,mg_of X G ZeJ,Zc8,ZkS,Zjy Zg2 T⟩
 have Zm:Callee l.prog w K mg base "_law_take" 1 ["pot","many"] (ZbA K mg):=⟨_,_,mg_of X G ZeM,Zc9,ZkT,Zjz Zg3 T⟩
 have Zfz:Callee l.prog w K mg base "_law_row" 2 ["pot","most"] (sp__law_row K mg):=⟨_,_,mg_of X G ZfA,ZdX,ZlJ,Zku Zid Zm T⟩
 have Zes:Callee l.prog w K mg base "_law_rows" 3 ["pot"] (ZdL K mg):=⟨_,_,mg_of X G ZeP,Zda,ZkU,ZjB Zg4 Zm Zfz T⟩
 have Zdk:Callee l.prog w K mg base "_law_stream" 2 ["pot","rows"] (ZcL K mg):=⟨_,_,mg_of X G Zdo,Zcc,Ziu,ZhQ Zfc Zm T⟩
 have ZcM:Callee l.prog w K mg base "need_watched" 2 ["rows"] (Zch K mg):=⟨_,_,mg_of X G ZcQ,ZbI,Zia,Zha ZeW ZI T⟩
 have GI_Watch:Zht l.prog w K mg base "Watch" 5 ["self","rows"] (ZaI K mg):=⟨_,_,by rw[q_Watch];exact⟨mk_Watch,a_Watch___init__,i_Watch___init__,kc_Watch⟩,by rw[q_Watch];exact mg_of X G n_Watch,B_Watch___init__,Zf1 F_Watch___init__ Zs Z3 ZcM T⟩
 have Zcm:Callee l.prog w K mg base "next_distance" 1 ["given","number"] (ZbZ K mg):=⟨_,_,mg_of X G Zct,Zbf,Zhl,Zgu Zd8 T⟩
 have GM_Watch_give:Zb9 l.prog w K mg base "Watch" "give" 3 ["self","number"] (Zca K mg):=⟨_,_,T.cl_Watch,by rw[q_Watch];exact⟨a_Watch_give,i_Watch_give,k_Watch_give⟩,B_Watch_give,Ziq F_Watch_give ZbE Zcm T⟩
 have GM_Watch_reach_now:Zb9 l.prog w K mg base "Watch" "reach_now" 1 ["self"] (Zay K mg):=⟨_,_,T.cl_Watch,by rw[q_Watch];exact⟨a_Watch_reach_now,i_Watch_reach_now,k_Watch_reach_now⟩,B_Watch_reach_now,Zfv F_Watch_reach_now T⟩
 have Zet:Callee l.prog w K mg base "_law_ends" 7 ["row","text"] (ZdO K mg):=⟨_,_,mg_of X G ZeS,Zdb,ZkV,ZjE Zg5 GI_Watch GM_Watch_give GM_Watch_reach_now T⟩
 have ZdQ:Callee l.prog w K mg base "borders_of" 5 ["row"] (Zdg K mg):=⟨_,_,mg_of X G ZdU,ZcG,ZjO,Zio Zgb Zs Z3 T⟩
 have GM_Watch_take_back:Zb9 l.prog w K mg base "Watch" "take_back" 1 ["self"] (Zbn K mg):=⟨_,_,T.cl_Watch,by rw[q_Watch];exact⟨a_Watch_take_back,i_Watch_take_back,k_Watch_take_back⟩,B_Watch_take_back,Zfw F_Watch_take_back T⟩
 have Zb1:Callee l.prog w K mg base "_law_own_right" 7 ["row"] (ZbC K mg):=⟨_,_,mg_of X G Zb2,ZaZ,ZgK,Zf3 ZdA ZdQ GI_Watch GM_Watch_give GM_Watch_reach_now GM_Watch_take_back T⟩
 have Z8:Callee l.prog w K mg base "stretch_keys" 2 ["told","size"] (Zbc K mg):=⟨_,_,mg_of X G ZcT,ZbJ,Zib,Zhb ZeX ZaG T⟩
 have Zep:Callee l.prog w K mg base "groups_by" 3 ["told","size"] (ZdM K mg):=⟨_,_,mg_of X G ZeD,Zc6,ZkQ,ZjC Zg0 Z8 T⟩
 have Zeq:Callee l.prog w K mg base "groups_of" 5 ["row","size"] (ZdN K mg):=⟨_,_,mg_of X G ZeG,Zc7,ZkR,ZjD Zg1 Zs Zep T⟩
 have Za2:Callee l.prog w K mg base "_law_groups_right" 6 ["text"] (ZaN K mg):=⟨_,_,mg_of X G Za3,Zan,Ze6,Zen ZcC ZU Zeq T⟩
 have Zgw:Callee l.prog w K mg base "both_at" 3 ["ones","others","size"] (Zfq K mg):=⟨_,_,mg_of X G ZgE,Ze3,Zny,Zlu Zi1 Z8 T⟩
 have Zgx:Callee l.prog w K mg base "longest" 8 ["most","pair_at"] (Zfr l.prog w K mg base):=⟨_,_,mg_of X G ZgH,Ze4,Znz,Zlv Zi2 T⟩
 have ZcN:Callee l.prog w K mg base "longest_both" 9 ["one","other"] (Zci K mg):=⟨_,_,mg_of X G ZbK,ZbM,Zic,Zhc ZeY ZI Zs Zgw Zgx Zh8 B T⟩
 have ZbF:Callee l.prog w K mg base "_law_both_right" 10 ["row","text"] (Zbo K mg):=⟨_,_,mg_of X G ZbN,ZaJ,Zgc,Zfy Zdd ZU ZcN T⟩
 exact ok_law Zsf ZU Zer Zes Zdk Zet Zb1 Za2 ZbF T
theorem walk {l:PySem.W.OpenLaw}{q:Program}{loose:List Str}{XP:(Str->Option Value)->Heap->Prop}{YP:World->Heap->Prop}{d:DefRec}{K:Params->PySem.W.Frag}{ts:List Addr} (hn:l.most=some 63) (hdf:d.params.defaults=[])
  (hY:∀(w:World) (h:Heap),YP w h->(K w.params).In h) (hY2:∀(w:World) (h:Heap),YP w h->∀P∈ts,h.get? P=some (PySem.W.tabObj #[]))
  (F:∀(w:World) (mg:Str->Option Value) (fa:Addr) (h:Heap),(K w.params).In h->h.Ns mainGlobals mg->mg d.name=some (.ref fa) ->
   ∃fd:FuncData,(∀(s:Shared) (u:Value),BindsTo s fd ⟨[u],[]⟩ [("script",u)])/\(∀p∈tabsL (K w.params) mg,p.1∈ts/\(K w.params).lookup p.1=none/\∃c,PySem.W.codeHdIn (K w.params) c p.1=true)/\((tabsL (K w.params) mg).map (·.1)).Nodup/\∀base:Heap,(K w.params).In base->base.Ns mainGlobals mg->BM mg base->FnOk l.prog w (K w.params) mg base (CXE l.prog w) 11 fa fd ["script"] (spLaw (K w.params) mg)) :
  PySem.W.WalkO q loose XP YP l.row.toRowW d [] (λf vs=>PySem.call f vs) :=
 L2.ZoT (n:=63) (k:=11) (x:="script") (ts:=ts) (tabs:=tabsL) (CX:=λw=>CXE l.prog w) (sp:=λw mg=>spLaw (K w.params) mg) hn (by decide) hdf ⟨rfl,by decide,by decide⟩ hY hY2 F (λ_ _ _ a ns hl hS hT=>⟨a,ns,rfl,hS,hl,hT,λ_=>rfl⟩) λ_ _ _ _ _ ⟨_,_,_,_,_,_,_,z⟩=>z
end K49
def PySem.W.Fast.tw8443041381972014863:Unit:=()
def PySem.W.Fast.tw2039214110812299992:Unit:=()
def PySem.W.Fast.tw614898760468718043:Unit:=()
def PySem.W.Fast.tw17438765243376661871:Unit:=()
def PySem.W.Fast.tw294069692389540355:Unit:=()
def PySem.W.Fast.tw6194407550836598531:Unit:=()
def PySem.W.Fast.tw9707542829252852833:Unit:=()
def PySem.W.Fast.tw10261545418071753587:Unit:=()
def PySem.W.Fast.tw4446489394998714966:Unit:=()
def PySem.W.Fast.tw1547626108950710651:Unit:=()
def PySem.W.Fast.tw2831105021008965295:Unit:=()
def PySem.W.Fast.tw1117087416896970990:Unit:=()
def PySem.W.Fast.tw2396493149137875332:Unit:=()
def PySem.W.Fast.tw7444816399197530989:Unit:=()
def PySem.W.Fast.tw6291665677118773336:Unit:=()
def PySem.W.Fast.tw16636072084206965077:Unit:=()
def PySem.W.Fast.tw11411522724543528253:Unit:=()
def PySem.W.Fast.tw9015765094986307899:Unit:=()
def PySem.W.Fast.tw13994933025514199994:Unit:=()
def PySem.W.Fast.tw17759939851494914676:Unit:=()
def PySem.W.Fast.tw5956775089508777200:Unit:=()
def PySem.W.Fast.tw16388424081893855711:Unit:=()
def PySem.W.Fast.tw7967162297980623071:Unit:=()
def PySem.W.Fast.tw17394932184925850141:Unit:=()
def PySem.W.Fast.tw6053700990175522099:Unit:=()
def PySem.W.Fast.tw2514676747099163327:Unit:=()
def PySem.W.Fast.tw5825509382764708134:Unit:=()
def PySem.W.Fast.tw7152597824363067309:Unit:=()
def PySem.W.Fast.tw7500282070442790441:Unit:=()
def PySem.W.Fast.tw16073357250291100896:Unit:=()
def PySem.W.Fast.tw4887195042425398991:Unit:=()
def PySem.W.Fast.tw9661200907489697998:Unit:=()
def PySem.W.Fast.tw15813406771478398726:Unit:=()
def PySem.W.Fast.tw1937104444550968238:Unit:=()
def PySem.W.Fast.tw15101435902346168631:Unit:=()
def PySem.W.Fast.tw8946769028255149360:Unit:=()
def PySem.W.Fast.tw9998272715835623763:Unit:=()
def PySem.W.Fast.tw17987291063260805290:Unit:=()
def PySem.W.Fast.tw18257560620397572069:Unit:=()
def PySem.W.Fast.tw11835215216636778763:Unit:=()
def PySem.W.Fast.tw13050873741296504963:Unit:=()
def PySem.W.Fast.tw15870985254979490262:Unit:=()
def PySem.W.Fast.tw16889571288067478917:Unit:=()
def PySem.W.Fast.tw16743289563710310861:Unit:=()
def PySem.W.Fast.tw8703538311009902100:Unit:=()
def PySem.W.Fast.tw10408428790109997145:Unit:=()
def PySem.W.Fast.tw9202139203991818933:Unit:=()
def PySem.W.Fast.tw1939949785838590158:Unit:=()
def PySem.W.Fast.tw4103576578392748839:Unit:=()
def PySem.W.Fast.tw12138843919209243136:Unit:=()
def PySem.W.Fast.tw3571629085533424483:Unit:=()
def PySem.W.Fast.tw14218749226936323873:Unit:=()
def PySem.W.Fast.tw11806743505441889345:Unit:=()
def PySem.W.Fast.tw13389084119835264040:Unit:=()
def PySem.W.Fast.tw16337986115085286514:Unit:=()
def PySem.W.Fast.tw4789675725558017009:Unit:=()
def PySem.W.Fast.tw4850443041186887208:Unit:=()
def PySem.W.Fast.tw11756367211212239404:Unit:=()
def PySem.W.Fast.tw1233119718360057151:Unit:=()
def PySem.W.Fast.tw3620602463215417952:Unit:=()
def PySem.W.Fast.tw6116029462048270532:Unit:=()
def PySem.W.Fast.tw9635761784704999185:Unit:=()
def PySem.W.Fast.tw11021557428055374545:Unit:=()
def PySem.W.Fast.tw4192187883657756745:Unit:=()
def PySem.W.Fast.tw9874699022058022824:Unit:=()
def PySem.W.Fast.tw3680634604280581830:Unit:=()
def PySem.W.Fast.tw16500706488304099782:Unit:=()
def PySem.W.Fast.tw1983127616276796087:Unit:=()
def PySem.W.Fast.tw6179378964387779102:Unit:=()
def PySem.W.Fast.tw2282062210951467992:Unit:=()
def PySem.W.Fast.tw13411081121881556316:Unit:=()
def PySem.W.Fast.tw12036996038990355749:Unit:=()
def PySem.W.Fast.tw7823055643525079635:Unit:=()
def PySem.W.Fast.tw10401412086640388718:Unit:=()
def PySem.W.Fast.tw11558438643280444353:Unit:=()
def PySem.W.Fast.tw8673195764393692602:Unit:=()
def PySem.W.Fast.tw1618566092179415086:Unit:=()
def PySem.W.Fast.tw2879820037524648559:Unit:=()
def PySem.W.Fast.tw14388975026230233280:Unit:=()
def PySem.W.Fast.tw16388974624338456606:Unit:=()
def PySem.W.Fast.tw17063386028981023738:Unit:=()
def PySem.W.Fast.tw7326887234274434995:Unit:=()
def PySem.W.Fast.tw11866740670929421093:Unit:=()
def PySem.W.Fast.tw15137185385488753500:Unit:=()
def PySem.W.Fast.tw129121455701999327:Unit:=()
def PySem.W.Fast.tw2079961412517849821:Unit:=()
def PySem.W.Fast.tw11474957180413026304:Unit:=()
def PySem.W.Fast.tw9635983242472226180:Unit:=()
def PySem.W.Fast.tw11497130512467972038:Unit:=()
def PySem.W.Fast.tw15817149095352047359:Unit:=()
def PySem.W.Fast.tw10779486312334493660:Unit:=()
def PySem.W.Fast.tw3507725306345607781:Unit:=()
open PySem PySem.W PyProof.Rows
set_option maxRecDepth 100000 in
set_option maxHeartbeats 0 in
theorem PySem.Challenge.cw_dipkin_k49_whole_watched_sought_and_grou_holds : PySem.Challenge.rw_dipkin_k49_whole_watched_sought_and_grou.Holds := by
 w_on;o_law;k_head;(case hw=>w_witness2)
 k_fill
 refine K49.walk (l:=PySem.Challenge.rw_dipkin_k49_whole_watched_sought_and_grou) rfl rfl (λw h Y=>PySem.W.km_in_of Y) (λw h Y=>PySem.W.km_tabs_of Y) ?F
 case F =>
  intro w mg fa h KX G hmg
  refine' K49.all_mk KX G hmg ?n_Watch ?pg_Watch ?hd_Watch ?po_Watch ?sa_Watch ?mk_Watch ?kc_Watch ?na_Watch_distances ?na_Watch_borders ?na_Watch_given ?na_Watch_sizes ?ZbG ?ZcO ?ZcP ?ZaR ?ZbH ?ZhW ?ZhX ?ZhY ?Zf4 ?Zgy ?Zgz ?ZgA ?Ze2 ?ZhZ ?Zh0 ?Zh1 ?Zf5 ?Zev ?Zew ?Zex ?Zc4 ?Zcn ?Zco ?Zcp ?Zbd ?Zcq ?Zcr ?Zcs ?Zbe ?Zdl ?Zdm ?Zdn ?Zcb ?Zh3 ?Zh4 ?Zh5 ?Zf6 ?ZdR ?ZdS ?ZdT ?ZcF ?ZdU ?ZdV ?ZdW ?ZcG ?Zey ?Zez ?ZeA ?Zc5 ?ZcQ ?ZcR ?ZcS ?ZbI ?Zct ?Zcu ?Zcv ?Zbf ?a_Watch___init__ ?i_Watch___init__ ?l_Watch___init__ ?c_Watch___init__ ?k_Watch___init__ ?a_Watch_give ?i_Watch_give ?l_Watch_give ?c_Watch_give ?k_Watch_give ?a_Watch_reach_now ?i_Watch_reach_now ?l_Watch_reach_now ?c_Watch_reach_now ?k_Watch_reach_now ?a_Watch_take_back ?i_Watch_take_back ?l_Watch_take_back ?c_Watch_take_back ?k_Watch_take_back ?ZcT ?ZcU ?ZcV ?ZbJ ?ZeD ?ZeE ?ZeF ?Zc6 ?ZeG ?ZeH ?ZeI ?Zc7 ?ZgE ?ZgF ?ZgG ?Ze3 ?ZgH ?ZgI ?ZgJ ?Ze4 ?ZbK ?ZbL ?ZcX ?ZbM ?Zcw ?Zcx ?Zcy ?Zbi ?Zcz ?ZcA ?ZeJ ?ZeK ?ZeL ?Zc8 ?ZeM ?ZeN ?ZeO ?Zc9 ?ZfA ?ZfB ?ZfC ?ZdX ?ZeP ?ZeQ ?ZeR ?Zda ?Zdo ?Zdp ?Zdq ?Zcc ?ZeS ?ZeT ?ZeU ?Zdb ?Zb2 ?Zb3 ?Zb4 ?ZaZ ?Za3 ?Za4 ?Za5 ?Zan ?ZbN ?ZbO ?ZbP ?ZaJ ?Zpi ?Zpj ?Zpl ?Zpm ?n_DipError ?x_DipError ?d_DipError ?y_DipError ?n_Empty ?x_Empty ?d_Empty ?y_Empty ?n_TooMany ?x_TooMany ?d_TooMany ?y_TooMany ?n_NoPast ?x_NoPast ?d_NoPast ?y_NoPast ?b_all ?b_enumerate ?b_len ?b_list ?b_max ?b_min ?b_range ?b_tuple ?b_zip ?m_MOST_WATCHED ?nd
  (case n_Watch|pg_Watch|hd_Watch|po_Watch|sa_Watch|mk_Watch|kc_Watch|na_Watch_distances|na_Watch_borders|na_Watch_given|na_Watch_sizes|ZbG|ZcO|ZcP|ZaR|ZbH|ZhW|ZhX|ZhY|Zf4|Zgy|Zgz|ZgA|Ze2|ZhZ|Zh0|Zh1|Zf5|Zev|Zew|Zex|Zc4|Zcn|Zco|Zcp|Zbd|Zcq|Zcr|Zcs|Zbe|Zdl|Zdm|Zdn|Zcb|Zh3|Zh4|Zh5|Zf6|ZdR|ZdS|ZdT|ZcF|ZdU|ZdV|ZdW|ZcG|Zey|Zez|ZeA|Zc5|ZcQ|ZcR|ZcS|ZbI|Zct|Zcu|Zcv|Zbf|a_Watch___init__|i_Watch___init__|l_Watch___init__|c_Watch___init__|k_Watch___init__|a_Watch_give|i_Watch_give|l_Watch_give|c_Watch_give|k_Watch_give|a_Watch_reach_now|i_Watch_reach_now|l_Watch_reach_now|c_Watch_reach_now|k_Watch_reach_now|a_Watch_take_back|i_Watch_take_back|l_Watch_take_back|c_Watch_take_back|k_Watch_take_back|ZcT|ZcU|ZcV|ZbJ|ZeD|ZeE|ZeF|Zc6|ZeG|ZeH|ZeI|Zc7|ZgE|ZgF|ZgG|Ze3|ZgH|ZgI|ZgJ|Ze4|ZbK|ZbL|ZcX|ZbM=>k_is)
  (case Zcw=>exact rfl)
  (case Zcx=>k_is)
  (case Zcy=>exact rfl)
  (case Zbi=>kernel_rfl)
  (case Zcz=>kernel_rfl)
  (case ZcA=>decide)
  (case ZeJ|ZeK|ZeL|Zc8|ZeM|ZeN|ZeO|Zc9|ZfA|ZfB|ZfC|ZdX|ZeP|ZeQ|ZeR|Zda|Zdo|Zdp|Zdq|Zcc|ZeS|ZeT|ZeU|Zdb|Zb2|Zb3|Zb4|ZaZ|Za3|Za4|Za5|Zan|ZbN|ZbO|ZbP|ZaJ|Zpi|Zpj|Zpl|Zpm|n_DipError=>k_is)
  (case x_DipError=>k_exc)
  (case d_DipError|y_DipError|n_Empty=>k_is)
  (case x_Empty=>k_exc)
  (case d_Empty|y_Empty|n_TooMany=>k_is)
  (case x_TooMany=>k_exc)
  (case d_TooMany|y_TooMany|n_NoPast=>k_is)
  (case x_NoPast=>k_exc)
  (case d_NoPast|y_NoPast|b_all|b_enumerate|b_len|b_list|b_max|b_min|b_range|b_tuple|b_zip|m_MOST_WATCHED=>k_is)
  (case nd=>decide)
