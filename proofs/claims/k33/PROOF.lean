import PyProof.Rows.All
import Wide.All
import OpenK.AllK
import Wide.FinOn
import Lean
import PyProof.EqAt
import PyProof.EqKinds
import PyProof.TupleCall
import PyProof.MeetsSeq
import PyProof.NeKinds
import PyProof.TupleOfSeq
import PyProof.ListRange
import PyProof.TupleOfGen
import PyProof.ZipIter
import KE.KRevIter
import PyProof.StrWalks
import PyProof.StrBlock2
import PyProof.MeetsStr
import PyProof.StrCalls2
import PyProof.StrLawsIn
import KE.KIntText
import PyProof.StrLawsTight
import PyProof.StrLawsChain
import PyProof.StrLawsAffix
import PyProof.Rows.StrItems
import PyProof.Rows.ReprOcc
import KE.KDictSum
import PyProof.Rows.SeqMore
import KE.KDictList
import KE.KStateDown
import PySem.Challenge.RW_dipkin_k33_orders_counted
set_option Elab.async false
set_option linter.all false
set_option maxRecDepth 100000
set_option maxHeartbeats 4000000
set_option genSizeOfSpec false
local macro_rules | `(tactic| omega) => `(tactic| first | lia | omega (config := {}))
section
open PySem PySem.Spec PyProof.Rows
noncomputable abbrev Ya:=@wpAny_bind
noncomputable abbrev Yb:=@if_neg
noncomputable abbrev Yc:=@if_pos
noncomputable abbrev Yd:=@wpAny_pure
noncomputable abbrev Ye:=@Nat.le_refl
noncomputable abbrev Yf:=@List.getElem?_eq_getElem
noncomputable abbrev Yg:=@Heap.lt_size
noncomputable abbrev Yh:=@List.length_map
noncomputable abbrev Yi:=@Heap.get?_push_of_some
noncomputable abbrev Yj:=@Nat.le_trans
noncomputable abbrev Yk:=@List.size_toArray
noncomputable abbrev Yl:=@Nat.ne_of_lt
noncomputable abbrev Ym:=@Nat.zero_le
noncomputable abbrev Yn:=@List.getElem?_eq_some_iff
noncomputable abbrev Yo:=@Heap.get?_push_size
noncomputable abbrev Yp:=@Nat.lt_of_lt_of_le
noncomputable abbrev Yq:=@List.mem_cons
noncomputable abbrev Yr:=@Bool.false_ne_true
noncomputable abbrev Ys:=@List.mem_append_right
noncomputable abbrev Yt:=@List.length_append
noncomputable abbrev Yu:=@List.getD_eq_getElem?_getD
noncomputable abbrev Yv:=@PySem.boot_len
noncomputable abbrev Yw:=@Option.some.inj
noncomputable abbrev Yx:=@Nat.lt_of_le_of_lt
noncomputable abbrev Yy:=@Nat.lt_irrefl
noncomputable abbrev Yz:=@List.mem_append
noncomputable abbrev YA:=@List.getElem?_map
noncomputable abbrev YB:=@List.length_cons
noncomputable abbrev YC:=@Nat.lt_succ_of_lt
noncomputable abbrev YD:=@decide_eq_false
noncomputable abbrev YE:=@wpAny_mono
noncomputable abbrev YF:=@List.mem_append_left
noncomputable abbrev YG:=@List.append_assoc
noncomputable abbrev YH:=@List.mem_range
noncomputable abbrev YI:=@List.getElem_append_left
noncomputable abbrev YJ:=@List.mem_filter
noncomputable abbrev YK:=@Nat.le_of_lt
noncomputable abbrev YL:=@Array.length_toList
noncomputable abbrev YM:=@List.getElem?_append_right
noncomputable abbrev YN:=@List.range_succ
noncomputable abbrev YO:=@List.getElem?_append_left
noncomputable abbrev YQ:=@decide_eq_true
noncomputable abbrev YR:=@List.mem_map
noncomputable abbrev YS:=@List.mem_cons_of_mem
noncomputable abbrev YT:=@List.length_take
noncomputable abbrev YU:=@List.length_drop
noncomputable abbrev YV:=@List.map_cons
noncomputable abbrev YW:=@List.getElem_mem
noncomputable abbrev YX:=@List.mem_cons_self
noncomputable abbrev YY:=@List.map_append
noncomputable abbrev YZ:=@List.pairwise_cons
noncomputable abbrev Y0:=@List.length_filter_le
noncomputable abbrev Y1:=@List.take_append_drop
end
namespace L2
open PySem PySem.Spec PyProof.Rows
noncomputable abbrev Key:=Sum Int Str
noncomputable def keyIs:Key->Value->Bool
 |.inl k,v=>Value.isInt k v
 |.inr x,v=>Value.isStrOf x v
noncomputable def keyH (w:World):Key->Int
 |.inl k=>hashInt k
 |.inr x=>hashStr w x
theorem ZP:∀{k:Key}{v:Value},keyIs k v=true->(∃i t,k=Sum.inl i/\v=Value.int i t)\/(∃x t,k=Sum.inr x/\v=Value.str x t)
 |.inl i,v,h=>by
  obtain⟨t,e⟩:=Value.isInt_shape (k:=i) (v:=v) h
  exact .inl ⟨i,t,rfl,e⟩
 |.inr x,v,h=>by
  obtain⟨t,e⟩:=Value.isStrOf_shape (x:=x) (v:=v) h
  exact .inr ⟨x,t,rfl,e⟩
theorem key_ll (a b:Int):decide ((Sum.inl a:Key)=Sum.inl b)=(a==b):=by
 by_cases e:a=b
 ·subst e;simp
 ·have h:¬ (Sum.inl a:Key)=Sum.inl b:=λq=>e (Sum.inl.inj q)
  rw[YD h]
  exact(beq_eq_false_iff_ne.mpr e).symm
theorem key_rr (a b:Str):decide ((Sum.inr a:Key)=Sum.inr b)=decide (a=b):=by
 by_cases e:a=b
 ·subst e;simp
 ·have h:¬ (Sum.inr a:Key)=Sum.inr b:=λq=>e (Sum.inr.inj q)
  rw[YD h,YD e]
theorem key_lr (a:Int) (b:Str):decide ((Sum.inl a:Key)=Sum.inr b)=false:=YD (λq=>nomatch q)
theorem key_rl (a:Str) (b:Int):decide ((Sum.inr a:Key)=Sum.inl b)=false:=YD (λq=>nomatch q)
noncomputable def ZhU (prog:Program) (w:World):PySem.KeyKind prog w Key where
 is:=keyIs
 hash:=keyH w
 inj:=λv a b ha hb=>by
  rcases ZP ha with⟨i,t,rfl,rfl⟩|⟨x,t,rfl,rfl⟩
  ·rcases ZP hb with⟨j,u,rfl,e⟩|⟨y,u,rfl,e⟩
   ·injection e with e1 _;rw[e1]
   ·exact nomatch e
  ·rcases ZP hb with⟨j,u,rfl,e⟩|⟨y,u,rfl,e⟩
   ·exact nomatch e
   ·injection e with e1 _;rw[e1]
 byValue:=λk v h=>by
  rcases ZP h with⟨i,t,rfl,rfl⟩|⟨x,t,rfl,rfl⟩<;>rfl
 pyHash:=λhv h=>by
  rcases ZP hv with⟨i,t,rfl,rfl⟩|⟨x,t,rfl,rfl⟩
  ·exact wpAny_pyHash_int h
  ·exact wpAny_pyHash_str h
 eqBool:=λhu hv h=>by
  rcases ZP hu with⟨i,t,rfl,rfl⟩|⟨x,t,rfl,rfl⟩
  ·rcases ZP hv with⟨j,u,rfl,rfl⟩|⟨y,u,rfl,rfl⟩
   ·rw[key_ll]at h;exact wpAny_eqBool_int h
   ·rw[key_lr]at h;exact SeqAt.EqAt.int_str i t y u _ _ _ _ h
  ·rcases ZP hv with⟨j,u,rfl,rfl⟩|⟨y,u,rfl,rfl⟩
   ·rw[key_rl]at h;exact SeqAt.EqAt.str_int x t j u _ _ _ _ h
   ·rw[key_rr]at h;exact wpAny_eqBool_str h
 «strs»:=λk x t v h=>by
  rcases ZP h with⟨i,u,rfl,e⟩|⟨y,u,rfl,e⟩
  ·exact nomatch e
  ·injection e with e1 _
   subst e1
   cases v<;>rfl
inductive V where
 |non|bl (b:Bool)|int (i:Int)|str (x:Str)|byt (b:Array UInt8)|flt (b:UInt64)|ref (a:Addr)|ty (n:String)
 deriving DecidableEq
noncomputable def RelV:V->Value->Prop
 |.non,u=>u=Value.none
 |.bl b,u=>u=Value.bool b
 |.int i,u=>∃t,u=Value.int i t
 |.str x,u=>∃t,u=Value.str x t
 |.byt b,u=>∃t,u=Value.bytes b t
 |.flt b,u=>∃t,u=Value.float b t
 |.ref a,u=>u=Value.ref a
 |.ty n,u=>u=Value.type n
noncomputable abbrev Vals:List V->List Value->Prop:=Paired RelV
theorem Vals.length {xs:List V}{us:List Value} (r:Vals xs us):xs.length=us.length:=Paired.length r
theorem Vals.get:∀{xs:List V}{us:List Value}{i:Nat}{x:V},Vals xs us->xs[i]?=some x->∃u,us[i]?=some u/\RelV x u
 |_,_,_,_,.nil,e=>by simp at e
 |_,_,0,_,.cons r _,e=>by simp at e;subst e;exact⟨_,rfl,r⟩
 |_,_,i+1,x,.cons _ t,e=>by
  obtain⟨u,h1,h2⟩:=Vals.get (i:=i) (x:=x) t (by simpa using e)
  exact⟨u,by simpa using h1,h2⟩
theorem Vals.set {x:V}{u:Value} (r:RelV x u):∀{xs:List V}{us:List Value} (i:Nat),Vals xs us->Vals (xs.set i x) (us.set i u)
 |_,_,_,.nil=>.nil
 |_,_,0,.cons _ t=>.cons r t
 |_,_,i+1,.cons q t=>.cons q (Vals.set r i t)
theorem Vals.append:∀{xs ys:List V}{us ws:List Value},Vals xs us->Vals ys ws->Vals (xs++ys) (us++ws)
 |_,_,_,_,.nil,s=>s
 |_,_,_,_,.cons r t,s=>.cons r (Vals.append t s)
theorem Vals.take:∀{xs:List V}{us:List Value} (n:Nat),Vals xs us->Vals (xs.take n) (us.take n)
 |_,_,0,_=>.nil
 |_,_,_+1,.nil=>.nil
 |_,_,n+1,.cons r t=>.cons r (Vals.take n t)
theorem Vals.drop:∀{xs:List V}{us:List Value} (n:Nat),Vals xs us->Vals (xs.drop n) (us.drop n)
 |_,_,0,r=>r
 |_,_,_+1,.nil=>.nil
 |_,_,n+1,.cons _ t=>Vals.drop n t
noncomputable def RelO:Option V->Option Value->Prop
 |some v,some u=>RelV v u
 |none,none=>True
 |_,_=>False
noncomputable def KV {κ:Type}:List (κ×V)->List (κ×Value)->Prop:=Paired λ(p:κ×V) (q:κ×Value)=>p.1=q.1/\RelV p.2 q.2
noncomputable def kV:Key->V
 |.inl i=>.int i
 |.inr x=>.str x
inductive HO where
 |lst (xs:List V)
 |tup (xs:List V)
 |dK (kvs:List (Key×V))|dT (kvs:List (List Key×V))
 |set (S:Int->Bool) (n:Nat)
 |ins (C dx:Addr) (fs:List (Str×V))
 |own (x:Addr)
 |xd (fs:List (Str×V))
 |met (f x:Addr)
 |rng (lo hi:Int)
 |frz (o:Obj) (u:HO)
 |tbl (ps:Array Value)
 |ext (φ:Heap->Prop)
noncomputable abbrev Hp:=Addr->Option HO
noncomputable def upd (H:Hp) (a:Addr) (o:HO):Hp:=λb=>if b=a then some o else H b
theorem Zd {H:Hp}{a:Addr}{o:HO}:upd H a o a=some o:=by unfold upd;rw[Yc rfl]
theorem Zg {H:Hp}{a b:Addr}{o:HO} (h:b≠a):upd H a o b=H b:=by unfold upd;rw[Yb h]
theorem ZA {H:Hp}{a b:Addr}{o:HO} (h:H a=some o) (h':H b=none):a≠b:=by
 intro e;subst e;rw[h]at h';cases h'
section
variable (P:Program) (w:World)
noncomputable def Z8 (H:Hp) (h:Heap) (a:Addr):HO->Prop
 |.lst xs=>xs.length<=sizeLine/\∃(its:List Value) (n:Nat),Vals xs its/\h.get? a=some {cls:=.type "list",data:=.seq its.toArray n}
 |.tup xs=>xs.length<=sizeLine/\∃its:List Value,Vals xs its/\IsTup h a its.toArray
 |.dK kvs=>kvs.length<=sizeLine/\(a==sysModules)=false/\∃vs,KV kvs vs/\h.DictOf (ZhU P w) a vs
 |.dT kvs=>kvs.length<=sizeLine/\(a==sysModules)=false/\∃xs:List (List Key×Addr×Value),
   Paired (λ(p:List Key×V) (q:List Key×Addr×Value)=>p.1=q.1/\H q.2.1=some (.tup (p.1.map kV))/\RelV p.2 q.2.2) kvs xs /\
   ∃o es ep,h.get? a=some o/\o.ExactDict/\o.data=.dict es ep/\es.toList=xs.map (entryOfKey (tupleKind (ZhU P w)))/\(xs.map (·.1)).Nodup
 |.set S n=>h.SetOf (intKind P w) a S n
 |.ins C dx fs=>H dx=some (.own a)/\fs.length<=1000/\dx≠a/\h.get? a=some (PySem.W.instObj C dx) /\
   ∃mA,h.Ns1 dx mA/\(∀f,RelO (fs.lookup f) (mA f))/\PySem.Within mA (fs.map (·.1))
 |.own _=>∃o,h.get? a=some o
 |.xd fs=>∃mA,h.Ns1 a mA/\∀f,RelO (fs.lookup f) (mA f)
 |.rng lo hi=>∃t u v,h.get? a=some {cls:=.type "range",data:=.fields #[.int lo t,.int hi u,.int 1 v]}
 |.frz o u=>h.get? a=some o/\Z8 H h a u
 |.tbl ps=>∃ts:Array Value,h.get? a=some {cls:=.none,data:=.fields ts}/\TriplesOk ts.toList/\∀pos cv,codeAmong pos ts.toList=some cv->∃c oc vs q t t',cv=.ref c/\H c=some (.frz oc (.own a))/\oc.data=.fields vs/\ps[0]?=some (.str q t)/\vs[1]?=some (.str q t')
 |.met f x=>h.get? a=some (PySem.W.methodObj (.ref f) (.ref x))
 |.ext φ=>φ h/\(∃o,h.get? a=some o)/\∀h1 h2:Heap,φ h1->(∀o,h1.get? a=some o->h2.get? a=some o)->φ h2
noncomputable def HOk (H:Hp) (h:Heap):Prop:=∀a o,H a=some o->Z8 P w H h a o
end
section
variable {P:Program}{w:World}{H H':Hp}{h h':Heap}{a:Addr}{o:HO}
theorem Z8.lt (x:Z8 P w H h a o):a<h.objs.size:=by
 cases o with
 |lst xs=>obtain⟨_,_,_,_,e⟩:=x;exact Yg e
 |tup xs=>obtain⟨_,_,_,p⟩:=x;exact p.lt
 |dK kvs=>obtain⟨_,_,_,_,o,_,_,e,_⟩:=x;exact Yg e
 |dT kvs=>obtain⟨_,_,_,_,o,_,_,e,_⟩:=x;exact Yg e
 |set S n=>obtain⟨o,_,_,_,e,_⟩:=x;exact Yg e
 |ins C dx fs=>obtain⟨_,_,_,e,_⟩:=x;exact Yg e
 |own y=>obtain⟨_,e⟩:=x;exact Yg e
 |xd fs=>obtain⟨_,⟨_,_,_,e,_⟩,_⟩:=x;exact Yg e
 |rng lo hi=>obtain⟨_,_,_,e⟩:=x;exact Yg e
 |frz ob u=>obtain⟨e,_⟩:=x;exact Yg e
 |tbl ps=>obtain⟨_,e,_⟩:=x;exact Yg e
 |met f y=>exact Yg (show h.get? a=some _ from x)
 |ext φ=>obtain⟨_,⟨_,e⟩,_⟩:=x;exact Yg e
theorem Paired.mapP {α β:Type}{F G:α->β->Prop}:∀{l₁:List α}{l₂:List β},Paired F l₁ l₂->(∀a b,F a b->G a b)->Paired G l₁ l₂
 |_,_,.nil,_=>.nil
 |_,_,.cons r t,f=>.cons (f _ _ r) (Paired.mapP t f)
theorem Z8.ZfD (x:Z8 P w H h a o) (k:∀b u,(b=a\/H b=some (.own a))->h.get? b=some u->h'.get? b=some u)
  (ho:∀b,H b=some (.own a)->H' b=some (.own a)) (ht:∀b xs,H b=some (.tup xs)->H' b=some (.tup xs)) (hz:∀b o u,H b=some (.frz o u)->H' b=some (.frz o u)):Z8 P w H' h' a o:=by
 induction o with
 |lst xs=>obtain⟨z,its,n,r,e⟩:=x;exact⟨z,its,n,r,k _ _ (.inl rfl) e⟩
 |tup xs=>obtain⟨z,its,r,ob,e,c⟩:=x;exact⟨z,its,r,ob,k _ _ (.inl rfl) e,c⟩
 |dK kvs=>obtain⟨z,y,vs,r,ob,es,ep,e,c⟩:=x;exact⟨z,y,vs,r,ob,es,ep,k _ _ (.inl rfl) e,c⟩
 |dT kvs =>
  obtain⟨z,y,xs,r,ob,es,ep,e,c⟩:=x
  exact⟨z,y,xs,Paired.mapP r λp q z=>⟨z.1,ht _ _ z.2.1,z.2.2⟩,ob,es,ep,k _ _ (.inl rfl) e,c⟩
 |set S n=>obtain⟨ob,es,ep,t,e,c⟩:=x;exact⟨ob,es,ep,t,k _ _ (.inl rfl) e,c⟩
 |ins C dx fs =>
  obtain⟨d,z,ne,e,mA,⟨od,es,ep,e2,c⟩,r⟩:=x
  exact⟨ho _ d,z,ne,k _ _ (.inl rfl) e,mA,⟨od,es,ep,k _ _ (.inr d) e2,c⟩,r⟩
 |own y=>obtain⟨ob,e⟩:=x;exact⟨ob,k _ _ (.inl rfl) e⟩
 |xd fs=>obtain⟨mA,⟨od,es,ep,e,c⟩,r⟩:=x;exact⟨mA,⟨od,es,ep,k _ _ (.inl rfl) e,c⟩,r⟩
 |rng lo hi=>obtain⟨t,u,v,e⟩:=x;exact⟨t,u,v,k _ _ (.inl rfl) e⟩
 |frz ob u ih=>obtain⟨e,q⟩:=x;exact⟨k _ _ (.inl rfl) e,ih q⟩
 |tbl ps =>
  obtain⟨ts,e,t3,z⟩:=x
  refine⟨ts,k a _ (.inl rfl) e,t3,λpos cv hc=>?_⟩
  obtain⟨c,oc,vs,q,t,t',e1,e2,r⟩:=z pos cv hc
  exact⟨c,oc,vs,q,t,t',e1,hz _ _ _ e2,r⟩
 |met f y =>
  have e:h.get? a=some (PySem.W.methodObj (.ref f) (.ref y)):=x
  show h'.get? a=some (PySem.W.methodObj (.ref f) (.ref y))
  exact k a _ (.inl rfl) e
 |ext φ=>obtain⟨p,⟨o,e⟩,st⟩:=x;exact⟨st _ _ p λo q=>k _ _ (.inl rfl) q,⟨o,k _ _ (.inl rfl) e⟩,st⟩
theorem HOk.lt (x:HOk P w H h) (e:H a=some o):a<h.objs.size:=(x a o e).lt
theorem HOk.fresh (x:HOk P w H h) (e:h.objs.size<=a):H a=none:=by
 cases q:H a with
 |none=>rfl
 |some u=>exact absurd (Yp (x.lt q) e) (Yy _)
theorem HOk.kept (x:HOk P w H h) (k:∀b u,h.get? b=some u->h'.get? b=some u):HOk P w H h':=λa o e =>
 (x a o e).ZfD (λb u _ q=>k b u q) (λ_ q=>q) (λ_ _ q=>q) λ_ _ _ q=>q
theorem HOk.laid (x:HOk P w H h) (k:∀b u,h.get? b=some u->h'.get? b=some u) (hp:h.objs.size<=a) (new:Z8 P w (upd H a o) h' a o):HOk P w (upd H a o) h':=λb u e=>by
 have hn:=x.fresh hp
 by_cases hb:b=a
 ·subst hb;rw[Zd]at e;cases e;exact new
 ·rw[Zg hb]at e
  exact(x b u e).ZfD (λc v _ q=>k c v q) (λc q=>by rw[Zg (ZA q hn)];exact q) (λc xs q=>by rw[Zg (ZA q hn)];exact q) λc o u q=>by rw[Zg (ZA q hn)];exact q
end
noncomputable def Rd (H:Hp) (a:Addr) (u:HO):Prop:=H a=some u\/∃o,H a=some (.frz o u)
theorem Rd.ok {P:Program}{w:World}{H:Hp}{h:Heap}{a:Addr}{u:HO} (r:Rd H a u) (x:HOk P w H h):Z8 P w H h a u:=by
 rcases r with r|⟨o,r⟩
 ·exact x a u r
 ·obtain⟨_,q⟩:=x a _ r
  exact q
noncomputable def Mut:Option HO->Prop
 |some (.lst _)=>True
 |some (.dK _)=>True
 |some (.dT _)=>True
 |some (.set _ _)=>True
 |some (.ins _ _ _)=>True
 |some (.ext _)=>True
 |_=>False
section
variable {P:Program}{w:World}{H:Hp}{h h':Heap}{x e:Addr}{o':HO}
theorem HOk.write (ok:HOk P w H h) (mu:Mut (H x)) (he:e=x\/H e=some (.own x)) (k:∀b u,b≠e->h.get? b=some u->h'.get? b=some u) (heo:∃u,h'.get? e=some u)
  (new:Z8 P w (upd H x o') h' x o'):HOk P w (upd H x o') h':=λb u q=>by
 have nown:∀c y,H c=some (.own y)->c≠x:=λc y r z=>by subst z;rw[r]at mu;exact mu
 have ntup:∀c xs,H c=some (.tup xs)->c≠x:=λc xs r z=>by subst z;rw[r]at mu;exact mu
 have nfrz:∀c o u,H c=some (.frz o u)->c≠x:=λc o u r z=>by subst z;rw[r]at mu;exact mu
 by_cases hb:b=x
 ·subst hb;rw[Zd]at q;cases q;exact new
 ·rw[Zg hb]at q
  by_cases hbe:b=e
  ·have q':H b=some (.own x):=by
    rcases he with z|z
    ·exact absurd (hbe.trans z) hb
    ·rw[hbe];exact z
   rw[q]at q';cases q'
   obtain⟨v,hv⟩:=heo
   exact⟨v,by rw[hbe];exact hv⟩
  ·refine(ok b u q).ZfD (λc v hc r=>k c v ?_ r) (λc r=>by rw[Zg (nown c b r)];exact r) (λc xs r=>by rw[Zg (ntup c xs r)];exact r) λc o u r=>by rw[Zg (nfrz c o u r)];exact r
   rcases hc with rfl|hc
   ·exact hbe
   ·rintro rfl
    rcases he with z|z
    ·exact nown c b hc z
    ·rw[hc]at z;cases z;exact hb rfl
end
structure Un (fs ex:List Addr) (H H':Hp) (h h':Heap):Prop where
 keep:∀b o,h.get? b=some o->H b=none->b∉fs->b∉ex->h'.get? b=some o
 slot:∀b o,h.get? b=some o->H b=none->b∈fs->b∉ex->∃sl,h'.get? b=some {o with slots:=sl}
 free:∀b o,h.get? b=some o->H b=none->b∉ex->H' b=none
 there:∀b o,h.get? b=some o->b∉ex->∃o',h'.get? b=some o'
 tups:∀b xs,H b=some (.tup xs)->H' b=some (.tup xs)
 frzs:∀b o u,H b=some (.frz o u)->H' b=some (.frz o u)
 tbls:∀b ps,H b=some (.tbl ps)->∃more,H' b=some (.tbl (ps++more))
section
variable {fs fs' ex ex':List Addr}{H H1 H2:Hp}{h h1 h2 h':Heap}{a x e:Addr}{o:HO}
theorem Un.any (u:Un fs ex H H1 h h1) {b:Addr}{ob:Obj} (q:h.get? b=some ob) (n:H b=none) (hx:b∉ex):∃sl,h1.get? b=some {ob with slots:=sl}:=by
 by_cases hb:b∈fs
 ·exact u.slot b ob q n hb hx
 ·exact⟨ob.slots,u.keep b ob q n hb hx⟩
theorem Un.kept (k:∀b u,h.get? b=some u->h'.get? b=some u):Un fs ex H H h h' :=
 ⟨λb ob q _ _ _=>k b ob q,λb ob q _ _ _=>⟨ob.slots,k b ob q⟩,λ_ _ _ n _=>n,λb ob q _=>⟨ob,k b ob q⟩,λ_ _ q=>q,λ_ _ _ q=>q,λ_ ps q=>⟨#[],by rw[q];simp⟩⟩
theorem Un.refl:Un fs ex H H h h:=Un.kept λ_ _ q=>q
theorem Un.laid (k:∀b u,h.get? b=some u->h'.get? b=some u) (hp:h.objs.size<=a) (hn:H a=none):Un fs ex H (upd H a o) h h' where
 keep:=λb u q _ _ _=>k b u q
 slot:=λb u q _ _ _=>⟨u.slots,k b u q⟩
 free:=λb u q n _=>by rw[Zg (Yl (Yp (Yg q) hp))];exact n
 there:=λb u q _=>⟨u,k b u q⟩
 tups:=λb xs q=>by rw[Zg (ZA q hn)];exact q
 frzs:=λb u xs q=>by rw[Zg (ZA q hn)];exact q
 tbls:=λb ps q=>⟨#[],by rw[Zg (ZA q hn),q];simp⟩
theorem Un.write (mu:Mut (H x)) (he:e=x\/H e=some (.own x)) (k:∀b u,b≠e->h.get? b=some u->h'.get? b=some u) (heo:∃u,h'.get? e=some u):Un fs ex H (upd H x o) h h':=by
 have hx:∀b,H b=none->b≠x:=λb n z=>by subst z;rw[n]at mu;exact mu
 have hb:∀b,H b=none->b≠e:=λb n z=>by
  subst z
  rcases he with r|r
  ·exact hx b n r
  ·rw[n]at r;cases r
 have hm:∀b u,H b=some u->¬ Mut (some u)->b≠x:=λb u q nm z=>by subst z;rw[q]at mu;exact nm mu
 refine⟨λb u q n _ _=>k b u (hb b n) q,λb u q n _ _=>⟨u.slots,k b u (hb b n) q⟩,λb u q n _=>by rw[Zg (hx b n)];exact n,λb u q _=>?_,
  λb xs q=>by rw[Zg (hm b _ q λz=>z)];exact q,λb u xs q=>by rw[Zg (hm b _ q λz=>z)];exact q,λb ps q=>⟨#[],by rw[Zg (hm b _ q λz=>z),q];simp⟩⟩
 by_cases hbe:b=e
 ·subst hbe;exact heo
 ·exact⟨u,k b u hbe q⟩
end
noncomputable def trk (h:Heap) (H:Hp):List Addr:=(List.range h.objs.size).filter λa=>(H a).isSome
noncomputable def ZfE (h:Heap) (H:Hp):Heap:=PySem.W.hideAll h (trk h H)
theorem Zit (h:Heap) (H:Hp):(ZfE h H).objs.size=h.objs.size:=PySem.W.hideAll_size _ _
theorem Zji {h:Heap}{H:Hp}{b:Addr}{o:Obj} (e:h.get? b=some o) (n:H b=none):(ZfE h H).get? b=some o :=
 PySem.W.hideAll_get _ e λhm=>by
  have q:(H b).isSome=true:=(YJ.mp hm).2
  rw[n]at q;simp at q
theorem ZkB {h:Heap}{H:Hp}{b:Addr}{o:Obj} (e:(ZfE h H).get? b=some o):h.get? b=some o/\H b=none:=by
 have e':h.get? b=some o:=PySem.W.of_hideAll (trk h H) e
 refine⟨e',?_⟩
 cases q:H b with
 |none=>rfl
 |some x =>
  have hm:b∈trk h H:=YJ.mpr ⟨YH.mpr (Yg e'),by simp[q]⟩
  have z:(ZfE h H).get? b=none:=PySem.W.hideAll_none (trk h H) hm
  rw[z]at e;cases e
noncomputable def ZkC (g h:Heap) (L:Addr):List (Addr×Obj):=(List.range h.objs.size).filterMap λa=>if a=L\/(g.get? a).isSome=true then none else (h.get? a).map λo=>(a,o)
noncomputable def rest (g h:Heap) (L d:Addr):List (Addr×Obj):=(ZkC g h L).filter λp=>decide (p.1≠d)
structure Mod (K:PySem.W.Frag) (mg:Str->Option Value) (base:Heap):Prop where
 kin:K.In base
 glob:base.Ns mainGlobals mg
 blt:∃mb,base.Ns builtinsNs mb/\∀x:Str,x≠"__name__"->mb x=bootBuiltins x
 nolimit:base.NoLimit
structure Cx where
 prog:Program
 w:World
 K:PySem.W.Frag
 mg:Str->Option Value
 base:Heap
 A:Around
 N:List Str
 s₀:Shared
 H₀:Hp
 env:Env
 outer:List Env
 stack:List Env
 ex:List Addr
 fn:Str->Bool
 calm:Bool
 pn:List (Addr×Obj)
 xe:Value->Shared->Prop
noncomputable def frs (l:List Env):List Addr:=l.filterMap (·.frame)
noncomputable abbrev Cx.fs (X:Cx):List Addr:=frs X.outer
noncomputable def Vis (sc:Scope) (x:Str):Prop:=sc.names.lookup x=some .local\/sc.names.lookup x=some .cell\/sc.names.lookup x=some .free
noncomputable def Loc (sc:Scope) (x:Str):Prop:=sc.names.lookup x=some .local\/sc.names.lookup x=some .cell
noncomputable def Look (env:Env) (h:Heap) (m:Str->Option Value) (x:Str) (u:Value):Prop :=
 (env.kindOf x=some .local/\m x=some u)\/((env.kindOf x=some .cell\/env.kindOf x=some .free)/\∃c,env.cells.lookup x=some c/\h.IsCell c (some u))
structure Cx.Ok (X:Cx):Prop where
 mod:Mod X.K X.mg X.base
 kind:X.env.scope.kind=.function
 glob:X.env.globals=mainGlobals
 blt:X.env.builtins=builtinsNs
 above:X.s₀.heap.objs.size<=X.env.locals
 inj:∀x y c,X.env.cells.lookup x=some c->X.env.cells.lookup y=some c->x=y
 has:∀x,(X.env.kindOf x=some .cell\/X.env.kindOf x=some .free)->∃c,X.env.cells.lookup x=some c
 cab:∀x c,X.fn x=true->X.env.cells.lookup x=some c->X.s₀.heap.objs.size<=c
 hd:X.calm=true->X.A.handled=none
 frames:X.A.frames=some X.stack
 stk:X.stack=X.outer\/(X.stack=X.env::X.outer/\X.env.frame=some X.env.locals)
 exf:∀b∈X.ex,b≠X.env.locals/\∀x c,X.env.cells.lookup x=some c->c≠b
 bs:∀b o,X.base.get? b=some o->X.s₀.heap.get? b=some o/\X.H₀ b=none
 bsz:X.base.objs.size<=X.s₀.heap.objs.size
 noex:∀b o,X.base.get? b=some o->b∉X.ex
 exfs:∀b∈X.ex,b∉X.fs
 funs:X.s₀.heap.FunFrames X.base X.outer
 frf:∀b∈X.fs,X.H₀ b=none
structure Inv (X:Cx) (pins:List (Addr×Obj)) (σ:List (Option V)) (H:Hp) (s:Shared):Prop where
 ok:X.Ok
 os:s.os=X.s₀.os
 bare:AllBare s.gens
 base:Un X.fs X.ex X.H₀ H X.s₀.heap s.heap
 loc:∃m,s.heap.Ns X.env.locals m/\∀(i:Nat) (x:Str) (v:V),X.N[i]?=some x->σ[i]?=some (some v)->Vis X.env.scope x->∃u,RelV v u/\Look X.env s.heap m x u
 cell:∀x c,X.env.cells.lookup x=some c->∃v,s.heap.IsCell c v
 free:H X.env.locals=none
 freeC:∀x c,X.env.cells.lookup x=some c->H c=none
 pin:∀p∈X.pn++pins,s.heap.get? p.1=some p.2/\H p.1=none/\p.1≠X.env.locals/\p.1∉X.fs/\∀v,p.2.data≠.cell v
 hok:HOk X.prog X.w H s.heap
 len:σ.length=X.N.length
section
variable {X:Cx}{pins:List (Addr×Obj)}{σ:List (Option V)}{H H':Hp}{s:Shared}{h':Heap}
theorem Cx.Ok.nofr (ok:X.Ok) {b:Addr}{o:Obj} (e:X.base.get? b=some o):b∉X.fs:=λhb=>by
 have:=(ok.funs.mem hb).1
 rw[e]at this;cases this
theorem Inv.bs (I:Inv X pins σ H s):∀b o,X.base.get? b=some o->s.heap.get? b=some o/\H b=none:=λb o e =>
 ⟨I.base.keep b o (I.ok.bs b o e).1 (I.ok.bs b o e).2 (I.ok.nofr e) (I.ok.noex b o e),I.base.free b o (I.ok.bs b o e).1 (I.ok.bs b o e).2 (I.ok.noex b o e)⟩
theorem Inv.bk (I:Inv X pins σ H s):∀b o,X.base.get? b=some o->s.heap.get? b=some o:=λb o e=>(I.bs b o e).1
theorem Inv.mod (I:Inv X pins σ H s):Mod X.K X.mg X.base:=I.ok.mod
theorem Inv.kIn (I:Inv X pins σ H s):X.K.In s.heap:=I.ok.mod.kin.keeps I.bk
theorem Inv.lt (I:Inv X pins σ H s):X.env.locals<s.heap.objs.size:=let ⟨_,hn,_⟩:=I.loc;hn.lt
theorem Inv.sz (I:Inv X pins σ H s):X.s₀.heap.objs.size<=s.heap.objs.size:=Yj I.ok.above (YK I.lt)
theorem Inv.nofs (I:Inv X pins σ H s) {a:Addr} (h:s.heap.objs.size<=a):a∉X.fs:=λhb=>by
 obtain⟨_,o,ho,_⟩:=I.ok.funs.mem hb
 exact absurd (Yp (Yg ho) (Yj I.sz h)) (Yy _)
theorem Inv.cne (I:Inv X pins σ H s):∀x c,X.env.cells.lookup x=some c->c≠X.env.locals:=λx c e z=>by
 obtain⟨v,o,ho,hd⟩:=I.cell x c e
 obtain⟨m,⟨o',es,ep,ho',hd',_⟩,_⟩:=I.loc
 rw[z,ho']at ho;cases ho;rw[hd']at hd;cases hd
theorem Inv.funs (I:Inv X pins σ H s):s.heap.FunFrames X.base X.outer:=by
 have all:∀(l:List Env),(∀b∈frs l,b∈X.fs)->X.s₀.heap.FunFrames X.base l->s.heap.FunFrames X.base l:=by
  intro l
  induction l with
  |nil=>intro _ _;trivial
  |cons env r ih =>
   intro hs hl
   obtain⟨hk,⟨L,o,hf,hn,ho,hd⟩,hr⟩:=hl
   have hL:L∈X.fs:=hs L (by unfold frs;rw[List.filterMap_cons,hf];exact YX)
   obtain⟨sl,e⟩:=I.base.slot L o ho (I.ok.frf L hL) hL λz=>I.ok.exfs L z hL
   exact⟨hk,⟨L,_,hf,hn,e,hd⟩,ih (λb hb=>hs b (by unfold frs;rw[List.filterMap_cons,hf];exact YS _ hb)) hr⟩
 exact all X.outer (λ_ hb=>hb) I.ok.funs
theorem Inv.stack (I:Inv X pins σ H s):s.heap.FunFrames X.base X.stack:=by
 rcases I.ok.stk with e|⟨e,hf⟩
 ·rw[e];exact I.funs
 ·rw[e]
  obtain⟨m,hn,_⟩:=I.loc
  refine .cons (by rw[I.ok.kind];decide) hf hn ?_ I.funs
  exact Heap.get?_none_of_le (Yj I.ok.bsz I.ok.above)
theorem Inv.ZdD (I:Inv X pins σ H s):∀b∈frs X.stack,b∈X.env.locals::X.fs:=λb hb=>by
 rcases I.ok.stk with e|⟨e,hf⟩
 ·rw[e]at hb;exact YS _ hb
 ·rw[e]at hb
  unfold frs at hb
  rw[List.filterMap_cons,hf]at hb
  exact hb
theorem Inv.ZfF (I:Inv X pins σ H s):∀b∈frs X.stack,H b=none:=λb hb=>by
 rcases Yq.mp (I.ZdD b hb)with e|hb
 ·rw[e];exact I.free
 ·obtain⟨_,o,ho,_⟩:=I.ok.funs.mem hb
  exact I.base.free b o ho (I.ok.frf b hb) λz=>I.ok.exfs b z hb
theorem Inv.step {g':Array GenState}{t':Nat}{d':Drawn}{ch:List Addr} (I:Inv X pins σ H s)
  (hch:∀b∈ch,(b∈X.ex\/X.s₀.heap.objs.size<=b)/\b≠X.env.locals/\(∀x c,X.env.cells.lookup x=some c->c≠b)/\∀p∈X.pn++pins,p.1≠b)
  (keep:∀b o,b≠X.env.locals->b∉X.fs->b∉ch->s.heap.get? b=some o->H b=none->h'.get? b=some o)
  (slot:∀b o,b≠X.env.locals->b∈X.fs->b∉ch->s.heap.get? b=some o->H b=none->∃sl,h'.get? b=some {o with slots:=sl}) (free:∀b o,b∉ch->s.heap.get? b=some o->H b=none->H' b=none)
  (there:∀b o,b∉ch->s.heap.get? b=some o->∃o',h'.get? b=some o')
  (tups:∀b xs,H b=some (.tup xs)->H' b=some (.tup xs)) (frzs:∀b o u,H b=some (.frz o u)->H' b=some (.frz o u)) (tbls:∀b ps,H b=some (.tbl ps)->∃more,H' b=some (.tbl (ps++more)))
  (ns:∀m,s.heap.Ns X.env.locals m->h'.Ns X.env.locals m) (hok:HOk X.prog X.w H' h') (hg:AllBare g') :
  Inv X pins σ H' {s with heap:=h',gens:=g',drawn:=d',toks:=t'}:=by
 have neL:∀b o,X.s₀.heap.get? b=some o->b≠X.env.locals:=λb o e=>Yl (Yp (Yg e) I.ok.above)
 have neC:∀b o,X.s₀.heap.get? b=some o->b∉X.ex->b∉ch:=λb o e hx hb=>by
  rcases(hch b hb).1 with z|z
  ·exact hx z
  ·exact absurd (Yp (Yg e) z) (Yy _)
 have cellK:∀x c,X.env.cells.lookup x=some c->∀v,s.heap.IsCell c v->h'.IsCell c v:=λx c e v ⟨o,ho,hd⟩=>by
  have nch:c∉ch:=λz=>(hch c z).2.2.1 x c e rfl
  by_cases hc:c∈X.fs
  ·obtain⟨sl,q⟩:=slot c o (I.cne x c e) hc nch ho (I.freeC x c e)
   exact⟨_,q,hd⟩
  ·exact⟨o,keep c o (I.cne x c e) hc nch ho (I.freeC x c e),hd⟩
 refine⟨I.ok,I.os,hg,⟨λb o e n hb hx=>?_,λb o e n hb hx=>?_,λb o e n hx=>?_,λb o e hx=>?_,λb xs e=>tups b xs (I.base.tups b xs e),λb o xs e=>frzs b o xs (I.base.frzs b o xs e),λb ps e=>?_⟩,?_,λx c e=>?_,?_,λx c e=>?_,λp hp=>?_,hok,I.len⟩
 ·exact keep b o (neL b o e) hb (neC b o e hx) (I.base.keep b o e n hb hx) (I.base.free b o e n hx)
 ·obtain⟨sl,e1⟩:=I.base.slot b o e n hb hx
  obtain⟨sl',e2⟩:=slot b _ (neL b o e) hb (neC b o e hx) e1 (I.base.free b o e n hx)
  exact⟨sl',e2⟩
 ·obtain⟨o',e1⟩:=I.base.there b o e hx
  exact free b o' (neC b o e hx) e1 (I.base.free b o e n hx)
 ·obtain⟨o',e1⟩:=I.base.there b o e hx
  exact there b o' (neC b o e hx) e1
 ·obtain⟨m1,e1⟩:=I.base.tbls b ps e
  obtain⟨m2,e2⟩:=tbls b _ e1
  exact⟨m1++m2,by rw[e2,Array.append_assoc]⟩
 ·obtain⟨m,hn,hl⟩:=I.loc
  refine⟨m,ns m hn,λi x v e1 e2 e3=>?_⟩
  obtain⟨u,r,l⟩:=hl i x v e1 e2 e3
  refine⟨u,r,?_⟩
  rcases l with l|⟨k,c,e,z⟩
  ·exact .inl l
  ·exact .inr ⟨k,c,e,cellK x c e _ z⟩
 ·obtain⟨v,z⟩:=I.cell x c e
  exact⟨v,cellK x c e v z⟩
 ·obtain⟨m,⟨o,_,_,ho,_⟩,_⟩:=I.loc
  exact free _ o (λz=>(hch _ z).2.1 rfl) ho I.free
 ·obtain⟨v,o,ho,hd⟩:=I.cell x c e
  exact free c o (λz=>(hch c z).2.2.1 x c e rfl) ho (I.freeC x c e)
 ·obtain⟨e,n,ne,nf,d⟩:=I.pin p hp
  have nch:p.1∉ch:=λz=>(hch p.1 z).2.2.2 p hp rfl
  exact⟨keep p.1 p.2 ne nf nch e n,free p.1 p.2 nch e n,ne,nf,d⟩
theorem Inv.un {t':Nat} (I:Inv X pins σ H s) (u:Un X.fs [] H H' s.heap h') (hok:HOk X.prog X.w H' h'):Inv X pins σ H' {s with heap:=h',toks:=t'}:=by
 obtain⟨m,⟨o,es,ep,ho,r⟩,_⟩:=id I.loc
 obtain⟨sl,hL⟩:=u.any ho I.free (by simp)
 exact I.step (g':=s.gens) (d':=s.drawn) (ch:=[]) (λ_ z=>nomatch z) (λb o _ hb _ e n=>u.keep b o e n hb (by simp)) (λb o _ hb _ e n=>u.slot b o e n hb (by simp)) (λb o _ e n=>u.free b o e n (by simp)) (λb o _ e=>u.there b o e (by simp)) u.tups u.frzs u.tbls (λm' hm=>by
  obtain⟨o',es',ep',ho',r'⟩:=hm
  rw[ho]at ho';cases ho'
  exact⟨_,es',ep',hL,r'⟩) hok I.bare
theorem Inv.call {g':Array GenState}{t':Nat}{d':Drawn}{ch:List Addr} (I:Inv X pins σ H s) (u:Un (frs X.stack) ch H H' s.heap h') (hok:HOk X.prog X.w H' h') (hg:AllBare g')
  (hch:∀b∈ch,(b∈X.ex\/X.s₀.heap.objs.size<=b)/\b≠X.env.locals/\(∀x c,X.env.cells.lookup x=some c->c≠b)/\∀p∈X.pn++pins,p.1≠b) :
  Inv X pins σ H' {s with heap:=h',gens:=g',drawn:=d',toks:=t'}:=by
 obtain⟨m,⟨o,es,ep,ho,r⟩,_⟩:=id I.loc
 obtain⟨sl,hL⟩:=u.any ho I.free λz=>(hch _ z).2.1 rfl
 exact I.step (ch:=ch) hch (λb o hL hb hc e n=>u.keep b o e n (λz=>(Yq.mp (I.ZdD b z)).elim hL hb) hc) (λb o _ _ hc e n=>u.any e n hc) (λb o hc e n=>u.free b o e n hc) (λb o hc e=>u.there b o e hc) u.tups u.frzs u.tbls (λm' hm=>by
  obtain⟨o',es',ep',ho',r'⟩:=hm
  rw[ho]at ho';cases ho'
  exact⟨_,es',ep',hL,r'⟩) hok hg
theorem Inv.turned {t':Nat}{it:Addr} (I:Inv X pins σ H s) (k:∀b o,b≠it->s.heap.get? b=some o->h'.get? b=some o) (hn:H it=none) (hL:it≠X.env.locals)
  (h1:it∈X.ex\/X.s₀.heap.objs.size<=it) (h2:∀x c,X.env.cells.lookup x=some c->c≠it) (h3:∀p∈X.pn++pins,p.1≠it):Inv X pins σ H {s with heap:=h',toks:=t'}:=by
 have nit:∀b u,H b=some u->b≠it:=λb u e z=>by rw[z,hn]at e;cases e
 refine I.step (g':=s.gens) (d':=s.drawn) (ch:=[it]) (λb hb=>?_) (λb o _ _ hc e _=>k b o (λz=>hc (by simp[z])) e) (λb o _ _ hc e _=>⟨o.slots,k b o (λz=>hc (by simp[z])) e⟩) (λ_ _ _ _ n=>n)
  (λb o hc e=>⟨o,k b o (λz=>hc (by simp[z])) e⟩) (λ_ _ e=>e) (λ_ _ _ e=>e) (λb ps e=>⟨#[],by rw[e];simp⟩) (λm hm=>?_) (λb u e=>?_) I.bare
 ·have e:b=it:=by simpa using hb
  subst e
  exact⟨h1,hL,h2,h3⟩
 ·obtain⟨o,es,ep,ho,r⟩:=hm
  exact⟨o,es,ep,k _ o (Ne.symm hL) ho,r⟩
 ·refine(I.hok b u e).ZfD (λc v hc q=>k c v ?_ q) (λ_ q=>q) (λ_ _ q=>q) λ_ _ _ q=>q
  rcases hc with z|z
  ·rw[z];exact nit b u e
  ·exact nit c _ z
theorem Inv.tok (I:Inv X pins σ H s) (t:Nat):Inv X pins σ H {s with toks:=t}:=I.un (h':=s.heap) (t':=t) Un.refl I.hok
theorem Inv.kept {t':Nat} (I:Inv X pins σ H s) (k:∀b u,s.heap.get? b=some u->h'.get? b=some u):Inv X pins σ H {s with heap:=h',toks:=t'}:=I.un (Un.kept k) (I.hok.kept k)
theorem Inv.laid {a:Addr}{o:HO}{t':Nat} (I:Inv X pins σ H s) (k:∀b u,s.heap.get? b=some u->h'.get? b=some u) (hp:s.heap.objs.size<=a) (new:Z8 X.prog X.w (upd H a o) h' a o) :
  Inv X pins σ (upd H a o) {s with heap:=h',toks:=t'}:=I.un (Un.laid k hp (I.hok.fresh hp)) (I.hok.laid k hp new)
theorem Inv.write {x e:Addr}{o:HO}{t':Nat} (I:Inv X pins σ H s) (mu:Mut (H x)) (he:e=x\/H e=some (.own x)) (k:∀b u,b≠e->s.heap.get? b=some u->h'.get? b=some u) (heo:∃u,h'.get? e=some u)
  (new:Z8 X.prog X.w (upd H x o) h' x o):Inv X pins σ (upd H x o) {s with heap:=h',toks:=t'}:=I.un (Un.write mu he k heo) (I.hok.write mu he k heo new)
theorem Inv.weak {σ':List (Option V)} (I:Inv X pins σ H s) (hl:σ'.length=σ.length) (w:∀(i:Nat) v,σ'[i]?=some (some v)->σ[i]?=some (some v)):Inv X pins σ' H s :=
 ⟨I.ok,I.os,I.bare,I.base,let ⟨m,hn,hl'⟩:=I.loc;⟨m,hn,λi x v e1 e2 e3=>hl' i x v e1 (w i v e2) e3⟩,I.cell,I.free,I.freeC,I.pin,I.hok,hl.trans I.len⟩
theorem Inv.Zdj {pins':List (Addr×Obj)} (I:Inv X pins σ H s) (h:∀p∈pins',s.heap.get? p.1=some p.2/\H p.1=none/\p.1≠X.env.locals/\p.1∉X.fs/\∀v,p.2.data≠.cell v):Inv X pins' σ H s :=
 ⟨I.ok,I.os,I.bare,I.base,I.loc,I.cell,I.free,I.freeC,λp hp=>(Yz.mp hp).elim (λz=>I.pin p (YF _ z)) (h p),I.hok,I.len⟩
theorem Zgo {N:List Str} (hN:N.Nodup) {i j:Nat}{x:Str} (a:N[i]?=some x) (b:N[j]?=some x):i=j:=by
 obtain⟨h1,e1⟩:=Yn.mp a
 obtain⟨h2,e2⟩:=Yn.mp b
 exact(List.getElem_inj hN).mp (e1.trans e2.symm)
theorem Ziu {M:Model}{A:Around}{E:Value->Shared->Prop}{i:Nat}{x:Str}{v:V}{u:Value}{Q:Unit->Shared->Prop} (I:Inv X pins σ H s) (hN:X.N.Nodup) (hi:X.N[i]?=some x) (hx:Loc X.env.scope x) (r:RelV v u)
  (h:∀s',Inv X pins (σ.set i (some v)) H s'->(∃a,Heap.SameBut a s.heap s'.heap/\(a=X.env.locals\/X.env.cells.lookup x=some a))->Q () s') (hf:X.fn x=true\/X.env.scope.names.lookup x=some .local:=by first|exact .inl rfl|exact .inr rfl|assumption):wpAny M A (storeName X.env x u) Q E s:=by
 obtain⟨m,hn,hl⟩:=id I.loc
 have hcls:(X.env.scope.kind==.class||(X.env.scope.kind==.module&&X.env.locals != X.env.globals))=false:=by rw[I.ok.kind];rfl
 have hiσ:i < σ.length:=by rw[I.len];exact(Yn.mp hi).1
 have cne:=I.cne
 have tracked:∀{a:Addr}{h':Heap},(∃o,s.heap.get? a=some o/\H a=none)->Heap.SameBut a s.heap h'->HOk X.prog X.w H h':=λ{a h'} ha hs b ob e=>by
  obtain⟨_,_,hfree⟩:=ha
  refine(I.hok b ob e).ZfD (λc w' hc q=>(hs.2 c ?_).trans q) (λ_ q=>q) (λ_ _ q=>q) λ_ _ _ q=>q
  rintro rfl
  rcases hc with rfl|hc
  ·rw[hfree]at e;cases e
  ·rw[hfree]at hc;cases hc
 rcases hx with hk|hk
 ·refine wpAny_storeName_local hk hn (λh' hn' hs=>?_) hcls
  obtain⟨oL,_,_,hoL,_⟩:=id hn
  refine h _ ⟨I.ok,I.os,I.bare,⟨λb o e n hb hx=>?_,λb o e n hb hx=>?_,I.base.free,λb o e hx=>?_,I.base.tups,I.base.frzs,I.base.tbls⟩,⟨_,hn',λj y v' e1 e2 e3=>?_⟩,λy c e=>?_,I.free,I.freeC,λp hp=>?_,tracked ⟨oL,hoL,I.free⟩ hs,by simpa using I.len⟩ ⟨_,hs,.inl rfl⟩
  ·exact(hs.2 b (Yl (Yp (Yg e) I.ok.above))).trans (I.base.keep b o e n hb hx)
  ·obtain⟨sl,e1⟩:=I.base.slot b o e n hb hx
   exact⟨sl,(hs.2 b (Yl (Yp (Yg e) I.ok.above))).trans e1⟩
  ·obtain⟨o',e1⟩:=I.base.there b o e hx
   exact⟨o',(hs.2 b (Yl (Yp (Yg e) I.ok.above))).trans e1⟩
  ·by_cases hj:j=i
   ·subst hj
    rw[hi]at e1;cases e1
    rw[List.getElem?_set_self hiσ]at e2
    cases e2
    exact⟨u,r,.inl ⟨hk,by simp⟩⟩
   ·rw[List.getElem?_set_ne (Ne.symm hj)]at e2
    obtain⟨u',r',q⟩:=hl j y v' e1 e2 e3
    refine⟨u',r',?_⟩
    rcases q with⟨k,e⟩|⟨k,c,e,z⟩
    ·refine .inl ⟨k,?_⟩
     have:y≠x:=λe=>hj (Zgo hN e1 (e▸hi))
     simp[this,e]
    ·exact .inr ⟨k,c,e,z.sameBut hs (cne y c e)⟩
  ·obtain⟨w',z⟩:=I.cell y c e
   exact⟨w',z.sameBut hs (cne y c e)⟩
  ·obtain⟨e,n,ne,nf,d⟩:=I.pin p hp
   exact⟨(hs.2 p.1 ne).trans e,n,ne,nf,d⟩
 ·have hfn:X.fn x=true:=by
   rcases hf with z|z
   ·exact z
   ·rw[z]at hk;cases hk
  obtain⟨c,hc⟩:=I.ok.has x (.inl hk)
  obtain⟨w',z⟩:=I.cell x c hc
  refine wpAny_storeName_cell I.ok.kind hk hc z (λh' hc' hs=>?_)
  obtain⟨oc,hoc,hocd⟩:=id z
  refine h {s with heap:=h'} ⟨I.ok,I.os,I.bare,⟨λb o e n hb hx=>?_,λb o e n hb hx=>?_,I.base.free,λb o e hx=>?_,I.base.tups,I.base.frzs,I.base.tbls⟩,⟨m,hn.sameBut hs (Ne.symm (cne x c hc)),λj y v' e1 e2 e3=>?_⟩,λy c' e=>?_,I.free,I.freeC,λp hp=>?_,tracked ⟨oc,hoc,I.freeC x c hc⟩ hs,by simpa using I.len⟩ ⟨c,hs,.inr hc⟩
  ·exact(hs.2 b (Yl (Yp (Yg e) (I.ok.cab x c hfn hc)))).trans (I.base.keep b o e n hb hx)
  ·obtain⟨sl,e1⟩:=I.base.slot b o e n hb hx
   exact⟨sl,(hs.2 b (Yl (Yp (Yg e) (I.ok.cab x c hfn hc)))).trans e1⟩
  ·obtain⟨o',e1⟩:=I.base.there b o e hx
   exact⟨o',(hs.2 b (Yl (Yp (Yg e) (I.ok.cab x c hfn hc)))).trans e1⟩
  ·by_cases hj:j=i
   ·subst hj
    rw[hi]at e1;cases e1
    rw[List.getElem?_set_self hiσ]at e2
    cases e2
    exact⟨u,r,.inr ⟨.inl hk,c,hc,hc'⟩⟩
   ·rw[List.getElem?_set_ne (Ne.symm hj)]at e2
    obtain⟨u',r',q⟩:=hl j y v' e1 e2 e3
    refine⟨u',r',?_⟩
    rcases q with q|⟨k,c',e,z'⟩
    ·exact .inl q
    ·refine .inr ⟨k,c',e,z'.sameBut hs ?_⟩
     rintro rfl
     exact hj (Zgo hN e1 (I.ok.inj _ _ _ e hc▸hi))
  ·by_cases hcc:c'=c
   ·subst hcc;exact⟨_,hc'⟩
   ·obtain⟨w2,z2⟩:=I.cell y c' e
    exact⟨w2,z2.sameBut hs hcc⟩
  ·obtain⟨e,n,ne,nf,d⟩:=I.pin p hp
   refine⟨(hs.2 p.1 ?_).trans e,n,ne,nf,d⟩
   intro q
   rw[q,hoc]at e
   have q':oc=p.2:=Yw e
   exact d w' (by rw[<-q'];exact hocd)
theorem Zeq {M:Model}{A:Around}{E:Value->Shared->Prop}{i:Nat}{x:Str}{v:V}{u:Value}{Q:Unit->Shared->Prop} (I:Inv X pins σ H s) (hN:X.N.Nodup) (hi:X.N[i]?=some x) (hx:Loc X.env.scope x) (r:RelV v u)
  (h:∀s',Inv X pins (σ.set i (some v)) H s'->Q () s') (hf:X.fn x=true\/X.env.scope.names.lookup x=some .local:=by first|exact .inl rfl|exact .inr rfl|assumption):wpAny M A (storeName X.env x u) Q E s :=
 Ziu I hN hi hx r (λs' I' _=>h s' I') hf
theorem Inv.call' {s':Shared}{ch:List Addr} (I:Inv X pins σ H s) (ho:s'.os=s.os) (u:Un (frs X.stack) ch H H' s.heap s'.heap) (hok:HOk X.prog X.w H' s'.heap) (hg:AllBare s'.gens)
  (hch:∀b∈ch,(b∈X.ex\/X.s₀.heap.objs.size<=b)/\b≠X.env.locals/\(∀x c,X.env.cells.lookup x=some c->c≠b)/\∀p∈X.pn++pins,p.1≠b):Inv X pins σ H' s':=by
 obtain⟨h',g',d',t',o'⟩:=s'
 have e:o'=s.os:=ho
 subst e
 exact I.call (g':=g') (t':=t') (d':=d') u hok hg hch
end
noncomputable abbrev XK:=Value->Option Addr->Hp->Prop
noncomputable abbrev St:=List (Option V)
noncomputable abbrev VK:=V->Hp->Prop
noncomputable abbrev TE:=St->Hp->VK->Prop
noncomputable abbrev TT:=St->Hp->(Bool->Hp->Prop)->Prop
noncomputable abbrev TA:=St->Hp->(List V->Hp->Prop)->Prop
structure Ends where
 nx:St->Hp->Prop
 rt:VK
 bk:St->Hp->Prop:=λ_ _=>False
 ct:St->Hp->Prop:=λ_ _=>False
noncomputable abbrev TS:=Ends->St->Hp->Prop
noncomputable def EP (X:Cx) (pins:List (Addr×Obj)) (σ:St) (Q:VK) (u:Value) (s':Shared):Prop:=∃v H',Inv X pins σ H' s'/\RelV v u/\Q v H'
noncomputable def TP (X:Cx) (pins:List (Addr×Obj)) (σ:St) (Q:Bool->Hp->Prop) (b:Bool) (s':Shared):Prop:=∃H',Inv X pins σ H' s'/\Q b H'
noncomputable def AP (X:Cx) (pins:List (Addr×Obj)) (σ:St) (Q:List V->Hp->Prop) (us:List Value) (s':Shared):Prop:=∃vs H',Inv X pins σ H' s'/\Vals vs us/\Q vs H'
noncomputable def SP (X:Cx) (pins:List (Addr×Obj)) (D:Ends) (f:Flow) (s':Shared):Prop :=
 match f with
 |.next=>∃σ' H',Inv X pins σ' H' s'/\D.nx σ' H'
 |.brk=>∃σ' H',Inv X pins σ' H' s'/\D.bk σ' H'
 |.cont=>∃σ' H',Inv X pins σ' H' s'/\D.ct σ' H'
 |.ret u=>∃v σ' H',Inv X pins σ' H' s'/\RelV v u/\D.rt v H'
noncomputable def PE (X:Cx) (e:Expr) (t:TE):Prop :=
 ∀(pins:List (Addr×Obj)) (s:Shared) (σ:St) (H:Hp) (Q:VK),Inv X pins σ H s->t σ H Q->wpAny (model X.prog X.w) X.A (eval e X.env) (EP X pins σ Q) X.xe s
noncomputable def PT (X:Cx) (e:Expr) (t:TT):Prop :=
 ∀(pins:List (Addr×Obj)) (s:Shared) (σ:St) (H:Hp) (Q:Bool->Hp->Prop),Inv X pins σ H s->t σ H Q->wpAny (model X.prog X.w) X.A (isTrue e X.env (eval e X.env)) (TP X pins σ Q) X.xe s
noncomputable def PW (X:Cx) (e:Expr) (t:TT):Prop :=
 ∀(whole:Sem Value) (pins:List (Addr×Obj)) (s:Shared) (σ:St) (H:Hp) (Q:Bool->Hp->Prop),Inv X pins σ H s->t σ H Q->wpAny (model X.prog X.w) X.A (isTrue e X.env whole) (TP X pins σ Q) X.xe s
theorem PW.pt {X:Cx}{e:Expr}{t:TT} (h:PW X e t):PT X e t:=h _
noncomputable def PA (X:Cx) (es:List Expr) (t:TA):Prop :=
 ∀(pos:Pos) (pins:List (Addr×Obj)) (s:Shared) (σ:St) (H:Hp) (Q:List V->Hp->Prop),Inv X pins σ H s->t σ H Q->wpAny (model X.prog X.w) X.A (spliced (backTo pos (starEach es X.env))) (AP X pins σ Q) X.xe s
noncomputable def PS (X:Cx) (st:Stmt) (t:TS):Prop :=
 ∀(pins:List (Addr×Obj)) (s:Shared) (σ:St) (H:Hp) (D:Ends),Inv X pins σ H s->t D σ H->wpAny (model X.prog X.w) X.A (exec st X.env) (SP X pins D) X.xe s
noncomputable def PSs (X:Cx) (st:List Stmt) (t:TS):Prop :=
 ∀(pins:List (Addr×Obj)) (s:Shared) (σ:St) (H:Hp) (D:Ends),Inv X pins σ H s->t D σ H->wpAny (model X.prog X.w) X.A (execs st X.env) (SP X pins D) X.xe s
theorem thn {α:Type}{t:Sem α}{Q Q':α->Shared->Prop}{M:Model}{A:Around}{E:Value->Shared->Prop}{s:Shared} (h:wpAny M A t Q E s) (hQ:∀a s,Q a s->Q' a s):wpAny M A t Q' E s:=YE h hQ λ_ _ x=>x
section
variable {X:Cx}
noncomputable def tVar (i:Nat):TE:=fun σ H Q=>∃v,σ[i]?=some (some v)/\Q v H
noncomputable def tC (v:V):TE:=λ_ H Q=>Q v H
theorem pe_var {i:Nat}{x:Str}{pos:Pos} (hN:X.N[i]?=some x) (hv:Vis X.env.scope x) (hd:(x==("__debug__":Str))=false:=by decide) (hcd:(x==("__classdict__":Str))=false:=by decide):PE X (.Name x pos) (tVar i):=by
 intro pins s σ H Q I h
 obtain⟨v,e,h⟩:=h
 obtain⟨m,hn,hl⟩:=I.loc
 obtain⟨u,r,l⟩:=hl i x v hN e hv
 have fin:EP X pins σ Q u s:=⟨v,H,I,r,h⟩
 rcases l with⟨hk,hm⟩|⟨hk,c,hc,hcell⟩
 ·exact wpAny_Name (wpAny_loadName_local I.ok.kind hk hn hm fin) hd
 ·rcases hk with hk|hk
  ·exact wpAny_Name (wpAny_loadName_cell I.ok.kind hk hc hcell fin) hd
  ·exact wpAny_Name (wpAny_loadName_free I.ok.kind hk hc hcell fin hcd) hd
theorem Ze {i j pos}:PE X (.Constant (.int i) j pos) (tC (.int i)):=λ_ _ _ H _ I h=>wpAny_Constant_int ⟨.int i,H,I.tok _,⟨_,rfl⟩,h⟩
theorem ZhV {b j pos}:PE X (.Constant (.bool b) j pos) (tC (.bl b)):=λ_ _ _ H _ I h=>Constant_bool ⟨.bl b,H,I,rfl,h⟩
noncomputable def Gl (X:Cx) (x:Str):Prop:=X.env.kindOf x=some .globalImplicit
theorem ZfG {E:Value->Shared->Prop}{pins:List (Addr×Obj)}{s:Shared}{σ:St}{H:Hp}{x:Str}{u:Value}{pos:Pos}{Q:Value->Shared->Prop} (I:Inv X pins σ H s) (hg:Gl X x) (hm:X.mg x=some u) (h:Q u s)
  (hd:(x==("__debug__":Str))=false:=by decide):wpAny (model X.prog X.w) X.A (eval (.Name x pos) X.env) Q E s :=
 Calls.Name_function_global I.ok.kind hg (Calls.loadGlobal_global (by rw[I.ok.glob];exact I.mod.glob.keeps I.bk) hm h) hd
theorem Za6 {E:Value->Shared->Prop}{pins:List (Addr×Obj)}{s:Shared}{σ:St}{H:Hp}{x:Str}{u:Value}{pos:Pos}{Q:Value->Shared->Prop} (I:Inv X pins σ H s) (hg:Gl X x) (hm:X.mg x=none) (hv:bootBuiltins x=some u) (h:Q u s)
  (hn:x≠"__name__":=by decide) (hd:(x==("__debug__":Str))=false:=by decide):wpAny (model X.prog X.w) X.A (eval (.Name x pos) X.env) Q E s:=by
 obtain⟨mb,h1,h2⟩:=I.mod.blt
 exact Calls.Name_function_global I.ok.kind hg (Calls.loadGlobal_builtin (by rw[I.ok.glob];exact I.mod.glob.keeps I.bk) hm (by rw[I.ok.blt];exact h1.keeps I.bk) ((h2 x hn).trans hv) h) hd
theorem ZkD {x:Str}{v:V}{u:Value}{pos:Pos} (hg:Gl X x) (hm:X.mg x=some u) (r:RelV v u) (hd:(x==("__debug__":Str))=false:=by decide):PE X (.Name x pos) (tC v) :=
 λ_ _ _ H _ I h=>ZfG I hg hm ⟨v,H,I,r,h⟩ hd
theorem ZfH {x:Str}{v:V}{u:Value}{pos:Pos} (hg:Gl X x) (hm:X.mg x=none) (hv:bootBuiltins x=some u) (r:RelV v u) (hn:x≠"__name__":=by decide) (hd:(x==("__debug__":Str))=false:=by decide):PE X (.Name x pos) (tC v) :=
 λ_ _ _ H _ I h=>Za6 I hg hm hv ⟨v,H,I,r,h⟩ hn hd
variable {a b:Expr}{ta tb:TE}{pos:Pos}
noncomputable def tB (t:TE):TT:=fun σ H Q=>t σ H λx H1=>∃c,x=.bl c/\Q c H1
theorem Zhf {e:Expr}{t:TE} (h:PE X e t) (he:∀whole,isTrue e X.env whole=(do let v <-whole;standAt e.pos;holding [v] (truthy v)):=by intro _;rfl):PT X e (tB t):=by
 intro pins s σ H Q I hw
 refine isTrue_plain (thn (h pins s σ H _ I hw) λv s1 ⟨x,H1,I1,r1,q1⟩=>?_) (he _)
 obtain⟨d,rfl,q⟩:=q1
 cases r1
 exact wpAny_truthy_bool ⟨H1,I1,q⟩
variable {tA tB':TT}{rest:List Expr}
noncomputable def tAnd (t u:TT):TT:=fun σ H Q=>t σ H λc H1=>if c=true then u σ H1 Q else Q false H1
noncomputable def tOr (t u:TT):TT:=fun σ H Q=>t σ H λc H1=>if c=true then Q true H1 else u σ H1 Q
noncomputable def tNot (t:TT):TT:=fun σ H Q=>t σ H λc H1=>Q (!c) H1
theorem ZfI (ha:PT X a tA):PW X (.BoolOp .And [a] pos) tA:=by
 intro wh pins s σ H Q I h
 refine isTrue_and (thn (ha pins s σ H Q I h) λc s1 e=>?_)
 cases c with
 |true=>exact isTrue_and_nil e
 |false=>exact e
theorem Zhg (ha:PT X a tA):PW X (.BoolOp .Or [a] pos) tA:=by
 intro wh pins s σ H Q I h
 refine isTrue_or (thn (ha pins s σ H Q I h) λc s1 e=>?_)
 cases c with
 |false=>exact isTrue_or_nil e
 |true=>exact e
theorem Zhh (ha:PT X a tA) (hb:PW X (.BoolOp .And (b::rest) pos) tB'):PW X (.BoolOp .And (a::b::rest) pos) (tAnd tA tB'):=by
 intro wh pins s σ H Q I h
 refine isTrue_and (thn (ha pins s σ H _ I h) λc s1 ⟨H1,I1,q1⟩=>?_)
 cases c with
 |true=>exact hb wh pins s1 σ H1 Q I1 q1
 |false=>exact⟨H1,I1,q1⟩
theorem ZhW (ha:PT X a tA) (hb:PW X (.BoolOp .Or (b::rest) pos) tB'):PW X (.BoolOp .Or (a::b::rest) pos) (tOr tA tB'):=by
 intro wh pins s σ H Q I h
 refine isTrue_or (thn (ha pins s σ H _ I h) λc s1 ⟨H1,I1,q1⟩=>?_)
 cases c with
 |true=>exact⟨H1,I1,q1⟩
 |false=>exact hb wh pins s1 σ H1 Q I1 q1
theorem Zhi (ha:PT X a tA):PT X (.UnaryOp .Not a pos) (tNot tA):=by
 intro pins s σ H Q I h
 exact isTrue_not (ha pins s σ H (λc H1=>Q (!c) H1) I h)
noncomputable def tAndV (ta tb:TE):TE:=fun σ H Q=>ta σ H λx H1=>∃c,x=.bl c/\if c=true then tb σ H1 Q else Q (.bl false) H1
noncomputable def tNotV (ta:TE):TE:=fun σ H Q=>ta σ H λx H1=>∃c,x=.bl c/\Q (.bl (!c)) H1
theorem pe_one {op}{t:TE} (h:PE X a t):PE X (.BoolOp op [a] pos) t:=λpins s σ H Q I hw=>BoolOp_one (h pins s σ H Q I hw)
theorem pe_and (ha:PE X a ta) (hb:PE X (.BoolOp .And (b::rest) pos) tb):PE X (.BoolOp .And (a::b::rest) pos) (tAndV ta tb):=by
 intro pins s σ H Q I h
 refine BoolOp_and (thn (ha pins s σ H _ I h) λv s1 ⟨x,H1,I1,r1,q1⟩=>?_)
 obtain⟨c,rfl,q1⟩:=q1
 cases r1
 refine wpAny_truthy_bool ?_
 cases c with
 |true=>exact hb pins s1 σ H1 Q I1 q1
 |false=>exact⟨.bl false,H1,I1,rfl,q1⟩
theorem pe_not (ha:PE X a ta):PE X (.UnaryOp .Not a pos) (tNotV ta):=by
 intro pins s σ H Q I h
 refine UnaryOp_ (thn (ha pins s σ H _ I h) λv s1 ⟨x,H1,I1,r1,q1⟩=>?_)
 obtain⟨c,rfl,q1⟩:=q1
 cases r1
 exact not_of (wpAny_truthy_bool ⟨.bl (!c),H1,I1,rfl,q1⟩)
end
noncomputable def SqL (K:PySem.W.Frag) (H:Hp) (a:Addr) (xs:List V):Prop :=
 Rd H a (.lst xs) \/
  ∃(o:Obj) (its:Array Value) (n:Nat),K.lookup a=some o/\o.cls=.type "list"/\o.dict=none/\o.data=.seq its n/\its.size<=sizeLine/\Vals xs its.toList
noncomputable def SqT (K:PySem.W.Frag) (H:Hp) (a:Addr) (xs:List V):Prop :=
 Rd H a (.tup xs) \/
  ∃(o:Obj) (its:Array Value) (n:Nat),K.lookup a=some o/\o.cls=.type "tuple"/\o.data=.seq its n/\its.size<=sizeLine/\Vals xs its.toList
noncomputable def absV:Value->Option V
 |.none=>some .non
 |.bool b=>some (.bl b)
 |.int i _=>some (.int i)
 |.str x _=>some (.str x)
 |.bytes b _=>some (.byt b)
 |.float b _=>some (.flt b)
 |.ref a=>some (.ref a)
 |.type n=>some (.ty n)
 |_=>none
theorem RelV.abs {x:V}{u:Value} (r:RelV x u):absV u=some x:=by
 cases x with
 |non=>cases r;rfl
 |bl _=>cases r;rfl
 |int _=>obtain⟨t,rfl⟩:=r;rfl
 |str _=>obtain⟨t,rfl⟩:=r;rfl
 |byt _=>obtain⟨t,rfl⟩:=r;rfl
 |flt _=>obtain⟨t,rfl⟩:=r;rfl
 |ref _=>cases r;rfl
 |ty _=>cases r;rfl
theorem RelV.inj {x y:V}{u:Value} (r:RelV x u) (q:RelV y u):x=y:=Yw (r.abs.symm.trans q.abs)
theorem Vals.inj:∀{xs ys:List V}{us:List Value},Vals xs us->Vals ys us->xs=ys
 |_,_,_,.nil,.nil=>rfl
 |_,_,_,.cons r t,.cons r' t'=>by rw[r.inj r',Vals.inj t t']
section
variable {X:Cx}{pins:List (Addr×Obj)}{σ:St}{H:Hp}{s:Shared}{a:Addr}{xs ys:List V}
theorem SqL.of {K:PySem.W.Frag} (h:H a=some (.lst xs)):SqL K H a xs:=.inl (.inl h)
theorem SqT.of {K:PySem.W.Frag} (h:H a=some (.tup xs)):SqT K H a xs:=.inl (.inl h)
theorem Inv.list (I:Inv X pins σ H s) (h:SqL X.K H a xs):∃its:List Value,Vals xs its/\PlainL s.heap a its.toArray/\xs.length<=sizeLine:=by
 rcases h with h|⟨o,its,n,hk,hc,hd,hs,hz,r⟩
 ·obtain⟨z,its,n,r,e⟩:=h.ok I.hok
  exact⟨its,r,⟨_,n,e,rfl,rfl,rfl⟩,z⟩
 ·refine⟨its.toList,r,⟨o,n,I.kIn a o hk,hc,hd,by simpa using hs⟩,?_⟩
  have e:=r.length
  simp only[YL]at e
  omega
theorem Inv.tuple (I:Inv X pins σ H s) (h:SqT X.K H a xs):∃its:List Value,Vals xs its/\IsTup s.heap a its.toArray/\xs.length<=sizeLine:=by
 rcases h with h|⟨o,its,n,hk,hc,hs,hz,r⟩
 ·obtain⟨z,its,r,p⟩:=h.ok I.hok
  exact⟨its,r,p,z⟩
 ·refine⟨its.toList,r,⟨o,I.kIn a o hk,hc,n,by simpa using hs⟩,?_⟩
  have e:=r.length
  simp only[YL]at e
  omega
theorem Inv.ZbC (I:Inv X pins σ H s) (h:SqL X.K H a xs) (h':SqL X.K H a ys):xs=ys:=by
 obtain⟨its,r,⟨o,n,e,_,_,d⟩,_⟩:=I.list h
 obtain⟨its',r',⟨o',n',e',_,_,d'⟩,_⟩:=I.list h'
 rw[e]at e';cases e'
 rw[d]at d'
 injection d' with d1 _
 have:its=its':=by simpa using congrArg Array.toList d1
 subst this
 exact r.inj r'
theorem Inv.ZdE (I:Inv X pins σ H s) (h:SqT X.K H a xs) (h':SqT X.K H a ys):xs=ys:=by
 obtain⟨its,r,⟨o,e,_,n,d⟩,_⟩:=I.tuple h
 obtain⟨its',r',⟨o',e',_,n',d'⟩,_⟩:=I.tuple h'
 rw[e]at e';cases e'
 rw[d]at d'
 injection d' with d1 _
 have:its=its':=by simpa using congrArg Array.toList d1
 subst this
 exact r.inj r'
end
noncomputable abbrev Cx.Ze4 (X:Cx) (E:Value->Shared->Prop):Cx:={X with xe:=E}
noncomputable abbrev Cx.nox (X:Cx):Cx:=X.Ze4 λ_ _=>False
theorem Cx.Ok.Ze4 {X:Cx} (ok:X.Ok) (E:Value->Shared->Prop):(X.Ze4 E).Ok :=
 ⟨ok.mod,ok.kind,ok.glob,ok.blt,ok.above,ok.inj,ok.has,ok.cab,ok.hd,ok.frames,ok.stk,ok.exf,ok.bs,ok.bsz,ok.noex,ok.exfs,ok.funs,ok.frf⟩
theorem Cx.Ok.Zb5 {X:Cx}{E:Value->Shared->Prop} (ok:(X.Ze4 E).Ok):X.Ok :=
 ⟨ok.mod,ok.kind,ok.glob,ok.blt,ok.above,ok.inj,ok.has,ok.cab,ok.hd,ok.frames,ok.stk,ok.exf,ok.bs,ok.bsz,ok.noex,ok.exfs,ok.funs,ok.frf⟩
section
variable {X:Cx}{pins:List (Addr×Obj)}{σ:St}{H:Hp}{s:Shared}{E:Value->Shared->Prop}
theorem Inv.Ze4 (I:Inv X pins σ H s) (E:Value->Shared->Prop):Inv (X.Ze4 E) pins σ H s:=⟨I.ok.Ze4 E,I.os,I.bare,I.base,I.loc,I.cell,I.free,I.freeC,I.pin,I.hok,I.len⟩
theorem Inv.Zb5 (I:Inv (X.Ze4 E) pins σ H s):Inv X pins σ H s:=⟨I.ok.Zb5,I.os,I.bare,I.base,I.loc,I.cell,I.free,I.freeC,I.pin,I.hok,I.len⟩
theorem SP.Zb5 {D:Ends}{f:Flow}{s':Shared} (h:SP (X.Ze4 E) pins D f s'):SP X pins D f s':=by
 cases f with
 |next=>obtain⟨σ',H',I,q⟩:=h;exact⟨σ',H',I.Zb5,q⟩
 |brk=>obtain⟨σ',H',I,q⟩:=h;exact⟨σ',H',I.Zb5,q⟩
 |cont=>obtain⟨σ',H',I,q⟩:=h;exact⟨σ',H',I.Zb5,q⟩
 |ret u=>obtain⟨v,σ',H',I,r,q⟩:=h;exact⟨v,σ',H',I.Zb5,r,q⟩
end
section
variable {X:Cx}{st:Stmt}{rest:List Stmt}{t u:TS}{e:Expr}{te:TE}{pos:Pos}
noncomputable def tNext:TS:=λD σ H=>D.nx σ H
noncomputable def tSeq (t u:TS):TS:=λD σ H=>t {D with nx:=u D} σ H
theorem Z5:PSs X [] tNext:=λ_ _ σ H _ I h=>wpAny_execs_nil ⟨σ,H,I,h⟩
theorem Zb (h1:PS X st t) (h2:PSs X rest u):PSs X (st::rest) (tSeq t u):=by
 intro pins s σ H D I h
 refine wpAny_execs_cons (thn (h1 pins s σ H {D with nx:=u D} I h) λf s1 q=>?_)
 cases f with
 |next =>
  obtain⟨σ',H',I',q⟩:=q
  exact h2 pins s1 σ' H' D I' q
 |ret v=>exact q
 |brk=>exact q
 |cont=>exact q
theorem Zh (h1:PS X st t):PSs X [st] t:=by
 intro pins s σ H D I h
 refine wpAny_execs_cons (thn (h1 pins s σ H D I h) λf s1 q=>?_)
 cases f with
 |next=>exact wpAny_execs_nil q
 |ret v=>exact q
 |brk=>exact q
 |cont=>exact q
theorem Inv.quiet {pins:List (Addr×Obj)}{σ:St}{H:Hp}{s:Shared} (I:Inv X pins σ H s):interactive X.env=false:=by simp[interactive,I.ok.kind]
noncomputable def tDrop (te:TE):TS:=λD σ H=>te σ H λ_ H1=>D.nx σ H1
theorem ZaR (he:PE X e te) (hs:swapsWith e none pos.line X.env=pure false:=by rfl):PS X (.Expr e pos) (tDrop te):=by
 intro pins s σ H D I h
 exact wpAny_Expr_any (thn (he pins s σ H _ I h) λv s1 ⟨x,H1,I1,r1,q1⟩=>⟨σ,H1,I1,q1⟩) I.quiet hs
noncomputable def tRet (te:TE):TS:=λD σ H=>te σ H D.rt
theorem ZL (he:PE X e te):PS X (.Return (some e) pos) (tRet te):=by
 intro pins s σ H D I h
 exact wpAny_Return_some (thn (he pins s σ H _ I h) λv s1 ⟨x,H1,I1,r1,q1⟩=>⟨x,σ,H1,I1,r1,q1⟩)
noncomputable def tIfS (c:TT) (t u:TS):TS:=λD σ H=>c σ H λb H1=>if b=true then t D σ H1 else u D σ H1
theorem Zbh {c:Expr}{a b:List Stmt}{tc:TT} (hc:PT X c tc) (ha:PSs X a t) (hb:PSs X b u):PS X (.If c a b pos) (tIfS tc t u):=by
 intro pins s σ H D I h
 refine wpAny_If (thn (hc pins s σ H _ I h) λd s1 ⟨H1,I1,q1⟩=>?_)
 cases d with
 |true=>exact ha pins s1 σ H1 D I1 q1
 |false=>exact hb pins s1 σ H1 D I1 q1
end
noncomputable abbrev TG:=V->St->Hp->(St->Hp->Prop)->Prop
noncomputable abbrev TGs:=List V->St->Hp->(St->Hp->Prop)->Prop
noncomputable def PG (X:Cx) (target:Expr) (t:TG):Prop :=
 ∀(pins:List (Addr×Obj)) (s:Shared) (σ:St) (H:Hp) (v:V) (u:Value) (Q:St->Hp->Prop),Inv X pins σ H s->RelV v u->t v σ H Q ->
  wpAny (model X.prog X.w) X.A (assign target X.env u) (λ_ s'=>∃σ' H',Inv X pins σ' H' s'/\Q σ' H') X.xe s
noncomputable def PGs (X:Cx) (ts:List Expr) (t:TGs):Prop :=
 ∀(pins:List (Addr×Obj)) (s:Shared) (σ:St) (H:Hp) (vs:List V) (us:List Value) (Q:St->Hp->Prop),Inv X pins σ H s->Vals vs us->t vs σ H Q ->
  wpAny (model X.prog X.w) X.A (assignInOrder ((assignEach ts X.env).map (·.2)) us) (λ_ s'=>∃σ' H',Inv X pins σ' H' s'/\Q σ' H') X.xe s
noncomputable abbrev TSet:=V->V->V->Hp->(Hp->Prop)->Prop
noncomputable def PSet (X:Cx) (t:TSet):Prop :=
 ∀(pins:List (Addr×Obj)) (s:Shared) (σ:St) (H:Hp) (o i v:V) (ov iv u:Value) (Q:Hp->Prop),Inv X pins σ H s->RelV o ov->RelV i iv->RelV v u->t o i v H Q ->
  wpAny (model X.prog X.w) X.A (setItem ov iv u) (λ_ s'=>∃H',Inv X pins σ H' s'/\Q H') X.xe s
noncomputable abbrev TIp:=V->V->Hp->VK->Prop
noncomputable def PIp (X:Cx) (op:Operator) (t:TIp):Prop :=
 ∀(pins:List (Addr×Obj)) (s:Shared) (σ:St) (H:Hp) (x y:V) (v u:Value) (Q:VK),Inv X pins σ H s->RelV x v->RelV y u->t x y H Q ->
  wpAny (model X.prog X.w) X.A (inplaceOp op v u) (EP X pins σ Q) X.xe s
section
variable {X:Cx}{pos:Pos}
noncomputable def Zer (i:Nat):TG:=λv σ H Q=>Q (σ.set i (some v)) H
theorem Zm {i:Nat}{x:Str} (hN:X.N.Nodup) (hi:X.N[i]?=some x) (hx:Loc X.env.scope x) (hf:X.fn x=true\/X.env.scope.names.lookup x=some .local:=by first|exact .inl rfl|exact .inr rfl|assumption):PG X (.Name x pos) (Zer i):=by
 intro pins s σ H v u Q I r h
 exact wpAny_assign_Name (Zeq I hN hi hx r (λs' I'=>⟨_,H,I',h⟩) hf)
noncomputable def gNil:TGs:=λvs σ H Q=>vs=[]/\Q σ H
noncomputable def Zjj (t:TG) (u:TGs):TGs:=λvs σ H Q=>∃v r,vs=v::r/\t v σ H fun σ' H'=>u r σ' H' Q
theorem Zdk:PGs X [] gNil:=by
 intro pins s σ H vs us Q I r h
 obtain⟨e,h⟩:=h
 subst e
 cases r
 exact assignInOrder_nil ⟨σ,H,I,h⟩
theorem Zai {e:Expr}{es:List Expr}{t:TG}{u:TGs} (h1:PG X e t) (h2:PGs X es u)
  (hs:(assignEach (e::es) X.env).map (·.2)=assign e X.env::(assignEach es X.env).map (·.2):=by rfl):PGs X (e::es) (Zjj t u):=by
 intro pins s σ H vs us Q I r h
 obtain⟨v,vr,e1,h⟩:=h
 subst e1
 cases r with
 |cons r rr =>
  rw[hs]
  refine assignInOrder_cons (thn (h1 pins s σ H _ _ _ I r h) λ_ s1 ⟨σ1,H1,I1,q1⟩=>?_)
  exact h2 pins s1 σ1 H1 _ _ Q I1 rr q1
noncomputable def gTup (K:PySem.W.Frag) (n:Nat) (t:TGs):TG:=λv σ H Q=>∃a xs,v=.ref a/\SqT K H a xs/\xs.length=n/\t xs σ H Q
theorem Zes {es:List Expr}{k:Nat}{t:TGs}{n:Nat} (hc:X.calm=true) (h:PGs X es t)
  (hn:(assignEach es X.env).length=n:=by rfl) (hst:(assignEach es X.env).findIdx? (·.1)=none:=by rfl):PG X (.Tuple es k pos) (gTup X.K n t):=by
 intro pins s σ H v u Q I r hw
 obtain⟨a,xs,e1,hq,hl,hw⟩:=hw
 subst e1
 cases r
 obtain⟨its,rv,ht,hz⟩:=I.tuple hq
 refine assign_Tuple_tuple (I.ok.hd hc) ht (by simp[hn,<-hl,rv.length]) hst λh' hx=>?_
 have I1:Inv X pins σ H {s with heap:=h'}:=I.kept (t':=s.toks) λb o e=>hx b o (Yl (Yg e)) e
 exact h pins _ σ H xs _ Q I1 (by simpa using rv) hw
noncomputable def gSub (to ti:TE) (t:TSet):TG:=λv σ H Q=>to σ H λo H1=>ti σ H1 λi H2=>t o i v H2 λH3=>Q σ H3
theorem ZdF {o i:Expr}{to ti:TE}{t:TSet} (ho:PE X o to) (hi:PE X i ti) (hs:PSet X t)
  (ha:∀v,assign (.Subscript o i pos) X.env v=(do
   let ov <-holding [v] (eval o X.env)
   let iv <-holding [v,ov] (eval i X.env)
   standAt pos
   holding [v,ov,iv] (setItem ov iv v)
   release [v,ov,iv] []):=by intro _;rfl):PG X (.Subscript o i pos) (gSub to ti t):=by
 intro pins s σ H v u Q I r h
 rw[ha]
 refine Ya (wpAny_holding (thn (ho pins s σ H _ I h) λov s1 ⟨x,H1,I1,r1,q1⟩=>?_))
 refine Ya (wpAny_holding (thn (hi pins s1 σ H1 _ I1 q1) λiv s2 ⟨y,H2,I2,r2,q2⟩=>?_))
 refine Ya (wpAny_standAt (Ya (wpAny_holding (thn (hs pins s2 σ H2 x y v ov iv u _ I2 r1 r2 r q2) λ_ s3 ⟨H3,I3,q3⟩=>?_))))
 exact wpAny_release ⟨σ,H3,I3,q3⟩
noncomputable def tAsg (te:TE) (g:TG):TS:=λD σ H=>te σ H λx H1=>g x σ H1 D.nx
theorem ZdG {tg e:Expr}{te:TE}{g:TG} (he:PE X e te) (hg:PG X tg g) (hs:swapsWithSole [tg] e pos.line X.env=pure false:=by rfl) (hw:swappedStores [tg] e X.env=pure none:=by rfl)
  (h1:(assignEach [tg] X.env).map (·.2)=[assign tg X.env]:=by rfl):PS X (.Assign [tg] e pos) (tAsg te g):=by
 intro pins s σ H D I h
 refine wpAny_Assign_stores (thn (he pins s σ H _ I h) λv s1 ⟨x,H1,I1,r1,q1⟩=>?_) hs hw
 rw[h1]
 exact thn (hg pins s1 σ H1 x v _ I1 r1 q1) λ_ s2 q=>q
theorem Zk {i:Nat}{x:Str}{e:Expr}{te:TE}{pos':Pos} (hN:X.N.Nodup) (hi:X.N[i]?=some x) (hx:Loc X.env.scope x) (he:PE X e te) (hs:swapsWith e (some (.Name x pos')) pos.line X.env=pure false:=by rfl) (hf:X.fn x=true\/X.env.scope.names.lookup x=some .local:=by first|exact .inl rfl|exact .inr rfl|assumption) :
  PS X (.Assign [.Name x pos'] e pos) (tAsg te (Zer i)):=by
 intro pins s σ H D I h
 refine wpAny_Assign_Name (thn (he pins s σ H _ I h) λv s1 ⟨y,H1,I1,r1,q1⟩=>?_) hs
 exact Zeq I1 hN hi hx r1 (λs2 I2=>⟨_,H1,I2,q1⟩) hf
noncomputable def tAug (i:Nat) (te:TE) (ti:TIp):TS:=λD σ H=>∃x,σ[i]?=some (some x)/\te σ H λy H1=>ti x y H1 λz H2=>D.nx (σ.set i (some z)) H2
theorem Zhj {i:Nat}{x:Str}{e:Expr}{te:TE}{op:Operator}{ti:TIp}{pos':Pos} (hN:X.N.Nodup) (hi:X.N[i]?=some x) (hx:Loc X.env.scope x) (he:PE X e te) (ho:PIp X op ti) (hf:X.fn x=true\/X.env.scope.names.lookup x=some .local:=by first|exact .inl rfl|exact .inr rfl|assumption) :
  PS X (.AugAssign (.Name x pos') op e pos) (tAug i te ti):=by
 intro pins s σ H D I h
 obtain⟨v,e1,h⟩:=h
 obtain⟨m,hn,hl⟩:=I.loc
 have vis:Vis X.env.scope x:=by rcases hx with k|k;exact .inl k;exact .inr (.inl k)
 obtain⟨u,r,l⟩:=hl i x v hi e1 vis
 refine wpAny_AugAssign_Name ?_
 have go:wpAny (model X.prog X.w) X.A (eval e X.env) (λw s₂=>wpAny (model X.prog X.w) X.A (inplaceOp op u w) (λr s₃=>wpAny (model X.prog X.w) X.A (storeName X.env x r) (λ_=>SP X pins D .next) X.xe s₃) X.xe s₂) X.xe s:=by
  refine thn (he pins s σ H _ I h) λw s1 ⟨y,H1,I1,r1,q1⟩=>?_
  refine thn (ho pins s1 σ H1 v y u w _ I1 r r1 q1) λz s2 ⟨zv,H2,I2,r2,q2⟩=>?_
  exact Zeq I2 hN hi hx r2 (λs3 I3=>⟨_,H2,I3,q2⟩) hf
 rcases l with⟨hk,hm⟩|⟨hk,c,hc,hcell⟩
 ·exact wpAny_loadName_local I.ok.kind hk hn hm go
 ·rcases hk with hk|hk
  ·exact wpAny_loadName_cell I.ok.kind hk hc hcell go
  ·rcases hx with k|k
   ·have:X.env.scope.names.lookup x=some .free:=hk
    rw[k]at this;cases this
   ·have:X.env.scope.names.lookup x=some .free:=hk
    rw[k]at this;cases this
noncomputable def ipI (f:Int->Int->Int):TIp:=λx y H Q=>∃i j,x=.int i/\y=.int j/\Q (.int (f i j)) H
theorem ip_sub:PIp X .Sub (ipI λi j=>i-j):=by
 intro pins s σ H x y v u Q I r1 r2 h
 obtain⟨i,j,e1,e2,q⟩:=h
 subst e1;subst e2
 obtain⟨t,rfl⟩:=r1
 obtain⟨t',rfl⟩:=r2
 exact isub_int ⟨.int _,H,I.tok _,⟨_,rfl⟩,q⟩
end
section
variable {X:Cx}{pos:Pos}
noncomputable def Zhk (c:TT) (tb:TS):TS:=λD σ H=>∃W:Nat->St->Hp->Prop,(∃m,W m σ H)/\∀m σ H,W m σ H ->
 c σ H λb H1=>if b=true then ∃N:St->Hp->Prop,(∀σ' H',N σ' H'->∃m',m'<m/\W m' σ' H')/\tb {D with nx:=N,ct:=N,bk:=D.nx} σ H1 else D.nx σ H1
theorem Zet {c:Expr}{body:List Stmt}{tc:TT}{tb:TS} (hp:PassesOwn (model X.prog X.w) X.A X.env X.xe) (hc:PT X c tc) (hb:PSs X body tb):PS X (.While c body [] pos) (Zhk tc tb):=by
 intro pins s σ H D I h
 obtain⟨W,⟨m0,w0⟩,turn⟩:=h
 refine wpAny_While (codeAny_whileLoop (λn s'=>∃σ' H',Inv X pins σ' H' s'/\W n σ' H') ?_ m0 ⟨σ,H,I,w0⟩)
 rintro n s1 ⟨σ1,H1,I1,w1⟩
 refine wpAny_passesOwn hp (thn (hc pins s1 σ1 H1 _ I1 (turn n σ1 H1 w1)) λb s2 ⟨H2,I2,q2⟩=>?_)
 cases b with
 |true =>
  obtain⟨N,hN,q2⟩:=q2
  rw[Yc rfl]
  refine wpAny_passesOwn hp (thn (hb pins s2 σ1 H2 _ I2 q2) λf s3 q3=>?_)
  cases f with
  |next =>
   obtain⟨σ3,H3,I3,n3⟩:=q3
   obtain⟨m',hm,w3⟩:=hN σ3 H3 n3
   exact⟨m',hm,σ3,H3,I3,w3⟩
  |cont =>
   obtain⟨σ3,H3,I3,n3⟩:=q3
   obtain⟨m',hm,w3⟩:=hN σ3 H3 n3
   exact⟨m',hm,σ3,H3,I3,w3⟩
  |brk=>exact q3
  |ret v=>exact q3
 |false =>
  rw[Yb Yr]
  exact wpAny_execs_nil ⟨σ1,H2,I2,q2⟩
end
structure It where
 go:Nat->Hp->Prop
 yld:Nat->Hp->V->Hp->Prop
 stop:Nat->Hp->Prop
noncomputable def FpOk (X:Cx) (pins:List (Addr×Obj)) (H:Hp) (b:Addr):Prop :=
 H b=none/\b≠X.env.locals/\b∉X.fs/\(b∈X.ex\/X.s₀.heap.objs.size<=b)/\(∀x c,X.env.cells.lookup x=some c->c≠b)/\∀p∈X.pn++pins,p.1≠b
theorem Inv.Zhl {X:Cx}{pins:List (Addr×Obj)}{σ:St}{H H':Hp}{s:Shared}{b:Addr} (I:Inv X pins σ H s) (hb:s.heap.objs.size<=b) (hn:H' b=none):FpOk X pins H' b:=by
 refine⟨hn,Nat.ne_of_gt (Yp I.lt hb),I.nofs hb,.inr (Yj I.sz hb),λx c e z=>?_,λp hp z=>?_⟩
 ·obtain⟨v,q⟩:=I.cell x c e
  exact absurd (Yp q.lt (by rw[z];exact hb)) (Yy _)
 ·exact absurd (Yp (Yg (I.pin p hp).1) (by rw[z];exact hb)) (Yy _)
structure Turn (P:Program) (w:World) (K:PySem.W.Frag) (tg:Expr) (J:It) (fp:List Addr) (it:Addr) (tn:Nat->Heap->Prop):Prop where
 mem:it∈fp
 obj:∀i h,tn i h->∀b∈fp,∃o,h.get? b=some o/\∀v,o.data≠.cell v
 keep:∀i h h',tn i h->(∀b∈fp,∀o,h.get? b=some o->h'.get? b=some o)->tn i h'
 item:∀(X:Cx),X.prog=P->X.w=w->X.K=K->X.calm=true->∀(i:Nat) (pins:List (Addr×Obj)) (s:Shared) (σ:St) (H:Hp) (E:Value->Shared->Prop),Inv X pins σ H s->(∀b∈fp,FpOk X pins H b)->tn i s.heap->J.go i H ->
  wpAny (model P w) X.A (pyNext (.ref it)) (λr s1=>∃u,r=some u /\
   wpAny (model P w) X.A (letOwnedTupleGo tg (.ref it) u) (λ_ s2=>∃x H',Inv X pins σ H' s2/\RelV x u/\J.yld i H x H'/\tn (i+1) s2.heap/\∀b∈fp,H' b=none) E s1) E s
 done:∀(X:Cx),X.prog=P->X.w=w->X.K=K->X.calm=true->∀(i:Nat) (pins:List (Addr×Obj)) (s:Shared) (σ:St) (H:Hp) (E:Value->Shared->Prop),Inv X pins σ H s->(∀b∈fp,FpOk X pins H b)->tn i s.heap->J.stop i H ->
  wpAny (model P w) X.A (pyNext (.ref it)) (λr s1=>r=none/\Inv X pins σ H s1) E s
 self:∀(A:Around) (i:Nat) (s:Shared) (Q:Value->Shared->Prop) (E:Value->Shared->Prop),tn i s.heap->Q (.ref it) s->wpAny (model P w) A (pyIter (.ref it)) Q E s
noncomputable abbrev TI:=St->Hp->(It->Hp->Prop)->Prop
noncomputable def PIE (X:Cx) (pins:List (Addr×Obj)) (σ:St) (tg:Expr) (R:It->Hp->Prop) (itv:Value) (s2:Shared):Prop :=
 ∃(it:Addr) (fp:List Addr) (tn:Nat->Heap->Prop) (J:It) (H':Hp),itv=.ref it/\Inv X pins σ H' s2/\Turn X.prog X.w X.K tg J fp it tn/\tn 0 s2.heap/\(∀b∈fp,FpOk X pins H' b)/\R J H'
noncomputable def PI (X:Cx) (tg iter:Expr) (wi:TI):Prop :=
 ∀(pins:List (Addr×Obj)) (s:Shared) (σ:St) (H:Hp) (R:It->Hp->Prop),Inv X pins σ H s->wi σ H R ->
  wpAny (model X.prog X.w) X.A (eval iter X.env) (λv s1=>wpAny (model X.prog X.w) X.A (pyIter v) (PIE X pins σ tg R) X.xe s1) X.xe s
theorem ZhX {M : Model} {A : Around} {E : Value → Shared → Prop} {s : Shared} {tg : Expr} {it : Addr} {u : Value} {o : Obj} {n : String} {vs : Array Value} {Q : Unit → Shared → Prop} (ho : s.heap.get? it = some o) (hc : o.cls = .type n) (hd : o.data = .fields vs)
    (hn : ["enumerate", "zip", "dict_itemiterator", "dict_reverseitemiterator", "odict_iterator", "itertools.zip_longest", "itertools.pairwise"].contains n = false) (hQ : Q () s) : wpAny M A (letOwnedTupleGo tg (.ref it) u) Q E s := by
  unfold letOwnedTupleGo
  cases tg <;> first
    | exact Yd hQ
    | (cases u <;> first
        | exact Yd hQ
        | (refine Ya (wpAny_load ho ?_)
           rw [hc, hd]
           show wpAny M A (if (["enumerate", "zip", "dict_itemiterator", "dict_reverseitemiterator", "odict_iterator", "itertools.zip_longest", "itertools.pairwise"].contains n && vs[0]? == some (rawInt _)) = true then _ else _) Q E s
           rw [Yb (by intro h; rw [hn, Bool.false_and] at h; cases h)]
           exact Yd hQ))
noncomputable def Itl (K:PySem.W.Frag) (a:Addr):It :=
 ⟨λi H=>∃xs x,SqL K H a xs/\xs[i]?=some x,λi H x H'=>H'=H/\∀xs,SqL K H a xs->xs[i]?=some x,λi H=>∃xs,SqL K H a xs/\xs.length<=i⟩
noncomputable def Itt (K:PySem.W.Frag) (a:Addr):It :=
 ⟨λi H=>∃xs x,SqT K H a xs/\xs[i]?=some x,λi H x H'=>H'=H/\∀xs,SqT K H a xs->xs[i]?=some x,λi H=>∃xs,SqT K H a xs/\xs.length<=i⟩
noncomputable def Itr (lo:Int) (n:Nat):It:=⟨λi _=>i<n,λi H x H'=>H'=H/\x=.int (lo+i),λi _=>n<=i⟩
theorem Ziv {P:Program}{w:World}{K:PySem.W.Frag}{tg:Expr} (a it:Addr):Turn P w K tg (Itl K a) [it] it (λi h=>h.IsListIter it a i) where
 mem:=by simp
 obj:=λi h st b hb=>by
  have e:b=it:=by simpa using hb
  subst e
  obtain⟨o,e,c,d⟩:=st
  exact⟨o,e,λv z=>by rw[d]at z;cases z⟩
 keep:=λi h h' st k=>st.at λo e=>k it (by simp) o e
 item:=by
  intro X hP hw hK hc i pins s σ H E I hf st hg
  subst hP hw hK
  obtain⟨xs,x,hq,hx⟩:=hg
  obtain⟨its,rv,p,hz⟩:=I.list hq
  obtain⟨u,hu,ru⟩:=rv.get hx
  obtain⟨f0,f1,f2,f3,f4,f5⟩:=hf it (by simp)
  refine wpAny_pyNext_list_item st p.isList (x:=u) (by simpa using hu) λh' st' sb=>?_
  have I1:Inv X pins σ H {s with heap:=h'}:=I.turned (t':=s.toks) (λb o hb e=>(sb.2 b hb).trans e) f0 f1 f3 f4 f5
  obtain⟨o,e,c,d⟩:=id st'
  exact⟨u,rfl,ZhX (s:={s with heap:=h'}) e c d (by decide) ⟨x,H,I1,ru,⟨rfl,λys hy=>by rw[I.ZbC hy hq];exact hx⟩,st',λb hb=>(hf b hb).1⟩⟩
 done:=by
  intro X hP hw hK hc i pins s σ H E I hf st hg
  subst hP hw hK
  obtain⟨xs,hq,hx⟩:=hg
  obtain⟨its,rv,p,hz⟩:=I.list hq
  obtain⟨f0,f1,f2,f3,f4,f5⟩:=hf it (by simp)
  have hl:=rv.length
  exact wpAny_pyNext_list_end (I.ok.hd hc) st p.isList (by simp;omega) λh' eb=>⟨rfl,I.turned (t':=s.toks) (λb o hb e=>eb b o hb e) f0 f1 f3 f4 f5⟩
 self:=λ_ _ _ _ _ st h=>wpAny_pyIter_listiter st h
theorem Zhm {P:Program}{w:World}{K:PySem.W.Frag}{tg:Expr} (a it:Addr):Turn P w K tg (Itt K a) [it] it (λi h=>h.IsTupleIter it a i) where
 mem:=by simp
 obj:=λi h st b hb=>by
  have e:b=it:=by simpa using hb
  subst e
  obtain⟨o,e,c,d⟩:=st
  exact⟨o,e,λv z=>by rw[d]at z;cases z⟩
 keep:=λi h h' st k=>st.at λo e=>k it (by simp) o e
 item:=by
  intro X hP hw hK hc i pins s σ H E I hf st hg
  subst hP hw hK
  obtain⟨xs,x,hq,hx⟩:=hg
  obtain⟨its,rv,p,hz⟩:=I.tuple hq
  obtain⟨u,hu,ru⟩:=rv.get hx
  obtain⟨f0,f1,f2,f3,f4,f5⟩:=hf it (by simp)
  refine wpAny_pyNext_tuple_item st (show s.heap.IsTuple a its.toArray from p) (x:=u) (by simpa using hu) λh' st' sb=>?_
  have I1:Inv X pins σ H {s with heap:=h'}:=I.turned (t':=s.toks) (λb o hb e=>(sb.2 b hb).trans e) f0 f1 f3 f4 f5
  obtain⟨o,e,c,d⟩:=id st'
  exact⟨u,rfl,ZhX (s:={s with heap:=h'}) e c d (by decide) ⟨x,H,I1,ru,⟨rfl,λys hy=>by rw[I.ZdE hy hq];exact hx⟩,st',λb hb=>(hf b hb).1⟩⟩
 done:=by
  intro X hP hw hK hc i pins s σ H E I hf st hg
  subst hP hw hK
  obtain⟨xs,hq,hx⟩:=hg
  obtain⟨its,rv,p,hz⟩:=I.tuple hq
  obtain⟨f0,f1,f2,f3,f4,f5⟩:=hf it (by simp)
  have hl:=rv.length
  exact wpAny_pyNext_tuple_end (I.ok.hd hc) st (show s.heap.IsTuple a its.toArray from p) (by simp;omega) λh' eb=>⟨rfl,I.turned (t':=s.toks) (λb o hb e=>eb b o hb e) f0 f1 f3 f4 f5⟩
 self:=λ_ _ _ _ _ st h=>wpAny_pyIter_tupleiter st h
theorem Zhn {P:Program}{w:World}{K:PySem.W.Frag}{tg:Expr} (it:Addr) (lo:Int) (n:Nat):Turn P w K tg (Itr lo n) [it] it (λi h=>IsRangeIter h it (lo+(i:Nat)*1) ((n:Int)-(i:Nat)) 1) where
 mem:=by simp
 obj:=λi h st b hb=>by
  have e:b=it:=by simpa using hb
  subst e
  exact⟨_,st,λv z=>by
   have z':Data.fields _=Data.cell v:=z
   cases z'⟩
 keep:=λi h h' st k=>k it (by simp) _ st
 item:=by
  intro X hP hw hK hc i pins s σ H E I hf st hg
  subst hP hw hK
  obtain⟨f0,f1,f2,f3,f4,f5⟩:=hf it (by simp)
  have W:=Walks.range (prog:=X.prog) (w:=X.w) (I.ok.hd hc) it lo 1 n
  refine W.item i s _ _ hg st λv h' tk hv st' kk=>?_
  obtain⟨t,rfl⟩:=hv
  have I1:Inv X pins σ H {s with heap:=h',toks:=tk}:=I.turned (λb o hb e=>kk b o (by simpa using hb) e) f0 f1 f3 f4 f5
  refine⟨_,rfl,ZhX (s:={s with heap:=h',toks:=tk}) (n:="range_iterator") st' rfl rfl (by decide) ⟨.int (lo+i),H,I1,⟨t,?_⟩,⟨rfl,rfl⟩,st',λb hb=>(hf b hb).1⟩⟩
  rw[Int.mul_one]
 done:=by
  intro X hP hw hK hc i pins s σ H E I hf st hg
  subst hP hw hK
  obtain⟨f0,f1,f2,f3,f4,f5⟩:=hf it (by simp)
  exact wpAny_pyNext_range_end (I.ok.hd hc) st (by have:n<=i:=hg;omega) λh' eb=>⟨rfl,I.turned (t':=s.toks) (λb o hb e=>eb b o hb e) f0 f1 f3 f4 f5⟩
 self:=λ_ _ _ _ _ st h=>wpAny_pyIter_rangeiter st h
section
variable {X:Cx}{tg:Expr}
noncomputable def iList (K:PySem.W.Frag) (tl:TE):TI:=fun σ H R=>tl σ H λx H1=>∃a,x=.ref a/\(∃xs,SqL K H1 a xs)/\R (Itl K a) H1
noncomputable def iTup (K:PySem.W.Frag) (tl:TE):TI:=fun σ H R=>tl σ H λx H1=>∃a,x=.ref a/\(∃xs,SqT K H1 a xs)/\R (Itt K a) H1
theorem ZcH {l:Expr}{tl:TE} (hl:PE X l tl):PI X tg l (iList X.K tl):=by
 intro pins s σ H R I h
 refine thn (hl pins s σ H _ I h) λv s1 ⟨x,H1,I1,r1,q1⟩=>?_
 obtain⟨a,e,⟨xs,hq⟩,q⟩:=q1
 subst e
 cases r1
 obtain⟨its,rv,p,hz⟩:=I1.list hq
 refine wpAny_pyIter_list p.isList ?_
 refine⟨s1.heap.objs.size,[s1.heap.objs.size],_,_,H1,rfl,I1.kept (t':=s1.toks) λb o e=>Yi _ e,Ziv a _,⟨_,Yo _ rfl,rfl,rfl⟩,λb hb=>?_,q⟩
 have e:b=s1.heap.objs.size:=by simpa using hb
 subst e
 exact I1.Zhl (Ye _) (I1.hok.fresh (Ye _))
theorem Zjk {l:Expr}{tl:TE} (hl:PE X l tl):PI X tg l (iTup X.K tl):=by
 intro pins s σ H R I h
 refine thn (hl pins s σ H _ I h) λv s1 ⟨x,H1,I1,r1,q1⟩=>?_
 obtain⟨a,e,⟨xs,hq⟩,q⟩:=q1
 subst e
 cases r1
 obtain⟨its,rv,p,hz⟩:=I1.tuple hq
 refine wpAny_pyIter_tuple (show s1.heap.IsTuple a its.toArray from p) ?_
 refine⟨s1.heap.objs.size,[s1.heap.objs.size],_,_,H1,rfl,I1.kept (t':=s1.toks) λb o e=>Yi _ e,Zhm a _,⟨_,Yo _ rfl,rfl,rfl⟩,λb hb=>?_,q⟩
 have e:b=s1.heap.objs.size:=by simpa using hb
 subst e
 exact I1.Zhl (Ye _) (I1.hok.fresh (Ye _))
theorem Zgp {pins:List (Addr×Obj)}{σ:St}{H:Hp}{s:Shared}{R:It->Hp->Prop}{E:Value->Shared->Prop}{lo hi:Int}{t u v:Tok}{tk:Nat} (I:Inv X pins σ H s) (h1:-(2 ^ 62)<=lo) (h2:lo<2 ^ 62) (h3:-(2 ^ 62)<=hi) (h4:hi<2 ^ 62)
  (q:R (Itr lo (hi-lo).toNat) H):wpAny (model X.prog X.w) X.A (pyIter (.ref s.heap.objs.size)) (PIE X pins σ tg R) E {s with heap:=s.heap.push {cls:=.type "range",data:=.fields #[.int lo t,.int hi u,.int 1 v]},toks:=tk}:=by
 refine wpAny_pyIter_range (IsRange.new ..) (small_one h1 h2 h3 h4) ?_
 have I1:Inv X pins σ H {s with heap:=s.heap.push {cls:=.type "range",data:=.fields #[.int lo t,.int hi u,.int 1 v]},toks:=tk}:=I.kept λb o e=>Yi _ e
 refine⟨(s.heap.push {cls:=.type "range",data:=.fields #[.int lo t,.int hi u,.int 1 v]}).objs.size,[(s.heap.push {cls:=.type "range",data:=.fields #[.int lo t,.int hi u,.int 1 v]}).objs.size],_,_,H,rfl,
  I1.kept (t':=tk) λb o e=>Yi _ e,Zhn _ lo (hi-lo).toNat,?_,λb hb=>?_,q⟩
 ·have e1:lo+((0:Nat):Int)*1=lo:=by simp
  have e2:(((hi-lo).toNat:Nat):Int)-((0:Nat):Int)=Builtin.Range.rangeSize lo hi 1:=by rw[rangeSize_one];split<;>omega
  show IsRangeIter _ _ (lo+((0:Nat):Int)*1) ((((hi-lo).toNat:Nat):Int)-((0:Nat):Int)) 1
  rw[e1,e2]
  exact Yo _ rfl
 ·have e:b=(s.heap.push {cls:=.type "range",data:=.fields #[.int lo t,.int hi u,.int 1 v]}).objs.size:=by simpa using hb
  subst e
  exact I1.Zhl (Ye _) (I1.hok.fresh (Ye _))
noncomputable def iRng1 (ta:TA):TI:=fun σ H R=>ta σ H λvs H1=>∃j:Int,vs=[.int j]/\-(2 ^ 62)<=j/\j<2 ^ 62/\R (Itr 0 j.toNat) H1
noncomputable def iRng2 (ta:TA):TI:=fun σ H R=>ta σ H λvs H1=>∃i j:Int,vs=[.int i,.int j]/\(-(2 ^ 62)<=i/\i<2 ^ 62/\-(2 ^ 62)<=j/\j<2 ^ 62)/\R (Itr i (j-i).toNat) H1
theorem ZU {a:Expr}{ta:TA}{p pos:Pos} (hg:Gl X "range") (hm:X.mg "range"=none) (ha:PA X [a] ta) (hs:starEach [a] X.env=[(false,eval a X.env)]:=by rfl):PI X tg (.Call (.Name "range" p) [a] [] pos) (iRng1 ta):=by
 intro pins s σ H R I h
 refine Call_ (Za6 I hg hm boot_range (PyProof.Rows.callWith_type1 (thn (ha pos pins s σ H _ I h) λus s1 ⟨vs,H1,I1,r1,q1⟩=>?_) hs rfl))
 obtain⟨j,e,q1,q2,q⟩:=q1
 subst e
 cases r1 with
 |cons r rr =>
  cases rr
  obtain⟨t,rfl⟩:=r
  exact call_range_1 (Zgp I1 (by omega) (by omega) q1 q2 (by simpa using q))
theorem Ziw {a b:Expr}{ta:TA}{p pos:Pos} (hg:Gl X "range") (hm:X.mg "range"=none) (ha:PA X [a,b] ta) (hs:starEach [a,b] X.env=[(false,eval a X.env),(false,eval b X.env)]:=by rfl) (hs2:starEach [b] X.env=[(false,eval b X.env)]:=by rfl) :
  PI X tg (.Call (.Name "range" p) [a,b] [] pos) (iRng2 ta):=by
 intro pins s σ H R I h
 refine Call_ (Za6 I hg hm boot_range (PyProof.Rows.callWith_type1 (thn (ha pos pins s σ H _ I h) λus s1 ⟨vs,H1,I1,r1,q1⟩=>?_) (by rw[hs,hs2]) (by rw[hs2];rfl)))
 obtain⟨i,j,e,⟨q1,q2,q3,q4⟩,q⟩:=q1
 subst e
 cases r1 with
 |cons r rr =>
  cases rr with
  |cons r' rr =>
   cases rr
   obtain⟨t,rfl⟩:=r
   obtain⟨t',rfl⟩:=r'
   exact call_range_2 (Zgp I1 q1 q2 q3 q4 q)
noncomputable def tFor (wi:TI) (g:TG) (tb:TS):TS:=λD σ H=>wi σ H λJ H1=>∃W:Nat->Nat->St->Hp->Prop,(∃m,W 0 m σ H1)/\∀i m σ H,W i m σ H ->
 (J.stop i H/\D.nx σ H)\/(J.go i H/\∃N:St->Hp->Prop,(∀σ' H',N σ' H'->∃m',m'<m/\W (i+1) m' σ' H')/\∀x H',J.yld i H x H'->g x σ H' fun σ2 H2=>tb {D with nx:=N,ct:=N,bk:=D.nx} σ2 H2)
noncomputable def Zb6 (fp:List Addr) (h:Heap):List (Addr×Obj):=fp.filterMap λb=>(h.get? b).map λo=>(b,o)
theorem ZbN {fp:List Addr}{h:Heap}{b:Addr}{o:Obj} (hb:b∈fp) (e:h.get? b=some o):(b,o)∈Zb6 fp h:=List.mem_filterMap.mpr ⟨b,hb,by rw[e];rfl⟩
theorem Zff {fp:List Addr}{h:Heap}{p:Addr×Obj} (hp:p∈Zb6 fp h):p.1∈fp/\h.get? p.1=some p.2:=by
 obtain⟨b,hb,e⟩:=List.mem_filterMap.mp hp
 cases q:h.get? b with
 |none=>rw[q]at e;cases e
 |some o =>
  rw[q]at e
  have e':(b,o)=p:=Yw e
  subst e'
  exact⟨hb,q⟩
theorem Inv.pinned {pins:List (Addr×Obj)}{σ:St}{H:Hp}{s:Shared}{fp:List Addr} (I:Inv X pins σ H s) (hf:∀b∈fp,FpOk X pins H b) (ho:∀b∈fp,∃o,s.heap.get? b=some o/\∀v,o.data≠.cell v):Inv X (pins++Zb6 fp s.heap) σ H s :=
 I.Zdj λp hp=>(Yz.mp hp).elim (λz=>I.pin p (Ys _ z)) λz=>by
  obtain⟨hb,e⟩:=Zff z
  obtain⟨f0,f1,f2,_⟩:=hf p.1 hb
  obtain⟨o,e',d⟩:=ho p.1 hb
  rw[e]at e';cases e'
  exact⟨e,f0,f1,f2,d⟩
theorem Inv.Zb7 {pins pl:List (Addr×Obj)}{σ:St}{H:Hp}{s:Shared} (I:Inv X (pins++pl) σ H s):Inv X pins σ H s:=I.Zdj λp hp=>I.pin p (Ys _ (YF _ hp))
theorem ZaJ {iter:Expr}{body:List Stmt}{wi:TI}{g:TG}{tb:TS}{pos:Pos} (hp:PassesOwn (model X.prog X.w) X.A X.env X.xe) (hc:X.calm=true) (hi:PI X tg iter wi) (hg:PG X tg g) (hb:PSs X body tb)
  (hs:∀x,foldedSetIterable iter X.env x=pure x:=by intro _;rfl):PS X (.For tg iter body [] pos) (tFor wi g tb):=by
 intro pins s σ H D I h
 refine wpAny_For (thn (hi pins s σ H _ I h) λv s1 h1=>thn h1 λitv s2 h2=>?_) hs
 obtain⟨it,fp,tn,J,H2,e,I2,T,st2,f2,W,⟨m0,w0⟩,turn⟩:=h2
 subst e
 -- what stays true of the iterator's objects through the loop
 have stat:∀{H':Hp},(∀b∈fp,H' b=none)->∀b∈fp,FpOk X pins H' b:=λhn b hb=>⟨hn b hb,(f2 b hb).2⟩
 refine codeAny_forLoop_any (λn s'=>∃i σ' H',Inv X pins σ' H' s'/\tn i s'.heap/\(∀b∈fp,H' b=none)/\W i n σ' H') ?_ m0 ⟨0,σ,H2,I2,st2,λb hb=>(f2 b hb).1,w0⟩
 rintro n s3 ⟨i,σ3,H3,I3,st3,fr3,w3⟩
 rcases turn i n σ3 H3 w3 with⟨stop,qn⟩|⟨go,N,hN,step⟩
 ·refine wpAny_passesOwn hp (thn (T.done X rfl rfl rfl hc i pins s3 σ3 H3 X.xe I3 (stat fr3) st3 stop) λr s4 ⟨hr,I4⟩=>?_)
  subst hr
  exact wpAny_execs_nil ⟨σ3,H3,I4,qn⟩
 ·refine wpAny_passesOwn hp (thn (T.item X rfl rfl rfl hc i pins s3 σ3 H3 X.xe I3 (stat fr3) st3 go) λr s4 ⟨u,hr,h4⟩=>?_)
  subst hr
  refine wpAny_passesOwn hp (thn h4 λ_ s5 ⟨x,H5,I5,r5,y5,st5,fr5⟩=>?_)
  have I5':=I5.pinned (stat fr5) (T.obj _ _ st5)
  refine wpAny_passesOwn hp (thn (hg _ s5 σ3 H5 x u _ I5' r5 (step x H5 y5)) λ_ s6 ⟨σ6,H6,I6,q6⟩=>?_)
  refine wpAny_passesOwn hp (thn (hb _ s6 σ6 H6 _ I6 q6) λf s7 q7=>?_)
  have again:∀{σ7:St}{H7:Hp},Inv X (pins++Zb6 fp s5.heap) σ7 H7 s7->N σ7 H7->∃m,m<n/\∃i σ' H',Inv X pins σ' H' s7/\tn i s7.heap/\(∀b∈fp,H' b=none)/\W i m σ' H':=λ{σ7 H7} I7 n7=>by
   obtain⟨m',hm,w7⟩:=hN σ7 H7 n7
   refine⟨m',hm,i+1,σ7,H7,I7.Zb7,T.keep _ _ _ st5 λb hb o e=>(I7.pin (b,o) (Ys _ (Ys _ (ZbN hb e)))).1,λb hb=>?_,w7⟩
   obtain⟨o,e,d⟩:=T.obj _ _ st5 b hb
   exact(I7.pin (b,o) (Ys _ (Ys _ (ZbN hb e)))).2.1
  cases f with
  |next=>obtain⟨σ7,H7,I7,n7⟩:=q7;exact again I7 n7
  |cont=>obtain⟨σ7,H7,I7,n7⟩:=q7;exact again I7 n7
  |brk=>obtain⟨σ7,H7,I7,q7⟩:=q7;exact⟨σ7,H7,I7.Zb7,q7⟩
  |ret v=>obtain⟨x7,σ7,H7,I7,r7,q7⟩:=q7;exact⟨x7,σ7,H7,I7.Zb7,r7,q7⟩
end
theorem Zjl {K:PySem.W.Frag}{a:Addr}{xs:List V}{g:TG}{tb:TS}{D:Ends}{σ:St}{H:Hp} (Pv:Nat->St->Hp->Prop) (h0:Pv 0 σ H) (hl:∀i σ H,i<=xs.length->Pv i σ H->SqL K H a xs)
  (hs:∀i x σ H,xs[i]?=some x->Pv i σ H->g x σ H fun σ2 H2=>tb {D with nx:=Pv (i+1),ct:=Pv (i+1),bk:=D.nx} σ2 H2) (hd:∀σ H,Pv xs.length σ H->D.nx σ H) :
  ∃W:Nat->Nat->St->Hp->Prop,(∃m,W 0 m σ H)/\∀i m σ H,W i m σ H ->
   ((Itl K a).stop i H/\D.nx σ H)\/((Itl K a).go i H/\∃N:St->Hp->Prop,(∀σ' H',N σ' H'->∃m',m'<m/\W (i+1) m' σ' H')/\∀x H',(Itl K a).yld i H x H'->g x σ H' fun σ2 H2=>tb {D with nx:=N,ct:=N,bk:=D.nx} σ2 H2):=by
 refine⟨λi m σ H=>m=xs.length-i/\i<=xs.length/\Pv i σ H,⟨xs.length,by simp,Ym _,h0⟩,?_⟩
 rintro i m σ H ⟨rfl,hi,p⟩
 have q:=hl i σ H hi p
 by_cases hlt:i<xs.length
 ·refine .inr ⟨⟨xs,xs[i],q,by simp[hlt]⟩,Pv (i+1),fun σ' H' p'=>⟨xs.length-(i+1),by omega,rfl,hlt,p'⟩,λx H' y=>?_⟩
  obtain⟨e,y⟩:=y
  subst e
  exact hs i x σ _ (y xs q) p
 ·have e:i=xs.length:=by omega
  subst e
  exact .inl ⟨⟨xs,q,Ye _⟩,hd σ H p⟩
theorem ZaK {lo:Int}{n:Nat}{g:TG}{tb:TS}{D:Ends}{σ:St}{H:Hp} (Pv:Nat->St->Hp->Prop) (h0:Pv 0 σ H)
  (hs:∀i σ H,i<n->Pv i σ H->g (.int (lo+i)) σ H fun σ2 H2=>tb {D with nx:=Pv (i+1),ct:=Pv (i+1),bk:=D.nx} σ2 H2) (hd:∀σ H,Pv n σ H->D.nx σ H) :
  ∃W:Nat->Nat->St->Hp->Prop,(∃m,W 0 m σ H)/\∀i m σ H,W i m σ H ->
   ((Itr lo n).stop i H/\D.nx σ H)\/((Itr lo n).go i H/\∃N:St->Hp->Prop,(∀σ' H',N σ' H'->∃m',m'<m/\W (i+1) m' σ' H')/\∀x H',(Itr lo n).yld i H x H'->g x σ H' fun σ2 H2=>tb {D with nx:=N,ct:=N,bk:=D.nx} σ2 H2):=by
 refine⟨λi m σ H=>m=n-i/\i<=n/\Pv i σ H,⟨n,by simp,Ym _,h0⟩,?_⟩
 rintro i m σ H ⟨rfl,hi,p⟩
 by_cases hlt:i<n
 ·refine .inr ⟨hlt,Pv (i+1),fun σ' H' p'=>⟨n-(i+1),by omega,rfl,hlt,p'⟩,λx H' y=>?_⟩
  obtain⟨e,y⟩:=y
  subst e y
  exact hs i σ _ hlt p
 ·have e:i=n:=by omega
  subst e
  exact .inl ⟨Ye _,hd σ H p⟩
noncomputable abbrev R2:=V->V->Hp->VK->Prop
noncomputable def OpR (X:Cx) (f:Value->Value->Sem Value) (r:R2):Prop :=
 ∀(pins:List (Addr×Obj)) (s:Shared) (σ:St) (H:Hp) (x y:V) (v u:Value) (Q:VK),Inv X pins σ H s->RelV x v->RelV y u->r x y H Q ->
  wpAny (model X.prog X.w) X.A (f v u) (EP X pins σ Q) X.xe s
noncomputable def UnR (X:Cx) (f:Value->Sem Value) (r:V->Hp->VK->Prop):Prop :=
 ∀(pins:List (Addr×Obj)) (s:Shared) (σ:St) (H:Hp) (x:V) (v:Value) (Q:VK),Inv X pins σ H s->RelV x v->r x H Q ->
  wpAny (model X.prog X.w) X.A (f v) (EP X pins σ Q) X.xe s
noncomputable def ZbD (X:Cx) (f:Value) (r:List V->Hp->VK->Prop):Prop :=
 ∀(pins:List (Addr×Obj)) (s:Shared) (σ:St) (H:Hp) (xs:List V) (us:List Value) (Q:VK),Inv X pins σ H s->Vals xs us->r xs H Q ->
  wpAny (model X.prog X.w) X.A (call f us) (EP X pins σ Q) X.xe s
noncomputable def tOp (r:R2) (ta tb:TE):TE:=fun σ H Q=>ta σ H λx H1=>tb σ H1 λy H2=>r x y H2 Q
noncomputable def tUn (r:V->Hp->VK->Prop) (ta:TE):TE:=fun σ H Q=>ta σ H λx H1=>r x H1 Q
noncomputable def rI (C:Int->Int->Prop) (g:Int->Int->V):R2:=λx y H Q=>∃i j,x=.int i/\y=.int j/\C i j/\Q (g i j) H
noncomputable def rI0 (g:Int->Int->V):R2:=λx y H Q=>∃i j,x=.int i/\y=.int j/\Q (g i j) H
noncomputable def rU (g:Int->V):V->Hp->VK->Prop:=λx H Q=>∃i,x=.int i/\Q (g i) H
section
variable {X:Cx}{a b c:Expr}{ta tb tc:TE}{pos:Pos}
theorem binT (ha:PE X a ta) (hb:PE X b tb) {pins:List (Addr×Obj)}{s:Shared}{σ:St}{H:Hp}{R:V->V->Hp->Prop} (I:Inv X pins σ H s)
  (h:ta σ H λx H1=>tb σ H1 λy H2=>R x y H2) {Q:Value->Shared->Prop}{f:Value->Value->Sem Value}
  (hf:∀v u s2 x y H2,Inv X pins σ H2 s2->RelV x v->RelV y u->R x y H2->wpAny (model X.prog X.w) X.A (f v u) Q X.xe s2) :
  wpAny (model X.prog X.w) X.A (eval a X.env) (λv s₁=>wpAny (model X.prog X.w) X.A (eval b X.env) (λu s₂=>wpAny (model X.prog X.w) X.A (f v u) Q X.xe s₂) X.xe s₁) X.xe s:=by
 refine thn (ha pins s σ H _ I h) λv s1 ⟨x,H1,I1,r1,q1⟩=>?_
 refine thn (hb pins s1 σ H1 _ I1 q1) λu s2 ⟨y,H2,I2,r2,q2⟩=>?_
 exact hf v u s2 x y H2 I2 r1 r2 q2
theorem Zi {op:Operator}{r:R2} (ho:OpR X (binaryOp op) r) (ha:PE X a ta) (hb:PE X b tb):PE X (.BinOp a op b pos) (tOp r ta tb):=by
 intro pins s σ H Q I h
 exact wpAny_BinOp (binT ha hb I h λv u s2 x y H2 I2 rx ry q=>ho pins s2 σ H2 x y v u Q I2 rx ry q)
theorem Zeu {op:UnaryOp}{r:V->Hp->VK->Prop} (ho:UnR X (unaryOp op) r) (ha:PE X a ta):PE X (.UnaryOp op a pos) (tUn r ta):=by
 intro pins s σ H Q I h
 exact UnaryOp_ (thn (ha pins s σ H _ I h) λv s1 ⟨x,H1,I1,r1,q1⟩=>ho pins s1 σ H1 x v Q I1 r1 q1)
theorem opI {f:Value->Value->Sem Value}{C:Int->Int->Prop}{g:Int->Int->Int}
  (rule:∀(i j:Int) (t u:Tok) (s:Shared) (Q:Value->Shared->Prop) (E:Value->Shared->Prop),C i j->Q (.int (g i j) s.toks) {s with toks:=s.toks+1}->wpAny (model X.prog X.w) X.A (f (.int i t) (.int j u)) Q E s) :
  OpR X f (rI C λi j=>.int (g i j)):=by
 intro pins s σ H x y v u Q I rx ry h
 obtain⟨i,j,rfl,rfl,hc,q⟩:=h
 obtain⟨t,rfl⟩:=rx
 obtain⟨t',rfl⟩:=ry
 exact rule i j t t' s _ _ hc ⟨.int (g i j),H,I.tok _,⟨_,rfl⟩,q⟩
theorem opI0 {f:Value->Value->Sem Value}{g:Int->Int->Int}
  (rule:∀(i j:Int) (t u:Tok) (s:Shared) (Q:Value->Shared->Prop) (E:Value->Shared->Prop),Q (.int (g i j) s.toks) {s with toks:=s.toks+1}->wpAny (model X.prog X.w) X.A (f (.int i t) (.int j u)) Q E s) :
  OpR X f (rI0 λi j=>.int (g i j)):=by
 intro pins s σ H x y v u Q I rx ry h
 obtain⟨i,j,rfl,rfl,q⟩:=h
 obtain⟨t,rfl⟩:=rx
 obtain⟨t',rfl⟩:=ry
 exact rule i j t t' s _ _ ⟨.int (g i j),H,I.tok _,⟨_,rfl⟩,q⟩
theorem opB0 {f:Value->Value->Sem Value}{g:Int->Int->Bool}
  (rule:∀(i j:Int) (t u:Tok) (s:Shared) (Q:Value->Shared->Prop) (E:Value->Shared->Prop),Q (.bool (g i j)) s->wpAny (model X.prog X.w) X.A (f (.int i t) (.int j u)) Q E s) :
  OpR X f (rI0 λi j=>.bl (g i j)):=by
 intro pins s σ H x y v u Q I rx ry h
 obtain⟨i,j,rfl,rfl,q⟩:=h
 obtain⟨t,rfl⟩:=rx
 obtain⟨t',rfl⟩:=ry
 exact rule i j t t' s _ _ ⟨.bl (g i j),H,I,rfl,q⟩
noncomputable def ZfJ (i j:Int):Prop:=0<=j/\j<=1000000/\i.natAbs<2 ^ 64
theorem Z2:OpR X (binaryOp .Add) (rI0 λi j=>.int (i+j)):=opI0 λ_ _ _ _ _ _ _ q=>add_int q
theorem ZcX:OpR X (binaryOp .Sub) (rI0 λi j=>.int (i-j)):=opI0 λ_ _ _ _ _ _ _ q=>sub_int q
theorem ZcY:OpR X (binaryOp .Mod) (rI (λ_ j=>0<j) λi j=>.int (i % j)):=opI λi j _ _ _ _ _ hc q=>by
 have h1:(0:Int)<j:=hc
 exact mod_int' (by omega) (by rw[Int.fmod_eq_emod_of_nonneg i (by omega)];exact q)
theorem Zb8:OpR X (binaryOp .Pow) (rI ZfJ λi j=>.int (i ^ j.toNat)):=opI λ_ _ _ _ _ _ _ hc q=>pow_int_small hc.1 hc.2.1 hc.2.2 q
theorem unI {f:Value->Sem Value}{g:Int->Int}
  (rule:∀(i:Int) (t:Tok) (s:Shared) (Q:Value->Shared->Prop) (E:Value->Shared->Prop),Q (.int (g i) s.toks) {s with toks:=s.toks+1}->wpAny (model X.prog X.w) X.A (f (.int i t)) Q E s) :
  UnR X f (rU λi=>.int (g i)):=by
 intro pins s σ H x v Q I rx h
 obtain⟨i,rfl,q⟩:=h
 obtain⟨t,rfl⟩:=rx
 exact rule i t s _ _ ⟨.int (g i),H,I.tok _,⟨_,rfl⟩,q⟩
theorem ZcZ:UnR X (unaryOp .USub) (rU λi=>.int (-i)):=unI λ_ _ _ _ _ q=>neg_int q
end
noncomputable def Zgq:V->V->Bool
 |.non,.non=>true|.non,.int _=>true|.int _,.non=>true|.non,.bl _=>true|.bl _,.non=>true|.non,.str _=>true|.str _,.non=>true
 |.int _,.int _=>true|.bl _,.bl _=>true|.str _,.str _=>true|.byt _,.byt _=>true
 |.int _,.str _=>true|.str _,.int _=>true|.bl _,.str _=>true|.str _,.bl _=>true
 |_,_=>false
noncomputable def rEq:R2:=λx y H Q=>Zgq x y=true/\Q (.bl (decide (x=y))) H
noncomputable def rNe:R2:=λx y H Q=>Zgq x y=true/\Q (.bl (!decide (x=y))) H
theorem ZhY {i j:Int}:decide (V.int i=V.int j)=(i==j):=by
 rw[Bool.eq_iff_iff]
 simp
theorem Zjm {i j:Bool}:decide (V.bl i=V.bl j)=(i==j):=by
 rw[Bool.eq_iff_iff]
 simp
theorem ZhZ {i j:Str}:decide (V.str i=V.str j)=(i==j):=by
 rw[Bool.eq_iff_iff]
 simp
theorem Zh0 {i j:Array UInt8}:decide (V.byt i=V.byt j)=(i.toList==j.toList):=by
 rw[Bool.eq_iff_iff]
 cases i
 cases j
 simp
section
variable {X:Cx}{a b c:Expr}{ta tb tc:TE}{pos:Pos}
theorem Zv {pins:List (Addr×Obj)}{σ:St}{H:Hp}{s:Shared}{Q:VK}{k k':Bool} (I:Inv X pins σ H s) (q:Q (.bl k) H) (e:k=k'):EP X pins σ Q (.bool k') s:=by
 subst e
 exact⟨.bl k,H,I,rfl,q⟩
theorem Zgr:OpR X (compareOp .Eq) rEq:=by
 intro pins s σ H x y v u Q I rx ry h
 obtain⟨hs,q⟩:=h
 cases x with
 |non =>
  cases rx
  cases y with
  |non=>cases ry;exact PySem.EqNone.eq_none_none (Zv I q (by simp))
  |bl j=>cases ry;exact PySem.EqNone.eq_none_bool (Zv I q (by simp))
  |int j=>obtain⟨t',rfl⟩:=ry;exact PySem.EqNone.eq_none_int (Zv I q (by simp))
  |str j=>obtain⟨t',rfl⟩:=ry;exact PySem.EqNone.eq_none_str (Zv I q (by simp))
  |_=>exact absurd (show false=true from hs) Yr
 |bl i =>
  cases rx
  cases y with
  |non=>cases ry;exact PySem.EqNone.eq_bool_none (Zv I q (by simp))
  |bl j=>cases ry;exact eq_bool (Zv I q Zjm)
  |str j=>obtain⟨t',rfl⟩:=ry;exact PySem.EqMixed.eq_bool_str (Zv I q (by simp))
  |_=>exact absurd (show false=true from hs) Yr
 |int i =>
  obtain⟨t,rfl⟩:=rx
  cases y with
  |non=>cases ry;exact PySem.EqNone.eq_int_none (Zv I q (by simp))
  |int j=>obtain⟨t',rfl⟩:=ry;exact eq_int (Zv I q ZhY)
  |str j=>obtain⟨t',rfl⟩:=ry;exact PySem.EqMixed.eq_int_str (Zv I q (by simp))
  |_=>exact absurd (show false=true from hs) Yr
 |str i =>
  obtain⟨t,rfl⟩:=rx
  cases y with
  |non=>cases ry;exact PySem.EqNone.eq_str_none (Zv I q (by simp))
  |bl j=>cases ry;exact PySem.EqMixed.eq_str_bool (Zv I q (by simp))
  |int j=>obtain⟨t',rfl⟩:=ry;exact PySem.EqMixed.eq_str_int (Zv I q (by simp))
  |str j=>obtain⟨t',rfl⟩:=ry;exact eq_str (Zv I q ZhZ)
  |_=>exact absurd (show false=true from hs) Yr
 |byt i =>
  obtain⟨t,rfl⟩:=rx
  cases y with
  |byt j=>obtain⟨t',rfl⟩:=ry;exact PySem.W.eq_bytes (Zv I q Zh0)
  |_=>exact absurd (show false=true from hs) Yr
 |_=>cases y<;>exact absurd (show false=true from hs) Yr
theorem Zjn:OpR X (compareOp .NotEq) rNe:=by
 intro pins s σ H x y v u Q I rx ry h
 obtain⟨hs,q⟩:=h
 cases x with
 |non =>
  cases rx
  cases y with
  |non=>cases ry;exact PySem.EqNone.ne_none_none (Zv I q (by simp))
  |bl j=>cases ry;exact PySem.EqNone.ne_none_bool (Zv I q (by simp))
  |int j=>obtain⟨t',rfl⟩:=ry;exact PySem.EqNone.ne_none_int (Zv I q (by simp))
  |str j=>obtain⟨t',rfl⟩:=ry;exact PySem.EqNone.ne_none_str (Zv I q (by simp))
  |_=>exact absurd (show false=true from hs) Yr
 |bl i =>
  cases rx
  cases y with
  |non=>cases ry;exact PySem.EqNone.ne_bool_none (Zv I q (by simp))
  |bl j=>cases ry;exact ne_bool (Zv I q (congrArg not Zjm))
  |str j=>obtain⟨t',rfl⟩:=ry;exact PySem.EqMixed.ne_bool_str (Zv I q (by simp))
  |_=>exact absurd (show false=true from hs) Yr
 |int i =>
  obtain⟨t,rfl⟩:=rx
  cases y with
  |non=>cases ry;exact PySem.EqNone.ne_int_none (Zv I q (by simp))
  |int j=>obtain⟨t',rfl⟩:=ry;exact ne_int (Zv I q (congrArg not ZhY))
  |str j=>obtain⟨t',rfl⟩:=ry;exact PySem.EqMixed.ne_int_str (Zv I q (by simp))
  |_=>exact absurd (show false=true from hs) Yr
 |str i =>
  obtain⟨t,rfl⟩:=rx
  cases y with
  |non=>cases ry;exact PySem.EqNone.ne_str_none (Zv I q (by simp))
  |bl j=>cases ry;exact PySem.EqMixed.ne_str_bool (Zv I q (by simp))
  |int j=>obtain⟨t',rfl⟩:=ry;exact PySem.EqMixed.ne_str_int (Zv I q (by simp))
  |str j=>obtain⟨t',rfl⟩:=ry;exact ne_str (Zv I q (congrArg not ZhZ))
  |_=>exact absurd (show false=true from hs) Yr
 |byt i =>
  obtain⟨t,rfl⟩:=rx
  cases y with
  |byt j=>obtain⟨t',rfl⟩:=ry;exact PySem.W.ne_bytes (Zv I q (congrArg not Zh0))
  |_=>exact absurd (show false=true from hs) Yr
 |_=>cases y<;>exact absurd (show false=true from hs) Yr
theorem Zgs:OpR X (compareOp .Lt) (rI0 λi j=>.bl (decide (i<j))):=opB0 λ_ _ _ _ _ _ _ q=>lt_int q
theorem op_le:OpR X (compareOp .LtE) (rI0 λi j=>.bl (decide (i<=j))):=opB0 λ_ _ _ _ _ _ _ q=>le_int q
theorem Zev:OpR X (compareOp .Gt) (rI0 λi j=>.bl (decide (j<i))):=opB0 λ_ _ _ _ _ _ _ q=>gt_int q
theorem Zh1:OpR X (compareOp .GtE) (rI0 λi j=>.bl (decide (j<=i))):=opB0 λ_ _ _ _ _ _ _ q=>ge_int q
theorem Zz (b:Expr) {op:CmpOp} (h:op≠.In:=by decide) (h2:op≠.NotIn:=by decide):behindInMarks op b=false:=by
 have e1:(op==CmpOp.In)=false:=by cases op<;>first|rfl|exact absurd rfl h
 have e2:(op==CmpOp.NotIn)=false:=by cases op<;>first|rfl|exact absurd rfl h2
 cases b<;>simp[behindInMarks,e1,e2]
theorem ZfK {op:CmpOp}{r:R2} (ho:OpR X (compareOp op) r) (ha:PE X a ta) (hb:PE X b tb) (hm:behindInMarks op b=false):PE X (.Compare a [op] [b] pos) (tOp r ta tb):=by
 intro pins s σ H Q I h
 exact wpAny_Compare1 (binT ha hb I h λv u s2 x y H2 I2 rx ry q=>ho pins s2 σ H2 x y v u Q I2 rx ry q) hm
noncomputable def Zjo (t:TE):TT:=fun σ H Q=>t σ H λx H'=>∃k,x=.bl k/\Q k H'
theorem Zs {op:CmpOp}{r:R2} (ho:OpR X (compareOp op) r) (ha:PE X a ta) (hb:PE X b tb) (hm:behindInMarks op b=false):PT X (.Compare a [op] [b] pos) (Zjo (tOp r ta tb)):=by
 intro pins s σ H Q I h
 refine wpAny_isTrue_Compare1 (thn (ha pins s σ H _ I h) λv s1 ⟨x,H1,I1,r1,q1⟩=>thn (hb pins s1 σ H1 _ I1 q1) λu s2 ⟨y,H2,I2,r2,q2⟩ =>
  thn (ho pins s2 σ H2 x y v u _ I2 r1 r2 q2) λc s3 ⟨z,H3,I3,r3,k,e,q3⟩=>?_) hm
 subst e
 cases r3
 exact wpAny_truthy_bool ⟨H3,I3,q3⟩
noncomputable def Zjp (r r':R2) (ta tb tc:TE):TE:=fun σ H Q=>ta σ H λx H1=>tb σ H1 λy H2=>r x y H2 λz H3=>∃k,z=.bl k /\
 (if k=true then tc σ H3 λw' H4=>r' y w' H4 Q else Q (.bl false) H3)
theorem Zjq {op op':CmpOp}{r r':R2} (ho:OpR X (compareOp op) r) (ho':OpR X (compareOp op') r') (ha:PE X a ta) (hb:PE X b tb) (hc:PE X c tc)
  (hm:lastMarks [op,op'] [b,c]=false:=by with_unfolding_all rfl):PT X (.Compare a [op,op'] [b,c] pos) (Zjo (Zjp r r' ta tb tc)):=by
 intro pins s σ H Q I h
 refine isTrue_chain (thn (ha pins s σ H _ I h) λv s1 ⟨x,H1,I1,r1,q1⟩=>test_link (thn (hb pins s1 σ H1 _ I1 q1) λu s2 ⟨y,H2,I2,r2,q2⟩ =>
  thn (ho pins s2 σ H2 x y v u _ I2 r1 r2 q2) λd s3 ⟨z,H3,I3,r3,k,e,q3⟩=>?_)) hm
 subst e
 cases r3
 refine wpAny_truthy_bool ?_
 cases k with
 |false =>
  obtain⟨k',e',q'⟩:=q3
  cases e'
  exact ite_ff ⟨H3,I3,q'⟩
 |true =>
  refine ite_tt (test_last (thn (hc pins s3 σ H3 _ I3 q3) λw' s4 ⟨z',H4,I4,r4,q4⟩=>thn (ho' pins s4 σ H4 y z' u w' _ I4 r2 r4 q4) λd' s5 ⟨z2,H5,I5,r5,k2,e2,q5⟩=>?_))
  subst e2
  cases r5
  exact wpAny_truthy_bool ⟨H5,I5,q5⟩
theorem ZfL:(sizeLine:Nat)<2 ^ 63:=by rw[sizeLine_eq];decide
theorem vals1 {x:V}{us:List Value} (r:Vals [x] us):∃u,us=[u]/\RelV x u:=by
 cases r with
 |cons r1 r2=>cases r2;exact⟨_,rfl,r1⟩
theorem Zix:ZbD X (.type "int") (λxs H Q=>(∃i,xs=[.int i]/\Q (.int i) H)\/∃k,xs=[.bl k]/\Q (.int (if k then 1 else 0)) H):=by
 intro pins s σ H xs us Q I r h
 rcases h with⟨i,rfl,q⟩|⟨k,rfl,q⟩
 ·obtain⟨u,rfl,t,rfl⟩:=vals1 r
  exact call_int_int ⟨.int i,H,I,⟨_,rfl⟩,q⟩
 ·obtain⟨u,rfl,r1⟩:=vals1 r
  cases r1
  exact call_int_bool ⟨.int (if k then 1 else 0),H,I.tok _,⟨_,rfl⟩,q⟩
end
structure ObjM (h:Heap) (x dx C:Addr) (mA:Str->Option Value):Prop where
 obj:h.get? x=some (PySem.W.instObj C dx)
 ns:h.Ns1 dx mA
 ne:dx≠x
theorem Ziy {h:Heap}{dx:Addr}{mA:Str->Option Value} (n:h.Ns1 dx mA):∃od,h.get? dx=some od/\∀name,PySem.W.lookIn name od=some (mA name):=by
 obtain⟨o,es,ep,ho,hd,hk,_,hm⟩:=n
 refine⟨o,ho,λname=>?_⟩
 have e:=hm name
 unfold nsFind findBy at e
 rw[<-Array.find?_toList]at e
 unfold PySem.W.lookIn
 rw[hd]
 dsimp only
 split
 ·rename_i y q
  rw[q]at e
  exact congrArg some e
 ·rename_i q
  rw[q]at e
  have a:es.toList.any (·.refKey)=false:=by
   rw[List.any_eq_false]
   intro y hy
   obtain⟨z,t,hkey⟩:=hk y (Array.mem_toList_iff.mp hy)
   simp[DictEntry.refKey,hkey]
  have a':¬ es.toList.any (·.refKey)=true:=by rw[a];exact Yr
  rw[Yb a']
  exact congrArg some e
theorem ObjM.look {h:Heap}{x dx C:Addr}{mA:Str->Option Value} (I:ObjM h x dx C mA):∃od,PySem.W.InstAt h x (PySem.W.instObj C dx) C (some od)/\∀name,PySem.W.lookIn name od=some (mA name) :=
 let ⟨od,ho,hl⟩:=Ziy I.ns
 ⟨od,⟨I.obj,rfl,rfl,ho⟩,hl⟩
section
variable {P:Program}{w:World}{H H':Hp}{h h':Heap}{a C dx:Addr}{fs fs':List (Str×V)}
theorem ZkE (hok:HOk P w H h) (e:H a=some (.ins C dx fs)):∃mA,ObjM h a dx C mA/\(∀f,RelO (fs.lookup f) (mA f))/\PySem.Within mA (fs.map (·.1))/\fs.length<=1000/\H dx=some (.own a):=by
 obtain⟨d,z,ne,ob,mA,n,r,q⟩:=(show Z8 P w H h a (.ins C dx fs)from hok a _ e)
 exact⟨mA,⟨ob,n,ne⟩,r,q,z,d⟩
end
structure Cls (K:PySem.W.Frag) (C:Addr):Prop where
 pg:PySem.W.plainGet K C Str.empty=true
 hd:PySem.W.hasDictIn K C=true
 po:PySem.W.plainOver K C=true
 sa:PySem.W.findIn K (.ref C) "__setattr__"=some (some (.builtin "object.__setattr__"))
theorem Cls.get {K:PySem.W.Frag}{C:Addr} (c:Cls K C) (f:Str):PySem.W.plainGet K C f=true:=c.pg
section
variable {X:Cx}{pins:List (Addr×Obj)}{σ:St}{H:Hp}{s:Shared}{A:Around}{E:Value->Shared->Prop}{Q:Value->Shared->Prop}{c:Value}{b:Bool}
inductive TyOf (K:PySem.W.Frag) (H:Hp):V->Value->Prop where
 |non:TyOf K H .non (.type "NoneType")
 |bl (x:Bool):TyOf K H (.bl x) (.type "bool")
 |int (i:Int):TyOf K H (.int i) (.type "int")
 |str (x:Str):TyOf K H (.str x) (.type "str")
 |flt (x:UInt64):TyOf K H (.flt x) (.type "float")
 |lst {a:Addr}{xs:List V} (e:H a=some (.lst xs)):TyOf K H (.ref a) (.type "list")
 |frz {a:Addr}{o:Obj}{xs:List V} (e:H a=some (.frz o (.lst xs))):TyOf K H (.ref a) (.type "list")
 |tup {a:Addr}{xs:List V} (e:H a=some (.tup xs)):TyOf K H (.ref a) (.type "tuple")
 |dK {a:Addr}{kvs:List (Key×V)} (e:H a=some (.dK kvs)):TyOf K H (.ref a) (.type "dict")
 |dT {a:Addr}{kvs:List (List Key×V)} (e:H a=some (.dT kvs)):TyOf K H (.ref a) (.type "dict")
 |ins {a C dx:Addr}{fs:List (Str×V)} (e:H a=some (.ins C dx fs)) (cl:Cls K C) (ha:PySem.W.findIn K (.ref C) "__class__"=some (some (.builtin "object.__class__")))
   (hn:PySem.W.specialIn K (.builtin "object.__class__") "__get__"=some (some (.builtin "getset_descriptor.__get__"))) (htk:PySem.W.takesIn K (.builtin "object.__class__")=some true)
   (hm:PySem.W.mroIn K C (.type "object")=some true):TyOf K H (.ref a) (.ref C)
theorem Ziz {x:V}{u t:Value} (I:Inv X pins σ H s) (rx:RelV x u) (ty:TyOf X.K H x t) (e:PySem.W.kitOne X.K t c=some b) (h:∀tk,Q (.bool b) {s with toks:=tk}) :
  wpAny (model X.prog X.w) A (call (.builtin "isinstance") [u,c]) Q E s:=by
 cases ty with
 |non=>cases(show u=Value.none from rx);exact PySem.W.kia_one PySem.W.kitx_none I.kIn True.intro e (λz=>nomatch z) h
 |bl y=>cases(show u=Value.bool y from rx);exact PySem.W.kia_one PySem.W.kitx_bool I.kIn True.intro e (λz=>nomatch z) h
 |int i=>obtain⟨t,q⟩:=(show ∃t,u=Value.int i t from rx);cases q;exact PySem.W.kia_one PySem.W.kitx_int I.kIn True.intro e (λz=>nomatch z) h
 |str y=>obtain⟨t,q⟩:=(show ∃t,u=Value.str y t from rx);cases q;exact PySem.W.kia_one PySem.W.kitx_str I.kIn True.intro e (λz=>nomatch z) h
 |flt y=>obtain⟨t,q⟩:=(show ∃t,u=Value.float y t from rx);cases q;exact PySem.W.kia_one PySem.W.kitx_float I.kIn True.intro e (λz=>nomatch z) h
 |@lst a xs ea =>
  cases(show u=Value.ref a from rx)
  obtain⟨_,_,n,_,h1⟩:=(show Z8 X.prog X.w H s.heap a (.lst xs)from I.hok a _ ea)
  exact PySem.W.kia_one PySem.W.kitx_list I.kIn ⟨_,h1,rfl⟩ e (λz=>nomatch z) h
 |@frz a ob xs ea =>
  cases(show u=Value.ref a from rx)
  obtain⟨_,_,_,n,_,h1⟩:=(show Z8 X.prog X.w H s.heap a (.frz ob (.lst xs))from I.hok a _ ea)
  exact PySem.W.kia_one PySem.W.kitx_list I.kIn ⟨_,h1,rfl⟩ e (λz=>nomatch z) h
 |@tup a xs ea =>
  cases(show u=Value.ref a from rx)
  obtain⟨_,_,_,p⟩:=(show Z8 X.prog X.w H s.heap a (.tup xs)from I.hok a _ ea)
  obtain⟨o,h1,h2,_⟩:=p
  exact PySem.W.kia_one PySem.W.kitx_tuple I.kIn ⟨o,h1,h2⟩ e (λz=>nomatch z) h
 |@dK a kvs ea =>
  cases(show u=Value.ref a from rx)
  obtain⟨_,_,vs,_,p⟩:=(show Z8 X.prog X.w H s.heap a (.dK kvs)from I.hok a _ ea)
  obtain⟨o,es,ep,h1,h2,_⟩:=p
  exact PySem.W.kia_one PySem.W.kitx_dict I.kIn ⟨o,h1,h2.1⟩ e (λz=>nomatch z) h
 |@dT a kvs ea =>
  cases(show u=Value.ref a from rx)
  obtain⟨_,_,xs,_,o,es,ep,h1,h2,_⟩:=(show Z8 X.prog X.w H s.heap a (.dT kvs)from I.hok a _ ea)
  exact PySem.W.kia_one PySem.W.kitx_dict I.kIn ⟨o,h1,h2.1⟩ e (λz=>nomatch z) h
 |@ins a C dx fs ea cl ha hn htk hm =>
  cases(show u=Value.ref a from rx)
  obtain⟨mA,O,_⟩:=ZkE I.hok ea
  obtain⟨od,J,_⟩:=O.look
  exact PySem.W.kia_one (PySem.W.kitx_own (cl.get _) cl.hd ha hn htk hm) I.kIn J e (λz=>nomatch z) h
end
structure Room (k:Nat) (A:Around):Prop where
 hd:A.handled=none
 dp:A.depth+3*k+5<recursionLimit
 un:A.units+16*k+200<cLine
theorem Room.mono {j k:Nat}{A:Around} (r:Room k A) (h:j<=k):Room j A:=⟨r.hd,by have:=r.dp;omega,by have:=r.un;omega⟩
theorem Room.deeper {k:Nat}{A:Around} (r:Room (k+1) A) (env:Env):Room k (A.deeper env) :=
 ⟨r.hd,by have:=r.dp;show A.depth+1+3*k+5 < _;omega,by have:=r.un;show A.units+3+16*k+200 < _;omega⟩
theorem Room.depth {k:Nat}{A:Around} (r:Room k A):A.depth<recursionLimit:=by have:=r.dp;omega
noncomputable def tNil:TA:=λ_ H Q=>Q [] H
noncomputable def Zjr (ta:TE) (tr:TA):TA:=fun σ H Q=>ta σ H λx H1=>tr σ H1 λxs H2=>Q (x::xs) H2
section
variable {X:Cx}{e:Expr}{es:List Expr}{te:TE}{t:TA}{pos:Pos}
theorem Zc:PA X [] tNil:=λ_ _ _ _ H Q I h=>Calls.spliced_nil ⟨[],H,I,.nil,h⟩
theorem Za (ha:PE X e te) (hr:PA X es t) (hs:starEach (e::es) X.env=(false,eval e X.env)::starEach es X.env:=by rfl):PA X (e::es) (Zjr te t):=by
 intro pos pins s σ H Q I h
 rw[hs]
 show wpAny _ _ (spliced ((false,eval e X.env)::backTo pos (starEach es X.env))) _ _ s
 refine Calls.spliced_cons (thn (ha pins s σ H _ I h) λu s1 ⟨x,H1,I1,r1,q1⟩=>?_)
 exact thn (hr pos pins s1 σ H1 _ I1 q1) λus s2 ⟨xs,H2,I2,r2,q2⟩=>⟨x::xs,H2,I2,.cons r1 r2,q2⟩
noncomputable def tTup (t:TA):TE:=fun σ H Q=>t σ H λxs H1=>xs.length<=sizeLine/\∀p,H1 p=none->Q (.ref p) (upd H1 p (.tup xs))
noncomputable def tLst (t:TA):TE:=fun σ H Q=>t σ H λxs H1=>xs.length<=sizeLine/\∀p,H1 p=none->Q (.ref p) (upd H1 p (.lst xs))
theorem ZdH {x1} (h:PA X es t):PE X (.Tuple es x1 pos) (tTup t):=by
 intro pins s σ H Q I hq
 refine wpAny_Tuple_spliced (thn (h pos pins s σ H _ I hq) λus s1 ⟨xs,H1,I1,r,z,q⟩=>⟨by rw[<-r.length];exact z,?_⟩)
 have hf:H1 s1.heap.objs.size=none:=I1.hok.fresh (Ye _)
 refine⟨.ref s1.heap.objs.size,upd H1 s1.heap.objs.size (.tup xs),I1.laid (t':=s1.toks) (λb u e=>Yi _ e) (Ye _) ?_,rfl,q _ hf⟩
 exact⟨z,us,r,⟨_,Yo _ rfl,rfl,_,rfl⟩⟩
theorem Z9 (h:PA X es t):PE X (.List es pos) (tLst t):=by
 intro pins s σ H Q I hq
 refine wpAny_List_spliced (thn (h pos pins s σ H _ I hq) λus s1 ⟨xs,H1,I1,r,z,q⟩=>⟨by rw[<-r.length];exact z,?_⟩)
 have hf:H1 s1.heap.objs.size=none:=I1.hok.fresh (Ye _)
 refine⟨.ref s1.heap.objs.size,upd H1 s1.heap.objs.size (.lst xs),I1.laid (t':=s1.toks) (λb u e=>Yi _ e) (Ye _) ?_,rfl,q _ hf⟩
 exact⟨z,us,0,r,Yo _ rfl⟩
end
noncomputable abbrev Sp:=List V->Hp->VK->XK->Prop
noncomputable abbrev CXT:=List Env->Hp->Shared->XK->Value->Shared->Prop
structure Env0 (P:Program) (w:World) (K:PySem.W.Frag) (mg:Str->Option Value) (base:Heap) (A:Around) (outer:List Env) (s:Shared) (H:Hp):Prop where
 frames:A.frames=some outer
 mod:Mod K mg base
 bs:∀b o,base.get? b=some o->s.heap.get? b=some o/\H b=none
 bsz:base.objs.size<=s.heap.objs.size
 funs:s.heap.FunFrames base outer
 frf:∀b∈frs outer,H b=none
 hok:HOk P w H s.heap
 bare:AllBare s.gens
noncomputable def CE (outer:List Env) (P:Program) (w:World) (H:Hp) (s:Shared) (Q:VK) (u:Value) (s':Shared):Prop :=
 ∃v H',s'.os=s.os/\AllBare s'.gens/\Un (frs outer) [] H H' s.heap s'.heap/\HOk P w H' s'.heap/\RelV v u/\Q v H'
noncomputable def CR (CX:CXT) (outer:List Env) (P:Program) (w:World) (H:Hp) (s:Shared) (Q:VK) (E:XK) (r:Result) (s':Shared):Prop :=
 match r with
 |.ok (.ret u)=>CE outer P w H s Q u s'
 |.ok _=>False
 |.error e=>CX outer H s E e s'
structure FnOk (P:Program) (w:World) (K:PySem.W.Frag) (mg:Str->Option Value) (base:Heap) (CX:CXT) (k:Nat) (f:Addr) (fd:FuncData) (ps:List Str) (sp:Sp):Prop where
 len:∀vs H Q E,sp vs H Q E->vs.length=ps.length
 run:∀(A:Around) (outer:List Env) (s:Shared) (H:Hp) (args:Args) (us:List Value) (vs:List V) (Q:VK) (E:XK),Room k A->Env0 P w K mg base A outer s H->BindsTo s fd args (ps.zip us)->Vals vs us->sp vs H Q E ->
  codeAny (model P w) A (.call (.ref f) args) (CR CX outer P w H s Q E) s
section
variable {X:Cx}{pins:List (Addr×Obj)}{σ:St}{H:Hp}{s s':Shared}
theorem Inv.env0 (I:Inv X pins σ H s):Env0 X.prog X.w X.K X.mg X.base X.A X.stack s H :=
 ⟨I.ok.frames,I.ok.mod,I.bs,Yj I.ok.bsz I.sz,I.stack,I.ZfF,I.hok,I.bare⟩
theorem Inv.after {Q:VK}{u:Value} (I:Inv X pins σ H s) (h:CE X.stack X.prog X.w H s Q u s'):EP X pins σ Q u s':=by
 obtain⟨v,H',os,bare,un,hok,r,q⟩:=h
 obtain⟨hh,g,d,t,os'⟩:=s'
 obtain rfl:os'=s.os:=os
 exact⟨v,H',I.call (h':=hh) (g':=g) (d':=d) (t':=t) (ch:=[]) un hok bare (λb z=>absurd z (by simp)),r,q⟩
end
noncomputable def Zjs (sp:Sp) (dvs:List V) (E:XK) (t:TA):TE:=fun σ H Q=>t σ H λvs H1=>sp (vs++dvs) H1 Q E
noncomputable def Binds (K:PySem.W.Frag) (fd:FuncData) (ps:List Str) (ds:List Value):Prop :=
 ∀(s:Shared) (us:List Value),K.In s.heap->(us++ds).length=ps.length->BindsTo s fd ⟨us,[]⟩ (ps.zip (us++ds))
theorem Binds.all {K:PySem.W.Frag}{fd:FuncData}{ps:List Str} (h:∀us:List Value,us.length=ps.length->bindArgs fd ⟨us,[]⟩=pure (ps.zip us)):Binds K fd ps []:=λs us _ hl=>by
 rw[List.append_nil]at hl⊢
 exact .of_eq (h us hl)
noncomputable def Passes (CX:CXT) (X:Cx) (E:XK):Prop:=∀(pins:List (Addr×Obj)) (σ:St) (H:Hp) (s:Shared) (e:Value) (s':Shared),Inv X pins σ H s->CX X.stack H s E e s'->X.xe e s'
section
variable {X:Cx}{CX:CXT}{k:Nat}{f C:Addr}{fd:FuncData}{ps:List Str}{sp:Sp}{dvs:List V}{ds:List Value}{E:XK}{x m:Str}{p pos apos:Pos}{e o:Expr}{es:List Expr}{ta:TE}{t:TA}
theorem run_fn {pins:List (Addr×Obj)}{σ:St}{H:Hp}{s:Shared}{Q:VK}{us:List Value}{vs:List V} (F:FnOk X.prog X.w X.K X.mg X.base CX k f fd ps sp) (hr:Room k X.A) (hb:Binds X.K fd ps ds) (hd:Vals dvs ds) (hx:Passes CX X E)
  (I:Inv X pins σ H s) (r:Vals vs us) (h:sp (vs++dvs) H Q E):wpAny (model X.prog X.w) X.A (call (.ref f) us) (EP X pins σ Q) X.xe s:=by
 have r2:Vals (vs++dvs) (us++ds):=r.append hd
 have hl:(us++ds).length=ps.length:=by rw[<-r2.length];exact F.len _ _ _ _ h
 refine wpAny_call (codeAny_mono (F.run X.A X.stack s H ⟨us,[]⟩ (us++ds) (vs++dvs) Q E hr I.env0 (hb s us I.kIn hl) r2 h) λr s' hq=>?_)
 cases r with
 |error e=>exact hx pins σ H s e s' I hq
 |ok fl =>
  cases fl with
  |ret u=>exact I.after hq
  |next=>exact False.elim hq
  |brk=>exact False.elim hq
  |cont=>exact False.elim hq
theorem ZkF (F:FnOk X.prog X.w X.K X.mg X.base CX k f fd ps sp) (hr:Room k X.A) (hg:Gl X x) (hm:X.mg x=some (.ref f)) (hk:PySem.W.keepIn X.K (.ref f)=true) (hb:Binds X.K fd ps ds) (hd:Vals dvs ds) (hx:Passes CX X E)
  (ha:PA X (e::es) t) (hdb:(x==("__debug__":Str))=false:=by decide) (he:starEach (e::es) X.env=(false,eval e X.env)::starEach es X.env:=by rfl) (hpl:(backTo pos (starEach es X.env)).any (·.1)=false:=by rfl) :
  PE X (.Call (.Name x p) (e::es) [] pos) (Zjs sp dvs E t):=by
 intro pins s σ H Q I h
 refine wpAny_Call_Name_kw (ZfG I hg hm ?_ hdb)
 refine PySem.W.callWith_K (h₀:=X.base) I.ok.mod.kin hk (thn (ha pos pins s σ H _ I h) λus s1 ⟨vs,H1,I1,r,q⟩=>⟨I1.kIn,?_⟩) he hpl
 exact run_fn F hr hb hd hx I1 r q
end
noncomputable def PK (X:Cx) (kws:List Keyword) (t:TA):Prop :=
 ∀(pos:Pos) (pins:List (Addr×Obj)) (s:Shared) (σ:St) (H:Hp) (Q:List V->Hp->Prop),Inv X pins σ H s->t σ H Q->wpAny (model X.prog X.w) X.A (evalAll ((backToKw pos (keywordEach kws X.env)).map (·.2))) (AP X pins σ Q) X.xe s
section
variable {X:Cx}{CX:CXT}{k:Nat}{f C:Addr}{fd:FuncData}{ps ks:List Str}{sp:Sp}{E:XK}{x m:Str}{p pos apos kpos:Pos}{e o:Expr}{es:List Expr}{kws:List Keyword}{te ta:TE}{t tk:TA}{nm:Option Str}
theorem Zho:PK X [] tNil:=λ_ _ _ _ H Q I h=>wpAny_evalAll_nil ⟨[],H,I,.nil,h⟩
theorem ZfM (ha:PE X e te) (hr:PK X kws t):PK X (⟨nm,e,kpos⟩::kws) (Zjr te t):=by
 intro pos pins s σ H Q I h
 show wpAny _ _ (evalAll ((do let v <-eval e X.env;standAt pos;pure v)::(backToKw pos (keywordEach kws X.env)).map (·.2))) _ _ s
 refine wpAny_evalAll_cons (Ya (thn (ha pins s σ H _ I h) λu s1 ⟨x,H1,I1,r1,q1⟩=>Ya (wpAny_standAt (Yd ?_))))
 exact thn (hr pos pins s1 σ H1 _ I1 q1) λus s2 ⟨xs,H2,I2,r2,q2⟩=>⟨x::xs,H2,I2,.cons r1 r2,q2⟩
variable {g:List Value->List Value->List Value}{gV:List V->List V->List V}
end
structure FnScope (N P:List Str) (sc:Scope):Prop where
 kind:sc.kind=.function
 co:sc.isCoroutine=false
 gen:sc.isGenerator=false
 nd:N.Nodup
 pre:N.take P.length=P
 par:∀x∈P,sc.names.lookup x=some .local\/sc.names.lookup x=some .cell
 nofree:∀y∈sc.names,y.2≠.free
theorem Zfg {kindOf:Str->Option NameKind}{x:Str}:∀{binds:List (Str×Value)}{m:Str->Option Value},(∀v,(x,v)∉binds)->bindL kindOf binds m x=m x
 |[],_,_=>rfl
 |(n,v)::r,m,h=>by
  unfold bindL
  rw[Zfg λw hw=>h w (YS _ hw)]
  split
  ·have:x≠n:=by rintro rfl;exact h v YX
   simp[this]
  ·rfl
theorem Zfh {kindOf:Str->Option NameKind}{x:Str}:∀{binds:List (Str×Value)}{m:Str->Option Value},(∀v,(x,v)∉binds)->bindC kindOf binds m x=m x
 |[],_,_=>rfl
 |(n,v)::r,m,h=>by
  unfold bindC
  rw[Zfh λw hw=>h w (YS _ hw)]
  split
  ·rfl
  ·have:x≠n:=by rintro rfl;exact h v YX
   simp[this]
theorem Zfi {kindOf:Str->Option NameKind}{x:Str}{v:Value}:∀{P:List Str}{vs:List Value}{i:Nat}{m:Str->Option Value},P.Nodup->P[i]?=some x->vs[i]?=some v->kindOf x=some .local ->
  bindL kindOf (P.zip vs) m x=some v
 |[],_,_,_,_,h,_,_=>by simp at h
 |_::_,[],_,_,_,_,h,_=>by simp at h
 |p::P,w::vs,0,m,nd,h1,h2,hk=>by
  simp at h1 h2;subst h1;subst h2
  show bindL kindOf ((p,w)::P.zip vs) m p=_
  unfold bindL
  rw[Zfg λv hv=>(List.nodup_cons.mp nd).1 (List.of_mem_zip hv).1,Yc hk]
  simp
 |p::P,w::vs,i+1,m,nd,h1,h2,hk=>by
  show bindL kindOf ((p,w)::P.zip vs) m x=_
  unfold bindL
  exact Zfi (i:=i) (List.nodup_cons.mp nd).2 (by simpa using h1) (by simpa using h2) hk
theorem Zfj {kindOf:Str->Option NameKind}{x:Str}{v:Value}:∀{P:List Str}{vs:List Value}{i:Nat}{m:Str->Option Value},P.Nodup->P[i]?=some x->vs[i]?=some v->kindOf x≠some .local ->
  bindC kindOf (P.zip vs) m x=some v
 |[],_,_,_,_,h,_,_=>by simp at h
 |_::_,[],_,_,_,_,h,_=>by simp at h
 |p::P,w::vs,0,m,nd,h1,h2,hk=>by
  simp at h1 h2;subst h1;subst h2
  show bindC kindOf ((p,w)::P.zip vs) m p=_
  unfold bindC
  rw[Zfh λv hv=>(List.nodup_cons.mp nd).1 (List.of_mem_zip hv).1,Yb hk]
  simp
 |p::P,w::vs,i+1,m,nd,h1,h2,hk=>by
  show bindC kindOf ((p,w)::P.zip vs) m x=_
  unfold bindC
  exact Zfj (i:=i) (List.nodup_cons.mp nd).2 (by simpa using h1) (by simpa using h2) hk
noncomputable def start (N:List Str) (vs:List V):St:=vs.map some++List.replicate (N.length-vs.length) none
noncomputable def Zei (CX:CXT) (P:Program) (w:World) (K:PySem.W.Frag) (mg:Str->Option Value) (base:Heap) (N:List Str) (qual:Str) (scope:Scope) (f:Addr) (cd:Value) (A:Around) (outer:List Env) (s:Shared) (H:Hp) (E:XK):Cx where
 prog:=P
 w:=w
 K:=K
 mg:=mg
 base:=base
 A:=A.deeper (envOfC qual scope s.heap.objs.size f cd)
 N:=N
 s₀:=s
 H₀:=H
 env:=envOfC qual scope s.heap.objs.size f cd
 outer:=outer
 stack:=envOfC qual scope s.heap.objs.size f cd::outer
 ex:=[]
 calm:=true
 fn:=λ_=>true
 pn:=[]
 xe:=λe s'=>wpAny (model P w) (A.deeper (envOfC qual scope s.heap.objs.size f cd)) (leaving (envOfC qual scope s.heap.objs.size f cd) e) (λ_ s''=>CX outer H s E e s'') (λe' s''=>CX outer H s E e' s'') s'
theorem Zgt {sc:Scope}{n:Nat}{x:Str} (h:sc.names.lookup x=some .cell):∃c,(cellsFrom n sc.names []).lookup x=some c:=by
 have q:=PySem.W.cellsFrom_some sc.names n [] (.inl h)
 exact Option.isSome_iff_exists.mp q
theorem ZiA {CX:CXT}{P:Program}{w:World}{K:PySem.W.Frag}{mg:Str->Option Value}{base:Heap}{N ps:List Str}{qual:Str}{scope:Scope}{f:Addr}{cd:Value}{A:Around}{outer:List Env}{s s1:Shared}{H:Hp}{E:XK}{us:List Value}{vs:List V}
  (S:FnScope N ps scope) (hd:A.handled=none) (e0:Env0 P w K mg base A outer s H) (hl:vs.length=ps.length) (r:Vals vs us)
  (x:InCallC s s.heap.objs.size (bindL (envOfC qual scope s.heap.objs.size f cd).kindOf (ps.zip us) λ_=>none) (cellsFrom (s.heap.objs.size+1) scope.names []) (bindC (envOfC qual scope s.heap.objs.size f cd).kindOf (ps.zip us) λ_=>none) s1) :
  Inv (Zei CX P w K mg base N qual scope f cd A outer s H E) [] (start N vs) H s1:=by
 have hpl:ps.length<=N.length:=by have:=congrArg List.length S.pre;rw[YT]at this;omega
 obtain⟨h1,tk,rfl,hk⟩:=x.done
 have noA:∀b:Addr,b∉(Zei CX P w K mg base N qual scope f cd A outer s H E).ex:=λb z=>absurd (show b∈([]:List Addr)from z) (by simp)
 refine⟨⟨e0.mod,S.kind,rfl,rfl,Ye _,λy z c h1 h2=>?_,λy hy=>?_,λy c _ h=>?_,λ_=>hd,Around.frames_deeper e0.frames,.inr ⟨rfl,rfl⟩,λb z=>absurd z (noA b),e0.bs,e0.bsz,λb _ _=>noA b,λb z=>absurd z (noA b),e0.funs,e0.frf⟩,
  rfl,e0.bare,Un.kept hk,⟨_,x.toInCall.ns,λi y v h1 h2 h3=>?_⟩,λy c h=>⟨_,x.cell y c h⟩,e0.hok.fresh (Ye _),λy c h=>?_,λp hp=>absurd (show p∈([]:List (Addr×Obj))from hp) (by simp),e0.hok.kept hk,?_⟩
 ·exact name_of_addr x.apart (PySem.mem_of_lookup h1) (PySem.mem_of_lookup h2)
 ·have hy:scope.names.lookup y=some .cell\/scope.names.lookup y=some .free:=hy
  rcases hy with hy|hy
  ·exact Zgt hy
  ·exact absurd rfl (S.nofree _ (PySem.mem_of_lookup hy))
 ·exact YK (x.above y c (PySem.mem_of_lookup h))
 ·have hi:i<vs.length:=by
   unfold start at h2
   by_cases hi:i<vs.length
   ·exact hi
   ·rw[YM (by simpa using hi)]at h2
    rw[List.getElem?_replicate]at h2
    split at h2<;>cases h2
  have ha:vs[i]?=some v:=by
   unfold start at h2
   rw[YO (by simpa using hi),YA]at h2
   cases e:vs[i]? with
   |none=>rw[e]at h2;cases h2
   |some a=>rw[e]at h2;cases h2;rfl
  obtain⟨u,hu,rv⟩:=r.get ha
  have hp:ps[i]?=some y:=by
   rw[<-S.pre,List.getElem?_take_of_lt (by omega)];exact h1
  have ndP:ps.Nodup:=by rw[<-S.pre];exact S.nd.sublist (List.take_sublist _ _)
  refine⟨u,rv,?_⟩
  rcases S.par y (List.mem_of_getElem? hp)with k|k
  ·exact .inl ⟨k,Zfi ndP hp hu k⟩
  ·obtain⟨c,e⟩:=Zgt (n:=s.heap.objs.size+1) k
   refine .inr ⟨.inl k,c,e,?_⟩
   have q:=x.cell y c e
   rw[Zfj ndP hp hu (by show scope.names.lookup y≠_;rw[k];decide)]at q
   exact q
 ·exact e0.hok.fresh (YK (x.above y c (PySem.mem_of_lookup h)))
 ·unfold start
  show _=N.length
  rw[Yt,Yh,List.length_replicate]
  omega
theorem fn_of {CX:CXT}{P:Program}{w:World}{K:PySem.W.Frag}{mg:Str->Option Value}{base:Heap}{k:Nat}{f:Addr}{name qual:Str}{params:Arguments}{body:List Stmt}{scope:Scope}{dV kV doc pm cdv ct oc:Value}{an od:Option Addr}
  {osl:Array (Option Value)}{N ps:List Str}{sp:Sp} (lk:K.lookup f=some ⟨oc,od,.func (PySem.W.fnOf name qual params body scope dV kV doc pm an cdv ct),osl⟩) (hcd:PySem.W.codeIn K cdv qual=true) (S:FnScope N ps scope)
  (len:∀vs H Q E,sp vs H Q E->vs.length=ps.length)
  (hbody:∀(A:Around) (outer:List Env) (s:Shared) (H:Hp) (vs:List V) (Q:VK) (E:XK),Room k (A.deeper (envOfC qual scope s.heap.objs.size f cdv))->sp vs H Q E ->
   ∃t,PSs (Zei CX P w K mg base N qual scope f cdv A outer s H E) body t/\t {nx:=λ_ H'=>Q .non H',rt:=Q} (start N vs) H) :
  FnOk P w K mg base CX (k+1) f (PySem.W.fnOf name qual params body scope dV kV doc pm an cdv ct) ps sp:=by
 refine⟨len,λA outer s H args us vs Q E hr e0 hb r hsp=>?_⟩
 have hl:=len _ _ _ _ hsp
 have KX:K.In s.heap:=e0.mod.kin.keeps λb o e=>(e0.bs b o e).1
 have lim:s.heap.NoLimit:=e0.mod.nolimit.keeps λb o e=>(e0.bs b o e).1
 have hkind:∀y∈ps.zip us,scope.names.lookup y.1=some .local\/(scope.names.lookup y.1=some .cell/\((cellsFrom (s.heap.objs.size+1) scope.names []).lookup y.1).isSome=true):=λ⟨n,v⟩ hy=>by
  rcases S.par n (List.of_mem_zip hy).1 with q|q
  ·exact .inl q
  ·exact .inr ⟨q,PySem.W.cellsFrom_some _ _ _ (.inl q)⟩
 refine codeAny_call_function hr.depth (KX _ _ lk) rfl S.co S.gen rfl (PySem.W.codeRec_of KX hcd) (hb _ _ _ _ ?_)
 refine wpAny_newFunctionEnv_cells S.kind hkind λenv he s1 x=>?_
 subst he
 refine⟨lim.keeps x.toInCall.keep,codeAny_func ?_⟩
 obtain⟨t,ht,hq⟩:=hbody A outer s H vs Q E (hr.deeper _) hsp
 have I:Inv (Zei CX P w K mg base N qual scope f cdv A outer s H E) [] (start N vs) H s1:=ZiA S hr.hd e0 hl r x
 refine YE (ht [] s1 (start N vs) H _ I hq) (λfl s' hs=>?_) λe s' hs=>hs
 have fin:∀{σ':St}{H':Hp}{v:V}{u:Value},Inv (Zei CX P w K mg base N qual scope f cdv A outer s H E) [] σ' H' s'->RelV v u->Q v H'->CE outer P w H s Q u s' :=
  λ{σ' H' v u} J rv q=>⟨v,H',J.os,J.bare,J.base,J.hok,rv,q⟩
 cases fl with
 |ret u =>
  obtain⟨v,σ',H',J,rv,q⟩:=hs
  exact fin J rv q
 |next =>
  obtain⟨σ',H',J,q⟩:=hs
  exact fin (v:=V.non) (u:=Value.none) J rfl q
 |brk =>
  obtain⟨_,_,_,q⟩:=hs
  exact False.elim q
 |cont =>
  obtain⟨_,_,_,q⟩:=hs
  exact False.elim q
section
variable {X:Cx}{x:Str}{p pos:Pos}{e:Expr}{es:List Expr}{t:TA}{id T:String}{r:List V->Hp->VK->Prop}
noncomputable def tCB (r:List V->Hp->VK->Prop) (t:TA):TE:=fun σ H Q=>t σ H λvs H1=>r vs H1 Q
theorem Zn (hc:ZbD X (.builtin id) r) (hg:Gl X x) (hm:X.mg x=none) (hv:bootBuiltins x=some (.builtin id)) (ha:PA X (e::es) t) (hn:x≠"__name__":=by decide) (hdb:(x==("__debug__":Str))=false:=by decide)
  (he:starEach (e::es) X.env=(false,eval e X.env)::starEach es X.env:=by rfl) (hpl:(backTo pos (starEach es X.env)).any (·.1)=false:=by rfl):PE X (.Call (.Name x p) (e::es) [] pos) (tCB r t):=by
 intro pins s σ H Q I h
 refine wpAny_Call_Name_kw (Za6 I hg hm hv ?_ hn hdb)
 exact PyProof.Rows.callWith_builtin1 (thn (ha pos pins s σ H _ I h) λus s1 ⟨vs,H1,I1,r1,q1⟩=>hc pins s1 σ H1 vs us Q I1 r1 q1) he hpl
theorem ZcI (hc:ZbD X (.type T) r) (hg:Gl X x) (hm:X.mg x=none) (hv:bootBuiltins x=some (.type T)) (ha:PA X (e::es) t) (hn:x≠"__name__":=by decide) (hdb:(x==("__debug__":Str))=false:=by decide)
  (he:starEach (e::es) X.env=(false,eval e X.env)::starEach es X.env:=by rfl) (hpl:(backTo pos (starEach es X.env)).any (·.1)=false:=by rfl):PE X (.Call (.Name x p) (e::es) [] pos) (tCB r t):=by
 intro pins s σ H Q I h
 refine wpAny_Call_Name_kw (Za6 I hg hm hv ?_ hn hdb)
 exact PyProof.Rows.callWith_type1 (thn (ha pos pins s σ H _ I h) λus s1 ⟨vs,H1,I1,r1,q1⟩=>hc pins s1 σ H1 vs us Q I1 r1 q1) he hpl
end
end L2
namespace HT
open PySem PyProof.Rows
section
open PySem.SeqAt
open PySem.AutoSeq1 (wpAny_loadPart')
open PySem.MeetsSeq PySem.MeetsSeq2 PySem.MeetsSeq3
end
section
variable {prog:Program}{w:World}{A:Around}{E:Value->Shared->Prop}{s:Shared}
theorem ZkG {t b:Addr}{vs ws:List Value}{Q:Value->Shared->Prop} (ht:IsTup s.heap t vs.toArray) (hb:IsTup s.heap b ws.toArray) (hv:vs≠[])
  (h1:ws=[]->Q (.ref t) s) (h2:ws≠[]->Q (.ref s.heap.objs.size) {s with heap:=s.heap.push {cls:=.type "tuple",data:=.seq (vs++ws).toArray}})
  (hsz:vs.length+ws.length<=sizeLine):wpAny (model prog w) A (binaryOp .Add (.ref t) (.ref b)) Q E s:=by
 obtain⟨⟨cls,dd,data,sl⟩,ho,hc,n,hd⟩:=id ht
 obtain⟨⟨cls2,dd2,data2,sl2⟩,ho2,hc2,n2,hd2⟩:=id hb
 simp only at hc hd hc2 hd2
 subst hc hd hc2 hd2
 have e:vs.toArray++ws.toArray=(vs++ws).toArray:=by simp
 by_cases hw:ws=[]
 ·exact concat_meets ⟨_,ho,rfl⟩ ⟨_,ho2,rfl⟩ noFill_tuple_add seq_tuple_add PySem.F.slot_tuple_add PySem.F.entry_tuple_add (PySem.F.args_tuple_add_2 _ _)
   (tuple_addW1 t b vs.toArray ws.toArray n n2 dd dd2 sl sl2 (by simpa using hv) (by simp[hw])) ⟨ho,ho2,h1 hw⟩
 ·refine concat_meets ⟨_,ho,rfl⟩ ⟨_,ho2,rfl⟩ noFill_tuple_add seq_tuple_add PySem.F.slot_tuple_add PySem.F.entry_tuple_add (PySem.F.args_tuple_add_2 _ _)
   (tuple_addW2 t b vs.toArray ws.toArray n n2 dd dd2 sl sl2 (by simpa using hv) (by simpa using hw) (by rw[Yk,Yk];exact hsz)) ⟨ho,ho2,?_⟩
  rw[e]
  exact h2 hw
noncomputable def sIx (n d:Nat):Option Int->Nat
 |none=>d
 |some v=>if v<0 then (v+(n:Int)).toNat else min v.toNat n
theorem sIx_le (n d:Nat) (hd:d<=n) (o:Option Int):sIx n d o<=n:=by
 cases o with
 |none=>exact hd
 |some v =>
  show(if v<0 then (v+(n:Int)).toNat else min v.toNat n)<=n
  by_cases hv:v<0
  ·rw[Yc hv];omega
  ·rw[Yb hv];exact Nat.min_le_right _ _
theorem Zh2 (v:Int) (n d:Nat):(if v<0 then max (v+(n:Int)) 0 else min v (n:Int))=((sIx n d (some v):Nat):Int):=by
 show(if v<0 then max (v+(n:Int)) 0 else min v (n:Int))=(((if v<0 then (v+(n:Int)).toNat else min v.toNat n):Nat):Int)
 by_cases hv:v<0
 ·simp only[Yc hv];omega
 ·simp only[Yb hv];omega
theorem Zhp (lo hi:Option Int) (n:Nat):Builtin.Slice.sliceAdjust lo hi 1 (n:Int)=(((sIx n 0 lo:Nat):Int),((sIx n n hi:Nat):Int)):=by
 have h1:¬ ((1:Int)<0):=by omega
 unfold Builtin.Slice.sliceAdjust
 simp only[h1,if_false]
 refine Prod.ext ?_ ?_
 ·cases lo with
  |none=>rfl
  |some v=>exact Zh2 v n 0
 ·cases hi with
  |none=>rfl
  |some v=>exact Zh2 v n n
theorem Zhq (i j:Nat):Builtin.Slice.slicePlaces (i:Int) (j:Int) 1=j-i:=by
 unfold Builtin.Slice.slicePlaces
 have h1:(1:Int)>0:=by omega
 simp only[h1,if_true,Int.ediv_one]
 split<;>omega
theorem Zew {v:Value}{o:Option Int}{Q:Option Int->Shared->Prop} (p:IsPart v o) (h:Q o s):wpAny (model prog w) A (Builtin.Slice.slicePartIndex v) Q E s:=by
 cases p with
 |none=>exact slicePart_none h
 |int i t=>exact slicePart_int h
theorem ZbE {sl:Addr}{vl vu:Value}{lo hi:Option Int}{n:Nat}{Q:Int×Int×Nat->Shared->Prop} (hs:s.heap.IsSliceOf sl vl vu .none) (pl:IsPart vl lo) (pu:IsPart vu hi)
  (h:Q (((sIx n 0 lo:Nat):Int),1,sIx n n hi-sIx n 0 lo) s):wpAny (model prog w) A (Builtin.Slice.sliceApplied (.ref sl) (pure (n:Int))) Q E s:=by
 obtain⟨os,hos,hcs,hds⟩:=id hs
 unfold Builtin.Slice.sliceApplied Builtin.Slice.sliceFields
 refine Ya (Ya (wpAny_field hos hds (x:=vl) rfl (Ya (wpAny_field hos hds (x:=vu) rfl (Ya (wpAny_field hos hds (x:=.none) rfl (Yd ?_)))))))
 refine Ya (slicePart_none ?_)
 show wpAny _ _ (if ((1:Int)==0)=true then _ else _) _ _ s
 rw[Yb (by decide)]
 refine Ya (Zew pl (Ya (Zew pu (Ya (Yd ?_)))))
 show wpAny _ _ (match Builtin.Slice.sliceAdjust lo hi 1 (n:Int)with|(lo,hi)=>pure (lo,(1:Int),Builtin.Slice.slicePlaces lo hi 1)) _ _ s
 rw[Zhp lo hi n]
 show wpAny _ _ (pure (((sIx n 0 lo:Nat):Int),(1:Int),Builtin.Slice.slicePlaces ((sIx n 0 lo:Nat):Int) ((sIx n n hi:Nat):Int) 1)) _ _ s
 rw[Zhq]
 exact Yd h
theorem Zjt (xs:Array Value) (i k:Nat):((List.range k).filterMap λ(m:Nat)=>xs[((i:Int)+(m:Int)*1).toNat]?).toArray=((xs.toList.drop i).take k).toArray:=by
 have e:(λ(m:Nat)=>xs[((i:Int)+(m:Int)*1).toNat]?)=λm=>xs[i+m]?:=by
  funext m
  have:((i:Int)+(m:Int)*1).toNat=i+m:=by omega
  rw[this]
 rw[e]
 have:=pick_run xs i k
 rw[List.filterMap_map]at this
 have e2:((λx=>xs[x]?) ∘ λx=>i+x)=λm=>xs[i+m]?:=rfl
 rw[e2]at this
 rw[this]
theorem Zdl {t sl:Addr}{items:Array Value}{vl vu:Value}{lo hi:Option Int}{Q:Value->Shared->Prop} (ht:IsTup s.heap t items) (hs:s.heap.IsSliceOf sl vl vu .none) (pl:IsPart vl lo) (pu:IsPart vu hi)
  (hw:¬ (sIx items.size 0 lo=0/\sIx items.size items.size hi=items.size))
  (h:Q (.ref s.heap.objs.size) {s with heap:=s.heap.push {cls:=.type "tuple",data:=.seq ((items.toList.drop (sIx items.size 0 lo)).take (sIx items.size items.size hi-sIx items.size 0 lo)).toArray}})
  (hsz:items.size<=sizeLine):wpAny (model prog w) A (getItem (.ref t) (.ref sl)) Q E s:=by
 have htake:sizeOk (.seq ((items.toList.drop (sIx items.size 0 lo)).take (sIx items.size items.size hi-sIx items.size 0 lo)).toArray):=by
  show((items.toList.drop (sIx items.size 0 lo)).take (sIx items.size items.size hi-sIx items.size 0 lo)).toArray.size<=sizeLine
  rw[Yk,YT,YU,YL]
  omega
 have hj:sIx items.size items.size hi<=items.size:=sIx_le _ _ (Ye _) hi
 obtain⟨os,hos,hcs,hds⟩:=id hs
 have hTs:s.TypeIs (.ref sl) "slice":=⟨os,hos,hcs⟩
 unfold getItem
 try with_reducible refine wpAny_holding ?_
 first|refine Ya (Yd ?_)|skip
 refine Ya (wpAny_sequenceKey ht.typeIs (by decide) ?_)
 refine Ya (wpAny_callSpecial?_slot (name:=Str.ofString "__getitem__") ht.typeIs PyProof.Rows.slot_tuple_getitem
  (wpAny_call_entry PyProof.Rows.slot_tuple_getitem ht.typeIs entry_tuple_getitem ?_ (args_tuple_getitem _ _)))
 show wpAny _ _ (Builtin.Tuple.tupleItemsOf (.ref t) >>= _) _ _ s
 refine Ya (tupleItemsOf_ ht ?_)
 refine Ya (wpAny_typeOf hTs ?_)
 rw[Yc (by decide)]
 refine Ya (ZbE hs pl pu ?_)
 have hno:¬ ((((sIx items.size 0 lo:Nat):Int)==0&&(1:Int)==1&&(sIx items.size items.size hi-sIx items.size 0 lo)==items.size)=true):=by
  intro q
  rw[Bool.and_eq_true,Bool.and_eq_true]at q
  have q1:((sIx items.size 0 lo:Nat):Int)=0:=eq_of_beq q.1.1
  have q2:sIx items.size items.size hi-sIx items.size 0 lo=items.size:=eq_of_beq q.2
  exact hw ⟨by omega,by omega⟩
 show wpAny _ _ (if (((sIx items.size 0 lo:Nat):Int)==0&&(1:Int)==1&&(sIx items.size items.size hi-sIx items.size 0 lo)==items.size)=true then _ else _) _ _ s
 rw[Yb hno,Zjt]
 first
  |exact Ya (m:=Builtin.Tuple.tupleExact _) (wpAny_newObj_type (Yd ⟨_,rfl,Yd h⟩) htake)
  |exact Ya (m:=Builtin.Tuple.tupleExact _) (wpAny_newObj_type (Ya (Yd (Yd ⟨_,rfl,Yd h⟩))) htake)
  |exact Ya (Ya (m:=Builtin.Tuple.tupleExact _) (wpAny_newObj_type (Yd (Yd ⟨_,rfl,Yd h⟩)) htake))
  |exact Ya (Ya (m:=Builtin.Tuple.tupleExact _) (wpAny_newObj_type (Yd ⟨_,rfl,Yd h⟩) htake))
end
end HT
namespace L2
open PySem PySem.Spec PyProof.Rows
noncomputable abbrev TO:=St->Hp->(Option Int->Hp->Prop)->Prop
noncomputable def PO (X:Cx) (e:Option Expr) (t:TO):Prop :=
 ∀(pins:List (Addr×Obj)) (s:Shared) (σ:St) (H:Hp) (Q:Option Int->Hp->Prop),Inv X pins σ H s->t σ H Q ->
  wpAny (model X.prog X.w) X.A (evalPart e X.env) (λu s'=>∃o H',Inv X pins σ H' s'/\IsPart u o/\Q o H') X.xe s
noncomputable def Zh3:TO:=λ_ H Q=>Q none H
noncomputable def tPart (t:TE):TO:=fun σ H Q=>t σ H λx H1=>∃i,x=.int i/\Q (some i) H1
theorem intsAre_of {ns:List Int}:∀{us:List Value},Vals (ns.map V.int) us->IntsAre us ns:=by
 induction ns with
 |nil=>intro us r;rw[List.map_nil]at r;cases r;exact .nil
 |cons n ns ih =>
  intro us r
  rw[YV]at r
  cases r with
  |cons r1 r2 =>
   obtain⟨t,e⟩:=r1
   subst e
   exact .cons n t (ih r2)
section
variable {X:Cx}{e:Expr}{te:TE}{lo hi:Option Expr}{tl th:TO}{pos p2:Pos}
theorem ZfN:PO X none Zh3:=by
 intro pins s σ H Q I h
 rw[evalPart_none]
 exact Yd ⟨none,H,I,.none,h⟩
theorem ZfO (h:PE X e te):PO X (some e) (tPart te):=by
 intro pins s σ H Q I hw
 rw[evalPart_some]
 refine thn (h pins s σ H _ I hw) λu s1 ⟨x,H1,I1,r1,q1⟩=>?_
 obtain⟨i,rfl,q⟩:=q1
 obtain⟨t,rfl⟩:=r1
 exact⟨some i,H1,I1,.int i t,q⟩
noncomputable def SlR (X:Cx) (r:V->Option Int->Option Int->Hp->VK->Prop):Prop :=
 ∀(pins:List (Addr×Obj)) (s:Shared) (σ:St) (H:Hp) (x:V) (v vl vu:Value) (lo hi:Option Int) (sl:Addr) (Q:VK),Inv X pins σ H s->RelV x v->s.heap.IsSliceOf sl vl vu .none->IsPart vl lo->IsPart vu hi->r x lo hi H Q ->
  ∃T id,typeLookup (.type T) "__getitem__"=pure (some (.builtin id))/\s.TypeIs v T/\wpAny (model X.prog X.w) X.A (getItem v (.ref sl)) (EP X pins σ Q) X.xe s
noncomputable def tSl (r:V->Option Int->Option Int->Hp->VK->Prop) (te:TE) (tl th:TO):TE:=fun σ H Q=>te σ H λx H1=>tl σ H1 λl H2=>th σ H2 λu H3=>r x l u H3 Q
theorem Zex {r:V->Option Int->Option Int->Hp->VK->Prop} (hr:SlR X r) (he:PE X e te) (hl:PO X lo tl) (hu:PO X hi th):PE X (.Subscript e (.Slice lo hi none p2) pos) (tSl r te tl th):=by
 intro pins s σ H Q I h
 refine Subscript_ (thn (he pins s σ H _ I h) λv s1 ⟨x,H1,I1,r1,q1⟩=>?_)
 refine wpAny_Slice (thn (hl pins s1 σ H1 _ I1 q1) λvl s2 ⟨l,H2,I2,pl,q2⟩=>thn (hu pins s2 σ H2 _ I2 q2) λvu s3 ⟨u,H3,I3,pu,q3⟩=>?_)
 rw[evalPart_none]
 refine Yd ?_
 have I4:Inv X pins σ H3 {s3 with heap:=s3.heap.push {cls:=.type "slice",data:=.fields #[vl,vu,.none]}}:=I3.kept (t':=s3.toks) λb ob q=>Yi _ q
 obtain⟨T,id,hT,ht,hg⟩:=hr pins {s3 with heap:=s3.heap.push {cls:=.type "slice",data:=.fields #[vl,vu,.none]}} σ H3 x v vl vu l u s3.heap.objs.size Q I4 r1 (Heap.IsSliceOf.new ..) pl pu q3
 show wpAny (model X.prog X.w) X.A (subscriptTail e (.Slice lo hi none p2) v (.ref s3.heap.objs.size)) (EP X pins σ Q) X.xe {s3 with heap:=s3.heap.push {cls:=.type "slice",data:=.fields #[vl,vu,.none]}}
 exact tail_any (ops:=[.ref s3.heap.objs.size,v]) ht hT hg (by with_unfolding_all rfl)
noncomputable def Zbr (xs:List V) (lo hi:Option Int):List V:=(xs.drop (HT.sIx xs.length 0 lo)).take (HT.sIx xs.length xs.length hi-HT.sIx xs.length 0 lo)
theorem ZaU (xs:List V) (lo hi:Option Int):(Zbr xs lo hi).length<=xs.length:=by
 unfold Zbr
 rw[YT,YU]
 omega
noncomputable def rSlT (K:PySem.W.Frag):V->Option Int->Option Int->Hp->VK->Prop:=λx lo hi H Q=>∃a xs,x=.ref a/\SqT K H a xs /\
 ¬ (HT.sIx xs.length 0 lo=0/\HT.sIx xs.length xs.length hi=xs.length)/\∀p,H p=none->Q (.ref p) (upd H p (.tup (Zbr xs lo hi)))
theorem sl_tup:SlR X (rSlT X.K):=by
 intro pins s σ H x v vl vu lo hi sl Q I rx hs pl pu h
 obtain⟨a,xs,rfl,hx,hw,q⟩:=h
 cases rx
 obtain⟨its,r,ht,hz⟩:=I.tuple hx
 have hlen:its.toArray.size=xs.length:=by rw[Yk];exact r.length.symm
 refine⟨"tuple",_,PyProof.Rows.slot_tuple_getitem.lookup,ht.typeIs,?_⟩
 refine HT.Zdl ht hs pl pu (by rw[hlen];exact hw) ?_ (by rw[hlen];exact hz)
 rw[hlen]
 refine⟨.ref s.heap.objs.size,_,I.laid (t':=s.toks) (o:=.tup (Zbr xs lo hi)) (λb ob q=>Yi _ q) (Ye _) ?_,rfl,q _ (I.hok.fresh (Ye _))⟩
 exact⟨Yj (ZaU xs lo hi) hz,_,(r.drop (HT.sIx xs.length 0 lo)).take (HT.sIx xs.length xs.length hi-HT.sIx xs.length 0 lo),IsTup.new _ _⟩
theorem Vals.ZfP {xs:List V}{us:List Value} (r:Vals xs us):us=[]↔xs=[]:=by
 cases r with
 |nil=>simp
 |cons _ _=>simp
end
noncomputable def ixN (n:Nat) (i:Int):Option Nat:=if 0<=i then (if i<n then some i.toNat else none)else if -(n:Int)<=i then some (i+n).toNat else none
noncomputable def atI {α:Type} (xs:List α) (i:Int):Option α:=(ixN xs.length i).bind λj=>xs[j]?
theorem Zh4 {n:Nat}{i:Int}{j:Nat} (h:ixN n i=some j):seqIndex? i n=some j/\j<n/\-(n:Int)<=i/\i<n:=by
 unfold ixN at h
 by_cases h0:0<=i
 ·rw[Yc h0]at h
  by_cases h1:i<n
  ·rw[Yc h1]at h
   have e:i.toNat=j:=Yw h
   exact⟨by rw[seqIndex_of h0 h1,e],by omega,by omega,h1⟩
  ·rw[Yb h1]at h;cases h
 ·rw[Yb h0]at h
  by_cases h1:-(n:Int)<=i
  ·rw[Yc h1]at h
   have e:(i+n).toNat=j:=Yw h
   exact⟨by rw[seqIndex_neg (by omega) h1,e],by omega,h1,by omega⟩
  ·rw[Yb h1]at h;cases h
theorem Zh5 {α:Type}{xs:List α}{i:Int}{v:α} (h:atI xs i=some v):∃j,seqIndex? i xs.length=some j/\xs[j]?=some v/\j<xs.length/\-(xs.length:Int)<=i/\i<xs.length:=by
 unfold atI at h
 cases e:ixN xs.length i with
 |none=>rw[e]at h;cases h
 |some j =>
  rw[e]at h
  obtain⟨h1,h2,h3,h4⟩:=Zh4 e
  exact⟨j,h1,h,h2,h3,h4⟩
theorem ZkH {α:Type}{xs:List α}{j:Nat}{v:α} (h:xs[j]?=some v):atI xs (j:Int)=some v:=by
 have hj:j<xs.length:=(Yn.mp h).1
 have e:ixN xs.length (j:Int)=some j:=by
  unfold ixN
  rw[Yc (by omega),Yc (by omega)];simp
 unfold atI;rw[e];exact h
noncomputable def ZkI (b:Expr):Prop:=∀o i,subscripted b false o i=operate [o,i] (getItem o i)
noncomputable def IxR (X:Cx) (r:R2):Prop :=
 ∀(value slice:Expr) (pins:List (Addr×Obj)) (s:Shared) (σ:St) (H:Hp) (x y:V) (v u:Value) (Q:VK),Inv X pins σ H s->RelV x v->RelV y u->r x y H Q ->
  subscripted slice false v u=operate [v,u] (getItem v u)->wpAny (model X.prog X.w) X.A (subscriptTail value slice v u) (EP X pins σ Q) X.xe s
noncomputable def MtR (X:Cx) (id:String) (r:V->List V->Hp->VK->Prop):Prop :=
 ∀(pins:List (Addr×Obj)) (s:Shared) (σ:St) (H:Hp) (x:V) (xs:List V) (v:Value) (us:List Value) (Q:VK),Inv X pins σ H s->RelV x v->Vals xs us->r x xs H Q ->
  wpAny (model X.prog X.w) X.A (call (.builtin id) (v::us)) (EP X pins σ Q) X.xe s
section
variable {X:Cx}{a b:Expr}{ta tb:TE}{pos:Pos}
theorem IxR.or {r r':R2} (h:IxR X r) (h':IxR X r'):IxR X (λx y H Q=>r x y H Q\/r' x y H Q):=by
 intro value slice pins s σ H x y v u Q I rx ry q hs
 rcases q with q|q
 ·exact h value slice pins s σ H x y v u Q I rx ry q hs
 ·exact h' value slice pins s σ H x y v u Q I rx ry q hs
theorem ZM {r:R2} (hr:IxR X r) (ha:PE X a ta) (hb:PE X b tb) (hs:ZkI b):PE X (.Subscript a b pos) (tOp r ta tb):=by
 intro pins s σ H Q I h
 exact Subscript_ (binT ha hb I h λv u s2 x y H2 I2 rx ry q=>hr a b pins s2 σ H2 x y v u Q I2 rx ry q (hs _ _))
noncomputable def rIxL (K:PySem.W.Frag):R2:=λx y H Q=>∃p xs i v,x=.ref p/\y=.int i/\SqL K H p xs/\atI xs i=some v/\Q v H
noncomputable def rIxT (K:PySem.W.Frag):R2:=λx y H Q=>∃p xs i v,x=.ref p/\y=.int i/\SqT K H p xs/\atI xs i=some v/\Q v H
theorem ZG:IxR X (rIxL X.K):=by
 intro value slice pins s σ H x y v u Q I rx ry h hs
 obtain⟨p,xs,i,z,rfl,rfl,hq,he,q⟩:=h
 cases rx
 obtain⟨t,rfl⟩:=ry
 obtain⟨its,r,pl,hz⟩:=I.list hq
 obtain⟨j,h1,h2,h3,h4,h5⟩:=Zh5 he
 obtain⟨w,ew,rw'⟩:=r.get h2
 have hl:=r.length
 have hn:=ZfL
 have fin:EP X pins σ Q w s:=⟨z,H,I,rw',q⟩
 by_cases h0:0<=i
 ·have hj:i.toNat=j:=by
   rw[seqIndex_of h0 h5]at h1
   exact Yw h1
  exact item_listR pl.isList h0 (by omega) (by rw[hj];simpa using ew) fin hs
 ·have hj:(i+(its.toArray.size:Int)).toNat=j:=by
   rw[seqIndex_neg (by omega) h4]at h1
   rw[Yk,<-hl]
   exact Yw h1
  exact subscriptTail_builtinR (x:=w) pl.isList.typeIs slot_list_getitem.lookup
   (wpAny_getItem_list_neg (Q:=λr s'=>r=w/\EP X pins σ Q r s') pl.isList (by omega) (by rw[Yk]<;>omega) (by omega) (by rw[hj];simpa using ew) ⟨rfl,fin⟩) hs
theorem Zc0:IxR X (rIxT X.K):=by
 intro value slice pins s σ H x y v u Q I rx ry h hs
 obtain⟨p,xs,i,z,rfl,rfl,hq,he,q⟩:=h
 cases rx
 obtain⟨t,rfl⟩:=ry
 obtain⟨its,r,pl,hz⟩:=I.tuple hq
 obtain⟨j,h1,h2,h3,h4,h5⟩:=Zh5 he
 obtain⟨w,ew,rw'⟩:=r.get h2
 have hl:=r.length
 have hn:=ZfL
 have fin:EP X pins σ Q w s:=⟨z,H,I,rw',q⟩
 exact subscriptTail_builtinR (x:=w) pl.typeIs slot_tuple_getitem.lookup
  (getItem_tuple (j:=j) (Q:=λr s'=>r=w/\EP X pins σ Q r s') pl (by omega) (by omega) (by rw[Yk,<-hl];exact h1) (by simpa using ew) ⟨rfl,fin⟩) hs
theorem Zhr (its:List Value) (n j:Nat) (u:Value):Obj.mapSeq (·.setIfInBounds j u) {cls:=.type "list",data:=.seq its.toArray n}={cls:=.type "list",data:=.seq (its.set j u).toArray n}:=by
 simp[Obj.mapSeq]
theorem Inv.lst {pins:List (Addr×Obj)}{σ:St}{H:Hp}{s:Shared}{p:Addr}{xs:List V} (I:Inv X pins σ H s) (h:H p=some (.lst xs)) :
  ∃(its:List Value) (n:Nat),Vals xs its/\s.heap.get? p=some {cls:=.type "list",data:=.seq its.toArray n}/\xs.length<=sizeLine:=by
 obtain⟨z,its,n,r,e⟩:=I.hok p _ h
 exact⟨its,n,r,e,z⟩
theorem Inv.lstUpd {pins:List (Addr×Obj)}{σ:St}{H:Hp}{s:Shared}{p:Addr}{xs ys:List V}{its its':List Value}{n n':Nat}{f:Obj->Obj} (I:Inv X pins σ H s) (h:H p=some (.lst xs))
  (ho:s.heap.get? p=some {cls:=.type "list",data:=.seq its.toArray n}) (hf:f {cls:=.type "list",data:=.seq its.toArray n}={cls:=.type "list",data:=.seq its'.toArray n'}) (r:Vals ys its') (hz:ys.length<=sizeLine) (t:Nat) :
  Inv X pins σ (upd H p (.lst ys)) {s with heap:=s.heap.update p f,toks:=t}:=by
 have e:(s.heap.update p f).get? p=some {cls:=.type "list",data:=.seq its'.toArray n'}:=by
  rw[Heap.get?_update_self f ho (by rw[hf]<;>rfl),hf]
 refine I.write (x:=p) (e:=p) (by rw[h];trivial) (.inl rfl) (λb u hb q=>(Heap.get?_update_other _ _ (Ne.symm hb)).trans q) ⟨_,e⟩ ?_
 exact⟨hz,its',n',r,e⟩
noncomputable def rSetL:V->V->V->Hp->(Hp->Prop)->Prop:=λo i v H Q=>∃p xs k j,o=.ref p/\i=.int k/\H p=some (.lst xs)/\ixN xs.length k=some j/\Q (upd H p (.lst (xs.set j v)))
theorem set_list:PSet X rSetL:=by
 intro pins s σ H o i v ov iv u Q I ro ri rv h
 obtain⟨p,xs,k,j,rfl,rfl,hp,hj,q⟩:=h
 cases ro
 obtain⟨t,rfl⟩:=ri
 obtain⟨its,n,r,ho,hz⟩:=I.lst hp
 obtain⟨h1,h2,h3,h4⟩:=Zh4 hj
 have hl:=r.length
 have hn:=ZfL
 have I':Inv X pins σ (upd H p (.lst (xs.set j v))) {s with heap:=s.heap.update p (Obj.mapSeq (·.setIfInBounds j u))} :=
  I.lstUpd hp ho (Zhr its n j u) (r.set rv j) (by rw[List.length_set];exact hz) s.toks
 by_cases h0:0<=k
 ·have hk:k.toNat=j:=by
   rw[seqIndex_of h0 h4]at h1
   exact Yw h1
  exact PySem.W.ki_setAt ho h0 (by omega) (by rw[Yk,<-hl];exact h4) (by rw[hk];exact⟨_,I',q⟩)
 ·have hk:(k+(its.toArray.size:Int)).toNat=j:=by
   rw[seqIndex_neg (by omega) h3]at h1
   rw[Yk,<-hl]
   exact Yw h1
  exact PySem.W.ki_setBack ho (by omega) (by rw[Yk,<-hl];exact h3) (by omega) (by rw[hk];exact⟨_,I',q⟩)
theorem ZfQ (lo hi:Option Int) (n:Nat):(sliceBounds lo hi none n).1=((HT.sIx n 0 lo:Nat):Int)/\(sliceBounds lo hi none n).2.1=((HT.sIx n n hi:Nat):Int)/\(sliceBounds lo hi none n).2.2=1:=by
 refine⟨?_,?_,rfl⟩
 ·cases lo with
  |none=>simp[sliceBounds,HT.sIx]
  |some i =>
   simp only[sliceBounds,HT.sIx,Option.getD_none,show(1:Int)>0 by decide,if_true]
   by_cases h:i<0
   ·simp only[h,if_true]<;>omega
   ·simp only[h,if_false]<;>omega
 ·cases hi with
  |none=>simp[sliceBounds,HT.sIx]
  |some i =>
   simp only[sliceBounds,HT.sIx,Option.getD_none,show(1:Int)>0 by decide,if_true]
   by_cases h:i<0
   ·simp only[h,if_true]<;>omega
   ·simp only[h,if_false]<;>omega
theorem Ze5 (its:List Value) (lo hi:Option Int):slicePick its.toArray lo hi none=((its.drop (HT.sIx its.length 0 lo)).take (HT.sIx its.length its.length hi-HT.sIx its.length 0 lo)).toArray:=by
 obtain⟨h1,h2,h3⟩:=ZfQ lo hi its.toArray.size
 unfold slicePick
 rw[h1,h2,h3]
 simp only[sliceRange_one,pick_run,Yk]<;>rfl
noncomputable def rSlL (K:PySem.W.Frag):V->Option Int->Option Int->Hp->VK->Prop:=λx lo hi H Q=>∃a xs,x=.ref a/\SqL K H a xs/\∀p,H p=none->Q (.ref p) (upd H p (.lst (Zbr xs lo hi)))
theorem Zh6:SlR X (rSlL X.K):=by
 intro pins s σ H x v vl vu lo hi sl Q I rx hs pl pu h
 obtain⟨a,xs,rfl,hx,q⟩:=h
 cases rx
 obtain⟨its,r,ht,hz⟩:=I.list hx
 have hlen:=r.length
 refine⟨"list",_,slot_list_getitem.lookup,ht.isList.typeIs,?_⟩
 refine wpAny_getItem_list_slice ht.isList hs pl pu .none (by simp) ?_ (by rw[Yk]<;>omega)
 rw[Ze5,<-hlen]
 refine⟨.ref s.heap.objs.size,_,I.laid (t':=s.toks) (o:=.lst (Zbr xs lo hi)) (λb ob q=>Yi _ q) (Ye _) ?_,rfl,q _ (I.hok.fresh (Ye _))⟩
 exact⟨Yj (ZaU xs lo hi) hz,_,0,(r.drop (HT.sIx xs.length 0 lo)).take (HT.sIx xs.length xs.length hi-HT.sIx xs.length 0 lo),Yo _ rfl⟩
noncomputable def flatV:V->Bool
 |.non=>true
 |.bl _=>true
 |.int _=>true
 |.str _=>true
 |_=>false
noncomputable def eqV:V->V->Bool
 |.non,.non=>true
 |.bl a,.bl b=>a==b
 |.bl a,.int b=>(if a then 1 else 0)==b
 |.int a,.bl b=>a==(if b then 1 else 0)
 |.int a,.int b=>a==b
 |.str a,.str b=>a==b
 |_,_=>false
theorem eqAt_V {A:Around}{s:Shared}{y x:V}{u v:Value} (ry:RelV y u) (rx:RelV x v) (fy:flatV y=true) (fx:flatV x=true):SeqAt.EqAt A s u v (eqV y x):=by
 cases y with
 |non =>
  cases ry
  cases x with
  |non=>cases rx;exact SeqAt.EqAt.same _
  |bl b=>cases rx;exact SeqAt.EqAt.none_bool b
  |int b=>obtain⟨t,rfl⟩:=rx;exact SeqAt.EqAt.none_int b t
  |str b=>obtain⟨t,rfl⟩:=rx;exact SeqAt.EqAt.none_str b t
  |_=>exact absurd (show false=true from fx) Yr
 |bl a =>
  cases ry
  cases x with
  |non=>cases rx;exact SeqAt.EqAt.bool_none a
  |bl b=>cases rx;exact SeqAt.EqAt.bool_bool a b
  |int b=>obtain⟨t,rfl⟩:=rx;exact SeqAt.EqAt.bool_int a b t
  |str b=>obtain⟨t,rfl⟩:=rx;exact SeqAt.EqAt.bool_str a b t
  |_=>exact absurd (show false=true from fx) Yr
 |int a =>
  obtain⟨t',rfl⟩:=ry
  cases x with
  |non=>cases rx;exact SeqAt.EqAt.int_none a t'
  |bl b=>cases rx;exact SeqAt.EqAt.int_bool a t' b
  |int b=>obtain⟨t,rfl⟩:=rx;exact SeqAt.EqAt.int_int a t' b t
  |str b=>obtain⟨t,rfl⟩:=rx;exact SeqAt.EqAt.int_str a t' b t
  |_=>exact absurd (show false=true from fx) Yr
 |str a =>
  obtain⟨t',rfl⟩:=ry
  cases x with
  |non=>cases rx;exact SeqAt.EqAt.str_none a t'
  |bl b=>cases rx;exact SeqAt.EqAt.str_bool a t' b
  |int b=>obtain⟨t,rfl⟩:=rx;exact SeqAt.EqAt.str_int a t' b t
  |str b=>obtain⟨t,rfl⟩:=rx;exact SeqAt.EqAt.str_str a t' b t
  |_=>exact absurd (show false=true from fx) Yr
 |_=>exact absurd (show false=true from fy) Yr
theorem ZfR:ZbD X (.builtin "len") (λxs H Q=>∃p ys,xs=[.ref p]/\(SqL X.K H p ys\/SqT X.K H p ys)/\Q (.int ys.length) H):=by
 intro pins s σ H xs us Q I r h
 obtain⟨p,ys,rfl,hq,q⟩:=h
 obtain⟨u,rfl,rx⟩:=vals1 r
 cases rx
 have hn:=ZfL
 rcases hq with hq|hq
 ·obtain⟨its,r',pl,hz⟩:=I.list hq
  have hlen:=r'.length
  exact Calls.call_len_list pl.isList (by simp only[Yk]<;>omega) ⟨.int ys.length,H,I.tok _,⟨s.toks+1,by rw[Yk,hlen]⟩,q⟩
 ·obtain⟨its,r',pl,hz⟩:=I.tuple hq
  have hlen:=r'.length
  exact len_tuple pl (by simp only[Yk]<;>omega) ⟨.int ys.length,H,I.tok _,⟨s.toks+1,by rw[Yk,hlen]⟩,q⟩
theorem Ze6:ZbD X (.type "tuple") (λxs H Q=>∃p ys,xs=[.ref p]/\((SqL X.K H p ys/\∀l,H l=none->Q (.ref l) (upd H l (.tup ys)))\/(SqT X.K H p ys/\Q (.ref p) H))):=by
 intro pins s σ H xs us Q I r h
 obtain⟨p,ys,rfl,h⟩:=h
 obtain⟨u,rfl,rx⟩:=vals1 r
 cases rx
 rcases h with⟨hq,q⟩|⟨hq,q⟩
 ·obtain⟨its,r',pl,hz⟩:=I.list hq
  have hlen:=r'.length
  refine call_tuple_list pl.isList (λh' kp=>?_) (by simp only[Yk]<;>omega)
  have I1:Inv X pins σ H {s with heap:=h'}:=I.kept (t':=s.toks) kp
  have I2:Inv X pins σ (upd H h'.objs.size (.tup ys)) {s with heap:=h'.push {cls:=.type "tuple",data:=.seq its.toArray}} :=
   I1.laid (t':=s.toks) (λb o e=>Yi _ e) (Ye _) (show Z8 X.prog X.w _ _ _ (.tup ys)from⟨hz,its,r',IsTup.new _ _⟩)
  exact⟨.ref h'.objs.size,_,I2,rfl,q _ (I1.hok.fresh (Ye _))⟩
 ·obtain⟨its,r',pl,hz⟩:=I.tuple hq
  exact call_tuple_same pl ⟨.ref p,H,I,rfl,q⟩
noncomputable def tyV (K:PySem.W.Frag) (T:String) (x:V) (H:Hp):Prop:=match x with
 |.str _=>T="str"
 |.int _=>T="int"
 |.ref p=>(T="list"/\∃xs,SqL K H p xs)\/(T="tuple"/\∃o,K.lookup p=some o/\o.cls=.type "tuple"/\o.dict=none) \/
   (T="dict"/\((∃kvs,H p=some (.dK kvs))\/∃kvs,H p=some (.dT kvs)))\/(T="set"/\∃S n,H p=some (.set S n))
 |_=>False
theorem tyV_is {pins:List (Addr×Obj)}{σ:St}{H:Hp}{s:Shared}{T:String}{x:V}{v:Value} (I:Inv X pins σ H s) (r:RelV x v) (ty:tyV X.K T x H) :
  s.TypeIs v T/\∀a,v=.ref a->∃ob,s.heap.get? a=some ob/\ob.dict=none:=by
 cases x with
 |str z =>
  obtain⟨t,rfl⟩:=r
  cases(show T="str" from ty)
  exact⟨typeIs_str s z t,λ_ e=>nomatch e⟩
 |int i =>
  obtain⟨t,rfl⟩:=r
  cases(show T="int" from ty)
  exact⟨typeIs_int s i t,λ_ e=>nomatch e⟩
 |ref p =>
  cases r
  rcases ty with⟨rfl,xs,hq⟩|⟨rfl,o,hk,hc,hd⟩|⟨rfl,hk⟩|⟨rfl,S,n,hk⟩
  ·obtain⟨its,_,pl,_⟩:=I.list hq
   refine⟨pl.isList.typeIs,λa e=>?_⟩
   cases e
   obtain⟨o,n,e,c,hd,_⟩:=pl
   exact⟨o,e,hd⟩
  ·refine⟨⟨o,I.kIn p o hk,hc⟩,λa e=>?_⟩
   cases e
   exact⟨o,I.kIn _ o hk,hd⟩
  ·have z:∃o,s.heap.get? p=some o/\o.ExactDict:=by
    rcases hk with⟨kvs,hk⟩|⟨kvs,hk⟩
    ·obtain⟨_,_,_,_,o,_,_,e,ex,_⟩:=I.hok p _ hk
     exact⟨o,e,ex⟩
    ·obtain⟨_,_,_,_,o,_,_,e,ex,_⟩:=I.hok p _ hk
     exact⟨o,e,ex⟩
   obtain⟨o,e,ex⟩:=z
   refine⟨⟨o,e,ex.1⟩,λa e2=>?_⟩
   cases e2
   exact⟨o,e,ex.2.1⟩
  ·obtain⟨o,_,_,_,e,ex,_⟩:=I.hok p _ hk
   refine⟨⟨o,e,ex.1⟩,λa e2=>?_⟩
   cases e2
   exact⟨o,e,ex.2.1⟩
 |_=>exact False.elim ty
noncomputable def tBM (K:PySem.W.Frag) (T:String) (r:V->List V->Hp->VK->Prop) (to:TE) (t:TA):TE:=fun σ H Q=>to σ H λx H1=>tyV K T x H1/\t σ H1 λxs H2=>r x xs H2 Q
variable {o e:Expr}{es:List Expr}{to:TE}{t:TA}{name:Str}{apos cpos:Pos}{T id:String}{r:V->List V->Hp->VK->Prop}
theorem ZdW (pa:PlainAttrs T) (slot:Slot T name id) (hty:typeOf (.builtin id)=pure (.type "method_descriptor")) (hm:MtR X id r) (ho:PE X o to) (ha:PA X (e::es) t)
  (hbase:attributeBase o name X.env (eval o X.env)=eval o X.env:=by rfl)
  (hfew:((backTo cpos (starEach (e::es) X.env)).all (λx=>!x.1)&&(backToKw cpos (keywordEach [] X.env)).all (λx=>x.1.isSome)
   && decide ((e::es).length+([]:List Keyword).length+(if ([]:List Keyword).isEmpty then 0 else 1)<30))=true:=by rfl)
  (hline:(apos.endLine==cpos.line)=true:=by rfl) (hs:starEach (e::es) X.env=(false,eval e X.env)::starEach es X.env:=by rfl) (hplain:(backTo cpos (starEach es X.env)).any (·.1)=false:=by rfl) :
  PE X (.Call (.Attribute o name apos) (e::es) [] cpos) (tBM X.K T r to t):=by
 intro pins s σ H Q I h
 refine wpAny_Call_method_late hbase hfew hline rfl (thn (ho pins s σ H _ I h) λv s1 ⟨x,H1,I1,r1,ty,q1⟩=>?_)
 obtain⟨h1,h2⟩:=tyV_is I1 r1 ty
 refine⟨T,id,pa,slot,hty,h1,h2,?_⟩
 have hA:=ha cpos pins s1 σ H1 _ I1 q1
 rw[hs]at hA⊢
 refine Calls.callWith_builtin (by show(false||(backTo cpos (starEach es X.env)).any (·.1))=false;rw[hplain]<;>rfl) (Calls.evalArgs_plain ?_)
 exact thn hA λus s2 ⟨vs,H2,I2,r2,q2⟩=>hm pins s2 σ H2 x vs v us Q I2 r1 r2 q2
end
noncomputable def MtM (X:Cx) (id:String) (r:V->List V->Hp->VK->Prop):Prop :=
 ∀(pins:List (Addr×Obj)) (s:Shared) (σ:St) (H:Hp) (x:V) (xs:List V) (v:Value) (us:List Value) (Q:VK),Inv X pins σ H s->RelV x v->Vals xs us->r x xs H Q ->
  wpAny (model X.prog X.w) X.A (call (.builtin id) (v::us)) (EP X pins σ Q) X.xe s
theorem Vals.one:∀{x:V}{us:List Value},Vals [x] us->∃u,us=[u]/\RelV x u
 |_,_,.cons r .nil=>⟨_,rfl,r⟩
theorem Vals.two:∀{x y:V}{us:List Value},Vals [x,y] us->∃u v,us=[u,v]/\RelV x u/\RelV y v
 |_,_,_,.cons r (.cons q .nil)=>⟨_,_,rfl,r,q⟩
theorem Vals.rep {xs:List V}{us:List Value} (h:Vals xs us):∀k:Nat,Vals (List.replicate k xs).flatten (List.replicate k us).flatten
 |0=>.nil
 |k+1=>by
  rw[List.replicate_succ,List.replicate_succ,List.flatten_cons,List.flatten_cons]
  exact Vals.append h (Vals.rep h k)
theorem foldl_rep (its:List Value):∀(k:Nat) (acc:List Value),
  List.foldl (λx1 x2=>x1++x2) acc.toArray (List.replicate k its.toArray)=(acc++(List.replicate k its).flatten).toArray
 |0,acc=>by simp
 |k+1,acc=>by
  have e:acc.toArray++its.toArray=(acc++its).toArray:=by simp
  have e2:(acc++its)++(List.replicate k its).flatten=acc++(List.replicate (k+1) its).flatten:=by
   rw[List.replicate_succ,List.flatten_cons,YG]
  rw[<-e2,<-foldl_rep its k (acc++its),<-e,List.replicate_succ,List.foldl_cons]
section
variable {X:Cx}{pins:List (Addr×Obj)}{σ:St}{H:Hp}{s:Shared}{l b:Addr}{xs ys zs:List V}
theorem Inv.lset {its its':List Value}{n:Nat}{f:Array Value->Array Value}{t':Nat} (I:Inv X pins σ H s) (hH:H l=some (.lst xs))
  (e:s.heap.get? l=some {cls:=.type "list",data:=.seq its.toArray n}) (hf:f its.toArray=its'.toArray) (hv:Vals ys its') (hz:ys.length<=sizeLine) :
  Inv X pins σ (upd H l (.lst ys)) {s with heap:=s.heap.update l (Obj.mapSeq f),toks:=t'}:=by
 have q:=PySem.IsL.update e f
 rw[hf]at q
 refine I.write (x:=l) (e:=l) (by rw[hH];exact trivial) (.inl rfl) (λb' u hb hu=>(Heap.get?_update_other s.heap (Obj.mapSeq f) (Ne.symm hb)).trans hu) ⟨_,q⟩ ?_
 exact⟨hz,its',_,hv,q⟩
theorem Inv.lnew {its:List Value}{t':Nat} (I:Inv X pins σ H s) (hv:Vals ys its) (hz:ys.length<=sizeLine) :
  Inv X pins σ (upd H s.heap.objs.size (.lst ys)) {s with heap:=s.heap.push {cls:=.type "list",data:=.seq its.toArray},toks:=t'} :=
 I.laid (λ_ _ q=>Yi _ q) (Ye _) ⟨hz,its,0,hv,Yo _ rfl⟩
theorem Inv.fresh (I:Inv X pins σ H s):H s.heap.objs.size=none:=I.hok.fresh (Ye _)
theorem Inv.Zgu (I:Inv X pins σ H s) (hH:H l=some (.lst xs)):xs.length<=sizeLine/\∃(its:List Value) (n:Nat),Vals xs its/\xs.length=its.length/\s.heap.get? l=some {cls:=.type "list",data:=.seq its.toArray n}:=by
 obtain⟨z,its,n,r,e⟩:=I.hok l _ hH
 exact⟨z,its,n,r,r.length,e⟩
theorem Zgv {n:Nat} (h:n<=sizeLine):Builtin.List.listTooLong n=false:=by
 unfold Builtin.List.listTooLong
 exact YD (by omega)
end
section
variable {X:Cx}
noncomputable def Zh7:V->List V->Hp->VK->Prop:=λx vs H Q=>∃l xs y,x=.ref l/\vs=[y]/\H l=some (.lst xs)/\xs.length<sizeLine/\Q .non (upd H l (.lst (xs++[y])))
theorem Za3:MtM X "list.append" Zh7:=by
 intro pins s σ H x vs v us Q I rx rv h
 obtain⟨l,xs,y,rfl,rfl,hH,hz,q⟩:=h
 cases rx
 obtain⟨u,rfl,ru⟩:=rv.one
 obtain⟨z,its,n,r,hl,e⟩:=I.Zgu hH
 refine call_meets F.slot_list_append ⟨_,e,rfl⟩ F.entry_list_append (F.args_list_append_2 _ _) (PySem.list_append l its.toArray n u (by rw[Yk];omega)) ⟨e,?_⟩
 refine⟨.non,_,I.lset (its':=its++[u]) hH e (by simp) (r.append (.cons ru .nil)) ?_,rfl,q⟩
 rw[Yt,List.length_singleton]
 omega
noncomputable def Zh8:V->List V->Hp->VK->Prop:=λx vs H Q=>∃l b xs zs,x=.ref l/\vs=[.ref b]/\H l=some (.lst xs)/\H b=some (.lst zs)/\xs.length+zs.length<=sizeLine/\Q .non (upd H l (.lst (xs++zs)))
theorem ZiB:MtM X "list.extend" Zh8:=by
 intro pins s σ H x vs v us Q I rx rv h
 obtain⟨l,b,xs,zs,rfl,rfl,hH,hB,hz,q⟩:=h
 cases rx
 obtain⟨u,rfl,ru⟩:=rv.one
 cases ru
 obtain⟨z,its,n,r,hl,e⟩:=I.Zgu hH
 obtain⟨z2,its2,n2,r2,hl2,e2⟩:=I.Zgu hB
 have hsz:its.toArray.size+its2.toArray.size<=sizeLine:=by rw[Yk,Yk];omega
 have hlong:¬ (!its.toArray.isEmpty&&Builtin.List.listTooLong (its.toArray.size+its2.toArray.size))=true:=by
  rw[Zgv hsz,Bool.and_false]
  exact Yr
 refine call_meets F.slot_list_extend ⟨_,e,rfl⟩ F.entry_list_extend (F.args_list_extend_2 _ _)
  (AutoSeq1.list_extend_list_list_0 l its.toArray n b its2.toArray n2 hlong (by rw[Yk];omega) (by omega)) ⟨e,e2,?_⟩
 refine⟨.non,_,I.lset (its':=its++its2) hH e (by simp) (r.append r2) ?_,rfl,q⟩
 rw[Yt]
 omega
noncomputable def rCat:R2:=λx y H Q=>∃l b xs zs,x=.ref l/\y=.ref b/\H l=some (.lst xs)/\H b=some (.lst zs)/\xs.length+zs.length<=sizeLine/\∀p,H p=none->Q (.ref p) (upd H p (.lst (xs++zs)))
theorem Zju:OpR X (binaryOp .Add) rCat:=by
 intro pins s σ H x y v u Q I rx ry h
 obtain⟨l,b,xs,zs,rfl,rfl,hH,hB,hz,q⟩:=h
 cases rx
 cases ry
 obtain⟨z,its,n,r,hl,e⟩:=I.Zgu hH
 obtain⟨z2,its2,n2,r2,hl2,e2⟩:=I.Zgu hB
 refine PySem.P.add_list e e2 ?_ (by rw[Yk,Yk];omega)
 have ea:its.toArray++its2.toArray=(its++its2).toArray:=by simp
 rw[ea]
 exact⟨.ref _,_,I.lnew (t':=s.toks) (r.append r2) (by rw[Yt];omega),rfl,q _ I.fresh⟩
noncomputable def rRep:R2:=λx y H Q=>∃l k xs,x=.ref l/\y=.int k/\H l=some (.lst xs)/\-(2 ^ 63)<=k/\k<2 ^ 63/\xs.length*k.toNat<=sizeLine /\
 ∀p,H p=none->Q (.ref p) (upd H p (.lst (List.replicate k.toNat xs).flatten))
theorem len_rep {α:Type} (xs:List α) (k:Nat):(List.replicate k xs).flatten.length=k*xs.length:=by
 induction k with
 |zero=>simp
 |succ k ih=>rw[List.replicate_succ,List.flatten_cons,Yt,ih,Nat.succ_mul,Nat.add_comm]
theorem op_rep:OpR X (binaryOp .Mult) rRep:=by
 intro pins s σ H x y v u Q I rx ry h
 obtain⟨l,k,xs,rfl,rfl,hH,h1,h2,hz,q⟩:=h
 cases rx
 obtain⟨t,rfl⟩:=ry
 obtain⟨z,its,n,r,hl,e⟩:=I.Zgu hH
 have hlen:its.toArray.size*k.toNat<=sizeLine:=by rw[Yk,<-hl];exact hz
 have hcap:¬ its.toArray.size*k.toNat>(2 ^ 63-1) / 8:=by
  have:(sizeLine:Nat)<=(2 ^ 63-1) / 8:=by decide
  omega
 have hfit:¬ (!Builtin.List.listFitsIndex k)=true:=by
  rw[fitsIndex_both h1 h2]
  exact Yr
 have hlong:¬ Builtin.List.listTooLong (its.toArray.size*k.toNat)=true:=by
  rw[Zgv hlen]
  exact Yr
 have hnew:List.foldl (λx1 x2=>x1++x2) #[] (List.replicate (if its.toArray.isEmpty=true then 0 else k.toNat) its.toArray)=(List.replicate k.toNat its).flatten.toArray:=by
  have f0:∀m:Nat,List.foldl (λx1 x2=>x1++x2) #[] (List.replicate m its.toArray)=(List.replicate m its).flatten.toArray:=λm=>by
   have:=foldl_rep its m []
   rw[List.nil_append]at this
   exact this
  rw[f0]
  cases its with
  |nil=>simp
  |cons a r'=>rw[Yb (by simp)]
 refine wpAny_binaryOp_repeat_ref (T:="list") (U:="int") (by decide) ⟨_,e,rfl⟩ (λs'=>typeIs_int s' k t) noFill_list_mul F.fills_int_mul F.slot_int_rmul repeat_list F.slot_int_index.lookup
  (call_meets F.slot_int_rmul (typeIs_int s k t) F.entry_int_rmul (F.args_int_rmul_2 _ _) (int___rmul___int_list k t l its.toArray n)
   ⟨e,rfl,⟨_,e,rfl⟩,call_meets F.slot_list_mul ⟨_,e,rfl⟩ F.entry_list_mul (F.args_list_mul_2 _ _) (AutoListH.list___mul___list_int_3 l its.toArray n k t hfit hcap hlong) ⟨e,?_⟩⟩)
 rw[hnew]
 exact⟨.ref _,_,I.lnew (t':=s.toks) (r.rep k.toNat) (by rw[len_rep,Nat.mul_comm];exact hz),rfl,q _ I.fresh⟩
end
end L2
namespace Att
open PySem PySem.W PySem.Calls PyProof.Rows
theorem Zej {P:Params}{h:Heap}:∀(ns:List Int) (vs:List Value),WellAll P h vs (ns.map WData.int)->IntsAre vs ns:=by
 intro ns
 induction ns with
 |nil =>
  intro vs w
  rw[List.map_nil]at w
  cases w
  exact .nil
 |cons n ns ih =>
  intro vs w
  rw[YV]at w
  cases w with
  |cons a b =>
   cases a
   exact .cons _ _ (ih _ b)
theorem ZiC {l:OpenLaw}{n:Nat} (hn:l.most=some n) {P:Params}{h:Heap}{args:List WData}{vals:List Value}
  (hpre:l.row.toRowW.claim.pre args=true) (hwl:WellAll P h vals args) :
  ∃a vs ns,vals=[Value.ref a]/\args=[WData.list (ns.map WData.int)]/\h.get? a=some {cls:=.type "list",data:=.seq vs.toArray}/\IntsAre vs ns/\ns.length<=n:=by
 have hsh:WShape.hasAll [] args [.list .int]=true:=(pre_splitW hpre).1
 have hc:l.pre.holds [] {args:=args}=true:=(pre_splitW hpre).2
 obtain⟨d,r,rfl,h1,h2⟩:=hasAllW_cons hsh
 obtain rfl:=hasAllW_nil h2
 obtain⟨xs,rfl,h3⟩:=hasW_list h1
 obtain⟨ns,rfl⟩:=items_int h3
 have hlen:ns.length<=n:=by
  unfold OpenLaw.pre at hc
  have h4:(WTm.not (.lt (.lit (.int (n:Int))) (.len (.arg 0)))).holds [] {args:=[.list (ns.map .int)]}=true:=by
   have h4:=(holds_andW hc).1
   rw[hn]at h4
   exact h4
  have h5:=condW_of h4 (w_not (w_lt w_lit (w_len_list (w_arg rfl))))
  rw[Yh]at h5
  refine Nat.le_of_not_lt λq=>?_
  have q':(n:Int)<((ns.length:Nat):Int):=by omega
  first
   |(rw[YQ q']at h5;exact absurd h5 (by decide))
   |(simp at h5;omega)
 cases hwl with
 |cons w1 w2 =>
  cases w2
  cases w1 with
  |list ho hall=>exact⟨_,_,ns,rfl,rfl,ho,Zej ns _ hall,hlen⟩
theorem ZiD (l:OpenLaw) (args:List WData):l.row.toRowW.claim.post args (.bool true) args=true :=
 postW_of (r:=l.row.toRowW) (X:=(true==true))
  (show WShape.has [] (.bool true) .bool=true by first|rfl|decide|simp[WShape.has,WShape.arms,WShape.armsAll])
  (show(WTm.eq .res (.lit (.bool true))).value [] {args:=args,res:=some (.bool true),after:=args}=some (.bool (true==true))from w_eq_bool (w_res rfl) w_lit) rfl
theorem Zgw {l:OpenLaw}{n:Nat}{q:Program}{loose:List Str}{XP:(Str->Option Value)->Heap->Prop}{YP:World->Heap->Prop}{d:DefRec}
  (hn:l.most=some n) (hdf:d.params.defaults=[])
  (call:∀(w:World) (s₀ s₁:Shared) (mg mb:Str->Option Value) (fa:Addr) (o:Obj) (pm cd doc:Value) (a:Addr) (vs:List Value) (ns:List Int),
   Ground q loose [] XP w s₀ mg mb s₁.heap->YP w s₁.heap ->
   s₁.heap.get? fa=some o->o.data=.func (docDef d.name d.params d.body d.scope pm cd doc)->s₁.heap.CodeRec cd d.name->mg d.name=some (.ref fa) ->
   s₁.heap.get? a=some {cls:=.type "list",data:=.seq vs.toArray}->IntsAre vs ns->ns.length<=n->s₁.gens=#[] ->
   codeAny (model l.prog w) callerA (.call (.ref fa) ⟨[.ref a],[]⟩) (λr s'=>r=.ok (.ret (.bool true))/\OldK s₁.heap s'.heap/\s'.os=s₁.os/\AllBare s'.gens) s₁) :
  WalkO q loose XP YP l.row.toRowW d [] (λf vs=>PySem.call f vs):=by
 intro w s₀ s₁ mg mb G Y fa o pm cd doc dV kV ho hd hcd hD hmg hg args vals as hpre hlay hrd hwl hlo
 obtain rfl:dV=.none:=Dflts.none hD hdf
 obtain rfl:kV=.none:=Dflts.noKw hD
 obtain⟨a,vs,ns,rfl,rfl,hobj,hints,hlen⟩:=ZiC hn hpre hwl
 refine enter_call (codeAny_mono (call w s₀ s₁ mg mb fa o pm cd doc a vs ns G Y ho (fd_plain hd) hcd hmg hobj hints hlen hg) λr s' hq=>?_)
 obtain⟨rfl,h2,h3,h4⟩:=hq
 exact⟨.inl ⟨.bool true,.bool true,[],rfl,λ_=>rfl,.bool true,ZiD l _,λ_=>⟨List.Pairwise.nil,λ_ hm=>(nomatch hm)⟩⟩,h2,h3,h4⟩
end Att
namespace L2
open PySem PySem.Spec PyProof.Rows
theorem Zfk:∀{vs:List Value}{ns:List Int},IntsAre vs ns->Vals (ns.map V.int) vs
 |_,_,.nil=>.nil
 |_,_,.cons n t h=>.cons ⟨t,rfl⟩ (Zfk h)
noncomputable def Only (H:Hp):Prop:=∀b,H b=none\/∃o xs,H b=some (.frz o (.lst xs))
theorem Zjv {P:Program}{w:World}{K:PySem.W.Frag}{mg mb:Str->Option Value}{CX:CXT}{k:Nat}{fa a:Addr}{fd:FuncData}{x:Str}{sp:Sp}{s₁:Shared}{vs:List Value}{ns:List Int}
  (KX:K.In s₁.heap) (hns:s₁.heap.Ns mainGlobals mg) (hb:s₁.heap.Ns builtinsNs mb) (hbb:∀x:Str,x≠"__name__"->mb x=bootBuiltins x) (hlim:s₁.heap.NoLimit) (hg:s₁.gens=#[])
  (ha:s₁.heap.get? a=some {cls:=.type "list",data:=.seq vs.toArray}) (hi:IntsAre vs ns) (hl:ns.length<=sizeLine) (hr:Room k callerA)
  (F:∀base:Heap,K.In base->base.Ns mainGlobals mg->FnOk P w K mg base CX k fa fd [x] sp) (hbind:∀(s:Shared) (u:Value),BindsTo s fd ⟨[u],[]⟩ [(x,u)])
  (hsp:∀H:Hp,Only H->SqL K H a (ns.map V.int)->sp [.ref a] H (λv _=>v=.bl true) λ_ _ _=>False)
  (hCX:∀H e s',CX [] H s₁ (λ_ _ _=>False) e s'->False) :
  codeAny (model P w) callerA (.call (.ref fa) ⟨[.ref a],[]⟩) (λr s'=>r=.ok (.ret (.bool true))/\OldK s₁.heap s'.heap/\s'.os=s₁.os/\AllBare s'.gens) s₁:=by
 have rv:=Zfk hi
 have lenV:=hi.length
 -- from an abstract heap in which nothing but the script may be tracked
 have core:∀H:Hp,Only H->SqL K H a (ns.map V.int)->HOk P w H s₁.heap->(∀b,H b≠none->b=a)->(H a≠none->K.lookup a=none) ->
   codeAny (model P w) callerA (.call (.ref fa) ⟨[.ref a],[]⟩) (λr s'=>r=.ok (.ret (.bool true))/\OldK s₁.heap s'.heap/\s'.os=s₁.os/\AllBare s'.gens) s₁:=by
  intro H hO hS hok hA hK
  have base_of:∀{b:Addr}{o:Obj},s₁.heap.get? b=some o->H b=none->(ZfE s₁.heap H).get? b=some o:=λe n=>Zji e n
  have noA:∀{b:Addr}{o:Obj}{es:Array DictEntry}{ep:Nat},s₁.heap.get? b=some o->o.data=.dict es ep->H b=none:=λ{b o es ep} e d=>by
   cases q:H b with
   |none=>rfl
   |some u =>
    have e':b=a:=hA b (by rw[q];simp)
    subst e'
    rw[ha]at e;cases e
    have d':Data.seq vs.toArray _=Data.dict es ep:=d
    cases d'
  have nsK:∀{b:Addr}{m:Str->Option Value},s₁.heap.Ns b m->(ZfE s₁.heap H).Ns b m:=λ{b m} ⟨o,es,ep,e,d,r⟩=>⟨o,es,ep,base_of e (noA e d),d,r⟩
  have hKb:K.In (ZfE s₁.heap H):=λb o e=>base_of (KX b o e) (by
   cases q:H b with
   |none=>rfl
   |some u =>
    have e':b=a:=hA b (by rw[q];simp)
    subst e'
    rw[hK (by rw[q];simp)]at e;cases e)
  have hM:Mod K mg (ZfE s₁.heap H):=⟨hKb,nsK hns,⟨mb,nsK hb,hbb⟩,let ⟨mc,h1,h2⟩:=hlim;⟨mc,nsK h1,h2⟩⟩
  have e0:Env0 P w K mg (ZfE s₁.heap H) callerA [] s₁ H:=⟨rfl,hM,λb o e=>ZkB e,Nat.le_of_eq (Zit _ _),trivial,λb hb=>absurd (show b∈([]:List Addr)from hb) (by simp),hok,.of_eq hg⟩
  refine codeAny_mono ((F _ hKb (nsK hns)).run callerA [] s₁ H ⟨[.ref a],[]⟩ [.ref a] [.ref a] _ _ hr e0 (hbind s₁ (.ref a)) (.cons rfl .nil) (hsp H hO hS)) λr s' h=>?_
  cases r with
  |error e=>exact(hCX H e s' h).elim
  |ok fl =>
   cases fl with
   |next=>exact False.elim h
   |brk=>exact False.elim h
   |cont=>exact False.elim h
   |ret u =>
    obtain⟨v,H',os,bare,un,hok',r',q⟩:=h
    have q':v=.bl true:=q
    subst q'
    obtain rfl:u=Value.bool true:=r'
    refine⟨rfl,OldK.of_keep λb o e=>?_,os,bare⟩
    cases q:H b with
    |none=>exact un.keep b o e q (by intro z;exact absurd (show b∈([]:List Addr)from z) (by simp)) (by simp)
    |some u =>
     rcases hO b with z|⟨ob,xs,z⟩
     ·rw[q]at z;cases z
     ·have z2:=un.frzs b ob _ z
      obtain⟨e1,_⟩:=hok b _ z
      obtain⟨e2,_⟩:=hok' b _ z2
      rw[e]at e1;cases e1
      exact e2
 cases hk:K.lookup a with
 |some o =>
  -- the script is one of the module's own objects
  have e:=KX a o hk
  rw[ha]at e
  cases e
  refine core (λ_=>none) (λ_=>.inl rfl) (.inr ⟨_,vs.toArray,_,hk,rfl,rfl,rfl,by rw[Yk,lenV];exact hl,by simpa using rv⟩) (λb u z=>by have z':(none:Option HO)=some u:=z;cases z') (λb z=>absurd rfl z) λz=>absurd rfl z
 |none =>
  refine core (λb=>if b=a then some (.frz {cls:=.type "list",data:=.seq vs.toArray} (.lst (ns.map V.int)))else none) (λb=>?_) (.inl (.inr ⟨{cls:=.type "list",data:=.seq vs.toArray},Yc rfl⟩)) (λb u z=>?_) (λb z=>?_) λ_=>hk
  ·by_cases hb:b=a
   ·exact .inr ⟨_,_,Yc hb⟩
   ·exact .inl (Yb hb)
  ·by_cases hb:b=a
   ·have z':=(Yc hb).symm.trans z
    cases z'
    subst hb
    exact⟨ha,by rw[Yh];exact hl,vs,_,rv,ha⟩
   ·have z':=(Yb hb).symm.trans z
    cases z'
  ·by_cases hb:b=a
   ·exact hb
   ·exact absurd (Yb hb) z
theorem ZkJ {l:PySem.W.OpenLaw}{n k:Nat}{q:Program}{loose:List Str}{XP:(Str->Option Value)->Heap->Prop}{YP:World->Heap->Prop}{d:DefRec}{K:Params->PySem.W.Frag}{CX:World->CXT}{sp:World->Sp}{x:Str}
  (hn:l.most=some n) (hn2:n<=sizeLine) (hdf:d.params.defaults=[]) (hr:Room k callerA)
  (hY:∀(w:World) (h:Heap),YP w h->(K w.params).In h)
  (F:∀(w:World) (mg:Str->Option Value) (fa:Addr) (h:Heap),(K w.params).In h->h.Ns mainGlobals mg->mg d.name=some (.ref fa) ->
   ∃fd:FuncData,(∀(s:Shared) (u:Value),BindsTo s fd ⟨[u],[]⟩ [(x,u)]) /\
    ∀base:Heap,(K w.params).In base->base.Ns mainGlobals mg->FnOk l.prog w (K w.params) mg base (CX w) k fa fd [x] (sp w))
  (hsp:∀(w:World) (H:Hp) (a:Addr) (ns:List Int),ns.length<=n->Only H->SqL (K w.params) H a (ns.map V.int)->sp w [.ref a] H (λv _=>v=.bl true) λ_ _ _=>False)
  (hCX:∀(w:World) (H:Hp) (s:Shared) (e:Value) (s':Shared),CX w [] H s (λ_ _ _=>False) e s'->False) :
  PySem.W.WalkO q loose XP YP l.row.toRowW d [] (λf vs=>PySem.call f vs):=by
 refine Att.Zgw hn hdf λw s₀ s₁ mg mb fa o pm cd doc a vs ns G Y ho hd hcd hmg hobj hints hlen hg=>?_
 have KX:=hY w _ Y
 obtain⟨fd,hb,hF⟩:=F w mg fa _ KX G.T.g hmg
 exact Zjv KX G.T.g G.T.b G.T.builtins G.T.nolimit hg hobj hints (Yj hlen hn2) hr hF hb (λH hO hS=>hsp w H a ns hlen hO hS) λH e s'=>hCX w H s₁ e s'
noncomputable def defArgs (s:Stmt):Arguments:=match s with
 |.FunctionDef _ a _ _ _ _ _ _ _ _=>a
 |_=>{posonlyargs:=[],args:=[],vararg:=none,kwonlyargs:=[],kw_defaults:=[],kwarg:=none,defaults:=[]}
noncomputable def defBody (s:Stmt):List Stmt:=match s with
 |.FunctionDef _ _ b _ _ _ _ _ _ _=>b
 |_=>[]
noncomputable def defScope (s:Stmt):Scope:=match s with
 |.FunctionDef _ _ _ _ _ _ sc _ _ _=>sc
 |_=>{kind:=.function,names:=[],isGenerator:=false,isCoroutine:=false}
noncomputable abbrev E0:XK:=λ_ _ _=>False
structure Fun (K:PySem.W.Frag) (x qual:Str) (st:Stmt) (f:Addr) (fd:FuncData):Prop where
 ex:∃(oc:Value) (od:Option Addr) (kV doc pm:Value) (an:Option Addr) (cdv ct:Value) (osl:Array (Option Value)),
  fd=PySem.W.fnOf x qual (defArgs st) (defBody st) (defScope st) .none kV doc pm an cdv ct/\K.lookup f=some ⟨oc,od,.func fd,osl⟩/\PySem.W.codeIn K cdv qual=true
 kp:PySem.W.keepIn K (.ref f)=true
section
variable {P:Program}{w:World}{K:PySem.W.Frag}{mg:Str->Option Value}{base:Heap}
theorem Fun.binds {x qual:Str}{st:Stmt}{f:Addr}{fd:FuncData}{ps:List Str} (F:Fun K x qual st f fd)
  (h:∀(kV doc pm:Value) (an:Option Addr) (cdv ct:Value) (us:List Value),us.length=ps.length->bindArgs (PySem.W.fnOf x qual (defArgs st) (defBody st) (defScope st) .none kV doc pm an cdv ct) ⟨us,[]⟩=pure (ps.zip us)):Binds K fd ps []:=by
 obtain⟨oc,od,kV,doc,pm,an,cdv,ct,osl,rfl,lk,hcd⟩:=F.ex
 exact .all (h kV doc pm an cdv ct)
theorem ZV {x qual:Str}{st:Stmt}{f:Addr}{oc:Value}{od an:Option Addr}{osl:Array (Option Value)}{kV doc pm cdv ct:Value} (l:K.lookup f=some ⟨oc,od,.func (PySem.W.fnOf x qual (defArgs st) (defBody st) (defScope st) .none kV doc pm an cdv ct),osl⟩)
  (c:PySem.W.codeIn K cdv qual=true) (k:PySem.W.keepIn K (.ref f)=true):Fun K x qual st f (PySem.W.fnOf x qual (defArgs st) (defBody st) (defScope st) .none kV doc pm an cdv ct):=⟨⟨oc,od,kV,doc,pm,an,cdv,ct,osl,rfl,l,c⟩,k⟩
end
section
variable {X:Cx}
theorem pv (i:Nat) {x:Str}{pos:Pos} (hN:X.N[i]?=some x:=by rfl) (hv:Vis X.env.scope x:=by first|exact Or.inl rfl|exact Or.inr (Or.inl rfl)|exact Or.inr (Or.inr rfl)) (hd:(x==("__debug__":Str))=false:=by decide)
  (hcd:(x==("__classdict__":Str))=false:=by decide):PE X (.Name x pos) (tVar i):=pe_var hN hv hd hcd
end
theorem iteT {A B:Prop} (h:A):if true=true then A else B:=by
 rw[Yc rfl]
 exact h
theorem ZaX {c A B:Prop} [Decidable c] (h1:c->A) (h2:¬ c->B):if c then A else B:=by
 by_cases h:c
 ·rw[Yc h]
  exact h1 h
 ·rw[Yb h]
  exact h2 h
noncomputable def Zf (H H':Hp):Prop:=∀b o,H b=some o->H' b=some o
theorem Zf.refl (H:Hp):Zf H H:=λ_ _ h=>h
theorem Zf.trans {H H1 H2:Hp} (a:Zf H H1) (b:Zf H1 H2):Zf H H2:=λc o h=>b c o (a c o h)
theorem Zf.free {H H':Hp} (e:Zf H H') {l:Addr} (h:H' l=Option.none):H l=Option.none:=by
 cases q:H l with
 |none=>rfl
 |some o =>
  rw[e l o q]at h
  cases h
theorem Zf.seq {K:PySem.W.Frag}{H H':Hp}{a:Addr}{xs:List V} (e:Zf H H') (h:SqL K H a xs):SqL K H' a xs:=by
 rcases h with(h|⟨o,h⟩)|h
 ·exact .inl (.inl (e _ _ h))
 ·exact .inl (.inr ⟨o,e _ _ h⟩)
 ·exact .inr h
theorem Zc1 {env:Env}:∀(names:List (Str×NameKind)) (cs0:List (Str×Addr)),(∀y∈names,y.2=.free->∃c,env.cells.lookup y.1=some c) ->
  ∃cl,(forIn names cs0 (λ(x:Str×NameKind) r=>(do
   match x with
   |(name,kind)=>if (kind==NameKind.free)=true then do let a <-cellOf env name;pure (ForInStep.yield ((name,a)::r))else pure (ForInStep.yield r)):_->_->Sem (ForInStep (List (Str×Addr)))))=pure cl /\
   (∀p∈cl,p∈cs0\/env.cells.lookup p.1=some p.2)/\(∀p∈cs0,p∈cl)/\(∀y∈names,y.2=.free->∃c,(y.1,c)∈cl)
 |[],cs0,_=>⟨cs0,rfl,λp h=>.inl h,λp h=>h,λy h=>by cases h⟩
 |(n,k)::r,cs0,h=>by
  by_cases hk:k=.free
  ·subst hk
   obtain⟨c,hc⟩:=h (n,.free) (.head _) rfl
   obtain⟨cl,e,h1,h2,h3⟩:=Zc1 r ((n,c)::cs0) λy hy=>h y (.tail _ hy)
   refine⟨cl,?_,λp hp=>?_,λp hp=>h2 p (.tail _ hp),λy hy hf=>?_⟩
   ·rw[List.forIn_cons]
    have e1:cellOf env n=pure c:=by unfold cellOf;rw[hc]
    simp only[beq_self_eq_true,if_true,e1,pure_bind]
    exact e
   ·rcases h1 p hp with q|q
    ·rcases Yq.mp q with q|q
     ·subst q;exact .inr hc
     ·exact .inl q
    ·exact .inr q
   ·rcases Yq.mp hy with q|q
    ·subst q;exact⟨c,h2 _ (.head _)⟩
    ·exact h3 y q hf
  ·obtain⟨cl,e,h1,h2,h3⟩:=Zc1 r cs0 λy hy=>h y (.tail _ hy)
   refine⟨cl,?_,h1,h2,λy hy hf=>?_⟩
   ·rw[List.forIn_cons]
    have e1:(k==NameKind.free)=false:=by cases k<;>first|rfl|exact absurd rfl hk
    simp only[e1,Bool.false_eq_true,if_false,pure_bind]
    exact e
   ·rcases Yq.mp hy with q|q
    ·subst q;exact absurd hf hk
    ·exact h3 y q hf
theorem Zam {env:Env}:∀{names:List (Str×NameKind)}{x:Str}{k:NameKind},(names.map λ(n,k)=>if (k==NameKind.free&&env.scope.kind==.function&&env.kindOf n==some .cell)then (n,NameKind.cell)else (n,k)).lookup x=some k ->
  ∃k',names.lookup x=some k'/\(k=k'\/(k'=.free/\k=.cell))
 |[],_,_,h=>by simp at h
 |(n,k0)::r,x,k,h=>by
  by_cases hx:x=n
  ·subst hx
   refine⟨k0,by simp,?_⟩
   simp only[YV]at h
   split at h
   ·rename_i hc
    simp only[Bool.and_eq_true,beq_iff_eq]at hc
    simp only[List.lookup_cons_self,Option.some.injEq]at h
    exact .inr ⟨hc.1.1,h.symm⟩
   ·simp only[List.lookup_cons_self,Option.some.injEq]at h
    exact .inl h.symm
  ·have hb:(x==n)=false:=by simpa using hx
   simp only[YV]at h
   have e2:∀k1,((n,k1)::r).lookup x=r.lookup x:=λk1=>by simp[List.lookup_cons,hb]
   split at h<;>(simp only[List.lookup_cons,hb]at h;obtain⟨k',h1,h2⟩:=Zam h;exact⟨k',by rw[e2];exact h1,h2⟩)
noncomputable def Zjw (X:Cx) (Nc:List Str) (scope:Scope) (cl:List (Str×Addr)) (C:Addr) (s2:Shared) (H2:Hp) (fp:List Addr):Cx where
 prog:=X.prog
 w:=X.w
 K:=X.K
 mg:=X.mg
 base:=X.base
 A:=X.A
 N:=Nc
 s₀:=s2
 H₀:=H2
 env:=compEnvC scope cl C X.env
 outer:=X.stack
 stack:=X.stack
 ex:=fp
 fn:=λ_=>false
 calm:=X.calm
 pn:=[]
 xe:=λ_ _=>False
noncomputable def ZbO (js:List (Option Nat)) (σ:St):St:=js.map λj=>match j with
 |none=>none
 |some i=>(σ[i]?).join
noncomputable def ZaC (N Nc:List Str) (scope:Scope):List (Option Nat)->Nat->Bool
 |[],i=>i==Nc.length
 |none::r,i=>ZaC N Nc scope r (i+1)
 |some j::r,i=>(match Nc[i]?,N[j]? with
  |some x,some y=>x==y&&scope.names.lookup x==some .free
  |_,_=>false)&&ZaC N Nc scope r (i+1)
theorem Zc2 {N Nc:List Str}{scope:Scope}:∀{js:List (Option Nat)}{i:Nat},ZaC N Nc scope js i=true->i+js.length=Nc.length
 |[],i,h=>by simpa[ZaC]using h
 |none::r,i,h=>by
  have:=Zc2 (js:=r) (i:=i+1) (by simpa[ZaC]using h)
  simp only[YB];omega
 |some j::r,i,h=>by
  simp only[ZaC,Bool.and_eq_true]at h
  have:=Zc2 (js:=r) (i:=i+1) h.2
  simp only[YB];omega
theorem ZdI {N Nc:List Str}{scope:Scope}:∀{js:List (Option Nat)}{i k j:Nat},ZaC N Nc scope js i=true->js[k]?=some (some j)->∃x,Nc[i+k]?=some x/\N[j]?=some x/\scope.names.lookup x=some .free
 |[],i,k,j,h,e=>by simp at e
 |none::r,i,0,j,h,e=>by simp at e
 |none::r,i,k+1,j,h,e=>by
  obtain⟨x,h1,h2,h3⟩:=ZdI (js:=r) (i:=i+1) (k:=k) (j:=j) (by simpa[ZaC]using h) (by simpa using e)
  exact⟨x,by rw[<-h1];congr 1;omega,h2,h3⟩
 |some j0::r,i,0,j,h,e=>by
  simp only[ZaC,Bool.and_eq_true]at h
  simp only[List.getElem?_cons_zero,Option.some.injEq]at e
  subst e
  cases e1:Nc[i]? with
  |none=>rw[e1]at h;simp at h
  |some x =>
   cases e2:N[j0]? with
   |none=>rw[e1,e2]at h;simp at h
   |some y =>
    rw[e1,e2]at h
    simp only[Bool.and_eq_true,beq_iff_eq]at h
    exact⟨x,by simpa using e1,by rw[h.1.1],h.1.2⟩
 |some j0::r,i,k+1,j,h,e=>by
  simp only[ZaC,Bool.and_eq_true]at h
  obtain⟨x,h1,h2,h3⟩:=ZdI (js:=r) (i:=i+1) (k:=k) (j:=j) h.2 (by simpa using e)
  exact⟨x,by rw[<-h1];congr 1;omega,h2,h3⟩
section
variable {X:Cx}
theorem lookup_mem {names:List (Str×NameKind)}{x:Str}{k:NameKind} (h:names.lookup x=some k):(x,k)∈names:=PySem.mem_of_lookup h
theorem Zb9 {prog:Program}{w:World}{A:Around}{R:Result->Shared->Prop}{s:Shared}{elt target iter:Expr}{ifs:List Expr}{scope:Scope}{pos:Pos}{it acc:Value}{env:Env} (I:Nat->Shared->Prop)
  (turn:∀n s,I n s->wpAny (model prog w) A (pyNext it) (λr s₁=>match r with
   |none=>R (.ok .next) s₁
   |some v=>wpAny (model prog w) A (letOwnedTupleGo target it v) (λ_ s₁=>wpAny (model prog w) A (assign target env v) (λ_ s₂ =>
     wpAny (model prog w) A (forIn ifs true λc r=>if r=true then do let ok <-isTrue c env (eval c env);pure (ForInStep.yield ok)else pure (ForInStep.yield r)) (λok s₃ =>
      if ok=true then wpAny (model prog w) A (eval elt env) (λx s₄ =>
       wpAny (model prog w) A (call (.builtin "list.append") [acc,x]) (λ_ s₅=>∃m,m<n/\I m s₅) (λ_ _=>False) s₄) (λ_ _=>False) s₃
      else ∃m,m<n/\I m s₃) (λ_ _=>False) s₂) (λ_ _=>False) s₁) (λ_ _=>False) s₁) (λ_ _=>False) s)
  (n:Nat) (h:I n s) :
  codeAny (model prog w) A (.compLoop (.ListComp elt [⟨target,iter,ifs,0⟩] scope pos) 0 it acc env) R s:=by
 refine codeAny_loop rfl I (λn s hI=>?_) n h
 show wpAny _ A ((compTurn (.ListComp elt [⟨target,iter,ifs,0⟩] scope pos) 0 it acc env).onRaise (λx=>do noteFrame x env;theTreesLotGoes x)) _ _ s
 refine wpAny_noted ?_
 rw[compTurn_list]
 refine Ya (wpAny_standAt (Ya (YE (turn n s hI) (λr s₁ h₁=>?_) λ_ _ h'=>h'.elim)))
 cases r with
 |none=>exact Yd h₁
 |some v =>
  refine Ya (YE h₁ (λ_ s₁' h₁=>?_) λ_ _ h'=>h'.elim)
  refine Ya (YE h₁ (λ_ s₂ h₂=>Ya (YE h₂ (λok s₃ h₃=>?_) λ_ _ h'=>h'.elim)) λ_ _ h'=>h'.elim)
  cases ok with
  |false=>exact Yd ⟨rfl,h₃⟩
  |true =>
   exact Ya (Ya (YE h₃ (λx s₄ h₄=>Ya (YE h₄ (λ_ s₅ h₅=>Yd (Yd ⟨rfl,h₅⟩)) λ_ _ h'=>h'.elim)) λ_ _ h'=>h'.elim))
noncomputable def ZiE (X:Cx) (ifs:List Expr) (t:TT):Prop :=
 ∀(pins:List (Addr×Obj)) (s:Shared) (σ:St) (H:Hp) (Q:Bool->Hp->Prop),Inv X pins σ H s->t σ H Q ->
  wpAny (model X.prog X.w) X.A (forIn ifs true λc r=>if r=true then do let ok <-isTrue c X.env (eval c X.env);pure (ForInStep.yield ok)else pure (ForInStep.yield r)) (TP X pins σ Q) X.xe s
noncomputable def tYes:TT:=λ_ H Q=>Q true H
theorem ZbF:ZiE X [] tYes:=λpins s σ H Q I h=>wpAny_tests_nil ⟨H,I,h⟩
theorem Zca {c:Expr}{t:TT} (h:PT X c t):ZiE X [c] t:=λpins s σ H Q I hq=>wpAny_tests_one (h pins s σ H Q I hq)
noncomputable def Zbs (L:List Nat) (σ σ':St):Prop:=σ'.length=σ.length/\∀k,k∉L->σ'[k]?=σ[k]?
noncomputable def Zfl (g:TG) (L:List Nat):Prop:=∀v σ H (Q Q':St->Hp->Prop),(∀σ' H',Zbs L σ σ'->Q σ' H'->Q' σ' H')->g v σ H Q->g v σ H Q'
noncomputable def ZfS (g:TGs) (L:List Nat):Prop:=∀v σ H (Q Q':St->Hp->Prop),(∀σ' H',Zbs L σ σ'->Q σ' H'->Q' σ' H')->g v σ H Q->g v σ H Q'
theorem Zbs.refl {L:List Nat}{σ:St}:Zbs L σ σ:=⟨rfl,λ_ _=>rfl⟩
theorem Zbs.trans {L L':List Nat}{a b c:St} (x:Zbs L a b) (y:Zbs L' b c):Zbs (L++L') a c :=
 ⟨y.1.trans x.1,λk hk=>(y.2 k λz=>hk (Ys _ z)).trans (x.2 k λz=>hk (YF _ z))⟩
theorem ZO {i:Nat}:Zfl (Zer i) [i]:=λv σ H Q Q' hq h=>hq _ _ ⟨by simp,λk hk=>by
 rw[List.getElem?_set_ne]
 intro z;subst z;exact hk (by simp)⟩ h
theorem Zjx:ZfS gNil []:=λv σ H Q Q' hq h=>⟨h.1,hq _ _ Zbs.refl h.2⟩
theorem Zfm {t:TG}{u:TGs}{L L':List Nat} (h1:Zfl t L) (h2:ZfS u L'):ZfS (Zjj t u) (L++L'):=λv σ H Q Q' hq h=>by
 obtain⟨x,r,e,h⟩:=h
 exact⟨x,r,e,h1 _ _ _ _ _ (fun σ' H' k1 q=>h2 _ _ _ _ _ (fun σ2 H2 k2 q2=>hq _ _ (k1.trans k2) q2) q) h⟩
theorem Zjy {K:PySem.W.Frag}{n:Nat}{t:TGs}{L:List Nat} (h:ZfS t L):Zfl (gTup K n t) L:=λv σ H Q Q' hq q=>by
 obtain⟨a,xs,e1,e2,e3,q⟩:=q
 exact⟨a,xs,e1,e2,e3,h _ _ _ _ _ hq q⟩
noncomputable def Zh9 (wi:TI) (g:TG) (tt:TT) (te:TE) (js:List (Option Nat)):TE:=fun σ H Q=>wi σ H λJ H1=>∃W:Nat->Nat->List V->Hp->Prop,(∃m,W 0 m [] H1)/\∀i m acc H,W i m acc H ->
 (J.stop i H/\acc.length<=sizeLine/\∀p,H p=none->Q (.ref p) (upd H p (.lst acc))) \/
 (J.go i H/\acc.length<sizeLine/\∀x H',J.yld i H x H'->g x (ZbO js σ) H' fun σ2 H2=>tt σ2 H2 λb H3=>if b=true then te σ2 H3 λv H4=>∃m',m'<m/\W (i+1) m' (acc++[v]) H4 else ∃m',m'<m/\W (i+1) m' acc H3)
theorem ZfT {C:Addr}{h:Heap}:Heap.SameBut C h h:=by
 first|exact Heap.SameBut.refl|exact⟨rfl,λ_ _=>rfl⟩
end
end L2
namespace L2
open PySem PySem.Spec PyProof.Rows PySem.W PySem.Builtin.ObjectAttr PySem.Builtin.Getset_descriptor
noncomputable def Zgx (x C:Addr) (h:Heap):Prop:=∃o,h.get? x=some o/\o.cls=.ref C
structure ExK (K:Frag) (C:Addr):Prop where
 dk:hasDictIn K C=true
 ga:findIn K (.ref C) "__getattribute__"=some (some (.builtin "BaseException.__getattribute__"))
 gt:findIn K (.ref C) "__getattr__"=some none
 cl:findIn K (.ref C) "__class__"=some (some (.builtin "object.__class__"))
 gg:specialIn K (.builtin "object.__class__") "__get__"=some (some (.builtin "getset_descriptor.__get__"))
 tk:takesIn K (.builtin "object.__class__")=some true
 mo:mroIn K C (.type "object")=some true
 mb:mroIn K C (.type "BaseException")=some true
section
variable {K:Frag}{x C:Addr}
theorem Zgx.type {M:Model}{h:Heap} (I:Zgx x C h):Looks M h (typeOf (.ref x)) (.ref C):=by
 obtain⟨o,e,c⟩:=I
 exact c▸(Looks.ld e).andThen .now
theorem Zjz {M:Model}{h:Heap} (X:K.In h) (Z:ExK K C):Looks M h (find (.ref x) (.ref C) "__class__") (.bind (.builtin "getset_descriptor.__get__") (.builtin "object.__class__")):=by
 have L3:=looks_takesIn (M:=M) X Z.tk
 exact(looks_findIn (M:=M) X Z.cl).andThen ((looks_specialIn X Z.gg).andThen
  ((show Looks M h (dataDescriptor? (some (.builtin "object.__class__")) (some (.builtin "getset_descriptor.__get__"))) (some (.builtin "getset_descriptor.__get__",.builtin "object.__class__"))from L3.andThen .now).andThen (Looks.tag .now)))
theorem ZkK {prog:Program}{w:World}{A:Around}{R:Result->Shared->Prop}{s:Shared}{tp:Value} (X:K.In s.heap) (I:Zgx x C s.heap) (Z:ExK K C) (hR:R (.ok (.ret (.ref C))) s) :
  codeAny (model prog w) A (.call (.builtin "getset_descriptor.__get__") ⟨[.builtin "object.__class__",.ref x,tp],[]⟩) R s:=by
 obtain⟨hp,gn,dw,tk,os⟩:=s
 have L0:=I.type (M:=model prog w)
 have L1:=looks_mroIn (M:=model prog w) X Z.mo
 refine codeAny_call_builtin KF.slot_gs.plain KF.entry_gs (KF.slot_gs.check _ _ _ _ _ _ _ _ KF.type_class (KF.args_gs _ _ _) ?_)
 unfold Builtin.«getset_descriptor.__get__» descrGet;rw[dga_obj];refine Ya (Yd ?_)
 unfold descrGetter descrCheckInstance descrNameAndClass isInstance;simp only[KF.owner_class]
 repeat lk
 refine⟨Code.quiet_builtin _ (by decide +kernel),codeAny_builtin KF.entry_class ?_⟩;unfold Builtin.«object.__class__» shownTypeOf
 repeat lk
 exact hR
theorem ZiF {prog:Program}{w:World}{A:Around}{E:Value->Shared->Prop}{s:Shared}{tk:Tok}{Q:Fin->Shared->Prop} (X:K.In s.heap) (I:Zgx x C s.heap) (Z:ExK K C) (hQ:Q (.done (.ret (.ref C))) s) :
  wpAny (model prog w) A (Builtin.«object.__getattribute__» ⟨[.ref x,.str "__class__" tk],[]⟩) Q E s:=by
 obtain⟨hp,gn,dw,t,os⟩:=s
 have L0:=I.type (M:=model prog w)
 have L2:=Zjz (M:=model prog w) (x:=x) X Z
 unfold Builtin.«object.__getattribute__»
 refine Ya (Yd (Ya (Yd (Ya (L0.at (Ya (L2.at ?_)))))))
 show wpAny _ _ (holding _ (call _ _) >>= ret) _ _ _
 exact Ya (wpAny_holding (wpAny_call (ZkK (s:=⟨hp,gn,dw,t,os⟩) X I Z (Yd hQ))))
theorem ZiG {M:Model}{A:Around}{E:Value->Shared->Prop}{s:Shared}{nameV:Value}{Q:Unit->Shared->Prop} (X:K.In s.heap) (I:Zgx x C s.heap) (Z:ExK K C) (hq:Q () s) :
  wpAny M A (checkBuiltinCall "BaseException.__getattribute__" ⟨[.ref x,nameV],[]⟩) Q E s:=by
 obtain⟨hp,gn,dw,t,os⟩:=s
 have hk:builtinKind "BaseException.__getattribute__"=some .slot:=by decide +kernel
 have hsplit:splitId "BaseException.__getattribute__"=some ("BaseException","__getattribute__"):=by decide +kernel
 have L0:=I.type (M:=M)
 have L1:=looks_mroIn (M:=M) X Z.mb
 have ha:=F.args_bexc_ga (.ref x) nameV
 simp only[checkBuiltinCall,hk,hsplit]
 refine Ya ?_
 unfold isInstance
 refine Ya (L0.at (L1.at ?_))
 repeat (first|assumption|wp_step)
theorem ZiH {prog:Program}{w:World}{A:Around}{E:Value->Shared->Prop}{s:Shared}{Q:Option Value->Shared->Prop} (X:K.In s.heap) (I:Zgx x C s.heap) (Z:ExK K C) (hQ:Q (some (.ref C)) {s with toks:=s.toks+1}) :
  wpAny (model prog w) A (getAttr? (.ref x) "__class__") Q E s:=by
 obtain⟨hp,gn,dw,tk,os⟩:=s
 have L0:=I.type (M:=model prog w)
 have L1:=looks_findIn (M:=model prog w) X Z.ga
 have L3:=looks_findIn (M:=model prog w) X Z.gt
 have hb:=(F.attrBase_ValueError.ga).bind (.ref x)
 unfold getAttr? getAttrBy? getAttrBy;refine Ya (wpAny_mkText (Ya (wpAny_attempt (wpAny_holding (Ya (L0.at (Ya (L1.at ?_))))))))
 show wpAny _ _ (getAttrByItsOwn _ _ _ _ _ _) _ _ _
 unfold getAttrByItsOwn hookBefore
 refine Ya (L3.at ?_)
 refine Ya (wpAny_attempt (wpAny_holding ?_))
 unfold callGetattribute
 show wpAny _ _ (boundAndCalled _ _ _) _ _ _
 unfold boundAndCalled
 rw[hb]
 refine Ya (Yd ?_)
 refine wpAny_call ?_
 refine codeAny_call_builtin F.attrBase_ValueError.ga.plain F.entry_bexc_ga (ZiG (s:=⟨hp,gn,dw,tk+1,os⟩) X I Z (ZiF (s:=⟨hp,gn,dw,tk+1,os⟩) X I Z ?_))
 exact handed_on rfl (Yd hQ)
theorem ZkL (Z:ExK K C):KitX K (.ref x) (.ref C) (Zgx x C) where
 ty:=λ_ _ _ I=>I.type
 it:=λ_ _ X _=>by
  obtain⟨cdD,hcD,_⟩:=any_some Z.dk
  unfold clsIn at hcD
  split at hcD
  ·rename_i c' d' cd' sl' ho
   intro A' Q' E' s' k q
   unfold isType loadHead;exact Ya (wpAny_loadPart (k _ _ (X _ _ ho)) (Yd q))
  ·cases hcD
 ne:=λh tp dd its n sl X htp=>by
  obtain⟨cdD,hcD,_⟩:=any_some Z.dk
  refine Bool.eq_false_iff.mpr λq=>?_
  have e:C=tp:=Value.ref.inj (beq_iff_eq.mp q);subst e
  unfold clsIn at hcD
  split at hcD
  ·rename_i c' d' cd' sl' ho
   have z:=(X _ _ ho).symm.trans htp;cases z
  ·cases hcD
 ca:=λX I k=>ZiH X I Z k
end
noncomputable def ExcO (e C:Addr):HO:=.ext (Zgx e C)
noncomputable def tyIs (K:Frag) (H:Hp) (x:V) (c:Value) (b:Bool):Prop :=
 (∃t,TyOf K H x t/\kitOne K t c=some b)\/∃e C,x=.ref e/\H e=some (ExcO e C)/\ExK K C/\kitOne K (.ref C) c=some b
noncomputable def cOf:V->Option Value
 |.ref a=>some (.ref a)
 |.ty n=>some (.type n)
 |_=>none
section
variable {X:Cx}
noncomputable def rIsi (K:Frag):List V->Hp->VK->Prop:=λxs H Q=>∃x v c b,xs=[x,v]/\cOf v=some c/\tyIs K H x c b/\Q (.bl b) H
theorem ZjA:ZbD X (.builtin "isinstance") (rIsi X.K):=by
 intro pins s σ H xs us Q I r h
 obtain⟨x,v,c,b,rfl,hc,ht,q⟩:=h
 obtain⟨u,u2,rfl,ru,ru2⟩:=r.two
 have e2:u2=c:=by
  cases v with
  |ref a=>have:=(show u2=Value.ref a from ru2);cases hc;exact this
  |ty n=>have:=(show u2=Value.type n from ru2);cases hc;exact this
  |_=>cases hc
 subst e2
 have fin:∀tk,EP X pins σ Q (.bool b) {s with toks:=tk}:=λtk=>⟨.bl b,H,I.tok tk,rfl,q⟩
 rcases ht with⟨t,ty,e⟩|⟨e,C,rfl,hH,Z,e1⟩
 ·exact Ziz I ru ty e fin
 ·cases(show u=Value.ref e from ru)
  obtain⟨p,_,_⟩:=(show Z8 X.prog X.w H s.heap e (ExcO e C)from I.hok e _ hH)
  exact kia_one (ZkL Z) I.kIn p e1 (λz=>nomatch z) fin
end
end L2
namespace L2
open PySem PySem.Spec PyProof.Rows
structure Fly (P:Program) (w:World) (outer:List Env) (H:Hp) (s:Shared) (H':Hp) (B:Heap) (e:Addr) (C a0:Value) (s':Shared):Prop where
 os:s'.os=s.os
 bare:AllBare s'.gens
 fly:Heap.FlyingW B outer e C a0 s'.heap
 hok:HOk P w H' B
 keep:∀b o,s.heap.get? b=some o->H b=none->b∉frs outer->B.get? b=some o
 slot:∀b o,s.heap.get? b=some o->b∈frs outer->(∀vs,o.data≠.fields vs)->∃sl,s'.heap.get? b=some {o with slots:=sl}
 free:∀b o,s.heap.get? b=some o->H b=none->H' b=none
 there:∀b o,s.heap.get? b=some o->b∉frs outer->∃o',B.get? b=some o'
 tups:∀b xs,H b=some (.tup xs)->H' b=some (.tup xs)
 frzs:∀b o u,H b=some (.frz o u)->H' b=some (.frz o u)
 tbls:∀b ps,H b=some (.tbl ps)->∃more,H' b=some (.tbl (ps++more))
noncomputable def CXE (P:Program) (w:World):CXT:=λouter H s E ev s'=>∃e C a0 H' B,ev=.ref e/\Fly P w outer H s H' B e C a0 s'/\E C none H'
theorem ZS {P:Program}{w:World}{X:Cx}:Passes (CXE P w) X E0:=λ_ _ _ _ _ _ _ ⟨_,_,_,_,_,_,_,z⟩=>z.elim
section
variable {P:Program}{w:World}{K:PySem.W.Frag}{mg:Str->Option Value}{base:Heap}{N:List Str}{qual:Str}{scope:Scope}{f:Addr}{cd:Value}{A:Around}{outer:List Env}{s:Shared}{H:Hp}{E:XK}
theorem ZfU {pins:List (Addr×Obj)}{σ:St}{H1:Hp}{s1:Shared}{h':Heap}{e:Addr}{C:Value}{vs:List Value} (I:Inv (Zei (CXE P w) P w K mg base N qual scope f cd A outer s H E) pins σ H1 s1)
  (hx:Heap.MadeExcOf s1.heap h' e C vs) (hE:E C none H1):(Zei (CXE P w) P w K mg base N qual scope f cd A outer s H E).xe (.ref e) {s1 with heap:=h'}:=by
 let env:=envOfC qual scope s.heap.objs.size f cd
 let B:=PySem.W.hideAll s1.heap (frs (env::outer))
 have hin:∀en∈(env::outer),∀b,en.frame=some b->b∈frs (env::outer):=λen he b hb=>List.mem_filterMap.mpr ⟨en,he,hb⟩
 have st:s1.heap.FunFrames base (env::outer):=I.stack
 have loc:∀b,b∈frs (env::outer)->b=s.heap.objs.size\/b∈frs outer:=λb hb=>Yq.mp (I.ZdD b hb)
 have old:∀b o,s.heap.get? b=some o->b∉frs outer->b∉frs (env::outer):=λb o q nb hb=>by
  rcases loc b hb with z|z
  ·exact absurd (Yg q) (by rw[z];exact Yy _)
  ·exact nb z
 have un:Un (frs outer) [] H H1 s.heap s1.heap:=I.base
 have hokB:HOk P w H1 B:=λa o q=>by
  have nf:∀b o,H1 b=some o->b∉frs (env::outer):=λb o z hb=>by
   have:=I.ZfF b hb
   rw[this]at z;cases z
  refine(I.hok a o q).ZfD (λb u hb z=>?_) (λ_ z=>z) (λ_ _ z=>z) λ_ _ _ z=>z
  rcases hb with hb|hb
  ·rw[hb]at z⊢;exact PySem.W.hideAll_get _ z (nf a o q)
  ·exact PySem.W.hideAll_get _ z (nf b _ hb)
 refine wpAny_leaves_madeW (base:=B) (h:=s1.heap) (env:=env) (outer:=outer) (L:=s.heap.objs.size) I.ok.frames rfl (λb o q=>PySem.W.of_hideAll _ q) (PySem.W.funFrames_hide st hin) hx λh2 t x1 x2 x3 x4=>?_
 refine⟨e,C,.ref t,H1,B,rfl,⟨I.os,I.bare,x1,hokB,λb o q n nb=>?_,λb o q hb hd=>?_,λb o q n=>un.free b o q n (by simp),λb o q nb=>?_,un.tups,un.frzs,un.tbls⟩,hE⟩
 ·exact PySem.W.hideAll_get _ (un.keep b o q n nb (by simp)) (old b o q nb)
 ·obtain⟨sl,z⟩:=un.slot b o q (I.ok.frf b hb) hb (by simp)
  obtain⟨sl2,z2⟩:=x4 b _ (hx.keeps _ _ z) hd
  exact⟨sl2,z2⟩
 ·obtain⟨o',z⟩:=un.there b o q (by simp)
  exact⟨o',PySem.W.hideAll_get _ z (old b o q nb)⟩
theorem ZkM:Passes (CXE P w) (Zei (CXE P w) P w K mg base N qual scope f cd A outer s H E) E:=by
 intro pins σ H1 s1 ev s2 I h
 obtain⟨e,C,a0,H',B,rfl,F,hE⟩:=h
 let env:=envOfC qual scope s.heap.objs.size f cd
 have un:Un (frs outer) [] H H1 s.heap s1.heap:=I.base
 have loc:∀b,b∈frs (env::outer)->b=s.heap.objs.size\/b∈frs outer:=λb hb=>Yq.mp (I.ZdD b hb)
 have old:∀b o,s.heap.get? b=some o->b∉frs outer->b∉frs (env::outer):=λb o q nb hb=>by
  rcases loc b hb with z|z
  ·exact absurd (Yg q) (by rw[z];exact Yy _)
  ·exact nb z
 refine wpAny_leaves_onW (env:=env) (outer:=outer) (L:=s.heap.objs.size) I.ok.frames rfl F.fly λh2 x1 x2=>?_
 refine⟨e,C,a0,H',B,rfl,⟨F.os.trans I.os,F.bare,x1,F.hok,λb o q n nb=>F.keep b o (un.keep b o q n nb (by simp)) (un.free b o q n (by simp)) (old b o q nb),λb o q hb hd=>?_,λb o q n=>?_,λb o q nb=>?_,λb xs z=>F.tups b xs (un.tups b xs z),λb o u z=>F.frzs b o u (un.frzs b o u z),λb ps z=>?_⟩,hE⟩
 ·obtain⟨sl,z⟩:=un.slot b o q (I.ok.frf b hb) hb (by simp)
  obtain⟨en,he,hf⟩:=List.mem_filterMap.mp hb
  obtain⟨sl2,z2⟩:=F.slot b _ z (List.mem_filterMap.mpr ⟨en,.tail _ he,hf⟩) hd
  obtain⟨sl3,z3⟩:=x2 b _ z2 hd
  exact⟨sl3,z3⟩
 ·by_cases hb:b∈frs outer
  ·have h1:H1 b=none:=un.free b o q n (by simp)
   obtain⟨sl,z⟩:=un.slot b o q n hb (by simp)
   exact F.free b _ z h1
  ·exact F.free b o (un.keep b o q n hb (by simp)) (un.free b o q n (by simp))
 ·obtain⟨o',z⟩:=un.there b o q (by simp)
  exact F.there b o' z (old b o q nb)
 ·obtain⟨m1,z1⟩:=un.tbls b ps z
  obtain⟨m2,z2⟩:=F.tbls b _ z1
  exact⟨m1++m2,by rw[<-Array.append_assoc];exact z2⟩
end
abbrev bmV:List Value:=[.type "ValueError",.type "Exception",.type "BaseException",.type "object"]
abbrev newV:String:="ValueError.__new__"
theorem own_mk {K:PySem.W.Frag}{h:Heap}{mg:Str->Option Value}{x:Str}{C:Addr} (X:K.In h) (hm:mg x=some (.ref C)) (q:PySem.W.excIn K C bmV newV=true):OwnCls x C bmV newV mg h:=by
 refine⟨hm,?_⟩
 unfold PySem.W.excIn at q;split at q
 ·rename_i dd cd sl ho
  split at q
  ·rename_i C' bm k0 k1 k2 k3 n k5 hmm hs
   simp only[Bool.and_eq_true,beq_iff_eq,Bool.not_eq_true']at q;obtain⟨⟨⟨⟨⟨rfl,rfl⟩,hdel⟩,ht⟩,hok⟩,hni⟩:=q
   obtain⟨nm,bs,mro,ns,qn,hd,sn,sub,ab,col,del⟩:=cd;dsimp only at hmm hdel hok hni;subst hmm hdel
   have hsl:sl=#[k0,k1,k2,k3,some (.builtin newV),k5]:=by obtain⟨l⟩:=sl;simp only at hs;rw[hs]
   subst hsl;exact⟨bm,ns,nm,qn,bs,hd,sn,sub,ab,col,dd,k0,k1,k2,k3,k5,_,X _ _ ho,.of_isNs (PySem.W.isNs_of_in X hok),PySem.W.nsMap_none_of_in X hok hni,PySem.W.tail_of_in X ht⟩
  ·cases q
 ·cases q
section
variable {X:Cx}
noncomputable def ZjB (C:Addr) (E:XK) (t:TA):TS:=λ_ σ H=>t σ H λvs H1=>vs.length<=sizeLine/\E (.ref C) none H1
theorem ZjC {x:Str}{C:Addr}{np cpos pos:Pos}{e0:Expr}{es:List Expr}{t:TA}{E:XK} (hc:X.calm=true) (hg:Gl X x) (hm:X.mg x=some (.ref C)) (q:PySem.W.excIn X.K C bmV newV=true) (ha:PA X (e0::es) t)
  (hx:∀pins σ H s h' e vs,Inv X pins σ H s->Heap.MadeExcOf s.heap h' e (.ref C) vs->E (.ref C) none H->X.xe (.ref e) {s with heap:=h'})
  (he:starEach (e0::es) X.env=(false,eval e0 X.env)::starEach es X.env:=by rfl) (hpl:(backTo cpos (starEach es X.env)).any (·.1)=false:=by rfl) (hd:(x==("__debug__":Str))=false:=by decide) :
  PS X (.Raise (some (.Call (.Name x np) (e0::es) [] cpos)) none pos) (ZjB C E t):=by
 intro pins s σ H D I h
 obtain⟨tl,Nn,nm,qn,bs,hdct,sn,sub,ab,col,dd,k0,k1,k2,k3,k5,mN,hC,hN,hni,T⟩:=(own_mk (x:=x) I.mod.kin hm q).obj
 refine wpAny_Raise_call_subT (C:=C) (nm:=nm) (q:=qn) (N:=Nn) (bs:=bs) (bm:=tl) (hdct:=hdct) (sn:=sn) (sub:=sub) (ab:=ab) (col:=col) (dd:=dd) (k0:=k0) (k1:=k1) (k2:=k2) (k3:=k3) (k5:=k5)
  PySem.F.excBase_ValueError (mN:=mN) (T.hasType PySem.F.excBase_ValueError.hasBase) (I.ok.hd hc) (by rw[he];show(false||(backTo cpos (starEach es X.env)).any (·.1))=false;rw[hpl];rfl) hni (ZfG I hg hm ⟨rfl,?_⟩ hd)
 have h2:=ha cpos pins s σ H _ I h
 rw[he]at h2⊢
 exact Calls.evalArgs_plain (thn h2 λus s2 ⟨vs,H2,I2,r,z,q2⟩=>⟨rfl,by rw[<-r.length];exact z,I2.bk _ _ hC,hN.keeps I2.bk,T.keeps I2.bk,λh' e hm'=>hx pins σ H2 s2 h' e us I2 hm' q2⟩)
end
section
variable {P:Program}{w:World}{K:PySem.W.Frag}{mg:Str->Option Value}{base:Heap}
theorem Fun.okX {x qual:Str}{st:Stmt}{f:Addr}{fd:FuncData}{N ps:List Str}{k:Nat}{sp:Sp} (F:Fun K x qual st f fd) (S:FnScope N ps (defScope st)) (len:∀vs H Q E,sp vs H Q E->vs.length=ps.length)
  (hbody:∀(cdv:Value) (A:Around) (outer:List Env) (s:Shared) (H:Hp) (vs:List V) (Q:VK) (E:XK),Room k (A.deeper (envOfC qual (defScope st) s.heap.objs.size f cdv))->sp vs H Q E ->
   ∃t,PSs (Zei (CXE P w) P w K mg base N qual (defScope st) f cdv A outer s H E) (defBody st) t/\t {nx:=λ_ H'=>Q .non H',rt:=Q} (start N vs) H):FnOk P w K mg base (CXE P w) (k+1) f fd ps sp:=by
 obtain⟨oc,od,kV,doc,pm,an,cdv,ct,osl,rfl,lk,hcd⟩:=F.ex
 exact fn_of lk hcd S len λA outer s H vs Q E hr hsp=>hbody cdv A outer s H vs Q E hr hsp
end
end L2
namespace L2
open PySem PySem.Spec PyProof.Rows PySem.W
theorem Zem:∀{ns:List Int}{us:List Value},Vals (ns.map V.int) us->∃xs:Array (Int×Tok),us.toArray=intItems xs/\xs.toList.map (·.1)=ns
 |[],_,.nil=>⟨#[],by simp[intItems],rfl⟩
 |n::ns,_,.cons (b:=u) r t=>by
  obtain⟨tk,rfl⟩:=(show ∃t,u=Value.int n t from r)
  obtain⟨xs,e1,e2⟩:=Zem t
  refine⟨#[(n,tk)]++xs,?_,by simp[e2]⟩
  have:∀(l:List Value),(Value.int n tk::l).toArray=#[Value.int n tk]++l.toArray:=λl=>by simp
  rw[this,e1]
  simp[intItems]
section
variable {X:Cx}
theorem Zak:OpR X (binaryOp .Mult) (rI IntMulOk λi j=>.int (i*j)):=opI λ_ _ _ _ _ _ _ hc q=>mul_int q hc
noncomputable def rSum (K:Frag):List V->Hp->VK->Prop:=λxs H Q=>∃(p:Addr) (ns:List Int),xs=[.ref p]/\SqL K H p (ns.map V.int)/\Q (.int ns.sum) H
theorem ZjD (hc:X.calm=true):ZbD X (.builtin "sum") (rSum X.K):=by
 intro pins s σ H xs us Q I r h
 obtain⟨p,ns,rfl,hp,q⟩:=h
 obtain⟨u,rfl,ru⟩:=r.one
 cases(show u=Value.ref p from ru)
 obtain⟨its,rv,pl,hz⟩:=I.list hp
 obtain⟨ys,e1,e2⟩:=Zem rv
 refine sum_intListG (xs:=ys) (I.ok.hd hc) (e1▸pl.isList) λh' tk t' k=>⟨.int ns.sum,H,I.kept k,⟨t',?_⟩,q⟩
 congr 1
 rw[preSum_eq,<-e2,List.take_of_length_le (by simp)]
noncomputable def PJ (X:Cx) (es:List (Sem Value)) (t:St->Hp->(Hp->Prop)->Prop):Prop :=
 ∀(out:Str) (pins:List (Addr×Obj)) (s:Shared) (σ:St) (H:Hp) (Q:Hp->Prop),out.length+2000*es.length<=100000->Inv X pins σ H s->t σ H Q ->
  wpAny (model X.prog X.w) X.A (joinParts out es) (λu s'=>∃y tk H',u=.str y tk/\Inv X pins σ H' s'/\Q H') X.xe s
theorem pj_nil:PJ X [] (λ_ H Q=>Q H):=λout pins s σ H Q hl I h =>
 joinParts_nil ⟨out,_,H,rfl,I.tok _,h⟩ (by simp at hl;exact Yj hl (by decide))
theorem Zia {x:Str}{j:Nat}{pos:Pos}{es:List (Sem Value)}{t:St->Hp->(Hp->Prop)->Prop} (hx:x.length<=2000) (h:PJ X es t):PJ X (eval (.Constant (.str x) j pos) X.env::es) t:=by
 intro out pins s σ H Q hl I hq
 have hl':(out++x).length+2000*es.length<=100000:=by rw[PySem.strLen_append];simp at hl;omega
 refine joinParts_cons (Calls.Constant_str ⟨Yj (Yj (Nat.le_add_right _ _) hl') (by decide),?_⟩)
 exact h _ pins _ σ H Q hl' (I.tok _) hq
theorem ZiI {i:Int} (h0:0<=i) (h1:i<10 ^ 18):i.natAbs.log2<1920:=by
 by_cases hz:i.natAbs=0
 ·rw[hz];decide
 ·have h3:i.natAbs<2 ^ 60:=by
   have:(2:Nat) ^ 60=1152921504606846976:=by decide
   have h2:(10:Int) ^ 18=1000000000000000000:=by decide
   omega
  exact Yp ((Nat.log2_lt hz).mpr h3) (by decide)
theorem pj_int {e:Expr}{pos:Pos}{es:List (Sem Value)}{te:TE}{t:St->Hp->(Hp->Prop)->Prop} (he:PE X e te) (h:PJ X es t):PJ X (eval (.FormattedValue e (-1) none pos) X.env::es) (fun σ H Q=>te σ H λx H1=>∃i:Int,x=.int i/\(0<=i/\i<10 ^ 18)/\t σ H1 Q):=by
 intro out pins s σ H Q hl I hq
 refine joinParts_cons (FormattedValue_plain (thn (he pins s σ H _ I hq) λu s1 ⟨x,H1,I1,r1,i,ex,⟨h0,h1⟩,q⟩=>?_))
 subst ex
 obtain⟨tk,rfl⟩:=(show ∃t,u=Value.int i t from r1)
 refine wpAny_formatField_int (ZiI h0 h1) ?_
 have hx:(Str.ofString (toString i)).length<=18:=toString_length_le h0 (by decide) h1
 have hl':(out++Str.ofString (toString i)).length+2000*es.length<=100000:=by rw[PySem.strLen_append];simp at hl;omega
 refine⟨Yj (Yj (Nat.le_add_right _ _) hl') (by decide),?_⟩
 exact h _ pins _ σ H1 Q hl' (I1.tok _) q
theorem Zgy (env:Env):∀l:List Expr,(evalEach l env).length=l.length
 |[]=>rfl
 |e::r=>by
  have:evalEach (e::r) env=eval e env::evalEach r env:=rfl
  rw[this,YB,YB,Zgy env r]
theorem ZiJ {e1 e2:Expr}{rest:List Expr}{pos:Pos}{t:St->Hp->(Hp->Prop)->Prop} (h:PJ X (eval e1 X.env::eval e2 X.env::evalEach rest X.env) t) (hn:rest.length<=20:=by decide) :
  PE X (.JoinedStr (e1::e2::rest) pos) (fun σ H Q=>t σ H λH1=>∀y,Q (.str y) H1):=by
 intro pins s σ H Q I hq
 have hle:=Zgy X.env rest
 refine JoinedStr_many (thn (h Str.empty pins s σ H _ (by simp only[YB,hle];show 0+_<=_;omega) I hq) λu s' ⟨y,tk,H',e,I',q⟩=>?_)
 subst e
 exact⟨.str y,H',I',⟨tk,rfl⟩,q y⟩
end
noncomputable def clsAt (mg:Str->Option Value) (x:Str):Addr:=match mg x with
 |some (.ref C)=>C
 |_=>0
noncomputable def tokAt (mg:Str->Option Value) (x:Str):Tok:=match mg x with
 |some (.int _ t)=>t
 |_=>default
noncomputable def Callee (P:Program) (w:World) (K:Frag) (mg:Str->Option Value) (base:Heap) (x:Str) (k:Nat) (ps:List Str) (sp:Sp):Prop :=
 ∃f fd,mg x=some (.ref f)/\keepIn K (.ref f)=true/\Binds K fd ps []/\FnOk P w K mg base (CXE P w) k f fd ps sp
section
variable {X:Cx}
theorem Zag {st:Stmt}{t:TS} (h:PS X.nox st t):PS X st t:=λpins s σ H D I hw =>
 YE (h pins s σ H D (I.Ze4 _) hw) (λ_ _ q=>q.Zb5) λ_ _ z=>False.elim z
theorem Zj {x:Str}{k:Nat}{ps:List Str}{sp:Sp}{E:XK}{e:Expr}{es:List Expr}{t:TA}{p pos:Pos} (C:Callee X.prog X.w X.K X.mg X.base x k ps sp) (hr:Room k X.A) (hg:Gl X x) (hx:Passes (CXE X.prog X.w) X E)
  (ha:PA X (e::es) t) (hdb:(x==("__debug__":Str))=false:=by decide) (he:starEach (e::es) X.env=(false,eval e X.env)::starEach es X.env:=by rfl) (hpl:(backTo pos (starEach es X.env)).any (·.1)=false:=by rfl) :
  PE X (.Call (.Name x p) (e::es) [] pos) (Zjs sp [] E t):=by
 obtain⟨f,fd,hm,hk,hb,F⟩:=C
 exact ZkF F hr hg hm hk hb .nil hx ha hdb he hpl
theorem ZkN {P:Program}{w:World}{K:Frag}{mg:Str->Option Value}{base:Heap}{N:List Str}{qual:Str}{scope:Scope}{f:Addr}{cd:Value}{A:Around}{outer:List Env}{s0:Shared}{H0:Hp}{E:XK}{C:Addr} :
  ∀pins σ H s h' e vs,Inv (Zei (CXE P w) P w K mg base N qual scope f cd A outer s0 H0 E) pins σ H s->Heap.MadeExcOf s.heap h' e (.ref C) vs->E (.ref C) none H->(Zei (CXE P w) P w K mg base N qual scope f cd A outer s0 H0 E).xe (.ref e) {s with heap:=h'} :=
 λ_ _ _ _ _ _ _ I hx hE=>ZfU I hx hE
end
theorem bt_max:bootBuiltins "max"=some (.builtin "max"):=by decide +kernel
theorem bt_min:bootBuiltins "min"=some (.builtin "min"):=by decide +kernel
theorem bt_sum:bootBuiltins "sum"=some (.builtin "sum"):=by decide +kernel
theorem Zbt:bootBuiltins "isinstance"=some (.builtin "isinstance"):=by decide +kernel
theorem Zey:bootBuiltins "tuple"=some (.type "tuple"):=by decide +kernel
theorem Zhs:bootBuiltins "int"=some (.type "int"):=by decide +kernel
theorem ZkO:bootBuiltins "bool"=some (.type "bool"):=by decide +kernel
section
variable {X:Cx}{pins:List (Addr×Obj)}{σ:St}{H:Hp}{s:Shared}{h':Heap}
theorem Inv.ZfV {t':Nat}{fp:List Addr} (I:Inv X pins σ H s) (k:∀b o,b∉fp->s.heap.get? b=some o->h'.get? b=some o) (hf:∀b∈fp,FpOk X pins H b):Inv X pins σ H {s with heap:=h',toks:=t'}:=by
 have nit:∀b u,H b=some u->b∉fp:=λb u e z=>by rw[(hf b z).1]at e;cases e
 refine I.step (g':=s.gens) (d':=s.drawn) (ch:=fp) (λb hb=>?_) (λb o _ _ hc e _=>k b o hc e) (λb o _ _ hc e _=>⟨o.slots,k b o hc e⟩) (λ_ _ _ _ n=>n)
  (λb o hc e=>⟨o,k b o hc e⟩) (λ_ _ e=>e) (λ_ _ _ e=>e) (λb ps e=>⟨#[],by rw[e];simp⟩) (λm hm=>?_) (λb u e=>?_) I.bare
 ·obtain⟨_,f1,_,f3,f4,f5⟩:=hf b hb
  exact⟨f3,f1,f4,f5⟩
 ·obtain⟨o,es,ep,ho,r⟩:=hm
  exact⟨o,es,ep,k _ o (λz=>(hf _ z).2.1 rfl) ho,r⟩
 ·refine(I.hok b u e).ZfD (λc v hc q=>k c v ?_ q) (λ_ q=>q) (λ_ _ q=>q) λ_ _ _ q=>q
  rcases hc with z|z
  ·rw[z];exact nit b u e
  ·exact nit c _ z
end
theorem cxK {CX:CXT}{P:Program}{w:World}{K:Frag}{mg:Str->Option Value}{base:Heap}{N:List Str}{qual:Str}{scope:Scope}{f:Addr}{cd:Value}{A:Around}{outer:List Env}{s:Shared}{H:Hp}{E:XK} :
  (Zei CX P w K mg base N qual scope f cd A outer s H E).K=K:=rfl
theorem Zf.upd {H H1:Hp}{p:Addr}{o:HO} (h:H p=none) (e:Zf H H1):Zf H (upd H1 p o):=λb u z=>by
 rw[Zg (ZA z h)];exact e b u z
theorem Zf.Zbg {H H1:Hp}{p:Addr}{o:HO} (e:Zf H H1) (h:H1 p=none):Zf H (L2.upd H1 p o):=e.upd (e.free h)
theorem ZkP {X:Cx}{K:Frag}{es:List Expr}{pos:Pos}{k:Nat}{t:TGs}{n:Nat} (hK:X.K=K) (hc:X.calm=true) (h:PGs X es t)
  (hn:(assignEach es X.env).length=n:=by rfl) (hst:(assignEach es X.env).findIdx? (·.1)=none:=by rfl):PG X (.Tuple es k pos) (gTup K n t):=hK▸Zes hc h hn hst
noncomputable def Zgz (J:It) (g:TG) (tb:TS) (D:Ends) (σ:St) (H1:Hp):Prop:=∃W:Nat->Nat->St->Hp->Prop,(∃m,W 0 m σ H1)/\∀i m σ H,W i m σ H ->
 (J.stop i H/\D.nx σ H)\/(J.go i H/\∃N:St->Hp->Prop,(∀σ' H',N σ' H'->∃m',m'<m/\W (i+1) m' σ' H')/\∀x H',J.yld i H x H'->g x σ H' fun σ2 H2=>tb {D with nx:=N,ct:=N,bk:=D.nx} σ2 H2)
theorem ZkQ {wi:TI}{g:TG}{tb:TS}{D:Ends}{σ:St}{H:Hp}:tFor wi g tb D σ H=wi σ H λJ H1=>Zgz J g tb D σ H1:=rfl
noncomputable def Zht (c:TT) (tb:TS) (D:Ends) (σ:St) (H:Hp):Prop:=Zhk c tb D σ H
theorem ZiK {c:TT}{tb:TS}{D:Ends}{σ:St}{H:Hp}:Zhk c tb D σ H=Zht c tb D σ H:=rfl
noncomputable def ZgA (J:It) (g:TG) (tt:TT) (te:TE) (σ0:St) (Q:VK) (H1:Hp):Prop:=∃W:Nat->Nat->List V->Hp->Prop,(∃m,W 0 m [] H1)/\∀i m acc H,W i m acc H ->
 (J.stop i H/\acc.length<=sizeLine/\∀p,H p=none->Q (.ref p) (upd H p (.lst acc))) \/
 (J.go i H/\acc.length<sizeLine/\∀x H',J.yld i H x H'->g x σ0 H' fun σ2 H2=>tt σ2 H2 λb H3=>if b=true then te σ2 H3 λv H4=>∃m',m'<m/\W (i+1) m' (acc++[v]) H4 else ∃m',m'<m/\W (i+1) m' acc H3)
theorem ZjE {wi:TI}{g:TG}{tt:TT}{te:TE}{js:List (Option Nat)}{σ:St}{H:Hp}{Q:VK}:Zh9 wi g tt te js σ H Q=wi σ H λJ H1=>ZgA J g tt te (ZbO js σ) Q H1:=rfl
noncomputable def CW (n:Nat) (vals:Nat->V) (H1:Hp) (i m:Nat) (acc:List V) (H:Hp):Prop:=m=n-i/\i<=n/\acc=(List.range i).map vals/\Zf H1 H
theorem CW.next {n:Nat}{vals:Nat->V}{H1 H:Hp}{i:Nat}{v:V} (hi:i<n) (hv:v=vals i) (s:Zf H1 H):∃m',m'<n-i/\CW n vals H1 (i+1) m' ((List.range i).map vals++[v]) H :=
 ⟨n-(i+1),by omega,rfl,hi,by rw[YN,YY,hv];rfl,s⟩
theorem comp_map {J:It}{n:Nat}{H1:Hp}{g:TG}{tt:TT}{te:TE}{σ0:St}{Q:VK} (vals:Nat->V) (hn:n<sizeLine) (hgo:∀i H,Zf H1 H->i<n->J.go i H) (hstop:∀H,Zf H1 H->J.stop n H)
  (hb:∀i x H H',i<n->Zf H1 H->J.yld i H x H'->g x σ0 H' fun σ2 H2=>tt σ2 H2 λb H3=>if b=true then te σ2 H3 λv H4=>∃m',m'<n-i/\CW n vals H1 (i+1) m' ((List.range i).map vals++[v]) H4 else ∃m',m'<n-i/\CW n vals H1 (i+1) m' ((List.range i).map vals) H3)
  (hk:∀l H',Zf H1 H'->H' l=none->Q (.ref l) (upd H' l (.lst ((List.range n).map vals)))) :
  ZgA J g tt te σ0 Q H1:=by
 refine⟨CW n vals H1,⟨n,rfl,Ym _,rfl,Zf.refl _⟩,?_⟩
 rintro i m acc H ⟨rfl,hi,rfl,s⟩
 by_cases h:i<n
 ·refine .inr ⟨hgo i H s h,by simpa using Nat.lt_trans h hn,λx H' y=>hb i x H H' h s y⟩
 ·have e:i=n:=by omega
  subst e
  exact .inl ⟨hstop H s,by simpa using YK hn,λp hp=>hk p H s hp⟩
theorem Zhu {α:Type}{xs:List α}{i:Int}{j:Nat} (h:i=(j:Int)) (hj:j<xs.length):atI xs i=some xs[j]:=by
 subst h
 unfold atI ixN
 rw[Yc (by omega),Yc (by omega)]
 simp
theorem Zib {α:Type}{xs:List α}{i:Int} (C:α->Prop) (h0:0<=i) (h1:i<xs.length) (h:∀x∈xs,C x):∃v,atI xs i=some v/\C v:=by
 obtain⟨j,rfl⟩:=Int.eq_ofNat_of_zero_le h0
 have hj:j<xs.length:=by omega
 exact⟨xs[j],Zhu rfl hj,h _ (YW hj)⟩
theorem mul_r {a b:Int} (h1:-(2 ^ 64)<b) (h2:b<2 ^ 64):IntMulOk a b:=IntMulOk.of_right (intBits_le_64 h1 h2)
theorem Zic {a b:Int} (h1:-(2 ^ 64)<a) (h2:a<2 ^ 64):IntMulOk a b:=IntMulOk.of_left (intBits_le_64 h1 h2)
theorem ZfW {a b:Int} (ha:Builtin.Int.intBits a<=2 ^ 20) (hb:Builtin.Int.intBits b<=2 ^ 20):IntMulOk a b:=IntMulOk.of_bits ha hb
theorem cp64:ZfJ 10 64:=by unfold ZfJ;decide
theorem cp18:ZfJ 10 18:=by unfold ZfJ;decide
theorem cp9:ZfJ 10 9:=by unfold ZfJ;decide
theorem pm1:IntMulOk (10 ^ Int.toNat 64) (10 ^ Int.toNat 64):=ZfW (by decide +kernel) (by decide +kernel)
theorem pm2:IntMulOk (10 ^ Int.toNat 64*10 ^ Int.toNat 64) (10 ^ Int.toNat 64):=ZfW (by decide +kernel) (by decide +kernel)
noncomputable def Exc (p:Addr) (H H':Hp):Prop:=∀b o,b≠p->H b=some o->H' b=some o
theorem Zf.exc {H H1 H2:Hp}{p:Addr} (s:Zf H H1) (h:H p=none) (e:Exc p H1 H2):Zf H H2:=λb o z=>e b o (ZA z h) (s b o z)
theorem Zf.toExc {H H':Hp}{p:Addr} (s:Zf H H'):Exc p H H':=λb o _ z=>s b o z
theorem Exc.upd {H:Hp}{p:Addr}{o:HO}:Exc p H (L2.upd H p o):=λb u n z=>by rw[Zg n];exact z
theorem range_getD {α β:Type} (xs:List α) (d:α) (f:α->β) (n:Nat) (h:n=xs.length):(List.range n).map (λj=>f (xs.getD j d))=xs.map f:=by
 subst h
 refine List.ext_getElem (by simp) λj h1 h2=>?_
 have hj:j<xs.length:=by simpa using h1
 simp[Yu,hj]
theorem ZaV {K:Frag}{H:Hp}{p:Addr}{xs:List V} (h:H p=some (.lst xs)):tyV K "list" (.ref p) H:=.inl ⟨rfl,_,SqL.of h⟩
theorem ZkR {i j:Int}:Zgq (.int i) (.int j)=true:=rfl
theorem ZkS {i j:Bool}:Zgq (.bl i) (.bl j)=true:=rfl
theorem ZkT {i j:Str}:Zgq (.str i) (.str j)=true:=rfl
theorem ZkU:Zgq .non .non=true:=rfl
theorem ZkV {i:Int}:Zgq .non (.int i)=true:=rfl
theorem ZkW {i:Int}:Zgq (.int i) .non=true:=rfl
section
variable {X:Cx}
noncomputable def rLen (K:Frag):List V->Hp->VK->Prop:=λxs H Q=>∃p ys,xs=[.ref p]/\(SqL K H p ys\/SqT K H p ys)/\Q (.int ys.length) H
theorem Zo {K:Frag} (hK:X.K=K):ZbD X (.builtin "len") (rLen K):=by subst hK;exact ZfR
noncomputable def rTof (K:Frag):List V->Hp->VK->Prop:=λxs H Q=>∃p ys,xs=[.ref p]/\((SqL K H p ys/\∀l,H l=none->Q (.ref l) (upd H l (.tup ys)))\/(SqT K H p ys/\Q (.ref p) H))
theorem ZiL {K:Frag} (hK:X.K=K):ZbD X (.type "tuple") (rTof K):=by subst hK;exact Ze6
theorem Zfn {K:Frag} (hK:X.K=K):ZbD X (.builtin "isinstance") (rIsi K):=by subst hK;exact ZjA
end
theorem ty_ii {K:Frag}{H:Hp}{i:Int}:tyIs K H (.int i) (.type "int") true:=.inl ⟨_,.int i,by with_unfolding_all rfl⟩
theorem ty_ib {K:Frag}{H:Hp}{i:Int}:tyIs K H (.int i) (.type "bool") false:=.inl ⟨_,.int i,by with_unfolding_all rfl⟩
theorem ZkX {a:Addr}{x:Value}:(cOf (.ref a)=some x)=(.ref a=x):=by simp[cOf]
theorem cOf_ty {n:String}{x:Value}:(cOf (.ty n)=some x)=(.type n=x):=by simp[cOf]
theorem ZkY {xs:List Int}{z:Int} (h:xs.getLast?=some z):atI (xs.map V.int) (-1)=some (V.int z):=by
 unfold atI ixN
 cases xs with
 |nil=>cases h
 |cons x r =>
  have hl:((x::r).map V.int).length=r.length+1:=by simp
  rw[hl,Yb (by omega),Yc (by omega)]
  have e:(-1+((r.length+1:Nat):Int)).toNat=r.length:=by omega
  rw[List.getLast?_eq_getElem?]at h
  show((x::r).map V.int)[(-1+((r.length+1:Nat):Int)).toNat]?=_
  rw[e,YA]
  have e2:(x::r).length-1=r.length:=by simp
  rw[e2]at h
  rw[h];rfl
noncomputable def Rows (H:Hp) (l:Addr) (rs:List (List Int)):Prop:=∃as:List Addr,H l=some (.lst (as.map V.ref))/\l∉as/\as.length=rs.length/\∀i (h1:i<as.length) (h2:i<rs.length),H as[i]=some (.lst (rs[i].map V.int))
inductive EqD (K:Frag) (H:Hp):Nat->V->V->Bool->Prop
 |flat {n:Nat}{x y:V} (fx:flatV x=true) (fy:flatV y=true):EqD K H n x y (eqV x y)
 |lst {n:Nat}{a b:Addr}{xs ys:List V} (e:Nat->Bool) (hx:SqL K H a xs) (hy:SqL K H b ys) (hl:xs.length=ys.length) (h:∀j x y,xs[j]?=some x->ys[j]?=some y->EqD K H n x y (e j)):EqD K H (n+1) (.ref a) (.ref b) ((List.range xs.length).all e)
 |len {n:Nat}{a b:Addr}{xs ys:List V} (hx:SqL K H a xs) (hy:SqL K H b ys) (hl:xs.length≠ys.length):EqD K H (n+1) (.ref a) (.ref b) false
 |tup {n:Nat}{a b:Addr}{xs ys:List V} (e:Nat->Bool) (hx:SqT K H a xs) (hy:SqT K H b ys) (h:∀j x y,xs[j]?=some x->ys[j]?=some y->EqD K H n x y (e j)):EqD K H (n+1) (.ref a) (.ref b) ((List.range (min xs.length ys.length)).all e&&xs.length==ys.length)
theorem ZjF {x:V} (h:flatV x=true):eqV x x=true:=by
 cases x<;>first
  |rfl
  |(simp[eqV];done)
  |cases h
section
variable {X:Cx}{pins:List (Addr×Obj)}{σ:St}{H:Hp}{s:Shared}
theorem ZgB (I:Inv X pins σ H s) {n:Nat}{x y:V}{b:Bool} (h:EqD X.K H n x y b):x=y->b=true:=by
 induction h with
 |flat fx fy=>rintro rfl;exact ZjF fx
 |lst e hx hy hl h ih =>
  intro z
  cases z
  have:=I.ZbC hx hy
  subst this
  refine List.all_eq_true.mpr λj hj=>?_
  have hj':=YH.mp hj
  exact ih j _ _ (Yf hj') (Yf hj') rfl
 |len hx hy hl =>
  intro z
  cases z
  have:=I.ZbC hx hy
  subst this
  exact absurd rfl hl
 |tup e hx hy h ih =>
  intro z
  cases z
  have:=I.ZdE hx hy
  subst this
  rw[Nat.min_self]
  have:(List.range _).all e=true:=List.all_eq_true.mpr λj hj=>by
   have hj':=YH.mp hj
   exact ih j _ _ (Yf hj') (Yf hj') rfl
  rw[this];simp
theorem ZfX (I:Inv X pins σ H s) {n:Nat}{x y:V}{b:Bool} (h:EqD X.K H n x y b):∀(A:Around) (u v:Value),A.units+n<cLine->RelV x u->RelV y v->SeqAt.EqAt A s u v b:=by
 induction h with
 |flat fx fy=>intro A u v _ ru rv;exact eqAt_V ru rv fx fy
 |@lst n a b xs ys e hx hy hl h ih =>
  intro A u v hu ru rv
  have hb:=ZgB I (.lst e hx hy hl h)
  cases ru
  cases rv
  by_cases hab:a=b
  ·subst hab
   rw[hb rfl];exact SeqAt.EqAt.same _
  ·obtain⟨is1,r1,p1,_⟩:=I.list hx
   obtain⟨is2,r2,p2,_⟩:=I.list hy
   have e1:=r1.length
   have e2:=r2.length
   have key:=SeqAt.RcAt.lists (A:=A) (s:=s) (e:=e) p1.isList p2.isList (by simp;omega) (by omega) λj h1 h2=>by
    have h1':j<xs.length:=by simpa[e1]using h1
    have h2':j<ys.length:=by simpa[e2]using h2
    obtain⟨u,hu1,ru⟩:=r1.get (Yf h1')
    obtain⟨v,hv1,rv⟩:=r2.get (Yf h2')
    have eu:is1.toArray[j]=u:=by simpa using(Yn.mp hu1).2
    have ev:is2.toArray[j]=v:=by simpa using(Yn.mp hv1).2
    rw[eu,ev]
    exact ih j _ _ (Yf h1') (Yf h2') A.in1 u v (by show A.units+1+n<cLine;omega) ru rv
   have e3:is1.toArray.size=xs.length:=by simp[e1]
   rw[e3]at key
   exact SeqAt.EqAt.of_refs hab key
 |@len n a b xs ys hx hy hl =>
  intro A u v hu ru rv
  cases ru
  cases rv
  have hab:a≠b:=λz=>by subst z;exact hl (congrArg List.length (I.ZbC hx hy))
  obtain⟨is1,r1,p1,_⟩:=I.list hx
  obtain⟨is2,r2,p2,_⟩:=I.list hy
  have e1:=r1.length
  have e2:=r2.length
  exact SeqAt.EqAt.of_refs hab (SeqAt.RcAt.lists_lengths p1.isList p2.isList (by simp;omega) (by omega))
 |@tup n a b xs ys e hx hy h ih =>
  intro A u v hu ru rv
  have hb:=ZgB I (.tup e hx hy h)
  cases ru
  cases rv
  by_cases hab:a=b
  ·subst hab
   rw[hb rfl];exact SeqAt.EqAt.same _
  ·obtain⟨is1,r1,p1,_⟩:=I.tuple hx
   obtain⟨is2,r2,p2,_⟩:=I.tuple hy
   have e1:=r1.length
   have e2:=r2.length
   have key:=SeqAt.RcAt.tuples (A:=A) (s:=s) (e:=e) p1 p2 (by omega) λj h1 h2=>by
    have h1':j<xs.length:=by simpa[e1]using h1
    have h2':j<ys.length:=by simpa[e2]using h2
    obtain⟨u,hu1,ru⟩:=r1.get (Yf h1')
    obtain⟨v,hv1,rv⟩:=r2.get (Yf h2')
    have eu:is1.toArray[j]=u:=by simpa using(Yn.mp hu1).2
    have ev:is2.toArray[j]=v:=by simpa using(Yn.mp hv1).2
    rw[eu,ev]
    exact ih j _ _ (Yf h1') (Yf h2') A.in1 u v (by show A.units+1+n<cLine;omega) ru rv
   have e3:is1.toArray.size=xs.length:=by simp[e1]
   have e4:is2.toArray.size=ys.length:=by simp[e2]
   rw[e3,e4]at key
   exact SeqAt.EqAt.of_refs hab key
end
noncomputable def rEqD (K:Frag) (neg:Bool):R2:=λx y H Q=>∃a b k,x=.ref a/\y=.ref b/\EqD K H 3 x y k/\Q (.bl (if neg then !k else k)) H
section
variable {X:Cx}
theorem Zhv {K:Frag} (hK:X.K=K) {k:Nat} (hr:Room k X.A):OpR X (compareOp .Eq) (rEqD K false):=by
 subst hK
 have hu0:=hr.un
 intro pins s σ H x y v u Q I rx ry h
 obtain⟨a,b,k,rfl,rfl,h,q⟩:=h
 cases rx
 cases ry
 cases h with
 |flat fx fy=>cases fx
 |@lst n _ _ xs ys e hx hy hl h =>
  obtain⟨is1,r1,p1,_⟩:=I.list hx
  obtain⟨is2,r2,p2,_⟩:=I.list hy
  have e1:=r1.length
  have e2:=r2.length
  have e3:is1.toArray.size=xs.length:=by simp[e1]
  refine SeqAt.eq_listAt (e:=e) p1.isList p2.isList (by simp;omega) (by omega) (λj h1 h2=>?_) ⟨.bl _,H,I,rfl,by rw[e3];exact q⟩
  have h1':j<xs.length:=by simpa[e1]using h1
  have h2':j<ys.length:=by simpa[e2]using h2
  obtain⟨u,hu1,ru⟩:=r1.get (Yf h1')
  obtain⟨v,hv1,rv⟩:=r2.get (Yf h2')
  have eu:is1.toArray[j]=u:=by simpa using(Yn.mp hu1).2
  have ev:is2.toArray[j]=v:=by simpa using(Yn.mp hv1).2
  rw[eu,ev]
  exact ZfX I (h j _ _ (Yf h1') (Yf h2')) X.A.in1 u v (by show X.A.units+1+2<cLine;omega) ru rv
 |@len n _ _ xs ys hx hy hl =>
  obtain⟨is1,r1,p1,_⟩:=I.list hx
  obtain⟨is2,r2,p2,_⟩:=I.list hy
  have e1:=r1.length
  have e2:=r2.length
  exact SeqAt.eq_list_lengthsAt p1.isList p2.isList (by simp;omega) (by omega) ⟨.bl _,H,I,rfl,q⟩
 |@tup n _ _ xs ys e hx hy h =>
  obtain⟨is1,r1,p1,_⟩:=I.tuple hx
  obtain⟨is2,r2,p2,_⟩:=I.tuple hy
  have e1:=r1.length
  have e2:=r2.length
  have e3:is1.toArray.size=xs.length:=by simp[e1]
  have e4:is2.toArray.size=ys.length:=by simp[e2]
  refine SeqAt.eq_tupleAt (e:=e) p1 p2 (by omega) (λj h1 h2=>?_) ⟨.bl _,H,I,rfl,by rw[e3,e4];exact q⟩
  have h1':j<xs.length:=by simpa[e1]using h1
  have h2':j<ys.length:=by simpa[e2]using h2
  obtain⟨u,hu1,ru⟩:=r1.get (Yf h1')
  obtain⟨v,hv1,rv⟩:=r2.get (Yf h2')
  have eu:is1.toArray[j]=u:=by simpa using(Yn.mp hu1).2
  have ev:is2.toArray[j]=v:=by simpa using(Yn.mp hv1).2
  rw[eu,ev]
  exact ZfX I (h j _ _ (Yf h1') (Yf h2')) X.A.in1 u v (by show X.A.units+1+2<cLine;omega) ru rv
theorem op_neD {K:Frag} (hK:X.K=K) {k:Nat} (hr:Room k X.A):OpR X (compareOp .NotEq) (rEqD K true):=by
 subst hK
 have hu0:=hr.un
 intro pins s σ H x y v u Q I rx ry h
 obtain⟨a,b,k,rfl,rfl,h,q⟩:=h
 cases rx
 cases ry
 cases h with
 |flat fx fy=>cases fx
 |@lst n _ _ xs ys e hx hy hl h =>
  obtain⟨is1,r1,p1,_⟩:=I.list hx
  obtain⟨is2,r2,p2,_⟩:=I.list hy
  have e1:=r1.length
  have e2:=r2.length
  have e3:is1.toArray.size=xs.length:=by simp[e1]
  refine SeqAt.RcNeAt.lists (e:=e) p1.isList p2.isList (by simp;omega) (by omega) (λj h1 h2=>?_) _ _ _ _ ⟨.bl _,H,I,rfl,by rw[e3];exact q⟩
  have h1':j<xs.length:=by simpa[e1]using h1
  have h2':j<ys.length:=by simpa[e2]using h2
  obtain⟨u,hu1,ru⟩:=r1.get (Yf h1')
  obtain⟨v,hv1,rv⟩:=r2.get (Yf h2')
  have eu:is1.toArray[j]=u:=by simpa using(Yn.mp hu1).2
  have ev:is2.toArray[j]=v:=by simpa using(Yn.mp hv1).2
  rw[eu,ev]
  exact ZfX I (h j _ _ (Yf h1') (Yf h2')) X.A.in1 u v (by show X.A.units+1+2<cLine;omega) ru rv
 |@len n _ _ xs ys hx hy hl =>
  obtain⟨is1,r1,p1,_⟩:=I.list hx
  obtain⟨is2,r2,p2,_⟩:=I.list hy
  have e1:=r1.length
  have e2:=r2.length
  exact SeqAt.RcNeAt.lists_lengths p1.isList p2.isList (by simp;omega) (by omega) _ _ _ _ ⟨.bl _,H,I,rfl,q⟩
 |@tup n _ _ xs ys e hx hy h =>
  obtain⟨is1,r1,p1,_⟩:=I.tuple hx
  obtain⟨is2,r2,p2,_⟩:=I.tuple hy
  have e1:=r1.length
  have e2:=r2.length
  have e3:is1.toArray.size=xs.length:=by simp[e1]
  have e4:is2.toArray.size=ys.length:=by simp[e2]
  refine SeqAt.RcNeAt.tuples (e:=e) p1 p2 (by omega) (λj h1 h2=>?_) _ _ _ _ ⟨.bl _,H,I,rfl,by rw[e3,e4];exact q⟩
  have h1':j<xs.length:=by simpa[e1]using h1
  have h2':j<ys.length:=by simpa[e2]using h2
  obtain⟨u,hu1,ru⟩:=r1.get (Yf h1')
  obtain⟨v,hv1,rv⟩:=r2.get (Yf h2')
  have eu:is1.toArray[j]=u:=by simpa using(Yn.mp hu1).2
  have ev:is2.toArray[j]=v:=by simpa using(Yn.mp hv1).2
  rw[eu,ev]
  exact ZfX I (h j _ _ (Yf h1') (Yf h2')) X.A.in1 u v (by show X.A.units+1+2<cLine;omega) ru rv
end
noncomputable def IsI (v:V) (i:Int):Prop:=v=.int i
noncomputable def IsL (K:Frag) (H:Hp) {α:Type} (P:V->α->Prop) (v:V) (as:List α):Prop:=∃a xs,v=.ref a/\SqL K H a xs/\xs.length=as.length/\∀(j:Nat) (x:V) (y:α),xs[j]?=some x->as[j]?=some y->P x y
noncomputable def IsT (K:Frag) (H:Hp) {α:Type} (P:V->α->Prop) (v:V) (as:List α):Prop:=∃a xs,v=.ref a/\SqT K H a xs/\xs.length=as.length/\∀(j:Nat) (x:V) (y:α),xs[j]?=some x->as[j]?=some y->P x y
noncomputable def EqP (K:Frag) (H:Hp) (n:Nat) {α:Type} [DecidableEq α] (P:V->α->Prop):Prop:=∀x y a b,P x a->P y b->EqD K H n x y (decide (a=b))
theorem ZfY {K:Frag}{H:Hp}{n:Nat}:EqP K H n IsI:=by
 rintro x y a b rfl rfl
 have:=EqD.flat (K:=K) (H:=H) (n:=n) (x:=.int a) (y:=.int b) rfl rfl
 have e:eqV (.int a) (.int b)=decide (a=b):=by simp[eqV,Bool.beq_eq_decide_eq]
 rw[<-e];exact this
theorem all_eq {α:Type} [DecidableEq α] (as bs:List α) (h:as.length=bs.length):(List.range as.length).all (λj=>decide (as[j]?=bs[j]?))=decide (as=bs):=by
 rw[Bool.eq_iff_iff,List.all_eq_true,decide_eq_true_iff]
 constructor
 ·intro q
  refine List.ext_getElem? λj=>?_
  by_cases hj:j<as.length
  ·simpa using q j (YH.mpr hj)
  ·rw[List.getElem?_eq_none (by omega),List.getElem?_eq_none (by omega)]
 ·rintro rfl j _;simp
theorem ZkZ {K:Frag}{H:Hp}{n:Nat}{α:Type} [DecidableEq α] {P:V->α->Prop} (h:EqP K H n P):EqP K H (n+1) (IsL K H P):=by
 rintro x y as bs ⟨a,xs,rfl,hx,lx,px⟩ ⟨b,ys,rfl,hy,ly,py⟩
 by_cases hl:as.length=bs.length
 ·rw[<-all_eq as bs hl,<-lx]
  refine .lst _ hx hy (by omega) λj x y h1 h2=>?_
  have j1:=(Yn.mp h1).1
  have j2:=(Yn.mp h2).1
  have ha:as[j]?=some as[j]:=Yf (by omega)
  have hb:bs[j]?=some bs[j]:=Yf (by omega)
  have:=h x y _ _ (px j _ _ h1 ha) (py j _ _ h2 hb)
  rw[ha,hb]
  simpa using this
 ·have e:decide (as=bs)=false:=by simp;intro z;exact hl (congrArg List.length z)
  rw[e]
  exact .len hx hy (by omega)
theorem Zid {K:Frag}{H:Hp}{n:Nat}{α:Type} [DecidableEq α] {P:V->α->Prop} (h:EqP K H n P):EqP K H (n+1) (IsT K H P):=by
 rintro x y as bs ⟨a,xs,rfl,hx,lx,px⟩ ⟨b,ys,rfl,hy,ly,py⟩
 have key:=EqD.tup (K:=K) (H:=H) (n:=n) (λj=>decide (as[j]?=bs[j]?)) hx hy λj x y h1 h2=>by
  have j1:=(Yn.mp h1).1
  have j2:=(Yn.mp h2).1
  have ha:as[j]?=some as[j]:=Yf (by omega)
  have hb:bs[j]?=some bs[j]:=Yf (by omega)
  have:=h x y _ _ (px j _ _ h1 ha) (py j _ _ h2 hb)
  rw[ha,hb]
  simpa using this
 have e:((List.range (min xs.length ys.length)).all (λj=>decide (as[j]?=bs[j]?))&&xs.length==ys.length)=decide (as=bs):=by
  rw[lx,ly]
  by_cases hl:as.length=bs.length
  ·rw[<-hl,Nat.min_self,all_eq as bs hl];simp
  ·have e:decide (as=bs)=false:=by simp;intro z;exact hl (congrArg List.length z)
   rw[e]
   simp[hl]
 rw[e]at key
 exact key
theorem ZgC {K:Frag}{H:Hp}{a:Addr}{ns:List Int} (h:SqL K H a (ns.map V.int)):IsL K H IsI (.ref a) ns:=⟨a,_,rfl,h,by simp,λj x y h1 h2=>by
 rw[YA,h2]at h1
 exact(Yw h1).symm⟩
theorem Zdm {K:Frag}{H:Hp}{a:Addr}{ns:List Int} (h:SqT K H a (ns.map V.int)):IsT K H IsI (.ref a) ns:=⟨a,_,rfl,h,by simp,λj x y h1 h2=>by
 rw[YA,h2]at h1
 exact(Yw h1).symm⟩
section
variable {X:Cx}
noncomputable def ipM:TIp:=λx y H Q=>∃i j,x=.int i/\y=.int j/\IntMulOk i j/\Q (.int (i*j)) H
theorem ZjG:PIp X .Mult ipM:=by
 intro pins s σ H x y v u Q I r1 r2 h
 obtain⟨i,j,e1,e2,hm,q⟩:=h
 subst e1;subst e2
 obtain⟨t,rfl⟩:=r1
 obtain⟨t',rfl⟩:=r2
 exact imul_int ⟨.int _,H,I.tok _,⟨_,rfl⟩,q⟩ hm
noncomputable def rIxQ (K:Frag):R2:=λx y H Q=>∃p xs i v,x=.ref p/\y=.int i/\(SqL K H p xs\/SqT K H p xs)/\atI xs i=some v/\Q v H
theorem ZiM {K:Frag} (hK:X.K=K):IxR X (rIxQ K):=by
 subst hK
 intro value slice pins s σ H x y v u Q I rx ry h hs
 refine(ZG.or Zc0) (value:=value) (slice:=slice) pins s σ H x y v u Q I rx ry ?_ hs
 obtain⟨p,xs,i,v,rfl,rfl,hq,ha,q⟩:=h
 rcases hq with hq|hq
 ·exact .inl ⟨p,xs,i,v,rfl,rfl,hq,ha,q⟩
 ·exact .inr ⟨p,xs,i,v,rfl,rfl,hq,ha,q⟩
end
noncomputable def Zfo (f:Nat->Int) (a b p:Nat):Prop:=a<=p/\p<=b/\(∀q,a<=q->q<p->f p<f q)/\∀q,p<q->q<=b->f p<=f q
theorem Zfo.join {f:Nat->Int}{a m a' b p q:Nat} (h:Zfo f a m p) (k:Zfo f a' b q) (h1:a<=a') (h2:a'<=m+1) (h3:m<=b):Zfo f a b (if f q<f p then q else p):=by
 obtain⟨p1,p2,p3,p4⟩:=h
 obtain⟨q1,q2,q3,q4⟩:=k
 have pm:∀r,a<=r->r<=m->f p<=f r:=λr r1 r2=>by
  rcases Nat.lt_trichotomy r p with z|z|z
  ·exact Int.le_of_lt (p3 r r1 z)
  ·rw[z];exact Int.le_refl _
  ·exact p4 r z r2
 have qm:∀r,a'<=r->r<=b->f q<=f r:=λr r1 r2=>by
  rcases Nat.lt_trichotomy r q with z|z|z
  ·exact Int.le_of_lt (q3 r r1 z)
  ·rw[z];exact Int.le_refl _
  ·exact q4 r z r2
 split
 ·rename_i hlt
  refine⟨by omega,q2,λr r1 r2=>?_,λr r1 r2=>qm r (by omega) r2⟩
  by_cases z:a'<=r
  ·exact q3 r z r2
  ·have:=pm r r1 (by omega);omega
 ·rename_i hle
  refine⟨p1,by omega,p3,λr r1 r2=>?_⟩
  by_cases z:r<=m
  ·exact p4 r r1 z
  ·have:=qm r (by omega) r2;omega
noncomputable def Zhw (f:Nat->Int) (a:Nat):Nat->Nat
 |0=>a
 |c+1=>if f (a+c+1)<f (Zhw f a c)then a+c+1 else Zhw f a c
theorem Zfp (f:Nat->Int) (a:Nat):Zfo f a a a:=⟨Ye _,Ye _,λq h1 h2=>by omega,λq h1 h2=>by omega⟩
theorem ZfZ (f:Nat->Int) (a c:Nat):Zfo f a (a+c) (Zhw f a c):=by
 induction c with
 |zero=>exact Zfp f a
 |succ c ih =>
  rw[Zhw]
  exact ih.join (Zfp f (a+c+1)) (by omega) (by omega) (by omega)
noncomputable def nth (ns:List Int) (i:Nat):Int:=ns.getD i 0
theorem Za7 {ns:List Int}{i:Nat} (h:i<ns.length):atI (ns.map V.int) (i:Int)=some (V.int (nth ns i)):=by
 rw[Zhu rfl (by simpa using h)]
 simp[nth,Yu,h]
noncomputable def WI (N:Nat) (Pv:Nat->St->Hp->Prop) (m:Nat) (σ:St) (H:Hp):Prop:=∃i,m=N-i/\i<=N/\Pv i σ H
theorem WI.next {N:Nat}{Pv:Nat->St->Hp->Prop}{i:Nat}:∀σ' H',(i+1<=N/\Pv (i+1) σ' H')->∃m',m'<N-i/\WI N Pv m' σ' H':=fun σ' H' h=>⟨N-(i+1),by omega,i+1,rfl,h.1,h.2⟩
theorem Zie {c:TT}{tb:TS}{D:Ends}{σ:St}{H:Hp} (N:Nat) (Pv:Nat->St->Hp->Prop) (h0:Pv 0 σ H)
  (hs:∀i σ H,i<=N->Pv i σ H->c σ H λb H1=>if b=true then ∃Nx:St->Hp->Prop,(∀σ' H',Nx σ' H'->∃m',m'<N-i/\WI N Pv m' σ' H')/\tb {D with nx:=Nx,ct:=Nx,bk:=D.nx} σ H1 else D.nx σ H1):Zht c tb D σ H:=by
 refine⟨WI N Pv,⟨N,0,rfl,Ym _,h0⟩,?_⟩
 rintro m σ H ⟨i,rfl,hi,p⟩
 exact hs i σ H hi p
theorem Zf.Zan {K:Frag}{H H':Hp}{a:Addr}{xs:List V} (e:Zf H H') (h:SqT K H a xs):SqT K H' a xs:=by
 rcases h with(h|⟨o,h⟩)|h
 ·exact .inl (.inl (e _ _ h))
 ·exact .inl (.inr ⟨o,e _ _ h⟩)
 ·exact .inr h
theorem Zf.q {K:Frag}{H H':Hp}{a:Addr}{xs:List V} (e:Zf H H') (h:SqL K H a xs\/SqT K H a xs):SqL K H' a xs\/SqT K H' a xs:=h.imp e.seq e.Zan
theorem Exc.trans {p:Addr}{H H1 H2:Hp} (a:Exc p H H1) (b:Exc p H1 H2):Exc p H H2:=λc o n z=>b c o n (a c o n z)
theorem Exc.free {p q:Addr}{H H':Hp} (e:Exc p H H') (n:q≠p) (h:H' q=none):H q=none:=by
 cases z:H q with
 |none=>rfl
 |some o=>rw[e q o n z]at h;cases h
theorem Exc.ZiN {p q:Addr}{H H':Hp}{o:HO} (e:Exc p H H') (h:H q=none):Exc p H (L2.upd H' q o):=λb u n z=>by
 rw[Zg (ZA z h)];exact e b u n z
theorem Exc.same {p:Addr}{H H1 H2:Hp} (a:Exc p H H1) (s:Zf H1 H2):Exc p H H2:=a.trans s.toExc
noncomputable def CA (n:Nat) (Pv:Nat->List V->Hp->Prop) (i m:Nat) (acc:List V) (H:Hp):Prop:=m=n-i/\i<=n/\acc.length<=i/\Pv i acc H
theorem CA.take {n:Nat}{Pv:Nat->List V->Hp->Prop}{i:Nat}{acc:List V}{v:V}{H:Hp} (hi:i<n) (hl:acc.length<=i) (h:Pv (i+1) (acc++[v]) H):∃m',m'<n-i/\CA n Pv (i+1) m' (acc++[v]) H:=⟨n-(i+1),by omega,rfl,hi,by simp;omega,h⟩
theorem Zez {J:It}{n:Nat}{H1:Hp}{g:TG}{tt:TT}{te:TE}{σ0:St}{Q:VK} (Pv:Nat->List V->Hp->Prop) (hn:n<sizeLine) (h0:Pv 0 [] H1) (hgo:∀i acc H,Pv i acc H->i<n->J.go i H) (hstop:∀acc H,Pv n acc H->J.stop n H)
  (hb:∀i x acc H H',i<n->acc.length<=i->Pv i acc H->J.yld i H x H'->g x σ0 H' fun σ2 H2=>tt σ2 H2 λb H3=>if b=true then te σ2 H3 λv H4=>∃m',m'<n-i/\CA n Pv (i+1) m' (acc++[v]) H4 else ∃m',m'<n-i/\CA n Pv (i+1) m' acc H3)
  (hk:∀l acc H',Pv n acc H'->acc.length<=n->H' l=none->Q (.ref l) (upd H' l (.lst acc))):ZgA J g tt te σ0 Q H1:=by
 refine⟨CA n Pv,⟨n,rfl,Ym _,Ye _,h0⟩,?_⟩
 rintro i m acc H ⟨rfl,hi,hl,p⟩
 by_cases h:i<n
 ·exact .inr ⟨hgo i acc H p h,by omega,λx H' y=>hb i x acc H H' h hl p y⟩
 ·have e:i=n:=by omega
  subst e
  exact .inl ⟨hstop acc H p,by omega,λq hq=>hk q acc H p hl hq⟩
section
variable {X:Cx}
noncomputable def Zif:V->List V->Hp->VK->Prop:=λx vs H Q=>∃l xs i y,x=.ref l/\vs=[.int i,y]/\H l=some (.lst xs)/\0<=i/\i<2 ^ 62/\xs.length<sizeLine/\Q .non (upd H l (.lst (xs.take i.toNat++y::xs.drop i.toNat)))
theorem Vals.ZjH:∀{xs:List V}{us:List Value} (k:Nat),Vals xs us->Vals (xs.take k) (us.take k)
 |_,_,0,_=>by simp;exact .nil
 |_,_,_+1,.nil=>.nil
 |_,_,k+1,.cons r h=>.cons r (Vals.ZjH k h)
theorem Vals.dropN:∀{xs:List V}{us:List Value} (k:Nat),Vals xs us->Vals (xs.drop k) (us.drop k)
 |_,_,0,h=>by simpa using h
 |_,_,_+1,.nil=>.nil
 |_,_,k+1,.cons _ h=>Vals.dropN k h
theorem ZiO:MtM X "list.insert" Zif:=by
 intro pins s σ H x vs v us Q I rx rv h
 obtain⟨l,xs,i,y,rfl,rfl,hH,h1,h2,hz,q⟩:=h
 cases rx
 obtain⟨u,u2,rfl,ru,ru2⟩:=rv.two
 obtain⟨t,rfl⟩:=ru
 obtain⟨z,its,n,r,hl,e⟩:=I.Zgu hH
 have hf:¬ (!Builtin.List.listFitsIndex i)=true:=by
  unfold Builtin.List.listFitsIndex
  have a1:decide (-(2 ^ 63:Int)<=i)=true:=YQ (by omega)
  have a2:decide (i<(2 ^ 63:Int))=true:=YQ (by omega)
  rw[a1,a2];decide
 refine call_meets F.slot_list_insert ⟨_,e,rfl⟩ F.entry_list_insert (F.args_list_insert_3 _ _ _) (AutoListH.list_insert_list_int_val_1 l its.toArray n i t u2 hf (by rw[Yk];omega)) ⟨e,?_⟩
 refine⟨.non,_,I.lset (its':=its.take i.toNat++u2::its.drop i.toNat) (ys:=xs.take i.toNat++y::xs.drop i.toNat) hH e ?_ ((r.ZjH _).append (.cons ru2 (r.dropN _))) ?_,rfl,q⟩
 ·show((its.toArray.extract 0 (if i<0 then (i+((its.toArray.size:Nat):Int)).toNat else min i.toNat its.toArray.size)).push u2++its.toArray.extract (if i<0 then (i+((its.toArray.size:Nat):Int)).toNat else min i.toNat its.toArray.size))=_
  rw[Yb (by omega)]
  have e1:its.take (min i.toNat its.length)=its.take i.toNat:=by
   by_cases hh:i.toNat<=its.length
   ·rw[Nat.min_eq_left hh]
   ·rw[Nat.min_eq_right (by omega),List.take_of_length_le (by omega),List.take_of_length_le (by omega)]
  have e2:its.drop (min i.toNat its.length)=its.drop i.toNat:=by
   by_cases hh:i.toNat<=its.length
   ·rw[Nat.min_eq_left hh]
   ·rw[Nat.min_eq_right (by omega),List.drop_of_length_le (by omega),List.drop_of_length_le (by omega)]
  apply Array.ext'
  simp[e1,e2]
  exact List.take_of_length_le (by rw[YU];omega)
 ·rw[Yt,YB,YT,YU];omega
end
noncomputable def rIntB:List V->Hp->VK->Prop:=λxs H Q=>∃k,xs=[.bl k]/\Q (.int (if k=true then 1 else 0)) H
theorem Zfq {X:Cx}:ZbD X (.type "int") rIntB:=λpins s σ H xs us Q I r h=>Zix pins s σ H xs us Q I r (.inr h)
noncomputable def ZN (H:Hp) (p:Addr):Prop:=∃x:Int,H p=some (.lst [.int x])/\0<=x
theorem ZN.ne {H:Hp}{p q:Addr} (P:ZN H p) (h:H q=none):q≠p:=by
 obtain⟨x,e,_⟩:=P
 exact(ZA e h).symm
theorem ZN.same {H H':Hp}{p:Addr} (P:ZN H p) (s:Zf H H'):ZN H' p:=by
 obtain⟨x,e,r⟩:=P
 exact⟨x,s _ _ e,r⟩
theorem ZN.upd {H:Hp}{p q:Addr}{o:HO} (P:ZN H p) (h:H q=none):ZN (L2.upd H q o) p:=P.same ((Zf.refl H).upd h)
theorem ZN.ZiN {H:Hp}{p q:Addr}{o:HO} (P:ZN H p) (h:q≠p):ZN (L2.upd H q o) p:=by
 obtain⟨x,e,r⟩:=P
 exact⟨x,by rw[Zg h.symm];exact e,r⟩
theorem cp50:ZfJ 10 50:=by unfold ZfJ;decide
end L2
namespace L2
noncomputable def ZJ (f:Nat->Int) (p q:Nat):Prop:=q<p/\f q<=f p/\∀r,q<r->r<p->f p<f r
noncomputable def ZI (f:Nat->Int) (n p r:Nat):Prop:=p<r/\r<n/\f r<f p/\∀s,p<s->s<r->f p<=f s
noncomputable def ZaL (f:Nat->Int) (p:Nat):Prop:=∀q,q<p->f p<f q
noncomputable def Zao (f:Nat->Int) (n p:Nat):Prop:=∀r,p<r->r<n->f p<=f r
noncomputable def Zp (f:Nat->Int) (n p:Nat) (e:Int):Prop :=
 (ZaL f p/\Zao f n p/\e=-1)\/(∃q,ZJ f p q/\Zao f n p/\e=q)\/(∃r,ZaL f p/\ZI f n p r/\e=r) \/
 ∃q r,ZJ f p q/\ZI f n p r/\e=if f q<=f r then (r:Int)else q
theorem ZgD {P:Nat->Prop} [DecidablePred P] (i:Nat):∀d r,r+d=i->P r->∃t,r<=t/\t<=i/\P t/\∀s,t<s->s<=i->¬ P s:=by
 intro d
 induction d with
 |zero=>intro r e h;exact⟨r,Ye _,by omega,h,λs h1 h2=>by omega⟩
 |succ d ih =>
  intro r e h
  by_cases hx:∃t,r<t/\t<=i/\P t
  ·obtain⟨t,h1,h2,h3⟩:=hx
   -- step to r+1 by cases
   by_cases h4:P (r+1)
   ·obtain⟨u,u1,u2,u3,u4⟩:=ih (r+1) (by omega) h4
    exact⟨u,by omega,u2,u3,u4⟩
   ·-- go on from the next one
    have gen:∀k t,t+k=i->r<t->P t->∃u,r<=u/\u<=i/\P u/\∀s,u<s->s<=i->¬ P s:=by
     intro k
     induction k with
     |zero=>intro t e h1 h3;exact⟨t,by omega,by omega,h3,λs h1 h2=>by omega⟩
     |succ k ihk =>
      intro t e h1 h3
      by_cases hy:∃s,t<s/\s<=i/\P s
      ·-- the last one of the rest
       have key:∀m,m<=i->(∃s,t<s/\s<=m/\P s)->∃u,t<u/\u<=m/\P u/\∀s,u<s->s<=m->¬ P s:=by
        intro m
        induction m with
        |zero=>rintro _ ⟨s,h5,h6,_⟩;omega
        |succ m ihm =>
         rintro hm ⟨s,h5,h6,h7⟩
         by_cases hp:P (m+1)
         ·exact⟨m+1,by omega,Ye _,hp,λs h1 h2=>by omega⟩
         ·have hs:s<=m:=by
           rcases Nat.lt_or_ge m s with z|z
           ·have:s=m+1:=by omega
            rw[this]at h7;exact absurd h7 hp
           ·exact z
          obtain⟨u,u1,u2,u3,u4⟩:=ihm (by omega) ⟨s,h5,hs,h7⟩
          refine⟨u,u1,by omega,u3,λs' h1 h2=>?_⟩
          by_cases e:s'=m+1
          ·rw[e];exact hp
          ·exact u4 s' h1 (by omega)
       obtain⟨u,u1,u2,u3,u4⟩:=key i (Ye _) hy
       exact⟨u,by omega,u2,u3,u4⟩
      ·exact⟨t,by omega,by omega,h3,λs h1 h2 h5=>hy ⟨s,h1,h2,h5⟩⟩
    exact gen (i-t) t (by omega) h1 h3
  ·exact⟨r,Ye _,by omega,h,λs h1 h2 h3=>hx ⟨s,h1,h2,h3⟩⟩
theorem Zhx {P:Nat->Prop} [DecidablePred P] {n r:Nat} (hr:r<n) (h:P r):∃t,r<=t/\t<n/\P t/\∀s,t<s->s<n->¬ P s:=by
 obtain⟨t,h1,h2,h3,h4⟩:=ZgD (P:=P) (n-1) (n-1-r) r (by omega) h
 exact⟨t,h1,by omega,h3,λs a b=>h4 s a (by omega)⟩
noncomputable def ZjI (f:Nat->Int) (i:Nat) (sp:List Nat):Prop:=sp.Pairwise (· < ·)/\∀q,q∈sp↔q<i/\∀r,q<r->r<i->f q<=f r
theorem Zig (f:Nat->Int) (p:Nat):ZaL f p\/∃q,ZJ f p q:=by
 by_cases h:∃q,q<p/\f q<=f p
 ·obtain⟨q,h1,h2⟩:=h
  obtain⟨t,_,t2,t3,t4⟩:=Zhx (P:=λq=>f q<=f p) h1 h2
  exact .inr ⟨t,t2,t3,λr a b=>by have:=t4 r a b;omega⟩
 ·exact .inl λq hq=>by
   have:¬ (f q<=f p):=λz=>h ⟨q,hq,z⟩
   omega
theorem ZiP {f:Nat->Int}{i p q:Nat} (hp:p<i) (ho:∀r,p<r->r<i->f p<=f r) (h:ZJ f p q):(∀r,q<r->r<i->f q<=f r)/\∀s,q<s->s<p->¬ ∀r,s<r->r<i->f s<=f r:=by
 obtain⟨h1,h2,h3⟩:=h
 refine⟨λr a b=>?_,λs a b z=>?_⟩
 ·rcases Nat.lt_trichotomy r p with c|c|c
  ·have:=h3 r a c;omega
  ·rw[c];exact h2
  ·have:=ho r c b;omega
 ·have:=z p b hp
  have:=h3 s a b
  omega
theorem Zhy {f:Nat->Int}{i:Nat}{A B:List Nat} (hs:ZjI f i (A++B)) (hA:∀q∈A,f q<=f i) (hB:∀q∈B,f i<f q) :
  ZjI f (i+1) (A++[i])/\Zp f (i+1) i (match A.getLast? with|some q=>(q:Int)|none=>-1)/\∀p e,p<i->Zp f i p e->Zp f (i+1) p (if B.head?=some p then (i:Int)else e):=by
 obtain⟨hso,hm⟩:=hs
 have hAB:=List.pairwise_append.mp hso
 have noNx:Zao f (i+1) i:=λr a b=>by omega
 refine⟨⟨?_,λq=>?_⟩,?_,λp e hp he=>?_⟩
 ·refine List.pairwise_append.mpr ⟨hAB.1,List.pairwise_singleton _ _,λa ha b hb=>?_⟩
  have:b=i:=by simpa using hb
  rw[this]
  exact((hm a).mp (YF _ ha)).1
 ·rw[Yz,List.mem_singleton]
  constructor
  ·rintro(h|h)
   ·obtain⟨h1,h2⟩:=(hm q).mp (YF _ h)
    refine⟨by omega,λr a b=>?_⟩
    by_cases e:r=i
    ·rw[e];exact hA q h
    ·exact h2 r a (by omega)
   ·subst h;exact⟨by omega,λr a b=>by omega⟩
  ·rintro⟨h1,h2⟩
   by_cases e:q=i
   ·exact .inr e
   ·have hq:q∈A++B:=(hm q).mpr ⟨by omega,λr a b=>h2 r a (by omega)⟩
    rcases Yz.mp hq with h|h
    ·exact .inl h
    ·have:=hB q h
     have:=h2 i (by omega) (by omega)
     omega
 ·-- the Zir of i
  rcases Zig f i with h|⟨q,h⟩
  ·have hA0:A=[]:=by
    cases A with
    |nil=>rfl
    |cons a r =>
     have h1:=((hm a).mp (by simp)).1
     have:=hA a (by simp)
     have:=h a h1
     omega
   rw[hA0]
   exact .inl ⟨h,noNx,rfl⟩
  ·have ho:∀r,q<r->r<i->f q<=f r:=λr a b=>by have:=h.2.2 r a b;have:=h.2.1;omega
   have hqA:q∈A:=by
    rcases Yz.mp ((hm q).mpr ⟨h.1,ho⟩)with z|z
    ·exact z
    ·have:=hB q z;have:=h.2.1;omega
   have hlast:A.getLast?=some q:=by
    have hne:A≠[]:=λz=>by rw[z]at hqA;cases hqA
    rw[List.getLast?_eq_some_getLast hne]
    congr 1
    have hl:A.getLast hne∈A:=List.getLast_mem hne
    -- q<=last,and last is not past q
    by_cases e:A.getLast hne=q
    ·exact e
    ·exfalso
     have hlt:q<A.getLast hne:=by
      have hd:=List.dropLast_concat_getLast hne
      have hq2:q∈A.dropLast:=by
       rw[<-hd]at hqA
       rcases Yz.mp hqA with z|z
       ·exact z
       ·exact absurd (by simpa using z) (Ne.symm e)
      have hp2:=hAB.1
      rw[<-hd]at hp2
      exact(List.pairwise_append.mp hp2).2.2 q hq2 _ (by simp)
     have h1:=((hm (A.getLast hne)).mp (YF _ hl)).1
     have:=h.2.2 _ hlt h1
     have:=hA _ hl
     omega
   rw[hlast]
   exact .inr (.inl ⟨q,h,noNx,rfl⟩)
 ·-- the Zir of an earlier place
  have nxt:∀r,ZI f i p r->ZI f (i+1) p r:=λr ⟨a,b,c,d⟩=>⟨a,by omega,c,d⟩
  by_cases hop:Zao f i p
  ·have hmem:p∈A++B:=(hm p).mpr ⟨hp,hop⟩
   by_cases hlt:f i<f p
   ·have hnx:ZI f (i+1) p i:=⟨hp,by omega,hlt,λs a b=>hop s a b⟩
    have hpB:p∈B:=by
     rcases Yz.mp hmem with z|z
     ·have:=hA p z;omega
     ·exact z
    obtain⟨b0,Br,rfl⟩:∃b0 Br,B=b0::Br:=by
     cases B with
     |nil=>cases hpB
     |cons b0 Br=>exact⟨b0,Br,rfl⟩
    have hhead:(b0::Br).head?=some b0:=rfl
    rw[hhead]
    rcases Zig f p with hn|⟨q,hq⟩
    ·-- nothing ahead: p is the first of all
     have e0:b0=p:=by
      by_cases z:b0=p
      ·exact z
      ·exfalso
       have hpr:p∈Br:=by
        rcases Yq.mp hpB with y|y
        ·exact absurd y.symm z
        ·exact y
       have hlt2:b0<p:=(YZ.mp hAB.2.1).1 p hpr
       have:=((hm b0).mp (by simp)).2 p hlt2 hp
       have:=hn b0 hlt2
       omega
     rw[Yc (by rw[e0])]
     exact .inr (.inr (.inl ⟨i,hn,hnx,rfl⟩))
    ·obtain⟨hq1,hq2⟩:=ZiP hp hop hq
     have hqm:q∈A++b0::Br:=(hm q).mpr ⟨Nat.lt_trans hq.1 hp,hq1⟩
     by_cases hqi:f q<=f i
     ·-- q is kept: p is the first of B
      have e0:b0=p:=by
       by_cases z:b0=p
       ·exact z
       ·exfalso
        have hpr:p∈Br:=by
         rcases Yq.mp hpB with y|y
         ·exact absurd y.symm z
         ·exact y
        have hlt2:b0<p:=(YZ.mp hAB.2.1).1 p hpr
        have hb0:=(hm b0).mp (by simp)
        have hqA:q∈A:=by
         rcases Yz.mp hqm with y|y
         ·exact y
         ·have:=hB q y;omega
        have hqb:q<b0:=hAB.2.2 q hqA b0 (by simp)
        exact hq2 b0 hqb hlt2 hb0.2
      rw[Yc (by rw[e0])]
      refine .inr (.inr (.inr ⟨q,i,hq,hnx,?_⟩))
      rw[Yc hqi]
     ·-- q goes,too: the Zir stays
      have hqB:q∈b0::Br:=by
       rcases Yz.mp hqm with y|y
       ·exact absurd (hA q y) hqi
       ·exact y
      have hne:b0≠p:=by
       intro z
       subst z
       rcases Yq.mp hqB with y|y
       ·have:=hq.1;omega
       ·have:=(YZ.mp hAB.2.1).1 q y
        have:=hq.1;omega
      rw[Yb (by intro z;exact hne (Yw z))]
      have ee:e=q:=by
       rcases he with⟨h1,_,_⟩|⟨q',h1,_,h3⟩|⟨r,h1,_,_⟩|⟨q',r,_,h2,_⟩
       ·have:=h1 q hq.1;have:=hq.2.1;omega
       ·have:q'=q:=by
         rcases Nat.lt_trichotomy q' q with y|y|y
         ·have:=h1.2.2 q y hq.1;have:=hq.2.1;omega
         ·exact y
         ·have:=hq.2.2 q' y h1.1;have:=h1.2.1;omega
        rw[h3,this]
       ·have:=h1 q hq.1;have:=hq.2.1;omega
       ·have:=hop r h2.1 h2.2.1;have:=h2.2.2.1;omega
      refine .inr (.inr (.inr ⟨q,i,hq,hnx,?_⟩))
      rw[Yb hqi,ee]
   ·-- still open: not of B
    have hnn:Zao f (i+1) p:=λr a b=>by
     by_cases z:r=i
     ·rw[z];omega
     ·exact hop r a (by omega)
    have hne:B.head?≠some p:=λz=>by
     have:p∈B:=List.mem_of_head? z
     have:=hB p this
     omega
    rw[Yb hne]
    rcases he with⟨h1,_,h3⟩|⟨q,h1,_,h3⟩|⟨r,_,h2,_⟩|⟨q,r,_,h2,_⟩
    ·exact .inl ⟨h1,hnn,h3⟩
    ·exact .inr (.inl ⟨q,h1,hnn,h3⟩)
    ·have:=hop r h2.1 h2.2.1;have:=h2.2.2.1;omega
    ·have:=hop r h2.1 h2.2.1;have:=h2.2.2.1;omega
  ·-- shut already
   have hne:B.head?≠some p:=λz=>hop ((hm p).mp (Ys _ (List.mem_of_head? z))).2
   rw[Yb hne]
   rcases he with⟨_,h2,_⟩|⟨q,_,h2,_⟩|⟨r,h1,h2,h3⟩|⟨q,r,h1,h2,h3⟩
   ·exact absurd h2 hop
   ·exact absurd h2 hop
   ·exact .inr (.inr (.inl ⟨r,h1,nxt r h2,h3⟩))
   ·exact .inr (.inr (.inr ⟨q,r,h1,nxt r h2,h3⟩))
end L2
namespace L2
open PySem PySem.Spec PyProof.Rows PySem.W
theorem ZeA {α β:Type}{f g:α->Option β}:∀{l:List α},(∀x∈l,f x=g x)->l.filterMap f=l.filterMap g
 |[],_=>rfl
 |x::r,h=>by rw[List.filterMap_cons,List.filterMap_cons,h x (YX ..),ZeA λy hy=>h y (YS _ hy)]
theorem ZiQ (its:List Value) (k:Nat) (hk:k<=its.length) (start:Nat):(its.zipIdx start).filterMap (λxk=>if (decide (((start+k:Nat):Int)<=(xk.2:Int))&&decide ((xk.2:Int)<((start+its.length:Nat):Int))&&(((xk.2:Int)-((start+k:Nat):Int)) % 1==0))=true then none else some xk.1)=its.take k:=by
 induction its generalizing k start with
 |nil=>simp
 |cons x r ih =>
  rw[List.zipIdx_cons,List.filterMap_cons]
  cases k with
  |zero =>
   have h1:(decide (((start+0:Nat):Int)<=(start:Int))&&decide ((start:Int)<((start+(x::r).length:Nat):Int))&&(((start:Int)-((start+0:Nat):Int)) % 1==0))=true:=by
    simp;omega
   simp only[h1,if_true]
   have:=ih 0 (by omega) (start+1)
   rw[List.take_zero]at this⊢
   rw[<-this]
   refine ZeA λxk hxk=>?_
   have hm:=List.mem_zipIdx hxk
   have e1:(decide (((start+0:Nat):Int)<=(xk.2:Int)))=(decide (((start+1+0:Nat):Int)<=(xk.2:Int))):=by
    rw[decide_eq_decide];omega
   have e2:((start+(x::r).length:Nat):Int)=((start+1+r.length:Nat):Int):=by simp;omega
   have e3:(((xk.2:Int)-((start+0:Nat):Int)) % 1==0)=(((xk.2:Int)-((start+1+0:Nat):Int)) % 1==0):=by simp[Int.emod_one]
   rw[e1,e2,e3]
  |succ k =>
   have h1:(decide (((start+(k+1):Nat):Int)<=(start:Int))&&decide ((start:Int)<((start+(x::r).length:Nat):Int))&&(((start:Int)-((start+(k+1):Nat):Int)) % 1==0))=false:=by
    have:decide (((start+(k+1):Nat):Int)<=(start:Int))=false:=YD (by omega)
    rw[this];rfl
   simp only[h1,Bool.false_eq_true,if_false]
   rw[List.take_succ_cons]
   congr 1
   have:=ih k (by simpa using hk) (start+1)
   rw[<-this]
   refine ZeA λxk hxk=>?_
   have e1:((start+(k+1):Nat):Int)=((start+1+k:Nat):Int):=by omega
   have e2:((start+(x::r).length:Nat):Int)=((start+1+r.length:Nat):Int):=by simp;omega
   rw[e1,e2]
section
variable {X:Cx}{e st:Expr}{te ts:TE}{pos pos1 p2:Pos}
noncomputable def tDelT (te ts:TE):TS:=λD σ H=>te σ H λx H1=>ts σ H1 λz H2=>∃(l:Addr) (xs:List V) (k:Nat),x=.ref l/\z=.int k/\H2 l=some (.lst xs)/\k<=xs.length/\D.nx σ (upd H2 l (.lst (xs.take k)))
theorem Zhz (he:PE X e te) (hs:PE X st ts):PS X (.Delete [.Subscript e (.Slice (some st) none none p2) pos1] pos) (tDelT te ts):=by
 intro pins s σ H D I h
 refine wpAny_Delete (wpAny_deleteEach_cons ?_)
 show wpAny _ _ (eval e X.env >>= λov=>holding [ov] (eval (.Slice (some st) none none p2) X.env) >>= λiv=>(do standAt pos1;holding [ov,iv] (delItem ov iv);release [ov,iv] [])) _ _ _
 refine Ya (thn (he pins s σ H _ I h) λv s1 ⟨x,H1,I1,r1,q1⟩=>?_)
 refine Ya (wpAny_holding ?_)
 refine wpAny_Slice ?_
 rw[evalPart_some]
 refine thn (hs pins s1 σ H1 _ I1 q1) λvs s2 ⟨z,H2,I2,r2,l,xs,k,e1,e2,hx,hk,q⟩=>?_
 subst e1 e2
 obtain⟨tk,rfl⟩:=r2
 cases r1
 rw[evalPart_none]
 refine Yd ?_
 refine Yd ?_
 have I4:Inv X pins σ H2 {s2 with heap:=s2.heap.push {cls:=.type "slice",data:=.fields #[.int k tk,.none,.none]}}:=I2.kept (t':=s2.toks) λb ob q=>Yi _ q
 have hsl:({s2 with heap:=s2.heap.push {cls:=.type "slice",data:=.fields #[.int k tk,.none,.none]}}:Shared).heap.get? s2.heap.objs.size=some {cls:=.type "slice",data:=.fields #[.int k tk,.none,.none]}:=Yo _ rfl
 obtain⟨z,its,n,r,hlen,hob⟩:=I4.Zgu hx
 generalize ({s2 with heap:=s2.heap.push {cls:=.type "slice",data:=.fields #[.int k tk,.none,.none]}}:Shared)=s4 at I4 hsl hob⊢
 have hT:s4.TypeIs (.ref l) "list":=⟨_,hob,rfl⟩
 have hTs:s4.TypeIs (.ref s2.heap.objs.size) "slice":=⟨_,hsl,rfl⟩
 refine Ya (wpAny_standAt (Ya (wpAny_holding ?_)))
 refine wpAny_delItem_slot hT (by decide) F.slot_list_delitem (wpAny_call_entry F.slot_list_delitem hT F.entry_list_delitem ?_ (F.args_list_delitem_2 _ _))
 show wpAny _ _ (Builtin.List.listSubscript? (.ref s2.heap.objs.size) >>= _) _ _ s4
 refine Ya ?_;unfold Builtin.List.listSubscript?;refine Ya (wpAny_specialOf hTs slice_no_index ?_)
 simp only[Option.isNone_none,if_true];refine Yd ?_
 show wpAny _ _ (typeOf (.ref s2.heap.objs.size) >>= _) _ _ s4
 refine Ya (wpAny_typeOf hTs ?_);rw[Yb (by decide),listSliceParts_eq]
 refine Ya (Ya (wpAny_field hsl rfl (x:=.none) rfl (Ya (wpAny_listPart (k:=none) .none ?_))));rw[Yb (show ¬ ((rawPart none==rawInt 0)=true)from Yr)]
 refine Ya (wpAny_field hsl rfl (x:=.int k tk) rfl (Ya (wpAny_listPart (.int (k:Int) tk) ?_)))
 refine Ya (wpAny_field hsl rfl (x:=.none) rfl (Ya (wpAny_listPart (k:=none) .none (Yd ?_))))
 refine Ya (m:=Builtin.List.listItems (.ref l)) ?_;unfold Builtin.List.listItems
 refine Ya (wpAny_seqItems hob rfl (Yd ?_));refine Ya (wpAny_of_eq (sliceIndices_raw (some (k:Int)) none none its.toArray.size (by simp)) (Ya (wpAny_rule ?_)))
 have hb:sliceBounds (some (k:Int)) none none its.toArray.size=((k:Int),((its.length:Nat):Int),1):=by
  unfold sliceBounds
  simp
  omega
 rw[hb]
 have hf:∀f:Array Value->Array Value,(∀ys:Array Value,f ys=(ys.toList.zipIdx.filterMap λxk=>if (decide ((k:Int)<=(xk.2:Int))&&decide ((xk.2:Int)<((its.length:Nat):Int))&&(((xk.2:Int)-(k:Int)) % 1==0))=true then none else some xk.1).toArray)->f its.toArray=(its.take k).toArray:=λf h=>by
  rw[h]
  congr 1
  have:=ZiQ its k (by omega) 0
  simpa using this
 refine Ya (m:=updateSeq l _) ?_
 refine wpAny_updateSeq (n:=n) hob rfl ?_ (by rw[Yk];omega) ?_
 ·refine Ya (wpAny_letGo (Yd ⟨_,rfl,?_⟩))
  refine wpAny_release (wpAny_deleteEach_nil ⟨σ,_,I4.lset hx hob (hf _ λys=>rfl) (r.ZjH k) ?_,q⟩)
  rw[YT];omega
 ·rw[Yk]
  refine Yj (List.length_filterMap_le _ _) ?_
  rw[List.length_zipIdx]
  show its.length<=sizeLine+1
  omega
end
theorem ZJ.unique {f:Nat->Int}{p q q':Nat} (h:ZJ f p q) (k:ZJ f p q'):q=q':=by
 rcases Nat.lt_trichotomy q q' with z|z|z
 ·have:=h.2.2 q' z k.1;have:=k.2.1;omega
 ·exact z
 ·have:=k.2.2 q z h.1;have:=h.2.1;omega
theorem ZI.unique {f:Nat->Int}{n p r r':Nat} (h:ZI f n p r) (k:ZI f n p r'):r=r':=by
 rcases Nat.lt_trichotomy r r' with z|z|z
 ·have:=k.2.2.2 r h.1 z;have:=h.2.2.1;omega
 ·exact z
 ·have:=h.2.2.2 r' k.1 z;have:=k.2.2.1;omega
theorem ZJ.no {f:Nat->Int}{p q:Nat} (h:ZJ f p q) (k:ZaL f p):False:=by have:=k q h.1;have:=h.2.1;omega
theorem ZI.no {f:Nat->Int}{n p r:Nat} (h:ZI f n p r) (k:Zao f n p):False:=by have:=k r h.1 h.2.1;have:=h.2.2.1;omega
theorem Zp.unique {f:Nat->Int}{n p:Nat}{e e':Int} (h:Zp f n p e) (k:Zp f n p e'):e=e':=by
 rcases h with⟨h1,h2,h3⟩|⟨q,h1,h2,h3⟩|⟨r,h1,h2,h3⟩|⟨q,r,h1,h2,h3⟩ <;>
 rcases k with⟨k1,k2,k3⟩|⟨q',k1,k2,k3⟩|⟨r',k1,k2,k3⟩|⟨q',r',k1,k2,k3⟩
 ·rw[h3,k3]
 ·exact(k1.no h1).elim
 ·exact(k2.no h2).elim
 ·exact(k1.no h1).elim
 ·exact(h1.no k1).elim
 ·rw[h3,k3,h1.unique k1]
 ·exact(h1.no k1).elim
 ·exact(k2.no h2).elim
 ·exact(h2.no k2).elim
 ·exact(k1.no h1).elim
 ·rw[h3,k3,h2.unique k2]
 ·exact(k1.no h1).elim
 ·exact(h1.no k1).elim
 ·exact(h2.no k2).elim
 ·exact(h1.no k1).elim
 ·rw[h3,k3,h1.unique k1,h2.unique k2]
noncomputable def Zl (ns:List Int) (es:List Int):Prop:=es.length=ns.length/\∀p,p<ns.length->Zp (nth ns) ns.length p (es.getD p 0)
theorem Zl.unique {ns es es':List Int} (h:Zl ns es) (k:Zl ns es'):es=es':=by
 refine List.ext_getElem (by rw[h.1,k.1]) λj h1 h2=>?_
 have hj:j<ns.length:=by rw[<-h.1];exact h1
 have:=(h.2 j hj).unique (k.2 j hj)
 simpa[Yu,h1,h2]using this
theorem ZdX {f:Nat->Int}{n p:Nat} (hp:p<n):Zp f n p
  (match ((List.range p).filter λq=>decide (f q<=f p)).getLast?,((List.range (n-(p+1))).filter λj=>decide (f (p+1+j)<f p)).head? with
   |none,none=>-1
   |none,some j=>((p+1+j:Nat):Int)
   |some q,none=>q
   |some q,some j=>if f q<=f (p+1+j)then ((p+1+j:Nat):Int)else q):=by
 have hA:(((List.range p).filter λq=>decide (f q<=f p)).getLast?=none/\ZaL f p)\/∃q,((List.range p).filter λq=>decide (f q<=f p)).getLast?=some q/\ZJ f p q:=by
  induction p with
  |zero=>exact .inl ⟨rfl,λq hq=>by omega⟩
  |succ p _ =>
   generalize p+1=P
   have key:∀m,m<=P->(((List.range m).filter λq=>decide (f q<=f P)).getLast?=none/\∀q,q<m->f P<f q)\/∃q,((List.range m).filter λq=>decide (f q<=f P)).getLast?=some q/\q<m/\f q<=f P/\∀r,q<r->r<m->f P<f r:=by
    intro m
    induction m with
    |zero=>intro _;exact .inl ⟨rfl,λq hq=>by omega⟩
    |succ m ih =>
     intro hm
     rw[YN,List.filter_append]
     by_cases hle:f m<=f P
     ·refine .inr ⟨m,?_,by omega,hle,λr r1 r2=>by omega⟩
      simp[hle]
     ·have e:List.filter (λq=>decide (f q<=f P)) [m]=[]:=by simp[hle]
      rw[e,List.append_nil]
      rcases ih (by omega)with⟨i1,i2⟩|⟨q,i1,i2,i3,i4⟩
      ·refine .inl ⟨i1,λq hq=>?_⟩
       by_cases z:q=m
       ·rw[z];omega
       ·exact i2 q (by omega)
      ·refine .inr ⟨q,i1,by omega,i3,λr r1 r2=>?_⟩
       by_cases z:r=m
       ·rw[z];omega
       ·exact i4 r r1 (by omega)
   rcases key P (Ye _)with⟨i1,i2⟩|⟨q,i1,i2,i3,i4⟩
   ·exact .inl ⟨i1,i2⟩
   ·exact .inr ⟨q,i1,i2,i3,i4⟩
 have hB:(((List.range (n-(p+1))).filter λj=>decide (f (p+1+j)<f p)).head?=none/\Zao f n p)\/∃j,((List.range (n-(p+1))).filter λj=>decide (f (p+1+j)<f p)).head?=some j/\ZI f n p (p+1+j):=by
  have key:∀m,(((List.range m).filter λj=>decide (f (p+1+j)<f p)).head?=none/\∀j,j<m->f p<=f (p+1+j))\/∃j,((List.range m).filter λj=>decide (f (p+1+j)<f p)).head?=some j/\j<m/\f (p+1+j)<f p/\∀i,i<j->f p<=f (p+1+i):=by
   intro m
   induction m with
   |zero=>exact .inl ⟨rfl,λq hq=>by omega⟩
   |succ m ih =>
    rw[YN,List.filter_append]
    rcases ih with⟨i1,i2⟩|⟨j,i1,i2,i3,i4⟩
    ·have e0:List.filter (λj=>decide (f (p+1+j)<f p)) (List.range m)=[]:=List.head?_eq_none_iff.mp i1
     rw[e0,List.nil_append]
     by_cases hlt:f (p+1+m)<f p
     ·refine .inr ⟨m,by simp[hlt],by omega,hlt,λi hi=>i2 i hi⟩
     ·refine .inl ⟨by simp[hlt],λj hj=>?_⟩
      by_cases z:j=m
      ·rw[z];omega
      ·exact i2 j (by omega)
    ·refine .inr ⟨j,?_,by omega,i3,i4⟩
     rw[List.head?_append,i1];rfl
  rcases key (n-(p+1))with⟨i1,i2⟩|⟨j,i1,i2,i3,i4⟩
  ·refine .inl ⟨i1,λr r1 r2=>?_⟩
   have:=i2 (r-(p+1)) (by omega)
   have e:p+1+(r-(p+1))=r:=by omega
   rw[e]at this;exact this
  ·refine .inr ⟨j,i1,by omega,by omega,i3,λs s1 s2=>?_⟩
   have:=i4 (s-(p+1)) (by omega)
   have e:p+1+(s-(p+1))=s:=by omega
   rw[e]at this;exact this
 rcases hA with⟨a1,a2⟩|⟨q,a1,a2⟩<;>rcases hB with⟨b1,b2⟩|⟨j,b1,b2⟩<;>rw[a1,b1]
 ·exact .inl ⟨a2,b2,rfl⟩
 ·exact .inr (.inr (.inl ⟨_,a2,b2,rfl⟩))
 ·exact .inr (.inl ⟨_,a2,b2,rfl⟩)
 ·exact .inr (.inr (.inr ⟨_,_,a2,b2,rfl⟩))
theorem Zk0 {c:TT}{tb:TS}{D:Ends}{σ:St}{H:Hp} (Pv:Nat->St->Hp->Prop) (m0:Nat) (h0:Pv m0 σ H)
  (hs:∀m σ H,Pv m σ H->c σ H λb H1=>if b=true then ∃Nx:St->Hp->Prop,(∀σ' H',Nx σ' H'->∃m',m'<m/\Pv m' σ' H')/\tb {D with nx:=Nx,ct:=Nx,bk:=D.nx} σ H1 else D.nx σ H1):Zht c tb D σ H:=⟨Pv,⟨m0,h0⟩,hs⟩
end L2
namespace L2
noncomputable def Over (f:Nat->Int) (o p:Nat):Prop:=(o<p/\∀r,o<r->r<=p->f o<=f r)\/(p<o/\∀r,p<=r->r<o->f o<f r)
theorem Over.irrefl {f:Nat->Int}{p:Nat}:¬ Over f p p:=by rintro(⟨h,_⟩|⟨h,_⟩)<;>omega
theorem Over.trans {f:Nat->Int}{o e p:Nat} (h:Over f o e) (k:Over f e p):Over f o p:=by
 rcases h with⟨h1,h2⟩|⟨h1,h2⟩<;>rcases k with⟨k1,k2⟩|⟨k1,k2⟩
 ·refine .inl ⟨by omega,λr r1 r2=>?_⟩
  by_cases z:r<=e
  ·exact h2 r r1 z
  ·have:=k2 r (by omega) r2;have:=h2 e h1 (Ye _);omega
 ·have he:=h2 e h1 (Ye _)
  rcases Nat.lt_trichotomy o p with z|z|z
  ·exact .inl ⟨z,λr r1 r2=>h2 r r1 (by omega)⟩
  ·have:=k2 p (Ye _) k1;subst z;omega
  ·exact .inr ⟨z,λr r1 r2=>by have:=k2 r r1 (by omega);omega⟩
 ·have he:=h2 e (Ye _) h1
  rcases Nat.lt_trichotomy o p with z|z|z
  ·exact .inl ⟨z,λr r1 r2=>by have:=k2 r (by omega) r2;omega⟩
  ·have:=k2 p k1 (Ye _);subst z;omega
  ·exact .inr ⟨z,λr r1 r2=>h2 r (by omega) r2⟩
 ·refine .inr ⟨by omega,λr r1 r2=>?_⟩
  by_cases z:r<e
  ·have:=k2 r r1 z;have:=h2 e (Ye _) h1;omega
  ·exact h2 r (by omega) r2
theorem ZbP {f:Nat->Int}{n p:Nat}{e:Int} (hp:p<n) (h:Zp f n p e):e=-1\/∃q:Nat,e=q/\q<n/\Over f q p:=by
 have pv:∀q,ZJ f p q->Over f q p:=λq h=>.inl ⟨h.1,λr r1 r2=>by
  by_cases z:r=p
  ·rw[z];exact h.2.1
  ·have:=h.2.2 r r1 (by omega);have:=h.2.1;omega⟩
 have nx:∀q,ZI f n p q->Over f q p:=λq h=>.inr ⟨h.1,λr r1 r2=>by
  by_cases z:r=p
  ·rw[z];exact h.2.2.1
  ·have:=h.2.2.2 r (by omega) r2;have:=h.2.2.1;omega⟩
 rcases h with⟨_,_,h⟩|⟨q,h1,_,h⟩|⟨r,_,h1,h⟩|⟨q,r,h1,h2,h⟩
 ·exact .inl h
 ·exact .inr ⟨q,h,by have:=h1.1;omega,pv q h1⟩
 ·exact .inr ⟨r,h,h1.2.1,nx r h1⟩
 ·by_cases z:f q<=f r
  ·rw[Yc z]at h;exact .inr ⟨r,h,h2.2.1,nx r h2⟩
  ·rw[Yb z]at h;exact .inr ⟨q,h,by have:=h1.1;omega,pv q h1⟩
theorem Zfr {f:Nat->Int}{n p o:Nat}{e:Int} (hp:p<n) (ho:o<n) (h:Zp f n p e) (hO:Over f o p):∃q:Nat,e=q/\q<n/\(o=q\/Over f o q):=by
 rcases hO with⟨o1,o2⟩|⟨o1,o2⟩
 ·have op:=o2 p o1 (Ye _)
  have pv:∀q,ZJ f p q->o=q\/(o<q/\Over f o q/\f o<=f q):=λq h=>by
   rcases Nat.lt_trichotomy o q with z|z|z
   ·have:=h.1;exact .inr ⟨z,.inl ⟨z,λr r1 r2=>o2 r r1 (by omega)⟩,o2 q z (by omega)⟩
   ·exact .inl z
   ·have:=h.2.2 o z o1;omega
  rcases h with⟨h1,_,h⟩|⟨q,h1,_,h⟩|⟨r,h1,_,h⟩|⟨q,r,h1,h2,h⟩
  ·have:=h1 o o1;omega
  ·refine⟨q,h,by have:=h1.1;omega,?_⟩
   rcases pv q h1 with z|z
   ·exact .inl z
   ·exact .inr z.2.1
  ·have:=h1 o o1;omega
  ·by_cases z:f q<=f r
   ·rw[Yc z]at h
    refine⟨r,h,h2.2.1,.inr (.inl ⟨by have:=h2.1;omega,λs s1 s2=>?_⟩)⟩
    by_cases sp:s<=p
    ·exact o2 s s1 sp
    ·by_cases sr:s=r
     ·rw[sr]
      rcases pv q h1 with y|y
      ·rw[y];exact z
      ·have:=y.2.2;omega
     ·have:=h2.2.2.2 s (by omega) (by omega);omega
   ·rw[Yb z]at h
    refine⟨q,h,by have:=h1.1;omega,?_⟩
    rcases pv q h1 with z|z
    ·exact .inl z
    ·exact .inr z.2.1
 ·have op:=o2 p (Ye _) o1
  have nx:∀r,ZI f n p r->o=r\/(r<o/\Over f o r/\f o<f r):=λr h=>by
   rcases Nat.lt_trichotomy o r with z|z|z
   ·have:=h.2.2.2 o o1 z;omega
   ·exact .inl z
   ·have:=h.1;exact .inr ⟨z,.inr ⟨z,λs s1 s2=>o2 s (by omega) s2⟩,o2 r (by omega) z⟩
  rcases h with⟨_,h1,h⟩|⟨q,_,h1,h⟩|⟨r,_,h1,h⟩|⟨q,r,h1,h2,h⟩
  ·have:=h1 o o1 ho;omega
  ·have:=h1 o o1 ho;omega
  ·refine⟨r,h,h1.2.1,?_⟩
   rcases nx r h1 with z|z
   ·exact .inl z
   ·exact .inr z.2.1
  ·by_cases z:f q<=f r
   ·rw[Yc z]at h
    refine⟨r,h,h2.2.1,?_⟩
    rcases nx r h2 with z|z
    ·exact .inl z
    ·exact .inr z.2.1
   ·rw[Yb z]at h
    refine⟨q,h,by have:=h1.1;omega,.inr (.inr ⟨by have:=h1.1;omega,λs s1 s2=>?_⟩)⟩
    by_cases sp:p<=s
    ·exact o2 s sp s2
    ·by_cases sq:s=q
     ·rw[sq]
      rcases nx r h2 with y|y
      ·rw[y];omega
      ·have:=y.2.2;omega
     ·have:=h1.2.2 s (by omega) (by omega);omega
theorem ZgE {f:Nat->Int}{n p o q:Nat} (hp:p<n) (ho:o<n) (h:Zp f n p (q:Int)):Over f o p↔o=q\/Over f o q:=by
 refine⟨λk=>?_,λk=>?_⟩
 ·obtain⟨q',e,_,z⟩:=Zfr hp ho h k
  have:q'=q:=by omega
  rw[this]at z;exact z
 ·rcases ZbP hp h with z|⟨q',e,_,z⟩
  ·omega
  ·have:q'=q:=by omega
   rw[this]at z
   rcases k with k|k
   ·rw[k];exact z
   ·exact k.trans z
theorem Zfs {f:Nat->Int}{n p o:Nat} (hp:p<n) (ho:o<n) (h:Zp f n p (-1)):¬ Over f o p:=λk=>by
 obtain⟨q',e,_,z⟩:=Zfr hp ho h k
 omega
theorem ZeB {P Q:Nat->Bool}:∀n,(∀o,o<n->P o=Q o)->(List.range n).countP P=(List.range n).countP Q
 |0,_=>rfl
 |n+1,h=>by
  rw[YN,List.countP_append,List.countP_append,ZeB n (λo ho=>h o (by omega))]
  simp[List.countP_cons,h n (by omega)]
theorem ZbQ {P Q:Nat->Bool}{e:Nat}:∀n,e<n->(∀o,o<n->(P o=true↔o=e\/Q o=true))->Q e=false->(List.range n).countP P=(List.range n).countP Q+1
 |0,h,_,_=>by omega
 |n+1,h,hi,hq=>by
  rw[YN,List.countP_append,List.countP_append]
  by_cases z:e=n
  ·have e1:(List.range n).countP P=(List.range n).countP Q:=ZeB n λo ho=>by
    have:=hi o (by omega)
    cases hP:P o<;>cases hQ:Q o<;>simp[hP,hQ]at this<;>first|rfl|omega
   have hPn:P n=true:=(hi n (by omega)).mpr (.inl z.symm)
   rw[z]at hq
   rw[e1];simp[List.countP_cons,hPn,hq]
  ·rw[ZbQ n (by omega) (λo ho=>hi o (by omega)) hq]
   have:=hi n (by omega)
   have hn:P n=Q n:=by
    cases hP:P n<;>cases hQ:Q n<;>simp[hP,hQ]at this<;>first|rfl|omega
   simp[List.countP_cons,hn];omega
theorem ZjJ {P:Nat->Bool}{e n:Nat} (he:e<n) (h:P e=false):(List.range n).countP P<n:=by
 have h1:=ZbQ (P:=λo=>decide (o=e)||P o) (Q:=P) n he (λo _=>by simp) h
 have h2:=List.countP_le_length (p:=λo=>decide (o=e)||P o) (l:=List.range n)
 rw[h1,List.length_range]at h2
 omega
noncomputable def Z3 (T:List Int):Nat->Int->List Nat
 |0,_=>[]
 |k+1,at_=>if 0<=at_/\at_<T.length then at_.toNat::Z3 T k (nth T at_.toNat)else []
open Classical in
noncomputable def dep (f:Nat->Int) (n p:Nat):Nat:=(List.range n).countP λo=>decide (Over f o p)
theorem ZeC {f:Nat->Int}{n p:Nat} (hp:p<n):dep f n p<n:=by
 classical
 exact ZjJ hp (by simpa using Over.irrefl)
theorem ZcJ {f:Nat->Int}{n p q:Nat} (hp:p<n) (h:Zp f n p (q:Int)):dep f n p=dep f n q+1:=by
 classical
 have hq:q<n:=by
  rcases ZbP hp h with z|⟨q',e,z,_⟩<;>omega
 exact ZbQ n hq (λo ho=>by simpa using ZgE hp ho h) (by simpa using Over.irrefl)
theorem Zk1 {f:Nat->Int}{n p:Nat} (hp:p<n) (h:Zp f n p (-1)):dep f n p=0:=by
 classical
 unfold dep
 rw[List.countP_eq_zero]
 intro o ho
 simpa using Zfs hp (by simpa using ho) h
theorem ZeD {P Q:Nat->Bool}:∀n,(∀o,o<n->P o=true->Q o=true)->(List.range n).countP P<=(List.range n).countP Q
 |0,_=>Ye _
 |n+1,h=>by
  rw[YN,List.countP_append,List.countP_append]
  have:=ZeD n (λo ho=>h o (by omega))
  have hn:=h n (by omega)
  cases hP:P n<;>cases hQ:Q n<;>simp[List.countP_cons,hP,hQ]at hn⊢<;>omega
theorem ZjK {f:Nat->Int}{n p q:Nat} (hp:p<n) (hq:q<n) (h:Over f q p):dep f n q<dep f n p:=by
 classical
 have h1:=ZbQ (P:=λo=>decide (o=q)||decide (Over f o q)) (Q:=λo=>decide (Over f o q)) (e:=q) n hq (λo _=>by simp) (by simpa using Over.irrefl)
 have h2:=ZeD (P:=λo=>decide (o=q)||decide (Over f o q)) (Q:=λo=>decide (Over f o p)) n (λo _ ho=>by
  simp at ho⊢
  rcases ho with z|z
  ·rw[z];exact h
  ·exact z.trans h)
 rw[h1]at h2
 exact h2
theorem Zdn {ns T:List Int} (hT:Zl ns T):∀k p,p<ns.length->dep (nth ns) ns.length p<=k->(∀o,o∈Z3 T k (nth T p)↔o<ns.length/\Over (nth ns) o p)/\(Z3 T k (nth T p)).length=dep (nth ns) ns.length p
 |k,p,hp,hk=>by
  have hE:Zp (nth ns) ns.length p (nth T p):=hT.2 p hp
  rcases ZbP hp hE with z|⟨q,e,hq,hO⟩
  ·have e0:Z3 T k (nth T p)=[]:=by
    cases k with
    |zero=>rfl
    |succ k=>rw[Z3,Yb (by omega)]
   rw[e0]
   rw[z]at hE
   exact⟨λo=>⟨λh=>by simp at h,λh=>absurd h.2 (Zfs hp h.1 hE)⟩,by rw[Zk1 hp hE];rfl⟩
  ·rw[e]at hE
   have hd:=ZcJ hp hE
   obtain⟨k',rfl⟩:∃k',k=k'+1:=⟨k-1,by omega⟩
   have ih:=Zdn hT k' q hq (by omega)
   have eT:((q:Nat):Int).toNat=q:=by omega
   rw[Z3,e,Yc ⟨by omega,by rw[hT.1];omega⟩,eT]
   refine⟨λo=>?_,by simp[ih.2,hd]⟩
   rw[Yq,ih.1 o]
   refine⟨λh=>?_,λh=>?_⟩
   ·rcases h with h|h
    ·rw[h];exact⟨hq,hO⟩
    ·exact⟨h.1,h.2.trans hO⟩
   ·rcases(ZgE hp h.1 hE).mp h.2 with z|z
    ·exact .inl z
    ·exact .inr ⟨h.1,z⟩
noncomputable def Zc3 (T:List Int):List Int:=(List.range T.length).map λp=>((Z3 T T.length (nth T p)).length:Int)
theorem Zdo (T:List Int):(Zc3 T).length=T.length:=by simp[Zc3]
theorem ZgF {T:List Int}{p:Nat} (h:p<T.length):nth (Zc3 T) p=(Z3 T T.length (nth T p)).length:=by
 simp[nth,Zc3,Yu,h]
theorem ZiR {ns T:List Int} (hT:Zl ns T):Zl (Zc3 T) T:=by
 have eL:T.length=ns.length:=hT.1
 have hd:∀p,p<ns.length->nth (Zc3 T) p=(dep (nth ns) ns.length p:Int):=λp hp=>by
  rw[ZgF (by omega),eL,(Zdn hT ns.length p hp (YK (ZeC hp))).2]
 refine⟨(Zdo T).symm,λp hp=>?_⟩
 rw[Zdo,eL]at hp⊢
 have lt:∀q p,q<ns.length->p<ns.length->Over (nth ns) q p->nth (Zc3 T) q<nth (Zc3 T) p:=λq p hq hp h=>by
  rw[hd q hq,hd p hp]
  have:=ZjK hp hq h;omega
 generalize nth (Zc3 T)=g at lt
 clear hd
 have pv:∀q,ZJ (nth ns) p q->ZJ g p q:=λq h=>by
  refine⟨h.1,Int.le_of_lt (lt q p (by have:=h.1;omega) hp (.inl ⟨h.1,λr r1 r2=>?_⟩)),λr r1 r2=>lt p r hp (by omega) (.inr ⟨r2,λs s1 s2=>h.2.2 s (by omega) s2⟩)⟩
  by_cases z:r=p
  ·rw[z];exact h.2.1
  ·have:=h.2.2 r r1 (by omega);have:=h.2.1;omega
 have nx:∀r,ZI (nth ns) ns.length p r->ZI g ns.length p r:=λq h=>by
  refine⟨h.1,h.2.1,lt q p h.2.1 hp (.inr ⟨h.1,λr r1 r2=>?_⟩),λs s1 s2=>Int.le_of_lt (lt p s hp (by have:=h.2.1;omega) (.inl ⟨s1,λr r1 r2=>h.2.2.2 r r1 (by omega)⟩))⟩
  by_cases z:r=p
  ·rw[z];exact h.2.2.1
  ·have:=h.2.2.2 r (by omega) r2;have:=h.2.2.1;omega
 have np:ZaL (nth ns) p->ZaL g p:=λh q hq=>lt p q hp (by omega) (.inr ⟨hq,λr r1 r2=>h r r2⟩)
 have nn:Zao (nth ns) ns.length p->Zao g ns.length p:=λh r r1 r2=>Int.le_of_lt (lt p r hp r2 (.inl ⟨r1,λs s1 s2=>h s s1 (by omega)⟩))
 have hE:Zp (nth ns) ns.length p (T.getD p 0):=hT.2 p hp
 rcases hE with⟨h1,h2,h⟩|⟨q,h1,h2,h⟩|⟨r,h1,h2,h⟩|⟨q,r,h1,h2,h⟩
 ·exact .inl ⟨np h1,nn h2,h⟩
 ·exact .inr (.inl ⟨q,pv q h1,nn h2,h⟩)
 ·exact .inr (.inr (.inl ⟨r,np h1,nx r h2,h⟩))
 ·refine .inr (.inr (.inr ⟨q,r,pv q h1,nx r h2,?_⟩))
  rw[h]
  have hq:q<ns.length:=by have:=h1.1;omega
  by_cases z:nth ns q<=nth ns r
  ·have:=lt q r hq h2.2.1 (.inl ⟨by have:=h1.1;have:=h2.1;omega,λs s1 s2=>by
    by_cases y:s=r
    ·rw[y];exact z
    ·by_cases y2:s=p
     ·rw[y2];exact h1.2.1
     ·have:=h1.2.1
      by_cases y3:s<p
      ·have:=h1.2.2 s s1 y3;omega
      ·have:=h2.2.2.2 s (by omega) (by omega);omega⟩)
   rw[Yc z,Yc (by omega)]
  ·have:=lt r q h2.2.1 hq (.inr ⟨by have:=h1.1;have:=h2.1;omega,λs s1 s2=>by
    have:=h1.2.1;have:=h2.2.2.1
    by_cases y:s=q
    ·rw[y];omega
    ·by_cases y2:s=p
     ·rw[y2];omega
     ·by_cases y3:s<p
      ·have:=h1.2.2 s (by omega) y3;omega
      ·have:=h2.2.2.2 s (by omega) (by omega);omega⟩)
   rw[Yb z,Yb (by omega)]
theorem ZiS (T:List Int):(∃ns,Zl ns T)↔Zl (Zc3 T) T:=⟨λ⟨_,h⟩=>ZiR h,λh=>⟨_,h⟩⟩
end L2
namespace L2
open PySem PySem.Spec PyProof.Rows PySem.W
noncomputable def Zek (es:List Int) (A B:List Nat) (i:Nat):List Int:=match A.getLast? with
 |some q=>(match B.head? with|some b=>es.set b i|none=>es).set i (q:Int)
 |none=>match B.head? with|some b=>es.set b i|none=>es
noncomputable def Zw (l:List Nat):List V:=l.map λq=>V.int (q:Nat)
theorem Zdp (l:List Int) (a p:Nat) (v:Int) (h:p<l.length):(l.set a v).getD p 0=if a=p then v else l.getD p 0:=by
 rw[Yu,Yu]
 by_cases e:a=p
 ·subst e;rw[Yc rfl,List.getElem?_set_self h];rfl
 ·rw[Yb e,List.getElem?_set_ne e]
theorem ZjL (es:List Int) (A B:List Nat) (i:Nat):(Zek es A B i).length=es.length:=by
 unfold Zek
 cases A.getLast?<;>cases B.head?<;>simp
theorem Zih (es:List Int) (A B:List Nat) (i p:Nat) (hp:p<es.length) (hb:∀b,B.head?=some b->b≠i):(Zek es A B i).getD p 0=if p=i then (match A.getLast? with|some q=>(q:Int)|none=>es.getD i 0)else if B.head?=some p then (i:Int)else es.getD p 0:=by
 unfold Zek
 cases hA:A.getLast? with
 |none =>
  cases hB:B.head? with
  |none =>
   by_cases e:p=i
   ·rw[Yc e,e]
   ·rw[Yb e,Yb (by simp)]
  |some b =>
   show(es.set b i).getD p 0=_
   rw[Zdp _ _ _ _ hp]
   by_cases e:p=i
   ·rw[Yc e,Yb (by rw[e];exact hb b hB),e]
   ·rw[Yb e]
    by_cases e2:b=p
    ·rw[Yc e2,Yc (by rw[e2])]
    ·rw[Yb e2,Yb (by intro z;exact e2 (Yw z))]
 |some q =>
  cases hB:B.head? with
  |none =>
   show(es.set i q).getD p 0=_
   rw[Zdp _ _ _ _ hp]
   by_cases e:p=i
   ·rw[Yc e,Yc e.symm]
   ·rw[Yb e,Yb (λz=>e z.symm),Yb (by simp)]
  |some b =>
   show((es.set b i).set i q).getD p 0=_
   rw[Zdp _ _ _ _ (by simpa using hp),Zdp _ _ _ _ hp]
   by_cases e:p=i
   ·rw[Yc e,Yc e.symm]
   ·rw[Yb e,Yb (λz=>e z.symm)]
    by_cases e2:b=p
    ·rw[Yc e2,Yc (by rw[e2])]
    ·rw[Yb e2,Yb (by intro z;exact e2 (Yw z))]
theorem ZjM:∀(l:List Nat) (i lo:Nat),l.Pairwise (· < ·)->(∀q∈l,lo<=q/\q<i)->l.length+lo<=i\/l=[]
 |[],_,_,_,_=>.inr rfl
 |q::r,i,lo,h,hq=>by
  have h1:=hq q (by simp)
  have hr:=YZ.mp h
  rcases ZjM r i (q+1) hr.2 (λx hx=>⟨hr.1 x hx,(hq x (by simp[hx])).2⟩)with z|z
  ·left;simp;omega
  ·left;rw[z];simp;omega
theorem Zaa (l:List Nat):(Zw l).length=l.length:=by simp[Zw]
theorem ZcK (a b:List Nat):Zw (a++b)=Zw a++Zw b:=by simp[Zw]
theorem Zcb {l:List Nat}{j q:Nat} (h:l[j]?=some q):atI (Zw l) (j:Int)=some (V.int (q:Nat)):=by
 have hj:=(Yn.mp h).1
 have e:=(Yn.mp h).2
 rw[Zhu rfl (by rw[Zaa];exact hj)]
 simp[Zw,e]
theorem Zdq {n j:Nat} (h:j<n):ixN n (j:Int)=some j:=by
 unfold ixN
 rw[Yc (by omega),Yc (by omega)];simp
noncomputable def Zc4 (T:List Int) (p:Nat):List Int:=(Z3 T T.length (nth T p)).map λq=>((q:Nat):Int)
noncomputable def ZgG (T:List Int):Prop:=T.length<=40/\∃ns,Zl ns T
theorem ZgH (T:List Int):∀k a,(Z3 T k a).length<=k
 |0,_=>by simp[Z3]
 |k+1,a=>by
  rw[Z3]
  split
  ·have:=ZgH T k (nth T a.toNat);simp;omega
  ·simp
noncomputable def Zae (T:List Int):Nat->Int->Int
 |0,a=>a
 |j+1,a=>if 0<=a/\a<T.length then Zae T j (nth T a.toNat)else a
theorem Zft (T:List Int):∀j a,0<=Zae T j a->Zae T j a<T.length->(Z3 T j a).length=j->Z3 T (j+1) a=Z3 T j a++[(Zae T j a).toNat]/\Zae T (j+1) a=nth T (Zae T j a).toNat
 |0,a,h0,h1,_=>by
  have h0':0<=a:=h0
  have h1':a<T.length:=h1
  constructor
  ·simp[Z3,Zae,h0',h1']
  ·simp[Zae,h0',h1']
 |j+1,a,h0,h1,hl=>by
  rw[Z3]at hl
  by_cases z:0<=a/\a<T.length
  ·rw[Yc z]at hl
   have e1:Zae T (j+1) a=Zae T j (nth T a.toNat):=by rw[Zae,Yc z]
   rw[e1]at h0 h1
   have ih:=Zft T j (nth T a.toNat) h0 h1 (by simpa using hl)
   constructor
   ·rw[Z3,Yc z,ih.1,Z3.eq_def T (j+1) a]
    simp only[Yc z,e1];simp
   ·rw[Zae,Yc z,ih.2,e1]
  ·rw[Yb z]at hl;simp at hl
theorem Zfu (T:List Int):∀j k a,j<=k->(Z3 T j a).length=j->¬ (0<=Zae T j a/\Zae T j a<T.length)->Z3 T k a=Z3 T j a
 |0,k,a,_,_,h=>by
  have h':¬ (0<=a/\a<T.length):=h
  cases k with
  |zero=>rfl
  |succ k=>rw[show Z3 T 0 a=[]from rfl,Z3,Yb h']
 |j+1,k,a,hk,hl,h=>by
  rw[Z3]at hl
  by_cases z:0<=a/\a<T.length
  ·rw[Yc z]at hl
   rw[Zae,Yc z]at h
   obtain⟨k',rfl⟩:∃k',k=k'+1:=⟨k-1,by omega⟩
   rw[Z3,Yc z,Zfu T j k' _ (by omega) (by simpa using hl) h,Z3,Yc z]
  ·rw[Yb z]at hl;simp at hl
theorem Za8 {a b:TS}{D:Ends}{σ:St}{H:Hp} (Mid:St->Hp->Prop) (h1:∀R:St->Hp->Prop,(∀σ' H',Mid σ' H'->R σ' H')->a {D with nx:=R} σ H) (h2:∀σ' H',Mid σ' H'->b D σ' H'):tSeq a b D σ H:=h1 _ h2
theorem ZjN (xs:List V) (j:Nat):Zbr xs none (some (j:Int))=xs.take j:=by
 have h:¬ ((j:Int)<0):=by omega
 unfold Zbr HT.sIx
 simp only[Yb h,List.drop_zero,Nat.sub_zero]
 rw[List.take_eq_take_iff]
 omega
theorem ZiT (xs:List V) (j:Nat):Zbr xs (some (j:Int)) none=xs.drop j:=by
 have h:¬ ((j:Int)<0):=by omega
 unfold Zbr HT.sIx
 simp only[Yb h,Int.toNat_natCast]
 by_cases z:j<=xs.length
 ·rw[Nat.min_eq_left z]
  exact List.take_of_length_le (by rw[YU];omega)
 ·rw[Nat.min_eq_right (by omega),Nat.sub_self,List.take_zero,List.drop_eq_nil_of_le (show xs.length<=j by omega)]
end L2
namespace L2
open PySem PySem.Spec PyProof.Rows
structure CellsOf (cl:List (Str×Addr)) (n0:Nat) (cs:List (Str×Addr)) (h0 h:Heap) (done:List (Str×NameKind)):Prop where
 old:∀b o,h0.get? b=some o->h.get? b=some o
 sz:n0<=h.objs.size
 mem:∀p∈cs,p∈cl\/(n0<=p.2/\p.2<h.objs.size/\h.IsCell p.2 none)
 inj:∀p∈cs,∀q∈cs,n0<=p.2->p.2=q.2->p.1=q.1
 own:∀y∈done,y.2=.cell->∃c,cs.lookup y.1=some c/\n0<=c
 oth:∀x,(∀y∈done,y.2=.cell->y.1≠x)->cs.lookup x=cl.lookup x
theorem ZdJ {M:Model}{A:Around}{E:Value->Shared->Prop}{cl:List (Str×Addr)}{n0:Nat}{h0:Heap} (hcl:∀p∈cl,p.2<n0):∀(names:List (Str×NameKind)) (cs:List (Str×Addr)) (done:List (Str×NameKind)) (s:Shared),CellsOf cl n0 cs h0 s.heap done ->
  wpAny M A (forIn names cs λ(x:Str×NameKind) (r:List (Str×Addr))=>(match x with
   |(name,kind)=>if (kind==NameKind.cell)=true then do
     let a <-alloc {cls:=.type "cell",data:=.cell none}
     pure (ForInStep.yield ((name,a)::r))
    else pure (ForInStep.yield r):Sem (ForInStep (List (Str×Addr))))) (λcs' s'=>∃h',s'={s with heap:=h'}/\CellsOf cl n0 cs' h0 h' (done++names)) E s
 |[],cs,done,s,I=>by
  rw[List.forIn_nil,List.append_nil]
  exact Yd ⟨s.heap,rfl,I⟩
 |(n,k)::r,cs,done,s,I=>by
  rw[List.forIn_cons]
  by_cases hk:k=.cell
  ·subst hk
   simp only[beq_self_eq_true,if_true]
   refine Ya (Ya (wpAny_alloc (Yd ?_)))
   have hget:(s.heap.push {cls:=.type "cell",data:=.cell none}).get? s.heap.objs.size=some {cls:=.type "cell",data:=.cell none}:=Yo _ rfl
   have I':CellsOf cl n0 ((n,s.heap.objs.size)::cs) h0 (s.heap.push {cls:=.type "cell",data:=.cell none}) (done++[(n,.cell)]):=by
    refine⟨λb o e=>Yi _ (I.old b o e),by rw[Heap.size_push];exact Nat.le_succ_of_le I.sz,λp hp=>?_,λp hp q hq hn e=>?_,λy hy hc=>?_,λx hx=>?_⟩
    ·rcases Yq.mp hp with z|z
     ·subst z
      exact .inr ⟨I.sz,by rw[Heap.size_push];exact Nat.lt_succ_self _,_,hget,rfl⟩
     ·rcases I.mem p z with w|⟨w1,w2,o,w3,w4⟩
      ·exact .inl w
      ·exact .inr ⟨w1,by rw[Heap.size_push];exact YC w2,o,Yi _ w3,w4⟩
    ·have lt:∀p∈cs,p.2<s.heap.objs.size:=λp hp=>by
      rcases I.mem p hp with w|w
      ·exact Yp (hcl p w) I.sz
      ·exact w.2.1
     rcases Yq.mp hp with z|z<;>rcases Yq.mp hq with z'|z'
     ·rw[z,z']
     ·subst z;exact absurd (show s.heap.objs.size<s.heap.objs.size from(show s.heap.objs.size=q.2 from e)▸lt q z') (Yy _)
     ·subst z';exact absurd (show s.heap.objs.size<s.heap.objs.size from(show p.2=s.heap.objs.size from e)▸lt p z) (Yy _)
     ·exact I.inj p z q z' hn e
    ·rcases Yz.mp hy with z|z
     ·obtain⟨c,e1,e2⟩:=I.own y z hc
      by_cases hx:y.1=n
      ·exact⟨s.heap.objs.size,by rw[hx];simp,I.sz⟩
      ·have hb:(y.1==n)=false:=by simpa using hx
       exact⟨c,by simp only[List.lookup_cons,hb];exact e1,e2⟩
     ·have:y=(n,.cell):=by simpa using z
      subst this
      exact⟨s.heap.objs.size,by simp,I.sz⟩
    ·have hxn:n≠x:=hx (n,.cell) (by simp) rfl
     have hb:(x==n)=false:=by simpa using hxn.symm
     simp only[List.lookup_cons,hb]
     exact I.oth x λy hy=>hx y (YF _ hy)
   refine thn (ZdJ hcl r _ _ {s with heap:=s.heap.push {cls:=.type "cell",data:=.cell none}} I') λcs' s' ⟨h',e1,e2⟩=>⟨h',e1,?_⟩
   rw[YG]at e2
   exact e2
  ·have e1:(k==NameKind.cell)=false:=by cases k<;>first|rfl|exact absurd rfl hk
   simp only[e1,Bool.false_eq_true,if_false]
   refine Ya (Yd ?_)
   have I':CellsOf cl n0 cs h0 s.heap (done++[(n,k)]):=by
    refine⟨I.old,I.sz,I.mem,I.inj,λy hy hc=>?_,λx hx=>I.oth x λy hy=>hx y (YF _ hy)⟩
    rcases Yz.mp hy with z|z
    ·exact I.own y z hc
    ·have:y=(n,k):=by simpa using z
     subst this
     exact absurd hc hk
   refine thn (ZdJ hcl r _ _ s I') λcs' s' ⟨h',e1,e2⟩=>⟨h',e1,?_⟩
   rw[YG]at e2
   exact e2
theorem ZhA {M:Model}{A:Around}{E:Value->Shared->Prop}{s:Shared}{scope:Scope}{globals:Addr}{cl:List (Str×Addr)}{qual:Str}{around:Env}{Q:Env->Shared->Prop} (hcl:∀p∈cl,p.2<s.heap.objs.size)
  (h:∀cs h',CellsOf cl (s.heap.objs.size+1) cs (s.heap.push {cls:=.type "dict",data:=.dict #[]}) h' scope.names->Q {scope:=scope,locals:=s.heap.objs.size,globals:=globals,cells:=cs,qual:=qual,func:=none,code:=around.code,frame:=around.frame,builtins:=around.builtins} {s with heap:=h'}) :
  wpAny M A (newFunctionEnv scope globals cl [] qual none .none (some around)) Q E s:=by
 unfold newFunctionEnv
 refine Ya (wpAny_alloc ?_)
 refine Ya (thn (ZdJ (cl:=cl) (n0:=s.heap.objs.size+1) (h0:=s.heap.push {cls:=.type "dict",data:=.dict #[]}) (λp hp=>YC (hcl p hp)) scope.names cl [] {s with heap:=s.heap.push {cls:=.type "dict",data:=.dict #[]}} ⟨λb o e=>e,by rw[Heap.size_push];exact Ye _,λp hp=>.inl hp,λp hp q hq hn e=>absurd (hcl p hp) (Nat.not_lt_of_le (Nat.le_of_succ_le hn)),λy hy=>(nomatch hy),λx hx=>rfl⟩) λcs s' ⟨h',e1,e2⟩=>?_)
 subst e1
 rw[List.nil_append]at e2
 exact Ya (Yd (Yd (h cs h' e2)))
noncomputable def ZaD (around scope:Scope):Bool :=
 scope.kind==.function&&around.kind==.function&&scope.names.all λy=>match y.2 with
  |.local=>scope.names.lookup y.1==some .local
  |.cell=>scope.names.lookup y.1==some .cell
  |.free=>(scope.names.lookup y.1==some .free)&&(around.names.lookup y.1==some .cell||around.names.lookup y.1==some .free)
  |_=>true
theorem Zdr {a s:Scope} (h:ZaD a s=true):s.kind=.function:=by
 simp only[ZaD,Bool.and_eq_true,beq_iff_eq]at h;exact h.1.1
theorem Zc5 {a s:Scope} (h:ZaD a s=true) {y:Str×NameKind} (hy:y∈s.names):(match y.2 with
  |.local=>s.names.lookup y.1==some .local
  |.cell=>s.names.lookup y.1==some .cell
  |.free=>(s.names.lookup y.1==some .free)&&(a.names.lookup y.1==some .cell||a.names.lookup y.1==some .free)
  |_=>true)=true:=by
 simp only[ZaD,Bool.and_eq_true]at h
 exact List.all_eq_true.mp h.2 y hy
theorem Ze7 {a s:Scope} (h:ZaD a s=true):∀y∈s.names,y.2=.local->s.names.lookup y.1=some .local:=λy hy e=>by
 have q:=Zc5 h hy
 rw[e]at q
 exact beq_iff_eq.mp q
theorem Zf0 {a s:Scope} (h:ZaD a s=true):∀y∈s.names,y.2=.cell->s.names.lookup y.1=some .cell:=λy hy e=>by
 have q:=Zc5 h hy
 rw[e]at q
 exact beq_iff_eq.mp q
theorem ZbR {a s:Scope} (h:ZaD a s=true):∀y∈s.names,y.2=.free->s.names.lookup y.1=some .free/\(a.names.lookup y.1=some .cell\/a.names.lookup y.1=some .free):=λy hy e=>by
 have q:=Zc5 h hy
 rw[e]at q
 simp only[Bool.and_eq_true,Bool.or_eq_true,beq_iff_eq]at q
 exact q
noncomputable def Zab (X:Cx) (Nc:List Str) (scope:Scope) (cs:List (Str×Addr)) (C:Addr) (s2:Shared) (H2:Hp) (fp:List Addr):Cx :=
 {Zjw X Nc scope cs C s2 H2 fp with fn:=λx=>scope.names.lookup x==some .cell}
theorem ZgI {env:Env}{scope:Scope} (h:∀y∈scope.names,y.2=.free->∃c,env.cells.lookup y.1=some c) :
  ∃cl,closureFor scope env=pure cl/\(∀p∈cl,env.cells.lookup p.1=some p.2)/\(∀y∈scope.names,y.2=.free->∃c,cl.lookup y.1=some c/\env.cells.lookup y.1=some c):=by
 obtain⟨cl,e,h1,h2,h3⟩:=Zc1 (env:=env) scope.names [] h
 have up:∀p∈cl,env.cells.lookup p.1=some p.2:=λp q=>by
  rcases h1 _ q with z|z
  ·cases z
  ·exact z
 refine⟨cl,?_,up,λy hy hf=>?_⟩
 ·unfold closureFor
  simp only[bind_pure_comp]at e⊢
  rw[e]
  exact pure_bind _ _
 ·obtain⟨c,hc⟩:=h3 y hy hf
  cases q:cl.lookup y.1 with
  |none=>exact absurd (List.lookup_eq_none_iff.mp q _ hc) (by simp)
  |some c'=>exact⟨c',rfl,up _ (PySem.mem_of_lookup q)⟩
section
variable {X:Cx}
theorem ZgJ {pins:List (Addr×Obj)}{σ:St}{H2:Hp}{s2:Shared}{Nc:List Str}{js:List (Option Nat)}{scope:Scope}{cs:List (Str×Addr)}{fp:List Addr}{h1:Heap}{tk:Nat}{D C:Addr}{oD:Obj}{m:Str->Option Value}
  (I:Inv X pins σ H2 s2) (hok:ZaD X.env.scope scope=true) (htk:ZaC X.N Nc scope js 0=true) (up:∀x c,cs.lookup x=some c->X.env.cells.lookup x=some c\/(C<c/\h1.IsCell c none)) (hinj:∀x y c,cs.lookup x=some c->cs.lookup y=some c->x=y) (hown:∀y∈scope.names,y.2=.cell->∃c,cs.lookup y.1=some c/\C<c) (hfr:∀y∈scope.names,y.2=.free->∃c,cs.lookup y.1=some c/\X.env.cells.lookup y.1=some c)
  (hfp:∀b∈fp,FpOk X pins H2 b) (hfl:∀b∈fp,b<s2.heap.objs.size) (hD:D=s2.heap.objs.size) (hC:C=s2.heap.objs.size+1) (old:∀b o,s2.heap.get? b=some o->h1.get? b=some o) (hns:h1.Ns C m) (hoD:h1.get? D=some oD) (hdD:∀v,oD.data≠.cell v) :
  Inv (Zab X Nc scope cs C s2 H2 fp) [(D,oD)] (ZbO js σ) H2 {s2 with heap:=h1,toks:=tk}:=by
 have leC:s2.heap.objs.size<=C:=by rw[hC];exact Nat.le_succ _
 have leD:s2.heap.objs.size<=D:=Nat.le_of_eq hD.symm
 have kf:∀x,((compEnvC scope cs C X.env).kindOf x=some .cell\/(compEnvC scope cs C X.env).kindOf x=some .free)->∃c,cs.lookup x=some c:=λx hx=>by
  have:∃k,(compEnvC scope cs C X.env).kindOf x=some k/\(k=.cell\/k=.free):=hx.elim (λq=>⟨_,q,.inl rfl⟩) λq=>⟨_,q,.inr rfl⟩
  obtain⟨k,e,hk⟩:=this
  obtain⟨k',h1,h2⟩:=Zam (show(scope.names.map _).lookup x=some k from e)
  have hm:=lookup_mem h1
  have:k'=.free\/k'=.cell:=by
   rcases h2 with q|q
   ·subst q
    exact hk.symm
   ·exact .inl q.1
  rcases this with z|z
  ·subst z
   obtain⟨c,q,_⟩:=hfr _ hm rfl
   exact⟨c,q⟩
  ·subst z
   obtain⟨c,q,_⟩:=hown _ hm rfl
   exact⟨c,q⟩
 have nC:∀c x,X.env.cells.lookup x=some c->c<s2.heap.objs.size:=λc x e=>by
  obtain⟨v,q⟩:=I.cell x c e
  exact q.lt
 have noB:∀b,b∈fp->b∉frs X.stack:=λb hb q=>by
  rcases Yq.mp (I.ZdD b q)with z|z
  ·exact(hfp b hb).2.1 z
  ·exact(hfp b hb).2.2.1 z
 have okX:(Zab X Nc scope cs C s2 H2 fp).Ok:=by
  refine⟨I.ok.mod,(show scope.kind=.function from Zdr hok),I.ok.glob,I.ok.blt,?_,λx y c e1 e2=>hinj x y c e1 e2,λx hx=>?_,(λx c e1 e2=>?_),I.ok.hd,I.ok.frames,.inl rfl,λb hb=>⟨?_,λx c e=>(up _ _ e).elim (λz=>(hfp b hb).2.2.2.2.1 x c z) λz=>Nat.ne_of_gt (Nat.lt_trans (Yp (hfl b hb) leC) z.1)⟩,I.bs,Yj I.ok.bsz I.sz,λb o e hb=>?_,λb hb=>noB b hb,I.stack,I.ZfF⟩
  ·show s2.heap.objs.size<=C;exact leC
  ·exact kf x hx
  ·have hm:=lookup_mem (beq_iff_eq.mp (show(scope.names.lookup x==some NameKind.cell)=true from e1))
   obtain⟨c',q1,q2⟩:=hown _ hm rfl
   have:c=c':=Yw ((show cs.lookup x=some c from e2).symm.trans q1)
   rw[this]
   exact Yj leC (YK q2)
  ·exact Yl (Yp (hfl b hb) leC)
  ·rcases(hfp b hb).2.2.2.1 with q|q
   ·exact I.ok.noex b o e q
   ·exact absurd (Yp (Yg e) (Yj I.ok.bsz q)) (Yy _)
 refine⟨okX,rfl,I.bare,Un.kept old,⟨m,hns,λi x v e1 e2 e3=>?_⟩,λx c e=>?_,I.hok.fresh leC,λx c e=>(up _ _ e).elim (λz=>I.freeC x c z) λz=>I.hok.fresh (Yj leC (YK z.1)),λp hp=>?_,I.hok.kept old,?_⟩
 ·have e2':(ZbO js σ)[i]?=some (some v):=e2
  unfold ZbO at e2'
  rw[YA]at e2'
  cases q:js[i]? with
  |none=>rw[q]at e2';cases e2'
  |some j0 =>
   cases j0 with
   |none=>rw[q]at e2';cases e2'
   |some j =>
    rw[q]at e2'
    simp only[Option.map_some,Option.some.injEq]at e2'
    have e4:σ[j]?=some (some v):=by
     cases z:σ[j]? with
     |none=>rw[z]at e2';cases e2'
     |some o=>rw[z]at e2';simp only[Option.join_some]at e2';rw[e2']
    obtain⟨y,y1,y2,y3⟩:=ZdI htk q
    rw[Nat.zero_add]at y1
    have:x=y:=Yw ((show Nc[i]?=some x from e1).symm.trans y1)
    subst this
    have hm:=lookup_mem y3
    obtain⟨c,c1,c2⟩:=hfr _ hm rfl
    have hk:=(ZbR hok _ hm rfl).2
    obtain⟨m0,hn0,hl0⟩:=I.loc
    obtain⟨u,r,l⟩:=hl0 j x v y2 e4 (hk.elim (λz=>.inr (.inl z)) λz=>.inr (.inr z))
    refine⟨u,r,.inr ⟨?_,c,c1,?_⟩⟩
    ·rcases e3 with z|z|z
     ·obtain⟨k',w1,w2⟩:=Zam (show(scope.names.map _).lookup x=some NameKind.local from z)
      rw[y3]at w1;cases w1
      rcases w2 with w|w
      ·cases w
      ·cases w.2
     ·exact .inl z
     ·exact .inr z
    ·rcases l with⟨lk,_⟩|⟨_,c',c3,c4⟩
     ·rcases hk with z|z
      ·rw[show X.env.kindOf x=some .cell from z]at lk;cases lk
      ·rw[show X.env.kindOf x=some .free from z]at lk;cases lk
     ·rw[c2]at c3;cases c3
      obtain⟨oc,w1,w2⟩:=c4
      exact⟨oc,old _ _ w1,w2⟩
 ·rcases up _ _ e with z|z
  ·obtain⟨v,oc,w1,w2⟩:=I.cell x c z
   exact⟨v,oc,old _ _ w1,w2⟩
  ·exact⟨_,z.2⟩
 ·have:p=(D,oD):=by
   have hp':p∈([]++[(D,oD)]:List (Addr×Obj)):=hp
   simpa using hp'
  subst this
  refine⟨hoD,I.hok.fresh leD,(by show D≠C;rw[hD,hC];exact Yl (Nat.lt_succ_self _)),λhb=>?_,hdD⟩
  have hb':D∈frs X.stack:=hb
  obtain⟨_,o,ho,_⟩:=I.stack.mem hb'
  exact absurd (Yp (Yg ho) leD) (Yy _)
 ·have:=Zc2 htk
  show(ZbO js σ).length=Nc.length
  unfold ZbO;rw[Yh];omega
theorem Zfv {pins:List (Addr×Obj)}{σ:St}{H:Hp}{s:Shared}{tg elt iter:Expr}{ifs:List Expr}{scope:Scope}{pos:Pos}{wi:TI}{g:TG}{tt:TT}{te:TE}{Nc:List Str}{js:List (Option Nat)}{use:Option (Value->Sem Unit)}{Q:VK}{QQ:Value->Shared->Prop}
  (hc:X.calm=true) (hok:ZaD X.env.scope scope=true) (htk:ZaC X.N Nc scope js 0=true) (hi:PI X tg iter wi)
  (hg:∀cl C s2 H2 fp,PG (Zab X Nc scope cl C s2 H2 fp) tg g) (ht:∀cl C s2 H2 fp,ZiE (Zab X Nc scope cl C s2 H2 fp) ifs tt) (he:∀cl C s2 H2 fp,PE (Zab X Nc scope cl C s2 H2 fp) elt te)
  (hs:∀x,foldedSetIterable iter X.env x=pure x) {L:List Nat} (ho:Zfl g L) (hL:(L.all λk=>js[k]?==some none)=true) (I:Inv X pins σ H s) (h:Zh9 wi g tt te js σ H Q)
  (fin:∀(D C:Addr) (H' H2:Hp) (s2 s':Shared) (xs:List V) (m:Str->Option Value),Inv X pins σ H2 s2->H' C=none->C=D+1->D=s2.heap.objs.size->s'.heap.Ns C m->(∀h',Heap.SameBut C s'.heap h'->Inv X pins σ (upd H' D (.lst xs)) {s' with heap:=h'})->Q (.ref D) (upd H' D (.lst xs)) ->
   compPost (model X.prog X.w) X.A X.xe use QQ (.ref D) C (.ok .next) s') :
  wpAny (model X.prog X.w) X.A (comprehension (.ListComp elt [⟨tg,iter,ifs,0⟩] scope pos) scope X.env (firstIterPos [⟨tg,iter,ifs,0⟩] pos) (newList []) false (eval iter X.env) use) QQ X.xe s:=by
 have hcells:∀y∈scope.names,y.2=.free->∃c,X.env.cells.lookup y.1=some c:=λy hy hf=>I.ok.has y.1 (ZbR hok y hy hf).2
 obtain⟨cl,hcl,upM,hfr0⟩:=ZgI hcells
 have hk:=Zdr hok
 refine wpAny_comprehension_free (use:=use) rfl hs hcl hk (Ze7 hok) (thn (hi pins s σ H _ I h) λv s1 h1=>thn h1 λitv s2 h2=>?_)
 obtain⟨it,fp,tn,J,H2,e,I2,T,st2,f2,W,⟨m0,w0⟩,turn⟩:=h2
 subst e
 have clt:∀p∈cl,p.2<s2.heap.objs.size:=λp hp=>by
  obtain⟨v,q⟩:=I2.cell p.1 p.2 (upM p hp)
  exact q.lt
 refine wpAny_newObj_type (ZhA (λp hp=>?_) λcs h₁ CO=>?_)
 ·show p.2<(s2.heap.push _).objs.size
  rw[Heap.size_push];exact YC (clt p hp)
 dsimp only at CO⊢
 generalize hH2:s2.heap.push {cls:=.type "list",dict:=none,data:=.seq ([]:List Value).toArray}=HH at CO⊢
 have hC:HH.objs.size=s2.heap.objs.size+1:=by rw[<-hH2,Heap.size_push]
 have hcl':∀p∈cl,p.2<HH.objs.size:=λp hp=>by rw[hC];exact YC (clt p hp)
 have hns₁:h₁.Ns HH.objs.size (λ_=>none):=⟨_,#[],_,CO.old _ _ (Yo _ rfl),rfl,λe he=>absurd he (by simp),λn=>rfl⟩
 have up:∀x c,cs.lookup x=some c->X.env.cells.lookup x=some c\/(HH.objs.size<c/\h₁.IsCell c none):=λx c e=>by
  rcases CO.mem _ (PySem.mem_of_lookup e)with z|z
  ·exact .inl (upM _ z)
  ·exact .inr ⟨z.1,z.2.2⟩
 have hinj:∀x y c,cs.lookup x=some c->cs.lookup y=some c->x=y:=λx y c e1 e2=>by
  have m1:=PySem.mem_of_lookup e1
  have m2:=PySem.mem_of_lookup e2
  rcases CO.mem _ m1 with z|z
  ·rcases CO.mem _ m2 with z'|z'
   ·exact I2.ok.inj x y c (upM _ z) (upM _ z')
   ·exact absurd (hcl' _ z) (Nat.not_lt_of_le (Nat.le_of_succ_le z'.1))
  ·exact CO.inj _ m1 _ m2 z.1 rfl
 have hfr:∀y∈scope.names,y.2=.free->∃c,cs.lookup y.1=some c/\X.env.cells.lookup y.1=some c:=λy hy hf=>by
  obtain⟨c,q1,q2⟩:=hfr0 y hy hf
  refine⟨c,?_,q2⟩
  rw[CO.oth y.1 λy' hy' hc' z=>?_]
  ·exact q1
  ·have w1:=Zf0 hok y' hy' hc'
   have w2:=(ZbR hok y hy hf).1
   rw[z,w2]at w1;cases w1
 have hfl:∀b∈fp,b<s2.heap.objs.size:=λb hb=>by
  obtain⟨o,ho,_⟩:=T.obj 0 _ st2 b hb
  exact Yg ho
 have hDC:s2.heap.objs.size≠HH.objs.size:=by rw[hC];exact Yl (Nat.lt_succ_self _)
 have old:∀b o,s2.heap.get? b=some o->h₁.get? b=some o:=λb o e=>CO.old b o (Yi _ (hH2▸Yi _ e))
 have hacc:h₁.get? s2.heap.objs.size=some {cls:=.type "list",dict:=none,data:=.seq ([]:List Value).toArray}:=CO.old _ _ (Yi _ (hH2▸Yo _ rfl))
 have I4:=ZgJ (Nc:=Nc) (js:=js) (tk:=s2.toks) I2 hok htk up hinj (λy hy hc=>CO.own y hy hc) hfr f2 hfl rfl hC old hns₁ hacc (by intro v z;cases z)
 have st4:tn 0 h₁:=T.keep _ _ _ st2 λb _ o e=>old b o e
 generalize hXc:Zab X Nc scope cs HH.objs.size s2 H2 fp=Xc at I4
 have hXA:Xc.A=X.A:=by rw[<-hXc];rfl
 have hXe:Xc.env=compEnvC scope cs HH.objs.size X.env:=by rw[<-hXc];rfl
 have hXp:Xc.prog=X.prog:=by rw[<-hXc];rfl
 have hXw:Xc.w=X.w:=by rw[<-hXc];rfl
 have hXx:Xc.xe=λ_ _=>False:=by rw[<-hXc];rfl
 have hXk:Xc.K=X.K:=by rw[<-hXc];rfl
 have hXcalm:Xc.calm=true:=by rw[<-hXc];exact hc
 have fpok:∀{pl:List (Addr×Obj)}{H':Hp},(∀p∈pl,s2.heap.objs.size<=p.1)->(∀b∈fp,H' b=none)->∀b∈fp,FpOk Xc pl H' b:=λ{pl H'} hpl hn b hb=>by
  have k1:b≠HH.objs.size:=Yl (by rw[hC];exact YC (hfl b hb))
  have k2:b∉frs X.stack:=λq=>by
   rcases Yq.mp (I2.ZdD b q)with z|z
   ·exact(f2 b hb).2.1 z
   ·exact(f2 b hb).2.2.1 z
  rw[<-hXc]
  refine⟨hn b hb,k1,k2,.inl hb,λx c e=>(up _ _ e).elim (λz=>(f2 b hb).2.2.2.2.1 x c z) λz=>Nat.ne_of_gt (Nat.lt_trans (by rw[hC];exact YC (hfl b hb)) z.1),λp hp=>?_⟩
  have hp':p∈pl:=by simpa[Zab,Zjw]using hp
  exact Nat.ne_of_gt (Yp (hfl b hb) (hpl p hp'))
 have gX:PG Xc tg g:=hXc▸hg cs HH.objs.size s2 H2 fp
 have tX:ZiE Xc ifs tt:=hXc▸ht cs HH.objs.size s2 H2 fp
 have eX:PE Xc elt te:=hXc▸he cs HH.objs.size s2 H2 fp
 have hs0:Xc.s₀=s2:=by rw[<-hXc];rfl
 have hh0:Xc.H₀=H2:=by rw[<-hXc];rfl
 have hfs:Xc.fs=frs X.stack:=by rw[<-hXc];rfl
 have hex:Xc.ex=fp:=by rw[<-hXc];rfl
 have loop:codeAny (model X.prog X.w) X.A (.compLoop (.ListComp elt [⟨tg,iter,ifs,0⟩] scope pos) 0 (.ref it) (.ref s2.heap.objs.size) (compEnvC scope cs HH.objs.size X.env)) (compPost (model X.prog X.w) X.A X.xe use QQ (.ref s2.heap.objs.size) HH.objs.size)
   {s2 with heap:=h₁,toks:=s2.toks}:=by
  refine Zb9 (λn s'=>∃i acc its nn H',Inv Xc [(s2.heap.objs.size,{cls:=.type "list",dict:=none,data:=.seq (its:List Value).toArray nn})] (ZbO js σ) H' s'/\Vals acc its/\acc.length<=sizeLine/\tn i s'.heap/\(∀b∈fp,H' b=none)/\W i n acc H') ?_ m0
   ⟨0,[],[],0,H2,I4,.nil,Ym _,st4,λb hb=>(f2 b hb).1,w0⟩
  rintro n s3 ⟨i,acc,its,nn,H3,I3,va,hlen,st3,fr3,w3⟩
  have pg:∀p∈([(s2.heap.objs.size,{cls:=.type "list",dict:=none,data:=.seq its.toArray nn})]:List (Addr×Obj)),s2.heap.objs.size<=p.1:=λp hp=>by
   simp only[Yq,List.not_mem_nil,or_false]at hp
   subst hp;exact Ye _
  rcases turn i n acc H3 w3 with⟨stop,hl,qn⟩|⟨go,hl,step⟩
  ·have q:=T.done Xc hXp hXw hXk hXcalm i _ s3 (ZbO js σ) H3 (λ_ _=>False) I3 (fpok pg fr3) st3 stop
   rw[hXA]at q
   refine thn q λr s4 ⟨hr,I5⟩=>?_
   subst hr
   have hpin:=I5.pin _ (Ys _ (.head _))
   obtain⟨m5,hn5,_⟩:=I5.loc
   rw[hXe]at hn5
   refine fin _ _ H3 H2 s2 s4 acc m5 I2 (by have:=I5.free;rw[hXe]at this;exact this) hC rfl hn5 (λh' hsb=>?_) (qn _ hpin.2.1)
   have same:∀b o,b≠HH.objs.size->s4.heap.get? b=some o->h'.get? b=some o:=λb o hb e=>hsb.extBut b o hb e
   have un:=I5.base
   rw[hfs,hex,hh0,hs0]at un
   have lt:∀b o,s2.heap.get? b=some o->b<s2.heap.objs.size:=λb o e=>Yg e
   have neC:∀b o,s2.heap.get? b=some o->b≠HH.objs.size:=λb o e=>Yl (by rw[hC];exact YC (lt b o e))
   have neD:∀b o,s2.heap.get? b=some o->b≠s2.heap.objs.size:=λb o e=>Yl (lt b o e)
   have trkC:∀b o,H3 b=some o->b≠HH.objs.size:=λb o e z=>by
    have:=I5.free;rw[hXe]at this;rw[z,show H3 HH.objs.size=none from this]at e;cases e
   refine I2.call' (s':={s4 with heap:=h'}) (ch:=fp) (I5.os.trans (by rw[hs0])) ⟨λb o e n hb hx=>same _ _ (neC b o e) (un.keep b o e n hb hx),λb o e n hb hx=>?_,λb o e n hx=>by rw[Zg (neD b o e)];exact un.free b o e n hx,λb o e hx=>?_,λb xs e=>?_,λb o u e=>?_,λb ps e=>?_⟩ (λa o e=>?_) I5.bare λb hb=>⟨(f2 b hb).2.2.2.1,(f2 b hb).2.1,(f2 b hb).2.2.2.2.1,(f2 b hb).2.2.2.2.2⟩
   ·obtain⟨sl,z⟩:=un.slot b o e n hb hx
    exact⟨sl,same _ _ (neC b o e) z⟩
   ·obtain⟨o',z⟩:=un.there b o e hx
    exact⟨o',same _ _ (neC b o e) z⟩
   ·rw[Zg (Yl (I2.hok.lt e))];exact un.tups b xs e
   ·rw[Zg (Yl (I2.hok.lt e))];exact un.frzs b o u e
   ·obtain⟨more,z⟩:=un.tbls b ps e
    exact⟨more,by rw[Zg (Yl (I2.hok.lt e))];exact z⟩
   ·by_cases ha:a=s2.heap.objs.size
    ·subst ha
     rw[Zd]at e;cases e
     exact⟨hl,its,nn,va,same _ _ hDC hpin.1⟩
    ·rw[Zg ha]at e
     have q:=I5.hok a o e
     rw[hXp,hXw]at q
     refine q.ZfD (λb u hb z=>same b u ?_ z) (λb z=>by rw[Zg];exact z;intro y;subst y;rw[hpin.2.1]at z;cases z) (λb xs z=>by rw[Zg];exact z;intro y;subst y;rw[hpin.2.1]at z;cases z) λb o u z=>by rw[Zg];exact z;intro y;subst y;rw[hpin.2.1]at z;cases z
     rcases hb with hb|hb
     ·subst hb;exact trkC _ _ e
     ·exact trkC _ _ hb
  ·have q:=T.item Xc hXp hXw hXk hXcalm i _ s3 (ZbO js σ) H3 (λ_ _=>False) I3 (fpok pg fr3) st3 go
   rw[hXA]at q
   refine thn q λr s4 ⟨u,hr,h4⟩=>?_
   subst hr
   refine thn h4 λ_ s5 ⟨x,H5,I5,r5,y5,st5,fr5⟩=>?_
   have I5':=I5.pinned (fpok pg fr5) (T.obj _ _ st5)
   have again:∀{σ7:St}{H7:Hp}{s7:Shared}{acc7:List V}{its7:List Value}{n7:Nat}{m:Nat},Inv Xc ([(s2.heap.objs.size,{cls:=.type "list",dict:=none,data:=.seq its7.toArray n7})]++Zb6 fp s5.heap) σ7 H7 s7->Vals acc7 its7->acc7.length<=sizeLine->W (i+1) m acc7 H7->σ7.length=(ZbO js σ).length->(∀(k:Nat) v,(ZbO js σ)[k]?=some (some v)->σ7[k]?=some (some v)) ->
     ∃i acc its nn H',Inv Xc [(s2.heap.objs.size,{cls:=.type "list",dict:=none,data:=.seq (its:List Value).toArray nn})] (ZbO js σ) H' s7/\Vals acc its/\acc.length<=sizeLine/\tn i s7.heap/\(∀b∈fp,H' b=none)/\W i m acc H':=λ{σ7 H7 s7 acc7 its7 n7 m} I7 v7 l7 w7 hl7 hw7=>by
    refine⟨i+1,acc7,its7,n7,H7,(I7.weak hl7.symm hw7).Zb7,v7,l7,T.keep _ _ _ st5 λb hb o e=>(I7.pin (b,o) (Ys _ (Ys _ (ZbN hb e)))).1,λb hb=>?_,w7⟩
    obtain⟨o,e,d⟩:=T.obj _ _ st5 b hb
    exact(I7.pin (b,o) (Ys _ (Ys _ (ZbN hb e)))).2.1
   have keep:∀{σ6:St},Zbs L (ZbO js σ) σ6->σ6.length=(ZbO js σ).length/\∀(k:Nat) v,(ZbO js σ)[k]?=some (some v)->σ6[k]?=some (some v):=λ{σ6} hk=>⟨hk.1,λk v e=>by
    rw[hk.2 k]
    ·exact e
    ·intro z
     have q:=List.all_eq_true.mp hL k z
     simp only[beq_iff_eq]at q
     unfold ZbO at e
     rw[YA,q]at e
     cases e⟩
   have q6:=gX _ s5 (ZbO js σ) H5 x u _ I5' r5 (ho _ _ _ _ _ (fun σ' H' kk z=>And.intro kk z) (step x H5 y5))
   rw[hXe,hXA,hXp,hXw,hXx]at q6
   refine thn q6 λ_ s6 ⟨σ6,H6,I6,k6,q6⟩=>?_
   obtain⟨kl,kv⟩:=keep k6
   have q7:=tX _ s6 σ6 H6 _ I6 q6
   rw[hXe,hXA,hXp,hXw,hXx]at q7
   refine thn q7 λb s7 ⟨H7,I7,q7⟩=>?_
   cases b with
   |false =>
    obtain⟨m',hm,w7⟩:=q7
    exact⟨m',hm,again I7 va hlen w7 kl kv⟩
   |true =>
    have q8:=eX _ s7 σ6 H7 _ I7 q7
    rw[hXe,hXA,hXp,hXw,hXx]at q8
    refine thn q8 λy s8 ⟨v8,H8,I8,r8,m',hm,w8⟩=>?_
    have pinD:=I8.pin _ (Ys _ (YF _ (.head _)))
    have hnf:∀p∈Zb6 fp s5.heap,p.1≠s2.heap.objs.size:=λp hp=>by
     obtain⟨z,_⟩:=Zff hp
     exact Yl (hfl _ z)
    have va':=va.length
    refine call_meets F.slot_list_append ⟨_,pinD.1,rfl⟩ F.entry_list_append (F.args_list_append_2 _ _) (PySem.list_append s2.heap.objs.size its.toArray nn y (by rw[Yk];omega)) ⟨pinD.1,?_⟩
    have e9:=PySem.IsL.update pinD.1 (λa=>a.push y)
    have e9':its.toArray.push y=(its++[y]).toArray:=by simp
    dsimp only at e9
    rw[e9']at e9
    have I8':Inv Xc (Zb6 fp s5.heap) σ6 H8 s8:=I8.Zdj λp hp=>I8.pin p (Ys _ (Ys _ hp))
    have hXpn:Xc.pn=[]:=by rw[<-hXc];rfl
    have hXs:s2.heap.objs.size∉frs X.stack:=by rw[<-hfs];exact pinD.2.2.2.1
    have I9:=I8'.turned (t':=s8.toks) (it:=s2.heap.objs.size) (h':=s8.heap.update s2.heap.objs.size (Obj.mapSeq λa=>a.push y)) (λb o hb e=>(Heap.get?_update_other s8.heap _ (Ne.symm hb)).trans e) pinD.2.1 pinD.2.2.1
     (.inr (by rw[hs0];exact Ye _)) (λx c e=>by
      rw[hXe]at e
      intro z
      rcases up _ _ e with y|y
      ·obtain⟨v,q⟩:=I2.cell x c y
       exact absurd q.lt (by rw[z];exact Yy _)
      ·have:=y.1
       rw[z,hC]at this
       exact absurd this (Nat.not_lt_of_le (Nat.le_succ _))) (λp hp=>by rw[hXpn,List.nil_append]at hp;exact hnf p hp)
    have I10:=I9.Zdj (pins':=[(s2.heap.objs.size,{cls:=.type "list",dict:=none,data:=.seq (its++[y]).toArray _})]++Zb6 fp s5.heap) λp hp=>by
     rcases Yz.mp hp with z|z
     ·simp only[Yq,List.not_mem_nil,or_false]at z
      subst z
      exact⟨e9,pinD.2.1,pinD.2.2.1,pinD.2.2.2.1,by intro v z;cases z⟩
     ·exact I9.pin p (Ys _ z)
    exact⟨m',hm,again I10 (va.append (.cons r8 .nil)) (by rw[Yt,List.length_singleton];omega) w8 kl kv⟩
 exact codeAny_compStart_list loop (T.self _ 0 _ _ _ st4 loop)
theorem Zcc {tg elt iter:Expr}{ifs:List Expr}{scope:Scope}{pos:Pos}{wi:TI}{g:TG}{tt:TT}{te:TE} (Nc:List Str) (js:List (Option Nat)) {L:List Nat}
  (hc:X.calm=true) (hok:ZaD X.env.scope scope=true) (htk:ZaC X.N Nc scope js 0=true) (hi:PI X tg iter wi)
  (hg:∀cl C s2 H2 fp,PG (Zab X Nc scope cl C s2 H2 fp) tg g) (ht:∀cl C s2 H2 fp,ZiE (Zab X Nc scope cl C s2 H2 fp) ifs tt) (he:∀cl C s2 H2 fp,PE (Zab X Nc scope cl C s2 H2 fp) elt te)
  (ho:Zfl g L) (hL:(L.all λk=>js[k]?==some none)=true:=by rfl) (hs:∀x,foldedSetIterable iter X.env x=pure x:=by intro _;rfl):PE X (.ListComp elt [⟨tg,iter,ifs,0⟩] scope pos) (Zh9 wi g tt te js):=by
 intro pins s σ H Q I h
 rw[eval_ListComp]
 exact Zfv (use:=none) hc hok htk hi hg ht he hs ho hL I h λD C H' H2 s2 s' xs m I2 hHC e1 e2 hn hI q=>⟨m,hn,λh' hsb=>⟨.ref D,_,hI h' hsb,rfl,q⟩⟩
theorem ZbG {i:Nat}{x:Str}{pos' spos:Pos}{tg elt iter:Expr}{ifs:List Expr}{scope:Scope}{pos:Pos}{wi:TI}{g:TG}{tt:TT}{te:TE} (Nc:List Str) (js:List (Option Nat)) {L:List Nat}
  (hN:X.N.Nodup) (hxi:X.N[i]?=some x) (hx:Loc X.env.scope x)
  (hc:X.calm=true) (hok:ZaD X.env.scope scope=true) (htk:ZaC X.N Nc scope js 0=true) (hi:PI X tg iter wi)
  (hg:∀cl C s2 H2 fp,PG (Zab X Nc scope cl C s2 H2 fp) tg g) (ht:∀cl C s2 H2 fp,ZiE (Zab X Nc scope cl C s2 H2 fp) ifs tt) (he:∀cl C s2 H2 fp,PE (Zab X Nc scope cl C s2 H2 fp) elt te)
  (ho:Zfl g L) (hL:(L.all λk=>js[k]?==some none)=true:=by rfl) (hs:∀x,foldedSetIterable iter X.env x=pure x:=by intro _;rfl)
  (hsw:swapsWith (.ListComp elt [⟨tg,iter,ifs,0⟩] scope pos) (some (.Name x pos')) spos.line X.env=pure true:=by rfl)
  (hf:X.fn x=true\/X.env.scope.names.lookup x=some .local:=by first|exact .inl rfl|exact .inr rfl|assumption) :
  PS X (.Assign [.Name x pos'] (.ListComp elt [⟨tg,iter,ifs,0⟩] scope pos) spos) (tAsg (Zh9 wi g tt te js) (Zer i)):=by
 intro pins s σ H D I h
 rw[exec_Assign_Name_used _ _ _ _ hsw]
 refine Ya (wpAny_standAt (Ya ?_))
 show wpAny _ _ (comprehension _ _ _ _ _ _ _ _ >>= _) _ _ _
 refine Ya (thn (Q:=λ_ s'=>∃σ' H',Inv X pins σ' H' s'/\D.nx σ' H') (Zfv (Q:=λv H1=>Zer i v σ H1 D.nx) (use:=some (assign (.Name x pos') X.env)) hc hok htk hi hg ht he hs ho hL I h ?_) λ_ s' ⟨σ',H',I',q⟩=>Yd (Yd ⟨σ',H',I',q⟩))
 intro D' C H' H2 s2 s' xs m I2 hHC e1 e2 hn hI q
 obtain⟨oC,es,ep,hoC,hdC,hrest⟩:=id hn
 have leC:s2.heap.objs.size<=C:=by rw[e1,e2];exact Nat.le_succ _
 have ltC:s2.heap.objs.size<C:=by rw[e1,e2];exact Nat.lt_succ_self _
 have neDC:C≠D':=by rw[e2];exact Nat.ne_of_gt ltC
 have fresh:s2.heap.get? C=none:=by
  cases e:s2.heap.get? C with
  |none=>rfl
  |some o=>exact absurd (Yp (Yg e) leC) (Yy _)
 have neL:C≠X.env.locals:=Nat.ne_of_gt (Yp I2.lt leC)
 have nfs:C∉X.fs:=I2.nofs leC
 have ncl:∀x c,X.env.cells.lookup x=some c->c≠C:=λx c e z=>by
  obtain⟨v,q⟩:=I2.cell x c e
  exact absurd (Yp q.lt leC) (by rw[z];exact Yy _)
 have npn:∀p∈X.pn++pins,p.1≠C:=λp hp z=>by
  have:=(I2.pin p hp).1
  rw[z,fresh]at this;cases this
 have hH:(upd H' D' (HO.lst xs)) C=none:=by rw[Zg neDC];exact hHC
 have I0:=hI s'.heap ZfT
 have I1:Inv X (pins++[(C,oC)]) σ (upd H' D' (.lst xs)) s':=I0.Zdj λp hp=>by
  rcases Yz.mp hp with z|z
  ·exact I0.pin p (Ys _ z)
  ·simp only[Yq,List.not_mem_nil,or_false]at z
   subst z
   exact⟨hoC,hH,neL,nfs,λv z=>by rw[hdC]at z;cases z⟩
 show wpAny _ _ _ _ _ _
 refine thn (Zm (X:=X) (i:=i) hN hxi hx hf (pins++[(C,oC)]) s' σ _ (.ref D') (.ref D') _ I1 rfl q) λ_ s3 ⟨σ3,H3,I3,q3⟩=>?_
 have pC:=I3.pin (C,oC) (Ys _ (Ys _ (.head _)))
 refine⟨m,⟨oC,es,ep,pC.1,hdC,hrest⟩,λh' hsb=>⟨σ3,H3,?_,q3⟩⟩
 exact I3.Zb7.turned (t':=s3.toks) (it:=C) (λb o hb e=>hsb.extBut b o hb e) pC.2.1 neL (.inr (Yj I2.sz leC)) ncl npn
end
end L2
namespace L2
open PySem PySem.Spec PyProof.Rows PySem.W
noncomputable def CF (n:Nat) (P:Nat->Bool) (vals:Nat->V) (H1:Hp) (i m:Nat) (acc:List V) (H:Hp):Prop:=m=n-i/\i<=n/\acc=((List.range i).filter P).map vals/\Zf H1 H
theorem CF.take {n:Nat}{P:Nat->Bool}{vals:Nat->V}{H1 H:Hp}{i:Nat}{v:V} (hi:i<n) (hP:P i=true) (hv:v=vals i) (s:Zf H1 H):∃m',m'<n-i/\CF n P vals H1 (i+1) m' (((List.range i).filter P).map vals++[v]) H :=
 ⟨n-(i+1),by omega,rfl,hi,by rw[YN,List.filter_append,YY,hv];simp[hP],s⟩
theorem CF.skip {n:Nat}{P:Nat->Bool}{vals:Nat->V}{H1 H:Hp}{i:Nat} (hi:i<n) (hP:P i=false) (s:Zf H1 H):∃m',m'<n-i/\CF n P vals H1 (i+1) m' (((List.range i).filter P).map vals) H :=
 ⟨n-(i+1),by omega,rfl,hi,by rw[YN,List.filter_append,YY];simp[hP],s⟩
theorem ZcL {J:It}{n:Nat}{H1:Hp}{g:TG}{tt:TT}{te:TE}{σ0:St}{Q:VK} (P:Nat->Bool) (vals:Nat->V) (hn:n<sizeLine) (hgo:∀i H,Zf H1 H->i<n->J.go i H) (hstop:∀H,Zf H1 H->J.stop n H)
  (hb:∀i x H H',i<n->Zf H1 H->J.yld i H x H'->g x σ0 H' fun σ2 H2=>tt σ2 H2 λb H3=>if b=true then te σ2 H3 λv H4=>∃m',m'<n-i/\CF n P vals H1 (i+1) m' (((List.range i).filter P).map vals++[v]) H4 else ∃m',m'<n-i/\CF n P vals H1 (i+1) m' (((List.range i).filter P).map vals) H3)
  (hk:∀l H',Zf H1 H'->H' l=none->Q (.ref l) (upd H' l (.lst (((List.range n).filter P).map vals)))) :
  ZgA J g tt te σ0 Q H1:=by
 refine⟨CF n P vals H1,⟨n,rfl,Ym _,rfl,Zf.refl _⟩,?_⟩
 rintro i m acc H ⟨rfl,hi,rfl,s⟩
 have hlen:(((List.range i).filter P).map vals).length<=n:=by
  rw[Yh]
  have:=Y0 P (List.range i)
  rw[List.length_range]at this
  omega
 by_cases h:i<n
 ·exact .inr ⟨hgo i H s h,by omega,λx H' y=>hb i x H H' h s y⟩
 ·have:i=n:=by omega
  subst this
  exact .inl ⟨hstop H s,by omega,λp hp=>hk p H s hp⟩
theorem Zii {ns T:List Int} (hT:Zl ns T) {p o:Nat} (hp:p<ns.length):(o:Int)∈Zc4 T p↔o<ns.length/\Over (nth ns) o p:=by
 rw[<-(Zdn hT T.length p hp (by rw[hT.1];exact YK (ZeC hp))).1 o]
 unfold Zc4
 rw[YR]
 refine⟨λ⟨q,hq,e⟩=>?_,λh=>⟨o,h,rfl⟩⟩
 have:q=o:=by omega
 rw[<-this];exact hq
end L2
namespace HT
open PySem PyProof.Rows
section
open PySem.SeqAt
open PySem.AutoSeq1 (wpAny_loadPart')
open PySem.MeetsSeq PySem.MeetsSeq2 PySem.MeetsSeq3
variable {prog:Program}{w:World}{A:Around}{E:Value->Shared->Prop}{s:Shared}
theorem Zds {t sl:Addr}{items:Array Value}{vl vu:Value}{lo hi:Option Int}{Q:Value->Shared->Prop} (ht:IsTup s.heap t items) (hs:s.heap.IsSliceOf sl vl vu .none) (pl:IsPart vl lo) (pu:IsPart vu hi)
  (hw:sIx items.size 0 lo=0/\sIx items.size items.size hi=items.size) (h:Q (.ref t) s):wpAny (model prog w) A (getItem (.ref t) (.ref sl)) Q E s:=by
 obtain⟨os,hos,hcs,hds⟩:=id hs
 have hTs:s.TypeIs (.ref sl) "slice":=⟨os,hos,hcs⟩
 unfold getItem
 try with_reducible refine wpAny_holding ?_
 first|refine Ya (Yd ?_)|skip
 refine Ya (wpAny_sequenceKey ht.typeIs (by decide) ?_)
 refine Ya (wpAny_callSpecial?_slot (name:=Str.ofString "__getitem__") ht.typeIs PyProof.Rows.slot_tuple_getitem
  (wpAny_call_entry PyProof.Rows.slot_tuple_getitem ht.typeIs entry_tuple_getitem ?_ (args_tuple_getitem _ _)))
 show wpAny _ _ (Builtin.Tuple.tupleItemsOf (.ref t) >>= _) _ _ s
 refine Ya (tupleItemsOf_ ht ?_)
 refine Ya (wpAny_typeOf hTs ?_)
 rw[Yc (by decide)]
 refine Ya (ZbE hs pl pu ?_)
 have hyes:(((sIx items.size 0 lo:Nat):Int)==0&&(1:Int)==1&&(sIx items.size items.size hi-sIx items.size 0 lo)==items.size)=true:=by
  rw[hw.1,hw.2];simp
 show wpAny _ _ (if (((sIx items.size 0 lo:Nat):Int)==0&&(1:Int)==1&&(sIx items.size items.size hi-sIx items.size 0 lo)==items.size)=true then _ else _) _ _ s
 rw[Yc hyes]
 refine Ya ?_
 unfold Builtin.Tuple.tupleIsExact
 refine Ya (wpAny_typeOf ht.typeIs (Yd ?_))
 rw[Yc (by decide)]
 refine Ya (wpAny_rule ?_)
 first
  |exact Yd ⟨_,rfl,Yd h⟩
  |exact Ya (Yd (Yd ⟨_,rfl,Yd h⟩))
  |exact Ya (Yd ⟨_,rfl,Yd h⟩)
end
end HT
namespace L2
open PySem PySem.Spec PyProof.Rows PySem.W
section
variable {X:Cx}
noncomputable def rSlQ (K:Frag):V->Option Int->Option Int->Hp->VK->Prop:=λx lo hi H Q=>∃a xs,x=.ref a/\((SqL K H a xs/\∀p,H p=none->Q (.ref p) (upd H p (.lst (Zbr xs lo hi)))) \/
 (SqT K H a xs/\(HT.sIx xs.length 0 lo=0/\HT.sIx xs.length xs.length hi=xs.length->Q (.ref a) H)/\(¬ (HT.sIx xs.length 0 lo=0/\HT.sIx xs.length xs.length hi=xs.length)->∀p,H p=none->Q (.ref p) (upd H p (.tup (Zbr xs lo hi))))))
theorem sl_q {K:Frag} (hK:X.K=K):SlR X (rSlQ K):=by
 subst hK
 intro pins s σ H x v vl vu lo hi sl Q I rx hs pl pu h
 obtain⟨a,xs,rfl,h|⟨hx,h1,h2⟩⟩:=h
 ·exact Zh6 pins s σ H _ v vl vu lo hi sl Q I rx hs pl pu ⟨a,xs,rfl,h⟩
 ·by_cases hw:HT.sIx xs.length 0 lo=0/\HT.sIx xs.length xs.length hi=xs.length
  ·cases rx
   obtain⟨its,r,ht,hz⟩:=I.tuple hx
   have hlen:its.toArray.size=xs.length:=by rw[Yk];exact r.length.symm
   refine⟨"tuple",_,PyProof.Rows.slot_tuple_getitem.lookup,ht.typeIs,?_⟩
   exact HT.Zds ht hs pl pu (by rw[hlen];exact hw) ⟨.ref a,H,I,rfl,h1 hw⟩
  ·exact sl_tup pins s σ H _ v vl vu lo hi sl Q I rx hs pl pu ⟨a,xs,rfl,hx,hw,h2 hw⟩
end
theorem ZiU {xs:List V}{lo hi:Option Int} (h:HT.sIx xs.length 0 lo=0/\HT.sIx xs.length xs.length hi=xs.length):Zbr xs lo hi=xs:=by
 unfold Zbr
 rw[h.1,h.2];simp
noncomputable def way (T:List Int) (p:Nat):List Nat:=Z3 T T.length (nth T p)
theorem Zdt (T:List Int) (p:Nat):Zc4 T p=(way T p).map λq=>((q:Nat):Int):=rfl
theorem ZdY {ns T:List Int} (hT:Zl ns T) {p:Nat} (hp:p<ns.length):nth T p=-1\/∃q:Nat,nth T p=q/\q<ns.length/\Over (nth ns) q p/\dep (nth ns) ns.length p=dep (nth ns) ns.length q+1:=by
 rcases ZbP hp (hT.2 p hp)with z|⟨q,e,hq,hO⟩
 ·exact .inl z
 ·have e':nth T p=(q:Int):=e
  have hE:Zp (nth ns) ns.length p (q:Int):=e'▸hT.2 p hp
  exact .inr ⟨q,e,hq,hO,ZcJ hp hE⟩
section
variable {X:Cx}{pins:List (Addr×Obj)}{σ:St}{H:Hp}{s:Shared}{h':Heap}
theorem Inv.Zf1 {t':Nat}{fp:List Addr}{T:Addr}{o:HO} (I:Inv X pins σ H s) (k:∀b u,b∉fp->s.heap.get? b=some u->h'.get? b=some u) (hf:∀b∈fp,FpOk X pins H b) (hT:s.heap.objs.size<=T) (new:Z8 X.prog X.w (upd H T o) h' T o) :
  Inv X pins σ (upd H T o) {s with heap:=h',toks:=t'}:=by
 have nit:∀b u,H b=some u->b∉fp:=λb u e z=>by rw[(hf b z).1]at e;cases e
 have hfr:H T=none:=I.hok.fresh hT
 have neT:∀b u,s.heap.get? b=some u->b≠T:=λb u e z=>absurd (Yg e) (by rw[z];exact Nat.not_lt_of_le hT)
 have neH:∀b u,H b=some u->b≠T:=λb u e z=>by rw[z,hfr]at e;cases e
 refine I.step (g':=s.gens) (d':=s.drawn) (ch:=fp) (λb hb=>?_) (λb o _ _ hc e _=>k b o hc e) (λb o _ _ hc e _=>⟨o.slots,k b o hc e⟩) (λb u _ e n=>by rw[Zg (neT b u e)];exact n)
  (λb o hc e=>⟨o,k b o hc e⟩) (λb xs e=>by rw[Zg (neH b _ e)];exact e) (λb o u e=>by rw[Zg (neH b _ e)];exact e) (λb ps e=>⟨#[],by rw[Zg (neH b _ e),e];simp⟩) (λm hm=>?_) (λb u e=>?_) I.bare
 ·obtain⟨_,f1,_,f3,f4,f5⟩:=hf b hb
  exact⟨f3,f1,f4,f5⟩
 ·obtain⟨o,es,ep,ho,r⟩:=hm
  exact⟨o,es,ep,k _ o (λz=>(hf _ z).2.1 rfl) ho,r⟩
 ·by_cases z:b=T
  ·subst z
   rw[Zd]at e;cases e
   exact new
  ·rw[Zg z]at e
   refine(I.hok b u e).ZfD (λc v hc q=>k c v ?_ q) (λc q=>?_) (λc xs q=>?_) λc o u q=>?_
   ·rcases hc with y|y
    ·rw[y];exact nit b u e
    ·exact nit c _ y
   ·rw[Zg (neH _ _ q)];exact q
   ·rw[Zg (neH _ _ q)];exact q
   ·rw[Zg (neH _ _ q)];exact q
noncomputable def Ite (K : Frag) (a : Addr) : It :=
  ⟨fun i H => ∃ xs x, SqL K H a xs ∧ xs[i]? = some x,
   fun i H v H' => ∃ p x, H p = none ∧ v = .ref p ∧ H' = upd H p (.tup [.int (i : Int), x]) ∧ ∀ xs, SqL K H a xs → xs[i]? = some x,
   fun i H => ∃ xs, SqL K H a xs ∧ xs.length = i⟩
theorem ZiV {P:Program}{w:World}{K:Frag}{elts:List Expr} {x1}{pos:Pos}{a e it:Addr} (h1:e≠it) (h2:a≠e) (h3:a≠it) :
  Turn P w K (.Tuple elts x1 pos) (Ite K a) [e,it] e (λi h=>(∃old,IsEnum h e it (i:Int) old)/\h.IsListIter it a i) where
 mem:=by simp
 obj:=λi h st c hc=>by
  obtain⟨⟨old,q1⟩,⟨o4,q4,_,d4⟩⟩:=st
  simp at hc
  rcases hc with rfl|rfl
  ·exact⟨_,q1,λv z=>by cases z⟩
  ·exact⟨_,q4,λv z=>by rw[d4]at z;cases z⟩
 keep:=λi h h' st k=>by
  obtain⟨⟨old,q1⟩,q4⟩:=st
  exact⟨⟨old,k e (by simp) _ q1⟩,q4.at λo z=>k it (by simp) o z⟩
 item:=by
  intro X hP hw hK hc i pins s σ H E I hf st hg
  subst hP hw hK
  obtain⟨xs,x,qa,hx⟩:=hg
  obtain⟨is1,r1,p1,hz1⟩:=I.list qa
  obtain⟨u,hu,ru⟩:=r1.get hx
  have W:=WalksT.enumerate (prog:=X.prog) (w:=X.w) (I.ok.hd hc) e it a h1 h2 h3 is1.toArray
  have hi:i<is1.toArray.size:=by
   have:=(Yn.mp hu).1
   simpa using this
  refine W.item i s _ E hi ⟨st.1,st.2,p1.isList⟩ λT vals h' tk Pt hT hTup Mid keep=>⟨_,rfl,W.go elts x1 pos i T _ _ E Mid λh2' St2 keep2=>?_⟩
  obtain⟨t,y,hy,rfl⟩:=Pt
  have hyu:y=u:=by
   have:is1[i]?=some y:=by simpa using hy
   rw[hu]at this;exact(Yw this).symm
  subst hyu
  have nT:=W.apart i T h' Mid
  have hfr:H T=none:=I.hok.fresh hT
  have kk:∀b o,b∉[e,it]->s.heap.get? b=some o->h2'.get? b=some o:=λb o hb q=>keep2 b o hb (keep b o hb q)
  have nTe:∀c∈[e,it],c≠T:=λc hc z=>nT (z▸hc)
  refine⟨.ref T,_,Inv.Zf1 (s:=s) (t':=tk) (o:=.tup [.int (i:Int),x]) I kk hf hT ?_,rfl,⟨T,x,hfr,rfl,rfl,λxs' q'=>?_⟩,⟨?_,St2.2.1⟩,λc hc=>?_⟩
  ·obtain⟨oT,q1,q2,n,q3⟩:=hTup
   exact⟨by show 2<=sizeLine;decide,[.int (i:Int) t,y],.cons ⟨t,rfl⟩ (.cons ru .nil),⟨oT,keep2 T oT nT q1,q2,n,q3⟩⟩
  ·rw[I.ZbC q' qa];exact hx
  ·obtain⟨old,q⟩:=St2.1
   exact⟨old,by rw[show(((i+1:Nat)):Int)=(i:Int)+1 by omega]at *;exact q⟩
  ·rw[Zg (nTe c hc)];exact(hf c hc).1
 done:=by
  intro X hP hw hK hc i pins s σ H E I hf st hg
  subst hP hw hK
  obtain⟨xs,qa,hx⟩:=hg
  obtain⟨is1,r1,p1,_⟩:=I.list qa
  have W:=WalksT.enumerate (prog:=X.prog) (w:=X.w) (I.ok.hd hc) e it a h1 h2 h3 is1.toArray
  have hi:i=is1.toArray.size:=by
   have:=r1.length
   simp;omega
  refine W.done s _ E ?_ λh' tk keep=>⟨rfl,I.ZfV (t':=tk) (fp:=[e,it]) (λc o hc q=>keep c o hc q) hf⟩
  rw[<-hi]
  exact⟨st.1,st.2,p1.isList⟩
 self:=λA i s Q E st h=>by
  obtain⟨⟨old,q⟩,_⟩:=st
  exact wpAny_pyIter_enum q h
theorem Zc6:bootBuiltins "enumerate"=some (.type "enumerate"):=by decide +kernel
end
theorem ZiW {prog:Program}{w:World}{A:Around}{R:Result->Shared->Prop}{I:Addr}{fp wr:List Addr}{n:Nat}{P:Nat->Value->Prop}{St:Nat->Heap->Prop} (W:Walks prog w A.in1 I fp wr n P St) (bt:Nat->Nat->Bool) (hc:CmpOf prog w A.in1 .Gt P bt)
  (S:Addr) (hS:S∉fp) (dk:Str) (d:Value) (h0:Heap) (s0:Shared)
  (hR0:n=0->∀h' tk,(∀b o,b∉wr->b≠S->h0.get? b=some o->h'.get? b=some o)->R (.ok (.ret d)) {s0 with heap:=h',toks:=tk})
  (hR:0<n->∀v h' tk,P (argBest bt (n-1)) v->(∀b o,b∉wr->b≠S->h0.get? b=some o->h'.get? b=some o)->R (.ok (.ret v)) {s0 with heap:=h',toks:=tk}) :
  ∀(k j:Nat) (h:Heap) (tk:Nat),n-j=k->j<=n->St j h->(∀b o,b∉wr->b≠S->h0.get? b=some o->h.get? b=some o) ->
   ((j=0/\∃c,h.get? S=some {cls:=.type "list",data:=.seq #[] c})\/(0<j/\∃vb c,P (argBest bt (j-1)) vb/\h.get? S=some {cls:=.type "list",data:=.seq #[vb,vb] c})) ->
   codeAny (model prog w) A (.builtin "max.loop" {pos:=[.ref I,.none,.ref S],kw:=[(dk,d)]}) R {s0 with heap:=h,toks:=tk}:=by
 intro k
 induction k with
 |zero =>
  intro j h tk hk hj hst keep hb
  refine codeAny_builtin F.entry_max_loop ?_
  have hjn:j=n:=by omega
  subst hjn
  rcases hb with⟨hj0,c,hb⟩|⟨hj0,vb,c,hvb,hb⟩
  ·show wpAny _ _ (_ >>= _) _ _ _
   refine Ya (wpAny_seqItems hb rfl ?_)
   refine Ya (wpAny_tryCatch (W.done _ _ _ hst λh' tk' kp=>?_))
   refine Ya (wpAny_rule (Yd ?_))
   exact hR0 hj0 h' tk' λb o hb1 hb2 e=>kp b o hb1 (keep b o hb1 hb2 e)
  ·show wpAny _ _ (_ >>= _) _ _ _
   refine Ya (wpAny_seqItems hb rfl ?_)
   refine Ya (wpAny_tryCatch (W.done _ _ _ hst λh' tk' kp=>?_))
   have hS':S∉wr:=λz=>hS (W.sub S z)
   have hb':=kp S _ hS' hb
   refine Ya (wpAny_updateSeq hb' rfl ?_ (show 2<=sizeLine by decide) (Ym _))
   refine Ya (wpAny_letGo (Yd ?_))
   refine hR hj0 vb _ tk' hvb λb o hb1 hb2 e=>?_
   exact(Heap.get?_update_other _ _ (Ne.symm hb2)).trans (kp b o hb1 (keep b o hb1 hb2 e))
 |succ k ih =>
  intro j h tk hk hj hst keep hb
  refine codeAny_builtin F.entry_max_loop ?_
  have hjn:j<n:=by omega
  have hS':S∉wr:=λz=>hS (W.sub S z)
  rcases hb with⟨hj0,c,hb⟩|⟨hj0,vb,c,hvb,hb⟩
  ·show wpAny _ _ (_ >>= _) _ _ _
   refine Ya (wpAny_seqItems hb rfl ?_)
   refine Ya (wpAny_tryCatch (W.item j _ _ _ hjn hst λv h' tk' hv hst' kp=>?_))
   have hb':=kp S _ hS' hb
   refine Ya (Yd ?_)
   refine Ya (wpAny_updateSeq hb' rfl ?_ (Ym _) (show 2<=sizeLine+1 by decide))
   refine Yd ⟨rfl,?_⟩
   have e9:=PySem.IsL.update hb' (λ_=>#[v,v])
   refine ih (j+1) _ tk' (by omega) (by omega) (W.frame _ _ _ hst' λb hb1 o e=>?_) (λb o hb1 hb2 e=>?_) (.inr ⟨by omega,v,_,?_,e9⟩)
   ·exact(Heap.get?_update_other _ _ (show S≠b from λz=>hS (by rw[z];exact hb1))).trans e
   ·exact(Heap.get?_update_other _ _ (Ne.symm hb2)).trans (kp b o hb1 (keep b o hb1 hb2 e))
   ·rw[hj0];rw[hj0]at hv;exact hv
  ·show wpAny _ _ (_ >>= _) _ _ _
   refine Ya (wpAny_seqItems hb rfl ?_)
   refine Ya (wpAny_tryCatch (W.item j _ _ _ hjn hst λv h' tk' hv hst' kp=>?_))
   have hb':=kp S _ hS' hb
   obtain⟨j',rfl⟩:∃j',j=j'+1:=⟨j-1,by omega⟩
   have hvb':P (argBest bt j') vb:=hvb
   have eA:argBest bt (j'+1)=if bt (j'+1) (argBest bt j')=true then j'+1 else argBest bt j':=rfl
   refine Ya (Yd ?_)
   refine Ya (wpAny_tryCatch (wpAny_holding (Ya (hc (j'+1) (argBest bt j') v vb _ _ _ hv hvb' (Ya (wpAny_holding (wpAny_truthy_bool (Ya (wpAny_letGo (Yd ?_))))))))))
   by_cases z:bt (j'+1) (argBest bt j')=true
   ·rw[Yc z]
    refine Ya (wpAny_updateSeq hb' rfl ?_ (show 2<=sizeLine by decide) (show 2<=sizeLine+1 by decide))
    refine Ya (wpAny_letGo (Yd ⟨rfl,?_⟩))
    have e9:=PySem.IsL.update hb' (λ_=>#[v,v])
    refine ih (j'+1+1) _ tk' (by omega) (by omega) (W.frame _ _ _ hst' λb hb1 o e=>?_) (λb o hb1 hb2 e=>?_) (.inr ⟨by omega,v,_,?_,e9⟩)
    ·exact(Heap.get?_update_other _ _ (show S≠b from λz=>hS (by rw[z];exact hb1))).trans e
    ·exact(Heap.get?_update_other _ _ (Ne.symm hb2)).trans (kp b o hb1 (keep b o hb1 hb2 e))
    ·show P (argBest bt (j'+1)) v
     rw[eA,Yc z];exact hv
   ·rw[Yb z]
    refine Ya (wpAny_letGo (Yd ⟨rfl,?_⟩))
    refine ih (j'+1+1) _ tk' (by omega) (by omega) hst' (λb o hb1 hb2 e=>kp b o hb1 (keep b o hb1 hb2 e)) (.inr ⟨by omega,vb,_,?_,hb'⟩)
    show P (argBest bt (j'+1)) vb
    rw[eA,Yb z];exact hvb'
theorem ZiX (a d:Value):argsOk "max" {pos:=[a],kw:=[("default",d)]}:=by first|rfl|decide
theorem ZiY {prog:Program}{w:World}{A:Around}{E Q:Value->Shared->Prop}{s:Shared}{l:Addr}{xs:Array (Int×Tok)}{d:Value} (hA:A.handled=none) (hl:s.heap.IsList l (intItems xs))
  (q0:xs.size=0->∀h' tk,(∀b o,s.heap.get? b=some o->h'.get? b=some o)->Q d {s with heap:=h',toks:=tk})
  (q1:0<xs.size->∀v h' tk,(intItems xs)[argBest (λi j=>decide (numAt xs i>numAt xs j)) (xs.size-1)]?=some v->(∀b o,s.heap.get? b=some o->h'.get? b=some o)->Q v {s with heap:=h',toks:=tk}) :
  wpAny (model prog w) A (call (.builtin "max") [.ref l] [("default",d)]) Q E s:=by
 refine wpAny_call (codeAny_call_builtin_code rfl ?_)
 have hck:checkBuiltinCall "max" {pos:=[.ref l],kw:=[("default",d)]}=pure ():=by
  unfold checkBuiltinCall
  rw[F.kind_max]
  exact ZiX (.ref l) d
 rw[hck]
 refine Yd (codeAny_builtin F.entry_max ?_)
 show wpAny _ _ (_ >>= _) _ _ _
 have hbp:Builtin.Builtins.bindParams "max" ["key","default"] 0 {kw:=[("default",d)]}=pure [none,some d]:=by
  first|rfl|with_unfolding_all rfl|(simp[Builtin.Builtins.bindParams];done)
 refine Ya (wpAny_of_eq hbp (Ya (Yd (Ya (wpAny_pyIter_list hl ?_)))))
 refine Ya (wpAny_newObj_type ?_)
 refine Yd ⟨rfl,?_⟩
 have hlt:l<s.heap.objs.size:=by obtain⟨o,e,_⟩:=hl;exact Yg e
 have n1:l≠s.heap.objs.size:=Yl hlt
 have esz:(s.heap.push {cls:=.type "list_iterator",data:=.fields #[.ref l,.int 0 0]}).objs.size=s.heap.objs.size+1:=Heap.size_push _ _
 have old:∀b o,s.heap.get? b=some o->((s.heap.push {cls:=.type "list_iterator",data:=.fields #[.ref l,.int 0 0]}).push {cls:=.type "list",data:=.seq #[]}).get? b=some o:=λb o e=>Yi _ (Yi _ e)
 have ne:∀b o,s.heap.get? b=some o->b∉[s.heap.objs.size]/\b≠(s.heap.push {cls:=.type "list_iterator",data:=.fields #[.ref l,.int 0 0]}).objs.size:=λb o e=>by
  have:=Yg e
  refine⟨λz=>?_,λz=>?_⟩
  ·have:b=s.heap.objs.size:=by simpa using z
   exact absurd (Yg e) (by rw[this];exact Yy _)
  ·rw[z,esz]at this
   exact absurd this (Nat.not_lt_of_le (Nat.le_succ _))
 have W:=Walks.list (prog:=prog) (w:=w) (A:=A.in1) hA s.heap.objs.size l n1 (intItems xs)
 have hitm:(intItems xs).size=xs.size:=by simp[intItems]
 refine ZiW W (λi j=>decide (numAt xs i>numAt xs j)) (CmpOf.ints_gt (numAt xs) λi v h=>intItems_at h) _ ?_ "default" d _ s (λz h' tk kp=>?_) (λz v h' tk hv kp=>?_) (intItems xs).size 0 _ _ rfl (Ym _) ⟨?_,?_⟩ (λb o _ _ e=>e) (.inl ⟨rfl,_,Yo _ rfl⟩)
 ·rw[esz]
  simp only[Yq,List.not_mem_nil,or_false,not_or]
  exact⟨Nat.ne_of_gt (Nat.lt_succ_self _),Nat.ne_of_gt (YC hlt)⟩
 ·exact q0 (by omega) h' tk λb o e=>kp b o (ne b o e).1 (ne b o e).2 (old b o e)
 ·exact q1 (by omega) v h' tk (by rw[<-hitm];exact hv) λb o e=>kp b o (ne b o e).1 (ne b o e).2 (old b o e)
 ·exact⟨_,Yi _ (Yo _ rfl),rfl,rfl⟩
 ·obtain⟨o,e,r⟩:=hl
  exact⟨o,old _ _ e,r⟩
theorem ZiZ {prog:Program}{w:World}{A:Around}{R:Result->Shared->Prop}{I:Addr}{fp wr:List Addr}{n:Nat}{P:Nat->Value->Prop}{St:Nat->Heap->Prop} (W:Walks prog w A.in1 I fp wr n P St) (bt:Nat->Nat->Bool) (hc:CmpOf prog w A.in1 .Lt P bt)
  (S:Addr) (hS:S∉fp) (dk:Str) (d:Value) (h0:Heap) (s0:Shared)
  (hR0:n=0->∀h' tk,(∀b o,b∉wr->b≠S->h0.get? b=some o->h'.get? b=some o)->R (.ok (.ret d)) {s0 with heap:=h',toks:=tk})
  (hR:0<n->∀v h' tk,P (argBest bt (n-1)) v->(∀b o,b∉wr->b≠S->h0.get? b=some o->h'.get? b=some o)->R (.ok (.ret v)) {s0 with heap:=h',toks:=tk}) :
  ∀(k j:Nat) (h:Heap) (tk:Nat),n-j=k->j<=n->St j h->(∀b o,b∉wr->b≠S->h0.get? b=some o->h.get? b=some o) ->
   ((j=0/\∃c,h.get? S=some {cls:=.type "list",data:=.seq #[] c})\/(0<j/\∃vb c,P (argBest bt (j-1)) vb/\h.get? S=some {cls:=.type "list",data:=.seq #[vb,vb] c})) ->
   codeAny (model prog w) A (.builtin "min.loop" {pos:=[.ref I,.none,.ref S],kw:=[(dk,d)]}) R {s0 with heap:=h,toks:=tk}:=by
 intro k
 induction k with
 |zero =>
  intro j h tk hk hj hst keep hb
  refine codeAny_builtin F.entry_min_loop ?_
  have hjn:j=n:=by omega
  subst hjn
  rcases hb with⟨hj0,c,hb⟩|⟨hj0,vb,c,hvb,hb⟩
  ·show wpAny _ _ (_ >>= _) _ _ _
   refine Ya (wpAny_seqItems hb rfl ?_)
   refine Ya (wpAny_tryCatch (W.done _ _ _ hst λh' tk' kp=>?_))
   refine Ya (wpAny_rule (Yd ?_))
   exact hR0 hj0 h' tk' λb o hb1 hb2 e=>kp b o hb1 (keep b o hb1 hb2 e)
  ·show wpAny _ _ (_ >>= _) _ _ _
   refine Ya (wpAny_seqItems hb rfl ?_)
   refine Ya (wpAny_tryCatch (W.done _ _ _ hst λh' tk' kp=>?_))
   have hS':S∉wr:=λz=>hS (W.sub S z)
   have hb':=kp S _ hS' hb
   refine Ya (wpAny_updateSeq hb' rfl ?_ (show 2<=sizeLine by decide) (Ym _))
   refine Ya (wpAny_letGo (Yd ?_))
   refine hR hj0 vb _ tk' hvb λb o hb1 hb2 e=>?_
   exact(Heap.get?_update_other _ _ (Ne.symm hb2)).trans (kp b o hb1 (keep b o hb1 hb2 e))
 |succ k ih =>
  intro j h tk hk hj hst keep hb
  refine codeAny_builtin F.entry_min_loop ?_
  have hjn:j<n:=by omega
  have hS':S∉wr:=λz=>hS (W.sub S z)
  rcases hb with⟨hj0,c,hb⟩|⟨hj0,vb,c,hvb,hb⟩
  ·show wpAny _ _ (_ >>= _) _ _ _
   refine Ya (wpAny_seqItems hb rfl ?_)
   refine Ya (wpAny_tryCatch (W.item j _ _ _ hjn hst λv h' tk' hv hst' kp=>?_))
   have hb':=kp S _ hS' hb
   refine Ya (Yd ?_)
   refine Ya (wpAny_updateSeq hb' rfl ?_ (Ym _) (show 2<=sizeLine+1 by decide))
   refine Yd ⟨rfl,?_⟩
   have e9:=PySem.IsL.update hb' (λ_=>#[v,v])
   refine ih (j+1) _ tk' (by omega) (by omega) (W.frame _ _ _ hst' λb hb1 o e=>?_) (λb o hb1 hb2 e=>?_) (.inr ⟨by omega,v,_,?_,e9⟩)
   ·exact(Heap.get?_update_other _ _ (show S≠b from λz=>hS (by rw[z];exact hb1))).trans e
   ·exact(Heap.get?_update_other _ _ (Ne.symm hb2)).trans (kp b o hb1 (keep b o hb1 hb2 e))
   ·rw[hj0];rw[hj0]at hv;exact hv
  ·show wpAny _ _ (_ >>= _) _ _ _
   refine Ya (wpAny_seqItems hb rfl ?_)
   refine Ya (wpAny_tryCatch (W.item j _ _ _ hjn hst λv h' tk' hv hst' kp=>?_))
   have hb':=kp S _ hS' hb
   obtain⟨j',rfl⟩:∃j',j=j'+1:=⟨j-1,by omega⟩
   have hvb':P (argBest bt j') vb:=hvb
   have eA:argBest bt (j'+1)=if bt (j'+1) (argBest bt j')=true then j'+1 else argBest bt j':=rfl
   refine Ya (Yd ?_)
   refine Ya (wpAny_tryCatch (wpAny_holding (Ya (hc (j'+1) (argBest bt j') v vb _ _ _ hv hvb' (Ya (wpAny_holding (wpAny_truthy_bool (Ya (wpAny_letGo (Yd ?_))))))))))
   by_cases z:bt (j'+1) (argBest bt j')=true
   ·rw[Yc z]
    refine Ya (wpAny_updateSeq hb' rfl ?_ (show 2<=sizeLine by decide) (show 2<=sizeLine+1 by decide))
    refine Ya (wpAny_letGo (Yd ⟨rfl,?_⟩))
    have e9:=PySem.IsL.update hb' (λ_=>#[v,v])
    refine ih (j'+1+1) _ tk' (by omega) (by omega) (W.frame _ _ _ hst' λb hb1 o e=>?_) (λb o hb1 hb2 e=>?_) (.inr ⟨by omega,v,_,?_,e9⟩)
    ·exact(Heap.get?_update_other _ _ (show S≠b from λz=>hS (by rw[z];exact hb1))).trans e
    ·exact(Heap.get?_update_other _ _ (Ne.symm hb2)).trans (kp b o hb1 (keep b o hb1 hb2 e))
    ·show P (argBest bt (j'+1)) v
     rw[eA,Yc z];exact hv
   ·rw[Yb z]
    refine Ya (wpAny_letGo (Yd ⟨rfl,?_⟩))
    refine ih (j'+1+1) _ tk' (by omega) (by omega) hst' (λb o hb1 hb2 e=>kp b o hb1 (keep b o hb1 hb2 e)) (.inr ⟨by omega,vb,_,?_,hb'⟩)
    show P (argBest bt (j'+1)) vb
    rw[eA,Yb z];exact hvb'
theorem Zi0 (a d:Value):argsOk "min" {pos:=[a],kw:=[("default",d)]}:=by first|rfl|decide
theorem Zi1 {prog:Program}{w:World}{A:Around}{E Q:Value->Shared->Prop}{s:Shared}{l:Addr}{xs:Array (Int×Tok)}{d:Value} (hA:A.handled=none) (hl:s.heap.IsList l (intItems xs))
  (q0:xs.size=0->∀h' tk,(∀b o,s.heap.get? b=some o->h'.get? b=some o)->Q d {s with heap:=h',toks:=tk})
  (q1:0<xs.size->∀v h' tk,(intItems xs)[argBest (λi j=>decide (numAt xs i<numAt xs j)) (xs.size-1)]?=some v->(∀b o,s.heap.get? b=some o->h'.get? b=some o)->Q v {s with heap:=h',toks:=tk}) :
  wpAny (model prog w) A (call (.builtin "min") [.ref l] [("default",d)]) Q E s:=by
 refine wpAny_call (codeAny_call_builtin_code rfl ?_)
 have hck:checkBuiltinCall "min" {pos:=[.ref l],kw:=[("default",d)]}=pure ():=by
  unfold checkBuiltinCall
  rw[F.kind_min]
  exact Zi0 (.ref l) d
 rw[hck]
 refine Yd (codeAny_builtin F.entry_min ?_)
 show wpAny _ _ (_ >>= _) _ _ _
 have hbp:Builtin.Builtins.bindParams "min" ["key","default"] 0 {kw:=[("default",d)]}=pure [none,some d]:=by
  first|rfl|with_unfolding_all rfl|(simp[Builtin.Builtins.bindParams];done)
 refine Ya (wpAny_of_eq hbp (Ya (Yd (Ya (wpAny_pyIter_list hl ?_)))))
 refine Ya (wpAny_newObj_type ?_)
 refine Yd ⟨rfl,?_⟩
 have hlt:l<s.heap.objs.size:=by obtain⟨o,e,_⟩:=hl;exact Yg e
 have n1:l≠s.heap.objs.size:=Yl hlt
 have esz:(s.heap.push {cls:=.type "list_iterator",data:=.fields #[.ref l,.int 0 0]}).objs.size=s.heap.objs.size+1:=Heap.size_push _ _
 have old:∀b o,s.heap.get? b=some o->((s.heap.push {cls:=.type "list_iterator",data:=.fields #[.ref l,.int 0 0]}).push {cls:=.type "list",data:=.seq #[]}).get? b=some o:=λb o e=>Yi _ (Yi _ e)
 have ne:∀b o,s.heap.get? b=some o->b∉[s.heap.objs.size]/\b≠(s.heap.push {cls:=.type "list_iterator",data:=.fields #[.ref l,.int 0 0]}).objs.size:=λb o e=>by
  have:=Yg e
  refine⟨λz=>?_,λz=>?_⟩
  ·have:b=s.heap.objs.size:=by simpa using z
   exact absurd (Yg e) (by rw[this];exact Yy _)
  ·rw[z,esz]at this
   exact absurd this (Nat.not_lt_of_le (Nat.le_succ _))
 have W:=Walks.list (prog:=prog) (w:=w) (A:=A.in1) hA s.heap.objs.size l n1 (intItems xs)
 have hitm:(intItems xs).size=xs.size:=by simp[intItems]
 refine ZiZ W (λi j=>decide (numAt xs i<numAt xs j)) (CmpOf.ints_lt (numAt xs) λi v h=>intItems_at h) _ ?_ "default" d _ s (λz h' tk kp=>?_) (λz v h' tk hv kp=>?_) (intItems xs).size 0 _ _ rfl (Ym _) ⟨?_,?_⟩ (λb o _ _ e=>e) (.inl ⟨rfl,_,Yo _ rfl⟩)
 ·rw[esz]
  simp only[Yq,List.not_mem_nil,or_false,not_or]
  exact⟨Nat.ne_of_gt (Nat.lt_succ_self _),Nat.ne_of_gt (YC hlt)⟩
 ·exact q0 (by omega) h' tk λb o e=>kp b o (ne b o e).1 (ne b o e).2 (old b o e)
 ·exact q1 (by omega) v h' tk (by rw[<-hitm];exact hv) λb o e=>kp b o (ne b o e).1 (ne b o e).2 (old b o e)
 ·exact⟨_,Yi _ (Yo _ rfl),rfl,rfl⟩
 ·obtain⟨o,e,r⟩:=hl
  exact⟨o,old _ _ e,r⟩
section
variable {X:Cx}
noncomputable def tMaxD (K:Frag) (ta td:TA):TE:=fun σ H Q=>ta σ H λvs H1=>td σ H1 λzs H2=>∃(p:Addr) (ns:List Int) (d:Int),vs=[.ref p]/\zs=[.int d]/\SqL K H2 p (ns.map V.int)/\(ns=[]->Q (.int d) H2)/\(ns≠[]->∀m,m∈ns->(∀a∈ns,a<=m)->Q (.int m) H2)
theorem Zk2 {K:Frag}{e:Expr}{kws:List Keyword}{ta td:TA}{p pos:Pos} (hK:X.K=K) (hc:X.calm=true) (hg:Gl X "max") (hm:X.mg "max"=none) (ha:PA X [e] ta) (hd:PK X kws td)
  (he:starEach [e] X.env=(false,eval e X.env)::starEach [] X.env:=by rfl) (hpl:(backTo pos (starEach [e] X.env)).any (·.1)=false:=by rfl) (hall:(backToKw pos (keywordEach kws X.env)).all (·.1.isSome)=true:=by rfl)
  (hnn:(backToKw pos (keywordEach kws X.env)).any (·.1.isNone)=false:=by rfl) (hks:(backToKw pos (keywordEach kws X.env)).filterMap (·.1)=[(("default":String):Str)]:=by rfl) (hb:backTo pos (starEach [e] X.env)=(false,eval e X.env)::backTo pos (starEach [] X.env):=by rfl) :
  PE X (.Call (.Name "max" p) [e] kws pos) (tMaxD K ta td):=by
 subst hK
 intro pins s σ H Q I h
 refine wpAny_Call_Name_kw (Za6 I hg hm bt_max ?_)
 refine PyProof.Rows.callWith_kw (thn (ha pos pins s σ H _ I h) λus s1 ⟨vs,H1,I1,r1,q1⟩=>?_) hb hpl hall hnn
 refine thn (hd pos pins s1 σ H1 _ I1 q1) λws s2 ⟨zs,H2,I2,r2,pp,ns,d,e1,e2,hp,q0,qm⟩=>?_
 subst e1 e2
 obtain⟨u,rfl,ru⟩:=r1.one
 obtain⟨v,rfl,rv⟩:=r2.one
 cases(show u=Value.ref pp from ru)
 rw[hks]
 obtain⟨its,rr,pl,hz⟩:=I2.list hp
 obtain⟨ys,e1,e2⟩:=Zem rr
 have hsz:ys.size=ns.length:=by
  have:=congrArg List.length e2
  rw[Yh,YL]at this
  exact this
 refine ZiY (xs:=ys) (I2.ok.hd hc) (e1▸pl.isList) (λz h' tk k=>?_) (λz v' h' tk hv k=>?_)
 ·exact⟨.int d,H2,I2.kept k,rv,q0 (List.length_eq_zero_iff.mp (by omega))⟩
 ·obtain⟨t,rfl⟩:=intItems_at hv
  obtain⟨h1,h2⟩:=argBest_gt (numAt ys) (ys.size-1)
  refine⟨.int _,H2,I2.kept k,⟨t,rfl⟩,qm (λy=>by have h3:ys.size=0:=(by rw[hsz,y];rfl);omega) _ ?_ λa ha=>?_⟩
  ·rw[numAt_eq,e2];exact getD_mem (by omega)
  ·obtain⟨j,hj,rfl⟩:=mem_getD ha
   rw[<-e2,<-numAt_eq];exact h2 j (by omega)
end
section
variable {X:Cx}
noncomputable def tMinD (K:Frag) (ta td:TA):TE:=fun σ H Q=>ta σ H λvs H1=>td σ H1 λzs H2=>∃(p:Addr) (ns:List Int) (d:Int),vs=[.ref p]/\zs=[.int d]/\SqL K H2 p (ns.map V.int)/\(ns=[]->Q (.int d) H2)/\(ns≠[]->∀m,m∈ns->(∀a∈ns,m<=a)->Q (.int m) H2)
theorem Zk3 {K:Frag}{e:Expr}{kws:List Keyword}{ta td:TA}{p pos:Pos} (hK:X.K=K) (hc:X.calm=true) (hg:Gl X "min") (hm:X.mg "min"=none) (ha:PA X [e] ta) (hd:PK X kws td)
  (he:starEach [e] X.env=(false,eval e X.env)::starEach [] X.env:=by rfl) (hpl:(backTo pos (starEach [e] X.env)).any (·.1)=false:=by rfl) (hall:(backToKw pos (keywordEach kws X.env)).all (·.1.isSome)=true:=by rfl)
  (hnn:(backToKw pos (keywordEach kws X.env)).any (·.1.isNone)=false:=by rfl) (hks:(backToKw pos (keywordEach kws X.env)).filterMap (·.1)=[(("default":String):Str)]:=by rfl) (hb:backTo pos (starEach [e] X.env)=(false,eval e X.env)::backTo pos (starEach [] X.env):=by rfl) :
  PE X (.Call (.Name "min" p) [e] kws pos) (tMinD K ta td):=by
 subst hK
 intro pins s σ H Q I h
 refine wpAny_Call_Name_kw (Za6 I hg hm bt_min ?_)
 refine PyProof.Rows.callWith_kw (thn (ha pos pins s σ H _ I h) λus s1 ⟨vs,H1,I1,r1,q1⟩=>?_) hb hpl hall hnn
 refine thn (hd pos pins s1 σ H1 _ I1 q1) λws s2 ⟨zs,H2,I2,r2,pp,ns,d,e1,e2,hp,q0,qm⟩=>?_
 subst e1 e2
 obtain⟨u,rfl,ru⟩:=r1.one
 obtain⟨v,rfl,rv⟩:=r2.one
 cases(show u=Value.ref pp from ru)
 rw[hks]
 obtain⟨its,rr,pl,hz⟩:=I2.list hp
 obtain⟨ys,e1,e2⟩:=Zem rr
 have hsz:ys.size=ns.length:=by
  have:=congrArg List.length e2
  rw[Yh,YL]at this
  exact this
 refine Zi1 (xs:=ys) (I2.ok.hd hc) (e1▸pl.isList) (λz h' tk k=>?_) (λz v' h' tk hv k=>?_)
 ·exact⟨.int d,H2,I2.kept k,rv,q0 (List.length_eq_zero_iff.mp (by omega))⟩
 ·obtain⟨t,rfl⟩:=intItems_at hv
  obtain⟨h1,h2⟩:=argBest_lt (numAt ys) (ys.size-1)
  refine⟨.int _,H2,I2.kept k,⟨t,rfl⟩,qm (λy=>by have h3:ys.size=0:=(by rw[hsz,y];rfl);omega) _ ?_ λa ha=>?_⟩
  ·rw[numAt_eq,e2];exact getD_mem (by omega)
  ·obtain⟨j,hj,rfl⟩:=mem_getD ha
   rw[<-e2,<-numAt_eq];exact h2 j (by omega)
end
theorem ifR {c:TT}{t u:TS}{D:Ends}{σ:St}{H:Hp} (T U:Hp->Prop) (ht:∀H1,T H1->t D σ H1) (hu:∀H1,U H1->u D σ H1) (hc:∀B:Bool->Hp->Prop,(∀H1,T H1->B true H1)->(∀H1,U H1->B false H1)->c σ H B):tIfS c t u D σ H :=
 hc _ (λH1 h=>by rw[Yc rfl];exact ht H1 h) (λH1 h=>by rw[Yb (by simp)];exact hu H1 h)
section
variable {prog:Program}{w:World}{A:Around}{E Q:Value->Shared->Prop}{s:Shared}{it t:Addr}{i:Nat}{items:Array Value}
theorem Zdu {x:Value} (hi:s.heap.IsTupleIter it t i) (ht:s.heap.IsTuple t items) (hx:items[i]?=some x) (h:∀h',h'.IsTupleIter it t (i+1)->Heap.SameBut it s.heap h'->Q x {s with heap:=h'}):wpAny (model prog w) A (Builtin.SmallTypes.nextOf (.ref it)) Q E s:=by
 obtain⟨o,ho,hc,hd⟩:=id hi
 obtain⟨ot,hot,hct,n,hdt⟩:=id ht
 have hT:s.TypeIs (.ref it) "tuple_iterator":=⟨o,ho,hc⟩
 unfold Builtin.SmallTypes.nextOf
 refine Ya (wpAny_callSpecial?_slot hT F.slot_tuple_iterator_next (wpAny_call_entry F.slot_tuple_iterator_next hT F.entry_tuple_iterator_next ?_ (F.args_tuple_iterator_next_1 _)))
 show wpAny _ _ (_ >>= _) _ _ _
 refine Ya (wpAny_of_eq (show slotArgs "__next__" 0 {pos:=[.ref it]}=pure (.ref it,[])from rfl) ?_)
 refine Ya (wpAny_field ho hd (x:=.ref t) rfl ?_)
 rw[Yb (by simp)]
 refine Ya (wpAny_field ho hd (x:=.int (i:Int) 0) rfl ?_)
 refine Ya (wpAny_seqItems hot hdt ?_)
 dsimp only
 rw[Int.toNat_natCast,hx]
 refine Ya (wpAny_setField ho hd (by show 1<2;decide) (Yd ⟨x,rfl,?_⟩))
 refine Yd (h _ ?_ ⟨by simp,λb hb=>Heap.get?_update_other _ _ (Ne.symm hb)⟩)
 obtain⟨cls,dict,data,slots⟩:=o
 simp only at hc hd
 subst hc hd
 exact⟨_,Heap.get?_update_self _ ho rfl,rfl,rfl⟩
theorem ZdK (hA:A.handled=none) (hi:s.heap.IsTupleIter it t i) (ht:s.heap.IsTuple t items) (hx:items[i]?=none) (h:∀h' e,Heap.ExtBut it s.heap h'->(∃o,h'.get? e=some o/\o.cls=.type "StopIteration")->E (.ref e) {s with heap:=h'}):wpAny (model prog w) A (Builtin.SmallTypes.nextOf (.ref it)) Q E s:=by
 obtain⟨o,ho,hc,hd⟩:=id hi
 obtain⟨ot,hot,hct,n,hdt⟩:=id ht
 have hT:s.TypeIs (.ref it) "tuple_iterator":=⟨o,ho,hc⟩
 unfold Builtin.SmallTypes.nextOf
 refine Ya (wpAny_callSpecial?_slot hT F.slot_tuple_iterator_next (wpAny_call_entry F.slot_tuple_iterator_next hT F.entry_tuple_iterator_next ?_ (F.args_tuple_iterator_next_1 _)))
 show wpAny _ _ (_ >>= _) _ _ _
 refine Ya (wpAny_of_eq (show slotArgs "__next__" 0 {pos:=[.ref it]}=pure (.ref it,[])from rfl) ?_)
 refine Ya (wpAny_field ho hd (x:=.ref t) rfl ?_)
 rw[Yb (by simp)]
 refine Ya (wpAny_field ho hd (x:=.int (i:Int) 0) rfl ?_)
 refine Ya (wpAny_seqItems hot hdt ?_)
 dsimp only
 rw[Int.toNat_natCast,hx]
 refine Ya (wpAny_rule (Ya (wpAny_setField ho hd (by show 0<2;decide) ?_)))
 unfold Builtin.SmallTypes.stopIteration
 refine Ya ?_
 unfold newExc
 refine Ya (wpAny_newTuple ?_ (Ym _))
 refine Ya (wpAny_of_eq (show firstArgMember (.type "StopIteration") []=pure .none by first|rfl|(unfold firstArgMember;rfl)) ?_)
 refine wpAny_newObj_type (wpAny_raiseNew_none hA (h _ _ (λb o' hb e=>?_) ⟨_,Yo _ rfl,rfl⟩))
 exact Yi _ (Yi _ ((Heap.get?_update_other _ _ (Ne.symm hb)).trans e))
theorem ZdZ (hA:A.handled=none) (it t:Addr) (hne:t≠it) (items:Array Value):Draws prog w A it [it,t] items.size (λi v=>items[i]?=some v) (λi h=>h.IsTupleIter it t i/\h.IsTuple t items) where
 live:=λi h st=>by obtain⟨⟨o,ho,_⟩,_⟩:=st;exact⟨o,ho⟩
 frame:=λi h h' st k=>by
  obtain⟨⟨o,ho,r⟩,⟨ot,hot,rt⟩⟩:=st
  exact⟨⟨o,k it (by simp) o ho,r⟩,⟨ot,k t (by simp) ot hot,rt⟩⟩
 item:=λi s Q E hi st h=>by
  obtain⟨ot,hot,rt⟩:=st.2
  refine Zdu st.1 st.2 (Array.getElem?_eq_getElem hi) λh' hit hs=>h _ h' s.toks (Array.getElem?_eq_getElem hi) ⟨hit,⟨ot,(hs.2 t hne).trans hot,rt⟩⟩ hs
 done:=λs Q E st h=>ZdK hA st.1 st.2 (Array.getElem?_eq_none (Ye _)) h
end
section
variable {X:Cx}{pins:List (Addr×Obj)}{σ:St}{H:Hp}{s:Shared}{h':Heap}
noncomputable def IteT (K : Frag) (a : Addr) : It :=
  ⟨fun i H => ∃ xs x, SqT K H a xs ∧ xs[i]? = some x,
   fun i H v H' => ∃ p x, H p = none ∧ v = .ref p ∧ H' = upd H p (.tup [.int (i : Int), x]) ∧ ∀ xs, SqT K H a xs → xs[i]? = some x,
   fun i H => ∃ xs, SqT K H a xs ∧ xs.length = i⟩
theorem ZeE {P:Program}{w:World}{K:Frag}{elts:List Expr} {x1}{pos:Pos}{a e it:Addr} (h1:e≠it) (h2:a≠e) (h3:a≠it) :
  Turn P w K (.Tuple elts x1 pos) (IteT K a) [e,it] e (λi h=>(∃old,IsEnum h e it (i:Int) old)/\h.IsTupleIter it a i) where
 mem:=by simp
 obj:=λi h st c hc=>by
  obtain⟨⟨old,q1⟩,⟨o4,q4,_,d4⟩⟩:=st
  simp at hc
  rcases hc with rfl|rfl
  ·exact⟨_,q1,λv z=>by cases z⟩
  ·exact⟨_,q4,λv z=>by rw[d4]at z;cases z⟩
 keep:=λi h h' st k=>by
  obtain⟨⟨old,q1⟩,⟨o,ho,r⟩⟩:=st
  exact⟨⟨old,k e (by simp) _ q1⟩,⟨o,k it (by simp) o ho,r⟩⟩
 item:=by
  intro X hP hw hK hc i pins s σ H E I hf st hg
  subst hP hw hK
  obtain⟨xs,x,qa,hx⟩:=hg
  obtain⟨is1,r1,p1,hz1⟩:=I.tuple qa
  obtain⟨u,hu,ru⟩:=r1.get hx
  have W:=WalksT.enumerateD (prog:=X.prog) (w:=X.w) (A:=X.A) (ZdZ (A:=X.A.in1) (I.ok.hd hc) it a h3 is1.toArray) e h1 (by simp;exact⟨h1,h2.symm⟩) (by simp)
  have hi:i<is1.toArray.size:=by
   have:=(Yn.mp hu).1
   simpa using this
  refine W.item i s _ E hi ⟨st.1,st.2,p1⟩ λT vals h' tk Pt hT hTup Mid keep=>⟨_,rfl,W.go elts x1 pos i T _ _ E Mid λh2' St2 keep2=>?_⟩
  obtain⟨t,y,hy,rfl⟩:=Pt
  have hyu:y=u:=by
   have:is1[i]?=some y:=by simpa using hy
   rw[hu]at this;exact(Yw this).symm
  subst hyu
  have nT:=W.apart i T h' Mid
  have hfr:H T=none:=I.hok.fresh hT
  have kk:∀b o,b∉[e,it]->s.heap.get? b=some o->h2'.get? b=some o:=λb o hb q=>keep2 b o hb (keep b o hb q)
  have nTe:∀c∈[e,it],c≠T:=λc hc z=>nT (z▸hc)
  refine⟨.ref T,_,Inv.Zf1 (s:=s) (t':=tk) (o:=.tup [.int (i:Int),x]) I kk hf hT ?_,rfl,⟨T,x,hfr,rfl,rfl,λxs' q'=>?_⟩,⟨?_,St2.2.1⟩,λc hc=>?_⟩
  ·obtain⟨oT,q1,q2,n,q3⟩:=hTup
   exact⟨by show 2<=sizeLine;decide,[.int (i:Int) t,y],.cons ⟨t,rfl⟩ (.cons ru .nil),⟨oT,keep2 T oT nT q1,q2,n,q3⟩⟩
  ·rw[I.ZdE q' qa];exact hx
  ·obtain⟨old,q⟩:=St2.1
   exact⟨old,by rw[show(((i+1:Nat)):Int)=(i:Int)+1 by omega]at *;exact q⟩
  ·rw[Zg (nTe c hc)];exact(hf c hc).1
 done:=by
  intro X hP hw hK hc i pins s σ H E I hf st hg
  subst hP hw hK
  obtain⟨xs,qa,hx⟩:=hg
  obtain⟨is1,r1,p1,_⟩:=I.tuple qa
  have W:=WalksT.enumerateD (prog:=X.prog) (w:=X.w) (A:=X.A) (ZdZ (A:=X.A.in1) (I.ok.hd hc) it a h3 is1.toArray) e h1 (by simp;exact⟨h1,h2.symm⟩) (by simp)
  have hi:i=is1.toArray.size:=by
   have:=r1.length
   simp;omega
  refine W.done s _ E ?_ λh' tk keep=>⟨rfl,I.ZfV (t':=tk) (fp:=[e,it]) (λc o hc q=>keep c o hc q) hf⟩
  rw[<-hi]
  exact⟨st.1,st.2,p1⟩
 self:=λA i s Q E st h=>by
  obtain⟨⟨old,q⟩,_⟩:=st
  exact wpAny_pyIter_enum q h
theorem ZeF {M:Model}{A:Around}{E:Value->Shared->Prop}{s:Shared} (cls:Value):wpAny M A (Builtin.SmallTypes.calledThroughType cls) (λ_ s'=>s'=s) E s:=by
 unfold Builtin.SmallTypes.calledThroughType
 exact Ya (wpAny_stack λst _ _ _=>Yd rfl)
theorem Zd0 {prog:Program}{w:World} (l:Addr) (items:Array Value):MeetsIn prog w (Builtin.«enumerate.__new__» {pos:=[.type "enumerate",.ref l]}) λA R s=>s.heap.IsTuple l items/\R (.ok (.ret (.ref (s.heap.objs.size+1)))) {s with heap:=(s.heap.push {cls:=.type "tuple_iterator",data:=.fields #[.ref l,.int 0 0]}).push {cls:=.type "enumerate",data:=.fields #[.none,.bool false,.ref s.heap.objs.size,rawInt 0,.none,.none]}}:=by
 intro A R s ⟨h,hR⟩
 unfold Builtin.«enumerate.__new__»
 refine Ya (wpAny_of_eq (show Builtin.SmallTypes.newClass "enumerate" {pos:=[.type "enumerate",.ref l]}=pure (.type "enumerate",[.ref l])from by first|rfl|(unfold Builtin.SmallTypes.newClass;rfl)) ?_)
 show wpAny _ _ (_ >>= _) _ _ _
 have hsz:(s.heap.push {cls:=.type "tuple_iterator",data:=.fields #[.ref l,.int 0 0]}).objs.size=s.heap.objs.size+1:=Heap.size_push _ _
 refine Ya (thn (ZeF (.type "enumerate")) λb s' e=>?_)
 subst e
 cases b with
 |true =>
  show wpAny _ _ (_ >>= _) _ _ _
  refine Ya (wpAny_of_eq (show _=pure (.ref l,none)from rfl) ?_)
  show wpAny _ _ (_ >>= _) _ _ _
  refine Ya (wpAny_pyIter_tuple h ?_)
  show wpAny _ _ (newObj (.type "enumerate") (.fields #[.none,.bool false,.ref s'.heap.objs.size,rawInt 0,.none,.none]) >>= _) _ _ _
  refine Ya (wpAny_newObj_type (Yd ?_))
  rw[hsz];exact hR
 |false =>
  show wpAny _ _ (_ >>= _) _ _ _
  refine Ya (wpAny_of_eq (show _=pure (.ref l,none)from rfl) ?_)
  show wpAny _ _ (_ >>= _) _ _ _
  refine Ya (wpAny_pyIter_tuple h ?_)
  show wpAny _ _ (newObj (.type "enumerate") (.fields #[.none,.bool false,.ref s'.heap.objs.size,rawInt 0,.none,.none]) >>= _) _ _ _
  refine Ya (wpAny_newObj_type (Yd ?_))
  rw[hsz];exact hR
noncomputable def ZjO (K:Frag) (ta:TA):TI:=fun σ H R=>ta σ H λvs H1=>∃a xs,vs=[.ref a]/\SqT K H1 a xs/\R (IteT K a) H1
theorem ZjP {K:Frag}{elts:List Expr} {x1}{tp:Pos}{e1:Expr}{ta:TA}{p pos:Pos} (hK:X.K=K) (hg:Gl X "enumerate") (hm:X.mg "enumerate"=none) (ha:PA X [e1] ta) (hs:starEach [e1] X.env=[(false,eval e1 X.env)]:=by rfl) :
  PI X (.Tuple elts x1 tp) (.Call (.Name "enumerate" p) [e1] [] pos) (ZjO K ta):=by
 subst hK
 intro pins s σ H R I h
 refine wpAny_Call_Name_kw (Za6 I hg hm Zc6 ?_)
 refine PyProof.Rows.callWith_type1 (thn (ha pos pins s σ H _ I h) λus s1 ⟨vs,H1,I1,r1,a,xs,e1,qa,q⟩=>?_) hs rfl
 subst e1
 obtain⟨u,rfl,ru⟩:=r1.one
 cases(show u=Value.ref a from ru)
 obtain⟨is1,rr1,p1,_⟩:=I1.tuple qa
 have l1:a<s1.heap.objs.size:=by obtain⟨o,e,_⟩:=p1;exact Yg e
 have sm:∀b,s1.heap.objs.size<=b->FpOk X pins H1 b:=λb hb=>I1.Zhl hb (I1.hok.fresh hb)
 have n1:s1.heap.objs.size+1≠s1.heap.objs.size:=by show ¬ ((_:Nat)=_);omega
 have n2:a≠s1.heap.objs.size+1:=Yl (YC l1)
 have n3:a≠s1.heap.objs.size:=Yl l1
 have T:=ZeE (P:=X.prog) (w:=X.w) (K:=X.K) (elts:=elts) (x1:=x1) (pos:=tp) n1 n2 n3
 have hsz:(s1.heap.push {cls:=.type "tuple_iterator",data:=.fields #[.ref a,.int 0 0]}).objs.size=s1.heap.objs.size+1:=Heap.size_push _ _
 have c1:IsEnum ((s1.heap.push {cls:=.type "tuple_iterator",data:=.fields #[.ref a,.int 0 0]}).push {cls:=.type "enumerate",data:=.fields #[.none,.bool false,.ref s1.heap.objs.size,rawInt 0,.none,.none]}) (s1.heap.objs.size+1) s1.heap.objs.size 0 .none:=by
  show Heap.get? _ _=_
  rw[<-hsz];exact Yo _ rfl
 have c2:((s1.heap.push {cls:=.type "tuple_iterator",data:=.fields #[.ref a,.int 0 0]}).push {cls:=.type "enumerate",data:=.fields #[.none,.bool false,.ref s1.heap.objs.size,rawInt 0,.none,.none]}).IsTupleIter s1.heap.objs.size a 0:=⟨_,Yi _ (Yo _ rfl),rfl,rfl⟩
 refine callType_newIn F.called_enumerate rfl (by first|rfl|decide) (F.newCall_enumerate_1 _) (λobj=>by first|rfl|decide) F.entry_enumerate_new (Zd0 a is1.toArray) ⟨p1,⟨_,c1,rfl⟩,?_⟩
 refine T.self _ 0 _ _ _ ⟨⟨_,c1⟩,c2⟩ ?_
 refine⟨_,[s1.heap.objs.size+1,s1.heap.objs.size],_,_,H1,rfl,I1.kept (t':=s1.toks) (λb o e=>Yi _ (Yi _ e)),T,⟨⟨_,c1⟩,c2⟩,λc hc=>?_,q⟩
 simp at hc
 rcases hc with rfl|rfl<;>exact sm _ (by omega)
end
open Classical in
noncomputable def ZaI (f:Nat->Int) (p:Nat):Int:=if h:∃q,ZJ f p q then (Classical.choose h:Nat)else -1
open Classical in
noncomputable def ZaM (f:Nat->Int) (n p:Nat):Int:=if h:∃r,ZI f n p r then (Classical.choose h:Nat)else (n:Int)
theorem Zt {f:Nat->Int}{p q:Nat} (h:ZJ f p q):ZaI f p=q:=by
 have hx:∃q,ZJ f p q:=⟨q,h⟩
 unfold ZaI
 rw[dif_pos hx,(Classical.choose_spec hx).unique h]
theorem Z6 {f:Nat->Int}{p:Nat} (h:ZaL f p):ZaI f p=-1:=by
 unfold ZaI
 rw[dif_neg λ⟨q,hq⟩=>hq.no h]
theorem Zu {f:Nat->Int}{n p r:Nat} (h:ZI f n p r):ZaM f n p=r:=by
 have hx:∃r,ZI f n p r:=⟨r,h⟩
 unfold ZaM
 rw[dif_pos hx,(Classical.choose_spec hx).unique h]
theorem ZW {f:Nat->Int}{n p:Nat} (h:Zao f n p):ZaM f n p=n:=by
 unfold ZaM
 rw[dif_neg λ⟨q,hq⟩=>hq.no h]
theorem ZX {f:Nat->Int}{n p:Nat}{e:Int} (h:Zp f n p e):(ZaL f p\/∃q,ZJ f p q)/\(Zao f n p\/∃r,ZI f n p r):=by
 rcases h with⟨h1,h2,_⟩|⟨q,h1,h2,_⟩|⟨r,h1,h2,_⟩|⟨q,r,h1,h2,_⟩
 ·exact⟨.inl h1,.inl h2⟩
 ·exact⟨.inr ⟨q,h1⟩,.inl h2⟩
 ·exact⟨.inl h1,.inr ⟨r,h2⟩⟩
 ·exact⟨.inr ⟨q,h1⟩,.inr ⟨r,h2⟩⟩
theorem ZJ.over {f:Nat->Int}{p q:Nat} (h:ZJ f p q):Over f q p:=.inl ⟨h.1,λr r1 r2=>by
 by_cases z:r=p
 ·rw[z];exact h.2.1
 ·have:=h.2.2 r r1 (by omega);have:=h.2.1;omega⟩
theorem ZI.over {f:Nat->Int}{n p q:Nat} (h:ZI f n p q):Over f q p:=.inr ⟨h.1,λr r1 r2=>by
 by_cases z:r=p
 ·rw[z];exact h.2.2.1
 ·have:=h.2.2.2 r (by omega) r2;have:=h.2.2.1;omega⟩
theorem ZjQ {ns T:List Int} (hT:Zl ns T) {p:Nat} (hp:p<ns.length):let L:=(Zc4 T p).filter λo=>decide (o<(p:Int))
  (L=[]->ZaI (nth ns) p=-1)/\(L≠[]->∀m,m∈L->(∀a∈L,a<=m)->m=ZaI (nth ns) p):=by
 intro L
 have hL:∀o:Nat,(o:Int)∈L↔o<p/\o<ns.length/\Over (nth ns) o p:=λo=>by
  rw[YJ,Zii hT hp,decide_eq_true_eq]
  exact⟨λh=>⟨by omega,h.1⟩,λh=>⟨h.2,by omega⟩⟩
 have hN:∀m∈L,∃o:Nat,m=o:=λm hm=>by
  have:=(YJ.mp hm).1
  rw[Zdt]at this
  obtain⟨o,_,e⟩:=YR.mp this
  exact⟨o,e.symm⟩
 rcases(ZX (hT.2 p hp)).1 with h|⟨q,h⟩
 ·refine⟨λ_=>Z6 h,λhne m hm _=>?_⟩
  obtain⟨o,rfl⟩:=hN m hm
  obtain⟨h1,_,h2⟩:=(hL o).mp hm
  have:=h o h1
  rcases h2 with⟨_,k⟩|⟨z,_⟩
  ·have:=k p h1 (Ye _);omega
  ·omega
 ·have hq:(q:Int)∈L:=(hL q).mpr ⟨h.1,by have:=h.1;omega,h.over⟩
  refine⟨λe=>by rw[e]at hq;simp at hq,λ_ m hm hmax=>?_⟩
  rw[Zt h]
  obtain⟨o,rfl⟩:=hN m hm
  obtain⟨h1,_,h2⟩:=(hL o).mp hm
  have hqo:=hmax _ hq
  by_cases z:o=q
  ·rw[z]
  ·have:=h.2.2 o (by omega) h1
   rcases h2 with⟨_,k⟩|⟨z,_⟩
   ·have:=k p h1 (Ye _);omega
   ·omega
theorem ZjR {ns T:List Int} (hT:Zl ns T) {p:Nat} (hp:p<ns.length):let L:=(Zc4 T p).filter λo=>decide ((p:Int)<o)
  (L=[]->ZaM (nth ns) ns.length p=ns.length)/\(L≠[]->∀m,m∈L->(∀a∈L,m<=a)->m=ZaM (nth ns) ns.length p):=by
 intro L
 have hL:∀o:Nat,(o:Int)∈L↔p<o/\o<ns.length/\Over (nth ns) o p:=λo=>by
  rw[YJ,Zii hT hp,decide_eq_true_eq]
  exact⟨λh=>⟨by omega,h.1⟩,λh=>⟨h.2,by omega⟩⟩
 have hN:∀m∈L,∃o:Nat,m=o:=λm hm=>by
  have:=(YJ.mp hm).1
  rw[Zdt]at this
  obtain⟨o,_,e⟩:=YR.mp this
  exact⟨o,e.symm⟩
 rcases(ZX (hT.2 p hp)).2 with h|⟨q,h⟩
 ·refine⟨λ_=>ZW h,λhne m hm _=>?_⟩
  obtain⟨o,rfl⟩:=hN m hm
  obtain⟨h1,h3,h2⟩:=(hL o).mp hm
  have:=h o h1 h3
  rcases h2 with⟨z,_⟩|⟨_,k⟩
  ·omega
  ·have:=k p (Ye _) h1;omega
 ·have hq:(q:Int)∈L:=(hL q).mpr ⟨h.1,h.2.1,h.over⟩
  refine⟨λe=>by rw[e]at hq;simp at hq,λ_ m hm hmin=>?_⟩
  rw[Zu h]
  obtain⟨o,rfl⟩:=hN m hm
  obtain⟨h1,h3,h2⟩:=(hL o).mp hm
  have hqo:=hmin _ hq
  by_cases z:o=q
  ·rw[z]
  ·have:=h.2.2.2 o h1 (by omega)
   rcases h2 with⟨z,_⟩|⟨_,k⟩
   ·omega
   ·have:=k p (Ye _) h1;omega
noncomputable def Zal (H:Hp) (l:Addr) (n:Nat) (ps:Nat->Int×Int):Prop:=∃qs:List Addr,H l=some (.lst (qs.map V.ref))/\qs.length=n/\∀(j:Nat) (q:Addr),qs[j]?=some q->H q=some (.tup [.int (ps j).1,.int (ps j).2])
theorem Zal.same {H H':Hp}{l:Addr}{n:Nat}{ps:Nat->Int×Int} (h:Zal H l n ps) (s:Zf H H'):Zal H' l n ps:=by
 obtain⟨qs,h1,h2,h3⟩:=h
 exact⟨qs,s _ _ h1,h2,λj q hq=>s _ _ (h3 j q hq)⟩
theorem Zal.push {H:Hp}{l q:Addr}{n:Nat}{ps:Nat->Int×Int} (h:Zal H l n ps) (hq:H q=some (.tup [.int (ps n).1,.int (ps n).2])):∃xs:List V,H l=some (.lst xs)/\xs.length=n/\Zal (upd H l (.lst (xs++[.ref q]))) l (n+1) ps:=by
 obtain⟨qs,h1,h2,h3⟩:=h
 have hne:∀a o,H a=some (.tup o)->a≠l:=λa o ha z=>by rw[z,h1]at ha;cases ha
 refine⟨_,h1,by simp[h2],qs++[q],by rw[Zd];simp,by simp[h2],λj a ha=>?_⟩
 by_cases z:j<qs.length
 ·rw[YO z]at ha
  have:=h3 j a ha
  rw[Zg (hne _ _ this)];exact this
 ·have hj:=(Yn.mp ha).1
  rw[Yt]at hj
  have:j=n:=by simp at hj;omega
  subst this
  rw[YM (by omega),h2]at ha
  simp at ha
  rw[<-ha,Zg (hne _ _ hq)];exact hq
theorem ZeG {J:It}{n:Nat}{g:TG}{tb:TS}{D:Ends}{σ:St}{H:Hp} (Pv:Nat->St->Hp->Prop) (h0:Pv 0 σ H) (hgo:∀i σ H,i<n->Pv i σ H->J.go i H) (hstop:∀σ H,Pv n σ H->J.stop n H)
  (hs:∀i x σ H H',i<n->Pv i σ H->J.yld i H x H'->g x σ H' fun σ2 H2=>tb {D with nx:=Pv (i+1),ct:=Pv (i+1),bk:=D.nx} σ2 H2) (hd:∀σ H,Pv n σ H->D.nx σ H):Zgz J g tb D σ H:=by
 refine⟨λi m σ H=>m=n-i/\i<=n/\Pv i σ H,⟨n,by simp,Ym _,h0⟩,?_⟩
 rintro i m σ H ⟨rfl,hi,p⟩
 by_cases hlt:i<n
 ·exact .inr ⟨hgo i σ H hlt p,Pv (i+1),fun σ' H' p'=>⟨n-(i+1),by omega,rfl,hlt,p'⟩,λx H' y=>hs i x σ H H' hlt p y⟩
 ·have:i=n:=by omega
  subst this
  exact .inl ⟨hstop σ H p,hd σ H p⟩
theorem ZjS (L:List Int):L=(List.range L.length).map λi=>L.getD i 0:=by
 refine List.ext_getElem (by simp) λj h1 h2=>?_
 simp[Yu,h1]
theorem Zfw {K:Frag}{a:Addr}{L:List Int}{H1:Hp}{Q:VK}{tt:TT}{σr:St} (P:Int->Bool) (ha:H1 a=some (.lst (L.map V.int))) (hn:L.length<=1000)
  (ht:∀(x:Int) (H:Hp) (R:Bool->Hp->Prop),R (P x) H->tt (some (V.int x)::σr) H R)
  (hk:∀l H',Zf H1 H'->H' l=none->Q (.ref l) (upd H' l (.lst ((L.filter P).map V.int)))) :
  ZgA (Itl K a) (Zer 0) tt (tVar 0) (none::σr) Q H1:=by
 refine ZcL (n:=L.length) (λi=>P (L.getD i 0)) (λi=>V.int (L.getD i 0)) (Yx hn (by decide)) (λi Hx s hi=>⟨_,_,SqL.of (s _ _ ha),Yf (by simpa using hi)⟩) (λHx s=>⟨_,SqL.of (s _ _ ha),by simp⟩) ?_ ?_
 ·rintro i x Hx Hy hi s ⟨rfl,hx⟩
  have ex:=hx _ (SqL.of (s _ _ ha))
  rw[YA,Yf hi]at ex
  cases ex
  have eg:L.getD i 0=L[i]:=by simp[Yu,hi]
  refine ht _ _ _ ?_
  cases hP:P L[i]with
  |true =>
   rw[Yc rfl]
   exact⟨_,rfl,CF.take hi (by rw[eg];exact hP) (by rw[eg]) s⟩
  |false =>
   rw[Yb (by simp)]
   exact CF.skip hi (by rw[eg];exact hP) s
 ·intro l H' s hl
  have:=hk l H' s hl
  have e:((List.range L.length).filter λi=>P (L.getD i 0)).map (λi=>V.int (L.getD i 0))=(L.filter P).map V.int:=by
   conv=>rhs;rw[ZjS L,List.filter_map,List.map_map]
   rfl
  rw[e];exact this
end L2
namespace PySem
open Sem (wp)
end PySem
namespace L2
open PySem PySem.Spec PyProof.Rows PySem.W
noncomputable def Za9 (T:List Int):Nat->Int->Prop
 |0,a=>a=-1
 |k+1,a=>a=-1\/(0<=a/\a<T.length/\Za9 T k (nth T a.toNat))
theorem ZhB (T:List Int) (k:Nat):Za9 T k (-1):=by cases k<;>simp[Za9]
theorem Zd1 (T:List Int):∀k a,Za9 T k a->Za9 T (k+1) a
 |0,a,h=>.inl h
 |k+1,a,h=>by
  rcases h with h|⟨h1,h2,h3⟩
  ·exact .inl h
  ·exact .inr ⟨h1,h2,Zd1 T k _ h3⟩
theorem Zi2 (T:List Int) {k m:Nat} (h:k<=m) {a:Int} (e:Za9 T k a):Za9 T m a:=by
 induction h with
 |refl=>exact e
 |step _ ih=>exact Zd1 T _ _ ih
theorem Zd2 {ns T:List Int} (hT:Zl ns T):∀d p,p<ns.length->dep (nth ns) ns.length p<=d->Za9 T (d+1) (p:Int)
 |d,p,hp,hd=>by
  have e:=hT.1
  refine .inr ⟨by omega,by omega,?_⟩
  have ep:((p:Int)).toNat=p:=by omega
  rw[ep]
  rcases ZdY hT hp with z|⟨q,z,hq,_,hz⟩
  ·rw[z];exact ZhB T d
  ·rw[z]
   cases d with
   |zero=>omega
   |succ d=>exact Zd2 hT d q hq (by omega)
theorem ZhC {ns T:List Int} (hT:Zl ns T) {p:Nat} (hp:p<T.length):Za9 T T.length (nth T p):=by
 have e:=hT.1
 have h:=Zd2 hT (dep (nth ns) ns.length p) p (by omega) (Ye _)
 rcases h with h|⟨_,_,h⟩
 ·omega
 ·have ep:((p:Int)).toNat=p:=by omega
  rw[ep]at h
  have:=ZeC (f:=nth ns) (n:=ns.length) (p:=p) (by omega)
  exact Zi2 T (by omega) h
theorem pmz3:(0:Int)<10 ^ Int.toNat 64*10 ^ Int.toNat 64*10 ^ Int.toNat 64:=by decide +kernel
theorem Zij {K:Frag}{Hx:Hp}{l q:Addr}{L:List Nat} (h1:Hx l=some (.lst (Zw L))) (h2:Hx q=some (.lst [])):EqD K Hx 3 (V.ref l) (V.ref q) (decide (L=[])):=by
 have hh:=ZkZ (n:=2) (K:=K) (H:=Hx) ZfY (V.ref l) (V.ref q) (L.map λ(q:Nat)=>(q:Int)) [] (ZgC (SqL.of (by rw[h1];simp[Zw,Function.comp_def]))) (ZgC (ns:=[]) (SqL.of h2))
 have e:decide (L.map (λ(q:Nat)=>(q:Int))=[])=decide (L=[]):=by cases L<;>simp
 rw[e]at hh;exact hh
noncomputable def CDivL (i j:Int):Prop:=0<j/\j<18446744073709551616
theorem ZeH {X:Cx}:OpR X (binaryOp .FloorDiv) (rI CDivL λi j=>.int (i / j)):=opI λi j _ _ _ _ _ hc q=>by
 have h1:(0:Int)<j:=hc.1
 have h2:j<18446744073709551616:=hc.2
 refine floordiv_int (by omega) (by rw[Int.fdiv_eq_ediv_of_nonneg i (by omega)];exact q) (.inl (PyProof.noPylong_of_log2 ?_))
 have h3:j.natAbs<2 ^ 64:=by omega
 have:j.natAbs.log2<64:=(Nat.log2_lt (by omega)).mpr h3
 omega
end L2
namespace L2
theorem snoc_cases {α:Type} (xs:List α):xs=[]\/∃ys y,xs=ys++[y]:=by
 rcases List.eq_nil_or_concat xs with h|⟨ys,y,h⟩
 ·exact .inl h
 ·exact .inr ⟨ys,y,by rw[h,List.concat_eq_append]⟩
end L2
namespace L2
open PySem PySem.Spec PyProof.Rows PySem.W
noncomputable def sw (d:Int) (k:Nat):Int:=if d<=k then d else 0
end L2
namespace L2
open PySem PySem.Spec PyProof.Rows PySem.W
noncomputable def Zap (H:Hp) (l:Addr) (rs:List (List Int)):Prop:=∃as:List Addr,H l=some (.lst (as.map V.ref))/\as.length=rs.length/\∀i (h1:i<as.length) (h2:i<rs.length),H as[i]=some (.tup (rs[i].map V.int))
theorem Zap.same {H H':Hp}{l:Addr}{rs:List (List Int)} (R:Zap H l rs) (s:Zf H H'):Zap H' l rs:=by
 obtain⟨as,h1,h2,h3⟩:=R
 exact⟨as,s _ _ h1,h2,λi i1 i2=>s _ _ (h3 i i1 i2)⟩
theorem Zap.nil {H:Hp}{l:Addr} (h:H l=some (.lst [])):Zap H l []:=⟨[],h,rfl,λi i1=>absurd i1 (by simp)⟩
noncomputable def Once (k:Nat) (ss ls:List Int):Prop:=ss=((List.range k).map λ(j:Nat)=>(j:Int)).filter (λj=>decide (j∉ls))/\ls=((List.range k).map λ(j:Nat)=>(j:Int)).filter (λj=>decide (j∈ls))
noncomputable instance (k:Nat) (ss ls:List Int):Decidable (Once k ss ls):=inferInstanceAs (Decidable (_/\_))
theorem Zap.walk {K:Frag}{H1:Hp}{d:Addr}{rs:List (List Int)} (R:Zap H1 d rs):(∀i H,Zf H1 H->i<rs.length->(Itl K d).go i H)/\(∀H,Zf H1 H->(Itl K d).stop rs.length H) /\
  ∀i x H H' (h:i<rs.length),Zf H1 H->(Itl K d).yld i H x H'->H'=H/\∃a,x=.ref a/\H a=some (.tup (rs[i].map V.int)):=by
 obtain⟨as,e,hl,hh⟩:=R
 refine⟨λi H s hi=>⟨_,V.ref (as[i]'(by omega)),SqL.of (s _ _ e),by simp[show i<as.length by omega]⟩,λH s=>⟨_,SqL.of (s _ _ e),by simp[hl]⟩,λi x H H' hi s y=>?_⟩
 obtain⟨e1,y⟩:=y
 have h1:=y _ (SqL.of (s _ _ e))
 rw[YA,Yf (show i<as.length by omega)]at h1
 cases h1
 exact⟨e1,_,rfl,s _ _ (hh i (by omega) hi)⟩
theorem Zap.sq {K:Frag}{H:Hp}{l:Addr}{rs:List (List Int)} (R:Zap H l rs):∃xs,SqL K H l xs:=by
 obtain⟨as,e,_⟩:=R
 exact⟨_,SqL.of e⟩
section
variable {N:Nat}{k:Nat->Int}{cmp:Nat->Nat->(Bool->Shared->Prop)->Shared->Prop}{s:Shared}{p:Array Nat}
noncomputable def kk (k:Nat->Int) (p:Array Nat) (i:Nat):Int:=k (p.getD i 0)
end
noncomputable def Itrv (lo:Int) (n:Nat):It:=⟨λi _=>i<n,λi H x H'=>H'=H/\x=.int (lo+n-1-i),λi _=>n<=i⟩
theorem ZgK {P:Program}{w:World}{K:PySem.W.Frag}{tg:Expr} (it:Addr) (lo:Int) (n:Nat):Turn P w K tg (Itrv lo n) [it] it (λi h=>IsRangeIter h it (lo+n-1+(i:Nat)*(-1)) ((n:Int)-(i:Nat)) (-1)) where
 mem:=by simp
 obj:=λi h st b hb=>by
  have e:b=it:=by simpa using hb
  subst e
  exact⟨_,st,λv z=>by
   have z':Data.fields _=Data.cell v:=z
   cases z'⟩
 keep:=λi h h' st k=>k it (by simp) _ st
 item:=by
  intro X hP hw hK hc i pins s σ H E I hf st hg
  subst hP hw hK
  obtain⟨f0,f1,f2,f3,f4,f5⟩:=hf it (by simp)
  have W:=Walks.range (prog:=X.prog) (w:=X.w) (I.ok.hd hc) it (lo+n-1) (-1) n
  refine W.item i s _ _ hg st λv h' tk hv st' kk=>?_
  obtain⟨t,rfl⟩:=hv
  have I1:Inv X pins σ H {s with heap:=h',toks:=tk}:=I.turned (λb o hb e=>kk b o (by simpa using hb) e) f0 f1 f3 f4 f5
  refine⟨_,rfl,ZhX (s:={s with heap:=h',toks:=tk}) (n:="range_iterator") st' rfl rfl (by decide) ⟨.int (lo+n-1-i),H,I1,⟨t,?_⟩,⟨rfl,rfl⟩,st',λb hb=>(hf b hb).1⟩⟩
  congr 1;omega
 done:=by
  intro X hP hw hK hc i pins s σ H E I hf st hg
  subst hP hw hK
  obtain⟨f0,f1,f2,f3,f4,f5⟩:=hf it (by simp)
  exact wpAny_pyNext_range_end (I.ok.hd hc) st (by have:n<=i:=hg;omega) λh' eb=>⟨rfl,I.turned (t':=s.toks) (λb o hb e=>eb b o hb e) f0 f1 f3 f4 f5⟩
 self:=λ_ _ _ _ _ st h=>wpAny_pyIter_rangeiter st h
end L2
namespace L2
open PySem PySem.Spec PyProof.Rows PySem.W
end L2
namespace L2
noncomputable def Ok:Nat->List Nat->Prop
 |_,[]=>True
 |st,d::ds=>d<=st/\Ok (st-d+1) ds
end L2
namespace L2
open PySem PySem.Spec PyProof.Rows PySem.W
end L2
namespace L2
open PySem PySem.Spec PyProof.Rows PySem.W
end L2
namespace L2
open PySem PySem.Spec PyProof.Rows
end L2
namespace L2
open PySem PySem.Spec PyProof.Rows PySem.W PySem.Calls
end L2
namespace L2
open PySem PySem.Spec PyProof.Rows PySem.W
theorem Zk4 {M:Program}{w:World}{A:Around}{E:Value->Shared->Prop}{s:Shared}{t b:Addr}{vs ws:List Value}{Q:Value->Shared->Prop} (ht:IsTup s.heap t vs.toArray) (hb:IsTup s.heap b ws.toArray) (hv:vs=[]) (h:Q (.ref b) s):wpAny (model M w) A (binaryOp .Add (.ref t) (.ref b)) Q E s:=by
 obtain⟨⟨k1,d1,x1,l1⟩,e1,c1,n1,y1⟩:=id ht
 obtain⟨⟨k2,d2,x2,l2⟩,e2,c2,n2,y2⟩:=id hb
 simp only at c1 y1 c2 y2
 subst c1 y1 c2 y2
 exact concat_meets ⟨_,e1,rfl⟩ ⟨_,e2,rfl⟩ noFill_tuple_add seq_tuple_add PySem.F.slot_tuple_add PySem.F.entry_tuple_add (PySem.F.args_tuple_add_2 _ _) (tuple_addW0 t b vs.toArray ws.toArray n1 n2 d1 d2 l1 l2 (by simp[hv])) ⟨e1,e2,h⟩
section
variable {X:Cx}
noncomputable def rCatU:R2:=λx y H Q=>∃(a b:Addr) (xs ys:List V),x=.ref a/\y=.ref b/\H a=some (.tup xs)/\H b=some (.tup ys)/\xs.length+ys.length<=sizeLine/\∀(p:Addr) H',Zf H H'->H' p=some (.tup (xs++ys))->Q (.ref p) H'
theorem Zik:OpR X (binaryOp .Add) rCatU:=by
 intro pins s σ H x y v u Q I rx ry h
 obtain⟨a,b,xs,ys,rfl,rfl,ha,hb,hz,q⟩:=h
 cases rx
 cases ry
 obtain⟨its,r1,p1,_⟩:=I.tuple (SqT.of ha)
 obtain⟨its2,r2,p2,_⟩:=I.tuple (SqT.of hb)
 by_cases hx:xs=[]
 ·exact Zk4 p1 p2 (r1.ZfP.mpr hx) ⟨.ref b,H,I,rfl,q b H (Zf.refl H) (by rw[hx];exact hb)⟩
 refine HT.ZkG p1 p2 (λz=>hx (r1.ZfP.mp z)) (λz=>⟨.ref a,H,I,rfl,q a H (Zf.refl H) (by rw[r2.ZfP.mp z,List.append_nil];exact ha)⟩) (λz=>?_) (by rw[<-r1.length,<-r2.length];exact hz)
 refine⟨.ref s.heap.objs.size,_,I.laid (t':=s.toks) (o:=.tup (xs++ys)) (λb ob q=>Yi _ q) (Ye _) ?_,rfl,q _ _ ((Zf.refl H).upd (I.hok.fresh (Ye _))) Zd⟩
 exact⟨by rw[Yt];exact hz,_,r1.append r2,IsTup.new _ _⟩
noncomputable def rSlV:V->Option Int->Option Int->Hp->VK->Prop:=λx lo hi H Q=>∃a xs,x=.ref a/\H a=some (.tup xs)/\∀p H',Zf H H'->H' p=some (.tup (Zbr xs lo hi))->Q (.ref p) H'
theorem sl_v {K:Frag} (hK:X.K=K):SlR X rSlV:=by
 intro pins s σ H x v vl vu lo hi sl Q I rx hs pl pu h
 obtain⟨a,xs,rfl,hx,q⟩:=h
 refine sl_q hK pins s σ H _ v vl vu lo hi sl Q I rx hs pl pu ⟨a,xs,rfl,.inr ⟨SqT.of hx,λhw=>?_,λ_ p hp=>?_⟩⟩
 ·exact q a H (Zf.refl H) (by rw[ZiU hw];exact hx)
 ·exact q p _ ((Zf.refl H).upd hp) Zd
end
end L2
namespace L2
open PySem PySem.Spec PyProof.Rows PySem.W PySem.Calls
end L2
namespace L2
open PySem PySem.Spec PyProof.Rows PySem.W
section
variable {ky:Keyed->Int}
noncomputable def Srt (ky:Keyed->Int) (l:List Keyed):Prop:=l.Pairwise (λx y=>ky x<=ky y)
variable {a b out:List Keyed}{ia ib:Nat}
noncomputable def Gd (ky:Keyed->Int) (a b res:List Keyed):Prop:=res.Perm (a++b)/\Srt ky res
variable {prog:Program}{w:World}{A:Around}{E:Value->Shared->Prop}{s:Shared}{κ:SortKind}{P:Keyed->Prop}
end
section
variable {ky:Keyed->Int}
noncomputable def kp (ky:Keyed->Int) (a:Array Keyed) (i:Nat):Int:=ky (a.getD i (Value.none,Value.none))
theorem kp_at {a:Array Keyed}{i:Nat} (h:i<a.size):kp ky a i=ky a[i]:=by unfold kp;simp[Array.getD,h]
noncomputable def SoR (ky:Keyed->Int) (a:Array Keyed) (l r:Nat):Prop:=∀i j,l<=i->i<=j->j<r->kp ky a i<=kp ky a j
structure Chg (a a':Array Keyed) (l r:Nat):Prop where
 perm:a'.Perm a
 same:∀i,i<l\/r<=i->a'[i]?=a[i]?
variable {prog:Program}{w:World}{A:Around}{E:Value->Shared->Prop}{s:Shared}{κ:SortKind}{P:Keyed->Prop}
end
section
variable {ky:Keyed->Int}
variable {a a':Array Keyed}
theorem Zil (base:Nat):∀(m:List Keyed) (n:Nat) (a:Array Keyed),base+n+m.length<=a.size ->
  (List.foldl (λ(a:Array Keyed) (x:Keyed×Nat)=>a.setIfInBounds (base+x.2) x.1) a (m.zipIdx n)).toList=a.toList.take (base+n)++m++a.toList.drop (base+n+m.length)
 |[],n,a,h=>by simp
 |x::m,n,a,h=>by
  simp only[YB]at h
  rw[List.zipIdx_cons,List.foldl_cons,Zil base m (n+1) _ (by simp;omega)]
  simp only[Array.toList_setIfInBounds,YB]
  have e1:(a.toList.set (base+n) x).take (base+(n+1))=a.toList.take (base+n)++[x]:=by
   rw[<-Nat.add_assoc,List.take_add_one,List.take_set,List.getElem?_set]
   rw[List.set_eq_of_length_le (by simp;omega)]
   simp[show base+n<a.size by omega]
  have e2:(a.toList.set (base+n) x).drop (base+(n+1)+m.length)=a.toList.drop (base+n+(m.length+1)):=by
   rw[List.drop_set_of_lt (by omega)]
   congr 1;omega
  rw[e1,e2]
  simp
variable {prog:Program}{w:World}{A:Around}{E:Value->Shared->Prop}{s:Shared}{κ:SortKind}{P:Keyed->Prop}
theorem laid {base mid r:Nat}{res:Array Keyed} (h1:base<=mid) (h2:mid<=r) (h3:r<=a.size) (hg:Gd ky (a.extract base mid).toList (a.extract mid r).toList res.toList) :
  ∃a':Array Keyed,List.foldl (λ(a:Array Keyed) (x:Keyed×Nat)=>a.setIfInBounds (base+x.2) x.1) a res.toList.zipIdx=a'/\Chg a a' base r/\SoR ky a' base r/\∀j,base<=j->j<r->∃t,base<=t/\t<r/\kp ky a' j=kp ky a t:=by
 have hlen:res.toList.length=r-base:=by
  have:=hg.1.length_eq
  simp only[Yt,YL,Array.size_extract]at this⊢;omega
 have key:=Zil base res.toList 0 a (by omega)
 have hb:base+0+res.toList.length=r:=by omega
 rw[hb,Nat.add_zero]at key
 refine⟨_,rfl,⟨?_,?_⟩,?_,?_⟩
 ·rw[Array.perm_iff_toList_perm,key]
  have e:a.toList=a.toList.take base++((a.extract base mid).toList++(a.extract mid r).toList)++a.toList.drop r:=by
   simp only[Array.toList_extract,List.extract_eq_drop_take]
   have:(a.toList.drop base).take (mid-base)++(a.toList.drop mid).take (r-mid)=(a.toList.drop base).take (r-base):=by
    have e2:r-base=(mid-base)+(r-mid):=by omega
    rw[e2,List.take_add,List.drop_drop]
    congr 3;omega
   rw[this]
   have e3:a.toList.drop r=(a.toList.drop base).drop (r-base):=by rw[List.drop_drop];congr 1;omega
   rw[e3,YG,Y1,Y1]
  conv=>rhs;rw[e]
  exact List.Perm.append_right _ (List.Perm.append_left _ hg.1)
 ·intro i hi
  rw[<-Array.getElem?_toList,<-Array.getElem?_toList,key]
  have hl0:(a.toList.take base).length=base:=by simp;omega
  rcases hi with hi|hi
  ·rw[YG,YO (by omega),List.getElem?_take_of_lt hi]
  ·rw[YM (by simp;simp at hlen;omega),List.getElem?_drop]
   congr 1
   simp only[Yt,hl0,hlen];omega
 all_goals
  have atm:∀j,(hj0:base<=j)->(hj:j<r)->kp ky (List.foldl (λ(a:Array Keyed) (x:Keyed×Nat)=>a.setIfInBounds (base+x.2) x.1) a res.toList.zipIdx) j=ky (res.toList[j-base]'(by omega)):=by
   intro j j1 j2
   have hl0:(a.toList.take base).length=base:=by simp;omega
   have:(List.foldl (λ(a:Array Keyed) (x:Keyed×Nat)=>a.setIfInBounds (base+x.2) x.1) a res.toList.zipIdx)[j]?=some (res.toList[j-base]'(by omega)):=by
    rw[<-Array.getElem?_toList,key,YG,YM (by omega),YO (by omega),hl0,Yf (by omega)]
   unfold kp
   rw[Array.getD_eq_getD_getElem?,this];rfl
 ·intro i j hi hij hj
  rw[atm i hi (by omega),atm j (by omega) hj]
  by_cases e:i=j
  ·subst e;exact Int.le_refl _
  ·exact List.pairwise_iff_getElem.mp hg.2 _ _ _ _ (by omega)
 ·intro j j1 j2
  rw[atm j j1 j2]
  have hm:(res.toList[j-base]'(by omega))∈(a.extract base mid).toList++(a.extract mid r).toList:=(List.Perm.mem_iff hg.1).mp (YW _)
  rcases Yz.mp hm with hm|hm
  ·obtain⟨t,ht,e⟩:=List.mem_iff_getElem.mp hm
   simp only[YL,Array.size_extract]at ht
   simp only[Array.getElem_toList,Array.getElem_extract]at e
   exact⟨base+t,by omega,by omega,by rw[kp_at (by omega),e,Array.getElem_toList]⟩
  ·obtain⟨t,ht,e⟩:=List.mem_iff_getElem.mp hm
   simp only[YL,Array.size_extract]at ht
   simp only[Array.getElem_toList,Array.getElem_extract]at e
   exact⟨mid+t,by omega,by omega,by rw[kp_at (by omega),e,Array.getElem_toList]⟩
end
end L2
namespace L2
open PySem PySem.Spec PyProof.Rows
end L2
namespace L2
open PySem PySem.Spec PyProof.Rows PySem.W
end L2
namespace L2
open PySem PySem.Spec PyProof.Rows PySem.W PySem.Calls
end L2
namespace L2
open PySem PySem.Spec PyProof.Rows PySem.W
theorem le1 {n:Nat}{us:List Value} (e:us.length=n+1):∃a t,us=a::t/\t.length=n:=by
 cases us with
 |nil=>cases e
 |cons a t=>exact⟨a,t,rfl,Nat.succ.inj e⟩
theorem le0 {us:List Value} (e:us.length=0):us=[]:=List.length_eq_zero_iff.mp e
section
variable {X:Cx}{tg:Expr}
noncomputable def iRngD (ta:TA):TI:=fun σ H R=>ta σ H λvs H1=>∃i j:Int,vs=[.int i,.int j,.int (-1)]/\(-(2 ^ 62)<=i/\i<2 ^ 62/\-(2 ^ 62)<=j/\j<2 ^ 62)/\R (Itrv (i+1-(i-j).toNat) (i-j).toNat) H1
theorem Zi3 {a b c:Expr}{ta:TA}{p pos:Pos} (hg:Gl X "range") (hm:X.mg "range"=none) (ha:PA X [a,b,c] ta) (hs:starEach [a,b,c] X.env=(false,eval a X.env)::starEach [b,c] X.env:=by rfl) (hpl:(backTo pos (starEach [b,c] X.env)).any (·.1)=false:=by rfl) :
  PI X tg (.Call (.Name "range" p) [a,b,c] [] pos) (iRngD ta):=by
 intro pins s σ H R I h
 refine Call_ (Za6 I hg hm boot_range (PyProof.Rows.callWith_type1 (thn (ha pos pins s σ H _ I h) λus s1 z=>?_) hs hpl))
 obtain⟨vs,H1,I1,r1,i,j,e,⟨q1,q2,q3,q4⟩,q⟩:=z
 subst e
 cases r1 with
 |cons r rr =>
  cases rr with
  |cons r' rr =>
   cases rr with
   |cons r'' rr =>
    cases rr
    obtain⟨t,rfl⟩:=r
    obtain⟨t',rfl⟩:=r'
    obtain⟨t'',rfl⟩:=r''
    refine call_range_3 (by decide) ?_
    refine wpAny_pyIter_range (IsRange.new ..) (small_down q1 q2 q3 q4) ?_
    have I2:Inv X pins σ H1 {s1 with heap:=s1.heap.push {cls:=.type "range",data:=.fields #[.int i t,.int j t',.int (-1) t'']}}:=I1.kept (t':=s1.toks) λb o e=>Yi _ e
    generalize s1.heap.push {cls:=.type "range",data:=.fields #[.int i t,.int j t',.int (-1) t'']}=h2 at I2⊢
    refine⟨h2.objs.size,[h2.objs.size],_,_,H1,rfl,I2.kept (t':=s1.toks) λb o e=>Yi _ e,ZgK _ (i+1-(i-j).toNat) (i-j).toNat,?_,λb hb=>?_,q⟩
    ·have e1:(i+1-((i-j).toNat:Nat))+((i-j).toNat:Nat)-1+((0:Nat):Int)*(-1)=i:=by omega
     have e2:(((i-j).toNat:Nat):Int)-((0:Nat):Int)=Builtin.Range.rangeSize i j (-1):=by rw[rangeSize_downNat];omega
     show IsRangeIter _ _ ((i+1-((i-j).toNat:Nat))+((i-j).toNat:Nat)-1+((0:Nat):Int)*(-1)) ((((i-j).toNat:Nat):Int)-((0:Nat):Int)) (-1)
     rw[e1,e2]
     exact Yo _ rfl
    ·have e:b=h2.objs.size:=by simpa using hb
     subst e
     exact I2.Zhl (Ye _) (I2.hok.fresh (Ye _))
end
section
variable {X:Cx}
noncomputable def ZjT (K:Frag) (ta:TA):TI:=fun σ H R=>ta σ H λvs H1=>∃a xs,vs=[.ref a]/\((SqL K H1 a xs/\R (Ite K a) H1)\/(SqT K H1 a xs/\R (IteT K a) H1))
theorem ZjU {K:Frag}{elts:List Expr} {x1}{tp:Pos}{e1:Expr}{ta:TA}{p pos:Pos} (hK:X.K=K) (hg:Gl X "enumerate") (hm:X.mg "enumerate"=none) (ha:PA X [e1] ta) (hs:starEach [e1] X.env=[(false,eval e1 X.env)]:=by rfl) :
  PI X (.Tuple elts x1 tp) (.Call (.Name "enumerate" p) [e1] [] pos) (ZjT K ta):=by
 subst hK
 intro pins s σ H R I h
 refine wpAny_Call_Name_kw (Za6 I hg hm Zc6 ?_)
 refine PyProof.Rows.callWith_type1 (thn (ha pos pins s σ H _ I h) λus s1 z=>?_) hs rfl
 obtain⟨vs,H1,I1,r1,a,xs,rfl,qq⟩:=z
 obtain⟨u,rfl,ru⟩:=r1.one
 cases(show u=Value.ref a from ru)
 have sm:∀b,s1.heap.objs.size<=b->FpOk X pins H1 b:=λb hb=>I1.Zhl hb (I1.hok.fresh hb)
 have n1:s1.heap.objs.size+1≠s1.heap.objs.size:=by show ¬ ((_:Nat)=_);omega
 rcases qq with⟨qa,q⟩|⟨qa,q⟩
 ·obtain⟨is1,rr1,p1,_⟩:=I1.list qa
  refine call_enumerate_list p1.isList λh' c1 c2 c3 c4=>?_
  have l1:a<s1.heap.objs.size:=by obtain⟨o,e,_⟩:=p1.isList;exact Yg e
  have T:=ZiV (P:=X.prog) (w:=X.w) (K:=X.K) (elts:=elts) (x1:=x1) (pos:=tp) n1 (Yl (YC l1)) (Yl l1)
  refine T.self _ 0 _ _ _ ⟨⟨_,c1⟩,c2⟩ ?_
  refine⟨_,[s1.heap.objs.size+1,s1.heap.objs.size],_,_,H1,rfl,I1.kept (t':=s1.toks) c4,T,⟨⟨_,c1⟩,c2⟩,λc hc=>?_,q⟩
  simp at hc
  rcases hc with rfl|rfl<;>exact sm _ (by omega)
 ·obtain⟨is1,rr1,p1,_⟩:=I1.tuple qa
  have l1:a<s1.heap.objs.size:=by obtain⟨o,e,_⟩:=p1;exact Yg e
  have T:=ZeE (P:=X.prog) (w:=X.w) (K:=X.K) (elts:=elts) (x1:=x1) (pos:=tp) n1 (Yl (YC l1)) (Yl l1)
  have hsz:(s1.heap.push {cls:=.type "tuple_iterator",data:=.fields #[.ref a,.int 0 0]}).objs.size=s1.heap.objs.size+1:=Heap.size_push _ _
  have c1:IsEnum ((s1.heap.push {cls:=.type "tuple_iterator",data:=.fields #[.ref a,.int 0 0]}).push {cls:=.type "enumerate",data:=.fields #[.none,.bool false,.ref s1.heap.objs.size,rawInt 0,.none,.none]}) (s1.heap.objs.size+1) s1.heap.objs.size 0 .none:=by
   show Heap.get? _ _=_
   rw[<-hsz];exact Yo _ rfl
  have c2:((s1.heap.push {cls:=.type "tuple_iterator",data:=.fields #[.ref a,.int 0 0]}).push {cls:=.type "enumerate",data:=.fields #[.none,.bool false,.ref s1.heap.objs.size,rawInt 0,.none,.none]}).IsTupleIter s1.heap.objs.size a 0:=⟨_,Yi _ (Yo _ rfl),rfl,rfl⟩
  refine callType_newIn F.called_enumerate rfl (by first|rfl|decide) (F.newCall_enumerate_1 _) (λobj=>by first|rfl|decide) F.entry_enumerate_new (Zd0 a is1.toArray) ⟨p1,⟨_,c1,rfl⟩,?_⟩
  refine T.self _ 0 _ _ _ ⟨⟨_,c1⟩,c2⟩ ?_
  refine⟨_,[s1.heap.objs.size+1,s1.heap.objs.size],_,_,H1,rfl,I1.kept (t':=s1.toks) (λb o e=>Yi _ (Yi _ e)),T,⟨⟨_,c1⟩,c2⟩,λc hc=>?_,q⟩
  simp at hc
  rcases hc with rfl|rfl<;>exact sm _ (by omega)
end
noncomputable def kwS (v:Value):List (Str×Value):=[(Str.ofString "start",v)]
theorem ZeI (a v:Value):checkTypeCall "enumerate" ⟨[a],kwS v⟩=pure ():=by kernel_rfl
theorem Ze8 (a v:Value):checkBuiltinCall "enumerate.__new__" ⟨[.type "enumerate",a],kwS v⟩=pure ():=by kernel_rfl
theorem ZeJ (obj a v:Value):argsOk "object.__init__" ⟨[obj,a],kwS v⟩:=by
 unfold argsOk;kernel_rfl
section
variable {prog:Program}{w:World}{A:Around}{E:Value->Shared->Prop}{s:Shared}
theorem ZhD (self a v:Value):Meets (Builtin.«object.__init__» ⟨[self,a],kwS v⟩) (λ_ R s=>s.TypeIs self "enumerate"/\R (.ok (.ret .none)) s):=by
 have hl:=F.called_enumerate.init.lookup
 have hm:=F.called_enumerate.made
 have hne:(some "enumerate.__new__" != some "object.__new__")=true:=by decide
 refine Meets.of_wp λprog w A R s hs=>?_
 obtain⟨hT,hq⟩:=hs
 repeat (any_goals (first|assumption|wp_step))
 exact⟨_,rfl,hq⟩
theorem ZgL (l:Addr) (items:Array Value) (t:Tok):MeetsIn prog w (Builtin.«enumerate.__new__» ⟨[.type "enumerate",.ref l],kwS (.int 1 t)⟩) λA R s=>s.heap.IsList l items/\R (.ok (.ret (.ref (s.heap.objs.size+1)))) {s with heap:=(s.heap.push {cls:=.type "list_iterator",data:=.fields #[.ref l,.int 0 0]}).push {cls:=.type "enumerate",data:=.fields #[.none,.bool false,.ref s.heap.objs.size,rawInt 1,.none,.none]}}:=by
 intro A R s ⟨h,hR⟩
 unfold Builtin.«enumerate.__new__»
 refine Ya (wpAny_of_eq (show Builtin.SmallTypes.newClass "enumerate" ⟨[.type "enumerate",.ref l],kwS (.int 1 t)⟩=pure (.type "enumerate",[.ref l])from by first|rfl|(unfold Builtin.SmallTypes.newClass;rfl)) ?_)
 show wpAny _ _ (_ >>= _) _ _ _
 have hsz:(s.heap.push {cls:=.type "list_iterator",data:=.fields #[.ref l,.int 0 0]}).objs.size=s.heap.objs.size+1:=Heap.size_push _ _
 refine Ya (thn (ZeF (.type "enumerate")) λb s' e=>?_)
 subst e
 cases b with
 |true =>
  show wpAny _ _ (_ >>= _) _ _ _
  refine Ya (wpAny_of_eq (show _=pure (.ref l,some (.int 1 t))from rfl) ?_)
  dsimp only
  refine Ya (wpAny_of_eq (show Builtin.SmallTypes.indexObject "enumerate.__new__" (.int 1 t)=pure (.int 1 t)from by first|rfl|(unfold Builtin.SmallTypes.indexObject;rfl)) ?_)
  refine Ya (wpAny_of_eq (show asInt? (.int 1 t)=pure (some 1)from rfl) ?_)
  dsimp only
  refine wpAny_ite_split (λhab=>absurd hab (by decide)) λ_=>?_
  refine Ya (wpAny_pyIter_list h ?_)
  show wpAny _ _ (newObj (.type "enumerate") (.fields #[.none,.bool false,.ref s'.heap.objs.size,rawInt 1,.none,.none]) >>= _) _ _ _
  refine Ya (wpAny_newObj_type (Yd ?_))
  rw[hsz];exact hR
 |false =>
  show wpAny _ _ (_ >>= _) _ _ _
  refine Ya (wpAny_of_eq (show _=pure (.ref l,some (.int 1 t))from rfl) ?_)
  dsimp only
  refine Ya (wpAny_of_eq (show Builtin.SmallTypes.indexObject "enumerate.__new__" (.int 1 t)=pure (.int 1 t)from by first|rfl|(unfold Builtin.SmallTypes.indexObject;rfl)) ?_)
  refine Ya (wpAny_of_eq (show asInt? (.int 1 t)=pure (some 1)from rfl) ?_)
  dsimp only
  refine wpAny_ite_split (λhab=>absurd hab (by decide)) λ_=>?_
  refine Ya (wpAny_pyIter_list h ?_)
  show wpAny _ _ (newObj (.type "enumerate") (.fields #[.none,.bool false,.ref s'.heap.objs.size,rawInt 1,.none,.none]) >>= _) _ _ _
  refine Ya (wpAny_newObj_type (Yd ?_))
  rw[hsz];exact hR
noncomputable def EnS (s:Shared) (l:Addr):Shared:={s with heap:=(s.heap.push {cls:=.type "list_iterator",data:=.fields #[.ref l,.int 0 0]}).push {cls:=.type "enumerate",data:=.fields #[.none,.bool false,.ref s.heap.objs.size,rawInt 1,.none,.none]}}
theorem ZhE {l:Addr}{items:Array Value}{t:Tok}{Q:Value->Shared->Prop} (hl:s.heap.IsList l items)
  (h:Q (.ref (s.heap.objs.size+1)) (EnS s l)) :
  wpAny (model prog w) A (call (.type "enumerate") [.ref l] (kwS (.int 1 t))) Q E s:=by
 have ft:=F.called_enumerate
 obtain⟨c,tl,hmro⟩:=ft.mro
 have hmade:=ft.made
 have hsub:=ft.sub
 have hct:=ZeI (.ref l) (.int 1 t)
 have hcn:=Ze8 (.ref l) (.int 1 t)
 have hsz:(s.heap.push {cls:=.type "list_iterator",data:=.fields #[.ref l,.int 0 0]}).objs.size=s.heap.objs.size+1:=Heap.size_push _ _
 refine wpAny_call (codeAny_of_tree ?_)
 show wpAny _ _ (callAny (.type "enumerate") _) _ _ _
 refine Yd ⟨Code.quiet_builtin _ (by decide +kernel),codeAny_builtin PySem.F.entry_type_call ?_⟩
 rw[Around.under_plain (weight_type_call_type "enumerate" [.ref l] (kwS (.int 1 t))) (units_type_call_type "enumerate" [.ref l] (kwS (.int 1 t)))]
 have h1:=ft.notType
 have h2:=ft.canCreate
 repeat (any_goals (first|assumption|wp_step))
 have hsn:s.heap.IsList l items/\(λ(r:Result) (s1:Shared)=>r=.ok (.ret (.ref (s.heap.objs.size+1)))/\s1=(EnS s l)) (.ok (.ret (.ref (s.heap.objs.size+1)))) (EnS s l):=⟨hl,rfl,rfl⟩
 refine codeAny_mono (R:=λr s1=>r=.ok (.ret (.ref (s.heap.objs.size+1)))/\s1=(EnS s l)) (codeAny_call_builtin ft.plain F.entry_enumerate_new (wpAny_of_eq hcn (ZgL (prog:=prog) (w:=w) l items t A.in1 (λr s1=>r=.ok (.ret (.ref (s.heap.objs.size+1)))/\s1=EnS s l) s hsn))) λr s1 hr=>?_
 obtain⟨rfl,rfl⟩:=hr
 have hT:Shared.TypeIs (EnS s l) (.ref (s.heap.objs.size+1)) "enumerate":=⟨_,by show Heap.get? _ _=_;rw[<-hsz];exact Yo _ rfl,rfl⟩
 have hli:=ft.init.lookup
 have hbi:=ft.init.bind (.ref (s.heap.objs.size+1))
 have hsi:Shared.TypeIs (EnS s l) (.ref (s.heap.objs.size+1)) "enumerate"/\(λ(r:Result) (s2:Shared)=>r=.ok (.ret .none)/\s2=(EnS s l)) (.ok (.ret .none)) (EnS s l):=⟨hT,rfl,rfl⟩
 repeat (any_goals (first|assumption|wp_step))
 refine codeAny_mono (R:=λr s2=>r=.ok (.ret .none)/\s2=(EnS s l)) (codeAny_call_builtin ft.init.plain PySem.F.entry_object_init (ft.init.check _ _ _ _ _ _ _ _ hT (ZeJ _ _ _) (ZhD (.ref (s.heap.objs.size+1)) (.ref l) (.int 1 t) prog w A.in1 (λr s2=>r=.ok (.ret .none)/\s2=EnS s l) _ hsi))) λr s2 hr=>?_
 obtain⟨rfl,rfl⟩:=hr
 repeat (any_goals (first|assumption|wp_step))
end
section
variable {X:Cx}
theorem Zd3 {prog:Program}{w:World}{A:Around}{it:Addr}{fp:List Addr}{n:Nat}{P:Nat->Value->Prop}{St:Nat->Heap->Prop} (D:Draws prog w A it fp n P St):Draws prog w A it fp (n+1) (λi v=>P (i-1) v) (λi h=>1<=i/\St (i-1) h) where
 live:=λi h st=>D.live _ _ st.2
 frame:=λi h h' st k=>⟨st.1,D.frame _ _ _ st.2 k⟩
 item:=λi s Q E hi st h=>D.item (i-1) s Q E (by omega) st.2 λv h' tk hp hs hb=>h v h' tk hp ⟨by omega,by rw[show i+1-1=i-1+1 by omega];exact hs⟩ hb
 done:=λs Q E st h=>D.done s Q E (by simpa using st.2) h
theorem ZeK {M:Model}{A:Around}{E:Value->Shared->Prop}{s:Shared}{env:Env}{pos:Pos}{T:String}{e:Expr}{rest:List Expr}{kws:List Keyword}{Q:Value->Shared->Prop}
  (h:wpAny M A (spliced (backTo pos (starEach (e::rest) env))) (λvs s1=>wpAny M A (evalAll ((backToKw pos (keywordEach kws env)).map (·.2))) (λkvs s2=>wpAny M A (call (.type T) vs (((backToKw pos (keywordEach kws env)).filterMap (·.1)).zip kvs)) Q E s2) E s1) E s)
  (he:backTo pos (starEach (e::rest) env)=(false,eval e env)::backTo pos (starEach rest env):=by rfl)
  (hpl:(backTo pos (starEach (e::rest) env)).any (·.1)=false:=by rfl) (hall:(backToKw pos (keywordEach kws env)).all (·.1.isSome)=true:=by rfl)
  (hkw:(backToKw pos (keywordEach kws env)).any (·.1.isNone)=false:=by rfl):wpAny M A (callWith pos (.type T) [] (backTo pos (starEach (e::rest) env)) (backToKw pos (keywordEach kws env))) Q E s:=by
 unfold callWith
 have h1:wpAny M A (evalArgs (.type T) true (backTo pos (starEach (e::rest) env)) (backToKw pos (keywordEach kws env))) (λa s1=>wpAny M A (call (.type T) ([]++a.pos) a.kw) Q E s1) E s:=by
  rw[he]at h⊢
  exact evalArgs_kwB hall h
 refine Ya (wpAny_holding (YE h1 (λa s1 h2=>Ya (wpAny_standAt ?_)) λ_ _ x=>x))
 simp only[hpl,hkw,Bool.or_false]
 refine Ya (Yd ?_)
 exact Ya (YE h2 (λr s2 hr=>Ya (wpAny_holding (wpAny_point (Yd hr)))) λ_ _ x=>x)
noncomputable def IteS (K : Frag) (a : Addr) : It :=
  ⟨fun i H => ∃ xs x, SqL K H a xs ∧ xs[i]? = some x,
   fun i H v H' => ∃ p x, H p = none ∧ v = .ref p ∧ H' = upd H p (.tup [.int ((i : Int) + 1), x]) ∧ ∀ xs, SqL K H a xs → xs[i]? = some x,
   fun i H => ∃ xs, SqL K H a xs ∧ xs.length = i⟩
theorem ZhF {P:Program}{w:World}{K:Frag}{elts:List Expr} {x1}{pos:Pos}{a e it:Addr} (h1:e≠it) (h2:a≠e) (h3:a≠it) :
  Turn P w K (.Tuple elts x1 pos) (IteS K a) [e,it] e (λi h=>(∃old,IsEnum h e it ((i:Int)+1) old)/\h.IsListIter it a i) where
 mem:=by simp
 obj:=λi h st c hc=>by
  obtain⟨⟨old,q1⟩,⟨o4,q4,_,d4⟩⟩:=st
  simp at hc
  rcases hc with rfl|rfl
  ·exact⟨_,q1,λv z=>by cases z⟩
  ·exact⟨_,q4,λv z=>by rw[d4]at z;cases z⟩
 keep:=λi h h' st k=>by
  obtain⟨⟨old,q1⟩,q4⟩:=st
  exact⟨⟨old,k e (by simp) _ q1⟩,q4.at λo z=>k it (by simp) o z⟩
 item:=by
  intro X hP hw hK hc i pins s σ H E I hf st hg
  subst hP hw hK
  obtain⟨xs,x,qa,hx⟩:=hg
  obtain⟨is1,r1,p1,hz1⟩:=I.list qa
  obtain⟨u,hu,ru⟩:=r1.get hx
  have W:=WalksT.enumerateD (prog:=X.prog) (w:=X.w) (A:=X.A) (Zd3 (Draws.list (A:=X.A.in1) (I.ok.hd hc) it a h3 is1.toArray)) e h1 (by simp;exact⟨h1,h2.symm⟩) (by simp)
  have hi:i<is1.toArray.size:=by
   have:=(Yn.mp hu).1
   simpa using this
  have st1:(∃old,IsEnum s.heap e it (((i+1:Nat)):Int) old):=by obtain⟨old,q⟩:=st.1;exact⟨old,by rw[show((i+1:Nat):Int)=(i:Int)+1 by omega];exact q⟩
  refine W.item (i+1) s _ E (by omega) ⟨st1,by omega,by simpa using st.2,p1.isList⟩ λT vals h' tk Pt hT hTup Mid keep=>⟨_,rfl,W.go elts x1 pos (i+1) T _ _ E Mid λh2' St2 keep2=>?_⟩
  obtain⟨t,y,hy,rfl⟩:=Pt
  have hyu:y=u:=by
   have:is1[i]?=some y:=by simpa using hy
   rw[hu]at this;exact(Yw this).symm
  subst hyu
  have nT:=W.apart (i+1) T h' Mid
  have hfr:H T=none:=I.hok.fresh hT
  have kk:∀b o,b∉[e,it]->s.heap.get? b=some o->h2'.get? b=some o:=λb o hb q=>keep2 b o hb (keep b o hb q)
  have nTe:∀c∈[e,it],c≠T:=λc hc z=>nT (z▸hc)
  have ei:((i:Int)+1)=(((i+1:Nat)):Int):=by omega
  refine⟨.ref T,_,Inv.Zf1 (s:=s) (t':=tk) (o:=.tup [.int ((i:Int)+1),x]) I kk hf hT ?_,rfl,⟨T,x,hfr,rfl,rfl,λxs' q'=>?_⟩,⟨?_,by have:=St2.2.2.1;simpa using this⟩,λc hc=>?_⟩
  ·obtain⟨oT,q1,q2,n,q3⟩:=hTup
   exact⟨by show 2<=sizeLine;decide,[.int ((i:Int)+1) t,y],.cons ⟨t,rfl⟩ (.cons ru .nil),⟨oT,keep2 T oT nT q1,q2,n,by rw[ei];exact q3⟩⟩
  ·rw[I.ZbC q' qa];exact hx
  ·obtain⟨old,q⟩:=St2.1
   refine⟨old,?_⟩
   have e2:(((i+1:Nat):Int)+1)=((i+1+1:Nat):Int):=by omega
   rw[e2];exact q
  ·rw[Zg (nTe c hc)];exact(hf c hc).1
 done:=by
  intro X hP hw hK hc i pins s σ H E I hf st hg
  subst hP hw hK
  obtain⟨xs,qa,hx⟩:=hg
  obtain⟨is1,r1,p1,_⟩:=I.list qa
  have W:=WalksT.enumerateD (prog:=X.prog) (w:=X.w) (A:=X.A) (Zd3 (Draws.list (A:=X.A.in1) (I.ok.hd hc) it a h3 is1.toArray)) e h1 (by simp;exact⟨h1,h2.symm⟩) (by simp)
  have hi:i=is1.toArray.size:=by
   have:=r1.length
   simp;omega
  refine W.done s _ E ?_ λh' tk keep=>⟨rfl,I.ZfV (t':=tk) (fp:=[e,it]) (λc o hc q=>keep c o hc q) hf⟩
  rw[<-hi]
  obtain⟨old,q⟩:=st.1
  exact⟨⟨old,by rw[show((i+1:Nat):Int)=(i:Int)+1 by omega];exact q⟩,by omega,by simpa using st.2,p1.isList⟩
 self:=λA i s Q E st h=>by
  obtain⟨⟨old,q⟩,_⟩:=st
  exact wpAny_pyIter_enum q h
noncomputable def ZjV (K:Frag) (ta td:TA):TI:=fun σ H R=>ta σ H λvs H1=>td σ H1 λws H2=>∃a xs,vs=[.ref a]/\ws=[.int 1]/\SqL K H2 a xs/\R (IteS K a) H2
theorem ZjW {K:Frag}{elts:List Expr} {x1}{tp:Pos}{e1 e2:Expr}{ta td:TA}{p pos kp:Pos} (hK:X.K=K) (hg:Gl X "enumerate") (hm:X.mg "enumerate"=none) (ha:PA X [e1] ta) (hd:PK X [⟨some (Str.ofString "start"),e2,kp⟩] td)
  (hks:(backToKw pos (keywordEach [⟨some (Str.ofString "start"),e2,kp⟩] X.env)).filterMap (·.1)=[Str.ofString "start"]:=by rfl) (he:backTo pos (starEach [e1] X.env)=(false,eval e1 X.env)::backTo pos (starEach [] X.env):=by rfl)
  (hpl:(backTo pos (starEach [e1] X.env)).any (·.1)=false:=by rfl) (hall:(backToKw pos (keywordEach [⟨some (Str.ofString "start"),e2,kp⟩] X.env)).all (·.1.isSome)=true:=by rfl)
  (hnn:(backToKw pos (keywordEach [⟨some (Str.ofString "start"),e2,kp⟩] X.env)).any (·.1.isNone)=false:=by rfl) :
  PI X (.Tuple elts x1 tp) (.Call (.Name "enumerate" p) [e1] [⟨some (Str.ofString "start"),e2,kp⟩] pos) (ZjV K ta td):=by
 subst hK
 intro pins s σ H R I h
 refine wpAny_Call_Name_kw (Za6 I hg hm Zc6 ?_)
 refine ZeK (thn (ha pos pins s σ H _ I h) λus s1 z=>?_) he hpl hall hnn
 obtain⟨vs,H1,I1,r1,q1⟩:=z
 refine thn (hd pos pins s1 σ H1 _ I1 q1) λws s2 z=>?_
 obtain⟨zs,H2,I2,r2,a,xs,rfl,rfl,qa,q⟩:=z
 obtain⟨u,rfl,ru⟩:=r1.one
 cases(show u=Value.ref a from ru)
 obtain⟨v,rfl,t,rfl⟩:=r2.one
 rw[hks]
 obtain⟨is1,rr1,p1,_⟩:=I2.list qa
 have l1:a<s2.heap.objs.size:=by obtain⟨o,e,_⟩:=p1.isList;exact Yg e
 have sm:∀b,s2.heap.objs.size<=b->FpOk X pins H2 b:=λb hb=>I2.Zhl hb (I2.hok.fresh hb)
 have n1:s2.heap.objs.size+1≠s2.heap.objs.size:=by show ¬ ((_:Nat)=_);omega
 have T:=ZhF (P:=X.prog) (w:=X.w) (K:=X.K) (elts:=elts) (x1:=x1) (pos:=tp) n1 (Yl (YC l1)) (Yl l1)
 have hsz:(s2.heap.push {cls:=.type "list_iterator",data:=.fields #[.ref a,.int 0 0]}).objs.size=s2.heap.objs.size+1:=Heap.size_push _ _
 have c1:IsEnum ((s2.heap.push {cls:=.type "list_iterator",data:=.fields #[.ref a,.int 0 0]}).push {cls:=.type "enumerate",data:=.fields #[.none,.bool false,.ref s2.heap.objs.size,rawInt 1,.none,.none]}) (s2.heap.objs.size+1) s2.heap.objs.size (((0:Nat):Int)+1) .none:=by
  show Heap.get? _ _=_
  rw[<-hsz];exact Yo _ rfl
 have c2:((s2.heap.push {cls:=.type "list_iterator",data:=.fields #[.ref a,.int 0 0]}).push {cls:=.type "enumerate",data:=.fields #[.none,.bool false,.ref s2.heap.objs.size,rawInt 1,.none,.none]}).IsListIter s2.heap.objs.size a 0:=⟨_,Yi _ (Yo _ rfl),rfl,rfl⟩
 refine ZhE (t:=t) p1.isList ?_
 refine T.self _ 0 _ _ _ ⟨⟨_,c1⟩,c2⟩ ?_
 refine⟨_,[s2.heap.objs.size+1,s2.heap.objs.size],_,_,H2,rfl,I2.kept (t':=s2.toks) (λb o e=>Yi _ (Yi _ e)),T,⟨⟨_,c1⟩,c2⟩,λc hc=>?_,q⟩
 simp at hc
 rcases hc with rfl|rfl<;>exact sm _ (by omega)
end
noncomputable def CDivB (i j:Int):Prop:=0<j/\j.natAbs<2 ^ 1000
theorem ZjX {X:Cx}:OpR X (binaryOp .FloorDiv) (rI CDivB λi j=>.int (i / j)):=opI λi j _ _ _ _ _ hc q=>by
 have h1:(0:Int)<j:=hc.1
 have h3:=hc.2
 refine floordiv_int (by omega) (by rw[Int.fdiv_eq_ediv_of_nonneg i (by omega)];exact q) (.inl (PyProof.noPylong_of_log2 ?_))
 have:j.natAbs.log2<1000:=(Nat.log2_lt (by omega)).mpr h3
 omega
noncomputable def prodF (g:Nat->Nat) (a:Nat):Nat->Nat
 |0=>1
 |c+1=>prodF g a c*g (a+c)
noncomputable def Zq:Nat->Nat
 |0=>1
 |n+1=>(n+1)*Zq n
theorem Zba:∀n,0<Zq n
 |0=>by decide
 |n+1=>Nat.mul_pos (by omega) (Zba n)
theorem Zcd (g:Nat->Nat) (a c:Nat):∀d,prodF g a (c+d)=prodF g a c*prodF g (a+c) d
 |0=>by simp[prodF]
 |d+1=>by
  show prodF g a (c+d)*g (a+(c+d))=prodF g a c*(prodF g (a+c) d*g (a+c+d))
  rw[Zcd g a c d,Nat.mul_assoc,Nat.add_assoc]
theorem ZaN {g:Nat->Nat} (a:Nat):∀c,(∀i,i<c->0<g (a+i))->0<prodF g a c
 |0,_=>Nat.one_pos
 |c+1,h=>Nat.mul_pos (ZaN a c λi hi=>h i (by omega)) (h c (by omega))
theorem ZgM {g:Nat->Nat} (a b:Nat):∀c,(∀i,i<c->g (a+i)<=b)->prodF g a c<=b ^ c
 |0,_=>by simp[prodF]
 |c+1,h=>by
  rw[Nat.pow_succ]
  exact Nat.mul_le_mul (ZgM a b c λi hi=>h i (by omega)) (h c (by omega))
theorem Zfx {g k:Nat->Nat} (a:Nat):∀c,(∀i,i<c->g (a+i)=k (a+i))->prodF g a c=prodF k a c
 |0,_=>rfl
 |c+1,h=>by
  show prodF g a c*g (a+c)=prodF k a c*k (a+c)
  rw[Zfx a c λi hi=>h i (by omega),h c (by omega)]
noncomputable def chN:Nat->Nat->Nat
 |0,_=>1
 |_+1,0=>1
 |p+1,q+1=>chN p (q+1)+chN (p+1) q
theorem Zen:∀m p q,p+q=m->chN p q*(Zq p*Zq q)=Zq (p+q):=by
 intro m
 induction m with
 |zero =>
  intro p q h
  obtain⟨rfl,rfl⟩:p=0/\q=0:=by omega
  simp[chN,Zq]
 |succ m ih =>
  intro p q h
  match p,q with
  |0,q=>simp[chN,Zq]
  |p+1,0=>simp[chN,Zq]
  |p+1,q+1 =>
   have h1:=ih p (q+1) (by omega)
   have h2:=ih (p+1) q (by omega)
   have e1:p+(q+1)=p+q+1:=by omega
   have e2:p+1+q=p+q+1:=by omega
   rw[e1]at h1;rw[e2]at h2
   have e3:p+1+(q+1)=p+q+1+1:=by omega
   rw[e3]
   rw[chN,show Zq (p+1)=(p+1)*Zq p from rfl,show Zq (q+1)=(q+1)*Zq q from rfl,show Zq (p+q+1+1)=(p+q+1+1)*Zq (p+q+1)from rfl]
   have a1:chN p (q+1)*((p+1)*Zq p*((q+1)*Zq q))=(p+1)*Zq (p+q+1):=by
    rw[<-h1,show Zq (q+1)=(q+1)*Zq q from rfl];ac_rfl
   have a2:chN (p+1) q*((p+1)*Zq p*((q+1)*Zq q))=(q+1)*Zq (p+q+1):=by
    rw[<-h2,show Zq (p+1)=(p+1)*Zq p from rfl];ac_rfl
   rw[Nat.add_mul,a1,a2,<-Nat.add_mul,e3]
theorem ZjY (p t:Nat):chN p t*(p+t+1)=chN p (t+1)*(t+1):=by
 have h1:=Zen _ p t rfl
 have h2:=Zen _ p (t+1) rfl
 refine Nat.eq_of_mul_eq_mul_right (Nat.mul_pos (Zba p) (Zba t)) ?_
 have e:Zq (p+(t+1))=(p+t+1)*Zq (p+t):=rfl
 have a1:chN p t*(p+t+1)*(Zq p*Zq t)=(p+t+1)*Zq (p+t):=by rw[<-h1];ac_rfl
 have a2:chN p (t+1)*(t+1)*(Zq p*Zq t)=Zq (p+(t+1)):=by
  rw[<-h2,show Zq (t+1)=(t+1)*Zq t from rfl];ac_rfl
 rw[a1,a2,e]
noncomputable def Zx (f:Nat->Int) (p:Nat):Nat:=((p:Int)-ZaI f p-1).toNat
noncomputable def ZT (f:Nat->Int) (n p:Nat):Nat:=(ZaM f n p-p-1).toNat
noncomputable def szN (f:Nat->Int) (n p:Nat):Nat:=Zx f p+ZT f n p+1
section
variable {ns T:List Int}
theorem ZC (hT:Zl ns T) {p:Nat} (hp:p<ns.length):(Zx (nth ns) p:Int)=p-ZaI (nth ns) p-1/\(ZT (nth ns) ns.length p:Int)=ZaM (nth ns) ns.length p-p-1/\Zx (nth ns) p<=p/\p+ZT (nth ns) ns.length p<ns.length:=by
 unfold Zx ZT
 obtain⟨h1,h2⟩:=ZX (hT.2 p hp)
 rcases h1 with h1|⟨q,h1⟩<;>rcases h2 with h2|⟨r,h2⟩
 ·rw[Z6 h1,ZW h2];omega
 ·rw[Z6 h1,Zu h2];have:=h2.1;have:=h2.2.1;omega
 ·rw[Zt h1,ZW h2];have:=h1.1;omega
 ·rw[Zt h1,Zu h2];have:=h1.1;have:=h2.1;have:=h2.2.1;omega
theorem Zdv (hT:Zl ns T) {q e:Nat} (hq:q<ns.length) (h:nth T q=e) (hl:q<e):e<ns.length/\ZaI (nth ns) q=ZaI (nth ns) e/\ZaM (nth ns) ns.length q=e/\(∀s,q<s->s<e->nth ns q<=nth ns s)/\∀s:Nat,ZaI (nth ns) e<s->s<q->nth ns q<nth ns s:=by
 have hE:=hT.2 q hq
 rw[show T.getD q 0=e from h]at hE
 rcases hE with⟨_,_,z⟩|⟨x,h1,_,z⟩|⟨r,h1,h2,z⟩|⟨x,r,h1,h2,z⟩
 ·omega
 ·have:=h1.1;omega
 ·obtain rfl:e=r:=by omega
  have hN:ZaL (nth ns) e:=λr' r1=>by
   have:=h2.2.2.1
   by_cases z1:r'<q
   ·have:=h1 r' z1;omega
   ·by_cases z2:r'=q
    ·subst z2;omega
    ·have:=h2.2.2.2 r' (by omega) r1;omega
  exact⟨h2.2.1,by rw[Z6 h1,Z6 hN],Zu h2,h2.2.2.2,λs _ s2=>h1 s s2⟩
 ·by_cases c:nth ns x<=nth ns r
  ·rw[Yc c]at z
   obtain rfl:e=r:=by omega
   have hP:ZJ (nth ns) e x:=⟨by have:=h1.1;omega,c,λr' r1 r2=>by
    have:=h2.2.2.1
    by_cases z1:r'<q
    ·have:=h1.2.2 r' r1 z1;omega
    ·by_cases z2:r'=q
     ·subst z2;omega
     ·have:=h2.2.2.2 r' (by omega) r2;omega⟩
   refine⟨h2.2.1,by rw[Zt h1,Zt hP],Zu h2,h2.2.2.2,λs s1 s2=>h1.2.2 s ?_ s2⟩
   rw[Zt hP]at s1;omega
  ·rw[Yb c]at z
   have:=h1.1;omega
theorem ZcM (hT:Zl ns T) {q e:Nat} (hq:q<ns.length) (h:nth T q=e) (hl:e<q):ZaI (nth ns) q=e/\ZaM (nth ns) ns.length q=ZaM (nth ns) ns.length e/\(∀s,e<s->s<q->nth ns q<nth ns s)/\∀s:Nat,q<s->s<ZaM (nth ns) ns.length e->nth ns q<=nth ns s:=by
 have hE:=hT.2 q hq
 rw[show T.getD q 0=e from h]at hE
 rcases hE with⟨_,_,z⟩|⟨x,h1,h2,z⟩|⟨r,h1,h2,z⟩|⟨x,r,h1,h2,z⟩
 ·omega
 ·obtain rfl:e=x:=by omega
  have hN:Zao (nth ns) ns.length e:=λr r1 r2=>by
   have:=h1.2.1
   by_cases z1:r<q
   ·have:=h1.2.2 r r1 z1;omega
   ·by_cases z2:r=q
    ·subst z2;omega
    ·have:=h2 r (by omega) r2;omega
  exact⟨Zt h1,by rw[ZW h2,ZW hN],h1.2.2,λs s1 s2=>h2 s s1 (by rw[ZW hN]at s2;omega)⟩
 ·have:=h2.1;omega
 ·by_cases c:nth ns x<=nth ns r
  ·rw[Yc c]at z
   have:=h2.1;omega
  ·rw[Yb c]at z
   obtain rfl:e=x:=by omega
   have hP:ZI (nth ns) ns.length e r:=⟨by have:=h2.1;omega,h2.2.1,by omega,λs s1 s2=>by
    have:=h1.2.1
    by_cases z1:s<q
    ·have:=h1.2.2 s s1 z1;omega
    ·by_cases z2:s=q
     ·subst z2;omega
     ·have:=h2.2.2.2 s (by omega) s2;omega⟩
   exact⟨Zt h1,by rw[Zu h2,Zu hP],h1.2.2,λs s1 s2=>h2.2.2.2 s s1 (by rw[Zu hP]at s2;omega)⟩
theorem ZjZ (hT:Zl ns T) {q p e:Nat} (hq:q<ns.length) (hp:p<ns.length) (h:nth T q=e) (k:nth T p=e) (h1:q<e) (k1:p<e):q=p:=by
 obtain⟨he,a1,a2,a3,a4⟩:=Zdv hT hq h h1
 obtain⟨_,b1,b2,b3,b4⟩:=Zdv hT hp k k1
 have c1:=(ZC hT hq)
 have c2:=(ZC hT hp)
 rcases Nat.lt_trichotomy q p with z|z|z
 ·have x:=a3 p z k1
  have y:=b4 q (by rw[<-a1];omega) z
  omega
 ·exact z
 ·have x:=b3 q z h1
  have y:=a4 p (by rw[<-b1];omega) z
  omega
theorem Zi4 (hT:Zl ns T) {q p e:Nat} (hq:q<ns.length) (hp:p<ns.length) (h:nth T q=e) (k:nth T p=e) (h1:e<q) (k1:e<p):q=p:=by
 obtain⟨a1,a2,a3,a4⟩:=ZcM hT hq h h1
 obtain⟨b1,b2,b3,b4⟩:=ZcM hT hp k k1
 have c1:=(ZC hT hq)
 have c2:=(ZC hT hp)
 rcases Nat.lt_trichotomy q p with z|z|z
 ·have x:=a4 p z (by rw[<-b2];omega)
  have y:=b3 q h1 z
  omega
 ·exact z
 ·have x:=b4 q z (by rw[<-a2];omega)
  have y:=a3 p k1 z
  omega
theorem Zj0 (hT:Zl ns T) {p:Nat} (hp:p<ns.length) (h:0<Zx (nth ns) p):∃q,q<p/\nth T q=p:=by
 obtain⟨c1,_,c3,_⟩:=ZC hT hp
 obtain⟨h1,_⟩:=ZX (hT.2 p hp)
 generalize hs:Zx (nth ns) p=s at *
 have hL:=ZfZ (nth ns) (p-s) (s-1)
 generalize Zhw (nth ns) (p-s) (s-1)=q at hL
 obtain⟨l1,l2,l3,l4⟩:=hL
 have hqp:q<p:=by omega
 have big:∀r,p-s<=r->r<p->nth ns p<nth ns r:=λr r1 r2=>by
  rcases h1 with h1|⟨x,h1⟩
  ·exact h1 r r2
  ·rw[Zt h1]at c1;exact h1.2.2 r (by omega) r2
 have hN:ZI (nth ns) ns.length q p:=⟨hqp,hp,big q l1 hqp,λr r1 r2=>l4 r r1 (by omega)⟩
 refine⟨q,hqp,?_⟩
 refine Zp.unique (hT.2 q (by omega)) ?_
 rcases h1 with h1|⟨x,h1⟩
 ·rw[Z6 h1]at c1
  exact .inr (.inr (.inl ⟨p,λr r1=>l3 r (by omega) r1,hN,rfl⟩))
 ·have hx:=c1
  rw[Zt h1]at hx
  refine .inr (.inr (.inr ⟨x,p,⟨by omega,?_,λr r1 r2=>l3 r (by omega) r2⟩,hN,by rw[Yc h1.2.1]⟩))
  have:=h1.2.1;have:=big q l1 hqp;omega
theorem Zi5 (hT:Zl ns T) {p:Nat} (hp:p<ns.length) (h:0<ZT (nth ns) ns.length p):∃q,p<q/\q<ns.length/\nth T q=p:=by
 obtain⟨_,c1,_,c3⟩:=ZC hT hp
 obtain⟨_,h1⟩:=ZX (hT.2 p hp)
 generalize hs:ZT (nth ns) ns.length p=s at *
 have hL:=ZfZ (nth ns) (p+1) (s-1)
 generalize Zhw (nth ns) (p+1) (s-1)=q at hL
 obtain⟨l1,l2,l3,l4⟩:=hL
 have hqp:p<q:=by omega
 have big:∀r,p<r->r<=p+s->nth ns p<=nth ns r:=λr r1 r2=>by
  rcases h1 with h1|⟨x,h1⟩
  ·exact h1 r r1 (by omega)
  ·rw[Zu h1]at c1;exact h1.2.2.2 r r1 (by omega)
 have hN:ZJ (nth ns) q p:=⟨hqp,big q hqp (by omega),λr r1 r2=>l3 r (by omega) r2⟩
 refine⟨q,hqp,by omega,?_⟩
 refine Zp.unique (hT.2 q (by omega)) ?_
 rcases h1 with h1|⟨x,h1⟩
 ·rw[ZW h1]at c1
  exact .inr (.inl ⟨p,hN,λr r1 r2=>l4 r r1 (by omega),rfl⟩)
 ·have hx:=c1
  rw[Zu h1]at hx
  have g:=h1.2.2.1
  refine .inr (.inr (.inr ⟨p,x,hN,⟨by omega,h1.2.1,?_,λr r1 r2=>l4 r r1 (by omega)⟩,by rw[Yb (by omega)]⟩))
  have:=big q hqp (by omega);omega
open Classical in
noncomputable def lvN (ns T:List Int) (D:Nat->Prop) (p:Nat):Nat:=if ∃q,q<p/\nth T q=p/\D q then Zx (nth ns) p else 0
open Classical in
noncomputable def rvN (ns T:List Int) (D:Nat->Prop) (p:Nat):Nat:=if ∃q,p<q/\q<ns.length/\nth T q=p/\D q then ZT (nth ns) ns.length p else 0
noncomputable def OrdI (ns T:List Int) (D:Nat->Prop) (mv:Nat->Nat):Prop:=∀p,p<ns.length ->
 (D p->mv p*prodF (szN (nth ns) ns.length) (p-Zx (nth ns) p) (Zx (nth ns) p+1+ZT (nth ns) ns.length p)=Zq (szN (nth ns) ns.length p)) /\
 (¬ D p->mv p*(prodF (szN (nth ns) ns.length) (p-lvN ns T D p) (lvN ns T D p)*prodF (szN (nth ns) ns.length) (p+1) (rvN ns T D p))=Zq (lvN ns T D p)*Zq (rvN ns T D p))
theorem OrdI.none (ns T:List Int) {D:Nat->Prop} (h:∀p,p<ns.length->¬ D p) (hT:Zl ns T):(∀p,p<ns.length->lvN ns T D p=0/\rvN ns T D p=0)/\OrdI ns T D (λ_=>1):=by
 have h0:∀p,p<ns.length->lvN ns T D p=0/\rvN ns T D p=0:=λp hp=>by
  unfold lvN rvN
  rw[Yb (λ⟨q,q1,_,q3⟩=>h q (by omega) q3),Yb (λ⟨q,_,q1,_,q3⟩=>h q q1 q3)]
  exact⟨rfl,rfl⟩
 refine⟨h0,λp hp=>⟨λd=>absurd d (h p hp),λ_=>?_⟩⟩
 rw[(h0 p hp).1,(h0 p hp).2]
 rfl
theorem Zim (hT:Zl ns T) {D:Nat->Prop}{p:Nat} (hp:p<ns.length) (hD:∀q,q<ns.length->nth T q=p->D q):lvN ns T D p=Zx (nth ns) p/\rvN ns T D p=ZT (nth ns) ns.length p:=by
 unfold lvN rvN
 constructor
 ·by_cases z:0<Zx (nth ns) p
  ·obtain⟨q,q1,q2⟩:=Zj0 hT hp z
   rw[Yc ⟨q,q1,q2,hD q (by omega) q2⟩]
  ·have:Zx (nth ns) p=0:=by omega
   rw[this];simp
 ·by_cases z:0<ZT (nth ns) ns.length p
  ·obtain⟨q,q1,q0,q2⟩:=Zi5 hT hp z
   rw[Yc ⟨q,q1,q0,q2,hD q q0 q2⟩]
  ·have:ZT (nth ns) ns.length p=0:=by omega
   rw[this];simp
noncomputable def Zaf (D:Nat->Prop) (p:Nat):Nat->Prop:=λq=>D q\/q=p
theorem Zin (hT:Zl ns T) {D:Nat->Prop}{p:Nat} (hp:p<ns.length) (hnD:¬ D p) (e:Nat) (he:e<ns.length) :
  (lvN ns T (Zaf D p) e=if nth T p=e/\p<e then szN (nth ns) ns.length p else lvN ns T D e)/\(rvN ns T (Zaf D p) e=if nth T p=e/\e<p then szN (nth ns) ns.length p else rvN ns T D e)/\(nth T p=e->p<e->lvN ns T D e=0/\Zx (nth ns) e=szN (nth ns) ns.length p/\e-Zx (nth ns) e=p-Zx (nth ns) p)/\(nth T p=e->e<p->rvN ns T D e=0/\ZT (nth ns) ns.length e=szN (nth ns) ns.length p/\p-Zx (nth ns) p=e+1):=by
 have cp:=ZC hT hp
 have ce:=ZC hT he
 refine⟨?_,?_,?_,?_⟩
 ·unfold lvN
  by_cases z:nth T p=e/\p<e
  ·rw[Yc z,Yc ⟨p,z.2,z.1,.inr rfl⟩]
   obtain⟨_,a1,a2,_⟩:=Zdv hT hp z.1 z.2
   unfold szN;rw[a2]at cp;omega
  ·rw[Yb z]
   have:(∃q,q<e/\nth T q=e/\Zaf D p q)↔∃q,q<e/\nth T q=e/\D q:=⟨λ⟨q,q1,q2,q3⟩=>⟨q,q1,q2,q3.resolve_right λy=>z ⟨by rw[<-y];exact q2,by omega⟩⟩,λ⟨q,q1,q2,q3⟩=>⟨q,q1,q2,.inl q3⟩⟩
   by_cases y:∃q,q<e/\nth T q=e/\D q
   ·rw[Yc y,Yc (this.mpr y)]
   ·rw[Yb y,Yb (λx=>y (this.mp x))]
 ·unfold rvN
  by_cases z:nth T p=e/\e<p
  ·rw[Yc z,Yc ⟨p,z.2,hp,z.1,.inr rfl⟩]
   obtain⟨a1,a2,_⟩:=ZcM hT hp z.1 z.2
   unfold szN;rw[a1,a2]at cp;omega
  ·rw[Yb z]
   have:(∃q,e<q/\q<ns.length/\nth T q=e/\Zaf D p q)↔∃q,e<q/\q<ns.length/\nth T q=e/\D q:=⟨λ⟨q,q1,q0,q2,q3⟩=>⟨q,q1,q0,q2,q3.resolve_right λy=>z ⟨by rw[<-y];exact q2,by omega⟩⟩,λ⟨q,q1,q0,q2,q3⟩=>⟨q,q1,q0,q2,.inl q3⟩⟩
   by_cases y:∃q,e<q/\q<ns.length/\nth T q=e/\D q
   ·rw[Yc y,Yc (this.mpr y)]
   ·rw[Yb y,Yb (λx=>y (this.mp x))]
 ·intro z1 z2
  obtain⟨_,a1,a2,_⟩:=Zdv hT hp z1 z2
  refine⟨?_,?_,?_⟩
  ·unfold lvN
   rw[Yb (λ⟨q,q1,q2,q3⟩=>hnD (ZjZ hT (by omega) hp q2 z1 q1 z2▸q3))]
  ·unfold szN;rw[a1,a2]at cp;omega
  ·rw[a1,a2]at cp;omega
 ·intro z1 z2
  obtain⟨a1,a2,_⟩:=ZcM hT hp z1 z2
  refine⟨?_,?_,?_⟩
  ·unfold rvN
   rw[Yb (λ⟨q,q1,q0,q2,q3⟩=>hnD (Zi4 hT q0 hp q2 z1 q1 z2▸q3))]
  ·unfold szN;rw[a1,a2]at cp;omega
  ·rw[a1,a2]at cp;omega
theorem OrdI.step (hT:Zl ns T) {D:Nat->Prop}{mv:Nat->Nat}{p:Nat} (hp:p<ns.length) (hnD:¬ D p) (hD:∀q,q<ns.length->nth T q=p->D q) (hE:∀e:Nat,nth T p=e->¬ D e/\e≠p) (h:OrdI ns T D mv) :
  OrdI ns T (Zaf D p) (λq=>if q=p then mv p*chN (Zx (nth ns) p) (ZT (nth ns) ns.length p)else if nth T p=q then mv q*(mv p*chN (Zx (nth ns) p) (ZT (nth ns) ns.length p))else mv q):=by
 have cp:=ZC hT hp
 have hme:=(h p hp).2 hnD
 obtain⟨f1,f2⟩:=Zim hT hp hD
 rw[f1,f2]at hme
 have hM:mv p*chN (Zx (nth ns) p) (ZT (nth ns) ns.length p)*prodF (szN (nth ns) ns.length) (p-Zx (nth ns) p) (Zx (nth ns) p+1+ZT (nth ns) ns.length p)=Zq (szN (nth ns) ns.length p):=by
  rw[Zcd,Zcd]
  have e1:p-Zx (nth ns) p+Zx (nth ns) p=p:=by omega
  have e2:p-Zx (nth ns) p+(Zx (nth ns) p+1)=p+1:=by omega
  rw[e1,e2]
  have e3:prodF (szN (nth ns) ns.length) p 1=szN (nth ns) ns.length p:=by simp[prodF]
  have e4:Zq (szN (nth ns) ns.length p)=szN (nth ns) ns.length p*Zq (Zx (nth ns) p+ZT (nth ns) ns.length p):=rfl
  rw[e3,e4,<-Zen _ (Zx (nth ns) p) (ZT (nth ns) ns.length p) rfl,<-hme]
  ac_rfl
 generalize mv p*chN (Zx (nth ns) p) (ZT (nth ns) ns.length p)=M at hM
 intro q hq
 by_cases zq:q=p
 ·subst zq
  refine⟨λ_=>?_,λz=>absurd (.inr rfl) z⟩
  dsimp only
  rw[Yc rfl]
  exact hM
 ·obtain⟨v1,v2,v3,v4⟩:=Zin hT hp hnD q hq
  refine⟨λd=>?_,λd=>?_⟩
  ·have d':D q:=d.resolve_right zq
   dsimp only
   rw[Yb zq,Yb (λy=>(hE q y).1 d')]
   exact(h q hq).1 d'
  ·have d':¬ D q:=λy=>d (.inl y)
   have old:=(h q hq).2 d'
   dsimp only
   rw[Yb zq,v1,v2]
   by_cases y:nth T p=q
   ·rw[Yc y]
    by_cases c:p<q
    ·obtain⟨w1,w2,w3⟩:=v3 y c
     rw[Yc ⟨y,c⟩,Yb (by omega)]
     rw[w1]at old
     rw[w2]at w3
     rw[w3]
     have e1:Zq 0=1:=rfl
     have e2:prodF (szN (nth ns) ns.length) (q-0) 0=1:=rfl
     rw[e1,e2,Nat.one_mul,Nat.one_mul]at old
     rw[<-old,<-hM]
     have e3:Zx (nth ns) p+1+ZT (nth ns) ns.length p=szN (nth ns) ns.length p:=by unfold szN;omega
     rw[e3]
     ac_rfl
    ·have c':q<p:=by omega
     obtain⟨w1,w2,w3⟩:=v4 y c'
     rw[Yb (by omega),Yc ⟨y,c'⟩]
     rw[w1]at old
     have e1:Zq 0=1:=rfl
     have e2:prodF (szN (nth ns) ns.length) (q+1) 0=1:=rfl
     rw[e1,e2,Nat.mul_one,Nat.mul_one]at old
     rw[<-old,<-hM]
     have e3:Zx (nth ns) p+1+ZT (nth ns) ns.length p=szN (nth ns) ns.length p:=by unfold szN;omega
     rw[e3,w3]
     ac_rfl
   ·rw[Yb y,Yb (λz=>y z.1),Yb (λz=>y z.1)]
    exact old
theorem OrdI.top (hT:Zl ns T) {D:Nat->Prop}{mv:Nat->Nat}{p:Nat} (hp:p<ns.length) (h:nth T p=-1) (hD:D p) (k:OrdI ns T D mv):mv p=Zq ns.length / prodF (szN (nth ns) ns.length) 0 ns.length:=by
 have x:=(k p hp).1 hD
 have cp:=ZC hT hp
 have hE:=hT.2 p hp
 rw[show T.getD p 0=-1 from h]at hE
 have:ZaL (nth ns) p/\Zao (nth ns) ns.length p:=by
  rcases hE with⟨h1,h2,_⟩|⟨x,_,_,z⟩|⟨r,_,_,z⟩|⟨x,r,_,_,z⟩
  ·exact⟨h1,h2⟩
  ·omega
  ·omega
  ·split at z<;>omega
 rw[Z6 this.1,ZW this.2]at cp
 have e1:p-Zx (nth ns) p=0:=by omega
 have e2:Zx (nth ns) p+1+ZT (nth ns) ns.length p=ns.length:=by omega
 have e3:szN (nth ns) ns.length p=ns.length:=by unfold szN;omega
 rw[e1,e2,e3]at x
 rw[<-x,Nat.mul_div_cancel]
 exact ZaN 0 _ λi _=>by unfold szN;omega
end
noncomputable def Zce (m:Nat) (row:List Int) (i:Nat):List Int:=row.take i++[(m:Int)]++row.drop i
noncomputable def Z4:Nat->List (List Int)
 |0=>[[]]
 |m+1=>(Z4 m).flatMap λrow=>(List.range (m+1)).map λi=>Zce m row i
theorem ZbH:∀m,∀r∈Z4 m,r.length=m
 |0,r,h=>by simp[Z4]at h;simp[h]
 |m+1,r,h=>by
  simp only[Z4,List.mem_flatMap,YR,YH]at h
  obtain⟨x,h1,i,h2,rfl⟩:=h
  have:=ZbH m x h1
  simp[Zce];omega
noncomputable def prC (f:Nat->Int) (p:Nat):Nat->Int
 |0=>-1
 |q+1=>if f q<=f p then (q:Int)else prC f p q
noncomputable def nxC (f:Nat->Int) (n p:Nat):Nat->Int
 |0=>n
 |c+1=>if f (n-(c+1))<f p then ((n-(c+1):Nat):Int)else nxC f n p c
theorem Zj1 (f:Nat->Int) (p:Nat):∀q,q<=p->(∀r,q<=r->r<p->f p<f r)->ZaI f p=prC f p q
 |0,_,h=>Z6 λr hr=>h r (by omega) hr
 |q+1,hq,h=>by
  unfold prC
  by_cases c:f q<=f p
  ·rw[Yc c];exact Zt ⟨by omega,c,λr r1 r2=>h r (by omega) r2⟩
  ·rw[Yb c]
   exact Zj1 f p q (by omega) λr r1 r2=>by
    by_cases e:r=q
    ·subst e;omega
    ·exact h r (by omega) r2
theorem Zj2 (f:Nat->Int) (n p:Nat):∀c,c+p<n->(∀r,p<r->r<n-c->f p<=f r)->ZaM f n p=nxC f n p c
 |0,_,h=>ZW λr r1 r2=>h r r1 (by omega)
 |c+1,hq,h=>by
  unfold nxC
  by_cases z:f (n-(c+1))<f p
  ·rw[Yc z];exact Zu ⟨by omega,by omega,z,λr r1 r2=>h r r1 (by omega)⟩
  ·rw[Yb z]
   exact Zj2 f n p c (by omega) λr r1 r2=>by
    by_cases e:r=n-(c+1)
    ·subst e;omega
    ·exact h r r1 (by omega)
noncomputable def elC (f:Nat->Int) (n p:Nat):Int :=
 let a:=prC f p p
 let b:=nxC f n p (n-(p+1))
 if a<0 then (if b<n then b else -1)else if b<n then (if f a.toNat<=f b.toNat then b else a)else a
noncomputable def szC (f:Nat->Int) (n p:Nat):Nat:=(nxC f n p (n-(p+1))-prC f p p-1).toNat
noncomputable def ZaY (r:List Int):List Int:=(List.range r.length).map (elC (nth r) r.length)
theorem Zio (f:Nat->Int) {n p:Nat} (hp:p<n):ZaM f n p=nxC f n p (n-(p+1)):=Zj2 f n p _ (by omega) λr r1 r2=>by omega
theorem Ziq (f:Nat->Int) (p:Nat):ZaI f p=prC f p p:=Zj1 f p p (Ye _) λr r1 r2=>by omega
theorem ZgN (f:Nat->Int) {n p:Nat} (hp:p<n):∃e,Zp f n p e:=⟨_,ZdX hp⟩
theorem elC_is (f:Nat->Int) {n p:Nat} (hp:p<n):Zp f n p (elC f n p):=by
 unfold elC
 rw[<-Zio f hp,<-Ziq f p]
 obtain⟨e,he⟩:=ZgN f hp
 obtain⟨h1,h2⟩:=ZX he
 rcases h1 with h1|⟨q,h1⟩<;>rcases h2 with h2|⟨r,h2⟩
 ·rw[Z6 h1,ZW h2];exact .inl ⟨h1,h2,by simp⟩
 ·rw[Z6 h1,Zu h2]
  have:=h2.2.1
  exact .inr (.inr (.inl ⟨r,h1,h2,by dsimp only;rw[Yc (by omega),Yc (by omega)]⟩))
 ·rw[Zt h1,ZW h2];exact .inr (.inl ⟨q,h1,h2,by dsimp only;rw[Yb (by omega),Yb (by omega)]⟩)
 ·rw[Zt h1,Zu h2]
  have:=h2.2.1
  exact .inr (.inr (.inr ⟨q,r,h1,h2,by dsimp only;rw[Yb (by omega),Yc (by omega)];simp⟩))
theorem ZeL (r:List Int):Zl r (ZaY r):=⟨by simp[ZaY],λp hp=>by
 have:(ZaY r).getD p 0=elC (nth r) r.length p:=by simp[ZaY,Yu,hp]
 rw[this];exact elC_is _ hp⟩
theorem szC_is {r:List Int}{p:Nat} (hp:p<r.length):szN (nth r) r.length p=szC (nth r) r.length p:=by
 have:=ZC (ZeL r) hp
 unfold szC szN
 rw[<-Zio _ hp,<-Ziq]
 omega
noncomputable def ZdL (f g:Nat->Int) (n:Nat):Prop:=∀p q,p<q->q<n->(f p<=f q↔g p<=g q)
theorem ZdL.prev {f g:Nat->Int}{n p q:Nat} (h:ZdL f g n) (hp:p<n) (k:ZJ f p q):ZJ g p q :=
 ⟨k.1,(h q p k.1 hp).mp k.2.1,λr r1 r2=>by have:=k.2.2 r r1 r2;have:=h r p r2 hp;omega⟩
theorem ZdL.Zf2 {f g:Nat->Int}{n p:Nat} (h:ZdL f g n) (hp:p<n) (k:ZaL f p):ZaL g p:=λr r2=>by
 have:=k r r2;have:=h r p r2 hp;omega
theorem ZdL.next {f g:Nat->Int}{n p q:Nat} (h:ZdL f g n) (k:ZI f n p q):ZI g n p q :=
 ⟨k.1,k.2.1,by have:=k.2.2.1;have:=h p q k.1 k.2.1;omega,λs s1 s2=>(h p s s1 (by have:=k.2.1;omega)).mp (k.2.2.2 s s1 s2)⟩
theorem ZdL.Zf3 {f g:Nat->Int}{n p:Nat} (h:ZdL f g n) (k:Zao f n p):Zao g n p:=λr r1 r2=>(h p r r1 r2).mp (k r r1 r2)
theorem ZdL.Zir {f g:Nat->Int}{n p:Nat}{e:Int} (h:ZdL f g n) (hp:p<n) (k:Zp f n p e):Zp g n p e:=by
 rcases k with⟨k1,k2,z⟩|⟨q,k1,k2,z⟩|⟨r,k1,k2,z⟩|⟨q,r,k1,k2,z⟩
 ·exact .inl ⟨h.Zf2 hp k1,h.Zf3 k2,z⟩
 ·exact .inr (.inl ⟨q,h.prev hp k1,h.Zf3 k2,z⟩)
 ·exact .inr (.inr (.inl ⟨r,h.Zf2 hp k1,h.next k2,z⟩))
 ·refine .inr (.inr (.inr ⟨q,r,h.prev hp k1,h.next k2,?_⟩))
  have x:=h q r (by have:=k1.1;have:=k2.1;omega) k2.2.1
  by_cases c:f q<=f r
  ·rw[Yc c]at z;rw[Yc (x.mp c)];exact z
  ·rw[Yb c]at z;rw[Yb (λy=>c (x.mpr y))];exact z
theorem ZdL.sz {f g:Nat->Int}{n p:Nat} (h:ZdL f g n) (hp:p<n):szN f n p=szN g n p:=by
 obtain⟨e,he⟩:=ZgN f hp
 obtain⟨h1,h2⟩:=ZX he
 unfold szN Zx ZT
 rcases h1 with h1|⟨q,h1⟩<;>rcases h2 with h2|⟨r,h2⟩
 ·rw[Z6 h1,ZW h2,Z6 (h.Zf2 hp h1),ZW (h.Zf3 h2)]
 ·rw[Z6 h1,Zu h2,Z6 (h.Zf2 hp h1),Zu (h.next h2)]
 ·rw[Zt h1,ZW h2,Zt (h.prev hp h1),ZW (h.Zf3 h2)]
 ·rw[Zt h1,Zu h2,Zt (h.prev hp h1),Zu (h.next h2)]
theorem ZeM (f:Nat->Int):∀n,∃g,g<=n/\(∀p,p<g->f p<=f g)/\∀p,g<p->p<=n->f p<f g
 |0=>⟨0,by omega,λp h=>by omega,λp h1 h2=>by omega⟩
 |n+1=>by
  obtain⟨g,g1,g2,g3⟩:=ZeM f n
  by_cases c:f g<=f (n+1)
  ·refine⟨n+1,by omega,λp hp=>?_,λp h1 h2=>by omega⟩
   rcases Nat.lt_trichotomy p g with z|z|z
   ·have:=g2 p z;omega
   ·rw[z];exact c
   ·have:=g3 p z (by omega);omega
  ·refine⟨g,by omega,g2,λp h1 h2=>?_⟩
   by_cases e:p=n+1
   ·rw[e];omega
   ·exact g3 p h1 (by omega)
theorem Zf4 (m:Nat) (row:List Int) (i:Nat) (hi:i<=row.length) (p:Nat):nth (Zce m row i) p=if p<i then nth row p else if p=i then (m:Int)else nth row (p-1):=by
 have hl:(row.take i).length=i:=by simp;omega
 unfold Zce nth
 simp only[Yu]
 by_cases c:p<i
 ·rw[Yc c,YG,YO (by omega),List.getElem?_take_of_lt c]
 ·rw[Yb c,YG,YM (by omega),hl]
  by_cases e:p=i
  ·rw[Yc e,e];simp
  ·rw[Yb e,YM (by simp;omega),List.getElem?_drop]
   congr 2;simp;omega
theorem Zf5:∀m,∀r∈Z4 m,∀p,p<m->nth r p<m
 |0,r,h,p,hp=>by omega
 |m+1,r,h,p,hp=>by
  simp only[Z4,List.mem_flatMap,YR,YH]at h
  obtain⟨x,h1,i,h2,rfl⟩:=h
  have hx:=ZbH m x h1
  rw[Zf4 m x i (by omega)]
  split
  ·have:=Zf5 m x h1 p (by omega);omega
  ·split
   ·omega
   ·have:=Zf5 m x h1 (p-1) (by omega);omega
theorem ZgO:∀n (f:Nat->Int),∃r∈Z4 n,ZdL f (nth r) n
 |0,f=>⟨[],by simp[Z4],λp q h1 h2=>by omega⟩
 |n+1,f=>by
  obtain⟨g,g1,g2,g3⟩:=ZeM f n
  obtain⟨r,hr,ho⟩:=ZgO n (λp=>if p<g then f p else f (p+1))
  have hl:=ZbH n r hr
  refine⟨Zce n r g,?_,λp q h1 h2=>?_⟩
  ·simp only[Z4,List.mem_flatMap,YR,YH]
   exact⟨r,hr,g,by omega,rfl⟩
  ·rw[Zf4 n r g (by omega),Zf4 n r g (by omega)]
   have sm:=Zf5 n r hr
   by_cases c1:q<g
   ·have x:=ho p q h1 (by omega)
    dsimp only at x
    rw[Yc (by omega),Yc c1]at x
    rw[Yc (by omega),Yc c1];exact x
   ·by_cases c2:q=g
    ·have x:=g2 p (by omega)
     have y:=sm p (by omega)
     rw[Yc (by omega),Yb c1,Yc c2]
     subst c2
     exact⟨λ_=>by omega,λ_=>x⟩
    ·rw[Yb c1,Yb c2]
     by_cases c3:p<g
     ·rw[Yc c3]
      have x:=ho p (q-1) (by omega) (by omega)
      dsimp only at x
      rw[Yc c3,Yb (by omega),show q-1+1=q by omega]at x
      exact x
     ·rw[Yb c3]
      by_cases c4:p=g
      ·rw[Yc c4]
       have x:=g3 q (by omega) (by omega)
       have y:=sm (q-1) (by omega)
       subst c4
       exact⟨λz=>by omega,λz=>by omega⟩
      ·rw[Yb c4]
       have x:=ho (p-1) (q-1) (by omega) (by omega)
       dsimp only at x
       rw[Yb (by omega),Yb (by omega),show q-1+1=q by omega,show p-1+1=p by omega]at x
       exact x
noncomputable def cntOk (m:Nat):Bool:=let ts:=(Z4 m).map ZaY
 ((Z4 m).all λr=>let t:=ZaY r;Nat.beq ((ts.countP λu=>u==t)*prodF (szC (nth r) m) 0 m) (Zq m))
theorem Zi6:∀m,m<6->cntOk m=true:=by decide +kernel
theorem ZgP {ns T:List Int} (hT:Zl ns T) (h:ns.length<=5):((Z4 ns.length).filter λr=>decide (ZaY r=T)).length=Zq ns.length / prodF (szN (nth ns) ns.length) 0 ns.length:=by
 obtain⟨r,hr,ho⟩:=ZgO ns.length (nth ns)
 have hl:=ZbH _ r hr
 have k:=Zi6 ns.length (by omega)
 unfold cntOk at k
 have k1:=List.all_eq_true.mp k r hr
 have k2:=Nat.eq_of_beq_eq_true k1
 have eT:ZaY r=T:=by
  refine Zl.unique (ZeL r) ⟨by rw[hT.1,hl],λp hp=>?_⟩
  rw[hl]at hp⊢
  exact ho.Zir hp (hT.2 p hp)
 have eS:prodF (szN (nth ns) ns.length) 0 ns.length=prodF (szC (nth r) ns.length) 0 ns.length:=Zfx 0 _ λi hi=>by
  rw[ho.sz (by omega)]
  have:=szC_is (r:=r) (p:=0+i) (by omega)
  rw[hl]at this;exact this
 rw[eT,List.countP_map,<-eS]at k2
 have e3:((Z4 ns.length).filter λr=>decide (ZaY r=T)).length=(Z4 ns.length).countP ((λu=>u==T) ∘ ZaY):=by
  rw[List.countP_eq_length_filter]
  congr 1
  refine List.filter_congr λx _=>?_
  show decide (ZaY x=T)=(ZaY x==T)
  by_cases y:ZaY x=T<;>simp[y]
 rw[e3,<-k2,Nat.mul_div_cancel]
 exact ZaN 0 _ λi _=>by unfold szN;omega
theorem ZbI:∀{b a:Nat},a<=b->Zq a<=Zq b
 |0,a,h=>by
  obtain rfl:a=0:=by omega
  exact Ye _
 |b+1,a,h=>by
  by_cases e:a=b+1
  ·rw[e];exact Ye _
  ·exact Yj (ZbI (b:=b) (by omega)) (Nat.le_mul_of_pos_left _ (by omega))
theorem fac40:Zq 40*Zq 40<2 ^ 400:=by decide +kernel
theorem Zj3 {a b:Nat} (ha:a<2 ^ 400) (hb:b<2 ^ 400):IntMulOk (a:Int) (b:Int) :=
 ZfW (Yj ((intBits_le_iff (m:=400)).mpr ha) (by decide)) (Yj ((intBits_le_iff (m:=400)).mpr hb) (by decide))
theorem Zi7 {p q:Nat} (h:p+q<=40):chN p q<2 ^ 400:=by
 have h1:=Zen _ p q rfl
 have h2:chN p q<=Zq (p+q):=by rw[<-h1];exact Nat.le_mul_of_pos_right _ (Nat.mul_pos (Zba p) (Zba q))
 have h3:=ZbI h
 have h4:Zq 40<=Zq 40*Zq 40:=Nat.le_mul_of_pos_right _ (Zba 40)
 exact Yx (Yj h2 (Yj h3 h4)) fac40
theorem Zeo (f:Nat->Int) (n p:Nat):0<szN f n p:=by unfold szN;omega
theorem OrdI.small {ns T:List Int}{D:Nat->Prop}{mv:Nat->Nat}{p:Nat} (hT:Zl ns T) (h40:ns.length<=40) (h:OrdI ns T D mv) (hp:p<ns.length):mv p<2 ^ 400:=by
 have cp:=ZC hT hp
 have h4:Zq 40<=Zq 40*Zq 40:=Nat.le_mul_of_pos_right _ (Zba 40)
 refine Yx ?_ fac40
 by_cases d:D p
 ·have x:=(h p hp).1 d
  have:mv p<=Zq (szN (nth ns) ns.length p):=by rw[<-x];exact Nat.le_mul_of_pos_right _ (ZaN _ _ λi _=>Zeo _ _ _)
  have y:=ZbI (b:=40) (a:=szN (nth ns) ns.length p) (by unfold szN;omega)
  omega
 ·have x:=(h p hp).2 d
  have l1:lvN ns T D p<=40:=by unfold lvN;split<;>omega
  have l2:rvN ns T D p<=40:=by unfold rvN;split<;>omega
  have:mv p<=Zq (lvN ns T D p)*Zq (rvN ns T D p):=by rw[<-x];exact Nat.le_mul_of_pos_right _ (Nat.mul_pos (ZaN _ _ λi _=>Zeo _ _ _) (ZaN _ _ λi _=>Zeo _ _ _))
  exact Yj this (Nat.mul_le_mul (ZbI l1) (ZbI l2))
theorem ZgQ {ns T:List Int} (hT:Zl ns T) (h40:ns.length<=40):0<prodF (szN (nth ns) ns.length) 0 ns.length/\prodF (szN (nth ns) ns.length) 0 ns.length<2 ^ 1000:=by
 refine⟨ZaN 0 _ λi _=>Zeo _ _ _,?_⟩
 have h1:=ZgM (g:=szN (nth ns) ns.length) 0 40 ns.length λi hi=>by
  have cp:=ZC hT (p:=0+i) (by omega)
  unfold szN;omega
 have h2:40 ^ ns.length<=40 ^ 40:=Nat.pow_le_pow_right (by decide) h40
 have h3:40 ^ 40<2 ^ 1000:=by decide +kernel
 omega
theorem loopQ {K:Frag}{r:Addr}{H H1:Hp}{xs:List V}{g:TG}{tb:TS}{D:Ends}{σ:St} (hr:SqL K H r xs\/SqT K H r xs) (s1:Zf H H1)
  (key:∀J:It,(∀i Hx,Zf H Hx->i<xs.length->J.go i Hx)->(∀Hx,Zf H Hx->J.stop xs.length Hx)->(∀i Hx x Hx',Zf H Hx->J.yld i Hx x Hx'->∃q y,Hx q=none/\x=.ref q/\Hx'=upd Hx q (.tup [.int i,y])/\xs[i]?=some y)->Zgz J g tb D σ H1) :
  SqL K H1 r xs/\Zgz (Ite K r) g tb D σ H1\/SqT K H1 r xs/\Zgz (IteT K r) g tb D σ H1:=by
 rcases hr with hr|hr
 ·refine .inl ⟨s1.seq hr,key _ (λi Hx s hi=>⟨_,_,s.seq hr,Yf hi⟩) (λHx s=>⟨_,s.seq hr,rfl⟩) λi Hx x Hx' s ⟨q,y,h1,h2,h3,h4⟩=>⟨q,y,h1,h2,h3,h4 _ (s.seq hr)⟩⟩
 ·refine .inr ⟨s1.Zan hr,key _ (λi Hx s hi=>⟨_,_,s.Zan hr,Yf hi⟩) (λHx s=>⟨_,s.Zan hr,rfl⟩) λi Hx x Hx' s ⟨q,y,h1,h2,h3,h4⟩=>⟨q,y,h1,h2,h3,h4 _ (s.Zan hr)⟩⟩
end L2
namespace L2
open PySem PySem.Spec PyProof.Rows PySem.W PyProof
theorem Ze9 (l:Addr) (items:Array Value) (n:Nat) (dd:Option Addr) (sl:Array (Option Value)) (x:Value) (e:Value->Bool) (j:Nat) (hj:j<items.size)
  (hit:e items[j]=true) (hno:∀m (hm:m<items.size),m<j->e items[m]=false) :
  Meets (Builtin.«tuple.index» ⟨[.ref l,x],[]⟩)
   (λA R s=>s.heap.get? l=some {cls:=.type "tuple",dict:=dd,data:=.seq items n,slots:=sl}/\(∀y,y∈items->SeqAt.EqAt A.in1 s y x (e y))/\R (.ok (.ret (.int j s.toks))) {s with toks:=s.toks+1}) :=
 .of_wp λprog w A R s h=>by
  obtain⟨hp,g,d,tk,os⟩:=s;obtain⟨hl,he,h⟩:=h
  unfold Builtin.«tuple.index»
  simp only[Std.Legacy.Range.forIn_eq_forIn_range',Std.Legacy.Range.size,Nat.sub_zero,Nat.add_sub_cancel,Nat.div_one]
  wp_walk using wpAny_loadPart' hl,wpAny_forIn_list _ (λrest b s'=>b.1=none/\s'=⟨hp,g,d,tk,os⟩/\∃i,rest=List.range' i (items.size-i)/\i<=j) _
  case turn =>
   rintro y rest b s' ⟨hb,rfl,i,hr,hi⟩
   have hlt:i<items.size:=by omega
   obtain⟨rfl,hrest⟩:y=i/\rest=List.range' (i+1) (items.size-(i+1)):=by
    have e:items.size-i=(items.size-(i+1))+1:=by omega
    rw[e,List.range'_succ]at hr
    injection hr with h1 h2
    exact⟨h1,h2⟩
   rw[Array.getElem?_eq_getElem hlt]
   refine Ya (he items[y] (Array.getElem_mem hlt) prog w _ _ ?_)
   by_cases c:y=j
   ·subst c
    rw[hit]
    wp_walk
    exact⟨_,rfl,h⟩
   ·rw[hno y hlt (by omega)]
    wp_walk
    exact⟨rfl,rfl,y+1,hrest,by omega⟩
  case fin =>
   rintro⟨b1,b2⟩ s' ⟨hb,rfl,i,hr,hi⟩
   have e:items.size-i=(items.size-(i+1))+1:=by omega
   rw[e,List.range'_succ]at hr
   cases hr
  case h =>
   exact⟨rfl,rfl,0,by simp,Ym _⟩
section
variable {X:Cx}
noncomputable def Zf6 (K:Frag):V->List V->Hp->VK->Prop:=λx vs H Q=>∃(l:Addr) (ns:List Int) (k:Int),x=.ref l/\vs=[.int k]/\SqT K H l (ns.map V.int)/\k∈ns/\Q (.int (ns.idxOf k:Nat)) H
theorem Zi8 {K:Frag} (hK:X.K=K):MtM X "tuple.index" (Zf6 K):=by
 subst hK
 intro pins s σ H x vs v us Q I rx rv h
 obtain⟨l,ns,k,rfl,rfl,hH,hk,q⟩:=h
 cases rx
 obtain⟨u,rfl,ru⟩:=rv.one
 obtain⟨t,rfl⟩:=ru
 obtain⟨its,r,pl⟩:=I.tuple hH
 have hi:IntsAre its ns:=intsAre_of r
 have hlen:=r.length
 rw[Yh]at hlen
 obtain⟨⟨cls,dd,data,sl⟩,ho,hc,n,hd⟩:=pl.1
 simp only at hc hd
 subst hc hd
 have hj:ns.idxOf k<ns.length:=List.idxOf_lt_length_iff.mpr hk
 refine call_meets F.slot_tuple_index ⟨_,ho,rfl⟩ F.entry_tuple_index (F.args_tuple_index_2 _ _)
  (Ze9 l its.toArray n dd sl (.int k t) (isInt k) (ns.idxOf k) (by rw[Yk];omega) ?_ ?_) ⟨ho,λy hy=>(eq_isInt k t hi y (by simpa using hy)).at _ _,⟨.int _,H,I.tok _,⟨_,rfl⟩,q⟩⟩
 ·show isInt k its[ns.idxOf k]=true
  rw[isInt_at k hi _ (by omega) hj]
  simpa using List.getElem_idxOf hj
 ·intro j hjs hlt
  show isInt k its[j]=false
  rw[isInt_at k hi j (by simpa using hjs) (by omega)]
  exact ne_of_lt_idxOf hlt _
end
noncomputable def Zel (H:Hp) (t:Addr) (ys:List V):Prop:=∃ob:Obj,ob.dict=none/\H t=some (.frz ob (.tup ys))
theorem Zel.same {H H':Hp}{t:Addr}{ys:List V} (h:Zel H t ys) (s:Zf H H'):Zel H' t ys:=let ⟨ob,d,e⟩:=h;⟨ob,d,s _ _ e⟩
theorem Zel.sq {K:Frag}{H:Hp}{t:Addr}{ys:List V} (h:Zel H t ys):SqT K H t ys:=let ⟨ob,_,e⟩:=h;.inl (.inr ⟨ob,e⟩)
section
variable {X:Cx}
noncomputable def Zj4 (K:Frag):List V->Hp->VK->Prop:=λxs H Q=>∃p ys,xs=[.ref p]/\SqL K H p ys/\∀l H',H l=none->Zf H H'->Zel H' l ys->Q (.ref l) H'
theorem Zi9 {K:Frag} (hK:X.K=K):ZbD X (.type "tuple") (Zj4 K):=by
 subst hK
 intro pins s σ H xs us Q I r h
 obtain⟨p,ys,rfl,hq,q⟩:=h
 obtain⟨u,rfl,rx⟩:=vals1 r
 cases rx
 obtain⟨its,r',pl,hz⟩:=I.list hq
 have hlen:=r'.length
 refine call_tuple_list pl.isList (λh' kp=>?_) (by simp only[Yk]<;>omega)
 have I1:Inv X pins σ H {s with heap:=h'}:=I.kept (t':=s.toks) kp
 have hn:=I1.hok.fresh (Ye h'.objs.size)
 have I2:Inv X pins σ (upd H h'.objs.size (.frz {cls:=.type "tuple",data:=.seq its.toArray} (.tup ys))) {s with heap:=h'.push {cls:=.type "tuple",data:=.seq its.toArray}} :=
  I1.laid (t':=s.toks) (λb o e=>Yi _ e) (Ye _) (show Z8 X.prog X.w _ _ _ (.frz _ (.tup ys))from⟨Yo _ rfl,hz,its,r',IsTup.new _ _⟩)
 exact⟨.ref h'.objs.size,_,I2,rfl,q _ _ hn ((Zf.refl H).upd hn) ⟨_,rfl,Zd⟩⟩
noncomputable def tBMH (r:V->List V->Hp->VK->Prop) (to:TE) (t:TA):TE:=fun σ H Q=>to σ H λx H1=>(∃p xs,x=.ref p/\Zel H1 p xs)/\t σ H1 λxs H2=>r x xs H2 Q
variable {o e:Expr}{es:List Expr}{to:TE}{t:TA}{name:Str}{apos cpos:Pos}{id:String}{r:V->List V->Hp->VK->Prop}
theorem pe_bmH (slot:Slot "tuple" name id) (hty:typeOf (.builtin id)=pure (.type "method_descriptor")) (hm:MtM X id r) (ho:PE X o to) (ha:PA X (e::es) t)
  (hbase:attributeBase o name X.env (eval o X.env)=eval o X.env:=by rfl)
  (hfew:((backTo cpos (starEach (e::es) X.env)).all (λx=>!x.1)&&(backToKw cpos (keywordEach [] X.env)).all (λx=>x.1.isSome)
   && decide ((e::es).length+([]:List Keyword).length+(if ([]:List Keyword).isEmpty then 0 else 1)<30))=true:=by rfl)
  (hline:(apos.endLine==cpos.line)=true:=by rfl) (hs:starEach (e::es) X.env=(false,eval e X.env)::starEach es X.env:=by rfl) (hplain:(backTo cpos (starEach es X.env)).any (·.1)=false:=by rfl) :
  PE X (.Call (.Attribute o name apos) (e::es) [] cpos) (tBMH r to t):=by
 intro pins s σ H Q I h
 refine wpAny_Call_method_late hbase hfew hline rfl (thn (ho pins s σ H _ I h) λv s1 ⟨x,H1,I1,r1,⟨p,xs,ex,ob,hd,hp⟩,q1⟩=>?_)
 subst ex
 cases r1
 obtain⟨e1,_,its,_,ob2,e2,e3,_⟩:=(show Z8 X.prog X.w H1 s1.heap p (.frz ob (.tup xs))from I1.hok p _ hp)
 rw[e1]at e2
 cases e2
 refine⟨"tuple",id,PySem.F.plainAttrs_tuple,slot,hty,⟨ob,e1,e3⟩,(λa z=>by cases z;exact⟨ob,e1,hd⟩),?_⟩
 have hA:=ha cpos pins s1 σ H1 _ I1 q1
 rw[hs]at hA⊢
 refine Calls.callWith_builtin (by show(false||(backTo cpos (starEach es X.env)).any (·.1))=false;rw[hplain]<;>rfl) (Calls.evalArgs_plain ?_)
 exact thn hA λus s2 ⟨vs,H2,I2,r2,q2⟩=>hm pins s2 σ H2 (.ref p) vs (.ref p) us Q I2 rfl r2 q2
end
section
variable {X:Cx}
noncomputable def Zj5 (K:Frag):List V->Hp->VK->Prop:=λxs H Q=>∃p ys v,xs=[.ref p,v]/\cOf v=some (.type "tuple")/\SqT K H p ys/\Q (.bl true) H
theorem Zja {K:Frag} (hK:X.K=K):ZbD X (.builtin "isinstance") (Zj5 K):=by
 subst hK
 intro pins s σ H xs us Q I r h
 obtain⟨p,ys,v,rfl,hc,ht,q⟩:=h
 obtain⟨u,u2,rfl,ru,ru2⟩:=r.two
 have e2:u2=.type "tuple":=by
  cases v with
  |ref a=>cases hc
  |ty n=>have:=(show u2=Value.type n from ru2);cases hc;exact this
  |_=>cases hc
 subst e2
 cases(show u=Value.ref p from ru)
 obtain⟨its,_,⟨o,h1,h2,_⟩,_⟩:=I.tuple ht
 exact kia_one kitx_tuple I.kIn ⟨o,h1,h2⟩ (show kitOne X.K (.type "tuple") (.type "tuple")=some true by with_unfolding_all rfl) (λz=>nomatch z) λtk=>⟨.bl true,H,I.tok tk,rfl,q⟩
end
end L2
namespace K33
open PySem PySem.Spec PyProof.Rows L2
open PySem.W (nsIn mg_of fnOf keepIn codeIn mg_none_of)
local macro_rules | `(tactic| walk_at "rd") => `(tactic| simp only [tIfS, tNot, Zjo, Zjp, rI0, rI, rU, tVar, tC, tB, tAndV, tNotV, Zjs, Zjr, tNil, tAsg, tSeq, tRet, tNext, tOp, tUn, tAnd, tOr, tDrop, Zer, gSub, tAug, tCB, tSl, ZjB, tLst, tTup, L2.start, tYes, gTup, Zjj, gNil, ZbO, Option.join_some, Option.join_none, rEq, rNe, ZkR, ZkS, ZkT, ZkU, ZkV, ZkW, tBM, Bool.true_eq_false, YV, List.map_nil, List.cons_append, List.nil_append, YB, List.length_nil, List.replicate, List.append_nil, List.set_cons_zero, List.set_cons_succ, List.getElem?_cons_zero, List.getElem?_cons_succ, Option.some.injEq, V.int.injEq, V.bl.injEq, V.ref.injEq, List.cons.injEq, and_true, true_and, exists_eq_left, exists_eq_left', exists_and_left, exists_eq, decide_eq_true_eq, Bool.not_eq_true', decide_eq_false_iff_not, cxK, and_assoc, Bool.false_eq_true, ↓reduceIte, ZkQ, ZiK, ZjE, iRng1, iRng2, iList, iTup, rIxL, rIxT, rSetL, rCat, rIsi, rSum, tDelT, rIntB, Zif, rLen, rTof, Zj4, Zj5, tBMH, Zf6, rEqD, rSlQ, ZjO, tMaxD, tMinD, ipM, rIxQ, rSlL, tPart, Zh3, tSl, ipI, Zh7, rRep, ZkX, cOf_ty, Zh8, V.str.injEq, rCatU, rSlV, Zf6, Zj4, Zj5, tBMH, iRngD, ZjT, ZjV])
noncomputable def top (i:Nat):Stmt:=PySem.Challenge.pw_dipkin_k33_orders_counted.main.body.getD i (.Pass ⟨0,0,0,0⟩)
noncomputable abbrev ZbJ:Stmt:=top 5
noncomputable abbrev Za4:Stmt:=top 6
noncomputable abbrev ZbK:Stmt:=top 7
noncomputable abbrev Za5:Stmt:=top 8
noncomputable abbrev Zav:Stmt:=top 9
noncomputable abbrev Zaw:Stmt:=top 10
noncomputable abbrev ZaO:Stmt:=top 12
noncomputable abbrev Z0:Stmt:=top 14
noncomputable abbrev Zax:Stmt:=top 16
noncomputable abbrev Zay:Stmt:=top 17
noncomputable abbrev Z1:Stmt:=top 18
noncomputable abbrev ZaP:Stmt:=top 19
noncomputable abbrev Zaz:Stmt:=top 20
noncomputable abbrev ZaA:Stmt:=top 21
noncomputable abbrev Zac:Stmt:=top 22
noncomputable abbrev ZaB:Stmt:=top 23
noncomputable abbrev ZD:Stmt:=top 24
noncomputable abbrev ZH:Stmt:=top 25
noncomputable abbrev Zdw:Stmt:=top 26
structure Txt (K:PySem.W.Frag) (mg:Str->Option Value):Prop where
 b_bool:mg "bool"=none
 b_enumerate:mg "enumerate"=none
 b_int:mg "int"=none
 b_isinstance:mg "isinstance"=none
 b_len:mg "len"=none
 b_max:mg "max"=none
 b_min:mg "min"=none
 b_range:mg "range"=none
 b_sum:mg "sum"=none
 b_tuple:mg "tuple"=none
 c_DipError:mg "DipError"=some (.ref (clsAt mg "DipError"))
 x_DipError:PySem.W.excIn K (clsAt mg "DipError") bmV newV=true
 c_NoTree:mg "NoTree"=some (.ref (clsAt mg "NoTree"))
 x_NoTree:PySem.W.excIn K (clsAt mg "NoTree") bmV newV=true
 m_MOST_PLACES:mg "MOST_PLACES"=some (.int 40 (tokAt mg "MOST_PLACES"))
noncomputable abbrev SpT:=PySem.W.Frag->(Str->Option Value)->Sp
noncomputable def Zis (K:PySem.W.Frag):Sp:=λvs H Q E=>∃(a:Addr) (ns:List Int),vs=[.ref a]/\SqL K H a (ns.map V.int)/\ns.length<=63/\∀H',Q (.bl true) H'
noncomputable def Zbu:SpT:=λK mg vs H Q E=>∃i:Int,vs=[.int i]/\Q (.bl true) H
noncomputable def ZbS:SpT:=λK mg vs H Q E=>∃cell:Int,vs=[.int cell]/\∀p H',H p=none->Zf H H'->ZN H' p->Q (.ref p) H'
noncomputable def ZaZ:SpT:=λK mg vs H Q E=>∃(p:Addr) (many:Int),vs=[.ref p,.int many]/\0<many/\many<=4000000000/\ZN H p/\∀d H',0<=d->d<many->ZN H' p->Exc p H H'->Q (.int d) H'
noncomputable def Zbb:SpT:=λK mg vs H Q E=>∃(p:Addr) (many:Int),vs=[.ref p,.int many]/\0<=many/\many<=1000/\ZN H p/\∀(r:Addr) (ns:List Int) H',H r=none->(ns.length:Int)=many->H' r=some (.lst (ns.map V.int))->ZN H' p->Exc p H H'->Q (.ref r) H'
noncomputable def Zcf:SpT:=λK mg vs H Q E=>∃(p:Addr) (most:Int),vs=[.ref p,.int most]/\0<=most/\most<=1000/\ZN H p/\∀(r:Addr) (ns:List Int) H',H r=none->(ns.length:Int)<=most->H' r=some (.lst (ns.map V.int))->ZN H' p->Exc p H H'->Q (.ref r) H'
noncomputable def ZbT:SpT:=λK mg vs H Q E=>∃(r:Addr) (ns:List Int),vs=[.ref r]/\(SqL K H r (ns.map V.int)\/SqT K H r (ns.map V.int))/\ns.length<=1000/\∀(t:Addr) (es:List Int) H',H t=none->Zl ns es->Zf H H'->Zel H' t (es.map V.int)->Q (.ref t) H'
noncomputable def ZbU:SpT:=λK mg vs H Q E=>∃(t:Addr) (T:List Int) (p:Nat),vs=[.ref t,.int p]/\SqT K H t (T.map V.int)/\T.length<=1000/\p<T.length/\Za9 T T.length (nth T p)/\∀(w:Addr) H',H w=none->Zf H H'->H' w=some (.lst ((Zc4 T p).map V.int))->Q (.ref w) H'
noncomputable def Zbc:SpT:=λK mg vs H Q E=>∃(t:Addr) (ns T:List Int),vs=[.ref t]/\SqT K H t (T.map V.int)/\Zl ns T/\ns.length<=40/\∀H',Zf H H'->Q (.int ((Zq ns.length / prodF (szN (nth ns) ns.length) 0 ns.length:Nat):Int)) H'
noncomputable def ZbV:SpT:=λK mg vs H Q E=>∃(p q:Nat),vs=[.int p,.int q]/\p<=1000/\q<=1000/\Q (.int (chN p q)) H
noncomputable def Zah:SpT:=λK mg vs H Q E=>∃(t:Addr) (ns T:List Int),vs=[.ref t]/\Zel H t (T.map V.int)/\Zl ns T/\ns.length<=40/\∀H',Zf H H'->Q (.int ((Zq ns.length / prodF (szN (nth ns) ns.length) 0 ns.length:Nat):Int)) H'
noncomputable def Zaq:SpT:=λK mg vs H Q E=>∃(m:Nat),vs=[.int m]/\m<=5/\∀(l:Addr) H',H l=none->Zf H H'->Zap H' l (Z4 m)->Q (.ref l) H'
noncomputable def ZdM:SpT:=λK mg vs H Q E=>∃(el sp:Addr) (es:List Int) (A B:List Nat) (i:Nat),vs=[.ref el,.ref sp,.int i,.int A.length]/\H el=some (.lst (es.map V.int))/\H sp=some (.lst (Zw (A++B)))/\el≠sp/\i<es.length/\(∀q∈A++B,q<es.length)/\(A++B).length<=1000 /\
 ∀H',(∀b o,b≠el->b≠sp->H b=some o->H' b=some o)->H' el=some (.lst ((Zek es A B i).map V.int))->H' sp=some (.lst (Zw (A++[i])))->Q .non H'
noncomputable def Zc7:SpT:=λK mg vs H Q E=>∃(r:Addr) (ns:List Int),vs=[.ref r]/\(SqL K H r (ns.map V.int)\/SqT K H r (ns.map V.int))/\ns.length<=1000/\∀(t:Addr) (es:List Int) H',Zl ns es->Zf H H'->H' t=some (.tup (es.map V.int))->Q (.ref t) H'
noncomputable def ZcN:SpT:=λK mg vs H Q E=>∃(t:Addr) (T:List Int) (p:Nat),vs=[.ref t,.int p]/\SqT K H t (T.map V.int)/\T.length<=1000/\p<T.length/\∀(w:Addr) H',H w=none->Zf H H'->H' w=some (.lst ((Zc4 T p).map V.int))->Q (.ref w) H'
noncomputable def Zc8:SpT:=λK mg vs H Q E=>∃(t:Addr) (T:List Int),vs=[.ref t]/\SqT K H t (T.map V.int)/\T.length<=1000/\(ZgG T->∀H',Zf H H'->Q (.bl true) H')/\(¬ ZgG T->∀H',Zf H H'->Q (.bl false) H')
noncomputable def ZbW:SpT:=λK mg vs H Q E=>∃(t:Addr) (T:List Int),vs=[.ref t]/\SqT K H t (T.map V.int)/\T.length<=1000/\(ZgG T->∀H',Zf H H'->Q .non H')/\(¬ ZgG T->∀H',Zf H H'->E (.ref (clsAt mg "NoTree")) none H')
noncomputable def ZbX:SpT:=λK mg vs H Q E=>∃(t:Addr) (ns T:List Int),vs=[.ref t]/\SqT K H t (T.map V.int)/\Zl ns T/\ns.length<=1000/\∀(l:Addr) H',Zf H H'->Zal H' l ns.length (λp=>(ZaI (nth ns) p,ZaM (nth ns) ns.length p))->Q (.ref l) H'
noncomputable def ZeN (f:Nat->Int) (n:Nat):List (List Int):=(List.range n).map λp=>[ZaI f p+1,ZaM f n p-1]
noncomputable def Zcg:SpT:=λK mg vs H Q E=>∃(t:Addr) (T:List Int),vs=[.ref t]/\SqT K H t (T.map V.int)/\T.length<=1000/\((∃ns:List Int,T.length<=40/\Zl ns T/\∀(l:Addr) H',H l=none->Zf H H'->Zap H' l (ZeN (nth ns) ns.length)->Q (.ref l) H')\/(¬ ZgG T/\∀H',Zf H H'->E (.ref (clsAt mg "NoTree")) none H'))
section
variable {P:Program}{w:World}{K:PySem.W.Frag}{mg:Str->Option Value}{base:Heap}
theorem Zjb:FnScope ["elders","spine","place","keep"] ["elders","spine","place","keep"] (defScope ZbJ):=⟨rfl,rfl,rfl,by decide +kernel,rfl,by decide +kernel,by decide +kernel⟩
theorem ZaQ:FnScope ["row","elders","spine","place","keep"] ["row"] (defScope Za4):=⟨rfl,rfl,rfl,by decide +kernel,rfl,by decide +kernel,by decide +kernel⟩
theorem ZcO:FnScope ["tree","place","way","at"] ["tree","place"] (defScope ZbK):=⟨rfl,rfl,rfl,by decide +kernel,rfl,by decide +kernel,by decide +kernel⟩
theorem ZeO:FnScope ["tree","depths"] ["tree"] (defScope Za5):=⟨rfl,rfl,rfl,by decide +kernel,rfl,by decide +kernel,by decide +kernel⟩
theorem Zf7:FnScope ["tree"] ["tree"] (defScope Zav):=⟨rfl,rfl,rfl,by decide +kernel,rfl,by decide +kernel,by decide +kernel⟩
theorem Zad:FnScope ["tree","fences","place","way","ahead","behind"] ["tree"] (defScope Zaw):=⟨rfl,rfl,rfl,by decide +kernel,rfl,by decide +kernel,by decide +kernel⟩
theorem ZgR:FnScope ["tree"] ["tree"] (defScope ZaO):=⟨rfl,rfl,rfl,by decide +kernel,rfl,by decide +kernel,by decide +kernel⟩
theorem ZF:FnScope ["tree","orders","bound","many","a","b"] ["tree"] (defScope Z0):=⟨rfl,rfl,rfl,by decide +kernel,rfl,by decide +kernel,by decide +kernel⟩
theorem ZY:FnScope ["cell","great","one","k","two"] ["cell"] (defScope Zax):=⟨rfl,rfl,rfl,by decide +kernel,rfl,by decide +kernel,by decide +kernel⟩
theorem Zdx:FnScope ["pot","many","digit"] ["pot","many"] (defScope Zay):=⟨rfl,rfl,rfl,by decide +kernel,rfl,by decide +kernel,by decide +kernel⟩
theorem Zbd:FnScope ["pot","many","order","number"] ["pot","many"] (defScope Z1):=⟨rfl,rfl,rfl,by decide +kernel,rfl,by decide +kernel,by decide +kernel⟩
theorem ZQ:FnScope ["pot","most","many","kind","row","place","few","great"] ["pot","most"] (defScope ZaP):=⟨rfl,rfl,rfl,by decide +kernel,rfl,by decide +kernel,by decide +kernel⟩
theorem ZR:FnScope ["row","elders","place","number","earlier","later","elder"] ["row"] (defScope Zaz):=⟨rfl,rfl,rfl,by decide +kernel,rfl,by decide +kernel,by decide +kernel⟩
theorem Za0:FnScope ["tree","place","over","here"] ["tree","place"] (defScope ZaA):=⟨rfl,rfl,rfl,by decide +kernel,rfl,by decide +kernel,by decide +kernel⟩
theorem Zfa:FnScope ["thing"] ["thing"] (defScope Zac):=⟨rfl,rfl,rfl,by decide +kernel,rfl,by decide +kernel,by decide +kernel⟩
theorem Za1:FnScope ["p","q","many","turn"] ["p","q"] (defScope ZaB):=⟨rfl,rfl,rfl,by decide +kernel,rfl,by decide +kernel,by decide +kernel⟩
theorem Zr:FnScope ["tree","sides","many","ranks","deep","place","elder"] ["tree"] (defScope ZD):=⟨rfl,rfl,rfl,by decide +kernel,rfl,by decide +kernel,by decide +kernel⟩
theorem ZE:FnScope ["many","rows","number","longer","row"] ["many"] (defScope ZH):=⟨rfl,rfl,rfl,by decide +kernel,rfl,by decide +kernel,by decide +kernel⟩
theorem ZdN:FnScope ["script","cell","pot","tree","found","small"] ["script"] (defScope Zdw):=⟨rfl,rfl,rfl,by decide +kernel,rfl,by decide +kernel,by decide +kernel⟩
theorem Zfb {f:Addr}{fd:FuncData} (F:Fun K "_law_whole" "_law_whole" Zac f fd) (T:Txt K mg):FnOk P w K mg base (CXE P w) 1 f fd ["thing"] (Zbu K mg):=by
 refine F.okX Zfa (λvs H Q E h=>?_) (λcdv A outer s H vs Q E hr h=>?_)
 ·obtain⟨n,rfl,_⟩:=h;rfl
 obtain⟨i,rfl,k1⟩:=h
 refine⟨_,(Zh (ZL (pe_and (Zn (Zfn (K:=K) rfl) rfl T.b_isinstance Zbt (Za (pv 0) (Za (ZfH (v:=.ty "int") rfl T.b_int Zhs rfl) Zc))) (pe_one (pe_not (Zn (Zfn (K:=K) rfl) rfl T.b_isinstance Zbt (Za (pv 0) (Za (ZfH (v:=.ty "bool") rfl T.b_bool ZkO rfl) Zc)))))))),?_⟩
 walk_at "rd"
 exact⟨_,ty_ii,iteT ⟨_,ty_ib,k1⟩⟩
theorem Zf8 {f:Addr}{fd:FuncData} (F:Fun K "_law_deal" "_law_deal" Zax f fd) (T:Txt K mg):FnOk P w K mg base (CXE P w) 1 f fd ["cell"] (ZbS K mg):=by
 refine F.okX ZY (λvs H Q E h=>?_) (λcdv A outer s H vs Q E hr h=>?_)
 ·obtain⟨c,rfl,_⟩:=h;rfl
 obtain⟨cell,rfl,k1⟩:=h
 refine⟨_,(Zb (Zbh (Zs Zh1 (pv 0) (Zi Zb8 Ze Ze) (Zz _)) (Zh (ZL (Z9 (Za (Zi ZcY (Zi ZcX (pv 0) (Zi Zb8 Ze Ze)) (Zi Zak (Zi Zak (Zi Zb8 Ze Ze) (Zi Zb8 Ze Ze)) (Zi Zb8 Ze Ze))) Zc)))) Z5)
   (Zb (Zk (i:=1) ZY.nd rfl (Or.inl rfl) Ze)
   (Zb (Zk (i:=2) ZY.nd rfl (Or.inl rfl) (Zi Z2 (Zi ZcY (pv 0) Ze) Ze))
   (Zb (Zag (ZaJ PassesOwn.never rfl (ZU rfl T.b_range (Za Ze Zc)) (Zm (i:=3) ZY.nd rfl (Or.inl rfl)) (Zb (Zk (i:=2) ZY.nd rfl (Or.inl rfl) (Zi ZcY (Zi Z2 (Zi Z2 (Zi Zak (pv 2) Ze) (Zi Zak Ze (pv 3))) Ze) Ze))
   (Zb (Zk (i:=4) ZY.nd rfl (Or.inl rfl) (Zi ZcY (Zi Zak (pv 2) (pv 2)) Ze))
   (Zh (Zk (i:=1) ZY.nd rfl (Or.inl rfl) (Zi Z2 (Zi Zak (pv 1) Ze) (Zi ZcY (Zi ZeH (pv 4) Ze) Ze))))))))
   (Zh (ZL (Z9 (Za (pv 1) Zc)))))))),?_⟩
 walk_at "rd"
 have fin:∀g:Int,0<=g->∀p,H p=none->Q (V.ref p) (upd H p (.lst [V.int g])):=λg hg p hp=>k1 p _ hp ((Zf.refl H).upd hp) ⟨_,Zd,hg⟩
 refine⟨cp18,ZaX (λ_=>⟨cp18,cp64,cp64,pm1,cp64,pm2,pmz3,by decide,fin _ (Int.emod_nonneg _ (Int.ne_of_gt pmz3))⟩) λ_=>⟨by decide,by decide,by decide,?_⟩⟩
 refine ZaK (λi σ H'=>∃g o v3 v4,σ=[some (.int cell),some (.int g),some (.int o),v3,v4]/\0<=g/\H'=H) ⟨0,_,none,none,rfl,Int.le_refl _,rfl⟩ ?_ ?_
 ·rintro i σ H' hi ⟨g,o,v3,v4,rfl,hg,rfl⟩
  walk_at "rd"
  have b1:=Int.emod_nonneg (o*48271+7919*(0+(i:Int))+12345) (b:=2147483647) (by decide)
  have b2:=Int.emod_lt_of_pos (o*48271+7919*(0+(i:Int))+12345) (b:=2147483647) (by decide)
  refine⟨mul_r (by decide) (by decide),Zic (by decide) (by decide),by decide,Zic (by omega) (by omega),by decide,mul_r (by decide) (by decide),⟨by decide,by decide⟩,by decide,?_⟩
  have b3:=Int.emod_nonneg ((o*48271+7919*(0+(i:Int))+12345) % 2147483647*((o*48271+7919*(0+(i:Int))+12345) % 2147483647) % 2147483629 / 256) (b:=4194304) (by decide)
  have b4:=Int.mul_nonneg hg (show(0:Int)<=4194304 by decide)
  omega
 ·rintro σ H' ⟨g,o,v3,v4,rfl,hg,rfl⟩
  walk_at "rd"
  exact⟨by decide,fin g hg⟩
theorem Zf9 {f:Addr}{fd:FuncData} (F:Fun K "_law_take" "_law_take" Zay f fd) (T:Txt K mg):FnOk P w K mg base (CXE P w) 1 f fd ["pot","many"] (ZaZ K mg):=by
 refine F.okX Zdx (λvs H Q E h=>?_) (λcdv A outer s H vs Q E hr h=>?_)
 ·obtain⟨p,many,rfl,_⟩:=h;rfl
 obtain⟨p,many,rfl,h0,h1,⟨x,hp,hx⟩,k1⟩:=h
 refine⟨_,(Zb (Zk (i:=2) Zdx.nd rfl (Or.inl rfl) (Zi ZcY (ZM ZG (pv 0) Ze (λ_ _=>rfl)) (pv 1)))
   (Zb (ZdG (Zi ZeH (ZM ZG (pv 0) Ze (λ_ _=>rfl)) (pv 1)) (ZdF (pv 0) Ze set_list (λ_=>rfl)))
   (Zh (ZL (pv 2))))),?_⟩
 walk_at "rd"
 refine⟨_,SqL.of hp,_,rfl,_,rfl,h0,?_⟩
 refine⟨_,SqL.of hp,_,rfl,_,rfl,⟨h0,by omega⟩,_,hp,_,rfl,?_⟩
 exact k1 _ _ (Int.emod_nonneg _ (by omega)) (Int.emod_lt_of_pos _ h0) ⟨_,Zd,Int.ediv_nonneg hx (by omega)⟩ Exc.upd
theorem ZeP {f:Addr}{fd:FuncData} (F:Fun K "_law_unlike" "_law_unlike" Z1 f fd) (ZK:Callee P w K mg base "_law_take" 1 ["pot","many"] (ZaZ K mg)) (T:Txt K mg):FnOk P w K mg base (CXE P w) 2 f fd ["pot","many"] (Zbb K mg):=by
 refine F.okX Zbd (λvs H Q E h=>?_) (λcdv A outer s H vs Q E hr h=>?_)
 ·obtain⟨p,many,rfl,_⟩:=h;rfl
 obtain⟨p,many,rfl,h0,h1,hP,k1⟩:=h
 refine⟨_,(Zb (Zk (i:=2) Zbd.nd rfl (Or.inl rfl) (Z9 Zc))
   (Zb (Zag (ZaJ PassesOwn.never rfl (ZU rfl T.b_range (Za (pv 1) Zc)) (Zm (i:=3) Zbd.nd rfl (Or.inl rfl)) (Zh (ZaR (ZdW PySem.F.plainAttrs_list PySem.F.slot_list_insert PySem.F.type_list_insert ZiO (pv 2) (Za (Zj ZK (hr.mono (by decide)) rfl ZS (Za (pv 0) (Za (Zi Z2 (pv 3) Ze) Zc))) (Za (pv 3) Zc)))))))
   (Zh (ZL (pv 2))))),?_⟩
 walk_at "rd"
 refine⟨Ym _,λq hq=>⟨by omega,by omega,?_⟩⟩
 have hqp:q≠p:=hP.ne hq
 refine ZaK (λi σ H'=>∃(ns:List Int) (v3:Option V),σ=[some (.ref p),some (.int many),some (.ref q),v3]/\ns.length=i/\H' q=some (.lst (ns.map V.int))/\ZN H' p/\Exc p H H') ⟨[],none,rfl,rfl,Zd,hP.upd hq,(Zf.refl H).toExc.ZiN hq⟩ ?_ ?_
 ·rintro i σ H' hi ⟨ns,v3,rfl,hlen,hq',P',e'⟩
  walk_at "rd"
  refine⟨ZaV hq',p,_,rfl,by omega,by omega,P',λd H2 d0 d1 P2 e2=>⟨_,d,rfl,e2 _ _ hqp hq',d0,by omega,Yx (show _<=1000 by rw[Yh];omega) (by decide),ns.take d.toNat++(0+(i:Int))::ns.drop d.toNat,?_,?_,P2.ZiN hqp,(e'.trans e2).ZiN hq⟩⟩
  ·simp;omega
  ·rw[Zd];simp
 ·rintro σ H' ⟨ns,v3,rfl,hlen,hq',P',e'⟩
  walk_at "rd"
  exact k1 q ns H' hq (by omega) hq' P' e'
theorem ZgS {f:Addr}{fd:FuncData} (F:Fun K "_law_row" "_law_row" ZaP f fd) (ZK:Callee P w K mg base "_law_take" 1 ["pot","many"] (ZaZ K mg)) (Zbv:Callee P w K mg base "_law_unlike" 2 ["pot","many"] (Zbb K mg)) (T:Txt K mg):FnOk P w K mg base (CXE P w) 3 f fd ["pot","most"] (Zcf K mg):=by
 refine F.okX ZQ (λvs H Q E h=>?_) (λcdv A outer s H vs Q E hr h=>?_)
 ·obtain⟨p,most,rfl,_⟩:=h;rfl
 obtain⟨p,most,rfl,h0,h1,hP,k1⟩:=h
 refine⟨_,(Zb (Zk (i:=2) ZQ.nd rfl (Or.inl rfl) (Zj ZK (hr.mono (by decide)) rfl ZS (Za (pv 0) (Za (Zi Z2 (pv 1) Ze) Zc))))
   (Zb (Zbh (Zs Zgr (Zj ZK (hr.mono (by decide)) rfl ZS (Za (pv 0) (Za Ze Zc))) Ze (Zz _)) (Zh (Zk (i:=2) ZQ.nd rfl (Or.inl rfl) (pv 1))) Z5)
   (Zb (Zk (i:=3) ZQ.nd rfl (Or.inl rfl) (Zj ZK (hr.mono (by decide)) rfl ZS (Za (pv 0) (Za Ze Zc))))
   (Zb (Zbh (Zs Zgr (pv 3) Ze (Zz _)) (Zh (ZL (Zj Zbv (hr.mono (by decide)) rfl ZS (Za (pv 0) (Za (pv 2) Zc))))) Z5)
   (Zb (Zk (i:=4) ZQ.nd rfl (Or.inl rfl) (Z9 Zc))
   (Zb (Zag (ZaJ PassesOwn.never rfl (ZU rfl T.b_range (Za (pv 2) Zc)) (Zm (i:=5) ZQ.nd rfl (Or.inl rfl)) (Zb (Zk (i:=6) ZQ.nd rfl (Or.inl rfl) (Zj ZK (hr.mono (by decide)) rfl ZS (Za (pv 0) (Za (ZM Zc0 (ZdH (Za Ze (Za Ze Zc))) (ZcI Zfq rfl T.b_int Zhs (Za (ZfK Zev (pv 3) Ze (Zz _)) Zc)) (λ_ _=>rfl)) Zc))))
   (Zb (Zk (i:=7) ZQ.nd rfl (Or.inl rfl) Ze)
   (Zb (Zbh (Zs Zgr (pv 3) Ze (Zz _)) (Zh (Zk (i:=7) ZQ.nd rfl (Or.inl rfl) (Zi Zak (Zi ZcX (Zj ZK (hr.mono (by decide)) rfl ZS (Za (pv 0) (Za (Zi Z2 (Zi Zak Ze (Zi Zb8 Ze Ze)) Ze) Zc))) (Zi Zb8 Ze Ze)) (Zi Zb8 Ze Ze)))) Z5)
   (Zh (ZaR (ZdW PySem.F.plainAttrs_list PySem.F.slot_list_append PySem.F.type_list_append Za3 (pv 4) (Za (ZM Zc0 (ZdH (Za (pv 6) (Za (Zi Z2 (pv 5) (pv 6)) (Za (Zi Z2 (Zi ZcX (pv 2) (pv 5)) (pv 6)) (Za (Zi Z2 (Zi Zak (Zi ZcY (pv 5) Ze) Ze) (pv 6)) (Za (pv 7) Zc)))))) (pv 3) (λ_ _=>rfl)) Zc)))))))))
   (Zh (ZL (pv 4))))))))),?_⟩
 refine Za8 (fun σ Hx=>∃m:Int,σ=[some (.ref p),some (.int most),some (.int m),none,none,none,none,none]/\0<=m/\m<=most/\ZN Hx p/\Exc p H Hx) (λR hR=>?_) ?_
 ·walk_at "rd"
  exact⟨p,_,rfl,by omega,by omega,hP,λd H1 d0 d1 P1 e1=>hR _ _ ⟨d,rfl,d0,by omega,P1,e1⟩⟩
 rintro σ H1 ⟨m1,rfl,m10,m11,P1,e1⟩
 refine Za8 (fun σ Hx=>∃m:Int,σ=[some (.ref p),some (.int most),some (.int m),none,none,none,none,none]/\0<=m/\m<=most/\ZN Hx p/\Exc p H Hx) (λR hR=>?_) ?_
 ·walk_at "rd"
  refine⟨p,_,rfl,by decide,by decide,P1,λd H2 d0 d1 P2 e2=>⟨rfl,ZaX (λ_=>hR _ _ ⟨most,rfl,h0,Int.le_refl _,P2,e1.trans e2⟩) λ_=>hR _ _ ⟨m1,rfl,m10,m11,P2,e1.trans e2⟩⟩⟩
 clear P1 e1 m10 m11 m1 H1
 rintro σ H1 ⟨many,rfl,m0,m1,P1,e1⟩
 refine Za8 (fun σ Hx=>∃k:Int,σ=[some (.ref p),some (.int most),some (.int many),some (.int k),none,none,none,none]/\0<=k/\k<6/\ZN Hx p/\Exc p H Hx) (λR hR=>?_) ?_
 ·walk_at "rd"
  exact⟨p,_,rfl,by decide,by decide,P1,λd H2 d0 d1 P2 e2=>hR _ _ ⟨d,rfl,d0,d1,P2,e1.trans e2⟩⟩
 clear P1 e1 H1
 rintro σ H1 ⟨kd,rfl,d0,d1,P1,e1⟩
 refine Za8 (fun σ Hx=>σ=[some (.ref p),some (.int most),some (.int many),some (.int kd),none,none,none,none]/\kd<5/\Hx=H1) (λR hR=>?_) ?_
 ·walk_at "rd"
  refine ZaX (λ_=>⟨p,_,rfl,m0,by omega,P1,λr ns H2 hr2 hl h2 P2 e2=>k1 r ns _ (e1.free (P1.ne hr2) hr2) (by omega) h2 P2 (e1.trans e2)⟩) λz=>hR _ _ ⟨rfl,by omega,rfl⟩
 rintro σ H2 ⟨rfl,d2,rfl⟩
 walk_at "rd"
 refine⟨Ym _,λq hq=>⟨by omega,by omega,?_⟩⟩
 have hqp:q≠p:=P1.ne hq
 have hqH:H q=none:=e1.free hqp hq
 refine ZaK (λi σ H'=>∃(ns:List Int) (v5 v6 v7:Option V),σ=[some (.ref p),some (.int most),some (.int many),some (.int kd),some (.ref q),v5,v6,v7]/\ns.length=i/\H' q=some (.lst (ns.map V.int))/\ZN H' p/\Exc p H H') ⟨[],none,none,none,rfl,rfl,Zd,P1.upd hq,e1.same ((Zf.refl H2).upd hq)⟩ ?_ ?_
 ·rintro i σ H' hi ⟨ns,v5,v6,v7,rfl,hlen,hq',P',e'⟩
  refine Za8 (fun σ Hx=>∃f:Int,σ=[some (.ref p),some (.int most),some (.int many),some (.int kd),some (.ref q),some (.int (0+(i:Int))),some (.int f),v7]/\Hx q=some (.lst (ns.map V.int))/\ZN Hx p/\Exc p H Hx) (λR hR=>?_) ?_
  ·walk_at "rd"
   refine⟨by decide,λu hu=>?_⟩
   obtain⟨v,hv,y,rfl,y0,y1⟩:=Zib (xs:=[V.int 4,V.int 2]) (i:=if 0<kd then 1 else 0) (λv=>∃y:Int,v=V.int y/\0<y/\y<=4) (by split<;>decide) (by split<;>decide) (by
    intro x hx
    simp at hx
    rcases hx with rfl|rfl<;>exact⟨_,rfl,by decide,by decide⟩)
   have g:=(Zf.refl H').upd (o:=.tup [V.int 4,V.int 2]) hu
   exact⟨_,SqT.of Zd,_,hv,p,y,rfl,y0,by omega,P'.same g,λd H2 d0 d1 P2 e2=>hR _ _ ⟨d,rfl,e2 _ _ hqp (g _ _ hq'),P2,(e'.same g).trans e2⟩⟩
  clear hq' P' e' H'
  rintro σ H' ⟨f,rfl,hq',P',e'⟩
  refine Za8 (fun σ Hx=>∃g:Int,σ=[some (.ref p),some (.int most),some (.int many),some (.int kd),some (.ref q),some (.int (0+(i:Int))),some (.int f),some (.int g)]/\Hx q=some (.lst (ns.map V.int))/\ZN Hx p/\Exc p H Hx) (λR hR=>?_) ?_
  ·walk_at "rd"
   exact hR _ _ ⟨0,rfl,hq',P',e'⟩
  clear hq' P' e' H'
  rintro σ H' ⟨g0,rfl,hq',P',e'⟩
  refine Za8 (fun σ Hx=>∃g:Int,σ=[some (.ref p),some (.int most),some (.int many),some (.int kd),some (.ref q),some (.int (0+(i:Int))),some (.int f),some (.int g)]/\Hx q=some (.lst (ns.map V.int))/\ZN Hx p/\Exc p H Hx) (λR hR=>?_) ?_
  ·walk_at "rd"
   have e9:(10:Int) ^ Int.toNat 9=1000000000:=by decide
   rw[e9]
   exact ZaX (λ_=>⟨cp9,Zic (by decide) (by decide),p,_,rfl,by decide,by decide,P',λd H2 d0 d1 P2 e2=>⟨cp9,d,rfl,cp50,Zic (by omega) (by omega),hR _ _ ⟨_,rfl,e2 _ _ hqp hq',P2,e'.trans e2⟩⟩⟩) λ_=>hR _ _ ⟨g0,rfl,hq',P',e'⟩
  clear hq' P' e' H'
  rintro σ H' ⟨g1,rfl,hq',P',e'⟩
  walk_at "rd"
  refine⟨ZaV hq',by decide,mul_r (by decide) (by decide),by decide,λu hu=>?_⟩
  obtain⟨v,hv,y,rfl⟩:=Zib (xs:=[V.int f,V.int (0+(i:Int)+f),V.int (many-(0+(i:Int))+f),V.int ((0+(i:Int)) % 4*2+f),V.int g1]) (i:=kd) (λv=>∃y:Int,v=V.int y) d0 d2 (by
   intro x hx
   simp only[Yq,List.not_mem_nil,or_false]at hx
   rcases hx with rfl|rfl|rfl|rfl|rfl<;>exact⟨_,rfl⟩)
  have g:=(Zf.refl H').upd (o:=.tup [V.int f,V.int (0+(i:Int)+f),V.int (many-(0+(i:Int))+f),V.int ((0+(i:Int)) % 4*2+f),V.int g1]) hu
  refine⟨_,SqT.of Zd,_,hv,_,g _ _ hq',Yx (show _<=1000 by rw[Yh];omega) (by decide),ns++[y],by simp[hlen],by rw[Zd];simp,(P'.same g).ZiN hqp,(e'.same g).ZiN hqH⟩
 ·rintro σ H' ⟨ns,v5,v6,v7,rfl,hlen,hq',P',e'⟩
  walk_at "rd"
  exact k1 q ns H' hqH (by omega) hq' P' e'
theorem Zga {f:Addr}{fd:FuncData} (F:Fun K "_law_tree" "_law_tree" Zaz f fd) (T:Txt K mg):FnOk P w K mg base (CXE P w) 1 f fd ["row"] (ZbT K mg):=by
 refine F.okX ZR (λvs H Q E h=>?_) (λcdv A outer s H vs Q E hr h=>?_)
 ·obtain⟨r,ns,rfl,_⟩:=h;rfl
 obtain⟨r,ns,rfl,hr0,hn,k1⟩:=h
 refine⟨_,(Zb (Zk (i:=1) ZR.nd rfl (Or.inl rfl) (Z9 Zc))
   (Zb (Zag (ZaJ PassesOwn.never rfl (ZjU (K:=K) rfl rfl T.b_enumerate (Za (pv 0) Zc)) (Zes (n:=2) rfl (Zai (Zm (i:=2) ZR.nd rfl (Or.inl rfl)) (Zai (Zm (i:=3) ZR.nd rfl (Or.inr rfl)) Zdk))) (Zb (ZbG (i:=4) ["other","number","row"] [none,some 3,some 0] ZR.nd rfl (Or.inl rfl) rfl rfl rfl (ZU rfl T.b_range (Za (pv 2) Zc)) (λ_ _ _ _ _=>(Zm (i:=0) (show(["other","number","row"]:List Str).Nodup from by decide +kernel) rfl (Or.inl rfl))) (λ_ _ _ _ _=>Zca (Zs op_le (ZM (ZiM (K:=K) rfl) (pv 2) (pv 0) (λ_ _=>rfl)) (pv 1) (Zz _))) (λ_ _ _ _ _=>(pv 0)) ZO)
   (Zb (ZbG (i:=5) ["other","number","row"] [none,some 3,some 0] ZR.nd rfl (Or.inl rfl) rfl rfl rfl (Ziw rfl T.b_range (Za (Zi Z2 (pv 2) Ze) (Za (Zn (Zo (K:=K) rfl) rfl T.b_len Yv (Za (pv 0) Zc)) Zc))) (λ_ _ _ _ _=>(Zm (i:=0) (show(["other","number","row"]:List Str).Nodup from by decide +kernel) rfl (Or.inl rfl))) (λ_ _ _ _ _=>Zca (Zs Zgs (ZM (ZiM (K:=K) rfl) (pv 2) (pv 0) (λ_ _=>rfl)) (pv 1) (Zz _))) (λ_ _ _ _ _=>(pv 0)) ZO)
   (Zb (Zk (i:=6) ZR.nd rfl (Or.inl rfl) (ZM ZG (Zi Zju (Z9 (Za (Zeu ZcZ Ze) Zc)) (pv 4)) (Zeu ZcZ Ze) (λ_ _=>rfl)))
   (Zb (Zbh (PW.pt (Zhh (Zs (op_neD (K:=K) rfl hr) (pv 5) (Z9 Zc) (Zz _)) (ZfI (PW.pt (ZhW (Zs (Zhv (K:=K) rfl hr) (pv 4) (Z9 Zc) (Zz _)) (Zhg (Zs Zh1 (ZM (ZiM (K:=K) rfl) (pv 0) (ZM ZG (pv 5) Ze (λ_ _=>rfl)) (λ_ _=>rfl)) (ZM (ZiM (K:=K) rfl) (pv 0) (pv 6) (λ_ _=>rfl)) (Zz _)))))))) (Zh (Zk (i:=6) ZR.nd rfl (Or.inl rfl) (ZM ZG (pv 5) Ze (λ_ _=>rfl)))) Z5)
   (Zh (ZaR (ZdW PySem.F.plainAttrs_list PySem.F.slot_list_append PySem.F.type_list_append Za3 (pv 1) (Za (pv 6) Zc))))))))))
   (Zh (ZL (ZcI (Zi9 (K:=K) rfl) rfl T.b_tuple Zey (Za (pv 1) Zc)))))),?_⟩
 walk_at "rd"
 have eL:(ns.map V.int).length=ns.length:=Yh ..
 refine⟨Ym _,λl hl=>⟨_,loopQ hr0 ((Zf.refl H).upd hl) λJ go st yl=>?_⟩⟩
 rw[eL]at st
 refine ZeG (n:=ns.length) (λi σ Hx=>∃(L:List Int) (v2 v3 v4 v5 v6:Option V),σ=[some (.ref r),some (.ref l),v2,v3,v4,v5,v6]/\L.length=i/\Zf H Hx/\Hx l=some (.lst (L.map V.int))/\∀p,p<i->Zp (nth ns) ns.length p (L.getD p 0)) ⟨[],none,none,none,none,none,rfl,rfl,(Zf.refl H).upd hl,Zd,λp hp=>absurd hp (by omega)⟩ (λi σ Hx hi ⟨_,_,_,_,_,_,_,_,sx,_⟩=>go i Hx sx (by omega)) (fun σ Hx ⟨_,_,_,_,_,_,_,_,sx,_⟩=>st Hx sx) ?_ ?_
 ·rintro i x σ Hx Hx' hi ⟨L,v2,v3,v4,v5,v6,rfl,hL,sx,hxl,hF⟩ y
  obtain⟨q,x,hq,rfl,rfl,ex⟩:=yl i Hx x Hx' sx y
  clear y
  rw[YA,Yf hi]at ex
  cases ex
  have eg:ns[i]=nth ns i:=by simp[nth,Yu,hi]
  rw[eg]
  have g:=(Zf.refl Hx).upd (o:=.tup [.int (i:Int),.int (nth ns i)]) hq
  have tq:(upd Hx q (.tup [.int (i:Int),.int (nth ns i)])) q=some (.tup [.int (i:Int),.int (nth ns i)]):=Zd
  replace sx:=sx.trans g
  replace hxl:=g _ _ hxl
  generalize upd Hx q (.tup [.int (i:Int),.int (nth ns i)])=Hy at sx hxl tq⊢
  clear g hq Hx
  have EE:=ZdX (f:=nth ns) hi
  generalize hA:((List.range i).filter λq=>decide (nth ns q<=nth ns i))=A at EE
  generalize hB:((List.range (ns.length-(i+1))).filter λj=>decide (nth ns (i+1+j)<nth ns i))=B at EE
  have hqa:∀q∈A,q<ns.length:=λq hq=>by
   rw[<-hA]at hq
   have:=YH.mp (YJ.mp hq).1;omega
  have hqb:∀j∈B,i+1+j<ns.length:=λj hq=>by
   rw[<-hB]at hq
   have:=YH.mp (YJ.mp hq).1;omega
  have lA:A.length<=1000:=by rw[<-hA];exact Yj (Y0 _ _) (by simp;omega)
  have lB:B.length<=1000:=by rw[<-hB];exact Yj (Y0 _ _) (by simp;omega)
  refine⟨q,_,rfl,SqT.of tq,rfl,_,_,rfl,_,_,rfl,rfl,?_⟩
  clear tq
  refine Za8 (fun σ Hz=>∃a,σ=[some (.ref r),some (.ref l),some (.int (i:Int)),some (.int (nth ns i)),some (.ref a),v5,v6]/\Zf H Hz/\Hz l=some (.lst (L.map V.int))/\Hz a=some (.lst (Zw A))) (λR hR=>?_) ?_
  ·walk_at "rd"
   refine⟨by omega,by omega,?_⟩
   have e1:((i:Int)).toNat=i:=by omega
   rw[e1]
   refine ZcL (n:=i) (λq=>decide (nth ns q<=nth ns i)) (λq=>V.int ((q:Nat):Int)) (Yx (show _<=1000 by omega) (by decide)) (λj Hx s hj=>hj) (λHx s=>Ye _) ?_ ?_
   ·rintro j x Hx Hz hj s ⟨rfl,rfl⟩
    have e0:((0:Int)+(j:Int))=(j:Int):=by omega
    rw[e0]
    walk_at "rd"
    exact⟨_,(sx.trans s).q hr0,_,Za7 (by omega),_,rfl,ZaX (λh=>CF.take hj (YQ h) rfl s) (λh=>CF.skip hj (YD h) s)⟩
   ·intro l1 H1 s1 hl1
    exact hR _ _ ⟨l1,rfl,(sx.trans s1).Zbg hl1,(s1.Zbg hl1) _ _ hxl,by rw[Zd,hA];rfl⟩
  clear sx hxl Hy
  rintro σ Hx ⟨a,rfl,sx,hxl,hxa⟩
  refine Za8 (fun σ Hy=>∃b,σ=[some (.ref r),some (.ref l),some (.int (i:Int)),some (.int (nth ns i)),some (.ref a),some (.ref b),v6]/\Zf H Hy/\Hy l=some (.lst (L.map V.int))/\Hy a=some (.lst (Zw A))/\Hy b=some (.lst (Zw (B.map λj=>i+1+j)))) (λR hR=>?_) ?_
  ·walk_at "rd"
   refine⟨_,sx.q hr0,by omega,by omega,by omega,by rw[eL];omega,?_⟩
   have e1:((((ns.map V.int).length:Nat):Int)-((i:Int)+1)).toNat=ns.length-(i+1):=by rw[eL];omega
   rw[e1]
   refine ZcL (n:=ns.length-(i+1)) (λq=>decide (nth ns (i+1+q)<nth ns i)) (λq=>V.int ((i+1+q:Nat):Int)) (Yx (show _<=1000 by omega) (by decide)) (λj Hx s hj=>hj) (λHx s=>Ye _) ?_ ?_
   ·rintro j x Hy Hz hj s ⟨rfl,rfl⟩
    have e0:((i:Int)+1+(j:Int))=((i+1+j:Nat):Int):=by omega
    rw[e0]
    walk_at "rd"
    exact⟨_,(sx.trans s).q hr0,_,Za7 (by omega),_,rfl,ZaX (λh=>CF.take hj (YQ h) rfl s) (λh=>CF.skip hj (YD h) s)⟩
   ·intro l1 H1 s1 hl1
    exact hR _ _ ⟨l1,rfl,(sx.trans s1).Zbg hl1,(s1.Zbg hl1) _ _ hxl,(s1.Zbg hl1) _ _ hxa,by rw[Zd,hB];simp[Zw,Function.comp_def]⟩
  clear sx hxl hxa Hx
  rintro σ Hx ⟨b,rfl,sx,hxl,hxa,hxb⟩
  have lA':([V.int (-1)]++Zw A).length<=1001:=by rw[Yt,Zaa];simp;omega
  refine Za8 (fun σ Hy=>σ=[some (.ref r),some (.ref l),some (.int (i:Int)),some (.int (nth ns i)),some (.ref a),some (.ref b),some (.int (match A.getLast? with|some q=>((q:Nat):Int)|none=>-1))]/\Zf H Hy/\Hy l=some (.lst (L.map V.int))/\Hy a=some (.lst (Zw A))/\Hy b=some (.lst (Zw (B.map λj=>i+1+j)))) (λR hR=>?_) ?_
  ·walk_at "rd"
   refine⟨by decide,λc1 h1=>?_⟩
   have u1:=(Zf.refl Hx).upd (o:=.lst [V.int (-1)]) h1
   refine⟨_,Zd,_,u1 _ _ hxa,Yj (show _<=1001 by rw[<-Yt];exact lA') (by decide),λc2 h2=>?_⟩
   have u2:=u1.Zbg (o:=.lst ([V.int (-1)]++Zw A)) h2
   refine⟨_,SqL.of Zd,V.int (match A.getLast? with|some q=>((q:Nat):Int)|none=>-1),?_,hR _ _ ⟨rfl,sx.trans u2,u2 _ _ hxl,u2 _ _ hxa,u2 _ _ hxb⟩⟩
   have e:[V.int (-1)]++Zw A=([-1]++A.map λ(q:Nat)=>(q:Int)).map V.int:=by simp[Zw,Function.comp_def]
   rw[e]
   refine ZkY ?_
   rcases snoc_cases A with rfl|⟨ys,y,rfl⟩
   ·rfl
   ·rw[YY,<-YG,List.map_singleton,List.getLast?_concat];simp
  clear sx hxl hxa hxb Hx
  rintro σ Hx ⟨rfl,sx,hxl,hxa,hxb⟩
  refine Za8 (fun σ Hy=>∃e,σ=[some (.ref r),some (.ref l),some (.int (i:Int)),some (.int (nth ns i)),some (.ref a),some (.ref b),some (.int e)]/\Zf H Hy/\Hy l=some (.lst (L.map V.int))/\Zp (nth ns) ns.length i e) (λR hR=>?_) ?_
  ·refine ifR (λH1=>Zf Hx H1/\∃j B',B=j::B'/\∀q,A.getLast?=some q->nth ns q<=nth ns (i+1+j)) (λH1=>Zf Hx H1/\(B=[]\/∃j B' q,B=j::B'/\A.getLast?=some q/\nth ns (i+1+j)<nth ns q)) ?_ ?_ ?_
   ·rintro H1 ⟨s1,j,B',rfl,hle⟩
    walk_at "rd"
    refine⟨_,SqL.of (s1 _ _ hxb),V.int ((i+1+j:Nat):Int),Zcb (j:=0) rfl,hR _ _ ⟨((i+1+j:Nat):Int),rfl,sx.trans s1,s1 _ _ hxl,?_⟩⟩
    cases hl:A.getLast? with
    |none=>rw[hl]at EE;simpa using EE
    |some q =>
     rw[hl]at EE
     simp only[List.head?_cons,Yc (hle q hl)]at EE
     simpa using EE
   ·rintro H1 ⟨s1,hc⟩
    walk_at "rd"
    refine hR _ _ ⟨_,rfl,sx.trans s1,s1 _ _ hxl,?_⟩
    rcases hc with rfl|⟨j,B',q,rfl,hl,hlt⟩
    ·cases hl:A.getLast? with
     |none=>rw[hl]at EE;simpa using EE
     |some q=>rw[hl]at EE;simpa using EE
    ·rw[hl]at EE⊢
     simp only[List.head?_cons,Yb (show ¬ nth ns q<=nth ns (i+1+j) by omega)]at EE
     simpa using EE
   ·intro B0 hT hU
    walk_at "rd"
    refine⟨Ym _,λc hc=>?_⟩
    have u1:=(Zf.refl Hx).upd (o:=.lst []) hc
    refine⟨_,Zij (u1 _ _ hxb) Zd,?_⟩
    cases B with
    |nil=>simpa using hU _ ⟨u1,.inl rfl⟩
    |cons j B' =>
     refine ZaX (λ_=>⟨Ym _,λd hd=>?_⟩) λz=>absurd z (by simp)
     have u2:=u1.Zbg (o:=.lst []) hd
     refine⟨_,Zij (u2 _ _ hxa) Zd,?_⟩
     rcases snoc_cases A with rfl|⟨ys,y,rfl⟩
     ·exact ZaX (λ_=>hT _ ⟨u2,j,B',rfl,λq e=>nomatch e⟩) λz=>absurd z (by simp)
     ·refine ZaX (λz=>absurd z (by simp)) λ_=>?_
      have hy:y<ns.length:=hqa y (by simp)
      have hj:i+1+j<ns.length:=hqb j (by simp)
      have ey:(ys++[y]).getLast?=some y:=by simp
      refine⟨_,SqL.of (u2 _ _ hxb),V.int ((i+1+j:Nat):Int),Zcb (j:=0) rfl,_,_,rfl,(sx.trans u2).q hr0,_,Za7 hj,_,(sx.trans u2).q hr0,V.int (nth ns y),by rw[ey];exact Za7 hy,_,rfl,_,rfl,?_⟩
      by_cases h:nth ns y<=nth ns (i+1+j)
      ·rw[YQ h];exact hT _ ⟨u2,j,B',rfl,λq e=>by rw[ey]at e;cases e;exact h⟩
      ·rw[YD h];exact hU _ ⟨u2,.inr ⟨j,B',y,rfl,ey,by omega⟩⟩
  clear sx hxl hxa hxb Hx
  rintro σ Hx ⟨ee,rfl,sx,hxl,hE⟩
  walk_at "rd"
  refine⟨ZaV hxl,_,hxl,Yx (show _<=1000 by rw[Yh];omega) (by decide),L++[ee],by simp[hL],sx.upd hl,by rw[Zd];simp,λp hp=>?_⟩
  by_cases e:p=i
  ·subst e
   have:(L++[ee]).getD p 0=ee:=by rw[<-hL];simp[Yu]
   rw[this];exact hE
  ·have:(L++[ee]).getD p 0=L.getD p 0:=by
    simp only[Yu]
    rw[YO (by omega)]
   rw[this];exact hF p (by omega)
 ·rintro σ Hx ⟨L,v2,v3,v4,v5,v6,rfl,hL,sx,hxl,hF⟩
  walk_at "rd"
  exact⟨_,SqL.of hxl,λu H9 zu s9 hu=>k1 u L _ (sx.free zu) ⟨hL,hF⟩ (sx.trans s9) hu⟩
theorem Zgb {f:Addr}{fd:FuncData} (F:Fun K "_law_over" "_law_over" ZaA f fd) (T:Txt K mg):FnOk P w K mg base (CXE P w) 1 f fd ["tree","place"] (ZbU K mg):=by
 refine F.okX Za0 (λvs H Q E h=>?_) (λcdv A outer s H vs Q E hr h=>?_)
 ·obtain⟨t,T,p,rfl,_⟩:=h;rfl
 obtain⟨t,T',p,rfl,ht,hn,hp,hen,k1⟩:=h
 refine⟨_,(Zb (Zk (i:=2) Za0.nd rfl (Or.inl rfl) (Z9 Zc))
   (Zb (Zk (i:=3) Za0.nd rfl (Or.inl rfl) (ZM Zc0 (pv 0) (pv 1) (λ_ _=>rfl)))
   (Zb (Zag (Zet PassesOwn.never (Zs Zh1 (pv 3) Ze (Zz _)) (Zb (ZaR (ZdW PySem.F.plainAttrs_list PySem.F.slot_list_append PySem.F.type_list_append Za3 (pv 2) (Za (pv 3) Zc)))
   (Zh (Zk (i:=3) Za0.nd rfl (Or.inl rfl) (ZM Zc0 (pv 0) (pv 3) (λ_ _=>rfl)))))))
   (Zh (ZL (pv 2)))))),?_⟩
 walk_at "rd"
 have eL:(T'.map V.int).length=T'.length:=Yh ..
 refine⟨Ym _,λl hl=>⟨_,(((Zf.refl H).upd hl).Zan ht),_,Za7 hp,?_⟩⟩
 refine Zk0 (λm σ Hx=>∃(h:Int) (L:List Nat),m+L.length=T'.length/\Za9 T' m h/\L++Z3 T' m h=way T' p/\Zf H Hx/\Hx l=some (.lst (Zw L))/\σ=[some (.ref t),some (.int p),some (.ref l),some (.int h)]) T'.length ⟨nth T' p,[],by simp,hen,rfl,(Zf.refl H).upd hl,Zd,rfl⟩ ?_
 rintro m σ Hx ⟨h,L,hm,he,hw,sx,hxl,rfl⟩
 walk_at "rd"
 refine ZaX (λz=>?_) λz=>?_
 ·cases m with
  |zero=>exact absurd (show h=-1 from he) (by omega)
  |succ m =>
   rcases he with he|⟨he1,he2,he3⟩
   ·omega
   ·obtain⟨j,rfl⟩:=Int.eq_ofNat_of_zero_le he1
    have ej:((j:Int)).toNat=j:=by omega
    rw[ej]at he3
    simp only[Z3,Yc (And.intro he1 he2),ej]at hw
    refine⟨_,fun σ' H' z=>z,ZaV hxl,_,hxl,Yx (show _<=1000 by rw[Zaa];omega) (by decide),_,(sx.upd hl).Zan ht,_,Za7 (by omega),m,by omega,nth T' j,L++[j],by simp;omega,he3,by rw[<-hw];simp,sx.upd hl,?_,rfl⟩
    rw[Zd,ZcK];rfl
 ·refine k1 l Hx hl sx ?_
  have:Z3 T' m h=[]:=by
   cases m with
   |zero=>rfl
   |succ m=>simp only[Z3];rw[Yb (by omega)]
  rw[this,List.append_nil]at hw
  rw[hxl,Zdt,hw];simp[Zw]
theorem Zjc {f:Addr}{fd:FuncData} (F:Fun K "settle" "settle" ZbJ f fd) (T:Txt K mg):FnOk P w K mg base (CXE P w) 1 f fd ["elders","spine","place","keep"] (ZdM K mg):=by
 refine F.okX Zjb (λvs H Q E h=>?_) (λcdv A outer s H vs Q E hr h=>?_)
 ·obtain⟨el,sp,es,A,B,i,rfl,_⟩:=h;rfl
 obtain⟨el,sp,es,A',B,i,rfl,hel,hsp,hne,hi,hq,hlen,k1⟩:=h
 refine⟨_,(Zb (Zbh (Zs Zgs (pv 3) (Zn (Zo (K:=K) rfl) rfl T.b_len Yv (Za (pv 1) Zc)) (Zz _)) (Zh (ZdG (pv 2) (ZdF (pv 0) (ZM ZG (pv 1) (pv 3) (λ_ _=>rfl)) set_list (λ_=>rfl)))) Z5)
   (Zb (Zbh (Zs Zev (pv 3) Ze (Zz _)) (Zh (ZdG (ZM ZG (pv 1) (Zi ZcX (pv 3) Ze) (λ_ _=>rfl)) (ZdF (pv 0) (pv 2) set_list (λ_=>rfl)))) Z5)
   (Zb (Zhz (pv 1) (pv 3))
   (Zh (ZaR (ZdW PySem.F.plainAttrs_list PySem.F.slot_list_append PySem.F.type_list_append Za3 (pv 1) (Za (pv 2) Zc))))))),?_⟩
 walk_at "rd"
 have hb1:(Zw A').length<sizeLine:=by
  rw[Zaa]
  rw[Yt]at hlen
  exact Yx (show _<=1000 by omega) (by decide)
 have etk:List.take A'.length (Zw (A'++B))=Zw A':=by
  rw[ZcK]
  have:A'.length=(Zw A').length:=(Zaa A').symm
  rw[this,List.take_left]
 have hle:A'.length<=(Zw (A'++B)).length:=by rw[Zaa,Yt];omega
 have esn:Zw A'++[V.int (i:Nat)]=Zw (A'++[i]):=by rw[ZcK];rfl
 refine⟨_,.inl (SqL.of hsp),?_⟩
 rw[Zaa,Yt]
 -- the end: behind the two stores
 have fin:∀(es1:List Int) (Hx:Hp),(∀b o,b≠el->b≠sp->H b=some o->Hx b=some o)->Hx el=some (.lst (es1.map V.int))->Hx sp=some (.lst (Zw (A'++B)))->es1=Zek es A' B i ->
   ∃(xs:List V) (k:Nat),(A'.length:Int)=(k:Int)/\Hx sp=some (HO.lst xs)/\k<=xs.length/\tyV K "list" (V.ref sp) (upd Hx sp (HO.lst (List.take k xs)))/\∃x,upd Hx sp (HO.lst (List.take k xs)) sp=some (HO.lst x)/\x.length<sizeLine/\Q V.non (upd (upd Hx sp (HO.lst (List.take k xs))) sp (HO.lst (x++[V.int (i:Nat)]))):=by
  intro es1 Hx h1 h2 h3 h4
  refine⟨_,A'.length,rfl,h3,hle,ZaV Zd,_,Zd,by rw[etk];exact hb1,k1 _ (λb o n1 n2 z=>by rw[Zg n2,Zg n2];exact h1 b o n1 n2 z) (by rw[Zg hne,Zg hne,h2,h4]) (by rw[Zd,etk,esn])⟩
 -- elders[place]=spine[keep-1]
 have mid:∀(es1:List Int) (Hx:Hp),(∀b o,b≠el->b≠sp->H b=some o->Hx b=some o)->Hx el=some (.lst (es1.map V.int))->es1.length=es.length->Hx sp=some (.lst (Zw (A'++B)))->∀q,A'.getLast?=some q->es1.set i (q:Int)=Zek es A' B i ->
   ∃x,SqL K Hx sp x/\∃x_1,atI x ((A'.length:Int)-1)=some x_1/\∃x,Hx el=some (HO.lst x)/\∃x_2,ixN x.length (i:Int)=some x_2/\∃(xs:List V) (k:Nat),(A'.length:Int)=(k:Int)/\upd Hx el (HO.lst (x.set x_2 x_1)) sp=some (HO.lst xs)/\k<=xs.length/\tyV K "list" (V.ref sp) (upd (upd Hx el (HO.lst (x.set x_2 x_1))) sp (HO.lst (List.take k xs))) /\
    ∃x_3,upd (upd Hx el (HO.lst (x.set x_2 x_1))) sp (HO.lst (List.take k xs)) sp=some (HO.lst x_3)/\x_3.length<sizeLine/\Q V.non (upd (upd (upd Hx el (HO.lst (x.set x_2 x_1))) sp (HO.lst (List.take k xs))) sp (HO.lst (x_3++[V.int (i:Nat)]))):=by
  intro es1 Hx h1 h2 hl1 h3 q hq h4
  have hpos:0<A'.length:=by
   cases A' with
   |nil=>cases hq
   |cons _ _=>simp
  have hat:(A'++B)[A'.length-1]?=some q:=by
   rw[YO (by omega)]
   rw[List.getLast?_eq_getElem?]at hq;exact hq
  have ei:((A'.length:Int)-1)=((A'.length-1:Nat):Int):=by omega
  refine⟨_,SqL.of h3,_,by rw[ei];exact Zcb hat,_,h2,i,by rw[Yh,hl1];exact Zdq hi,?_⟩
  have em:(es1.map V.int).set i (V.int (q:Nat))=(es1.set i (q:Int)).map V.int:=by rw[List.map_set]
  rw[em]
  exact fin _ _ (λb o n1 n2 z=>by rw[Zg n1];exact h1 b o n1 n2 z) Zd (by rw[Zg hne.symm];exact h3) h4
 cases B with
 |nil =>
  rw[Yb (by simp)]
  cases hq:A'.getLast? with
  |none =>
   have:A'=[]:=List.getLast?_eq_none_iff.mp hq
   rw[Yb (by rw[this];simp)]
   exact fin es H (λb o _ _ z=>z) hel hsp (by unfold Zek;rw[hq];rfl)
  |some q =>
   have:A'≠[]:=λz=>by rw[z]at hq;cases hq
   rw[Yc (by have:=List.length_pos_iff.mpr this;omega)]
   exact mid es H (λb o _ _ z=>z) hel rfl hsp q hq (by unfold Zek;rw[hq];rfl)
 |cons b Br =>
  rw[Yc (by simp;omega)]
  have hat:(A'++b::Br)[A'.length]?=some b:=by rw[YM (Ye _)];simp
  have hbn:b<es.length:=hq b (by simp)
  refine⟨_,SqL.of hsp,_,Zcb hat,_,_,rfl,hel,b,by rw[Yh];exact Zdq hbn,?_⟩
  have em:(es.map V.int).set b (V.int (i:Nat))=(es.set b (i:Int)).map V.int:=by rw[List.map_set]
  rw[em]
  cases hq2:A'.getLast? with
  |none =>
   have:A'=[]:=List.getLast?_eq_none_iff.mp hq2
   rw[Yb (by rw[this];simp)]
   exact fin (es.set b i) _ (λc o n1 n2 z=>by rw[Zg n1];exact z) Zd (by rw[Zg hne.symm];exact hsp) (by unfold Zek;rw[hq2];rfl)
  |some q =>
   have:A'≠[]:=λz=>by rw[z]at hq2;cases hq2
   rw[Yc (by have:=List.length_pos_iff.mpr this;omega)]
   exact mid (es.set b i) _ (λc o n1 n2 z=>by rw[Zg n1];exact z) Zd (by simp) (by rw[Zg hne.symm];exact hsp) q hq2 (by unfold Zek;rw[hq2];rfl)
theorem ZhG {f:Addr}{fd:FuncData} (F:Fun K "tree_of" "tree_of" Za4 f fd) (ZeR:Callee P w K mg base "settle" 1 ["elders","spine","place","keep"] (ZdM K mg)) (T:Txt K mg):FnOk P w K mg base (CXE P w) 2 f fd ["row"] (Zc7 K mg):=by
 refine F.okX ZaQ (λvs H Q E h=>?_) (λcdv A outer s H vs Q E hr h=>?_)
 ·obtain⟨r,ns,rfl,_⟩:=h;rfl
 obtain⟨r,ns,rfl,hS,hn,k1⟩:=h
 refine⟨_,(Zb (Zk (i:=1) ZaQ.nd rfl (Or.inl rfl) (Zi op_rep (Z9 (Za (Zeu ZcZ Ze) Zc)) (Zn (Zo (K:=K) rfl) rfl T.b_len Yv (Za (pv 0) Zc))))
   (Zb (Zk (i:=2) ZaQ.nd rfl (Or.inl rfl) (Z9 Zc))
   (Zb (Zag (ZaJ PassesOwn.never rfl (ZU rfl T.b_range (Za (Zn (Zo (K:=K) rfl) rfl T.b_len Yv (Za (pv 0) Zc)) Zc)) (Zm (i:=3) ZaQ.nd rfl (Or.inl rfl)) (Zb (Zk (i:=4) ZaQ.nd rfl (Or.inl rfl) (Zn (Zo (K:=K) rfl) rfl T.b_len Yv (Za (pv 2) Zc)))
   (Zb (Zag (Zet PassesOwn.never (PW.pt (Zhh (Zs Zev (pv 4) Ze (Zz _)) (ZfI (Zs Zev (ZM (ZiM (K:=K) rfl) (pv 0) (ZM ZG (pv 2) (Zi ZcX (pv 4) Ze) (λ_ _=>rfl)) (λ_ _=>rfl)) (ZM (ZiM (K:=K) rfl) (pv 0) (pv 3) (λ_ _=>rfl)) (Zz _))))) (Zh (Zhj (i:=4) ZaQ.nd rfl (Or.inl rfl) Ze ip_sub))))
   (Zh (ZaR (Zj ZeR (hr.mono (by decide)) rfl ZS (Za (pv 1) (Za (pv 2) (Za (pv 3) (Za (pv 4) Zc)))))))))))
   (Zh (ZL (ZcI (ZiL (K:=K) rfl) rfl T.b_tuple Zey (Za (pv 1) Zc))))))),?_⟩
 walk_at "rd"
 have eL:(ns.map V.int).length=ns.length:=Yh ..
 refine⟨by decide,λp hp=>⟨_,((Zf.refl H).upd hp).q hS,_,Zd,by omega,by rw[eL];omega,?_,λel hel=>⟨Ym _,λsp hsp=>?_⟩⟩⟩
 ·exact Yj (show _<=1000 by simp;omega) (by decide)
 have s0:Zf H (upd (upd (upd H p (.lst [V.int (-1)])) el (.lst (List.replicate (((ns.map V.int).length:Nat):Int).toNat [V.int (-1)]).flatten)) sp (.lst [])):=(((Zf.refl H).upd hp).Zbg hel).Zbg hsp
 refine⟨_,s0.q hS,by omega,by rw[eL];omega,?_⟩
 have en:(((ns.map V.int).length:Nat):Int).toNat=ns.length:=by rw[eL];omega
 have hel0:(upd (upd (upd H p (.lst [V.int (-1)])) el (.lst (List.replicate (((ns.map V.int).length:Nat):Int).toNat [V.int (-1)]).flatten)) sp (.lst [])) el=some (.lst ((List.replicate ns.length (-1:Int)).map V.int)):=by
  have:=((Zf.refl _).Zbg (o:=.lst []) hsp) el _ Zd
  rw[this,en];simp
 have hsp0:(upd (upd (upd H p (.lst [V.int (-1)])) el (.lst (List.replicate (((ns.map V.int).length:Nat):Int).toNat [V.int (-1)]).flatten)) sp (.lst [])) sp=some (.lst (Zw [])):=Zd
 have nes:el≠sp:=λz=>by
  subst z
  rw[Zd]at hsp;cases hsp
 have zel:H el=none:=((Zf.refl H).upd hp).free hel
 have zsp:H sp=none:=(((Zf.refl H).upd hp).Zbg hel).free hsp
 rw[en]at hel0 hsp0 s0⊢
 generalize (upd (upd (upd H p (.lst [V.int (-1)])) el (.lst (List.replicate ns.length [V.int (-1)]).flatten)) sp (.lst []))=H0 at s0 hel0 hsp0⊢
 refine ZaK (λi σ Hx=>∃(es:List Int) (S:List Nat) (v3 v4:Option V),σ=[some (.ref r),some (.ref el),some (.ref sp),v3,v4]/\Zf H Hx/\Hx el=some (.lst (es.map V.int))/\Hx sp=some (.lst (Zw S))/\es.length=ns.length/\ZjI (nth ns) i S/\(∀p e,p<i->e=es.getD p 0->Zp (nth ns) i p e)/\∀p,i<=p->p<ns.length->es.getD p 0=-1)
  ⟨List.replicate ns.length (-1),[],none,none,rfl,s0,hel0,hsp0,by simp,⟨List.Pairwise.nil,λq=>by simp⟩,λp e hp=>by omega,λp _ hp=>by simp[Yu,hp]⟩ ?_ ?_
 ·rintro i σ Hx hi ⟨es,S,v3,v4,rfl,sx,hxe,hxs,hesl,hS2,hE,hE2⟩
  walk_at "rd"
  have hin:i<ns.length:=by omega
  have hSl:S.length<=1000:=by
   rcases ZjM S i 0 hS2.1 (λq hq=>⟨Ym _,((hS2.2 q).mp hq).1⟩)with z|z
   ·omega
   ·rw[z];simp
  refine⟨_,.inl (SqL.of hxs),?_⟩
  rw[Zaa]
  refine Zie S.length (λj σ Hy=>∃A B,S=A++B/\B.length=j/\(∀q∈B,nth ns i<nth ns q)/\σ=[some (.ref r),some (.ref el),some (.ref sp),some (.int (0+(i:Int))),some (.int (A.length:Nat))]/\Hy=Hx) ⟨S,[],by simp,rfl,(λq hq=>absurd hq (by simp)),rfl,rfl⟩ ?_
  rintro j σ Hy hj ⟨A,B,hAB,hBl,hBg,rfl,rfl⟩
  walk_at "rd"
  have hmem:∀q,q∈A++B->q<i:=λq hq=>((hS2.2 q).mp (by rw[hAB];exact hq)).1
  have hix:(0+(i:Int))=(i:Int):=by omega
  rw[hix]
  by_cases hA0:A=[]
  case' pos =>
   rw[Yb (by rw[hA0];simp)]
   have hA:∀q∈A,nth ns q<=nth ns i:=λq hq=>absurd hq (by rw[hA0];simp)
  case' neg =>
   obtain⟨q,Al,rfl⟩:∃q Al,A=Al++[q]:=⟨A.getLast hA0,A.dropLast,(List.dropLast_concat_getLast hA0).symm⟩
   have hal:(Al++[q]).length=Al.length+1:=by simp
   rw[Yc (by rw[hal];omega)]
   have eiA:(((Al++[q]).length:Nat):Int)-1=(Al.length:Int):=by rw[hal];omega
   have hat:S[Al.length]?=some q:=by
    rw[hAB,YG,YM (Ye _)];simp
   have hqi:q<i:=hmem q (by simp)
   refine⟨_,SqL.of hxs,_,by rw[eiA];exact Zcb hat,_,_,rfl,sx.q hS,_,Za7 (by omega),_,sx.q hS,_,Za7 hin,_,rfl,_,rfl,ZaX (λhlt=>?_) (λhge=>?_)⟩
   ·have hj2:j+1<=S.length:=by rw[hAB,Yt,hal];omega
    refine⟨_,WI.next,hj2,Al,q::B,by rw[hAB];simp,by simp[hBl],λx hx=>?_,by rw[eiA],rfl⟩
    rcases Yq.mp hx with z|z
    ·rw[z];exact hlt
    ·exact hBg x z
   have hA:∀x∈Al++[q],nth ns x<=nth ns i:=λx hx=>by
    by_cases z:x=q
    ·rw[z];omega
    ·have hxa:x∈Al:=by
      rcases Yz.mp hx with y|y
      ·exact y
      ·exact absurd (by simpa using y) z
     have hpw:=hS2.1
     rw[hAB]at hpw
     have hxq:x<q:=(List.pairwise_append.mp (List.pairwise_append.mp hpw).1).2.2 x hxa q (by simp)
     have:=((hS2.2 x).mp (by rw[hAB];exact YF _ hx)).2 q hxq hqi
     omega
   generalize Al++[q]=A at hA hAB hmem hA0⊢
  all_goals
   have SS:=Zhy (f:=nth ns) (i:=i) (A:=A) (B:=B) (by rw[<-hAB];exact hS2) hA hBg
   refine⟨el,sp,es,A,B,i,rfl,hxe,by rw[<-hAB];exact hxs,nes,by omega,λq hq=>by have:=hmem q hq;omega,by rw[<-hAB];exact hSl,λH' q1 q2 q3=>?_⟩
   have hbi:∀b,B.head?=some b->b≠i:=λb hb=>by
    have:=hmem b (Ys _ (List.mem_of_head? hb));omega
   refine⟨λb o z=>q1 b o (ZA z zel) (ZA z zsp) (sx b o z),Zek es A B i,q2,A++[i],q3,by rw[ZjL];exact hesl,SS.1,λp e hp he=>?_,λp hp1 hp2=>?_⟩
   ·rw[Zih _ _ _ _ _ (by omega) hbi]at he
    by_cases z:p=i
    ·subst z
     rw[Yc rfl,hE2 p (Ye _) (by omega)]at he
     rw[he];exact SS.2.1
    ·rw[Yb z]at he
     rw[he]
     exact SS.2.2 p _ (by omega) (hE p _ (by omega) rfl)
   ·rw[Zih _ _ _ _ _ (by omega) hbi,Yb (by omega),Yb (λz=>?_)]
    ·exact hE2 p (by omega) hp2
    ·have:=hmem p (Ys _ (List.mem_of_head? z));omega
 ·rintro σ Hx ⟨es,S,v3,v4,rfl,sx,hxe,hxs,hesl,hS2,hE,hE2⟩
  walk_at "rd"
  exact⟨_,.inl ⟨SqL.of hxe,λt ht=>k1 t es _ ⟨hesl,λp hp=>hE p _ hp rfl⟩ (sx.Zbg ht) Zd⟩⟩
theorem Zjd {f:Addr}{fd:FuncData} (F:Fun K "way_up" "way_up" ZbK f fd) (T:Txt K mg):FnOk P w K mg base (CXE P w) 1 f fd ["tree","place"] (ZcN K mg):=by
 refine F.okX ZcO (λvs H Q E h=>?_) (λcdv A outer s H vs Q E hr h=>?_)
 ·obtain⟨t,T,p,rfl,_⟩:=h;rfl
 obtain⟨t,T',p,rfl,ht,hn,hp,k1⟩:=h
 refine⟨_,(Zb (Zk (i:=2) ZcO.nd rfl (Or.inl rfl) (Z9 Zc))
   (Zb (Zk (i:=3) ZcO.nd rfl (Or.inl rfl) (ZM Zc0 (pv 0) (pv 1) (λ_ _=>rfl)))
   (Zb (Zag (Zet PassesOwn.never (PW.pt (Zhh (Zjq op_le Zgs Ze (pv 3) (Zn (Zo (K:=K) rfl) rfl T.b_len Yv (Za (pv 0) Zc))) (ZfI (Zs Zgs (Zn (Zo (K:=K) rfl) rfl T.b_len Yv (Za (pv 2) Zc)) (Zn (Zo (K:=K) rfl) rfl T.b_len Yv (Za (pv 0) Zc)) (Zz _))))) (Zb (ZaR (ZdW PySem.F.plainAttrs_list PySem.F.slot_list_append PySem.F.type_list_append Za3 (pv 2) (Za (pv 3) Zc)))
   (Zh (Zk (i:=3) ZcO.nd rfl (Or.inl rfl) (ZM Zc0 (pv 0) (pv 3) (λ_ _=>rfl)))))))
   (Zh (ZL (pv 2)))))),?_⟩
 walk_at "rd"
 refine⟨Ym _,λl hl=>⟨_,(((Zf.refl H).upd hl).Zan ht),_,Za7 hp,?_⟩⟩
 refine Zie T'.length (λj σ Hx=>Zf H Hx/\Hx l=some (.lst (Zw (Z3 T' j (nth T' p))))/\(Z3 T' j (nth T' p)).length=j/\σ=[some (.ref t),some (.int p),some (.ref l),some (.int (Zae T' j (nth T' p)))]) ⟨(Zf.refl H).upd hl,Zd,rfl,rfl⟩ ?_
 rintro j σ Hx hj ⟨sx,hxl,hjl,rfl⟩
 walk_at "rd"
 have hlen:(Zw (Z3 T' j (nth T' p))).length=j:=by rw[Zaa];exact hjl
 have eL:(T'.map V.int).length=T'.length:=Yh ..
 have done:(j=T'.length\/¬ (0<=Zae T' j (nth T' p)/\Zae T' j (nth T' p)<T'.length))->Q (.ref l) Hx:=λz=>by
  refine k1 l Hx hl sx ?_
  have:Z3 T' T'.length (nth T' p)=Z3 T' j (nth T' p):=by
   rcases z with z|z
   ·rw[<-z]
   ·exact Zfu T' j _ _ hj hjl z
  rw[hxl];unfold Zc4;rw[this];simp[Zw]
 refine ZaX (λh0=>⟨_,.inr ((sx.Zan ht)),ZaX (λh1=>⟨_,.inl (SqL.of hxl),_,.inr ((sx.Zan ht)),ZaX (λh2=>?_) λh2=>done (.inl (by rw[hlen,eL]at h2;omega))⟩) λh1=>done (.inr (by rw[eL]at h1;omega))⟩) λh0=>done (.inr (by omega))
 rw[eL]at h1;rw[hlen,eL]at h2
 obtain⟨a1,a2⟩:=Zft T' j (nth T' p) h0 h1 hjl
 have ei:Zae T' j (nth T' p)=(((Zae T' j (nth T' p)).toNat:Nat):Int):=by omega
 refine⟨_,WI.next,ZaV hxl,_,hxl,by rw[hlen];exact Yx (show _<=1000 by omega) (by decide),_,(sx.upd hl).Zan ht,_,(congrArg (atI _) ei).trans (Za7 (by omega)),by omega,sx.upd hl,?_,?_,?_⟩
 ·rw[Zd,a1,ZcK]
  have:Zw [(Zae T' j (nth T' p)).toNat]=[V.int (Zae T' j (nth T' p))]:=by rw[ei];simp[Zw]
  rw[this]
 ·rw[a1];simp[hjl]
 ·rw[a2]
theorem ZhH {f:Addr}{fd:FuncData} (F:Fun K "is_tree" "is_tree" Za5 f fd) (ZdO:Callee P w K mg base "tree_of" 2 ["row"] (Zc7 K mg)) (ZbM:Callee P w K mg base "way_up" 1 ["tree","place"] (ZcN K mg)) (T:Txt K mg):FnOk P w K mg base (CXE P w) 3 f fd ["tree"] (Zc8 K mg):=by
 refine F.okX ZeO (λvs H Q E h=>?_) (λcdv A outer s H vs Q E hr h=>?_)
 ·obtain⟨t,T,rfl,_⟩:=h;rfl
 obtain⟨t,T',rfl,ht,hn,k1,k2⟩:=h
 refine⟨_,(Zb (Zbh (PW.pt (ZhW (Zhi (Zhf (Zn (Zja (K:=K) rfl) rfl T.b_isinstance Zbt (Za (pv 0) (Za (ZfH (v:=.ty "tuple") rfl T.b_tuple Zey rfl) Zc))))) (Zhg (Zs Zev (Zn (Zo (K:=K) rfl) rfl T.b_len Yv (Za (pv 0) Zc)) (ZkD (v:=.int 40) rfl T.m_MOST_PLACES ⟨_,rfl⟩) (Zz _))))) (Zh (ZL ZhV)) Z5)
   (Zb (ZbG (i:=1) ["place","tree"] [none,some 0] ZeO.nd rfl (Or.inl rfl) rfl rfl rfl (ZU rfl T.b_range (Za (Zn (Zo (K:=K) rfl) rfl T.b_len Yv (Za (pv 0) Zc)) Zc)) (λ_ _ _ _ _=>(Zm (i:=0) (show(["place","tree"]:List Str).Nodup from by decide +kernel) rfl (Or.inl rfl))) (λ_ _ _ _ _=>ZbF) (λ_ _ _ _ _=>(Zn (Zo (K:=K) rfl) rfl T.b_len Yv (Za (Zj ZbM (hr.mono (by decide)) rfl ZS (Za (pv 1) (Za (pv 0) Zc))) Zc))) ZO)
   (Zh (ZL (ZfK (Zhv (K:=K) rfl hr) (Zj ZdO (hr.mono (by decide)) rfl ZS (Za (pv 1) Zc)) (pv 0) (Zz _)))))),?_⟩
 walk_at "rd"
 have eL:(T'.map V.int).length=T'.length:=Yh ..
 refine⟨_,ht,_,.inr ht,ZaX (λz=>k2 (λg=>?_) _ (Zf.refl H)) λz=>⟨_,.inr ht,by omega,by rw[eL];omega,?_⟩⟩
 ·rw[eL]at z;have:=g.1;omega
 rw[eL]at z⊢
 have en:((T'.length:Nat):Int).toNat=T'.length:=by omega
 rw[en]
 refine comp_map (n:=T'.length) (λq=>V.int (nth (Zc3 T') q)) (Yx hn (by decide)) (λj Hx s hj=>hj) (λHx s=>Ye _) ?_ ?_
 ·rintro j x Hx Hy hj s ⟨rfl,rfl⟩
  walk_at "rd"
  refine⟨t,T',j,by simp,s.Zan ht,hn,hj,λl H9 hl s9 h9=>⟨l,rfl,_,.inl (SqL.of h9),CW.next hj ?_ (s.trans s9)⟩⟩
  rw[ZgF hj,Yh];simp[Zc4]
 ·intro l' Hx s hl'
  have ed:(List.range T'.length).map (λq=>V.int (nth (Zc3 T') q))=(Zc3 T').map V.int:=by
   rw[<-Zdo T'];exact range_getD _ _ V.int _ rfl
  rw[ed]
  have u:=s.Zbg (o:=.lst ((Zc3 T').map V.int)) hl'
  refine⟨l',Zc3 T',rfl,.inl (SqL.of Zd),by rw[Zdo];exact hn,λt2 es H2 hT2 s2 ht2=>⟨t2,rfl,_,Zid (n:=2) ZfY _ _ es T' (Zdm (SqT.of ht2)) (Zdm (((u.trans s2).Zan ht))),?_⟩⟩
  by_cases g:es=T'
  ·rw[YQ g];exact k1 ⟨by omega,_,g▸hT2⟩ _ (u.trans s2)
  ·rw[YD g];exact k2 (λgg=>g (hT2.unique ((ZiS T').mp gg.2))) _ (u.trans s2)
theorem Zgc {f:Addr}{fd:FuncData} (F:Fun K "need_tree" "need_tree" Zav f fd) (ZdP:Callee P w K mg base "is_tree" 3 ["tree"] (Zc8 K mg)) (T:Txt K mg):FnOk P w K mg base (CXE P w) 4 f fd ["tree"] (ZbW K mg):=by
 refine F.okX Zf7 (λvs H Q E h=>?_) (λcdv A outer s H vs Q E hr h=>?_)
 ·obtain⟨t,T,rfl,_⟩:=h;rfl
 obtain⟨t,T',rfl,ht,hn,k1,k2⟩:=h
 refine⟨_,(Zh (Zbh (Zhi (Zhf (Zj ZdP (hr.mono (by decide)) rfl ZS (Za (pv 0) Zc)))) (Zh (ZjC rfl rfl T.c_NoTree T.x_NoTree (Za (ZiJ (Zia (by decide) (pj_int (Zn (Zo (K:=K) rfl) rfl T.b_len Yv (Za (pv 0) Zc)) (Zia (by decide) pj_nil)))) Zc) ZkN)) Z5)),?_⟩
 walk_at "rd"
 exact⟨t,T',rfl,ht,hn,λg H1 s1=>⟨true,rfl,ZaX (λz=>nomatch z) λ_=>k1 g _ s1⟩,λg H1 s1=>⟨false,rfl,ZaX (λ_=>⟨_,.inr ((s1.Zan ht)),by omega,by rw[Yh];omega,λy=>⟨by decide,k2 g _ s1⟩⟩) λz=>absurd rfl z⟩⟩
theorem Zgd {f:Addr}{fd:FuncData} (F:Fun K "fences_of" "fences_of" Zaw f fd) (ZbM:Callee P w K mg base "way_up" 1 ["tree","place"] (ZcN K mg)) (T:Txt K mg):FnOk P w K mg base (CXE P w) 2 f fd ["tree"] (ZbX K mg):=by
 refine F.okX Zad (λvs H Q E h=>?_) (λcdv A outer s H vs Q E hr h=>?_)
 ·obtain⟨t,ns,T,rfl,_⟩:=h;rfl
 obtain⟨t,ns,T',rfl,ht,hT,hn,k1⟩:=h
 refine⟨_,(Zb (Zk (i:=1) Zad.nd rfl (Or.inl rfl) (Z9 Zc))
   (Zb (Zag (ZaJ PassesOwn.never rfl (ZU rfl T.b_range (Za (Zn (Zo (K:=K) rfl) rfl T.b_len Yv (Za (pv 0) Zc)) Zc)) (Zm (i:=2) Zad.nd rfl (Or.inr rfl)) (Zb (Zk (i:=3) Zad.nd rfl (Or.inl rfl) (Zj ZbM (hr.mono (by decide)) rfl ZS (Za (pv 0) (Za (pv 2) Zc))))
   (Zb (Zk (i:=4) Zad.nd rfl (Or.inl rfl) (Zk2 (K:=K) rfl rfl rfl T.b_max (Za (Zcc ["elder","place"] [none,some 2] rfl rfl rfl (ZcH (pv 3)) (λ_ _ _ _ _=>(Zm (i:=0) (show(["elder","place"]:List Str).Nodup from by decide +kernel) rfl (Or.inl rfl))) (λ_ _ _ _ _=>Zca (Zs Zgs (pv 0) (pv 1) (Zz _))) (λ_ _ _ _ _=>(pv 0)) ZO) Zc) (ZfM (Zeu ZcZ Ze) Zho)))
   (Zb (Zk (i:=5) Zad.nd rfl (Or.inl rfl) (Zk3 (K:=K) rfl rfl rfl T.b_min (Za (Zcc ["elder","place"] [none,some 2] rfl rfl rfl (ZcH (pv 3)) (λ_ _ _ _ _=>(Zm (i:=0) (show(["elder","place"]:List Str).Nodup from by decide +kernel) rfl (Or.inl rfl))) (λ_ _ _ _ _=>Zca (Zs Zev (pv 0) (pv 1) (Zz _))) (λ_ _ _ _ _=>(pv 0)) ZO) Zc) (ZfM (Zn (Zo (K:=K) rfl) rfl T.b_len Yv (Za (pv 0) Zc)) Zho)))
   (Zh (ZaR (ZdW PySem.F.plainAttrs_list PySem.F.slot_list_append PySem.F.type_list_append Za3 (pv 1) (Za (ZdH (Za (pv 4) (Za (pv 5) Zc))) Zc)))))))))
   (Zh (ZL (pv 1))))),?_⟩
 walk_at "rd"
 have eT:T'.length=ns.length:=hT.1
 have eL:(T'.map V.int).length=T'.length:=Yh ..
 refine⟨Ym _,λp hp=>?_⟩
 have s0:Zf H (upd H p (.lst [])):=(Zf.refl H).upd hp
 refine⟨_,.inr ((s0.Zan ht)),by omega,by rw[eL];omega,?_⟩
 have en:(((T'.map V.int).length:Nat):Int).toNat=ns.length:=by rw[eL];omega
 rw[en]
 have h0:Zal (upd H p (.lst [])) p 0 (λp=>(ZaI (nth ns) p,ZaM (nth ns) ns.length p)):=⟨[],Zd,rfl,λj q hq=>by simp at hq⟩
 generalize upd H p (.lst [])=H0 at s0 h0⊢
 refine ZaK (λi σ Hx=>∃v2 v3 v4 v5,σ=[some (.ref t),some (.ref p),v2,v3,v4,v5]/\Zal Hx p i (λp=>(ZaI (nth ns) p,ZaM (nth ns) ns.length p))/\Zf H Hx) ⟨_,_,_,_,rfl,h0,s0⟩ ?_ ?_
 ·rintro i σ Hx hi ⟨v2,v3,v4,v5,rfl,hP,sx⟩
  have e0:((0:Int)+(i:Int))=(i:Int):=by omega
  rw[e0]
  have hpi:i<ns.length:=hi
  have hw1:(Zc4 T' i).length<=1000:=by simp only[Zc4,Yh];exact Yj (ZgH _ _ _) (by omega)
  refine Za8 (fun σ Hy=>∃w:Addr,σ=[some (.ref t),some (.ref p),some (.int (i:Int)),some (.ref w),v4,v5]/\Hy w=some (.lst ((Zc4 T' i).map V.int))/\Zal Hy p i (λp=>(ZaI (nth ns) p,ZaM (nth ns) ns.length p))/\Zf H Hy) (λR hR=>?_) ?_
  ·walk_at "rd"
   exact⟨t,T',i,rfl,sx.Zan ht,by omega,by omega,λw H1 hw s1 h1=>hR _ _ ⟨w,rfl,h1,hP.same s1,sx.trans s1⟩⟩
  rintro σ Hy ⟨w,rfl,hw,hP1,sy⟩
  refine Za8 (fun σ Hz=>σ=[some (.ref t),some (.ref p),some (.int (i:Int)),some (.ref w),some (.int (ZaI (nth ns) i)),v5]/\Hz w=some (.lst ((Zc4 T' i).map V.int))/\Zal Hz p i (λp=>(ZaI (nth ns) p,ZaM (nth ns) ns.length p))/\Zf H Hz) (λR hR=>?_) ?_
  ·walk_at "rd"
   refine⟨⟨_,SqL.of hw⟩,Zfw (λo=>decide (o<(i:Int))) hw hw1 (λx Hy R hR=>?_) λl H2 s2 hl=>?_⟩
   ·walk_at "rd"
    exact hR
   have FA:=ZjQ hT hpi
   have g:=s2.Zbg (o:=.lst (((Zc4 T' i).filter λo=>decide (o<(i:Int))).map V.int)) hl
   refine⟨l,rfl,_,SqL.of Zd,λe=>?_,λhne m hm hmax=>?_⟩
   ·rw[<-FA.1 e]
    exact hR _ _ ⟨rfl,g _ _ hw,hP1.same g,sy.trans g⟩
   ·rw[FA.2 hne m hm hmax]
    exact hR _ _ ⟨rfl,g _ _ hw,hP1.same g,sy.trans g⟩
  clear hw hP1 sy Hy
  rintro σ Hy ⟨rfl,hw,hP1,sy⟩
  refine Za8 (fun σ Hz=>σ=[some (.ref t),some (.ref p),some (.int (i:Int)),some (.ref w),some (.int (ZaI (nth ns) i)),some (.int (ZaM (nth ns) ns.length i))]/\Zal Hz p i (λp=>(ZaI (nth ns) p,ZaM (nth ns) ns.length p))/\Zf H Hz) (λR hR=>?_) ?_
  ·walk_at "rd"
   refine⟨⟨_,SqL.of hw⟩,Zfw (λo=>decide ((i:Int)<o)) hw hw1 (λx Hy R hR=>?_) λl H2 s2 hl=>?_⟩
   ·walk_at "rd"
    exact hR
   have FB:=ZjR hT hpi
   have g:=s2.Zbg (o:=.lst (((Zc4 T' i).filter λo=>decide ((i:Int)<o)).map V.int)) hl
   refine⟨_,.inr (((sy.trans g).Zan ht)),l,rfl,_,SqL.of Zd,λe=>?_,λhne m hm hmin=>?_⟩
   ·rw[eL,eT,<-FB.1 e]
    exact hR _ _ ⟨rfl,hP1.same g,sy.trans g⟩
   ·rw[FB.2 hne m hm hmin]
    exact hR _ _ ⟨rfl,hP1.same g,sy.trans g⟩
  clear hw hP1 sy Hy
  rintro σ Hy ⟨rfl,hP1,sy⟩
  walk_at "rd"
  obtain⟨qs,hq1,hq2,hq3⟩:=id hP1
  refine⟨ZaV hq1,by decide,λq hq=>?_⟩
  have g:=(Zf.refl Hy).upd (o:=.tup [.int (ZaI (nth ns) i),.int (ZaM (nth ns) ns.length i)]) hq
  obtain⟨xs,hx1,hx2,hx3⟩:=(hP1.same g).push (q:=q) Zd
  have zp:H p=none:=hp
  refine⟨xs,hx1,Yx (show _<=1000 by omega) (by decide),hx3,λb o z=>?_⟩
  rw[Zg (ZA z zp)]
  exact(sy.trans g) b o z
 ·rintro σ Hx ⟨v2,v3,v4,v5,rfl,hP,sx⟩
  walk_at "rd"
  exact k1 p Hx sx hP
theorem ZgT {f:Addr}{fd:FuncData} (F:Fun K "spans_of" "spans_of" ZaO f fd) (Zch:Callee P w K mg base "need_tree" 4 ["tree"] (ZbW K mg)) (Zci:Callee P w K mg base "fences_of" 2 ["tree"] (ZbX K mg)) (T:Txt K mg):FnOk P w K mg base (CXE P w) 5 f fd ["tree"] (Zcg K mg):=by
 refine F.okX ZgR (λvs H Q E h=>?_) (λcdv A outer s H vs Q E hr h=>?_)
 ·obtain⟨t,T,rfl,_⟩:=h;rfl
 obtain⟨t,T',rfl,ht,hn,k⟩:=h
 refine⟨_,(Zb (ZaR (Zj Zch (hr.mono (by decide)) rfl ZkM (Za (pv 0) Zc)))
   (Zh (ZL (Zcc ["ahead","behind"] [none,none] rfl rfl rfl (ZcH (Zj Zci (hr.mono (by decide)) rfl ZS (Za (pv 0) Zc))) (λ_ _ _ _ _=>(ZkP (K:=K) (n:=2) rfl rfl (Zai (Zm (i:=0) (show(["ahead","behind"]:List Str).Nodup from by decide +kernel) rfl (Or.inl rfl)) (Zai (Zm (i:=1) (show(["ahead","behind"]:List Str).Nodup from by decide +kernel) rfl (Or.inl rfl)) Zdk)))) (λ_ _ _ _ _=>ZbF) (λ_ _ _ _ _=>(ZdH (Za (Zi Z2 (pv 0) Ze) (Za (Zi ZcX (pv 1) Ze) Zc)))) (Zjy (Zfm ZO (Zfm ZO Zjx))))))),?_⟩
 walk_at "rd"
 refine⟨t,T',rfl,ht,hn,λg H1 s1=>?_,λg H1 s1=>?_⟩
 ·rcases k with⟨ns,h40,hT,k1⟩|⟨ng,_⟩
  ·have eT:=hT.1
   refine⟨t,ns,T',rfl,s1.Zan ht,hT,by omega,λl H2 s2 hP=>⟨l,rfl,?_⟩⟩
   obtain⟨qs,h1,h2,h3⟩:=hP
   refine⟨⟨_,SqL.of h1⟩,?_⟩
   refine Zez (n:=ns.length) (λj acc Hz=>∃as:List Addr,acc=as.map V.ref/\as.length=j/\(∀i (h:i<as.length),Hz as[i]=some (.tup ([ZaI (nth ns) i+1,ZaM (nth ns) ns.length i-1].map V.int)))/\Zf H2 Hz) (Yx (show _<=1000 by omega) (by decide)) ⟨[],rfl,rfl,(λi h=>absurd h (by simp)),Zf.refl _⟩ (λj acc Hz ⟨_,_,_,_,sz⟩ hj=>⟨_,_,SqL.of (sz _ _ h1),Yf (by rw[Yh];omega)⟩) (λacc Hz ⟨_,_,_,_,sz⟩=>⟨_,SqL.of (sz _ _ h1),by rw[Yh];omega⟩) ?_ ?_
   ·rintro j x acc Hz Hw hj hla ⟨as,rfl,hal,hat,sz⟩ ⟨rfl,hx⟩
    have ex:=hx _ (SqL.of (sz _ _ h1))
    obtain⟨q,hq⟩:∃q,qs[j]?=some q:=⟨qs[j]'(by omega),Yf (by omega)⟩
    rw[YA,hq]at ex
    cases ex
    have hq1:=sz _ _ (h3 j q hq)
    dsimp only at hq1
    walk_at "rd"
    refine⟨_,SqT.of hq1,rfl,_,_,rfl,_,_,rfl,rfl,_,rfl,_,rfl,by decide,λu hu=>?_⟩
    have g1:=(Zf.refl Hw).upd (o:=.tup [V.int (ZaI (nth ns) j+1),V.int (ZaM (nth ns) ns.length j-1)]) hu
    refine CA.take hj hla ⟨as++[u],by simp,by simp[hal],λi h=>?_,sz.trans g1⟩
    by_cases e:i<as.length
    ·rw[YI e];exact g1 _ _ (hat i e)
    ·have:i=as.length:=by simp at h;omega
     subst this
     simp only[List.getElem_concat_length]
     rw[Zd,hal]
   ·rintro l' acc Hz ⟨as,rfl,hal,hat,sz⟩ _ hl'
    have g1:=sz.Zbg (o:=.lst (as.map V.ref)) hl'
    refine k1 l' _ ((s1.trans (s2.trans sz)).free hl') (s1.trans (s2.trans g1)) ⟨as,Zd,by simp[ZeN,hal],λi i1 i2=>?_⟩
    have:=((Zf.refl Hz).upd (o:=.lst (as.map V.ref)) hl') _ _ (hat i i1)
    rw[this]
    simp[ZeN]
  ·exact absurd g ng
 ·rcases k with⟨ns,h40,hT,k1⟩|⟨ng,k2⟩
  ·exact absurd ⟨h40,ns,hT⟩ g
  ·exact k2 _ s1
theorem Zge {f:Addr}{fd:FuncData} (F:Fun K "_law_ways" "_law_ways" ZaB f fd) (T:Txt K mg):FnOk P w K mg base (CXE P w) 1 f fd ["p","q"] (ZbV K mg):=by
 refine F.okX Za1 (λvs H Q E h=>?_) (λcdv A outer s H vs Q E hr h=>?_)
 ·obtain⟨p,q,rfl,_⟩:=h;rfl
 obtain⟨p,q,rfl,hp,hq,k1⟩:=h
 refine⟨_,(Zb (Zk (i:=2) Za1.nd rfl (Or.inl rfl) Ze)
   (Zb (Zag (ZaJ PassesOwn.never rfl (ZU rfl T.b_range (Za (pv 1) Zc)) (Zm (i:=3) Za1.nd rfl (Or.inl rfl)) (Zh (Zk (i:=2) Za1.nd rfl (Or.inl rfl) (Zi ZeH (Zi Zak (pv 2) (Zi Z2 (Zi Z2 (pv 0) (pv 3)) Ze)) (Zi Z2 (pv 3) Ze))))))
   (Zh (ZL (pv 2))))),?_⟩
 walk_at "rd"
 refine⟨by omega,by omega,?_⟩
 have e1:((q:Int)).toNat=q:=by omega
 rw[e1]
 refine ZaK (λt σ Hx=>∃v3:Option V,σ=[some (.int p),some (.int q),some (.int (chN p t)),v3]/\Hx=H) ⟨none,by cases p<;>simp[chN],rfl⟩ ?_ ?_
 ·rintro t σ Hx ht ⟨v3,rfl,rfl⟩
  walk_at "rd"
  refine⟨mul_r (by omega) (by omega),⟨by omega,by omega⟩,?_,_,rfl⟩
  have e2:((chN p t:Nat):Int)*((p:Int)+(0+(t:Int))+1)=(chN p (t+1):Nat)*(0+(t:Int)+1):=by
   have:=ZjY p t
   have e3:((chN p t*(p+t+1):Nat):Int)=((chN p (t+1)*(t+1):Nat):Int):=by rw[this]
   simpa using e3
  rw[e2]
  exact Int.mul_ediv_cancel _ (by omega)
 ·rintro σ Hx ⟨v3,rfl,rfl⟩
  walk_at "rd"
  exact k1
theorem ZeQ {f:Addr}{fd:FuncData} (F:Fun K "many_orders" "many_orders" Z0 f fd) (Zda:Callee P w K mg base "spans_of" 5 ["tree"] (Zcg K mg)) (T:Txt K mg):FnOk P w K mg base (CXE P w) 6 f fd ["tree"] (Zbc K mg):=by
 refine F.okX ZF (λvs H Q E h=>?_) (λcdv A outer s H vs Q E hr h=>?_)
 ·obtain⟨t,ns,T,rfl,_⟩:=h;rfl
 obtain⟨t,ns,T',rfl,ht,hT,h40,k1⟩:=h
 refine⟨_,(Zb (Zk (i:=1) ZF.nd rfl (Or.inl rfl) Ze)
   (Zb (Zk (i:=2) ZF.nd rfl (Or.inl rfl) Ze)
   (Zb (Zag (ZaJ PassesOwn.never rfl (ZjW (K:=K) rfl rfl T.b_enumerate (Za (Zj Zda (hr.mono (by decide)) rfl ZS (Za (pv 0) Zc)) Zc) (ZfM Ze Zho)) (Zes (n:=2) rfl (Zai (Zm (i:=3) ZF.nd rfl (Or.inl rfl)) (Zai (Zes (n:=2) rfl (Zai (Zm (i:=4) ZF.nd rfl (Or.inl rfl)) (Zai (Zm (i:=5) ZF.nd rfl (Or.inl rfl)) Zdk))) Zdk))) (Zb (Zhj (i:=1) ZF.nd rfl (Or.inl rfl) (pv 3) ZjG)
   (Zh (Zhj (i:=2) ZF.nd rfl (Or.inl rfl) (Zi Z2 (Zi ZcX (pv 5) (pv 4)) Ze) ZjG)))))
   (Zh (ZL (Zi ZjX (pv 1) (pv 2))))))),?_⟩
 walk_at "rd"
 have eT:=hT.1
 refine⟨t,T',rfl,ht,by omega,.inl ⟨ns,by omega,hT,λl H1 zl s1 hP=>?_⟩⟩
 obtain⟨as,h1,h2,h3⟩:=hP
 have hl2:(ZeN (nth ns) ns.length).length=ns.length:=by simp[ZeN]
 refine⟨l,rfl,_,SqL.of h1,?_⟩
 refine ZeG (n:=ns.length) (λi σ Hx=>∃v3 v4 v5:Option V,σ=[some (.ref t),some (.int (Zq i)),some (.int (prodF (szN (nth ns) ns.length) 0 i)),v3,v4,v5]/\Zf H1 Hx) ⟨none,none,none,rfl,Zf.refl _⟩ (λi σ Hx hi ⟨_,_,_,_,sx⟩=>⟨_,_,SqL.of (sx _ _ h1),Yf (by rw[Yh];omega)⟩) (fun σ Hx ⟨_,_,_,_,sx⟩=>⟨_,SqL.of (sx _ _ h1),by rw[Yh];omega⟩) ?_ ?_
 ·rintro i x σ Hx Hx' hi ⟨v3,v4,v5,rfl,sx⟩ ⟨q,x,hq,rfl,rfl,hx⟩
  have ex:=hx _ (SqL.of (sx _ _ h1))
  rw[YA,Yf (by omega)]at ex
  cases ex
  have ha:=sx _ _ (h3 i (by omega) (by omega))
  have es:(ZeN (nth ns) ns.length)[i]'(by omega)=[ZaI (nth ns) i+1,ZaM (nth ns) ns.length i-1]:=by simp[ZeN]
  rw[es]at ha
  generalize as[i]'(by omega)=b at ha
  have g:=(Zf.refl Hx).upd (o:=.tup [.int ((i:Int)+1),.ref b]) hq
  have tq:(upd Hx q (.tup [.int ((i:Int)+1),.ref b])) q=some (.tup [.int ((i:Int)+1),.ref b]):=Zd
  replace sx:=sx.trans g
  replace ha:=g _ _ ha
  generalize upd Hx q (.tup [.int ((i:Int)+1),.ref b])=Hy at sx ha tq⊢
  have c:=ZC hT hi
  have ez:ZaM (nth ns) ns.length i-1-(ZaI (nth ns) i+1)+1=((szN (nth ns) ns.length i:Nat):Int):=by unfold szN;omega
  walk_at "rd"
  refine⟨_,SqT.of tq,rfl,_,_,rfl,_,_,rfl,b,rfl,_,SqT.of ha,rfl,_,_,rfl,_,_,rfl,rfl,rfl,_,rfl,mul_r (by omega) (by omega),_,rfl,_,rfl,by rw[ez];exact mul_r (by unfold szN;omega) (by unfold szN;omega),?_,?_,?_⟩
  ·show _=(((i+1)*Zq i:Nat):Int)
   rw[Int.natCast_mul,Int.mul_comm];rfl
  ·rw[ez,show prodF (szN (nth ns) ns.length) 0 (i+1)=prodF (szN (nth ns) ns.length) 0 i*szN (nth ns) ns.length (0+i)from rfl,Nat.zero_add,Int.natCast_mul]
  ·exact sx
 ·rintro σ Hx ⟨v3,v4,v5,rfl,sx⟩
  obtain⟨b1,b2⟩:=ZgQ hT h40
  walk_at "rd"
  refine⟨⟨by omega,?_⟩,?_⟩
  ·exact b2
  ·rw[<-Int.natCast_ediv];exact k1 _ (s1.trans sx)
theorem Zc9 {f:Addr}{fd:FuncData} (F:Fun K "_law_all_orders" "_law_all_orders" ZH f fd) (T:Txt K mg):FnOk P w K mg base (CXE P w) 1 f fd ["many"] (Zaq K mg):=by
 refine F.okX ZE (λvs H Q E h=>?_) (λcdv A outer s H vs Q E hr h=>?_)
 ·obtain⟨m,rfl,_⟩:=h;rfl
 obtain⟨m,rfl,h5,k1⟩:=h
 refine⟨_,(Zb (Zk (i:=1) ZE.nd rfl (Or.inl rfl) (Z9 (Za (ZdH Zc) Zc)))
   (Zb (Zag (ZaJ PassesOwn.never rfl (ZU rfl T.b_range (Za (pv 0) Zc)) (Zm (i:=2) ZE.nd rfl (Or.inr rfl)) (Zb (Zk (i:=3) ZE.nd rfl (Or.inl rfl) (Z9 Zc))
   (Zb (Zag (ZaJ PassesOwn.never rfl (ZcH (pv 1)) (Zm (i:=4) ZE.nd rfl (Or.inr rfl)) (Zh (ZaR (ZdW PySem.F.plainAttrs_list PySem.F.slot_list_extend PySem.F.type_list_extend ZiB (pv 3) (Za (Zcc ["at","row","number"] [none,some 4,some 2] rfl rfl rfl (ZU rfl T.b_range (Za (Zi Z2 (pv 2) Ze) Zc)) (λ_ _ _ _ _=>(Zm (i:=0) (show(["at","row","number"]:List Str).Nodup from by decide +kernel) rfl (Or.inl rfl))) (λ_ _ _ _ _=>ZbF) (λ_ _ _ _ _=>(Zi Zik (Zi Zik (Zex (sl_v (K:=K) rfl) (pv 1) ZfN (ZfO (pv 0))) (ZdH (Za (pv 2) Zc))) (Zex (sl_v (K:=K) rfl) (pv 1) (ZfO (pv 0)) ZfN))) ZO) Zc))))))
   (Zh (Zk (i:=1) ZE.nd rfl (Or.inl rfl) (pv 3)))))))
   (Zh (ZL (pv 1))))),?_⟩
 walk_at "rd"
 refine⟨Ym _,λp hp=>⟨by decide,λl hl=>⟨by omega,by omega,?_⟩⟩⟩
 have e1:((m:Int)).toNat=m:=by omega
 rw[e1]
 have g1:=(Zf.refl H).upd (o:=.tup []) hp
 have g2:=g1.Zbg (o:=.lst [V.ref p]) hl
 have hTl:Zap (upd (upd H p (.tup [])) l (.lst [V.ref p])) l (Z4 0):=⟨[p],Zd,rfl,λi i1 i2=>by
  obtain rfl:i=0:=by simp at i1;omega
  show(upd (upd H p (.tup [])) l (.lst [V.ref p])) p=some (.tup [])
  rw[Zg (λz=>by rw[<-z,Zd]at hl;cases hl),Zd]⟩
 have zl:=g1.free hl
 generalize upd (upd H p (.tup [])) l (.lst [V.ref p])=H1 at g2 hTl⊢
 refine ZaK (λi σ Hx=>∃(l:Addr) (v2 v3 v4:Option V),σ=[some (.int m),some (.ref l),v2,v3,v4]/\H l=none/\Zf H Hx/\Zap Hx l (Z4 i)) ⟨l,none,none,none,rfl,zl,g2,hTl⟩ ?_ ?_
 ·clear hTl zl g2 hl g1 hp p l H1
  rintro i σ Hx hi ⟨l,v2,v3,v4,rfl,zl,sx,hTl⟩
  have e0:(0+(i:Int))=i:=by omega
  rw[e0]
  walk_at "rd"
  refine⟨Ym _,λlg hlg=>?_⟩
  have g1:=(Zf.refl Hx).upd (o:=.lst []) hlg
  refine⟨(hTl.same g1).sq,?_⟩
  obtain⟨w1,w2,w3⟩:=hTl.walk (K:=K)
  refine ZeG (n:=(Z4 i).length) (λj σ Hy=>∃v4:Option V,σ=[some (.int m),some (.ref l),some (.int i),some (.ref lg),v4]/\Zf Hx Hy/\Zap Hy lg (((Z4 i).take j).flatMap λrow=>(List.range (i+1)).map λk=>Zce i row k)) ⟨v4,rfl,g1,Zap.nil Zd⟩ (λj σ Hy hj ⟨_,_,sy,_⟩=>w1 j Hy sy hj) (fun σ Hy ⟨_,_,sy,_⟩=>w2 Hy sy) ?_ ?_
  ·rintro j x σ Hy Hy' hj ⟨v4,rfl,sy,hG⟩ y
   obtain⟨rfl,a,rfl,ha⟩:=w3 j x Hy Hy' hj sy y
   have hrl:=ZbH i _ (YW hj)
   have eT:(Z4 i).take (j+1)=(Z4 i).take j++[(Z4 i)[j]]:=by rw[List.take_add_one,Yf hj];rfl
   rw[eT,List.flatMap_append]
   generalize (Z4 i)[j]=row at ha hrl⊢
   obtain⟨as,q1,q2,q3⟩:=hG
   have hll:(((Z4 i).take j).flatMap λrow=>(List.range (i+1)).map λk=>Zce i row k).length<=720:=by
    have h0:(((Z4 i).take j).flatMap λrow=>(List.range (i+1)).map λk=>Zce i row k).length<=(Z4 (i+1)).length:=by
     rw[show Z4 (i+1)=(Z4 i).flatMap λrow=>(List.range (i+1)).map λk=>Zce i row k from rfl]
     conv=>rhs;rw[<-Y1 j (Z4 i),List.flatMap_append,Yt]
     omega
    have h1:∀k,k<7->(Z4 k).length<=720:=by decide +kernel
    have:=h1 (i+1) (by omega);omega
   walk_at "rd"
   refine⟨ZaV q1,by omega,by omega,?_⟩
   have e2:((i:Int)+1).toNat=i+1:=by omega
   rw[e2]
   refine Zez (n:=i+1) (λk acc Hz=>∃bs:List Addr,acc=bs.map V.ref/\bs.length=k/\(∀z (h:z<bs.length),Hz bs[z]=some (.tup ((Zce i row z).map V.int)))/\Zf Hy' Hz) (Yx (show _<=1000 by omega) (by decide)) ⟨[],rfl,rfl,(λi h=>absurd h (by simp)),Zf.refl _⟩ (λk acc Hz _ hk=>hk) (λacc Hz _=>Ye _) ?_ ?_
   ·rintro k x acc Hz Hw hk hla ⟨bs,rfl,hbl,hbt,sz⟩ ⟨rfl,rfl⟩
    have e3:(0+(k:Int))=k:=by omega
    rw[e3]
    have haw:=sz _ _ ha
    have hlr:row.length<=5:=by omega
    walk_at "rd"
    refine⟨_,haw,λp1 H1 s1 hp1=>⟨by decide,λp2 hp2=>?_⟩⟩
    have u2:=(Zf.refl H1).upd (o:=.tup [V.int (i:Int)]) hp2
    have l1:=ZaU (row.map V.int) none (some (k:Int))
    rw[Yh]at l1
    refine⟨_,u2 _ _ hp1,_,Zd,Yj (show _<=1000 by simp only[YB,List.length_nil];omega) (by decide),λp3 H3 s3 hp3=>?_⟩
    replace s3:=(s1.trans u2).trans s3
    refine⟨_,s3 _ _ haw,λp4 H4 s4 hp4=>?_⟩
    have l2:=ZaU (row.map V.int) (some (k:Int)) none
    rw[Yh]at l2
    refine⟨_,s4 _ _ hp3,_,hp4,Yj (show _<=1000 by rw[Yt];simp only[YB,List.length_nil];omega) (by decide),λp5 H5 s5 hp5=>?_⟩
    replace s5:=(s3.trans s4).trans s5
    refine CA.take hk hla ⟨bs++[p5],by simp,by simp[hbl],λz h=>?_,sz.trans s5⟩
    by_cases e:z<bs.length
    ·rw[YI e];exact s5 _ _ (hbt z e)
    ·have:z=bs.length:=by simp at h;omega
     subst this
     simp only[List.getElem_concat_length]
     rw[hp5,hbl,ZjN,ZiT]
     unfold Zce
     simp[List.map_take,List.map_drop]
   ·rintro c acc Hz ⟨bs,rfl,hbl,hbt,sz⟩ _ hc
    walk_at "rd"
    have g3:=(Zf.refl Hz).upd (o:=.lst (bs.map V.ref)) hc
    refine⟨_,g3 _ _ (sz _ _ q1),_,Zd,Yj (show _<=1000 by rw[Yh,Yh];omega) (by decide),?_,?_⟩
    ·exact((sy.trans sz).trans g3).upd hlg
    ·refine⟨as++bs,by rw[Zd];simp,by rw[Yt,Yt,q2,hbl];congr 1;simp,λz z1 z2=>?_⟩
     have ne:∀(a:Addr) (xs:List V),(upd Hz c (.lst (bs.map V.ref))) a=some (.tup xs)->a≠lg:=λa xs h1 y=>by rw[y,g3 _ _ (sz _ _ q1)]at h1;cases h1
     by_cases zz:z<as.length
     ·rw[YI zz]
      have:=g3 _ _ (sz _ _ (q3 z zz (by omega)))
      rw[Zg (ne _ _ this),this,YI (by omega)]
     ·rw[List.getElem_append_right (by omega)]
      have hz:z-as.length<bs.length:=by simp at z1;omega
      have:=g3 _ _ (hbt (z-as.length) hz)
      rw[Zg (ne _ _ this),this,List.getElem_append_right (by omega)]
      simp[q2]
  ·rintro σ Hy ⟨v4,rfl,sy,hG⟩
   walk_at "rd"
   rw[List.take_length]at hG
   exact⟨sx.free hlg,sx.trans sy,hG⟩
 ·rintro σ Hx ⟨l,v2,v3,v4,rfl,zl,sx,hTl⟩
  walk_at "rd"
  exact k1 l _ zl sx hTl
theorem ZbL {n j:Nat}{f:Nat->Nat} (h:j<n):atI ((List.range n).map λi=>V.int (f i:Nat)) (j:Int)=some (V.int (f j:Nat)):=by
 have e:((List.range n).map λi=>V.int (f i:Nat))=((List.range n).map λi=>((f i:Nat):Int)).map V.int:=by simp[Function.comp_def]
 rw[e,Za7 (by simpa using h)]
 simp[nth,Yu,h]
theorem Zep {as:List Addr}{j:Nat} (h:j<as.length):atI (as.map V.ref) (j:Int)=some (V.ref as[j]):=by
 exact ZkH (by rw[YA,Yf h];rfl)
theorem Zfy {n j x:Nat}{f:Nat->Nat}:((List.range n).map λi=>V.int (f i:Nat)).set j (V.int (x:Nat))=(List.range n).map λi=>V.int ((if i=j then x else f i:Nat):Int) :=
 List.ext_getElem (by simp) λi h1 h2=>by
  rw[List.getElem_set]
  simp only[List.getElem_map,List.getElem_range]
  by_cases e:j=i
  ·rw[Yc e,Yc e.symm]
  ·rw[Yb e,Yb (λz=>e z.symm)]
structure SdF (H:Hp) (n:Nat) (sl ml rl:Addr) (as:List Addr):Prop where
 len:as.length=n
 inj:∀i j (hi:i<as.length) (hj:j<as.length),as[i]=as[j]->i=j
 fr:∀i (h:i<as.length),H as[i]=none/\as[i]≠sl/\as[i]≠ml/\as[i]≠rl
 fm:H ml=none/\ml≠sl/\ml≠rl
structure SdAt (ns T:List Int) (sl ml rl:Addr) (as:List Addr) (D:Nat->Prop) (mv:Nat->Nat) (Hx:Hp):Prop where
 s:Hx sl=some (.lst (as.map V.ref))
 a:∀i (h:i<as.length),Hx as[i]=some (.lst [.int (lvN ns T D i:Nat),.int (rvN ns T D i:Nat)])
 m:Hx ml=some (.lst ((List.range ns.length).map λi=>V.int (mv i:Nat)))
 r:Hx rl=some (.lst ((List.range ns.length).map λi=>V.int (dep (nth ns) ns.length i:Nat)))
 o:OrdI ns T D mv
noncomputable def Zy (ns:List Int) (deep place:Nat):Nat->Prop:=λq=>q<ns.length/\(deep<dep (nth ns) ns.length q\/dep (nth ns) ns.length q=deep/\q<place)
theorem ZcR {f:Addr}{fd:FuncData} (F:Fun K "_law_many_orders" "_law_many_orders" ZD f fd) (Zcj:Callee P w K mg base "_law_over" 1 ["tree","place"] (ZbU K mg)) (Zck:Callee P w K mg base "_law_ways" 1 ["p","q"] (ZbV K mg)) (T:Txt K mg):FnOk P w K mg base (CXE P w) 2 f fd ["tree"] (Zah K mg):=by
 refine F.okX Zr (λvs H Q E h=>?_) (λcdv A outer s H vs Q E hr h=>?_)
 ·obtain⟨t,ns,T,rfl,_⟩:=h;rfl
 obtain⟨t,ns,T',rfl,ht,hT,h40,k1⟩:=h
 refine⟨_,(Zb (ZbG (i:=1) ["place"] [none] Zr.nd rfl (Or.inl rfl) rfl rfl rfl (Zjk (pv 0)) (λ_ _ _ _ _=>(Zm (i:=0) (show(["place"]:List Str).Nodup from by decide +kernel) rfl (Or.inl rfl))) (λ_ _ _ _ _=>ZbF) (λ_ _ _ _ _=>(Z9 (Za Ze (Za Ze Zc)))) ZO)
   (Zb (ZbG (i:=2) ["place"] [none] Zr.nd rfl (Or.inl rfl) rfl rfl rfl (Zjk (pv 0)) (λ_ _ _ _ _=>(Zm (i:=0) (show(["place"]:List Str).Nodup from by decide +kernel) rfl (Or.inl rfl))) (λ_ _ _ _ _=>ZbF) (λ_ _ _ _ _=>Ze) ZO)
   (Zb (ZbG (i:=3) ["place","tree"] [none,some 0] Zr.nd rfl (Or.inl rfl) rfl rfl rfl (ZU rfl T.b_range (Za (Zn (Zo (K:=K) rfl) rfl T.b_len Yv (Za (pv 0) Zc)) Zc)) (λ_ _ _ _ _=>(Zm (i:=0) (show(["place","tree"]:List Str).Nodup from by decide +kernel) rfl (Or.inl rfl))) (λ_ _ _ _ _=>ZbF) (λ_ _ _ _ _=>(Zn (Zo (K:=K) rfl) rfl T.b_len Yv (Za (Zj Zcj (hr.mono (by decide)) rfl ZS (Za (pv 1) (Za (pv 0) Zc))) Zc))) ZO)
   (Zb (Zag (ZaJ PassesOwn.never rfl (Zi3 rfl T.b_range (Za (Zn (Zo (K:=K) rfl) rfl T.b_len Yv (Za (pv 0) Zc)) (Za (Zeu ZcZ Ze) (Za (Zeu ZcZ Ze) Zc)))) (Zm (i:=4) Zr.nd rfl (Or.inl rfl)) (Zh (Zag (ZaJ PassesOwn.never rfl (ZjP (K:=K) rfl rfl T.b_enumerate (Za (pv 0) Zc)) (Zes (n:=2) rfl (Zai (Zm (i:=5) Zr.nd rfl (Or.inl rfl)) (Zai (Zm (i:=6) Zr.nd rfl (Or.inl rfl)) Zdk))) (Zh (Zbh (Zs Zgr (ZM ZG (pv 3) (pv 5) (λ_ _=>rfl)) (pv 4) (Zz _)) (Zb (ZdG (Zi Zak (ZM ZG (pv 2) (pv 5) (λ_ _=>rfl)) (Zj Zck (hr.mono (by decide)) rfl ZS (Za (ZM ZG (ZM ZG (pv 1) (pv 5) (λ_ _=>rfl)) Ze (λ_ _=>rfl)) (Za (ZM ZG (ZM ZG (pv 1) (pv 5) (λ_ _=>rfl)) Ze (λ_ _=>rfl)) Zc)))) (ZdF (pv 2) (pv 5) set_list (λ_=>rfl)))
   (Zh (Zbh (Zs Zh1 (pv 6) Ze (Zz _)) (Zb (ZdG (Zi Z2 Ze (Zn (ZjD rfl) rfl T.b_sum bt_sum (Za (ZM ZG (pv 1) (pv 5) (λ_ _=>rfl)) Zc))) (ZdF (ZM ZG (pv 1) (pv 6) (λ_ _=>rfl)) (ZcI Zfq rfl T.b_int Zhs (Za (ZfK Zev (pv 5) (pv 6) (Zz _)) Zc)) set_list (λ_=>rfl)))
   (Zh (ZdG (Zi Zak (ZM ZG (pv 2) (pv 6) (λ_ _=>rfl)) (ZM ZG (pv 2) (pv 5) (λ_ _=>rfl))) (ZdF (pv 2) (pv 6) set_list (λ_=>rfl))))) Z5))) Z5)))))))
   (Zb (Zbh (Zs Zgr (Zn (Zo (K:=K) rfl) rfl T.b_len Yv (Za (pv 0) Zc)) Ze (Zz _)) (Zh (ZL Ze)) Z5)
   (Zh (ZL (ZM ZG (pv 2) (pe_bmH PySem.F.slot_tuple_index PySem.F.type_tuple_index (Zi8 (K:=K) rfl) (pv 0) (Za (Zeu ZcZ Ze) Zc)) (λ_ _=>rfl))))))))),?_⟩
 have htF:=ht
 replace ht:SqT K H t (T'.map V.int):=ht.sq
 have eT:=hT.1
 have eL:(T'.map V.int).length=ns.length:=by rw[Yh];exact eT
 refine Za8 (fun σ Hx=>∃(sl:Addr) (as:List Addr),σ=[some (.ref t),some (.ref sl),none,none,none,none,none]/\Zf H Hx/\as.length=ns.length/\(∀i j (hi:i<as.length) (hj:j<as.length),as[i]=as[j]->i=j)/\(∀i (h:i<as.length),H as[i]=none/\as[i]≠sl/\Hx as[i]=some (.lst [.int 0,.int 0]))/\Hx sl=some (.lst (as.map V.ref))) (λR hR=>?_) ?_
 ·walk_at "rd"
  refine⟨⟨_,ht⟩,Zez (n:=ns.length) (λk acc Hz=>∃as:List Addr,acc=as.map V.ref/\as.length=k/\(∀i j (hi:i<as.length) (hj:j<as.length),as[i]=as[j]->i=j)/\(∀i (h:i<as.length),H as[i]=none/\Hz as[i]=some (.lst [.int 0,.int 0]))/\Zf H Hz) (Yx (show _<=1000 by omega) (by decide)) ⟨[],rfl,rfl,(λi j h=>absurd h (by simp)),(λi h=>absurd h (by simp)),Zf.refl _⟩ (λk acc Hz ⟨_,_,_,_,_,sz⟩ hk=>⟨_,_,(sz.Zan ht),Yf (by omega)⟩) (λacc Hz ⟨_,_,_,_,_,sz⟩=>⟨_,(sz.Zan ht),Nat.le_of_eq eL⟩) ?_ ?_⟩
  ·rintro k x acc Hz Hw hk hla ⟨as,rfl,hal,hin,hat,sz⟩ ⟨rfl,_⟩
   walk_at "rd"
   refine⟨by decide,λu hu=>?_⟩
   have g1:=(Zf.refl Hw).upd (o:=.lst [V.int 0,V.int 0]) hu
   have nu:∀i (h:i<as.length),as[i]≠u:=λi h z=>by have:=(hat i h).2;rw[z,hu]at this;cases this
   refine CA.take hk hla ⟨as++[u],by simp,by simp[hal],λi j hi hj e=>?_,λi h=>?_,sz.trans g1⟩
   ·simp only[Yt,YB,List.length_nil]at hi hj
    by_cases c1:i<as.length<;>by_cases c2:j<as.length
    ·rw[YI c1,YI c2]at e;exact hin i j c1 c2 e
    ·obtain rfl:j=as.length:=by omega
     rw[YI c1,List.getElem_concat_length]at e
     ·exact absurd e (nu i c1)
     ·rfl
    ·obtain rfl:i=as.length:=by omega
     rw[YI c2,List.getElem_concat_length]at e
     ·exact absurd e.symm (nu j c2)
     ·rfl
    ·omega
   ·by_cases c1:i<as.length
    ·rw[YI c1];exact⟨(hat i c1).1,g1 _ _ (hat i c1).2⟩
    ·obtain rfl:i=as.length:=by simp at h;omega
     simp only[List.getElem_concat_length]
     exact⟨sz.free hu,Zd⟩
  ·rintro c acc Hz ⟨as,rfl,hal,hin,hat,sz⟩ _ hc
   have g1:=sz.Zbg (o:=.lst (as.map V.ref)) hc
   refine hR _ _ ⟨c,as,rfl,g1,hal,hin,λi h=>⟨(hat i h).1,λz=>?_,?_⟩,Zd⟩
   ·have:=(hat i h).2;rw[z,hc]at this;cases this
   ·exact((Zf.refl Hz).upd hc) _ _ (hat i h).2
 rintro σ H1 ⟨sl,as,rfl,s1,hal,hin,hat,hsl⟩
 refine Za8 (fun σ Hx=>∃(ml:Addr),σ=[some (.ref t),some (.ref sl),some (.ref ml),none,none,none,none]/\H1 ml=none/\Zf H1 Hx/\Hx ml=some (.lst ((List.range ns.length).map λi=>V.int (1:Nat)))) (λR hR=>?_) ?_
 ·walk_at "rd"
  refine⟨⟨_,(s1.Zan ht)⟩,comp_map (n:=ns.length) (λi=>V.int (1:Nat)) (Yx (show _<=1000 by omega) (by decide)) (λj Hx s hj=>⟨_,_,((s1.trans s).Zan ht),Yf (by omega)⟩) (λHx s=>⟨_,((s1.trans s).Zan ht),Nat.le_of_eq eL⟩) ?_ ?_⟩
  ·rintro j x Hx Hy hj s ⟨rfl,_⟩
   walk_at "rd"
   exact CW.next hj rfl s
  ·intro r Hx s hr2
   exact hR _ _ ⟨r,rfl,s.free hr2,s.Zbg hr2,Zd⟩
 rintro σ H2 ⟨ml,rfl,zml,s2,hml⟩
 refine Za8 (fun σ Hx=>∃(rl:Addr),σ=[some (.ref t),some (.ref sl),some (.ref ml),some (.ref rl),none,none,none]/\H2 rl=none/\Zf H2 Hx/\Hx rl=some (.lst ((List.range ns.length).map λi=>V.int (dep (nth ns) ns.length i:Nat)))) (λR hR=>?_) ?_
 ·walk_at "rd"
  have ht2:=s2.Zan (s1.Zan ht)
  refine⟨_,.inr ht2,by omega,by rw[eL];omega,?_⟩
  have e1:(((T'.map V.int).length:Nat):Int).toNat=ns.length:=by rw[eL];omega
  rw[e1]
  refine comp_map (n:=ns.length) (λi=>V.int (dep (nth ns) ns.length i:Nat)) (Yx (show _<=1000 by omega) (by decide)) (λj Hx s hj=>hj) (λHx s=>Ye _) ?_ ?_
  ·rintro j x Hx Hy hj s ⟨rfl,rfl⟩
   have e0:((0:Int)+(j:Int))=(j:Int):=by omega
   rw[e0]
   walk_at "rd"
   refine⟨t,T',j,rfl,s.Zan ht2,by omega,by omega,ZhC hT (by omega),λu H5 zu s5 hu=>?_⟩
   have hw:=(Zdn hT T'.length j hj (by have:=ZeC (f:=nth ns) (n:=ns.length) (p:=j) hj;omega)).2
   refine⟨u,rfl,_,.inl (SqL.of hu),CW.next hj ?_ (s.trans s5)⟩
   rw[Yh,Zdt,Yh,<-hw];rfl
  ·intro r Hx s hr2
   exact hR _ _ ⟨r,rfl,s.free hr2,s.Zbg hr2,Zd⟩
 rintro σ H3 ⟨rl,rfl,zrl,s3,hrl⟩
 refine Za8 (fun σ Hx=>∃(mv:Nat->Nat) (v4 v5 v6:Option V),σ=[some (.ref t),some (.ref sl),some (.ref ml),some (.ref rl),v4,v5,v6]/\Zf H Hx/\SdAt ns T' sl ml rl as (Zy ns 0 ns.length) mv Hx) (λR hR=>?_) ?_
 ·walk_at "rd"
  have ht3:Zf H H3:=(s1.trans s2).trans s3
  refine⟨_,.inr ((ht3.Zan ht)),by omega,by rw[eL];omega,by omega,by omega,?_⟩
  have e1:((((T'.map V.int).length:Nat):Int) - -1).toNat=ns.length+1:=by rw[eL];omega
  have e2:((((T'.map V.int).length:Nat):Int)+1-((ns.length+1:Nat):Int))=0:=by rw[eL];omega
  rw[e1,e2]
  have F0:SdF H ns.length sl ml rl as:=⟨hal,hin,λi h=>⟨(hat i h).1,(hat i h).2.1,(λz=>by have:=(hat i h).2.2;rw[z,zml]at this;cases this),(λz=>by have:=s2 _ _ (hat i h).2.2;rw[z,zrl]at this;cases this)⟩,s1.free zml,(λz=>by rw[z,hsl]at zml;cases zml),(λz=>by rw[z,zrl]at hml;cases hml)⟩
  have O0:=OrdI.none ns T' (D:=Zy ns ns.length 0) (λp hp z=>by have:=ZeC (f:=nth ns) (n:=ns.length) hp;rcases z.2 with y|y<;>omega) hT
  have S0:SdAt ns T' sl ml rl as (Zy ns ns.length 0) (λ_=>1) H3:=⟨s3 _ _ (s2 _ _ hsl),λi h=>by rw[(O0.1 i (by omega)).1,(O0.1 i (by omega)).2];exact s3 _ _ (s2 _ _ (hat i h).2.2),s3 _ _ hml,hrl,O0.2⟩
  clear hat hsl hml hrl zml zrl O0 hin s1 s2 s3
  refine ZeG (n:=ns.length+1) (λi σ Hx=>∃(mv:Nat->Nat) (v4 v5 v6:Option V),σ=[some (.ref t),some (.ref sl),some (.ref ml),some (.ref rl),v4,v5,v6]/\Zf H Hx/\SdAt ns T' sl ml rl as (if i=0 then Zy ns ns.length 0 else Zy ns (ns.length+1-i) ns.length) mv Hx) ⟨_,none,none,none,rfl,ht3,S0⟩ (λi σ Hx hi _=>hi) (fun σ Hx _=>Ye _) ?_ ?_
  ·clear S0 ht3
   rintro i x σ Hx Hx' hi ⟨mv,v4,v5,v6,rfl,sx,hS⟩ ⟨rfl,rfl⟩
   have e3:(0+((ns.length+1:Nat):Int)-1-(i:Int))=((ns.length-i:Nat):Int):=by omega
   rw[e3]
   have eD:(if i=0 then Zy ns ns.length 0 else Zy ns (ns.length+1-i) ns.length)=Zy ns (ns.length-i) 0:=by
    by_cases c:i=0
    ·rw[Yc c,c];rfl
    ·rw[Yb c]
     funext q
     refine propext ⟨λz=>⟨z.1,?_⟩,λz=>⟨z.1,?_⟩⟩
     ·rcases z.2 with y|y<;>omega
     ·have:=z.1;rcases z.2 with y|y<;>omega
   rw[eD]at hS
   rw[Yb (by omega),show ns.length+1-(i+1)=ns.length-i by omega]
   generalize ns.length-i=deep at hS⊢
   clear eD e3
   walk_at "rd"
   refine⟨_,(sx.Zan ht),?_⟩
   refine ZeG (n:=ns.length) (λj σ Hy=>∃(mv:Nat->Nat) (v5 v6:Option V),σ=[some (.ref t),some (.ref sl),some (.ref ml),some (.ref rl),some (.int (deep:Int)),v5,v6]/\Zf H Hy/\SdAt ns T' sl ml rl as (Zy ns deep j) mv Hy) ⟨mv,v5,v6,rfl,sx,hS⟩ (λj σ Hy hj ⟨_,_,_,_,sy,_⟩=>⟨_,_,(sy.Zan ht),Yf (by omega)⟩) (fun σ Hy ⟨_,_,_,_,sy,_⟩=>⟨_,(sy.Zan ht),eL⟩) ?_ ?_
   ·clear hS sx
    rintro j x σ Hy Hy' hj ⟨mv,v5,v6,rfl,sy,hS⟩ ⟨q,y,hq,rfl,rfl,hx⟩
    have ex:=hx _ ((sy.Zan ht))
    rw[YA,Yf (by omega)]at ex
    cases ex
    have eg:T'[j]'(by omega)=nth T' j:=by simp[nth,Yu,show j<T'.length by omega]
    rw[eg]
    have g:=(Zf.refl Hy).upd (o:=.tup [.int (j:Int),.int (nth T' j)]) hq
    have tq:(upd Hy q (.tup [.int (j:Int),.int (nth T' j)])) q=some (.tup [.int (j:Int),.int (nth T' j)]):=Zd
    have zq:=sy.free hq
    replace sy:=sy.trans g
    replace hS:SdAt ns T' sl ml rl as (Zy ns deep j) mv (upd Hy q (.tup [.int (j:Int),.int (nth T' j)])):=⟨g _ _ hS.s,λi h=>g _ _ (hS.a i h),g _ _ hS.m,g _ _ hS.r,hS.o⟩
    generalize upd Hy q (.tup [.int (j:Int),.int (nth T' j)])=Hz at sy tq hS⊢
    clear g hx hq Hy
    walk_at "rd"
    refine⟨_,SqT.of tq,rfl,_,_,rfl,_,_,rfl,rfl,?_⟩
    have dj:=ZbL (n:=ns.length) (f:=λi=>dep (nth ns) ns.length i) hj
    refine⟨_,_,rfl,SqL.of hS.r,_,dj,rfl,ZaX (λc=>?_) λc=>?_⟩
    ·have hja:j<as.length:=by omega
     refine⟨_,_,rfl,SqL.of hS.m,_,ZbL hj,_,_,rfl,SqL.of hS.s,_,Zep hja,_,rfl,_,SqL.of (hS.a j hja),_,rfl,_,_,rfl,SqL.of hS.s,_,Zep hja,_,rfl,_,SqL.of (hS.a j hja),_,rfl,?_⟩
     have cd:dep (nth ns) ns.length j=deep:=by injection c with c;omega
     have hnD:¬ Zy ns deep j j:=λz=>by rcases z.2 with y|y<;>omega
     have hD:∀q,q<ns.length->nth T' q=j->Zy ns deep j q:=λq h1 h2=>by
      have hE:=hT.2 q h1
      rw[show T'.getD q 0=j from h2]at hE
      have:=ZcJ h1 hE
      exact⟨h1,.inl (by omega)⟩
     have hE:∀e:Nat,nth T' j=e->¬ Zy ns deep j e/\e≠j:=λe h2=>by
      have hE:=hT.2 j hj
      rw[show T'.getD j 0=e from h2]at hE
      have:=ZcJ hj hE
      exact⟨λz=>by rcases z.2 with y|y<;>omega,λz=>by subst z;omega⟩
     have eP:Zy ns deep (j+1)=Zaf (Zy ns deep j) j:=by
      funext q
      refine propext ⟨λz=>?_,λz=>?_⟩
      ·by_cases w:q=j
       ·exact .inr w
       ·exact .inl ⟨z.1,z.2.imp_right λy=>⟨y.1,by have:=y.2;omega⟩⟩
      ·rcases z with z|rfl
       ·exact⟨z.1,z.2.imp_right λy=>⟨y.1,by have:=y.2;omega⟩⟩
       ·exact⟨hj,.inr ⟨cd,by omega⟩⟩
     have hO:=OrdI.step hT hj hnD hD hE hS.o
     have vP:=λe he=>Zin hT (D:=Zy ns deep j) hj hnD e he
     have cp:=ZC hT hj
     obtain⟨f1,f2⟩:=Zim hT (D:=Zy ns deep j) hj hD
     have hSa:=hS.a j hja
     rw[f1,f2]at hSa⊢
     rw[eP]
     have m1:=OrdI.small hT h40 hS.o hj
     have m2:=Zi7 (p:=Zx (nth ns) j) (q:=ZT (nth ns) ns.length j) (by omega)
     refine⟨_,_,rfl,by omega,by omega,_,rfl,_,rfl,Zj3 m1 m2,_,_,rfl,hS.m,j,Zdq (by simpa using hj),?_⟩
     generalize chN (Zx (nth ns) j) (ZT (nth ns) ns.length j)=W at hO m2⊢
     rw[<-Int.natCast_mul,Zfy]
     have nms:ml≠sl:=F0.fm.2.1
     have nmr:ml≠rl:=F0.fm.2.2
     have sw:Zf H (upd Hz ml (.lst ((List.range ns.length).map λi=>V.int ((if i=j then mv j*W else mv i:Nat):Int)))):=sy.upd F0.fm.1
     have ws:=(Zg (H:=Hz) (o:=.lst ((List.range ns.length).map λi=>V.int ((if i=j then mv j*W else mv i:Nat):Int))) nms.symm).trans hS.s
     have wr:=(Zg (H:=Hz) (o:=.lst ((List.range ns.length).map λi=>V.int ((if i=j then mv j*W else mv i:Nat):Int))) nmr.symm).trans hS.r
     have wa:=λi (h:i<as.length)=>(Zg (H:=Hz) (o:=.lst ((List.range ns.length).map λi=>V.int ((if i=j then mv j*W else mv i:Nat):Int))) (F0.fr i h).2.2.1).trans (hS.a i h)
     have wm:=Zd (H:=Hz) (a:=ml) (o:=.lst ((List.range ns.length).map λi=>V.int ((if i=j then mv j*W else mv i:Nat):Int)))
     generalize upd Hz ml (.lst ((List.range ns.length).map λi=>V.int ((if i=j then mv j*W else mv i:Nat):Int)))=Hw at sw ws wr wa wm⊢
     have wj:=wa j hja
     rw[f1,f2]at wj
     refine⟨_,rfl,ZaX (λz=>?_) λz=>?_⟩
     ·obtain⟨e,he,hen⟩:∃e:Nat,nth T' j=e/\e<ns.length:=by
       rcases ZdY hT hj with w|⟨q,w,w2,_⟩
       ·omega
       ·exact⟨q,w,w2⟩
      have hej:=(hE e he).2
      have hea:e<as.length:=by omega
      rw[he]
      obtain⟨b,hb1,hb2,hb3⟩:∃b:Nat,(if (e:Int)<(j:Int)then (1:Int)else 0)=(b:Int)/\b<2/\[V.int (lvN ns T' (Zy ns deep j) e:Nat),V.int (rvN ns T' (Zy ns deep j) e:Nat)].set b (V.int (1+[((Zx (nth ns) j:Nat):Int),((ZT (nth ns) ns.length j:Nat):Int)].sum))=[V.int (lvN ns T' (Zaf (Zy ns deep j) j) e:Nat),V.int (rvN ns T' (Zaf (Zy ns deep j) j) e:Nat)]:=by
       obtain⟨v1,v2,_⟩:=vP e hen
       have es:(1+[((Zx (nth ns) j:Nat):Int),((ZT (nth ns) ns.length j:Nat):Int)].sum)=((szN (nth ns) ns.length j:Nat):Int):=by unfold szN;simp;omega
       rw[es]
       by_cases c2:e<j
       ·refine⟨1,by rw[Yc (by omega)];rfl,by omega,?_⟩
        rw[v1,v2,Yb (by omega),Yc ⟨he,c2⟩];rfl
       ·refine⟨0,by rw[Yb (by omega)];rfl,by omega,?_⟩
        rw[v1,v2,Yc ⟨he,by omega⟩,Yb (by omega)];rfl
      refine⟨_,_,rfl,SqL.of ws,_,Zep hja,_,rfl,[((Zx (nth ns) j:Nat):Int),((ZT (nth ns) ns.length j:Nat):Int)],SqL.of wj,_,_,rfl,SqL.of ws,_,Zep hea,_,rfl,_,rfl,_,rfl,_,wa e hea,b,by rw[hb1];exact Zdq hb2,?_⟩
      rw[hb3]
      have nea:=(F0.fr e hea).2.2.1
      have xm:=(Zg (H:=Hw) (o:=.lst [V.int (lvN ns T' (Zaf (Zy ns deep j) j) e:Nat),V.int (rvN ns T' (Zaf (Zy ns deep j) j) e:Nat)]) nea.symm).trans wm
      have xs:=(Zg (H:=Hw) (o:=.lst [V.int (lvN ns T' (Zaf (Zy ns deep j) j) e:Nat),V.int (rvN ns T' (Zaf (Zy ns deep j) j) e:Nat)]) (F0.fr e hea).2.1.symm).trans ws
      have xr:=(Zg (H:=Hw) (o:=.lst [V.int (lvN ns T' (Zaf (Zy ns deep j) j) e:Nat),V.int (rvN ns T' (Zaf (Zy ns deep j) j) e:Nat)]) (F0.fr e hea).2.2.2.symm).trans wr
      have xH:Zf H (upd Hw as[e] (.lst [V.int (lvN ns T' (Zaf (Zy ns deep j) j) e:Nat),V.int (rvN ns T' (Zaf (Zy ns deep j) j) e:Nat)])):=sw.upd (F0.fr e hea).1
      have xa:∀i (h:i<as.length),(upd Hw as[e] (.lst [V.int (lvN ns T' (Zaf (Zy ns deep j) j) e:Nat),V.int (rvN ns T' (Zaf (Zy ns deep j) j) e:Nat)])) as[i]=some (.lst [V.int (lvN ns T' (Zaf (Zy ns deep j) j) i:Nat),V.int (rvN ns T' (Zaf (Zy ns deep j) j) i:Nat)]):=λi h=>by
       by_cases c2:i=e
       ·subst c2;exact Zd
       ·obtain⟨v1,v2,_⟩:=vP i (by omega)
        rw[Zg (λz=>c2 (F0.inj i e h hea z)),wa i h,v1,v2,Yb (by omega),Yb (by omega)]
      generalize upd Hw as[e] (.lst [V.int (lvN ns T' (Zaf (Zy ns deep j) j) e:Nat),V.int (rvN ns T' (Zaf (Zy ns deep j) j) e:Nat)])=Hv at xm xs xr xH xa⊢
      have m3:=OrdI.small hT h40 hS.o hen
      have m4:=OrdI.small hT h40 hO hj
      rw[Yc rfl]at m4
      have a1:=ZbL (n:=ns.length) (f:=λi=>if i=j then mv j*W else mv i) hen
      have a2:=ZbL (n:=ns.length) (f:=λi=>if i=j then mv j*W else mv i) hj
      rw[Yb hej]at a1
      rw[Yc rfl]at a2
      refine⟨_,_,rfl,SqL.of xm,_,a1,_,_,rfl,SqL.of xm,_,a2,_,rfl,_,rfl,Zj3 m3 m4,_,_,rfl,xm,e,Zdq (by simpa using hen),xH.upd F0.fm.1,_,?_,?_,?_,?_,hO⟩
      ·rw[Zg nms.symm];exact xs
      ·intro i h;rw[Zg (F0.fr i h).2.2.1];exact xa i h
      ·rw[Zd,<-Int.natCast_mul,Zfy]
       congr 2
       refine List.map_congr_left λi _=>?_
       by_cases c2:i=e
       ·subst c2;rw[Yc rfl,Yb hej,Yc he]
       ·rw[Yb c2,Yb (show ¬ nth T' j=(i:Int) by omega)]
      ·rw[Zg nmr.symm];exact xr
     ·refine⟨sw,_,ws,λi h=>?_,?_,wr,hO⟩
      ·obtain⟨v1,v2,_⟩:=vP i (by omega)
       rw[wa i h,v1,v2,Yb (by omega),Yb (by omega)]
      ·rw[wm]
       congr 2
       refine List.map_congr_left λi _=>?_
       rw[Yb (show ¬ nth T' j=(i:Int) by omega)]
    ·refine⟨sy,mv,?_⟩
     have:Zy ns deep (j+1)=Zy ns deep j:=by
      funext q
      refine propext ⟨λz=>⟨z.1,?_⟩,λz=>⟨z.1,?_⟩⟩
      ·rcases z.2 with y|y
       ·exact .inl y
       ·refine .inr ⟨y.1,?_⟩
        have:q≠j:=λw=>c (by rw[<-w,y.1])
        omega
      ·rcases z.2 with y|y
       ·exact .inl y
       ·exact .inr ⟨y.1,by omega⟩
     rw[this];exact hS
   ·rintro σ Hy ⟨mv,v5,v6,rfl,sy,hS⟩
    exact⟨mv,_,v5,v6,rfl,sy,hS⟩
  ·rintro σ Hx ⟨mv,v4,v5,v6,rfl,sx,hS⟩
   rw[Yb (by omega),show ns.length+1-(ns.length+1)=0 by omega]at hS
   exact hR _ _ ⟨mv,v4,v5,v6,rfl,sx,hS⟩
 rintro σ H4 ⟨mv,v4,v5,v6,rfl,s4,hS⟩
 walk_at "rd"
 have htF4:=htF.same s4
 refine⟨_,.inr htF4.sq,ZaX (λz=>?_) λz=>?_⟩
 ·have e0:ns.length=0:=by rw[eL]at z;omega
  have:=k1 _ s4
  rw[e0]at this
  simpa[Zq,prodF]using this
 ·have hpos:0<ns.length:=by rw[eL]at z;omega
  have hm:(-1:Int)∈T':=by
   obtain⟨_,l2,l3,l4⟩:=ZfZ (nth ns) 0 (ns.length-1)
   have hp:Zhw (nth ns) 0 (ns.length-1)<ns.length:=by omega
   have hv:=Zp.unique (hT.2 _ hp) (.inl ⟨λq hq=>l3 q (by omega) hq,λr r1 r2=>l4 r r1 (by omega),rfl⟩)
   rw[Yu,Yf (show _<T'.length by omega)]at hv
   rw[<-hv];exact YW _
  have hi:T'.idxOf (-1)<T'.length:=List.idxOf_lt_length_iff.mpr hm
  have hv:nth T' (T'.idxOf (-1))=-1:=by
   have:=List.getElem_idxOf hi
   simp[nth,Yu,hi]
  refine⟨⟨_,htF4⟩,T',htF4.sq,hm,_,SqL.of hS.m,_,ZbL (by omega),?_⟩
  have hd:Zy ns 0 ns.length (T'.idxOf (-1)):=⟨by omega,by omega⟩
  rw[OrdI.top hT (by omega) hv hd hS.o]
  exact k1 _ s4
theorem Zgf {α:Type} (L:List α) (d:α) (p:α->Bool):((List.range L.length).filter λq=>p (L.getD q d)).length=(L.filter p).length:=by
 have e:(List.range L.length).map (λq=>L.getD q d)=L:=by
  refine List.ext_getElem (by simp) λi h1 h2=>?_
  simp[Yu,h2]
 conv=>rhs;rw[<-e,List.filter_map,Yh]
 rfl
theorem ok_law {f:Addr}{fd:FuncData} (F:Fun K "law" "law" Zdw f fd) (Zaj:Callee P w K mg base "many_orders" 6 ["tree"] (Zbc K mg)) (Zcl:Callee P w K mg base "_law_deal" 1 ["cell"] (ZbS K mg)) (ZbY:Callee P w K mg base "_law_row" 3 ["pot","most"] (Zcf K mg)) (ZaW:Callee P w K mg base "_law_tree" 1 ["row"] (ZbT K mg)) (ZbZ:Callee P w K mg base "_law_whole" 1 ["thing"] (Zbu K mg)) (Zar:Callee P w K mg base "_law_many_orders" 2 ["tree"] (Zah K mg)) (ZaE:Callee P w K mg base "_law_all_orders" 1 ["many"] (Zaq K mg)) (T:Txt K mg):FnOk P w K mg base (CXE P w) 7 f fd ["script"] (Zis K):=by
 refine F.okX ZdN (λvs H Q E h=>?_) (λcdv A outer s H vs Q E hr h=>?_)
 ·obtain⟨a,ns,rfl,_⟩:=h;rfl
 obtain⟨sc,ss,rfl,hsc,hss,k1⟩:=h
 refine⟨_,(Zb (Zag (ZaJ PassesOwn.never rfl (ZcH (Zi Zju (Zex Zh6 (pv 0) ZfN (ZfO Ze)) (Z9 (Za Ze Zc)))) (Zm (i:=1) ZdN.nd rfl (Or.inl rfl)) (Zb (Zk (i:=2) ZdN.nd rfl (Or.inl rfl) (Zj Zcl (hr.mono (by decide)) rfl ZS (Za (pv 1) Zc)))
   (Zb (Zk (i:=3) ZdN.nd rfl (Or.inl rfl) (Zj ZaW (hr.mono (by decide)) rfl ZS (Za (Zj ZbY (hr.mono (by decide)) rfl ZS (Za (pv 2) (Za Ze Zc))) Zc)))
   (Zb (Zk (i:=4) ZdN.nd rfl (Or.inl rfl) (Zj Zaj (hr.mono (by decide)) rfl ZS (Za (pv 3) Zc)))
   (Zb (Zbh (PW.pt (ZhW (Zhi (Zhf (Zj ZbZ (hr.mono (by decide)) rfl ZS (Za (pv 4) Zc)))) (ZhW (Zs Zjn (pv 4) (Zj Zar (hr.mono (by decide)) rfl ZS (Za (pv 3) Zc)) (Zz _)) (Zhg (Zs Zjn (Zj Zaj (hr.mono (by decide)) rfl ZS (Za (pv 3) Zc)) (pv 4) (Zz _)))))) (Zh (ZL ZhV)) Z5)
   (Zb (Zk (i:=5) ZdN.nd rfl (Or.inr rfl) (Zj ZaW (hr.mono (by decide)) rfl ZS (Za (Zj ZbY (hr.mono (by decide)) rfl ZS (Za (pv 2) (Za Ze Zc))) Zc)))
   (Zh (Zbh (Zs Zjn (Zj Zaj (hr.mono (by decide)) rfl ZS (Za (pv 5) Zc)) (Zn (Zo (K:=K) rfl) rfl T.b_len Yv (Za (Zcc ["row","small"] [none,some 5] rfl rfl rfl (ZcH (Zj ZaE (hr.mono (by decide)) rfl ZS (Za (Zn (Zo (K:=K) rfl) rfl T.b_len Yv (Za (pv 5) Zc)) Zc))) (λ_ _ _ _ _=>(Zm (i:=0) (show(["row","small"]:List Str).Nodup from by decide +kernel) rfl (Or.inl rfl))) (λ_ _ _ _ _=>Zca (Zs (Zhv (K:=K) rfl hr) (Zj ZaW (hr.mono (by decide)) rfl ZS (Za (pv 0) Zc)) (pv 1) (Zz _))) (λ_ _ _ _ _=>(pv 0)) ZO) Zc)) (Zz _)) (Zh (ZL ZhV)) Z5)))))))))
   (Zh (ZL ZhV))),?_⟩
 walk_at "rd"
 have e8:Zbr (ss.map V.int) none (some 6)++[V.int 0]=(ss.take 6++[0]).map V.int:=by
  have:=ZjN (ss.map V.int) 6
  rw[show((6:Nat):Int)=6 from rfl]at this
  rw[this];simp
 have l8:(Zbr (ss.map V.int) none (some 6)).length<=63:=Yj (ZaU _ _ _) (by rw[Yh];omega)
 refine⟨_,hsc,λq1 h1=>⟨by decide,λq2 h2=>⟨_,((Zf.refl _).Zbg h2) _ _ Zd,_,Zd,Yj (show _<=100 by simp only[YB,List.length_nil];omega) (by decide),λq3 h3=>⟨⟨_,SqL.of Zd⟩,?_⟩⟩⟩⟩
 have hl0:(upd (upd (upd H q1 (.lst (Zbr (ss.map V.int) none (some 6)))) q2 (.lst [V.int 0])) q3 (.lst (Zbr (ss.map V.int) none (some 6)++[V.int 0]))) q3=some (.lst ((ss.take 6++[0]).map V.int)):=by rw[Zd,e8]
 generalize upd (upd (upd H q1 (.lst (Zbr (ss.map V.int) none (some 6)))) q2 (.lst [V.int 0])) q3 (.lst (Zbr (ss.map V.int) none (some 6)++[V.int 0]))=H0 at hl0⊢
 refine Zjl (K:=K) (a:=q3) (xs:=(ss.take 6++[0]).map V.int) (λi σ H'=>∃v1 v2 v3 v4 v5,σ=[some (.ref sc),v1,v2,v3,v4,v5]/\Zf H0 H') ⟨_,_,_,_,_,rfl,Zf.refl H0⟩ (λi σ H' _ ⟨_,_,_,_,_,_,s⟩=>SqL.of (s _ _ hl0)) ?_ ?_
 ·rintro i x σ H' hi ⟨v1,v2,v3,v4,v5,rfl,hs⟩
  obtain⟨cell,rfl⟩:∃c:Int,x=V.int c:=by
   have:=List.mem_of_getElem? hi
   obtain⟨c,_,rfl⟩:=YR.mp this
   exact⟨c,rfl⟩
  refine Za8 (fun σ Hx=>∃p,σ=[some (.ref sc),some (.int cell),some (.ref p),v3,v4,v5]/\H0 p=none/\ZN Hx p/\Zf H0 Hx) (λR hR=>?_) ?_
  ·walk_at "rd"
   exact⟨cell,rfl,λp H1 hp s1 P1=>hR _ _ ⟨p,rfl,hs.free hp,P1,hs.trans s1⟩⟩
  rintro σ H1 ⟨p,rfl,zp,P1,s1⟩
  refine Za8 (fun σ Hx=>∃(t:Addr) (ns T:List Int),σ=[some (.ref sc),some (.int cell),some (.ref p),some (.ref t),v4,v5]/\ns.length<=40/\Zl ns T/\Zel Hx t (T.map V.int)/\ZN Hx p/\Zf H0 Hx) (λR hR=>?_) ?_
  ·walk_at "rd"
   exact⟨p,_,rfl,by decide,by decide,P1,λr row H3 hr3 hl hrow P3 e3=>⟨r,row,rfl,.inl (SqL.of hrow),by omega,λt es H4 zt hT s4 ht=>hR _ _ ⟨t,row,es,rfl,by omega,hT,ht,P3.same s4,(s1.exc zp e3).trans s4⟩⟩⟩
  clear s1 P1 H1
  rintro σ H1 ⟨t,ns,T',rfl,hn,hT,ht,P1,s1⟩
  refine Za8 (fun σ Hx=>σ=[some (.ref sc),some (.int cell),some (.ref p),some (.ref t),some (.int ((Zq ns.length / prodF (szN (nth ns) ns.length) 0 ns.length:Nat):Int)),v5]/\Zel Hx t (T'.map V.int)/\ZN Hx p/\Zf H0 Hx) (λR hR=>?_) ?_
  ·walk_at "rd"
   exact⟨t,ns,T',rfl,ht.sq,hT,hn,λH2 s2=>hR _ _ ⟨rfl,ht.same s2,P1.same s2,s1.trans s2⟩⟩
  clear s1 P1 ht H1
  rintro σ H1 ⟨rfl,ht,P1,s1⟩
  refine Za8 (fun σ Hx=>σ=[some (.ref sc),some (.int cell),some (.ref p),some (.ref t),some (.int ((Zq ns.length / prodF (szN (nth ns) ns.length) 0 ns.length:Nat):Int)),v5]/\ZN Hx p/\Zf H0 Hx) (λR hR=>?_) ?_
  ·walk_at "rd"
   exact⟨_,rfl,true,rfl,ZaX (λz=>nomatch z) λ_=>⟨t,ns,T',rfl,ht,hT,hn,λH2 s2=>⟨rfl,ZaX (λz=>absurd rfl z) λ_=>⟨t,ns,T',rfl,(ht.same s2).sq,hT,hn,λH3 s3=>⟨rfl,ZaX (λz=>absurd rfl z) λ_=>hR _ _ ⟨rfl,P1.same (s2.trans s3),s1.trans (s2.trans s3)⟩⟩⟩⟩⟩⟩
  clear s1 P1 ht H1
  rintro σ H1 ⟨rfl,P1,s1⟩
  refine Za8 (fun σ Hx=>∃(t2:Addr) (ms M:List Int),σ=[some (.ref sc),some (.int cell),some (.ref p),some (.ref t),some (.int ((Zq ns.length / prodF (szN (nth ns) ns.length) 0 ns.length:Nat):Int)),some (.ref t2)]/\ms.length<=5/\Zl ms M/\Zel Hx t2 (M.map V.int)/\Zf H0 Hx) (λR hR=>?_) ?_
  ·walk_at "rd"
   exact⟨p,_,rfl,by decide,by decide,P1,λr row H3 hr3 hl hrow P3 e3=>⟨r,row,rfl,.inl (SqL.of hrow),by omega,λt es H4 zt hT s4 ht=>hR _ _ ⟨t,row,es,rfl,by omega,hT,ht,(s1.exc zp e3).trans s4⟩⟩⟩
  clear s1 P1 H1
  rintro σ H1 ⟨t2,ms,M,rfl,hm,hM,ht2,s1⟩
  walk_at "rd"
  have eM:=hM.1
  refine⟨t2,ms,M,rfl,ht2.sq,hM,by omega,λH2 s2=>⟨_,.inr ((ht2.same s2).sq),ms.length,by rw[Yh,eM],hm,λl H3 zl s3 hL=>⟨l,rfl,hL.sq,?_⟩⟩⟩
  obtain⟨as,h1,h2,h3⟩:=hL
  refine ZcL (n:=(Z4 ms.length).length) (λq=>decide (ZaY ((Z4 ms.length).getD q [])=M)) (λq=>V.ref (as.getD q 0)) (Yx (show _<=120 from ?_) (by decide)) (λj Hx s hj=>⟨_,_,SqL.of (s _ _ h1),Yf (by rw[Yh];omega)⟩) (λHx s=>⟨_,SqL.of (s _ _ h1),by rw[Yh];omega⟩) ?_ ?_
  ·have:∀k,k<6->(Z4 k).length<=120:=by decide +kernel
   exact this _ (by omega)
  ·rintro j x Hx Hz hj s ⟨rfl,hx⟩
   have hja:j<as.length:=by omega
   have ex:=hx _ (SqL.of (s _ _ h1))
   rw[YA,Yf hja]at ex
   cases ex
   have ha:=s _ _ (h3 j hja hj)
   have er:(Z4 ms.length).getD j []=(Z4 ms.length)[j]:=by simp[Yu,hj]
   have ea:as.getD j 0=as[j]:=by simp[Yu,hja]
   have hlen:=ZbH _ _ (YW hj)
   generalize (Z4 ms.length)[j]=row at ha hlen er
   walk_at "rd"
   refine⟨_,row,rfl,.inr (SqT.of ha),by omega,λu es H5 zu hE s5 hu=>⟨u,rfl,_,Zid (n:=2) (K:=K) ZfY _ _ _ _ (Zdm hu.sq) (Zdm (((ht2.same s2).same s3).same (s.trans s5)).sq),?_⟩⟩
   have ee:es=ZaY row:=Zl.unique hE (ZeL row)
   rw[ee]
   refine ZaX (λh=>CF.take hj (by rw[er];exact h) (by rw[ea]) (s.trans s5)) λh=>CF.skip hj (by rw[er];simpa using h) (s.trans s5)
  ·intro r H5 s5 hr5
   refine⟨r,rfl,_,.inl (SqL.of Zd),rfl,ZaX (λz=>absurd ?_ z) λ_=>(s1.trans (s2.trans (s3.trans s5))).Zbg hr5⟩
   rw[Yh,Zgf (Z4 ms.length) [] (λr=>decide (ZaY r=M)),ZgP hM hm]
 ·rintro σ H' ⟨v1,v2,v3,v4,v5,rfl,hs⟩
  walk_at "rd"
  exact k1 _
end
theorem all_mk {l:PySem.W.OpenLaw}{w:World}{K:PySem.W.Frag}{h:Heap}{mg:Str->Option Value}{fa:Addr} (X:K.In h) (G:h.Ns mainGlobals mg) (hfa:mg "law"=some (.ref fa))
  (ZeS:nsIn K mainGlobals "settle"=some (some (.ref ZgU))) (ZeT:K.lookup ZgU=some ⟨ZmB,ZmC,.func (fnOf "settle" "settle" (defArgs ZbJ) (defBody ZbJ) (defScope ZbJ) .none ZmD ZmE ZmF ZmG Zje ZmH),ZmI⟩) (ZeU:codeIn K Zje "settle"=true) (Zdy:keepIn K (.ref ZgU)=true)
  (ZdQ:nsIn K mainGlobals "tree_of"=some (some (.ref Zfz))) (ZdR:K.lookup Zfz=some ⟨Zmg,Zmh,.func (fnOf "tree_of" "tree_of" (defArgs Za4) (defBody Za4) (defScope Za4) .none Zmi Zmj Zmk Zml ZhI Zmm),Zmn⟩) (ZdS:codeIn K ZhI "tree_of"=true) (ZcP:keepIn K (.ref Zfz)=true)
  (ZeV:nsIn K mainGlobals "way_up"=some (some (.ref ZgV))) (ZeW:K.lookup ZgV=some ⟨ZmJ,ZmK,.func (fnOf "way_up" "way_up" (defArgs ZbK) (defBody ZbK) (defScope ZbK) .none ZmL ZmM ZmN ZmO Zjf ZmP),ZmQ⟩) (ZeX:codeIn K Zjf "way_up"=true) (Zdz:keepIn K (.ref ZgV)=true)
  (ZdT:nsIn K mainGlobals "is_tree"=some (some (.ref ZfA))) (ZdU:K.lookup ZfA=some ⟨Zmo,Zmp,.func (fnOf "is_tree" "is_tree" (defArgs Za5) (defBody Za5) (defScope Za5) .none Zmq Zmr Zms Zmt ZhJ Zmu),Zmv⟩) (ZdV:codeIn K ZhJ "is_tree"=true) (ZcQ:keepIn K (.ref ZfA)=true)
  (Zcm:nsIn K mainGlobals "need_tree"=some (some (.ref Zd4))) (Zcn:K.lookup Zd4=some ⟨Zk5,Zk6,.func (fnOf "need_tree" "need_tree" (defArgs Zav) (defBody Zav) (defScope Zav) .none Zk7 Zk8 Zk9 Zla Zgg Zlb),Zlc⟩) (Zco:codeIn K Zgg "need_tree"=true) (Zbi:keepIn K (.ref Zd4)=true)
  (Zcp:nsIn K mainGlobals "fences_of"=some (some (.ref Zd5))) (Zcq:K.lookup Zd5=some ⟨Zld,Zle,.func (fnOf "fences_of" "fences_of" (defArgs Zaw) (defBody Zaw) (defScope Zaw) .none Zlf Zlg Zlh Zli Zgh Zlj),Zlk⟩) (Zcr:codeIn K Zgh "fences_of"=true) (Zbj:keepIn K (.ref Zd5)=true)
  (Zdb:nsIn K mainGlobals "spans_of"=some (some (.ref ZeY))) (Zdc:K.lookup ZeY=some ⟨ZlZ,Zl0,.func (fnOf "spans_of" "spans_of" (defArgs ZaO) (defBody ZaO) (defScope ZaO) .none Zl1 Zl2 Zl3 Zl4 ZgW Zl5),Zl6⟩) (Zdd:codeIn K ZgW "spans_of"=true) (Zb0:keepIn K (.ref ZeY)=true)
  (Zbw:nsIn K mainGlobals "many_orders"=some (some (.ref ZcT))) (Zbx:K.lookup ZcT=some ⟨Zj6,Zj7,.func (fnOf "many_orders" "many_orders" (defArgs Z0) (defBody Z0) (defScope Z0) .none Zj8 Zj9 Zka Zkb ZeZ Zkc),Zkd⟩) (Zby:codeIn K ZeZ "many_orders"=true) (ZaS:keepIn K (.ref ZcT)=true)
  (Zcs:nsIn K mainGlobals "_law_deal"=some (some (.ref Zd6))) (Zct:K.lookup Zd6=some ⟨Zll,Zlm,.func (fnOf "_law_deal" "_law_deal" (defArgs Zax) (defBody Zax) (defScope Zax) .none Zln Zlo Zlp Zlq Zgi Zlr),Zls⟩) (Zcu:codeIn K Zgi "_law_deal"=true) (Zbk:keepIn K (.ref Zd6)=true)
  (Zcv:nsIn K mainGlobals "_law_take"=some (some (.ref Zd7))) (Zcw:K.lookup Zd7=some ⟨Zlt,Zlu,.func (fnOf "_law_take" "_law_take" (defArgs Zay) (defBody Zay) (defScope Zay) .none Zlv Zlw Zlx Zly Zgj Zlz),ZlA⟩) (Zcx:codeIn K Zgj "_law_take"=true) (Zbl:keepIn K (.ref Zd7)=true)
  (Zbz:nsIn K mainGlobals "_law_unlike"=some (some (.ref ZcU))) (ZbA:K.lookup ZcU=some ⟨Zke,Zkf,.func (fnOf "_law_unlike" "_law_unlike" (defArgs Z1) (defBody Z1) (defScope Z1) .none Zkg Zkh Zki Zkj Ze0 Zkk),Zkl⟩) (ZbB:codeIn K Ze0 "_law_unlike"=true) (ZaT:keepIn K (.ref ZcU)=true)
  (Zde:nsIn K mainGlobals "_law_row"=some (some (.ref Ze1))) (Zdf:K.lookup Ze1=some ⟨Zl7,Zl8,.func (fnOf "_law_row" "_law_row" (defArgs ZaP) (defBody ZaP) (defScope ZaP) .none Zl9 Zma Zmb Zmc ZgX Zmd),Zme⟩) (Zdg:codeIn K ZgX "_law_row"=true) (Zb1:keepIn K (.ref Ze1)=true)
  (Zcy:nsIn K mainGlobals "_law_tree"=some (some (.ref Zd8))) (Zcz:K.lookup Zd8=some ⟨ZlB,ZlC,.func (fnOf "_law_tree" "_law_tree" (defArgs Zaz) (defBody Zaz) (defScope Zaz) .none ZlD ZlE ZlF ZlG Zgk ZlH),ZlI⟩) (ZcA:codeIn K Zgk "_law_tree"=true) (Zbm:keepIn K (.ref Zd8)=true)
  (ZcB:nsIn K mainGlobals "_law_over"=some (some (.ref Zd9))) (ZcC:K.lookup Zd9=some ⟨ZlJ,ZlK,.func (fnOf "_law_over" "_law_over" (defArgs ZaA) (defBody ZaA) (defScope ZaA) .none ZlL ZlM ZlN ZlO Zgl ZlP),ZlQ⟩) (ZcD:codeIn K Zgl "_law_over"=true) (Zbn:keepIn K (.ref Zd9)=true)
  (Zb2:nsIn K mainGlobals "_law_whole"=some (some (.ref ZdA))) (Zb3:K.lookup ZdA=some ⟨Zkt,Zku,.func (fnOf "_law_whole" "_law_whole" (defArgs Zac) (defBody Zac) (defScope Zac) .none Zkv Zkw Zkx Zky Zfc Zkz),ZkA⟩) (Zb4:codeIn K Zfc "_law_whole"=true) (Za2:keepIn K (.ref ZdA)=true)
  (ZcE:nsIn K mainGlobals "_law_ways"=some (some (.ref Zea))) (ZcF:K.lookup Zea=some ⟨ZlR,ZlS,.func (fnOf "_law_ways" "_law_ways" (defArgs ZaB) (defBody ZaB) (defScope ZaB) .none ZlT ZlU ZlV ZlW Zgm ZlX),ZlY⟩) (ZcG:codeIn K Zgm "_law_ways"=true) (Zbo:keepIn K (.ref Zea)=true)
  (Zas:nsIn K mainGlobals "_law_many_orders"=some (some (.ref Zbe))) (Zat:K.lookup Zbe=some ⟨Zg7,Zg8,.func (fnOf "_law_many_orders" "_law_many_orders" (defArgs ZD) (defBody ZD) (defScope ZD) .none Zg9 Zha Zhb Zhc ZcS Zhd),Zhe⟩) (Zau:codeIn K ZcS "_law_many_orders"=true) (ZZ:keepIn K (.ref Zbe)=true)
  (ZaF:nsIn K mainGlobals "_law_all_orders"=some (some (.ref Zbp))) (ZaG:K.lookup Zbp=some ⟨ZhK,ZhL,.func (fnOf "_law_all_orders" "_law_all_orders" (defArgs ZH) (defBody ZH) (defScope ZH) .none ZhM ZhN ZhO ZhP Zdh ZhQ),ZhR⟩) (ZaH:codeIn K Zdh "_law_all_orders"=true) (Z7:keepIn K (.ref Zbp)=true)
  (Zkm:nsIn K mainGlobals "law"=some (some (.ref Zmf))) (Zkn:K.lookup Zmf=some ⟨ZmS,ZmT,.func (fnOf "law" "law" (defArgs Zdw) (defBody Zdw) (defScope Zdw) .none Zmw Zmx Zmy Zmz Zko ZmA),ZmU⟩) (Zkp:codeIn K Zko "law"=true) (Zkq:keepIn K (.ref Zmf)=true)
  {C_DipError:Addr} (n_DipError:nsIn K mainGlobals "DipError"=some (some (.ref C_DipError))) (x_DipError:PySem.W.excIn K C_DipError bmV newV=true) (d_DipError:PySem.W.hasDictIn K C_DipError=true) (y_DipError:PySem.W.typeIn K (.ref C_DipError)=some (.type "type"))
  {C_NoTree:Addr} (n_NoTree:nsIn K mainGlobals "NoTree"=some (some (.ref C_NoTree))) (x_NoTree:PySem.W.excIn K C_NoTree bmV newV=true) (d_NoTree:PySem.W.hasDictIn K C_NoTree=true) (y_NoTree:PySem.W.typeIn K (.ref C_NoTree)=some (.type "type"))
  (b_bool:nsIn K mainGlobals "bool"=some none)
  (b_enumerate:nsIn K mainGlobals "enumerate"=some none)
  (b_int:nsIn K mainGlobals "int"=some none)
  (b_isinstance:nsIn K mainGlobals "isinstance"=some none)
  (b_len:nsIn K mainGlobals "len"=some none)
  (b_max:nsIn K mainGlobals "max"=some none)
  (b_min:nsIn K mainGlobals "min"=some none)
  (b_range:nsIn K mainGlobals "range"=some none)
  (b_sum:nsIn K mainGlobals "sum"=some none)
  (b_tuple:nsIn K mainGlobals "tuple"=some none)
  {t_MOST_PLACES:Tok} (m_MOST_PLACES:nsIn K mainGlobals "MOST_PLACES"=some (some (.int 40 t_MOST_PLACES)))
  : ∃fd:FuncData,(∀(s:Shared) (v:Value),BindsTo s fd ⟨[v],[]⟩ [("script",v)])/\∀base:Heap,K.In base->base.Ns mainGlobals mg->FnOk l.prog w K mg base (CXE l.prog w) 7 fa fd ["script"] (Zis K):=by
 have e:=hfa.symm.trans (mg_of X G Zkm)
 cases e
 have q_DipError:clsAt mg "DipError"=C_DipError:=by unfold clsAt;rw[mg_of X G n_DipError]
 have q_NoTree:clsAt mg "NoTree"=C_NoTree:=by unfold clsAt;rw[mg_of X G n_NoTree]
 have q_MOST_PLACES:tokAt mg "MOST_PLACES"=t_MOST_PLACES:=by unfold tokAt;rw[mg_of X G m_MOST_PLACES]
 have T:Txt K mg:={
  b_bool:=mg_none_of X G b_bool
  b_enumerate:=mg_none_of X G b_enumerate
  b_int:=mg_none_of X G b_int
  b_isinstance:=mg_none_of X G b_isinstance
  b_len:=mg_none_of X G b_len
  b_max:=mg_none_of X G b_max
  b_min:=mg_none_of X G b_min
  b_range:=mg_none_of X G b_range
  b_sum:=mg_none_of X G b_sum
  b_tuple:=mg_none_of X G b_tuple
  c_DipError:=by rw[q_DipError];exact mg_of X G n_DipError
  x_DipError:=by rw[q_DipError];exact x_DipError
  c_NoTree:=by rw[q_NoTree];exact mg_of X G n_NoTree
  x_NoTree:=by rw[q_NoTree];exact x_NoTree
  m_MOST_PLACES:=by rw[q_MOST_PLACES];exact mg_of X G m_MOST_PLACES
 }
 have ZgY:=ZV (st:=ZbJ) ZeT ZeU Zdy
 have Zkr:=ZgY.binds (ps:=["elders","spine","place","keep"]) λ_ _ _ _ _ _ us hl=>by obtain⟨x0,u0,rfl,h0⟩:=le1 hl;obtain⟨x1,u1,rfl,h1⟩:=le1 h0;obtain⟨x2,u2,rfl,h2⟩:=le1 h1;obtain⟨x3,u3,rfl,h3⟩:=le1 h2;obtain rfl:=le0 h3;exact rfl
 have ZfB:=ZV (st:=Za4) ZdR ZdS ZcP
 have Zjg:=ZfB.binds (ps:=["row"]) λ_ _ _ _ _ _ us hl=>by obtain⟨x0,u0,rfl,h0⟩:=le1 hl;obtain rfl:=le0 h0;exact rfl
 have ZgZ:=ZV (st:=ZbK) ZeW ZeX Zdz
 have Zks:=ZgZ.binds (ps:=["tree","place"]) λ_ _ _ _ _ _ us hl=>by obtain⟨x0,u0,rfl,h0⟩:=le1 hl;obtain⟨x1,u1,rfl,h1⟩:=le1 h0;obtain rfl:=le0 h1;exact rfl
 have ZfC:=ZV (st:=Za5) ZdU ZdV ZcQ
 have Zjh:=ZfC.binds (ps:=["tree"]) λ_ _ _ _ _ _ us hl=>by obtain⟨x0,u0,rfl,h0⟩:=le1 hl;obtain rfl:=le0 h0;exact rfl
 have Zeb:=ZV (st:=Zav) Zcn Zco Zbi
 have Zg0:=Zeb.binds (ps:=["tree"]) λ_ _ _ _ _ _ us hl=>by obtain⟨x0,u0,rfl,h0⟩:=le1 hl;obtain rfl:=le0 h0;exact rfl
 have Zec:=ZV (st:=Zaw) Zcq Zcr Zbj
 have Zg1:=Zec.binds (ps:=["tree"]) λ_ _ _ _ _ _ us hl=>by obtain⟨x0,u0,rfl,h0⟩:=le1 hl;obtain rfl:=le0 h0;exact rfl
 have Ze2:=ZV (st:=ZaO) Zdc Zdd Zb0
 have ZhS:=Ze2.binds (ps:=["tree"]) λ_ _ _ _ _ _ us hl=>by obtain⟨x0,u0,rfl,h0⟩:=le1 hl;obtain rfl:=le0 h0;exact rfl
 have ZcV:=ZV (st:=Z0) Zbx Zby ZaS
 have Zfd:=ZcV.binds (ps:=["tree"]) λ_ _ _ _ _ _ us hl=>by obtain⟨x0,u0,rfl,h0⟩:=le1 hl;obtain rfl:=le0 h0;exact rfl
 have Zed:=ZV (st:=Zax) Zct Zcu Zbk
 have Zg2:=Zed.binds (ps:=["cell"]) λ_ _ _ _ _ _ us hl=>by obtain⟨x0,u0,rfl,h0⟩:=le1 hl;obtain rfl:=le0 h0;exact rfl
 have Zee:=ZV (st:=Zay) Zcw Zcx Zbl
 have Zg3:=Zee.binds (ps:=["pot","many"]) λ_ _ _ _ _ _ us hl=>by obtain⟨x0,u0,rfl,h0⟩:=le1 hl;obtain⟨x1,u1,rfl,h1⟩:=le1 h0;obtain rfl:=le0 h1;exact rfl
 have ZcW:=ZV (st:=Z1) ZbA ZbB ZaT
 have Zfe:=ZcW.binds (ps:=["pot","many"]) λ_ _ _ _ _ _ us hl=>by obtain⟨x0,u0,rfl,h0⟩:=le1 hl;obtain⟨x1,u1,rfl,h1⟩:=le1 h0;obtain rfl:=le0 h1;exact rfl
 have Ze3:=ZV (st:=ZaP) Zdf Zdg Zb1
 have ZhT:=Ze3.binds (ps:=["pot","most"]) λ_ _ _ _ _ _ us hl=>by obtain⟨x0,u0,rfl,h0⟩:=le1 hl;obtain⟨x1,u1,rfl,h1⟩:=le1 h0;obtain rfl:=le0 h1;exact rfl
 have Zef:=ZV (st:=Zaz) Zcz ZcA Zbm
 have Zg4:=Zef.binds (ps:=["row"]) λ_ _ _ _ _ _ us hl=>by obtain⟨x0,u0,rfl,h0⟩:=le1 hl;obtain rfl:=le0 h0;exact rfl
 have Zeg:=ZV (st:=ZaA) ZcC ZcD Zbn
 have Zg5:=Zeg.binds (ps:=["tree","place"]) λ_ _ _ _ _ _ us hl=>by obtain⟨x0,u0,rfl,h0⟩:=le1 hl;obtain⟨x1,u1,rfl,h1⟩:=le1 h0;obtain rfl:=le0 h1;exact rfl
 have ZdB:=ZV (st:=Zac) Zb3 Zb4 Za2
 have Zgn:=ZdB.binds (ps:=["thing"]) λ_ _ _ _ _ _ us hl=>by obtain⟨x0,u0,rfl,h0⟩:=le1 hl;obtain rfl:=le0 h0;exact rfl
 have Zeh:=ZV (st:=ZaB) ZcF ZcG Zbo
 have Zg6:=Zeh.binds (ps:=["p","q"]) λ_ _ _ _ _ _ us hl=>by obtain⟨x0,u0,rfl,h0⟩:=le1 hl;obtain⟨x1,u1,rfl,h1⟩:=le1 h0;obtain rfl:=le0 h1;exact rfl
 have Zbf:=ZV (st:=ZD) Zat Zau ZZ
 have Zdi:=Zbf.binds (ps:=["tree"]) λ_ _ _ _ _ _ us hl=>by obtain⟨x0,u0,rfl,h0⟩:=le1 hl;obtain rfl:=le0 h0;exact rfl
 have Zbq:=ZV (st:=ZH) ZaG ZaH Z7
 have ZdC:=Zbq.binds (ps:=["many"]) λ_ _ _ _ _ _ us hl=>by obtain⟨x0,u0,rfl,h0⟩:=le1 hl;obtain rfl:=le0 h0;exact rfl
 have ZmR:=ZV (st:=Zdw) Zkn Zkp Zkq
 refine⟨fnOf "law" "law" (defArgs Zdw) (defBody Zdw) (defScope Zdw) .none Zmw Zmx Zmy Zmz Zko ZmA,λs v=>.of_eq rfl,λbase _ _=>?_⟩
 have ZeR:Callee l.prog w K mg base "settle" 1 ["elders","spine","place","keep"] (ZdM K mg):=⟨_,_,mg_of X G ZeS,Zdy,Zkr,Zjc ZgY T⟩
 have ZdO:Callee l.prog w K mg base "tree_of" 2 ["row"] (Zc7 K mg):=⟨_,_,mg_of X G ZdQ,ZcP,Zjg,ZhG ZfB ZeR T⟩
 have ZbM:Callee l.prog w K mg base "way_up" 1 ["tree","place"] (ZcN K mg):=⟨_,_,mg_of X G ZeV,Zdz,Zks,Zjd ZgZ T⟩
 have ZdP:Callee l.prog w K mg base "is_tree" 3 ["tree"] (Zc8 K mg):=⟨_,_,mg_of X G ZdT,ZcQ,Zjh,ZhH ZfC ZdO ZbM T⟩
 have Zch:Callee l.prog w K mg base "need_tree" 4 ["tree"] (ZbW K mg):=⟨_,_,mg_of X G Zcm,Zbi,Zg0,Zgc Zeb ZdP T⟩
 have Zci:Callee l.prog w K mg base "fences_of" 2 ["tree"] (ZbX K mg):=⟨_,_,mg_of X G Zcp,Zbj,Zg1,Zgd Zec ZbM T⟩
 have Zda:Callee l.prog w K mg base "spans_of" 5 ["tree"] (Zcg K mg):=⟨_,_,mg_of X G Zdb,Zb0,ZhS,ZgT Ze2 Zch Zci T⟩
 have Zaj:Callee l.prog w K mg base "many_orders" 6 ["tree"] (Zbc K mg):=⟨_,_,mg_of X G Zbw,ZaS,Zfd,ZeQ ZcV Zda T⟩
 have Zcl:Callee l.prog w K mg base "_law_deal" 1 ["cell"] (ZbS K mg):=⟨_,_,mg_of X G Zcs,Zbk,Zg2,Zf8 Zed T⟩
 have ZK:Callee l.prog w K mg base "_law_take" 1 ["pot","many"] (ZaZ K mg):=⟨_,_,mg_of X G Zcv,Zbl,Zg3,Zf9 Zee T⟩
 have Zbv:Callee l.prog w K mg base "_law_unlike" 2 ["pot","many"] (Zbb K mg):=⟨_,_,mg_of X G Zbz,ZaT,Zfe,ZeP ZcW ZK T⟩
 have ZbY:Callee l.prog w K mg base "_law_row" 3 ["pot","most"] (Zcf K mg):=⟨_,_,mg_of X G Zde,Zb1,ZhT,ZgS Ze3 ZK Zbv T⟩
 have ZaW:Callee l.prog w K mg base "_law_tree" 1 ["row"] (ZbT K mg):=⟨_,_,mg_of X G Zcy,Zbm,Zg4,Zga Zef T⟩
 have ZbZ:Callee l.prog w K mg base "_law_whole" 1 ["thing"] (Zbu K mg):=⟨_,_,mg_of X G Zb2,Za2,Zgn,Zfb ZdB T⟩
 have Zcj:Callee l.prog w K mg base "_law_over" 1 ["tree","place"] (ZbU K mg):=⟨_,_,mg_of X G ZcB,Zbn,Zg5,Zgb Zeg T⟩
 have Zck:Callee l.prog w K mg base "_law_ways" 1 ["p","q"] (ZbV K mg):=⟨_,_,mg_of X G ZcE,Zbo,Zg6,Zge Zeh T⟩
 have Zar:Callee l.prog w K mg base "_law_many_orders" 2 ["tree"] (Zah K mg):=⟨_,_,mg_of X G Zas,ZZ,Zdi,ZcR Zbf Zcj Zck T⟩
 have ZaE:Callee l.prog w K mg base "_law_all_orders" 1 ["many"] (Zaq K mg):=⟨_,_,mg_of X G ZaF,Z7,ZdC,Zc9 Zbq T⟩
 exact ok_law ZmR Zaj Zcl ZbY ZaW ZbZ Zar ZaE T
theorem walk {l:PySem.W.OpenLaw}{q:Program}{loose:List Str}{XP:(Str->Option Value)->Heap->Prop}{YP:World->Heap->Prop}{d:DefRec}{K:Params->PySem.W.Frag} (hn:l.most=some 63) (hdf:d.params.defaults=[])
  (hY:∀(w:World) (h:Heap),YP w h->(K w.params).In h)
  (F:∀(w:World) (mg:Str->Option Value) (fa:Addr) (h:Heap),(K w.params).In h->h.Ns mainGlobals mg->mg d.name=some (.ref fa) ->
   ∃fd:FuncData,(∀(s:Shared) (u:Value),BindsTo s fd ⟨[u],[]⟩ [("script",u)])/\∀base:Heap,(K w.params).In base->base.Ns mainGlobals mg->FnOk l.prog w (K w.params) mg base (CXE l.prog w) 7 fa fd ["script"] (Zis (K w.params))) :
  PySem.W.WalkO q loose XP YP l.row.toRowW d [] (λf vs=>PySem.call f vs) :=
 L2.ZkJ (n:=63) (k:=7) (x:="script") (CX:=λw=>CXE l.prog w) (sp:=λw=>Zis (K w.params)) hn (by decide) hdf ⟨rfl,by decide,by decide⟩ hY F (λ_ _ a ns hl _ hS=>⟨a,ns,rfl,hS,hl,λ_=>rfl⟩) λ_ _ _ _ _ ⟨_,_,_,_,_,_,_,z⟩=>z
end K33
def PySem.W.Fast.tw5643498959159884685:Unit:=()
def PySem.W.Fast.tw10088201391918768470:Unit:=()
def PySem.W.Fast.tw7425291032232886618:Unit:=()
def PySem.W.Fast.tw14142231953770753161:Unit:=()
def PySem.W.Fast.tw4211307703059239767:Unit:=()
def PySem.W.Fast.tw407777233850817320:Unit:=()
def PySem.W.Fast.tw11040908345366691189:Unit:=()
def PySem.W.Fast.tw14116806856809066205:Unit:=()
def PySem.W.Fast.tw7193258083879743748:Unit:=()
def PySem.W.Fast.tw3117196162637993471:Unit:=()
def PySem.W.Fast.tw246216273074915595:Unit:=()
def PySem.W.Fast.tw17014510834800438936:Unit:=()
def PySem.W.Fast.tw5835447003251001626:Unit:=()
def PySem.W.Fast.tw9290989329453665520:Unit:=()
def PySem.W.Fast.tw13473080905015669956:Unit:=()
def PySem.W.Fast.tw3626540521930184126:Unit:=()
def PySem.W.Fast.tw13446944284066956093:Unit:=()
def PySem.W.Fast.tw3148053788860663613:Unit:=()
def PySem.W.Fast.tw1710007806108280577:Unit:=()
def PySem.W.Fast.tw13832457094122578730:Unit:=()
def PySem.W.Fast.tw17662087413631629084:Unit:=()
def PySem.W.Fast.tw9826667502482153508:Unit:=()
def PySem.W.Fast.tw7991769679204975741:Unit:=()
def PySem.W.Fast.tw17915140947567897414:Unit:=()
def PySem.W.Fast.tw15694200626171394381:Unit:=()
def PySem.W.Fast.tw13418597555204337718:Unit:=()
def PySem.W.Fast.tw9667687372110659887:Unit:=()
def PySem.W.Fast.tw2937631955601094549:Unit:=()
def PySem.W.Fast.tw4950716965144657713:Unit:=()
def PySem.W.Fast.tw9862961424154299240:Unit:=()
def PySem.W.Fast.tw13783115367417840006:Unit:=()
def PySem.W.Fast.tw11966859302151005699:Unit:=()
def PySem.W.Fast.tw13119810200994632063:Unit:=()
def PySem.W.Fast.tw16824597512288458875:Unit:=()
def PySem.W.Fast.tw11988311243313825978:Unit:=()
def PySem.W.Fast.tw1011381839613126197:Unit:=()
def PySem.W.Fast.tw5967179493660264360:Unit:=()
def PySem.W.Fast.tw2671072634888896554:Unit:=()
def PySem.W.Fast.tw6566925062519792528:Unit:=()
def PySem.W.Fast.tw2572893354023173880:Unit:=()
def PySem.W.Fast.tw5720680459159742145:Unit:=()
def PySem.W.Fast.tw12295008809426375912:Unit:=()
def PySem.W.Fast.tw2921813513339536454:Unit:=()
def PySem.W.Fast.tw3727753035735253552:Unit:=()
def PySem.W.Fast.tw6499790657345411863:Unit:=()
def PySem.W.Fast.tw3197639120432922102:Unit:=()
def PySem.W.Fast.tw4478155738455556874:Unit:=()
def PySem.W.Fast.tw3818869546773167199:Unit:=()
def PySem.W.Fast.tw13668063910584747291:Unit:=()
def PySem.W.Fast.tw15309959740119022987:Unit:=()
def PySem.W.Fast.tw15713265185918772966:Unit:=()
def PySem.W.Fast.tw9158682034287082848:Unit:=()
def PySem.W.Fast.tw16200194113495446092:Unit:=()
def PySem.W.Fast.tw13394053447035754435:Unit:=()
def PySem.W.Fast.tw9604421845380981579:Unit:=()
open PySem PySem.W PyProof.Rows
set_option maxRecDepth 100000 in
set_option maxHeartbeats 0 in
theorem PySem.Challenge.cw_dipkin_k33_orders_counted_holds : PySem.Challenge.rw_dipkin_k33_orders_counted.Holds := by
 w_on;o_law;k_head;(case hw=>w_witness2)
 k_fill
 refine K33.walk (l:=PySem.Challenge.rw_dipkin_k33_orders_counted) rfl rfl (λw h Y=>PySem.W.kIn_of Y) ?F
 case F =>
  intro w mg fa h KX G hmg
  refine' K33.all_mk KX G hmg ?ZeS ?ZeT ?ZeU ?Zdy ?ZdQ ?ZdR ?ZdS ?ZcP ?ZeV ?ZeW ?ZeX ?Zdz ?ZdT ?ZdU ?ZdV ?ZcQ ?Zcm ?Zcn ?Zco ?Zbi ?Zcp ?Zcq ?Zcr ?Zbj ?Zdb ?Zdc ?Zdd ?Zb0 ?Zbw ?Zbx ?Zby ?ZaS ?Zcs ?Zct ?Zcu ?Zbk ?Zcv ?Zcw ?Zcx ?Zbl ?Zbz ?ZbA ?ZbB ?ZaT ?Zde ?Zdf ?Zdg ?Zb1 ?Zcy ?Zcz ?ZcA ?Zbm ?ZcB ?ZcC ?ZcD ?Zbn ?Zb2 ?Zb3 ?Zb4 ?Za2 ?ZcE ?ZcF ?ZcG ?Zbo ?Zas ?Zat ?Zau ?ZZ ?ZaF ?ZaG ?ZaH ?Z7 ?Zkm ?Zkn ?Zkp ?Zkq ?n_DipError ?x_DipError ?d_DipError ?y_DipError ?n_NoTree ?x_NoTree ?d_NoTree ?y_NoTree ?b_bool ?b_enumerate ?b_int ?b_isinstance ?b_len ?b_max ?b_min ?b_range ?b_sum ?b_tuple ?m_MOST_PLACES
  (case ZeS|ZeT|ZeU|Zdy|ZdQ|ZdR|ZdS|ZcP|ZeV|ZeW|ZeX|Zdz|ZdT|ZdU|ZdV|ZcQ|Zcm|Zcn|Zco|Zbi|Zcp|Zcq|Zcr|Zbj|Zdb|Zdc|Zdd|Zb0|Zbw|Zbx|Zby|ZaS|Zcs|Zct|Zcu|Zbk|Zcv|Zcw|Zcx|Zbl|Zbz|ZbA|ZbB|ZaT|Zde|Zdf|Zdg|Zb1|Zcy|Zcz|ZcA|Zbm|ZcB|ZcC|ZcD|Zbn|Zb2|Zb3|Zb4|Za2|ZcE|ZcF|ZcG|Zbo|Zas|Zat|Zau|ZZ|ZaF|ZaG|ZaH|Z7|Zkm|Zkn|Zkp|Zkq|n_DipError=>k_is)
  (case x_DipError=>k_exc)
  (case d_DipError|y_DipError|n_NoTree=>k_is)
  (case x_NoTree=>k_exc)
  (case d_NoTree|y_NoTree|b_bool|b_enumerate|b_int|b_isinstance|b_len|b_max|b_min|b_range|b_sum|b_tuple|m_MOST_PLACES=>k_is)
