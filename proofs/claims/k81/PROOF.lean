import PyProof.Rows.All
import Wide.All
import OpenK.AllK
import Wide.FinOn
import Lean
import PyProof.EqAt
import PyProof.EqKinds
import PyProof.TupleCall
import PyProof.MeetsSeq
import PyProof.NeKinds
import PyProof.TupleOfSeq
import PyProof.ListRange
import PyProof.TupleOfGen
import PyProof.ZipIter
import KE.KRevIter
import PyProof.StrWalks
import PyProof.StrBlock2
import PyProof.MeetsStr
import PyProof.StrCalls2
import PyProof.StrLawsIn
import KE.KIntText
import PyProof.StrLawsTight
import PyProof.StrLawsChain
import PyProof.StrLawsAffix
import PyProof.Rows.StrItems
import PyProof.Rows.ReprOcc
import KE.KDictSum
import PyProof.Rows.SeqMore
import KE.KDictList
import KE.KStateDown
import PyProof.StrBlockI
import PyProof.FactsAll.NoneType_1
import PyProof.FString2
import PyProof.TupleKey
import OpenK.KTop
import PyProof.Rows.StrNews2
import PyProof.Rows.StrFirst
import PySem.Challenge.RW_dipkin_k81_desk_keeps_a_row
set_option Elab.async false
set_option linter.all false
set_option maxRecDepth 100000
set_option maxHeartbeats 4000000
set_option genSizeOfSpec false
set_option bootstrap.genMatcherCode false
set_option compiler.extract_closed false
local macro_rules | `(tactic| omega) => `(tactic| first | lia | omega (config := {}))
section
open PySem PySem.Spec PyProof.Rows
noncomputable abbrev Ya:=@wpAny_bind
noncomputable abbrev Yb:=@if_neg
noncomputable abbrev Yc:=@wpAny_pure
noncomputable abbrev Yd:=@Nat.le_trans
noncomputable abbrev Ye:=@if_pos
noncomputable abbrev Yf:=@Nat.le_refl
noncomputable abbrev Yg:=@List.getElem?_eq_getElem
noncomputable abbrev Yh:=@Heap.lt_size
noncomputable abbrev Yi:=@List.size_toArray
noncomputable abbrev Yj:=@List.mem_cons
noncomputable abbrev Yk:=@Nat.lt_of_lt_of_le
noncomputable abbrev Yl:=@Heap.get?_push_of_some
noncomputable abbrev Ym:=@Nat.ne_of_lt
noncomputable abbrev Yn:=@Bool.false_ne_true
noncomputable abbrev Yo:=@List.mem_append_right
noncomputable abbrev Yp:=@List.length_map
noncomputable abbrev Yq:=@Option.some.inj
noncomputable abbrev Yr:=@List.length_cons
noncomputable abbrev Ys:=@List.mem_append
noncomputable abbrev Yt:=@List.getElem?_eq_some_iff
noncomputable abbrev Yu:=@Heap.get?_push_size
noncomputable abbrev Yv:=@List.mem_singleton
noncomputable abbrev Yw:=@PySem.boot_len
noncomputable abbrev Yx:=@Nat.lt_irrefl
noncomputable abbrev Yy:=@List.getElem?_map
noncomputable abbrev Yz:=@wpAny_mono
noncomputable abbrev YA:=@List.map_cons
noncomputable abbrev YB:=@List.length_append
noncomputable abbrev YC:=@decide_eq_true
noncomputable abbrev YD:=@List.mem_map
noncomputable abbrev YE:=@List.mem_cons_of_mem
noncomputable abbrev YF:=@wpAny_holding
noncomputable abbrev YG:=@Nat.zero_le
noncomputable abbrev YH:=@Nat.lt_of_le_of_lt
noncomputable abbrev YI:=@Array.length_toList
noncomputable abbrev YJ:=@List.length_take
noncomputable abbrev YK:=@List.getElem_mem
noncomputable abbrev YL:=@Nat.lt_succ_of_lt
noncomputable abbrev YM:=@Nat.le_of_lt
noncomputable abbrev YN:=@List.mem_append_left
noncomputable abbrev YO:=@List.append_assoc
noncomputable abbrev YQ:=@List.getD_eq_getElem?_getD
noncomputable abbrev YR:=@decide_eq_false
noncomputable abbrev YS:=@List.mem_cons_self
noncomputable abbrev YT:=@List.getElem?_append_right
noncomputable abbrev YU:=@List.getElem?_append_left
noncomputable abbrev YV:=@List.length_drop
noncomputable abbrev YW:=@Array.getElem?_toList
noncomputable abbrev YX:=@List.getElem_append_left
noncomputable abbrev YY:=@List.getElem_of_mem
end
namespace L2
open PySem PySem.Spec PyProof.Rows
noncomputable abbrev Key:=Sum Int Str
noncomputable def keyIs:Key->Value->Bool
 |.inl k,v=>Value.isInt k v
 |.inr x,v=>Value.isStrOf x v
noncomputable def keyH (w:World):Key->Int
 |.inl k=>hashInt k
 |.inr x=>hashStr w x
theorem ZL:∀{k:Key}{v:Value},keyIs k v=true->(∃i t,k=Sum.inl i/\v=Value.int i t)\/(∃x t,k=Sum.inr x/\v=Value.str x t)
 |.inl i,v,h=>by
  obtain⟨t,e⟩:=Value.isInt_shape (k:=i) (v:=v) h
  exact .inl ⟨i,t,rfl,e⟩
 |.inr x,v,h=>by
  obtain⟨t,e⟩:=Value.isStrOf_shape (x:=x) (v:=v) h
  exact .inr ⟨x,t,rfl,e⟩
theorem key_ll (a b:Int):decide ((Sum.inl a:Key)=Sum.inl b)=(a==b):=by
 by_cases e:a=b
 ·subst e;simp
 ·have h:¬ (Sum.inl a:Key)=Sum.inl b:=λq=>e (Sum.inl.inj q)
  rw[YR h]
  exact(beq_eq_false_iff_ne.mpr e).symm
theorem key_rr (a b:Str):decide ((Sum.inr a:Key)=Sum.inr b)=decide (a=b):=by
 by_cases e:a=b
 ·subst e;simp
 ·have h:¬ (Sum.inr a:Key)=Sum.inr b:=λq=>e (Sum.inr.inj q)
  rw[YR h,YR e]
theorem key_lr (a:Int) (b:Str):decide ((Sum.inl a:Key)=Sum.inr b)=false:=YR (λq=>nomatch q)
theorem key_rl (a:Str) (b:Int):decide ((Sum.inr a:Key)=Sum.inl b)=false:=YR (λq=>nomatch q)
noncomputable def ZfT (prog:Program) (w:World):PySem.KeyKind prog w Key where
 is:=keyIs
 hash:=keyH w
 inj:=λv a b ha hb=>by
  rcases ZL ha with⟨i,t,rfl,rfl⟩|⟨x,t,rfl,rfl⟩
  ·rcases ZL hb with⟨j,u,rfl,e⟩|⟨y,u,rfl,e⟩
   ·injection e with e1 _;rw[e1]
   ·exact nomatch e
  ·rcases ZL hb with⟨j,u,rfl,e⟩|⟨y,u,rfl,e⟩
   ·exact nomatch e
   ·injection e with e1 _;rw[e1]
 byValue:=λk v h=>by
  rcases ZL h with⟨i,t,rfl,rfl⟩|⟨x,t,rfl,rfl⟩<;>rfl
 pyHash:=λhv h=>by
  rcases ZL hv with⟨i,t,rfl,rfl⟩|⟨x,t,rfl,rfl⟩
  ·exact wpAny_pyHash_int h
  ·exact wpAny_pyHash_str h
 eqBool:=λhu hv h=>by
  rcases ZL hu with⟨i,t,rfl,rfl⟩|⟨x,t,rfl,rfl⟩
  ·rcases ZL hv with⟨j,u,rfl,rfl⟩|⟨y,u,rfl,rfl⟩
   ·rw[key_ll]at h;exact wpAny_eqBool_int h
   ·rw[key_lr]at h;exact SeqAt.EqAt.int_str i t y u _ _ _ _ h
  ·rcases ZL hv with⟨j,u,rfl,rfl⟩|⟨y,u,rfl,rfl⟩
   ·rw[key_rl]at h;exact SeqAt.EqAt.str_int x t j u _ _ _ _ h
   ·rw[key_rr]at h;exact wpAny_eqBool_str h
 «strs»:=λk x t v h=>by
  rcases ZL h with⟨i,u,rfl,e⟩|⟨y,u,rfl,e⟩
  ·exact nomatch e
  ·injection e with e1 _
   subst e1
   cases v<;>rfl
inductive V where
 |non|bl (b:Bool)|int (i:Int)|str (x:Str)|byt (b:Array UInt8)|flt (b:UInt64)|ref (a:Addr)|ty (n:String)
 deriving DecidableEq
noncomputable def RelV:V->Value->Prop
 |.non,u=>u=Value.none
 |.bl b,u=>u=Value.bool b
 |.int i,u=>∃t,u=Value.int i t
 |.str x,u=>∃t,u=Value.str x t
 |.byt b,u=>∃t,u=Value.bytes b t
 |.flt b,u=>∃t,u=Value.float b t
 |.ref a,u=>u=Value.ref a
 |.ty n,u=>u=Value.type n
noncomputable abbrev Vals:List V->List Value->Prop:=Paired RelV
theorem Vals.length {xs:List V}{us:List Value} (r:Vals xs us):xs.length=us.length:=Paired.length r
theorem Vals.get:∀{xs:List V}{us:List Value}{i:Nat}{x:V},Vals xs us->xs[i]?=some x->∃u,us[i]?=some u/\RelV x u
 |_,_,_,_,.nil,e=>by simp at e
 |_,_,0,_,.cons r _,e=>by simp at e;subst e;exact⟨_,rfl,r⟩
 |_,_,i+1,x,.cons _ t,e=>by
  obtain⟨u,h1,h2⟩:=Vals.get (i:=i) (x:=x) t (by simpa using e)
  exact⟨u,by simpa using h1,h2⟩
theorem Vals.set {x:V}{u:Value} (r:RelV x u):∀{xs:List V}{us:List Value} (i:Nat),Vals xs us->Vals (xs.set i x) (us.set i u)
 |_,_,_,.nil=>.nil
 |_,_,0,.cons _ t=>.cons r t
 |_,_,i+1,.cons q t=>.cons q (Vals.set r i t)
theorem Vals.append:∀{xs ys:List V}{us ws:List Value},Vals xs us->Vals ys ws->Vals (xs++ys) (us++ws)
 |_,_,_,_,.nil,s=>s
 |_,_,_,_,.cons r t,s=>.cons r (Vals.append t s)
theorem Vals.take:∀{xs:List V}{us:List Value} (n:Nat),Vals xs us->Vals (xs.take n) (us.take n)
 |_,_,0,_=>.nil
 |_,_,_+1,.nil=>.nil
 |_,_,n+1,.cons r t=>.cons r (Vals.take n t)
theorem Vals.drop:∀{xs:List V}{us:List Value} (n:Nat),Vals xs us->Vals (xs.drop n) (us.drop n)
 |_,_,0,r=>r
 |_,_,_+1,.nil=>.nil
 |_,_,n+1,.cons _ t=>Vals.drop n t
noncomputable def Zfe:Option V->Option Value->Prop
 |some v,some u=>RelV v u
 |none,none=>True
 |_,_=>False
noncomputable def KV {κ:Type}:List (κ×V)->List (κ×Value)->Prop:=Paired λ(p:κ×V) (q:κ×Value)=>p.1=q.1/\RelV p.2 q.2
noncomputable def kV:Key->V
 |.inl i=>.int i
 |.inr x=>.str x
inductive HO where
 |lst (xs:List V)
 |tup (xs:List V)
 |dK (kvs:List (Key×V))|dT (kvs:List (List Key×V))
 |set (S:Int->Bool) (n:Nat)
 |ins (C dx:Addr) (fs:List (Str×V))
 |own (x:Addr)
 |xd (fs:List (Str×V))
 |met (f x:Addr)
 |rng (lo hi:Int)
 |frz (o:Obj) (u:HO)
 |tbl (ps:Array Value)
 |ext (φ:Heap->Prop)
noncomputable abbrev Hp:=Addr->Option HO
noncomputable def upd (H:Hp) (a:Addr) (o:HO):Hp:=λb=>if b=a then some o else H b
theorem Zd {H:Hp}{a:Addr}{o:HO}:upd H a o a=some o:=by unfold upd;rw[Ye rfl]
theorem Zj {H:Hp}{a b:Addr}{o:HO} (h:b≠a):upd H a o b=H b:=by unfold upd;rw[Yb h]
theorem ZO {H:Hp}{a b:Addr}{o:HO} (h:H a=some o) (h':H b=none):a≠b:=by
 intro e;subst e;rw[h]at h';cases h'
section
variable (P:Program) (w:World)
noncomputable def ZZ (H:Hp) (h:Heap) (a:Addr):HO->Prop
 |.lst xs=>xs.length<=sizeLine/\∃(its:List Value) (n:Nat),Vals xs its/\h.get? a=some {cls:=.type "list",data:=.seq its.toArray n}
 |.tup xs=>xs.length<=sizeLine/\∃its:List Value,Vals xs its/\IsTup h a its.toArray
 |.dK kvs=>kvs.length<=sizeLine/\(a==sysModules)=false/\∃vs,KV kvs vs/\h.DictOf (ZfT P w) a vs
 |.dT kvs=>kvs.length<=sizeLine/\(a==sysModules)=false/\∃xs:List (List Key×Addr×Value),
   Paired (λ(p:List Key×V) (q:List Key×Addr×Value)=>p.1=q.1/\H q.2.1=some (.tup (p.1.map kV))/\RelV p.2 q.2.2) kvs xs /\
   ∃o es ep,h.get? a=some o/\o.ExactDict/\o.data=.dict es ep/\es.toList=xs.map (entryOfKey (tupleKind (ZfT P w)))/\(xs.map (·.1)).Nodup
 |.set S n=>h.SetOf (intKind P w) a S n
 |.ins C dx fs=>H dx=some (.own a)/\fs.length<=1000/\dx≠a/\h.get? a=some (PySem.W.instObj C dx) /\
   ∃mA,h.Ns1 dx mA/\(∀f,Zfe (fs.lookup f) (mA f))/\PySem.Within mA (fs.map (·.1))
 |.own _=>∃o,h.get? a=some o
 |.xd fs=>∃mA,h.Ns1 a mA/\∀f,Zfe (fs.lookup f) (mA f)
 |.rng lo hi=>∃t u v,h.get? a=some {cls:=.type "range",data:=.fields #[.int lo t,.int hi u,.int 1 v]}
 |.frz o u=>h.get? a=some o/\ZZ H h a u
 |.tbl ps=>∃ts:Array Value,h.get? a=some {cls:=.none,data:=.fields ts}/\TriplesOk ts.toList/\∀pos cv,codeAmong pos ts.toList=some cv->∃c oc vs q t t',cv=.ref c/\H c=some (.frz oc (.own a))/\oc.data=.fields vs/\ps[0]?=some (.str q t)/\vs[1]?=some (.str q t')
 |.met f x=>h.get? a=some (PySem.W.methodObj (.ref f) (.ref x))
 |.ext φ=>φ h/\(∃o,h.get? a=some o)/\∀h1 h2:Heap,φ h1->(∀o,h1.get? a=some o->h2.get? a=some o)->φ h2
noncomputable def HOk (H:Hp) (h:Heap):Prop:=∀a o,H a=some o->ZZ P w H h a o
end
section
variable {P:Program}{w:World}{H H':Hp}{h h':Heap}{a:Addr}{o:HO}
theorem ZZ.lt (x:ZZ P w H h a o):a<h.objs.size:=by
 cases o with
 |lst xs=>obtain⟨_,_,_,_,e⟩:=x;exact Yh e
 |tup xs=>obtain⟨_,_,_,p⟩:=x;exact p.lt
 |dK kvs=>obtain⟨_,_,_,_,o,_,_,e,_⟩:=x;exact Yh e
 |dT kvs=>obtain⟨_,_,_,_,o,_,_,e,_⟩:=x;exact Yh e
 |set S n=>obtain⟨o,_,_,_,e,_⟩:=x;exact Yh e
 |ins C dx fs=>obtain⟨_,_,_,e,_⟩:=x;exact Yh e
 |own y=>obtain⟨_,e⟩:=x;exact Yh e
 |xd fs=>obtain⟨_,⟨_,_,_,e,_⟩,_⟩:=x;exact Yh e
 |rng lo hi=>obtain⟨_,_,_,e⟩:=x;exact Yh e
 |frz ob u=>obtain⟨e,_⟩:=x;exact Yh e
 |tbl ps=>obtain⟨_,e,_⟩:=x;exact Yh e
 |met f y=>exact Yh (show h.get? a=some _ from x)
 |ext φ=>obtain⟨_,⟨_,e⟩,_⟩:=x;exact Yh e
theorem Paired.mapP {α β:Type}{F G:α->β->Prop}:∀{l₁:List α}{l₂:List β},Paired F l₁ l₂->(∀a b,F a b->G a b)->Paired G l₁ l₂
 |_,_,.nil,_=>.nil
 |_,_,.cons r t,f=>.cons (f _ _ r) (Paired.mapP t f)
theorem ZZ.ZfU (x:ZZ P w H h a o) (k:∀b u,(b=a\/H b=some (.own a))->h.get? b=some u->h'.get? b=some u)
  (ho:∀b,H b=some (.own a)->H' b=some (.own a)) (ht:∀b xs,H b=some (.tup xs)->H' b=some (.tup xs)) (hz:∀b o u,H b=some (.frz o u)->H' b=some (.frz o u)):ZZ P w H' h' a o:=by
 induction o with
 |lst xs=>obtain⟨z,its,n,r,e⟩:=x;exact⟨z,its,n,r,k _ _ (.inl rfl) e⟩
 |tup xs=>obtain⟨z,its,r,ob,e,c⟩:=x;exact⟨z,its,r,ob,k _ _ (.inl rfl) e,c⟩
 |dK kvs=>obtain⟨z,y,vs,r,ob,es,ep,e,c⟩:=x;exact⟨z,y,vs,r,ob,es,ep,k _ _ (.inl rfl) e,c⟩
 |dT kvs =>
  obtain⟨z,y,xs,r,ob,es,ep,e,c⟩:=x
  exact⟨z,y,xs,Paired.mapP r λp q z=>⟨z.1,ht _ _ z.2.1,z.2.2⟩,ob,es,ep,k _ _ (.inl rfl) e,c⟩
 |set S n=>obtain⟨ob,es,ep,t,e,c⟩:=x;exact⟨ob,es,ep,t,k _ _ (.inl rfl) e,c⟩
 |ins C dx fs =>
  obtain⟨d,z,ne,e,mA,⟨od,es,ep,e2,c⟩,r⟩:=x
  exact⟨ho _ d,z,ne,k _ _ (.inl rfl) e,mA,⟨od,es,ep,k _ _ (.inr d) e2,c⟩,r⟩
 |own y=>obtain⟨ob,e⟩:=x;exact⟨ob,k _ _ (.inl rfl) e⟩
 |xd fs=>obtain⟨mA,⟨od,es,ep,e,c⟩,r⟩:=x;exact⟨mA,⟨od,es,ep,k _ _ (.inl rfl) e,c⟩,r⟩
 |rng lo hi=>obtain⟨t,u,v,e⟩:=x;exact⟨t,u,v,k _ _ (.inl rfl) e⟩
 |frz ob u ih=>obtain⟨e,q⟩:=x;exact⟨k _ _ (.inl rfl) e,ih q⟩
 |tbl ps =>
  obtain⟨ts,e,t3,z⟩:=x
  refine⟨ts,k a _ (.inl rfl) e,t3,λpos cv hc=>?_⟩
  obtain⟨c,oc,vs,q,t,t',e1,e2,r⟩:=z pos cv hc
  exact⟨c,oc,vs,q,t,t',e1,hz _ _ _ e2,r⟩
 |met f y =>
  have e:h.get? a=some (PySem.W.methodObj (.ref f) (.ref y)):=x
  show h'.get? a=some (PySem.W.methodObj (.ref f) (.ref y))
  exact k a _ (.inl rfl) e
 |ext φ=>obtain⟨p,⟨o,e⟩,st⟩:=x;exact⟨st _ _ p λo q=>k _ _ (.inl rfl) q,⟨o,k _ _ (.inl rfl) e⟩,st⟩
theorem HOk.lt (x:HOk P w H h) (e:H a=some o):a<h.objs.size:=(x a o e).lt
theorem HOk.fresh (x:HOk P w H h) (e:h.objs.size<=a):H a=none:=by
 cases q:H a with
 |none=>rfl
 |some u=>exact absurd (Yk (x.lt q) e) (Yx _)
theorem HOk.kept (x:HOk P w H h) (k:∀b u,h.get? b=some u->h'.get? b=some u):HOk P w H h':=λa o e =>
 (x a o e).ZfU (λb u _ q=>k b u q) (λ_ q=>q) (λ_ _ q=>q) λ_ _ _ q=>q
theorem HOk.laid (x:HOk P w H h) (k:∀b u,h.get? b=some u->h'.get? b=some u) (hp:h.objs.size<=a) (new:ZZ P w (upd H a o) h' a o):HOk P w (upd H a o) h':=λb u e=>by
 have hn:=x.fresh hp
 by_cases hb:b=a
 ·subst hb;rw[Zd]at e;cases e;exact new
 ·rw[Zj hb]at e
  exact(x b u e).ZfU (λc v _ q=>k c v q) (λc q=>by rw[Zj (ZO q hn)];exact q) (λc xs q=>by rw[Zj (ZO q hn)];exact q) λc o u q=>by rw[Zj (ZO q hn)];exact q
end
noncomputable def Rd (H:Hp) (a:Addr) (u:HO):Prop:=H a=some u\/∃o,H a=some (.frz o u)
theorem Rd.ok {P:Program}{w:World}{H:Hp}{h:Heap}{a:Addr}{u:HO} (r:Rd H a u) (x:HOk P w H h):ZZ P w H h a u:=by
 rcases r with r|⟨o,r⟩
 ·exact x a u r
 ·obtain⟨_,q⟩:=x a _ r
  exact q
noncomputable def Mut:Option HO->Prop
 |some (.lst _)=>True
 |some (.dK _)=>True
 |some (.dT _)=>True
 |some (.set _ _)=>True
 |some (.ins _ _ _)=>True
 |some (.ext _)=>True
 |_=>False
section
variable {P:Program}{w:World}{H:Hp}{h h':Heap}{x e:Addr}{o':HO}
theorem HOk.write (ok:HOk P w H h) (mu:Mut (H x)) (he:e=x\/H e=some (.own x)) (k:∀b u,b≠e->h.get? b=some u->h'.get? b=some u) (heo:∃u,h'.get? e=some u)
  (new:ZZ P w (upd H x o') h' x o'):HOk P w (upd H x o') h':=λb u q=>by
 have nown:∀c y,H c=some (.own y)->c≠x:=λc y r z=>by subst z;rw[r]at mu;exact mu
 have ntup:∀c xs,H c=some (.tup xs)->c≠x:=λc xs r z=>by subst z;rw[r]at mu;exact mu
 have nfrz:∀c o u,H c=some (.frz o u)->c≠x:=λc o u r z=>by subst z;rw[r]at mu;exact mu
 by_cases hb:b=x
 ·subst hb;rw[Zd]at q;cases q;exact new
 ·rw[Zj hb]at q
  by_cases hbe:b=e
  ·have q':H b=some (.own x):=by
    rcases he with z|z
    ·exact absurd (hbe.trans z) hb
    ·rw[hbe];exact z
   rw[q]at q';cases q'
   obtain⟨v,hv⟩:=heo
   exact⟨v,by rw[hbe];exact hv⟩
  ·refine(ok b u q).ZfU (λc v hc r=>k c v ?_ r) (λc r=>by rw[Zj (nown c b r)];exact r) (λc xs r=>by rw[Zj (ntup c xs r)];exact r) λc o u r=>by rw[Zj (nfrz c o u r)];exact r
   rcases hc with rfl|hc
   ·exact hbe
   ·rintro rfl
    rcases he with z|z
    ·exact nown c b hc z
    ·rw[hc]at z;cases z;exact hb rfl
end
structure Un (fs ex:List Addr) (H H':Hp) (h h':Heap):Prop where
 keep:∀b o,h.get? b=some o->H b=none->b∉fs->b∉ex->h'.get? b=some o
 slot:∀b o,h.get? b=some o->H b=none->b∈fs->b∉ex->∃sl,h'.get? b=some {o with slots:=sl}
 free:∀b o,h.get? b=some o->H b=none->b∉ex->H' b=none
 there:∀b o,h.get? b=some o->b∉ex->∃o',h'.get? b=some o'
 tups:∀b xs,H b=some (.tup xs)->H' b=some (.tup xs)
 frzs:∀b o u,H b=some (.frz o u)->H' b=some (.frz o u)
 tbls:∀b ps,H b=some (.tbl ps)->∃more,H' b=some (.tbl (ps++more))
section
variable {fs fs' ex ex':List Addr}{H H1 H2:Hp}{h h1 h2 h':Heap}{a x e:Addr}{o:HO}
theorem Un.any (u:Un fs ex H H1 h h1) {b:Addr}{ob:Obj} (q:h.get? b=some ob) (n:H b=none) (hx:b∉ex):∃sl,h1.get? b=some {ob with slots:=sl}:=by
 by_cases hb:b∈fs
 ·exact u.slot b ob q n hb hx
 ·exact⟨ob.slots,u.keep b ob q n hb hx⟩
theorem Un.kept (k:∀b u,h.get? b=some u->h'.get? b=some u):Un fs ex H H h h' :=
 ⟨λb ob q _ _ _=>k b ob q,λb ob q _ _ _=>⟨ob.slots,k b ob q⟩,λ_ _ _ n _=>n,λb ob q _=>⟨ob,k b ob q⟩,λ_ _ q=>q,λ_ _ _ q=>q,λ_ ps q=>⟨#[],by rw[q];simp⟩⟩
theorem Un.refl:Un fs ex H H h h:=Un.kept λ_ _ q=>q
theorem Un.laid (k:∀b u,h.get? b=some u->h'.get? b=some u) (hp:h.objs.size<=a) (hn:H a=none):Un fs ex H (upd H a o) h h' where
 keep:=λb u q _ _ _=>k b u q
 slot:=λb u q _ _ _=>⟨u.slots,k b u q⟩
 free:=λb u q n _=>by rw[Zj (Ym (Yk (Yh q) hp))];exact n
 there:=λb u q _=>⟨u,k b u q⟩
 tups:=λb xs q=>by rw[Zj (ZO q hn)];exact q
 frzs:=λb u xs q=>by rw[Zj (ZO q hn)];exact q
 tbls:=λb ps q=>⟨#[],by rw[Zj (ZO q hn),q];simp⟩
theorem Un.write (mu:Mut (H x)) (he:e=x\/H e=some (.own x)) (k:∀b u,b≠e->h.get? b=some u->h'.get? b=some u) (heo:∃u,h'.get? e=some u):Un fs ex H (upd H x o) h h':=by
 have hx:∀b,H b=none->b≠x:=λb n z=>by subst z;rw[n]at mu;exact mu
 have hb:∀b,H b=none->b≠e:=λb n z=>by
  subst z
  rcases he with r|r
  ·exact hx b n r
  ·rw[n]at r;cases r
 have hm:∀b u,H b=some u->¬ Mut (some u)->b≠x:=λb u q nm z=>by subst z;rw[q]at mu;exact nm mu
 refine⟨λb u q n _ _=>k b u (hb b n) q,λb u q n _ _=>⟨u.slots,k b u (hb b n) q⟩,λb u q n _=>by rw[Zj (hx b n)];exact n,λb u q _=>?_,
  λb xs q=>by rw[Zj (hm b _ q λz=>z)];exact q,λb u xs q=>by rw[Zj (hm b _ q λz=>z)];exact q,λb ps q=>⟨#[],by rw[Zj (hm b _ q λz=>z),q];simp⟩⟩
 by_cases hbe:b=e
 ·subst hbe;exact heo
 ·exact⟨u,k b u hbe q⟩
end
noncomputable def trk (h:Heap) (H:Hp):List Addr:=(List.range h.objs.size).filter λa=>(H a).isSome
noncomputable def ZfV (h:Heap) (H:Hp):Heap:=PySem.W.hideAll h (trk h H)
theorem Zil (h:Heap) (H:Hp):(ZfV h H).objs.size=h.objs.size:=PySem.W.hideAll_size _ _
theorem Zi9 {h:Heap}{H:Hp}{b:Addr}{o:Obj} (e:h.get? b=some o) (n:H b=none):(ZfV h H).get? b=some o :=
 PySem.W.hideAll_get _ e λhm=>by
  have q:(H b).isSome=true:=(List.mem_filter.mp hm).2
  rw[n]at q;simp at q
theorem ZkP {h:Heap}{H:Hp}{b:Addr}{o:Obj} (e:(ZfV h H).get? b=some o):h.get? b=some o/\H b=none:=by
 have e':h.get? b=some o:=PySem.W.of_hideAll (trk h H) e
 refine⟨e',?_⟩
 cases q:H b with
 |none=>rfl
 |some x =>
  have hm:b∈trk h H:=List.mem_filter.mpr ⟨List.mem_range.mpr (Yh e'),by simp[q]⟩
  have z:(ZfV h H).get? b=none:=PySem.W.hideAll_none (trk h H) hm
  rw[z]at e;cases e
noncomputable def ZkQ (g h:Heap) (L:Addr):List (Addr×Obj):=(List.range h.objs.size).filterMap λa=>if a=L\/(g.get? a).isSome=true then none else (h.get? a).map λo=>(a,o)
noncomputable def rest (g h:Heap) (L d:Addr):List (Addr×Obj):=(ZkQ g h L).filter λp=>decide (p.1≠d)
structure Mod (K:PySem.W.Frag) (mg:Str->Option Value) (base:Heap):Prop where
 kin:K.In base
 glob:base.Ns mainGlobals mg
 blt:∃mb,base.Ns builtinsNs mb/\∀x:Str,x≠"__name__"->mb x=bootBuiltins x
 nolimit:base.NoLimit
structure Cx where
 prog:Program
 w:World
 K:PySem.W.Frag
 mg:Str->Option Value
 base:Heap
 A:Around
 N:List Str
 s₀:Shared
 H₀:Hp
 env:Env
 outer:List Env
 stack:List Env
 ex:List Addr
 fn:Str->Bool
 calm:Bool
 pn:List (Addr×Obj)
 xe:Value->Shared->Prop
noncomputable def frs (l:List Env):List Addr:=l.filterMap (·.frame)
noncomputable abbrev Cx.fs (X:Cx):List Addr:=frs X.outer
noncomputable def Vis (sc:Scope) (x:Str):Prop:=sc.names.lookup x=some .local\/sc.names.lookup x=some .cell\/sc.names.lookup x=some .free
noncomputable def Loc (sc:Scope) (x:Str):Prop:=sc.names.lookup x=some .local\/sc.names.lookup x=some .cell
noncomputable def Look (env:Env) (h:Heap) (m:Str->Option Value) (x:Str) (u:Value):Prop :=
 (env.kindOf x=some .local/\m x=some u)\/((env.kindOf x=some .cell\/env.kindOf x=some .free)/\∃c,env.cells.lookup x=some c/\h.IsCell c (some u))
structure Cx.Ok (X:Cx):Prop where
 mod:Mod X.K X.mg X.base
 kind:X.env.scope.kind=.function
 glob:X.env.globals=mainGlobals
 blt:X.env.builtins=builtinsNs
 above:X.s₀.heap.objs.size<=X.env.locals
 inj:∀x y c,X.env.cells.lookup x=some c->X.env.cells.lookup y=some c->x=y
 has:∀x,(X.env.kindOf x=some .cell\/X.env.kindOf x=some .free)->∃c,X.env.cells.lookup x=some c
 cab:∀x c,X.fn x=true->X.env.cells.lookup x=some c->X.s₀.heap.objs.size<=c
 hd:X.calm=true->X.A.handled=none
 frames:X.A.frames=some X.stack
 stk:X.stack=X.outer\/(X.stack=X.env::X.outer/\X.env.frame=some X.env.locals)
 exf:∀b∈X.ex,b≠X.env.locals/\∀x c,X.env.cells.lookup x=some c->c≠b
 bs:∀b o,X.base.get? b=some o->X.s₀.heap.get? b=some o/\X.H₀ b=none
 bsz:X.base.objs.size<=X.s₀.heap.objs.size
 noex:∀b o,X.base.get? b=some o->b∉X.ex
 exfs:∀b∈X.ex,b∉X.fs
 funs:X.s₀.heap.FunFrames X.base X.outer
 frf:∀b∈X.fs,X.H₀ b=none
structure Inv (X:Cx) (pins:List (Addr×Obj)) (σ:List (Option V)) (H:Hp) (s:Shared):Prop where
 ok:X.Ok
 os:s.os=X.s₀.os
 bare:AllBare s.gens
 base:Un X.fs X.ex X.H₀ H X.s₀.heap s.heap
 loc:∃m,s.heap.Ns X.env.locals m/\∀(i:Nat) (x:Str) (v:V),X.N[i]?=some x->σ[i]?=some (some v)->Vis X.env.scope x->∃u,RelV v u/\Look X.env s.heap m x u
 cell:∀x c,X.env.cells.lookup x=some c->∃v,s.heap.IsCell c v
 free:H X.env.locals=none
 freeC:∀x c,X.env.cells.lookup x=some c->H c=none
 pin:∀p∈X.pn++pins,s.heap.get? p.1=some p.2/\H p.1=none/\p.1≠X.env.locals/\p.1∉X.fs/\∀v,p.2.data≠.cell v
 hok:HOk X.prog X.w H s.heap
 len:σ.length=X.N.length
section
variable {X:Cx}{pins:List (Addr×Obj)}{σ:List (Option V)}{H H':Hp}{s:Shared}{h':Heap}
theorem Cx.Ok.nofr (ok:X.Ok) {b:Addr}{o:Obj} (e:X.base.get? b=some o):b∉X.fs:=λhb=>by
 have:=(ok.funs.mem hb).1
 rw[e]at this;cases this
theorem Inv.bs (I:Inv X pins σ H s):∀b o,X.base.get? b=some o->s.heap.get? b=some o/\H b=none:=λb o e =>
 ⟨I.base.keep b o (I.ok.bs b o e).1 (I.ok.bs b o e).2 (I.ok.nofr e) (I.ok.noex b o e),I.base.free b o (I.ok.bs b o e).1 (I.ok.bs b o e).2 (I.ok.noex b o e)⟩
theorem Inv.bk (I:Inv X pins σ H s):∀b o,X.base.get? b=some o->s.heap.get? b=some o:=λb o e=>(I.bs b o e).1
theorem Inv.mod (I:Inv X pins σ H s):Mod X.K X.mg X.base:=I.ok.mod
theorem Inv.kIn (I:Inv X pins σ H s):X.K.In s.heap:=I.ok.mod.kin.keeps I.bk
theorem Inv.lt (I:Inv X pins σ H s):X.env.locals<s.heap.objs.size:=let ⟨_,hn,_⟩:=I.loc;hn.lt
theorem Inv.sz (I:Inv X pins σ H s):X.s₀.heap.objs.size<=s.heap.objs.size:=Yd I.ok.above (YM I.lt)
theorem Inv.nofs (I:Inv X pins σ H s) {a:Addr} (h:s.heap.objs.size<=a):a∉X.fs:=λhb=>by
 obtain⟨_,o,ho,_⟩:=I.ok.funs.mem hb
 exact absurd (Yk (Yh ho) (Yd I.sz h)) (Yx _)
theorem Inv.cne (I:Inv X pins σ H s):∀x c,X.env.cells.lookup x=some c->c≠X.env.locals:=λx c e z=>by
 obtain⟨v,o,ho,hd⟩:=I.cell x c e
 obtain⟨m,⟨o',es,ep,ho',hd',_⟩,_⟩:=I.loc
 rw[z,ho']at ho;cases ho;rw[hd']at hd;cases hd
theorem Inv.funs (I:Inv X pins σ H s):s.heap.FunFrames X.base X.outer:=by
 have all:∀(l:List Env),(∀b∈frs l,b∈X.fs)->X.s₀.heap.FunFrames X.base l->s.heap.FunFrames X.base l:=by
  intro l
  induction l with
  |nil=>intro _ _;trivial
  |cons env r ih =>
   intro hs hl
   obtain⟨hk,⟨L,o,hf,hn,ho,hd⟩,hr⟩:=hl
   have hL:L∈X.fs:=hs L (by unfold frs;rw[List.filterMap_cons,hf];exact YS)
   obtain⟨sl,e⟩:=I.base.slot L o ho (I.ok.frf L hL) hL λz=>I.ok.exfs L z hL
   exact⟨hk,⟨L,_,hf,hn,e,hd⟩,ih (λb hb=>hs b (by unfold frs;rw[List.filterMap_cons,hf];exact YE _ hb)) hr⟩
 exact all X.outer (λ_ hb=>hb) I.ok.funs
theorem Inv.stack (I:Inv X pins σ H s):s.heap.FunFrames X.base X.stack:=by
 rcases I.ok.stk with e|⟨e,hf⟩
 ·rw[e];exact I.funs
 ·rw[e]
  obtain⟨m,hn,_⟩:=I.loc
  refine .cons (by rw[I.ok.kind];decide) hf hn ?_ I.funs
  exact Heap.get?_none_of_le (Yd I.ok.bsz I.ok.above)
theorem Inv.ZdN (I:Inv X pins σ H s):∀b∈frs X.stack,b∈X.env.locals::X.fs:=λb hb=>by
 rcases I.ok.stk with e|⟨e,hf⟩
 ·rw[e]at hb;exact YE _ hb
 ·rw[e]at hb
  unfold frs at hb
  rw[List.filterMap_cons,hf]at hb
  exact hb
theorem Inv.ZfW (I:Inv X pins σ H s):∀b∈frs X.stack,H b=none:=λb hb=>by
 rcases Yj.mp (I.ZdN b hb)with e|hb
 ·rw[e];exact I.free
 ·obtain⟨_,o,ho,_⟩:=I.ok.funs.mem hb
  exact I.base.free b o ho (I.ok.frf b hb) λz=>I.ok.exfs b z hb
theorem Inv.step {g':Array GenState}{t':Nat}{d':Drawn}{ch:List Addr} (I:Inv X pins σ H s)
  (hch:∀b∈ch,(b∈X.ex\/X.s₀.heap.objs.size<=b)/\b≠X.env.locals/\(∀x c,X.env.cells.lookup x=some c->c≠b)/\∀p∈X.pn++pins,p.1≠b)
  (keep:∀b o,b≠X.env.locals->b∉X.fs->b∉ch->s.heap.get? b=some o->H b=none->h'.get? b=some o)
  (slot:∀b o,b≠X.env.locals->b∈X.fs->b∉ch->s.heap.get? b=some o->H b=none->∃sl,h'.get? b=some {o with slots:=sl}) (free:∀b o,b∉ch->s.heap.get? b=some o->H b=none->H' b=none)
  (there:∀b o,b∉ch->s.heap.get? b=some o->∃o',h'.get? b=some o')
  (tups:∀b xs,H b=some (.tup xs)->H' b=some (.tup xs)) (frzs:∀b o u,H b=some (.frz o u)->H' b=some (.frz o u)) (tbls:∀b ps,H b=some (.tbl ps)->∃more,H' b=some (.tbl (ps++more)))
  (ns:∀m,s.heap.Ns X.env.locals m->h'.Ns X.env.locals m) (hok:HOk X.prog X.w H' h') (hg:AllBare g') :
  Inv X pins σ H' {s with heap:=h',gens:=g',drawn:=d',toks:=t'}:=by
 have neL:∀b o,X.s₀.heap.get? b=some o->b≠X.env.locals:=λb o e=>Ym (Yk (Yh e) I.ok.above)
 have neC:∀b o,X.s₀.heap.get? b=some o->b∉X.ex->b∉ch:=λb o e hx hb=>by
  rcases(hch b hb).1 with z|z
  ·exact hx z
  ·exact absurd (Yk (Yh e) z) (Yx _)
 have cellK:∀x c,X.env.cells.lookup x=some c->∀v,s.heap.IsCell c v->h'.IsCell c v:=λx c e v ⟨o,ho,hd⟩=>by
  have nch:c∉ch:=λz=>(hch c z).2.2.1 x c e rfl
  by_cases hc:c∈X.fs
  ·obtain⟨sl,q⟩:=slot c o (I.cne x c e) hc nch ho (I.freeC x c e)
   exact⟨_,q,hd⟩
  ·exact⟨o,keep c o (I.cne x c e) hc nch ho (I.freeC x c e),hd⟩
 refine⟨I.ok,I.os,hg,⟨λb o e n hb hx=>?_,λb o e n hb hx=>?_,λb o e n hx=>?_,λb o e hx=>?_,λb xs e=>tups b xs (I.base.tups b xs e),λb o xs e=>frzs b o xs (I.base.frzs b o xs e),λb ps e=>?_⟩,?_,λx c e=>?_,?_,λx c e=>?_,λp hp=>?_,hok,I.len⟩
 ·exact keep b o (neL b o e) hb (neC b o e hx) (I.base.keep b o e n hb hx) (I.base.free b o e n hx)
 ·obtain⟨sl,e1⟩:=I.base.slot b o e n hb hx
  obtain⟨sl',e2⟩:=slot b _ (neL b o e) hb (neC b o e hx) e1 (I.base.free b o e n hx)
  exact⟨sl',e2⟩
 ·obtain⟨o',e1⟩:=I.base.there b o e hx
  exact free b o' (neC b o e hx) e1 (I.base.free b o e n hx)
 ·obtain⟨o',e1⟩:=I.base.there b o e hx
  exact there b o' (neC b o e hx) e1
 ·obtain⟨m1,e1⟩:=I.base.tbls b ps e
  obtain⟨m2,e2⟩:=tbls b _ e1
  exact⟨m1++m2,by rw[e2,Array.append_assoc]⟩
 ·obtain⟨m,hn,hl⟩:=I.loc
  refine⟨m,ns m hn,λi x v e1 e2 e3=>?_⟩
  obtain⟨u,r,l⟩:=hl i x v e1 e2 e3
  refine⟨u,r,?_⟩
  rcases l with l|⟨k,c,e,z⟩
  ·exact .inl l
  ·exact .inr ⟨k,c,e,cellK x c e _ z⟩
 ·obtain⟨v,z⟩:=I.cell x c e
  exact⟨v,cellK x c e v z⟩
 ·obtain⟨m,⟨o,_,_,ho,_⟩,_⟩:=I.loc
  exact free _ o (λz=>(hch _ z).2.1 rfl) ho I.free
 ·obtain⟨v,o,ho,hd⟩:=I.cell x c e
  exact free c o (λz=>(hch c z).2.2.1 x c e rfl) ho (I.freeC x c e)
 ·obtain⟨e,n,ne,nf,d⟩:=I.pin p hp
  have nch:p.1∉ch:=λz=>(hch p.1 z).2.2.2 p hp rfl
  exact⟨keep p.1 p.2 ne nf nch e n,free p.1 p.2 nch e n,ne,nf,d⟩
theorem Inv.un {t':Nat} (I:Inv X pins σ H s) (u:Un X.fs [] H H' s.heap h') (hok:HOk X.prog X.w H' h'):Inv X pins σ H' {s with heap:=h',toks:=t'}:=by
 obtain⟨m,⟨o,es,ep,ho,r⟩,_⟩:=id I.loc
 obtain⟨sl,hL⟩:=u.any ho I.free (by simp)
 exact I.step (g':=s.gens) (d':=s.drawn) (ch:=[]) (λ_ z=>nomatch z) (λb o _ hb _ e n=>u.keep b o e n hb (by simp)) (λb o _ hb _ e n=>u.slot b o e n hb (by simp)) (λb o _ e n=>u.free b o e n (by simp)) (λb o _ e=>u.there b o e (by simp)) u.tups u.frzs u.tbls (λm' hm=>by
  obtain⟨o',es',ep',ho',r'⟩:=hm
  rw[ho]at ho';cases ho'
  exact⟨_,es',ep',hL,r'⟩) hok I.bare
theorem Inv.call {g':Array GenState}{t':Nat}{d':Drawn}{ch:List Addr} (I:Inv X pins σ H s) (u:Un (frs X.stack) ch H H' s.heap h') (hok:HOk X.prog X.w H' h') (hg:AllBare g')
  (hch:∀b∈ch,(b∈X.ex\/X.s₀.heap.objs.size<=b)/\b≠X.env.locals/\(∀x c,X.env.cells.lookup x=some c->c≠b)/\∀p∈X.pn++pins,p.1≠b) :
  Inv X pins σ H' {s with heap:=h',gens:=g',drawn:=d',toks:=t'}:=by
 obtain⟨m,⟨o,es,ep,ho,r⟩,_⟩:=id I.loc
 obtain⟨sl,hL⟩:=u.any ho I.free λz=>(hch _ z).2.1 rfl
 exact I.step (ch:=ch) hch (λb o hL hb hc e n=>u.keep b o e n (λz=>(Yj.mp (I.ZdN b z)).elim hL hb) hc) (λb o _ _ hc e n=>u.any e n hc) (λb o hc e n=>u.free b o e n hc) (λb o hc e=>u.there b o e hc) u.tups u.frzs u.tbls (λm' hm=>by
  obtain⟨o',es',ep',ho',r'⟩:=hm
  rw[ho]at ho';cases ho'
  exact⟨_,es',ep',hL,r'⟩) hok hg
theorem Inv.turned {t':Nat}{it:Addr} (I:Inv X pins σ H s) (k:∀b o,b≠it->s.heap.get? b=some o->h'.get? b=some o) (hn:H it=none) (hL:it≠X.env.locals)
  (h1:it∈X.ex\/X.s₀.heap.objs.size<=it) (h2:∀x c,X.env.cells.lookup x=some c->c≠it) (h3:∀p∈X.pn++pins,p.1≠it):Inv X pins σ H {s with heap:=h',toks:=t'}:=by
 have nit:∀b u,H b=some u->b≠it:=λb u e z=>by rw[z,hn]at e;cases e
 refine I.step (g':=s.gens) (d':=s.drawn) (ch:=[it]) (λb hb=>?_) (λb o _ _ hc e _=>k b o (λz=>hc (by simp[z])) e) (λb o _ _ hc e _=>⟨o.slots,k b o (λz=>hc (by simp[z])) e⟩) (λ_ _ _ _ n=>n)
  (λb o hc e=>⟨o,k b o (λz=>hc (by simp[z])) e⟩) (λ_ _ e=>e) (λ_ _ _ e=>e) (λb ps e=>⟨#[],by rw[e];simp⟩) (λm hm=>?_) (λb u e=>?_) I.bare
 ·have e:b=it:=by simpa using hb
  subst e
  exact⟨h1,hL,h2,h3⟩
 ·obtain⟨o,es,ep,ho,r⟩:=hm
  exact⟨o,es,ep,k _ o (Ne.symm hL) ho,r⟩
 ·refine(I.hok b u e).ZfU (λc v hc q=>k c v ?_ q) (λ_ q=>q) (λ_ _ q=>q) λ_ _ _ q=>q
  rcases hc with z|z
  ·rw[z];exact nit b u e
  ·exact nit c _ z
theorem Inv.tok (I:Inv X pins σ H s) (t:Nat):Inv X pins σ H {s with toks:=t}:=I.un (h':=s.heap) (t':=t) Un.refl I.hok
theorem Inv.kept {t':Nat} (I:Inv X pins σ H s) (k:∀b u,s.heap.get? b=some u->h'.get? b=some u):Inv X pins σ H {s with heap:=h',toks:=t'}:=I.un (Un.kept k) (I.hok.kept k)
theorem Inv.laid {a:Addr}{o:HO}{t':Nat} (I:Inv X pins σ H s) (k:∀b u,s.heap.get? b=some u->h'.get? b=some u) (hp:s.heap.objs.size<=a) (new:ZZ X.prog X.w (upd H a o) h' a o) :
  Inv X pins σ (upd H a o) {s with heap:=h',toks:=t'}:=I.un (Un.laid k hp (I.hok.fresh hp)) (I.hok.laid k hp new)
theorem Inv.write {x e:Addr}{o:HO}{t':Nat} (I:Inv X pins σ H s) (mu:Mut (H x)) (he:e=x\/H e=some (.own x)) (k:∀b u,b≠e->s.heap.get? b=some u->h'.get? b=some u) (heo:∃u,h'.get? e=some u)
  (new:ZZ X.prog X.w (upd H x o) h' x o):Inv X pins σ (upd H x o) {s with heap:=h',toks:=t'}:=I.un (Un.write mu he k heo) (I.hok.write mu he k heo new)
theorem Inv.weak {σ':List (Option V)} (I:Inv X pins σ H s) (hl:σ'.length=σ.length) (w:∀(i:Nat) v,σ'[i]?=some (some v)->σ[i]?=some (some v)):Inv X pins σ' H s :=
 ⟨I.ok,I.os,I.bare,I.base,let ⟨m,hn,hl'⟩:=I.loc;⟨m,hn,λi x v e1 e2 e3=>hl' i x v e1 (w i v e2) e3⟩,I.cell,I.free,I.freeC,I.pin,I.hok,hl.trans I.len⟩
theorem Inv.Zdk {pins':List (Addr×Obj)} (I:Inv X pins σ H s) (h:∀p∈pins',s.heap.get? p.1=some p.2/\H p.1=none/\p.1≠X.env.locals/\p.1∉X.fs/\∀v,p.2.data≠.cell v):Inv X pins' σ H s :=
 ⟨I.ok,I.os,I.bare,I.base,I.loc,I.cell,I.free,I.freeC,λp hp=>(Ys.mp hp).elim (λz=>I.pin p (YN _ z)) (h p),I.hok,I.len⟩
theorem ZeG {N:List Str} (hN:N.Nodup) {i j:Nat}{x:Str} (a:N[i]?=some x) (b:N[j]?=some x):i=j:=by
 obtain⟨h1,e1⟩:=Yt.mp a
 obtain⟨h2,e2⟩:=Yt.mp b
 exact(List.getElem_inj hN).mp (e1.trans e2.symm)
theorem Zim {M:Model}{A:Around}{E:Value->Shared->Prop}{i:Nat}{x:Str}{v:V}{u:Value}{Q:Unit->Shared->Prop} (I:Inv X pins σ H s) (hN:X.N.Nodup) (hi:X.N[i]?=some x) (hx:Loc X.env.scope x) (r:RelV v u)
  (h:∀s',Inv X pins (σ.set i (some v)) H s'->(∃a,Heap.SameBut a s.heap s'.heap/\(a=X.env.locals\/X.env.cells.lookup x=some a))->Q () s') (hf:X.fn x=true\/X.env.scope.names.lookup x=some .local:=by first|exact .inl rfl|exact .inr rfl|assumption):wpAny M A (storeName X.env x u) Q E s:=by
 obtain⟨m,hn,hl⟩:=id I.loc
 have hcls:(X.env.scope.kind==.class||(X.env.scope.kind==.module&&X.env.locals != X.env.globals))=false:=by rw[I.ok.kind];rfl
 have hiσ:i < σ.length:=by rw[I.len];exact(Yt.mp hi).1
 have cne:=I.cne
 have tracked:∀{a:Addr}{h':Heap},(∃o,s.heap.get? a=some o/\H a=none)->Heap.SameBut a s.heap h'->HOk X.prog X.w H h':=λ{a h'} ha hs b ob e=>by
  obtain⟨_,_,hfree⟩:=ha
  refine(I.hok b ob e).ZfU (λc w' hc q=>(hs.2 c ?_).trans q) (λ_ q=>q) (λ_ _ q=>q) λ_ _ _ q=>q
  rintro rfl
  rcases hc with rfl|hc
  ·rw[hfree]at e;cases e
  ·rw[hfree]at hc;cases hc
 rcases hx with hk|hk
 ·refine wpAny_storeName_local hk hn (λh' hn' hs=>?_) hcls
  obtain⟨oL,_,_,hoL,_⟩:=id hn
  refine h _ ⟨I.ok,I.os,I.bare,⟨λb o e n hb hx=>?_,λb o e n hb hx=>?_,I.base.free,λb o e hx=>?_,I.base.tups,I.base.frzs,I.base.tbls⟩,⟨_,hn',λj y v' e1 e2 e3=>?_⟩,λy c e=>?_,I.free,I.freeC,λp hp=>?_,tracked ⟨oL,hoL,I.free⟩ hs,by simpa using I.len⟩ ⟨_,hs,.inl rfl⟩
  ·exact(hs.2 b (Ym (Yk (Yh e) I.ok.above))).trans (I.base.keep b o e n hb hx)
  ·obtain⟨sl,e1⟩:=I.base.slot b o e n hb hx
   exact⟨sl,(hs.2 b (Ym (Yk (Yh e) I.ok.above))).trans e1⟩
  ·obtain⟨o',e1⟩:=I.base.there b o e hx
   exact⟨o',(hs.2 b (Ym (Yk (Yh e) I.ok.above))).trans e1⟩
  ·by_cases hj:j=i
   ·subst hj
    rw[hi]at e1;cases e1
    rw[List.getElem?_set_self hiσ]at e2
    cases e2
    exact⟨u,r,.inl ⟨hk,by simp⟩⟩
   ·rw[List.getElem?_set_ne (Ne.symm hj)]at e2
    obtain⟨u',r',q⟩:=hl j y v' e1 e2 e3
    refine⟨u',r',?_⟩
    rcases q with⟨k,e⟩|⟨k,c,e,z⟩
    ·refine .inl ⟨k,?_⟩
     have:y≠x:=λe=>hj (ZeG hN e1 (e▸hi))
     simp[this,e]
    ·exact .inr ⟨k,c,e,z.sameBut hs (cne y c e)⟩
  ·obtain⟨w',z⟩:=I.cell y c e
   exact⟨w',z.sameBut hs (cne y c e)⟩
  ·obtain⟨e,n,ne,nf,d⟩:=I.pin p hp
   exact⟨(hs.2 p.1 ne).trans e,n,ne,nf,d⟩
 ·have hfn:X.fn x=true:=by
   rcases hf with z|z
   ·exact z
   ·rw[z]at hk;cases hk
  obtain⟨c,hc⟩:=I.ok.has x (.inl hk)
  obtain⟨w',z⟩:=I.cell x c hc
  refine wpAny_storeName_cell I.ok.kind hk hc z (λh' hc' hs=>?_)
  obtain⟨oc,hoc,hocd⟩:=id z
  refine h {s with heap:=h'} ⟨I.ok,I.os,I.bare,⟨λb o e n hb hx=>?_,λb o e n hb hx=>?_,I.base.free,λb o e hx=>?_,I.base.tups,I.base.frzs,I.base.tbls⟩,⟨m,hn.sameBut hs (Ne.symm (cne x c hc)),λj y v' e1 e2 e3=>?_⟩,λy c' e=>?_,I.free,I.freeC,λp hp=>?_,tracked ⟨oc,hoc,I.freeC x c hc⟩ hs,by simpa using I.len⟩ ⟨c,hs,.inr hc⟩
  ·exact(hs.2 b (Ym (Yk (Yh e) (I.ok.cab x c hfn hc)))).trans (I.base.keep b o e n hb hx)
  ·obtain⟨sl,e1⟩:=I.base.slot b o e n hb hx
   exact⟨sl,(hs.2 b (Ym (Yk (Yh e) (I.ok.cab x c hfn hc)))).trans e1⟩
  ·obtain⟨o',e1⟩:=I.base.there b o e hx
   exact⟨o',(hs.2 b (Ym (Yk (Yh e) (I.ok.cab x c hfn hc)))).trans e1⟩
  ·by_cases hj:j=i
   ·subst hj
    rw[hi]at e1;cases e1
    rw[List.getElem?_set_self hiσ]at e2
    cases e2
    exact⟨u,r,.inr ⟨.inl hk,c,hc,hc'⟩⟩
   ·rw[List.getElem?_set_ne (Ne.symm hj)]at e2
    obtain⟨u',r',q⟩:=hl j y v' e1 e2 e3
    refine⟨u',r',?_⟩
    rcases q with q|⟨k,c',e,z'⟩
    ·exact .inl q
    ·refine .inr ⟨k,c',e,z'.sameBut hs ?_⟩
     rintro rfl
     exact hj (ZeG hN e1 (I.ok.inj _ _ _ e hc▸hi))
  ·by_cases hcc:c'=c
   ·subst hcc;exact⟨_,hc'⟩
   ·obtain⟨w2,z2⟩:=I.cell y c' e
    exact⟨w2,z2.sameBut hs hcc⟩
  ·obtain⟨e,n,ne,nf,d⟩:=I.pin p hp
   refine⟨(hs.2 p.1 ?_).trans e,n,ne,nf,d⟩
   intro q
   rw[q,hoc]at e
   have q':oc=p.2:=Yq e
   exact d w' (by rw[<-q'];exact hocd)
theorem Zdl {M:Model}{A:Around}{E:Value->Shared->Prop}{i:Nat}{x:Str}{v:V}{u:Value}{Q:Unit->Shared->Prop} (I:Inv X pins σ H s) (hN:X.N.Nodup) (hi:X.N[i]?=some x) (hx:Loc X.env.scope x) (r:RelV v u)
  (h:∀s',Inv X pins (σ.set i (some v)) H s'->Q () s') (hf:X.fn x=true\/X.env.scope.names.lookup x=some .local:=by first|exact .inl rfl|exact .inr rfl|assumption):wpAny M A (storeName X.env x u) Q E s :=
 Zim I hN hi hx r (λs' I' _=>h s' I') hf
theorem Inv.call' {s':Shared}{ch:List Addr} (I:Inv X pins σ H s) (ho:s'.os=s.os) (u:Un (frs X.stack) ch H H' s.heap s'.heap) (hok:HOk X.prog X.w H' s'.heap) (hg:AllBare s'.gens)
  (hch:∀b∈ch,(b∈X.ex\/X.s₀.heap.objs.size<=b)/\b≠X.env.locals/\(∀x c,X.env.cells.lookup x=some c->c≠b)/\∀p∈X.pn++pins,p.1≠b):Inv X pins σ H' s':=by
 obtain⟨h',g',d',t',o'⟩:=s'
 have e:o'=s.os:=ho
 subst e
 exact I.call (g':=g') (t':=t') (d':=d') u hok hg hch
end
noncomputable abbrev XK:=Value->Option Addr->Hp->Prop
noncomputable abbrev St:=List (Option V)
noncomputable abbrev VK:=V->Hp->Prop
noncomputable abbrev TE:=St->Hp->VK->Prop
noncomputable abbrev TT:=St->Hp->(Bool->Hp->Prop)->Prop
noncomputable abbrev TA:=St->Hp->(List V->Hp->Prop)->Prop
structure Ends where
 nx:St->Hp->Prop
 rt:VK
 bk:St->Hp->Prop:=λ_ _=>False
 ct:St->Hp->Prop:=λ_ _=>False
noncomputable abbrev TS:=Ends->St->Hp->Prop
noncomputable def EP (X:Cx) (pins:List (Addr×Obj)) (σ:St) (Q:VK) (u:Value) (s':Shared):Prop:=∃v H',Inv X pins σ H' s'/\RelV v u/\Q v H'
noncomputable def TP (X:Cx) (pins:List (Addr×Obj)) (σ:St) (Q:Bool->Hp->Prop) (b:Bool) (s':Shared):Prop:=∃H',Inv X pins σ H' s'/\Q b H'
noncomputable def AP (X:Cx) (pins:List (Addr×Obj)) (σ:St) (Q:List V->Hp->Prop) (us:List Value) (s':Shared):Prop:=∃vs H',Inv X pins σ H' s'/\Vals vs us/\Q vs H'
noncomputable def SP (X:Cx) (pins:List (Addr×Obj)) (D:Ends) (f:Flow) (s':Shared):Prop :=
 match f with
 |.next=>∃σ' H',Inv X pins σ' H' s'/\D.nx σ' H'
 |.brk=>∃σ' H',Inv X pins σ' H' s'/\D.bk σ' H'
 |.cont=>∃σ' H',Inv X pins σ' H' s'/\D.ct σ' H'
 |.ret u=>∃v σ' H',Inv X pins σ' H' s'/\RelV v u/\D.rt v H'
noncomputable def PE (X:Cx) (e:Expr) (t:TE):Prop :=
 ∀(pins:List (Addr×Obj)) (s:Shared) (σ:St) (H:Hp) (Q:VK),Inv X pins σ H s->t σ H Q->wpAny (model X.prog X.w) X.A (eval e X.env) (EP X pins σ Q) X.xe s
noncomputable def PT (X:Cx) (e:Expr) (t:TT):Prop :=
 ∀(pins:List (Addr×Obj)) (s:Shared) (σ:St) (H:Hp) (Q:Bool->Hp->Prop),Inv X pins σ H s->t σ H Q->wpAny (model X.prog X.w) X.A (isTrue e X.env (eval e X.env)) (TP X pins σ Q) X.xe s
noncomputable def PW (X:Cx) (e:Expr) (t:TT):Prop :=
 ∀(whole:Sem Value) (pins:List (Addr×Obj)) (s:Shared) (σ:St) (H:Hp) (Q:Bool->Hp->Prop),Inv X pins σ H s->t σ H Q->wpAny (model X.prog X.w) X.A (isTrue e X.env whole) (TP X pins σ Q) X.xe s
theorem PW.pt {X:Cx}{e:Expr}{t:TT} (h:PW X e t):PT X e t:=h _
noncomputable def PA (X:Cx) (es:List Expr) (t:TA):Prop :=
 ∀(pos:Pos) (pins:List (Addr×Obj)) (s:Shared) (σ:St) (H:Hp) (Q:List V->Hp->Prop),Inv X pins σ H s->t σ H Q->wpAny (model X.prog X.w) X.A (spliced (backTo pos (starEach es X.env))) (AP X pins σ Q) X.xe s
noncomputable def PS (X:Cx) (st:Stmt) (t:TS):Prop :=
 ∀(pins:List (Addr×Obj)) (s:Shared) (σ:St) (H:Hp) (D:Ends),Inv X pins σ H s->t D σ H->wpAny (model X.prog X.w) X.A (exec st X.env) (SP X pins D) X.xe s
noncomputable def PSs (X:Cx) (st:List Stmt) (t:TS):Prop :=
 ∀(pins:List (Addr×Obj)) (s:Shared) (σ:St) (H:Hp) (D:Ends),Inv X pins σ H s->t D σ H->wpAny (model X.prog X.w) X.A (execs st X.env) (SP X pins D) X.xe s
theorem thn {α:Type}{t:Sem α}{Q Q':α->Shared->Prop}{M:Model}{A:Around}{E:Value->Shared->Prop}{s:Shared} (h:wpAny M A t Q E s) (hQ:∀a s,Q a s->Q' a s):wpAny M A t Q' E s:=Yz h hQ λ_ _ x=>x
section
variable {X:Cx}
noncomputable def tVar (i:Nat):TE:=fun σ H Q=>∃v,σ[i]?=some (some v)/\Q v H
noncomputable def tC (v:V):TE:=λ_ H Q=>Q v H
theorem pe_var {i:Nat}{x:Str}{pos:Pos} (hN:X.N[i]?=some x) (hv:Vis X.env.scope x) (hd:(x==("__debug__":Str))=false:=by decide) (hcd:(x==("__classdict__":Str))=false:=by decide):PE X (.Name x pos) (tVar i):=by
 intro pins s σ H Q I h
 obtain⟨v,e,h⟩:=h
 obtain⟨m,hn,hl⟩:=I.loc
 obtain⟨u,r,l⟩:=hl i x v hN e hv
 have fin:EP X pins σ Q u s:=⟨v,H,I,r,h⟩
 rcases l with⟨hk,hm⟩|⟨hk,c,hc,hcell⟩
 ·exact wpAny_Name (wpAny_loadName_local I.ok.kind hk hn hm fin) hd
 ·rcases hk with hk|hk
  ·exact wpAny_Name (wpAny_loadName_cell I.ok.kind hk hc hcell fin) hd
  ·exact wpAny_Name (wpAny_loadName_free I.ok.kind hk hc hcell fin hcd) hd
theorem Ze {i j pos}:PE X (.Constant (.int i) j pos) (tC (.int i)):=λ_ _ _ H _ I h=>wpAny_Constant_int ⟨.int i,H,I.tok _,⟨_,rfl⟩,h⟩
theorem Zd8 {b j pos}:PE X (.Constant (.bool b) j pos) (tC (.bl b)):=λ_ _ _ H _ I h=>Constant_bool ⟨.bl b,H,I,rfl,h⟩
theorem ZdO {j pos}:PE X (.Constant .none j pos) (tC .non):=λ_ _ _ H _ I h=>Constant_none ⟨.non,H,I,rfl,h⟩
theorem Zo {x j pos}:PE X (.Constant (.str x) j pos) (tC (.str x)):=λ_ _ _ H _ I h=>Calls.Constant_str ⟨.str x,H,I.tok _,⟨_,rfl⟩,h⟩
noncomputable def Gl (X:Cx) (x:Str):Prop:=X.env.kindOf x=some .globalImplicit
theorem Zdm {E:Value->Shared->Prop}{pins:List (Addr×Obj)}{s:Shared}{σ:St}{H:Hp}{x:Str}{u:Value}{pos:Pos}{Q:Value->Shared->Prop} (I:Inv X pins σ H s) (hg:Gl X x) (hm:X.mg x=some u) (h:Q u s)
  (hd:(x==("__debug__":Str))=false:=by decide):wpAny (model X.prog X.w) X.A (eval (.Name x pos) X.env) Q E s :=
 Calls.Name_function_global I.ok.kind hg (Calls.loadGlobal_global (by rw[I.ok.glob];exact I.mod.glob.keeps I.bk) hm h) hd
theorem ZfX {E:Value->Shared->Prop}{pins:List (Addr×Obj)}{s:Shared}{σ:St}{H:Hp}{x:Str}{u:Value}{pos:Pos}{Q:Value->Shared->Prop} (I:Inv X pins σ H s) (hg:Gl X x) (hm:X.mg x=none) (hv:bootBuiltins x=some u) (h:Q u s)
  (hn:x≠"__name__":=by decide) (hd:(x==("__debug__":Str))=false:=by decide):wpAny (model X.prog X.w) X.A (eval (.Name x pos) X.env) Q E s:=by
 obtain⟨mb,h1,h2⟩:=I.mod.blt
 exact Calls.Name_function_global I.ok.kind hg (Calls.loadGlobal_builtin (by rw[I.ok.glob];exact I.mod.glob.keeps I.bk) hm (by rw[I.ok.blt];exact h1.keeps I.bk) ((h2 x hn).trans hv) h) hd
theorem ZM {x:Str}{v:V}{u:Value}{pos:Pos} (hg:Gl X x) (hm:X.mg x=some u) (r:RelV v u) (hd:(x==("__debug__":Str))=false:=by decide):PE X (.Name x pos) (tC v) :=
 λ_ _ _ H _ I h=>Zdm I hg hm ⟨v,H,I,r,h⟩ hd
theorem ZfY {x:Str}{v:V}{u:Value}{pos:Pos} (hg:Gl X x) (hm:X.mg x=none) (hv:bootBuiltins x=some u) (r:RelV v u) (hn:x≠"__name__":=by decide) (hd:(x==("__debug__":Str))=false:=by decide):PE X (.Name x pos) (tC v) :=
 λ_ _ _ H _ I h=>ZfX I hg hm hv ⟨v,H,I,r,h⟩ hn hd
variable {a b:Expr}{ta tb:TE}{pos:Pos}
noncomputable def tB (t:TE):TT:=fun σ H Q=>t σ H λx H1=>∃c,x=.bl c/\Q c H1
theorem ZeH {e:Expr}{t:TE} (h:PE X e t) (he:∀whole,isTrue e X.env whole=(do let v <-whole;standAt e.pos;holding [v] (truthy v)):=by intro _;rfl):PT X e (tB t):=by
 intro pins s σ H Q I hw
 refine isTrue_plain (thn (h pins s σ H _ I hw) λv s1 ⟨x,H1,I1,r1,q1⟩=>?_) (he _)
 obtain⟨d,rfl,q⟩:=q1
 cases r1
 exact wpAny_truthy_bool ⟨H1,I1,q⟩
variable {tA tB':TT}{rest:List Expr}
noncomputable def tAnd (t u:TT):TT:=fun σ H Q=>t σ H λc H1=>if c=true then u σ H1 Q else Q false H1
noncomputable def tOr (t u:TT):TT:=fun σ H Q=>t σ H λc H1=>if c=true then Q true H1 else u σ H1 Q
noncomputable def tNot (t:TT):TT:=fun σ H Q=>t σ H λc H1=>Q (!c) H1
theorem ZfZ (ha:PT X a tA):PW X (.BoolOp .And [a] pos) tA:=by
 intro wh pins s σ H Q I h
 refine isTrue_and (thn (ha pins s σ H Q I h) λc s1 e=>?_)
 cases c with
 |true=>exact isTrue_and_nil e
 |false=>exact e
theorem Zf0 (ha:PT X a tA):PW X (.BoolOp .Or [a] pos) tA:=by
 intro wh pins s σ H Q I h
 refine isTrue_or (thn (ha pins s σ H Q I h) λc s1 e=>?_)
 cases c with
 |false=>exact isTrue_or_nil e
 |true=>exact e
theorem Zhe (ha:PT X a tA) (hb:PW X (.BoolOp .And (b::rest) pos) tB'):PW X (.BoolOp .And (a::b::rest) pos) (tAnd tA tB'):=by
 intro wh pins s σ H Q I h
 refine isTrue_and (thn (ha pins s σ H _ I h) λc s1 ⟨H1,I1,q1⟩=>?_)
 cases c with
 |true=>exact hb wh pins s1 σ H1 Q I1 q1
 |false=>exact⟨H1,I1,q1⟩
theorem ZhI (ha:PT X a tA) (hb:PW X (.BoolOp .Or (b::rest) pos) tB'):PW X (.BoolOp .Or (a::b::rest) pos) (tOr tA tB'):=by
 intro wh pins s σ H Q I h
 refine isTrue_or (thn (ha pins s σ H _ I h) λc s1 ⟨H1,I1,q1⟩=>?_)
 cases c with
 |true=>exact⟨H1,I1,q1⟩
 |false=>exact hb wh pins s1 σ H1 Q I1 q1
theorem Zja (ha:PT X a tA):PT X (.UnaryOp .Not a pos) (tNot tA):=by
 intro pins s σ H Q I h
 exact isTrue_not (ha pins s σ H (λc H1=>Q (!c) H1) I h)
noncomputable def tAndV (ta tb:TE):TE:=fun σ H Q=>ta σ H λx H1=>∃c,x=.bl c/\if c=true then tb σ H1 Q else Q (.bl false) H1
theorem Zjb {op}{t:TE} (h:PE X a t):PE X (.BoolOp op [a] pos) t:=λpins s σ H Q I hw=>BoolOp_one (h pins s σ H Q I hw)
theorem Zjc (ha:PE X a ta) (hb:PE X (.BoolOp .And (b::rest) pos) tb):PE X (.BoolOp .And (a::b::rest) pos) (tAndV ta tb):=by
 intro pins s σ H Q I h
 refine BoolOp_and (thn (ha pins s σ H _ I h) λv s1 ⟨x,H1,I1,r1,q1⟩=>?_)
 obtain⟨c,rfl,q1⟩:=q1
 cases r1
 refine wpAny_truthy_bool ?_
 cases c with
 |true=>exact hb pins s1 σ H1 Q I1 q1
 |false=>exact⟨.bl false,H1,I1,rfl,q1⟩
noncomputable def tIf (t:TT) (ta tb:TE):TE:=fun σ H Q=>t σ H λc H1=>if c=true then ta σ H1 Q else tb σ H1 Q
theorem ZeI {c:Expr} (hc:PT X c tA) (ha:PE X a ta) (hb:PE X b tb):PE X (.IfExp c a b pos) (tIf tA ta tb):=by
 intro pins s σ H Q I h
 refine wpAny_IfExp (thn (hc pins s σ H _ I h) λd s1 ⟨H1,I1,q1⟩=>?_)
 cases d with
 |true=>exact ha pins s1 σ H1 Q I1 q1
 |false=>exact hb pins s1 σ H1 Q I1 q1
end
noncomputable def SqL (K:PySem.W.Frag) (H:Hp) (a:Addr) (xs:List V):Prop :=
 Rd H a (.lst xs) \/
  ∃(o:Obj) (its:Array Value) (n:Nat),K.lookup a=some o/\o.cls=.type "list"/\o.dict=none/\o.data=.seq its n/\its.size<=sizeLine/\Vals xs its.toList
noncomputable def SqT (K:PySem.W.Frag) (H:Hp) (a:Addr) (xs:List V):Prop :=
 Rd H a (.tup xs) \/
  ∃(o:Obj) (its:Array Value) (n:Nat),K.lookup a=some o/\o.cls=.type "tuple"/\o.data=.seq its n/\its.size<=sizeLine/\Vals xs its.toList
noncomputable def absV:Value->Option V
 |.none=>some .non
 |.bool b=>some (.bl b)
 |.int i _=>some (.int i)
 |.str x _=>some (.str x)
 |.bytes b _=>some (.byt b)
 |.float b _=>some (.flt b)
 |.ref a=>some (.ref a)
 |.type n=>some (.ty n)
 |_=>none
theorem RelV.abs {x:V}{u:Value} (r:RelV x u):absV u=some x:=by
 cases x with
 |non=>cases r;rfl
 |bl _=>cases r;rfl
 |int _=>obtain⟨t,rfl⟩:=r;rfl
 |str _=>obtain⟨t,rfl⟩:=r;rfl
 |byt _=>obtain⟨t,rfl⟩:=r;rfl
 |flt _=>obtain⟨t,rfl⟩:=r;rfl
 |ref _=>cases r;rfl
 |ty _=>cases r;rfl
theorem RelV.inj {x y:V}{u:Value} (r:RelV x u) (q:RelV y u):x=y:=Yq (r.abs.symm.trans q.abs)
theorem Vals.inj:∀{xs ys:List V}{us:List Value},Vals xs us->Vals ys us->xs=ys
 |_,_,_,.nil,.nil=>rfl
 |_,_,_,.cons r t,.cons r' t'=>by rw[r.inj r',Vals.inj t t']
section
variable {X:Cx}{pins:List (Addr×Obj)}{σ:St}{H:Hp}{s:Shared}{a:Addr}{xs ys:List V}
theorem SqL.of {K:PySem.W.Frag} (h:H a=some (.lst xs)):SqL K H a xs:=.inl (.inl h)
theorem SqT.of {K:PySem.W.Frag} (h:H a=some (.tup xs)):SqT K H a xs:=.inl (.inl h)
theorem Inv.list (I:Inv X pins σ H s) (h:SqL X.K H a xs):∃its:List Value,Vals xs its/\PlainL s.heap a its.toArray/\xs.length<=sizeLine:=by
 rcases h with h|⟨o,its,n,hk,hc,hd,hs,hz,r⟩
 ·obtain⟨z,its,n,r,e⟩:=h.ok I.hok
  exact⟨its,r,⟨_,n,e,rfl,rfl,rfl⟩,z⟩
 ·refine⟨its.toList,r,⟨o,n,I.kIn a o hk,hc,hd,by simpa using hs⟩,?_⟩
  have e:=r.length
  simp only[YI]at e
  omega
theorem Inv.tuple (I:Inv X pins σ H s) (h:SqT X.K H a xs):∃its:List Value,Vals xs its/\IsTup s.heap a its.toArray/\xs.length<=sizeLine:=by
 rcases h with h|⟨o,its,n,hk,hc,hs,hz,r⟩
 ·obtain⟨z,its,r,p⟩:=h.ok I.hok
  exact⟨its,r,p,z⟩
 ·refine⟨its.toList,r,⟨o,I.kIn a o hk,hc,n,by simpa using hs⟩,?_⟩
  have e:=r.length
  simp only[YI]at e
  omega
theorem Inv.Zdn (I:Inv X pins σ H s) (h:SqL X.K H a xs) (h':SqL X.K H a ys):xs=ys:=by
 obtain⟨its,r,⟨o,n,e,_,_,d⟩,_⟩:=I.list h
 obtain⟨its',r',⟨o',n',e',_,_,d'⟩,_⟩:=I.list h'
 rw[e]at e';cases e'
 rw[d]at d'
 injection d' with d1 _
 have:its=its':=by simpa using congrArg Array.toList d1
 subst this
 exact r.inj r'
theorem Inv.Zfw (I:Inv X pins σ H s) (h:SqT X.K H a xs) (h':SqT X.K H a ys):xs=ys:=by
 obtain⟨its,r,⟨o,e,_,n,d⟩,_⟩:=I.tuple h
 obtain⟨its',r',⟨o',e',_,n',d'⟩,_⟩:=I.tuple h'
 rw[e]at e';cases e'
 rw[d]at d'
 injection d' with d1 _
 have:its=its':=by simpa using congrArg Array.toList d1
 subst this
 exact r.inj r'
end
noncomputable abbrev Cx.Zff (X:Cx) (E:Value->Shared->Prop):Cx:={X with xe:=E}
noncomputable abbrev Cx.nox (X:Cx):Cx:=X.Zff λ_ _=>False
theorem Cx.Ok.Zff {X:Cx} (ok:X.Ok) (E:Value->Shared->Prop):(X.Zff E).Ok :=
 ⟨ok.mod,ok.kind,ok.glob,ok.blt,ok.above,ok.inj,ok.has,ok.cab,ok.hd,ok.frames,ok.stk,ok.exf,ok.bs,ok.bsz,ok.noex,ok.exfs,ok.funs,ok.frf⟩
theorem Cx.Ok.Zcc {X:Cx}{E:Value->Shared->Prop} (ok:(X.Zff E).Ok):X.Ok :=
 ⟨ok.mod,ok.kind,ok.glob,ok.blt,ok.above,ok.inj,ok.has,ok.cab,ok.hd,ok.frames,ok.stk,ok.exf,ok.bs,ok.bsz,ok.noex,ok.exfs,ok.funs,ok.frf⟩
section
variable {X:Cx}{pins:List (Addr×Obj)}{σ:St}{H:Hp}{s:Shared}{E:Value->Shared->Prop}
theorem Inv.Zff (I:Inv X pins σ H s) (E:Value->Shared->Prop):Inv (X.Zff E) pins σ H s:=⟨I.ok.Zff E,I.os,I.bare,I.base,I.loc,I.cell,I.free,I.freeC,I.pin,I.hok,I.len⟩
theorem Inv.Zcc (I:Inv (X.Zff E) pins σ H s):Inv X pins σ H s:=⟨I.ok.Zcc,I.os,I.bare,I.base,I.loc,I.cell,I.free,I.freeC,I.pin,I.hok,I.len⟩
theorem SP.Zcc {D:Ends}{f:Flow}{s':Shared} (h:SP (X.Zff E) pins D f s'):SP X pins D f s':=by
 cases f with
 |next=>obtain⟨σ',H',I,q⟩:=h;exact⟨σ',H',I.Zcc,q⟩
 |brk=>obtain⟨σ',H',I,q⟩:=h;exact⟨σ',H',I.Zcc,q⟩
 |cont=>obtain⟨σ',H',I,q⟩:=h;exact⟨σ',H',I.Zcc,q⟩
 |ret u=>obtain⟨v,σ',H',I,r,q⟩:=h;exact⟨v,σ',H',I.Zcc,r,q⟩
end
section
variable {X:Cx}{st:Stmt}{rest:List Stmt}{t u:TS}{e:Expr}{te:TE}{pos:Pos}
noncomputable def tNext:TS:=λD σ H=>D.nx σ H
noncomputable def tSeq (t u:TS):TS:=λD σ H=>t {D with nx:=u D} σ H
theorem Zn:PSs X [] tNext:=λ_ _ σ H _ I h=>wpAny_execs_nil ⟨σ,H,I,h⟩
theorem Zc (h1:PS X st t) (h2:PSs X rest u):PSs X (st::rest) (tSeq t u):=by
 intro pins s σ H D I h
 refine wpAny_execs_cons (thn (h1 pins s σ H {D with nx:=u D} I h) λf s1 q=>?_)
 cases f with
 |next =>
  obtain⟨σ',H',I',q⟩:=q
  exact h2 pins s1 σ' H' D I' q
 |ret v=>exact q
 |brk=>exact q
 |cont=>exact q
theorem Zf (h1:PS X st t):PSs X [st] t:=by
 intro pins s σ H D I h
 refine wpAny_execs_cons (thn (h1 pins s σ H D I h) λf s1 q=>?_)
 cases f with
 |next=>exact wpAny_execs_nil q
 |ret v=>exact q
 |brk=>exact q
 |cont=>exact q
theorem Inv.quiet {pins:List (Addr×Obj)}{σ:St}{H:Hp}{s:Shared} (I:Inv X pins σ H s):interactive X.env=false:=by simp[interactive,I.ok.kind]
noncomputable def tDrop (te:TE):TS:=λD σ H=>te σ H λ_ H1=>D.nx σ H1
theorem ZN (he:PE X e te) (hs:swapsWith e none pos.line X.env=pure false:=by rfl):PS X (.Expr e pos) (tDrop te):=by
 intro pins s σ H D I h
 exact wpAny_Expr_any (thn (he pins s σ H _ I h) λv s1 ⟨x,H1,I1,r1,q1⟩=>⟨σ,H1,I1,q1⟩) I.quiet hs
noncomputable def tRet (te:TE):TS:=λD σ H=>te σ H D.rt
theorem Zq (he:PE X e te):PS X (.Return (some e) pos) (tRet te):=by
 intro pins s σ H D I h
 exact wpAny_Return_some (thn (he pins s σ H _ I h) λv s1 ⟨x,H1,I1,r1,q1⟩=>⟨x,σ,H1,I1,r1,q1⟩)
noncomputable def tIfS (c:TT) (t u:TS):TS:=λD σ H=>c σ H λb H1=>if b=true then t D σ H1 else u D σ H1
theorem Zv {c:Expr}{a b:List Stmt}{tc:TT} (hc:PT X c tc) (ha:PSs X a t) (hb:PSs X b u):PS X (.If c a b pos) (tIfS tc t u):=by
 intro pins s σ H D I h
 refine wpAny_If (thn (hc pins s σ H _ I h) λd s1 ⟨H1,I1,q1⟩=>?_)
 cases d with
 |true=>exact ha pins s1 σ H1 D I1 q1
 |false=>exact hb pins s1 σ H1 D I1 q1
end
noncomputable abbrev TG:=V->St->Hp->(St->Hp->Prop)->Prop
noncomputable abbrev TGs:=List V->St->Hp->(St->Hp->Prop)->Prop
noncomputable def PG (X:Cx) (target:Expr) (t:TG):Prop :=
 ∀(pins:List (Addr×Obj)) (s:Shared) (σ:St) (H:Hp) (v:V) (u:Value) (Q:St->Hp->Prop),Inv X pins σ H s->RelV v u->t v σ H Q ->
  wpAny (model X.prog X.w) X.A (assign target X.env u) (λ_ s'=>∃σ' H',Inv X pins σ' H' s'/\Q σ' H') X.xe s
noncomputable def PGs (X:Cx) (ts:List Expr) (t:TGs):Prop :=
 ∀(pins:List (Addr×Obj)) (s:Shared) (σ:St) (H:Hp) (vs:List V) (us:List Value) (Q:St->Hp->Prop),Inv X pins σ H s->Vals vs us->t vs σ H Q ->
  wpAny (model X.prog X.w) X.A (assignInOrder ((assignEach ts X.env).map (·.2)) us) (λ_ s'=>∃σ' H',Inv X pins σ' H' s'/\Q σ' H') X.xe s
noncomputable abbrev TSet:=V->V->V->Hp->(Hp->Prop)->Prop
noncomputable def PSet (X:Cx) (t:TSet):Prop :=
 ∀(pins:List (Addr×Obj)) (s:Shared) (σ:St) (H:Hp) (o i v:V) (ov iv u:Value) (Q:Hp->Prop),Inv X pins σ H s->RelV o ov->RelV i iv->RelV v u->t o i v H Q ->
  wpAny (model X.prog X.w) X.A (setItem ov iv u) (λ_ s'=>∃H',Inv X pins σ H' s'/\Q H') X.xe s
section
variable {X:Cx}{pos:Pos}
noncomputable def gName (i:Nat):TG:=λv σ H Q=>Q (σ.set i (some v)) H
theorem ZP {i:Nat}{x:Str} (hN:X.N.Nodup) (hi:X.N[i]?=some x) (hx:Loc X.env.scope x) (hf:X.fn x=true\/X.env.scope.names.lookup x=some .local:=by first|exact .inl rfl|exact .inr rfl|assumption):PG X (.Name x pos) (gName i):=by
 intro pins s σ H v u Q I r h
 exact wpAny_assign_Name (Zdl I hN hi hx r (λs' I'=>⟨_,H,I',h⟩) hf)
noncomputable def gNil:TGs:=λvs σ H Q=>vs=[]/\Q σ H
noncomputable def gCons (t:TG) (u:TGs):TGs:=λvs σ H Q=>∃v r,vs=v::r/\t v σ H fun σ' H'=>u r σ' H' Q
theorem ZhJ:PGs X [] gNil:=by
 intro pins s σ H vs us Q I r h
 obtain⟨e,h⟩:=h
 subst e
 cases r
 exact assignInOrder_nil ⟨σ,H,I,h⟩
theorem Zcd {e:Expr}{es:List Expr}{t:TG}{u:TGs} (h1:PG X e t) (h2:PGs X es u)
  (hs:(assignEach (e::es) X.env).map (·.2)=assign e X.env::(assignEach es X.env).map (·.2):=by rfl):PGs X (e::es) (gCons t u):=by
 intro pins s σ H vs us Q I r h
 obtain⟨v,vr,e1,h⟩:=h
 subst e1
 cases r with
 |cons r rr =>
  rw[hs]
  refine assignInOrder_cons (thn (h1 pins s σ H _ _ _ I r h) λ_ s1 ⟨σ1,H1,I1,q1⟩=>?_)
  exact h2 pins s1 σ1 H1 _ _ Q I1 rr q1
noncomputable def gTup (K:PySem.W.Frag) (n:Nat) (t:TGs):TG:=λv σ H Q=>∃a xs,v=.ref a/\SqT K H a xs/\xs.length=n/\t xs σ H Q
theorem Zjd {es:List Expr}{k:Nat}{t:TGs}{n:Nat} (hc:X.calm=true) (h:PGs X es t)
  (hn:(assignEach es X.env).length=n:=by rfl) (hst:(assignEach es X.env).findIdx? (·.1)=none:=by rfl):PG X (.Tuple es k pos) (gTup X.K n t):=by
 intro pins s σ H v u Q I r hw
 obtain⟨a,xs,e1,hq,hl,hw⟩:=hw
 subst e1
 cases r
 obtain⟨its,rv,ht,hz⟩:=I.tuple hq
 refine assign_Tuple_tuple (I.ok.hd hc) ht (by simp[hn,<-hl,rv.length]) hst λh' hx=>?_
 have I1:Inv X pins σ H {s with heap:=h'}:=I.kept (t':=s.toks) λb o e=>hx b o (Ym (Yh e)) e
 exact h pins _ σ H xs _ Q I1 (by simpa using rv) hw
noncomputable def gSub (to ti:TE) (t:TSet):TG:=λv σ H Q=>to σ H λo H1=>ti σ H1 λi H2=>t o i v H2 λH3=>Q σ H3
theorem pg_sub {o i:Expr}{to ti:TE}{t:TSet} (ho:PE X o to) (hi:PE X i ti) (hs:PSet X t)
  (ha:∀v,assign (.Subscript o i pos) X.env v=(do
   let ov <-holding [v] (eval o X.env)
   let iv <-holding [v,ov] (eval i X.env)
   standAt pos
   holding [v,ov,iv] (setItem ov iv v)
   release [v,ov,iv] []):=by intro _;rfl):PG X (.Subscript o i pos) (gSub to ti t):=by
 intro pins s σ H v u Q I r h
 rw[ha]
 refine Ya (YF (thn (ho pins s σ H _ I h) λov s1 ⟨x,H1,I1,r1,q1⟩=>?_))
 refine Ya (YF (thn (hi pins s1 σ H1 _ I1 q1) λiv s2 ⟨y,H2,I2,r2,q2⟩=>?_))
 refine Ya (wpAny_standAt (Ya (YF (thn (hs pins s2 σ H2 x y v ov iv u _ I2 r1 r2 r q2) λ_ s3 ⟨H3,I3,q3⟩=>?_))))
 exact wpAny_release ⟨σ,H3,I3,q3⟩
noncomputable def tAsg (te:TE) (g:TG):TS:=λD σ H=>te σ H λx H1=>g x σ H1 D.nx
theorem Zhf {tg e:Expr}{te:TE}{g:TG} (he:PE X e te) (hg:PG X tg g) (hs:swapsWithSole [tg] e pos.line X.env=pure false:=by rfl) (hw:swappedStores [tg] e X.env=pure none:=by rfl)
  (h1:(assignEach [tg] X.env).map (·.2)=[assign tg X.env]:=by rfl):PS X (.Assign [tg] e pos) (tAsg te g):=by
 intro pins s σ H D I h
 refine wpAny_Assign_stores (thn (he pins s σ H _ I h) λv s1 ⟨x,H1,I1,r1,q1⟩=>?_) hs hw
 rw[h1]
 exact thn (hg pins s1 σ H1 x v _ I1 r1 q1) λ_ s2 q=>q
theorem Zr {i:Nat}{x:Str}{e:Expr}{te:TE}{pos':Pos} (hN:X.N.Nodup) (hi:X.N[i]?=some x) (hx:Loc X.env.scope x) (he:PE X e te) (hs:swapsWith e (some (.Name x pos')) pos.line X.env=pure false:=by rfl) (hf:X.fn x=true\/X.env.scope.names.lookup x=some .local:=by first|exact .inl rfl|exact .inr rfl|assumption) :
  PS X (.Assign [.Name x pos'] e pos) (tAsg te (gName i)):=by
 intro pins s σ H D I h
 refine wpAny_Assign_Name (thn (he pins s σ H _ I h) λv s1 ⟨y,H1,I1,r1,q1⟩=>?_) hs
 exact Zdl I1 hN hi hx r1 (λs2 I2=>⟨_,H1,I2,q1⟩) hf
end
section
variable {X:Cx}{pos:Pos}
noncomputable def Zhg (c:TT) (tb:TS):TS:=λD σ H=>∃W:Nat->St->Hp->Prop,(∃m,W m σ H)/\∀m σ H,W m σ H ->
 c σ H λb H1=>if b=true then ∃N:St->Hp->Prop,(∀σ' H',N σ' H'->∃m',m'<m/\W m' σ' H')/\tb {D with nx:=N,ct:=N,bk:=D.nx} σ H1 else D.nx σ H1
theorem Zje {c:Expr}{body:List Stmt}{tc:TT}{tb:TS} (hp:PassesOwn (model X.prog X.w) X.A X.env X.xe) (hc:PT X c tc) (hb:PSs X body tb):PS X (.While c body [] pos) (Zhg tc tb):=by
 intro pins s σ H D I h
 obtain⟨W,⟨m0,w0⟩,turn⟩:=h
 refine wpAny_While (codeAny_whileLoop (λn s'=>∃σ' H',Inv X pins σ' H' s'/\W n σ' H') ?_ m0 ⟨σ,H,I,w0⟩)
 rintro n s1 ⟨σ1,H1,I1,w1⟩
 refine wpAny_passesOwn hp (thn (hc pins s1 σ1 H1 _ I1 (turn n σ1 H1 w1)) λb s2 ⟨H2,I2,q2⟩=>?_)
 cases b with
 |true =>
  obtain⟨N,hN,q2⟩:=q2
  rw[Ye rfl]
  refine wpAny_passesOwn hp (thn (hb pins s2 σ1 H2 _ I2 q2) λf s3 q3=>?_)
  cases f with
  |next =>
   obtain⟨σ3,H3,I3,n3⟩:=q3
   obtain⟨m',hm,w3⟩:=hN σ3 H3 n3
   exact⟨m',hm,σ3,H3,I3,w3⟩
  |cont =>
   obtain⟨σ3,H3,I3,n3⟩:=q3
   obtain⟨m',hm,w3⟩:=hN σ3 H3 n3
   exact⟨m',hm,σ3,H3,I3,w3⟩
  |brk=>exact q3
  |ret v=>exact q3
 |false =>
  rw[Yb Yn]
  exact wpAny_execs_nil ⟨σ1,H2,I2,q2⟩
end
structure It where
 go:Nat->Hp->Prop
 yld:Nat->Hp->V->Hp->Prop
 stop:Nat->Hp->Prop
noncomputable def FpOk (X:Cx) (pins:List (Addr×Obj)) (H:Hp) (b:Addr):Prop :=
 H b=none/\b≠X.env.locals/\b∉X.fs/\(b∈X.ex\/X.s₀.heap.objs.size<=b)/\(∀x c,X.env.cells.lookup x=some c->c≠b)/\∀p∈X.pn++pins,p.1≠b
theorem Inv.fpOk {X:Cx}{pins:List (Addr×Obj)}{σ:St}{H H':Hp}{s:Shared}{b:Addr} (I:Inv X pins σ H s) (hb:s.heap.objs.size<=b) (hn:H' b=none):FpOk X pins H' b:=by
 refine⟨hn,Nat.ne_of_gt (Yk I.lt hb),I.nofs hb,.inr (Yd I.sz hb),λx c e z=>?_,λp hp z=>?_⟩
 ·obtain⟨v,q⟩:=I.cell x c e
  exact absurd (Yk q.lt (by rw[z];exact hb)) (Yx _)
 ·exact absurd (Yk (Yh (I.pin p hp).1) (by rw[z];exact hb)) (Yx _)
structure Turn (P:Program) (w:World) (K:PySem.W.Frag) (tg:Expr) (J:It) (fp:List Addr) (it:Addr) (tn:Nat->Heap->Prop):Prop where
 mem:it∈fp
 obj:∀i h,tn i h->∀b∈fp,∃o,h.get? b=some o/\∀v,o.data≠.cell v
 keep:∀i h h',tn i h->(∀b∈fp,∀o,h.get? b=some o->h'.get? b=some o)->tn i h'
 item:∀(X:Cx),X.prog=P->X.w=w->X.K=K->X.calm=true->∀(i:Nat) (pins:List (Addr×Obj)) (s:Shared) (σ:St) (H:Hp) (E:Value->Shared->Prop),Inv X pins σ H s->(∀b∈fp,FpOk X pins H b)->tn i s.heap->J.go i H ->
  wpAny (model P w) X.A (pyNext (.ref it)) (λr s1=>∃u,r=some u /\
   wpAny (model P w) X.A (letOwnedTupleGo tg (.ref it) u) (λ_ s2=>∃x H',Inv X pins σ H' s2/\RelV x u/\J.yld i H x H'/\tn (i+1) s2.heap/\∀b∈fp,H' b=none) E s1) E s
 done:∀(X:Cx),X.prog=P->X.w=w->X.K=K->X.calm=true->∀(i:Nat) (pins:List (Addr×Obj)) (s:Shared) (σ:St) (H:Hp) (E:Value->Shared->Prop),Inv X pins σ H s->(∀b∈fp,FpOk X pins H b)->tn i s.heap->J.stop i H ->
  wpAny (model P w) X.A (pyNext (.ref it)) (λr s1=>r=none/\Inv X pins σ H s1) E s
 self:∀(A:Around) (i:Nat) (s:Shared) (Q:Value->Shared->Prop) (E:Value->Shared->Prop),tn i s.heap->Q (.ref it) s->wpAny (model P w) A (pyIter (.ref it)) Q E s
noncomputable abbrev TI:=St->Hp->(It->Hp->Prop)->Prop
noncomputable def PIE (X:Cx) (pins:List (Addr×Obj)) (σ:St) (tg:Expr) (R:It->Hp->Prop) (itv:Value) (s2:Shared):Prop :=
 ∃(it:Addr) (fp:List Addr) (tn:Nat->Heap->Prop) (J:It) (H':Hp),itv=.ref it/\Inv X pins σ H' s2/\Turn X.prog X.w X.K tg J fp it tn/\tn 0 s2.heap/\(∀b∈fp,FpOk X pins H' b)/\R J H'
noncomputable def PI (X:Cx) (tg iter:Expr) (wi:TI):Prop :=
 ∀(pins:List (Addr×Obj)) (s:Shared) (σ:St) (H:Hp) (R:It->Hp->Prop),Inv X pins σ H s->wi σ H R ->
  wpAny (model X.prog X.w) X.A (eval iter X.env) (λv s1=>wpAny (model X.prog X.w) X.A (pyIter v) (PIE X pins σ tg R) X.xe s1) X.xe s
theorem Zjf {M : Model} {A : Around} {E : Value → Shared → Prop} {s : Shared} {tg : Expr} {it : Addr} {u : Value} {o : Obj} {n : String} {vs : Array Value} {Q : Unit → Shared → Prop} (ho : s.heap.get? it = some o) (hc : o.cls = .type n) (hd : o.data = .fields vs)
    (hn : ["enumerate", "zip", "dict_itemiterator", "dict_reverseitemiterator", "odict_iterator", "itertools.zip_longest", "itertools.pairwise"].contains n = false) (hQ : Q () s) : wpAny M A (letOwnedTupleGo tg (.ref it) u) Q E s := by
  unfold letOwnedTupleGo
  cases tg <;> first
    | exact Yc hQ
    | (cases u <;> first
        | exact Yc hQ
        | (refine Ya (wpAny_load ho ?_)
           rw [hc, hd]
           show wpAny M A (if (["enumerate", "zip", "dict_itemiterator", "dict_reverseitemiterator", "odict_iterator", "itertools.zip_longest", "itertools.pairwise"].contains n && vs[0]? == some (rawInt _)) = true then _ else _) Q E s
           rw [Yb (by intro h; rw [hn, Bool.false_and] at h; cases h)]
           exact Yc hQ))
noncomputable def Itl (K:PySem.W.Frag) (a:Addr):It :=
 ⟨λi H=>∃xs x,SqL K H a xs/\xs[i]?=some x,λi H x H'=>H'=H/\∀xs,SqL K H a xs->xs[i]?=some x,λi H=>∃xs,SqL K H a xs/\xs.length<=i⟩
noncomputable def Itt (K:PySem.W.Frag) (a:Addr):It :=
 ⟨λi H=>∃xs x,SqT K H a xs/\xs[i]?=some x,λi H x H'=>H'=H/\∀xs,SqT K H a xs->xs[i]?=some x,λi H=>∃xs,SqT K H a xs/\xs.length<=i⟩
noncomputable def Itr (lo:Int) (n:Nat):It:=⟨λi _=>i<n,λi H x H'=>H'=H/\x=.int (lo+i),λi _=>n<=i⟩
theorem Zfx {P:Program}{w:World}{K:PySem.W.Frag}{tg:Expr} (a it:Addr):Turn P w K tg (Itl K a) [it] it (λi h=>h.IsListIter it a i) where
 mem:=by simp
 obj:=λi h st b hb=>by
  have e:b=it:=by simpa using hb
  subst e
  obtain⟨o,e,c,d⟩:=st
  exact⟨o,e,λv z=>by rw[d]at z;cases z⟩
 keep:=λi h h' st k=>st.at λo e=>k it (by simp) o e
 item:=by
  intro X hP hw hK hc i pins s σ H E I hf st hg
  subst hP hw hK
  obtain⟨xs,x,hq,hx⟩:=hg
  obtain⟨its,rv,p,hz⟩:=I.list hq
  obtain⟨u,hu,ru⟩:=rv.get hx
  obtain⟨f0,f1,f2,f3,f4,f5⟩:=hf it (by simp)
  refine wpAny_pyNext_list_item st p.isList (x:=u) (by simpa using hu) λh' st' sb=>?_
  have I1:Inv X pins σ H {s with heap:=h'}:=I.turned (t':=s.toks) (λb o hb e=>(sb.2 b hb).trans e) f0 f1 f3 f4 f5
  obtain⟨o,e,c,d⟩:=id st'
  exact⟨u,rfl,Zjf (s:={s with heap:=h'}) e c d (by decide) ⟨x,H,I1,ru,⟨rfl,λys hy=>by rw[I.Zdn hy hq];exact hx⟩,st',λb hb=>(hf b hb).1⟩⟩
 done:=by
  intro X hP hw hK hc i pins s σ H E I hf st hg
  subst hP hw hK
  obtain⟨xs,hq,hx⟩:=hg
  obtain⟨its,rv,p,hz⟩:=I.list hq
  obtain⟨f0,f1,f2,f3,f4,f5⟩:=hf it (by simp)
  have hl:=rv.length
  exact wpAny_pyNext_list_end (I.ok.hd hc) st p.isList (by simp;omega) λh' eb=>⟨rfl,I.turned (t':=s.toks) (λb o hb e=>eb b o hb e) f0 f1 f3 f4 f5⟩
 self:=λ_ _ _ _ _ st h=>wpAny_pyIter_listiter st h
theorem Zhh {P:Program}{w:World}{K:PySem.W.Frag}{tg:Expr} (a it:Addr):Turn P w K tg (Itt K a) [it] it (λi h=>h.IsTupleIter it a i) where
 mem:=by simp
 obj:=λi h st b hb=>by
  have e:b=it:=by simpa using hb
  subst e
  obtain⟨o,e,c,d⟩:=st
  exact⟨o,e,λv z=>by rw[d]at z;cases z⟩
 keep:=λi h h' st k=>st.at λo e=>k it (by simp) o e
 item:=by
  intro X hP hw hK hc i pins s σ H E I hf st hg
  subst hP hw hK
  obtain⟨xs,x,hq,hx⟩:=hg
  obtain⟨its,rv,p,hz⟩:=I.tuple hq
  obtain⟨u,hu,ru⟩:=rv.get hx
  obtain⟨f0,f1,f2,f3,f4,f5⟩:=hf it (by simp)
  refine wpAny_pyNext_tuple_item st (show s.heap.IsTuple a its.toArray from p) (x:=u) (by simpa using hu) λh' st' sb=>?_
  have I1:Inv X pins σ H {s with heap:=h'}:=I.turned (t':=s.toks) (λb o hb e=>(sb.2 b hb).trans e) f0 f1 f3 f4 f5
  obtain⟨o,e,c,d⟩:=id st'
  exact⟨u,rfl,Zjf (s:={s with heap:=h'}) e c d (by decide) ⟨x,H,I1,ru,⟨rfl,λys hy=>by rw[I.Zfw hy hq];exact hx⟩,st',λb hb=>(hf b hb).1⟩⟩
 done:=by
  intro X hP hw hK hc i pins s σ H E I hf st hg
  subst hP hw hK
  obtain⟨xs,hq,hx⟩:=hg
  obtain⟨its,rv,p,hz⟩:=I.tuple hq
  obtain⟨f0,f1,f2,f3,f4,f5⟩:=hf it (by simp)
  have hl:=rv.length
  exact wpAny_pyNext_tuple_end (I.ok.hd hc) st (show s.heap.IsTuple a its.toArray from p) (by simp;omega) λh' eb=>⟨rfl,I.turned (t':=s.toks) (λb o hb e=>eb b o hb e) f0 f1 f3 f4 f5⟩
 self:=λ_ _ _ _ _ st h=>wpAny_pyIter_tupleiter st h
theorem Zhi {P:Program}{w:World}{K:PySem.W.Frag}{tg:Expr} (it:Addr) (lo:Int) (n:Nat):Turn P w K tg (Itr lo n) [it] it (λi h=>IsRangeIter h it (lo+(i:Nat)*1) ((n:Int)-(i:Nat)) 1) where
 mem:=by simp
 obj:=λi h st b hb=>by
  have e:b=it:=by simpa using hb
  subst e
  exact⟨_,st,λv z=>by
   have z':Data.fields _=Data.cell v:=z
   cases z'⟩
 keep:=λi h h' st k=>k it (by simp) _ st
 item:=by
  intro X hP hw hK hc i pins s σ H E I hf st hg
  subst hP hw hK
  obtain⟨f0,f1,f2,f3,f4,f5⟩:=hf it (by simp)
  have W:=Walks.range (prog:=X.prog) (w:=X.w) (I.ok.hd hc) it lo 1 n
  refine W.item i s _ _ hg st λv h' tk hv st' kk=>?_
  obtain⟨t,rfl⟩:=hv
  have I1:Inv X pins σ H {s with heap:=h',toks:=tk}:=I.turned (λb o hb e=>kk b o (by simpa using hb) e) f0 f1 f3 f4 f5
  refine⟨_,rfl,Zjf (s:={s with heap:=h',toks:=tk}) (n:="range_iterator") st' rfl rfl (by decide) ⟨.int (lo+i),H,I1,⟨t,?_⟩,⟨rfl,rfl⟩,st',λb hb=>(hf b hb).1⟩⟩
  rw[Int.mul_one]
 done:=by
  intro X hP hw hK hc i pins s σ H E I hf st hg
  subst hP hw hK
  obtain⟨f0,f1,f2,f3,f4,f5⟩:=hf it (by simp)
  exact wpAny_pyNext_range_end (I.ok.hd hc) st (by have:n<=i:=hg;omega) λh' eb=>⟨rfl,I.turned (t':=s.toks) (λb o hb e=>eb b o hb e) f0 f1 f3 f4 f5⟩
 self:=λ_ _ _ _ _ st h=>wpAny_pyIter_rangeiter st h
section
variable {X:Cx}{tg:Expr}
noncomputable def iList (K:PySem.W.Frag) (tl:TE):TI:=fun σ H R=>tl σ H λx H1=>∃a,x=.ref a/\(∃xs,SqL K H1 a xs)/\R (Itl K a) H1
theorem Zf1 {l:Expr}{tl:TE} (hl:PE X l tl):PI X tg l (iList X.K tl):=by
 intro pins s σ H R I h
 refine thn (hl pins s σ H _ I h) λv s1 ⟨x,H1,I1,r1,q1⟩=>?_
 obtain⟨a,e,⟨xs,hq⟩,q⟩:=q1
 subst e
 cases r1
 obtain⟨its,rv,p,hz⟩:=I1.list hq
 refine wpAny_pyIter_list p.isList ?_
 refine⟨s1.heap.objs.size,[s1.heap.objs.size],_,_,H1,rfl,I1.kept (t':=s1.toks) λb o e=>Yl _ e,Zfx a _,⟨_,Yu _ rfl,rfl,rfl⟩,λb hb=>?_,q⟩
 have e:b=s1.heap.objs.size:=by simpa using hb
 subst e
 exact I1.fpOk (Yf _) (I1.hok.fresh (Yf _))
theorem Zjg {pins:List (Addr×Obj)}{σ:St}{H:Hp}{s:Shared}{R:It->Hp->Prop}{E:Value->Shared->Prop}{lo hi:Int}{t u v:Tok}{tk:Nat} (I:Inv X pins σ H s) (h1:-(2 ^ 62)<=lo) (h2:lo<2 ^ 62) (h3:-(2 ^ 62)<=hi) (h4:hi<2 ^ 62)
  (q:R (Itr lo (hi-lo).toNat) H):wpAny (model X.prog X.w) X.A (pyIter (.ref s.heap.objs.size)) (PIE X pins σ tg R) E {s with heap:=s.heap.push {cls:=.type "range",data:=.fields #[.int lo t,.int hi u,.int 1 v]},toks:=tk}:=by
 refine wpAny_pyIter_range (IsRange.new ..) (small_one h1 h2 h3 h4) ?_
 have I1:Inv X pins σ H {s with heap:=s.heap.push {cls:=.type "range",data:=.fields #[.int lo t,.int hi u,.int 1 v]},toks:=tk}:=I.kept λb o e=>Yl _ e
 refine⟨(s.heap.push {cls:=.type "range",data:=.fields #[.int lo t,.int hi u,.int 1 v]}).objs.size,[(s.heap.push {cls:=.type "range",data:=.fields #[.int lo t,.int hi u,.int 1 v]}).objs.size],_,_,H,rfl,
  I1.kept (t':=tk) λb o e=>Yl _ e,Zhi _ lo (hi-lo).toNat,?_,λb hb=>?_,q⟩
 ·have e1:lo+((0:Nat):Int)*1=lo:=by simp
  have e2:(((hi-lo).toNat:Nat):Int)-((0:Nat):Int)=Builtin.Range.rangeSize lo hi 1:=by rw[rangeSize_one];split<;>omega
  show IsRangeIter _ _ (lo+((0:Nat):Int)*1) ((((hi-lo).toNat:Nat):Int)-((0:Nat):Int)) 1
  rw[e1,e2]
  exact Yu _ rfl
 ·have e:b=(s.heap.push {cls:=.type "range",data:=.fields #[.int lo t,.int hi u,.int 1 v]}).objs.size:=by simpa using hb
  subst e
  exact I1.fpOk (Yf _) (I1.hok.fresh (Yf _))
noncomputable def iRng1 (ta:TA):TI:=fun σ H R=>ta σ H λvs H1=>∃j:Int,vs=[.int j]/\-(2 ^ 62)<=j/\j<2 ^ 62/\R (Itr 0 j.toNat) H1
theorem Za1 {a:Expr}{ta:TA}{p pos:Pos} (hg:Gl X "range") (hm:X.mg "range"=none) (ha:PA X [a] ta) (hs:starEach [a] X.env=[(false,eval a X.env)]:=by rfl):PI X tg (.Call (.Name "range" p) [a] [] pos) (iRng1 ta):=by
 intro pins s σ H R I h
 refine Call_ (ZfX I hg hm boot_range (PyProof.Rows.callWith_type1 (thn (ha pos pins s σ H _ I h) λus s1 ⟨vs,H1,I1,r1,q1⟩=>?_) hs rfl))
 obtain⟨j,e,q1,q2,q⟩:=q1
 subst e
 cases r1 with
 |cons r rr =>
  cases rr
  obtain⟨t,rfl⟩:=r
  exact call_range_1 (Zjg I1 (by omega) (by omega) q1 q2 (by simpa using q))
noncomputable def tFor (wi:TI) (g:TG) (tb:TS):TS:=λD σ H=>wi σ H λJ H1=>∃W:Nat->Nat->St->Hp->Prop,(∃m,W 0 m σ H1)/\∀i m σ H,W i m σ H ->
 (J.stop i H/\D.nx σ H)\/(J.go i H/\∃N:St->Hp->Prop,(∀σ' H',N σ' H'->∃m',m'<m/\W (i+1) m' σ' H')/\∀x H',J.yld i H x H'->g x σ H' fun σ2 H2=>tb {D with nx:=N,ct:=N,bk:=D.nx} σ2 H2)
noncomputable def Zce (fp:List Addr) (h:Heap):List (Addr×Obj):=fp.filterMap λb=>(h.get? b).map λo=>(b,o)
theorem ZbB {fp:List Addr}{h:Heap}{b:Addr}{o:Obj} (hb:b∈fp) (e:h.get? b=some o):(b,o)∈Zce fp h:=List.mem_filterMap.mpr ⟨b,hb,by rw[e];rfl⟩
theorem Zfy {fp:List Addr}{h:Heap}{p:Addr×Obj} (hp:p∈Zce fp h):p.1∈fp/\h.get? p.1=some p.2:=by
 obtain⟨b,hb,e⟩:=List.mem_filterMap.mp hp
 cases q:h.get? b with
 |none=>rw[q]at e;cases e
 |some o =>
  rw[q]at e
  have e':(b,o)=p:=Yq e
  subst e'
  exact⟨hb,q⟩
theorem Inv.pinned {pins:List (Addr×Obj)}{σ:St}{H:Hp}{s:Shared}{fp:List Addr} (I:Inv X pins σ H s) (hf:∀b∈fp,FpOk X pins H b) (ho:∀b∈fp,∃o,s.heap.get? b=some o/\∀v,o.data≠.cell v):Inv X (pins++Zce fp s.heap) σ H s :=
 I.Zdk λp hp=>(Ys.mp hp).elim (λz=>I.pin p (Yo _ z)) λz=>by
  obtain⟨hb,e⟩:=Zfy z
  obtain⟨f0,f1,f2,_⟩:=hf p.1 hb
  obtain⟨o,e',d⟩:=ho p.1 hb
  rw[e]at e';cases e'
  exact⟨e,f0,f1,f2,d⟩
theorem Inv.Zcf {pins pl:List (Addr×Obj)}{σ:St}{H:Hp}{s:Shared} (I:Inv X (pins++pl) σ H s):Inv X pins σ H s:=I.Zdk λp hp=>I.pin p (Yo _ (YN _ hp))
theorem Zf2 {iter:Expr}{body:List Stmt}{wi:TI}{g:TG}{tb:TS}{pos:Pos} (hp:PassesOwn (model X.prog X.w) X.A X.env X.xe) (hc:X.calm=true) (hi:PI X tg iter wi) (hg:PG X tg g) (hb:PSs X body tb)
  (hs:∀x,foldedSetIterable iter X.env x=pure x:=by intro _;rfl):PS X (.For tg iter body [] pos) (tFor wi g tb):=by
 intro pins s σ H D I h
 refine wpAny_For (thn (hi pins s σ H _ I h) λv s1 h1=>thn h1 λitv s2 h2=>?_) hs
 obtain⟨it,fp,tn,J,H2,e,I2,T,st2,f2,W,⟨m0,w0⟩,turn⟩:=h2
 subst e
 -- what stays true of the iterator's objects through the loop
 have stat:∀{H':Hp},(∀b∈fp,H' b=none)->∀b∈fp,FpOk X pins H' b:=λhn b hb=>⟨hn b hb,(f2 b hb).2⟩
 refine codeAny_forLoop_any (λn s'=>∃i σ' H',Inv X pins σ' H' s'/\tn i s'.heap/\(∀b∈fp,H' b=none)/\W i n σ' H') ?_ m0 ⟨0,σ,H2,I2,st2,λb hb=>(f2 b hb).1,w0⟩
 rintro n s3 ⟨i,σ3,H3,I3,st3,fr3,w3⟩
 rcases turn i n σ3 H3 w3 with⟨stop,qn⟩|⟨go,N,hN,step⟩
 ·refine wpAny_passesOwn hp (thn (T.done X rfl rfl rfl hc i pins s3 σ3 H3 X.xe I3 (stat fr3) st3 stop) λr s4 ⟨hr,I4⟩=>?_)
  subst hr
  exact wpAny_execs_nil ⟨σ3,H3,I4,qn⟩
 ·refine wpAny_passesOwn hp (thn (T.item X rfl rfl rfl hc i pins s3 σ3 H3 X.xe I3 (stat fr3) st3 go) λr s4 ⟨u,hr,h4⟩=>?_)
  subst hr
  refine wpAny_passesOwn hp (thn h4 λ_ s5 ⟨x,H5,I5,r5,y5,st5,fr5⟩=>?_)
  have I5':=I5.pinned (stat fr5) (T.obj _ _ st5)
  refine wpAny_passesOwn hp (thn (hg _ s5 σ3 H5 x u _ I5' r5 (step x H5 y5)) λ_ s6 ⟨σ6,H6,I6,q6⟩=>?_)
  refine wpAny_passesOwn hp (thn (hb _ s6 σ6 H6 _ I6 q6) λf s7 q7=>?_)
  have again:∀{σ7:St}{H7:Hp},Inv X (pins++Zce fp s5.heap) σ7 H7 s7->N σ7 H7->∃m,m<n/\∃i σ' H',Inv X pins σ' H' s7/\tn i s7.heap/\(∀b∈fp,H' b=none)/\W i m σ' H':=λ{σ7 H7} I7 n7=>by
   obtain⟨m',hm,w7⟩:=hN σ7 H7 n7
   refine⟨m',hm,i+1,σ7,H7,I7.Zcf,T.keep _ _ _ st5 λb hb o e=>(I7.pin (b,o) (Yo _ (Yo _ (ZbB hb e)))).1,λb hb=>?_,w7⟩
   obtain⟨o,e,d⟩:=T.obj _ _ st5 b hb
   exact(I7.pin (b,o) (Yo _ (Yo _ (ZbB hb e)))).2.1
  cases f with
  |next=>obtain⟨σ7,H7,I7,n7⟩:=q7;exact again I7 n7
  |cont=>obtain⟨σ7,H7,I7,n7⟩:=q7;exact again I7 n7
  |brk=>obtain⟨σ7,H7,I7,q7⟩:=q7;exact⟨σ7,H7,I7.Zcf,q7⟩
  |ret v=>obtain⟨x7,σ7,H7,I7,r7,q7⟩:=q7;exact⟨x7,σ7,H7,I7.Zcf,r7,q7⟩
end
theorem ZcH {lo:Int}{n:Nat}{g:TG}{tb:TS}{D:Ends}{σ:St}{H:Hp} (Pv:Nat->St->Hp->Prop) (h0:Pv 0 σ H)
  (hs:∀i σ H,i<n->Pv i σ H->g (.int (lo+i)) σ H fun σ2 H2=>tb {D with nx:=Pv (i+1),ct:=Pv (i+1),bk:=D.nx} σ2 H2) (hd:∀σ H,Pv n σ H->D.nx σ H) :
  ∃W:Nat->Nat->St->Hp->Prop,(∃m,W 0 m σ H)/\∀i m σ H,W i m σ H ->
   ((Itr lo n).stop i H/\D.nx σ H)\/((Itr lo n).go i H/\∃N:St->Hp->Prop,(∀σ' H',N σ' H'->∃m',m'<m/\W (i+1) m' σ' H')/\∀x H',(Itr lo n).yld i H x H'->g x σ H' fun σ2 H2=>tb {D with nx:=N,ct:=N,bk:=D.nx} σ2 H2):=by
 refine⟨λi m σ H=>m=n-i/\i<=n/\Pv i σ H,⟨n,by simp,YG _,h0⟩,?_⟩
 rintro i m σ H ⟨rfl,hi,p⟩
 by_cases hlt:i<n
 ·refine .inr ⟨hlt,Pv (i+1),fun σ' H' p'=>⟨n-(i+1),by omega,rfl,hlt,p'⟩,λx H' y=>?_⟩
  obtain⟨e,y⟩:=y
  subst e y
  exact hs i σ _ hlt p
 ·have e:i=n:=by omega
  subst e
  exact .inl ⟨Yf _,hd σ H p⟩
noncomputable abbrev R2:=V->V->Hp->VK->Prop
noncomputable def OpR (X:Cx) (f:Value->Value->Sem Value) (r:R2):Prop :=
 ∀(pins:List (Addr×Obj)) (s:Shared) (σ:St) (H:Hp) (x y:V) (v u:Value) (Q:VK),Inv X pins σ H s->RelV x v->RelV y u->r x y H Q ->
  wpAny (model X.prog X.w) X.A (f v u) (EP X pins σ Q) X.xe s
noncomputable def UnR (X:Cx) (f:Value->Sem Value) (r:V->Hp->VK->Prop):Prop :=
 ∀(pins:List (Addr×Obj)) (s:Shared) (σ:St) (H:Hp) (x:V) (v:Value) (Q:VK),Inv X pins σ H s->RelV x v->r x H Q ->
  wpAny (model X.prog X.w) X.A (f v) (EP X pins σ Q) X.xe s
noncomputable def Zay (X:Cx) (f:Value) (r:List V->Hp->VK->Prop):Prop :=
 ∀(pins:List (Addr×Obj)) (s:Shared) (σ:St) (H:Hp) (xs:List V) (us:List Value) (Q:VK),Inv X pins σ H s->Vals xs us->r xs H Q ->
  wpAny (model X.prog X.w) X.A (call f us) (EP X pins σ Q) X.xe s
noncomputable def TruR (X:Cx) (r:V->Hp->(Bool->Hp->Prop)->Prop):Prop :=
 ∀(pins:List (Addr×Obj)) (s:Shared) (σ:St) (H:Hp) (x:V) (v:Value) (Q:Bool->Hp->Prop),Inv X pins σ H s->RelV x v->r x H Q ->
  wpAny (model X.prog X.w) X.A (truthy v) (TP X pins σ Q) X.xe s
noncomputable def tOp (r:R2) (ta tb:TE):TE:=fun σ H Q=>ta σ H λx H1=>tb σ H1 λy H2=>r x y H2 Q
noncomputable def tUn (r:V->Hp->VK->Prop) (ta:TE):TE:=fun σ H Q=>ta σ H λx H1=>r x H1 Q
noncomputable def rI (C:Int->Int->Prop) (g:Int->Int->V):R2:=λx y H Q=>∃i j,x=.int i/\y=.int j/\C i j/\Q (g i j) H
noncomputable def rI0 (g:Int->Int->V):R2:=λx y H Q=>∃i j,x=.int i/\y=.int j/\Q (g i j) H
noncomputable def rU (g:Int->V):V->Hp->VK->Prop:=λx H Q=>∃i,x=.int i/\Q (g i) H
section
variable {X:Cx}{a b c:Expr}{ta tb tc:TE}{pos:Pos}
theorem binT (ha:PE X a ta) (hb:PE X b tb) {pins:List (Addr×Obj)}{s:Shared}{σ:St}{H:Hp}{R:V->V->Hp->Prop} (I:Inv X pins σ H s)
  (h:ta σ H λx H1=>tb σ H1 λy H2=>R x y H2) {Q:Value->Shared->Prop}{f:Value->Value->Sem Value}
  (hf:∀v u s2 x y H2,Inv X pins σ H2 s2->RelV x v->RelV y u->R x y H2->wpAny (model X.prog X.w) X.A (f v u) Q X.xe s2) :
  wpAny (model X.prog X.w) X.A (eval a X.env) (λv s₁=>wpAny (model X.prog X.w) X.A (eval b X.env) (λu s₂=>wpAny (model X.prog X.w) X.A (f v u) Q X.xe s₂) X.xe s₁) X.xe s:=by
 refine thn (ha pins s σ H _ I h) λv s1 ⟨x,H1,I1,r1,q1⟩=>?_
 refine thn (hb pins s1 σ H1 _ I1 q1) λu s2 ⟨y,H2,I2,r2,q2⟩=>?_
 exact hf v u s2 x y H2 I2 r1 r2 q2
theorem Zl {op:Operator}{r:R2} (ho:OpR X (binaryOp op) r) (ha:PE X a ta) (hb:PE X b tb):PE X (.BinOp a op b pos) (tOp r ta tb):=by
 intro pins s σ H Q I h
 exact wpAny_BinOp (binT ha hb I h λv u s2 x y H2 I2 rx ry q=>ho pins s2 σ H2 x y v u Q I2 rx ry q)
theorem ZcP {op:UnaryOp}{r:V->Hp->VK->Prop} (ho:UnR X (unaryOp op) r) (ha:PE X a ta):PE X (.UnaryOp op a pos) (tUn r ta):=by
 intro pins s σ H Q I h
 exact UnaryOp_ (thn (ha pins s σ H _ I h) λv s1 ⟨x,H1,I1,r1,q1⟩=>ho pins s1 σ H1 x v Q I1 r1 q1)
theorem opI {f:Value->Value->Sem Value}{C:Int->Int->Prop}{g:Int->Int->Int}
  (rule:∀(i j:Int) (t u:Tok) (s:Shared) (Q:Value->Shared->Prop) (E:Value->Shared->Prop),C i j->Q (.int (g i j) s.toks) {s with toks:=s.toks+1}->wpAny (model X.prog X.w) X.A (f (.int i t) (.int j u)) Q E s) :
  OpR X f (rI C λi j=>.int (g i j)):=by
 intro pins s σ H x y v u Q I rx ry h
 obtain⟨i,j,rfl,rfl,hc,q⟩:=h
 obtain⟨t,rfl⟩:=rx
 obtain⟨t',rfl⟩:=ry
 exact rule i j t t' s _ _ hc ⟨.int (g i j),H,I.tok _,⟨_,rfl⟩,q⟩
theorem opI0 {f:Value->Value->Sem Value}{g:Int->Int->Int}
  (rule:∀(i j:Int) (t u:Tok) (s:Shared) (Q:Value->Shared->Prop) (E:Value->Shared->Prop),Q (.int (g i j) s.toks) {s with toks:=s.toks+1}->wpAny (model X.prog X.w) X.A (f (.int i t) (.int j u)) Q E s) :
  OpR X f (rI0 λi j=>.int (g i j)):=by
 intro pins s σ H x y v u Q I rx ry h
 obtain⟨i,j,rfl,rfl,q⟩:=h
 obtain⟨t,rfl⟩:=rx
 obtain⟨t',rfl⟩:=ry
 exact rule i j t t' s _ _ ⟨.int (g i j),H,I.tok _,⟨_,rfl⟩,q⟩
theorem opB0 {f:Value->Value->Sem Value}{g:Int->Int->Bool}
  (rule:∀(i j:Int) (t u:Tok) (s:Shared) (Q:Value->Shared->Prop) (E:Value->Shared->Prop),Q (.bool (g i j)) s->wpAny (model X.prog X.w) X.A (f (.int i t) (.int j u)) Q E s) :
  OpR X f (rI0 λi j=>.bl (g i j)):=by
 intro pins s σ H x y v u Q I rx ry h
 obtain⟨i,j,rfl,rfl,q⟩:=h
 obtain⟨t,rfl⟩:=rx
 obtain⟨t',rfl⟩:=ry
 exact rule i j t t' s _ _ ⟨.bl (g i j),H,I,rfl,q⟩
noncomputable def CDiv (i j:Int):Prop:=0<j/\j<1073741824
noncomputable def Zfg (i j:Int):Prop:=0<=j/\j<=1000000/\i.natAbs<2 ^ 64
theorem ZaP:OpR X (binaryOp .Add) (rI0 λi j=>.int (i+j)):=opI0 λ_ _ _ _ _ _ _ q=>add_int q
theorem Zbh:OpR X (binaryOp .Sub) (rI0 λi j=>.int (i-j)):=opI0 λ_ _ _ _ _ _ _ q=>sub_int q
theorem ZhK:OpR X (binaryOp .FloorDiv) (rI CDiv λi j=>.int (i / j)):=opI λi j _ _ _ _ _ hc q=>by
 have h1:(0:Int)<j:=hc.1
 have h2:j<1073741824:=hc.2
 exact floordiv_int (by omega) (by rw[Int.fdiv_eq_ediv_of_nonneg i (by omega)];exact q) (.inl (PyProof.noPylong_small (by omega)))
theorem ZcW:OpR X (binaryOp .Mod) (rI (λ_ j=>0<j) λi j=>.int (i % j)):=opI λi j _ _ _ _ _ hc q=>by
 have h1:(0:Int)<j:=hc
 exact mod_int' (by omega) (by rw[Int.fmod_eq_emod_of_nonneg i (by omega)];exact q)
theorem ZbC:OpR X (binaryOp .Pow) (rI Zfg λi j=>.int (i ^ j.toNat)):=opI λ_ _ _ _ _ _ _ hc q=>pow_int_small hc.1 hc.2.1 hc.2.2 q
theorem unI {f:Value->Sem Value}{g:Int->Int}
  (rule:∀(i:Int) (t:Tok) (s:Shared) (Q:Value->Shared->Prop) (E:Value->Shared->Prop),Q (.int (g i) s.toks) {s with toks:=s.toks+1}->wpAny (model X.prog X.w) X.A (f (.int i t)) Q E s) :
  UnR X f (rU λi=>.int (g i)):=by
 intro pins s σ H x v Q I rx h
 obtain⟨i,rfl,q⟩:=h
 obtain⟨t,rfl⟩:=rx
 exact rule i t s _ _ ⟨.int (g i),H,I.tok _,⟨_,rfl⟩,q⟩
theorem Zbi:UnR X (unaryOp .USub) (rU λi=>.int (-i)):=unI λ_ _ _ _ _ q=>neg_int q
end
noncomputable def Zf3:V->V->Bool
 |.non,.non=>true|.non,.int _=>true|.int _,.non=>true|.non,.bl _=>true|.bl _,.non=>true|.non,.str _=>true|.str _,.non=>true
 |.int _,.int _=>true|.bl _,.bl _=>true|.str _,.str _=>true|.byt _,.byt _=>true
 |.int _,.str _=>true|.str _,.int _=>true|.bl _,.str _=>true|.str _,.bl _=>true
 |_,_=>false
noncomputable def rEq:R2:=λx y H Q=>Zf3 x y=true/\Q (.bl (decide (x=y))) H
noncomputable def rNe:R2:=λx y H Q=>Zf3 x y=true/\Q (.bl (!decide (x=y))) H
theorem ZhL {i j:Int}:decide (V.int i=V.int j)=(i==j):=by
 rw[Bool.eq_iff_iff]
 simp
theorem Zjh {i j:Bool}:decide (V.bl i=V.bl j)=(i==j):=by
 rw[Bool.eq_iff_iff]
 simp
theorem ZhM {i j:Str}:decide (V.str i=V.str j)=(i==j):=by
 rw[Bool.eq_iff_iff]
 simp
theorem ZhN {i j:Array UInt8}:decide (V.byt i=V.byt j)=(i.toList==j.toList):=by
 rw[Bool.eq_iff_iff]
 cases i
 cases j
 simp
section
variable {X:Cx}{a b c:Expr}{ta tb tc:TE}{pos:Pos}
theorem Zx {pins:List (Addr×Obj)}{σ:St}{H:Hp}{s:Shared}{Q:VK}{k k':Bool} (I:Inv X pins σ H s) (q:Q (.bl k) H) (e:k=k'):EP X pins σ Q (.bool k') s:=by
 subst e
 exact⟨.bl k,H,I,rfl,q⟩
theorem ZG:OpR X (compareOp .Eq) rEq:=by
 intro pins s σ H x y v u Q I rx ry h
 obtain⟨hs,q⟩:=h
 cases x with
 |non =>
  cases rx
  cases y with
  |non=>cases ry;exact PySem.EqNone.eq_none_none (Zx I q (by simp))
  |bl j=>cases ry;exact PySem.EqNone.eq_none_bool (Zx I q (by simp))
  |int j=>obtain⟨t',rfl⟩:=ry;exact PySem.EqNone.eq_none_int (Zx I q (by simp))
  |str j=>obtain⟨t',rfl⟩:=ry;exact PySem.EqNone.eq_none_str (Zx I q (by simp))
  |_=>exact absurd (show false=true from hs) Yn
 |bl i =>
  cases rx
  cases y with
  |non=>cases ry;exact PySem.EqNone.eq_bool_none (Zx I q (by simp))
  |bl j=>cases ry;exact eq_bool (Zx I q Zjh)
  |str j=>obtain⟨t',rfl⟩:=ry;exact PySem.EqMixed.eq_bool_str (Zx I q (by simp))
  |_=>exact absurd (show false=true from hs) Yn
 |int i =>
  obtain⟨t,rfl⟩:=rx
  cases y with
  |non=>cases ry;exact PySem.EqNone.eq_int_none (Zx I q (by simp))
  |int j=>obtain⟨t',rfl⟩:=ry;exact eq_int (Zx I q ZhL)
  |str j=>obtain⟨t',rfl⟩:=ry;exact PySem.EqMixed.eq_int_str (Zx I q (by simp))
  |_=>exact absurd (show false=true from hs) Yn
 |str i =>
  obtain⟨t,rfl⟩:=rx
  cases y with
  |non=>cases ry;exact PySem.EqNone.eq_str_none (Zx I q (by simp))
  |bl j=>cases ry;exact PySem.EqMixed.eq_str_bool (Zx I q (by simp))
  |int j=>obtain⟨t',rfl⟩:=ry;exact PySem.EqMixed.eq_str_int (Zx I q (by simp))
  |str j=>obtain⟨t',rfl⟩:=ry;exact eq_str (Zx I q ZhM)
  |_=>exact absurd (show false=true from hs) Yn
 |byt i =>
  obtain⟨t,rfl⟩:=rx
  cases y with
  |byt j=>obtain⟨t',rfl⟩:=ry;exact PySem.W.eq_bytes (Zx I q ZhN)
  |_=>exact absurd (show false=true from hs) Yn
 |_=>cases y<;>exact absurd (show false=true from hs) Yn
theorem ZeJ:OpR X (compareOp .NotEq) rNe:=by
 intro pins s σ H x y v u Q I rx ry h
 obtain⟨hs,q⟩:=h
 cases x with
 |non =>
  cases rx
  cases y with
  |non=>cases ry;exact PySem.EqNone.ne_none_none (Zx I q (by simp))
  |bl j=>cases ry;exact PySem.EqNone.ne_none_bool (Zx I q (by simp))
  |int j=>obtain⟨t',rfl⟩:=ry;exact PySem.EqNone.ne_none_int (Zx I q (by simp))
  |str j=>obtain⟨t',rfl⟩:=ry;exact PySem.EqNone.ne_none_str (Zx I q (by simp))
  |_=>exact absurd (show false=true from hs) Yn
 |bl i =>
  cases rx
  cases y with
  |non=>cases ry;exact PySem.EqNone.ne_bool_none (Zx I q (by simp))
  |bl j=>cases ry;exact ne_bool (Zx I q (congrArg not Zjh))
  |str j=>obtain⟨t',rfl⟩:=ry;exact PySem.EqMixed.ne_bool_str (Zx I q (by simp))
  |_=>exact absurd (show false=true from hs) Yn
 |int i =>
  obtain⟨t,rfl⟩:=rx
  cases y with
  |non=>cases ry;exact PySem.EqNone.ne_int_none (Zx I q (by simp))
  |int j=>obtain⟨t',rfl⟩:=ry;exact ne_int (Zx I q (congrArg not ZhL))
  |str j=>obtain⟨t',rfl⟩:=ry;exact PySem.EqMixed.ne_int_str (Zx I q (by simp))
  |_=>exact absurd (show false=true from hs) Yn
 |str i =>
  obtain⟨t,rfl⟩:=rx
  cases y with
  |non=>cases ry;exact PySem.EqNone.ne_str_none (Zx I q (by simp))
  |bl j=>cases ry;exact PySem.EqMixed.ne_str_bool (Zx I q (by simp))
  |int j=>obtain⟨t',rfl⟩:=ry;exact PySem.EqMixed.ne_str_int (Zx I q (by simp))
  |str j=>obtain⟨t',rfl⟩:=ry;exact ne_str (Zx I q (congrArg not ZhM))
  |_=>exact absurd (show false=true from hs) Yn
 |byt i =>
  obtain⟨t,rfl⟩:=rx
  cases y with
  |byt j=>obtain⟨t',rfl⟩:=ry;exact PySem.W.ne_bytes (Zx I q (congrArg not ZhN))
  |_=>exact absurd (show false=true from hs) Yn
 |_=>cases y<;>exact absurd (show false=true from hs) Yn
theorem ZhO:OpR X (compareOp .Lt) (rI0 λi j=>.bl (decide (i<j))):=opB0 λ_ _ _ _ _ _ _ q=>lt_int q
theorem Zji:OpR X (compareOp .Gt) (rI0 λi j=>.bl (decide (j<i))):=opB0 λ_ _ _ _ _ _ _ q=>gt_int q
theorem op_ge:OpR X (compareOp .GtE) (rI0 λi j=>.bl (decide (j<=i))):=opB0 λ_ _ _ _ _ _ _ q=>ge_int q
theorem op_isN:OpR X (compareOp .Is) (λx y H Q=>y=.non/\Q (.bl (decide (x=.non))) H):=by
 intro pins s σ H x y v u Q I rx ry h
 obtain⟨rfl,q⟩:=h
 cases ry
 refine is_none_gen (Zx I q ?_)
 cases x<;>first
  |(cases rx;rfl)
  |(obtain⟨t,rfl⟩:=rx;rfl)
theorem Zk (b:Expr) {op:CmpOp} (h:op≠.In:=by decide) (h2:op≠.NotIn:=by decide):behindInMarks op b=false:=by
 have e1:(op==CmpOp.In)=false:=by cases op<;>first|rfl|exact absurd rfl h
 have e2:(op==CmpOp.NotIn)=false:=by cases op<;>first|rfl|exact absurd rfl h2
 cases b<;>simp[behindInMarks,e1,e2]
theorem ZaV {op:CmpOp}{r:R2} (ho:OpR X (compareOp op) r) (ha:PE X a ta) (hb:PE X b tb) (hm:behindInMarks op b=false):PE X (.Compare a [op] [b] pos) (tOp r ta tb):=by
 intro pins s σ H Q I h
 exact wpAny_Compare1 (binT ha hb I h λv u s2 x y H2 I2 rx ry q=>ho pins s2 σ H2 x y v u Q I2 rx ry q) hm
noncomputable def tTest (t:TE):TT:=fun σ H Q=>t σ H λx H'=>∃k,x=.bl k/\Q k H'
theorem Zi {op:CmpOp}{r:R2} (ho:OpR X (compareOp op) r) (ha:PE X a ta) (hb:PE X b tb) (hm:behindInMarks op b=false):PT X (.Compare a [op] [b] pos) (tTest (tOp r ta tb)):=by
 intro pins s σ H Q I h
 refine wpAny_isTrue_Compare1 (thn (ha pins s σ H _ I h) λv s1 ⟨x,H1,I1,r1,q1⟩=>thn (hb pins s1 σ H1 _ I1 q1) λu s2 ⟨y,H2,I2,r2,q2⟩ =>
  thn (ho pins s2 σ H2 x y v u _ I2 r1 r2 q2) λc s3 ⟨z,H3,I3,r3,k,e,q3⟩=>?_) hm
 subst e
 cases r3
 exact wpAny_truthy_bool ⟨H3,I3,q3⟩
noncomputable def TruV (K:PySem.W.Frag) (x:V) (H:Hp) (k:Bool):Prop :=
 match x with
 |.non=>k=false
 |.bl b=>k=b
 |.int i=>k=(i != 0)
 |.str y=>y.length<=sizeLine/\k=((y.length:Int) != 0)
 |.byt y=>y.size<=sizeLine/\k=((y.size:Int) != 0)
 |.ref p=>(∃xs,SqL K H p xs/\k=!xs.isEmpty)\/(∃xs,SqT K H p xs/\k=!xs.isEmpty)\/∃kvs,H p=some (.dK kvs)/\k=!kvs.isEmpty
 |_=>False
theorem Zhj {κ:Type}{kvs:List (κ×V)}{vs:List (κ×Value)} (r:KV kvs vs):(!vs.isEmpty)=!kvs.isEmpty:=by
 cases r<;>rfl
theorem ZeK {xs:List V}{its:List Value} (r:Vals xs its):(!its.toArray.isEmpty)=!xs.isEmpty:=by
 cases r<;>simp
theorem ZdP:(sizeLine:Nat)<2 ^ 63:=by rw[sizeLine_eq];decide
theorem tru_ok:TruR X (λx H Q=>∃k,TruV X.K x H k/\Q k H):=by
 intro pins s σ H x v Q I rx h
 obtain⟨k,e,q⟩:=h
 have hl:=ZdP
 have hs:sizeLine=16777216:=sizeLine_eq
 cases x with
 |non =>
  cases rx
  have e':k=false:=e
  subst e'
  exact truthy_none ⟨H,I,q⟩
 |bl b =>
  cases rx
  have e':k=b:=e
  subst e'
  exact wpAny_truthy_bool ⟨H,I,q⟩
 |int i =>
  obtain⟨t,rfl⟩:=rx
  have e':k=(i != 0):=e
  subst e'
  exact PySem.P.truthy_int ⟨H,I,q⟩
 |str y =>
  obtain⟨t,rfl⟩:=rx
  obtain⟨hy,e'⟩:y.length<=sizeLine/\k=((y.length:Int) != 0):=e
  subst e'
  exact PySem.P.truthy_str (by omega) ⟨H,I.tok _,q⟩
 |byt y =>
  obtain⟨t,rfl⟩:=rx
  obtain⟨hy,e'⟩:y.size<=sizeLine/\k=((y.size:Int) != 0):=e
  subst e'
  exact PySem.W.truthy_bytes (by omega) ⟨H,I.tok _,q⟩
 |ref p =>
  cases rx
  have e':(∃xs,SqL X.K H p xs/\k=!xs.isEmpty)\/(∃xs,SqT X.K H p xs/\k=!xs.isEmpty)\/∃kvs,H p=some (.dK kvs)/\k=!kvs.isEmpty:=e
  rcases e' with⟨xs,hx,e'⟩|⟨xs,hx,e'⟩|⟨kvs,hx,e'⟩
  ·subst e'
   obtain⟨its,r,pl,hz⟩:=I.list hx
   have hlen:=r.length
   exact wpAny_truthy_list pl.isList (by simp only[Yi];omega) ⟨H,I.tok _,by rw[ZeK r];exact q⟩
  ·subst e'
   obtain⟨its,r,pl,hz⟩:=I.tuple hx
   have hlen:=r.length
   exact truthy_tuple pl (by simp only[Yi];omega) ⟨H,I.tok _,by rw[ZeK r];exact q⟩
  ·subst e'
   obtain⟨hz,hS,vs,r,m⟩:kvs.length<=sizeLine/\(p==sysModules)=false/\∃vs,KV kvs vs/\s.heap.DictOf (ZfT X.prog X.w) p vs:=I.hok p _ hx
   have hlen:kvs.length=vs.length:=Paired.length r
   exact wpAny_truthy_dict hS m (by omega) ⟨H,I.tok _,by rw[Zhj r];exact q⟩
 |_=>exact(show False from e).elim
theorem Zjj (ha:PE X a ta) (he:∀whole,isTrue a X.env whole=(do let v <-whole;standAt a.pos;holding [v] (truthy v))) :
  PT X a (fun σ H Q=>ta σ H λx H'=>∃k,TruV X.K x H' k/\Q k H'):=by
 intro pins s σ H Q I h
 exact isTrue_plain (thn (ha pins s σ H _ I h) λv s1 ⟨x,H1,I1,r1,q1⟩=>tru_ok pins s1 σ H1 x v Q I1 r1 q1) (he _)
theorem ZbD:OpR X (binaryOp .Add) (λx y H Q=>∃i j,x=.str i/\y=.str j/\i.length+j.length<=sizeLine/\Q (.str (i++j)) H):=by
 intro pins s σ H x y v u Q I rx ry h
 obtain⟨i,j,rfl,rfl,hz,q⟩:=h
 obtain⟨t,rfl⟩:=rx
 obtain⟨t',rfl⟩:=ry
 exact add_str (λt' tk=>⟨.str (i++j),H,I.tok _,⟨_,rfl⟩,q⟩) hz
theorem vals1 {x:V}{us:List Value} (r:Vals [x] us):∃u,us=[u]/\RelV x u:=by
 cases r with
 |cons r1 r2=>cases r2;exact⟨_,rfl,r1⟩
theorem vals2 {x y:V}{us:List Value} (r:Vals [x,y] us):∃u w',us=[u,w']/\RelV x u/\RelV y w':=by
 cases r with
 |cons r1 r2 =>
  cases r2 with
  |cons r3 r4=>cases r4;exact⟨_,_,rfl,r1,r3⟩
theorem Zfz (hc:X.calm=true):Zay X (.builtin "max") (λxs H Q=>∃i j,xs=[.int i,.int j]/\Q (.int (if j>i then j else i)) H):=by
 intro pins s σ H xs us Q I r h
 obtain⟨i,j,rfl,q⟩:=h
 obtain⟨u,w',rfl,⟨t,rfl⟩,⟨t',rfl⟩⟩:=vals2 r
 refine max_two_ints (I.ok.hd hc) λh' tk k=>⟨_,H,I.kept k,?_,q⟩
 by_cases hj:j>i
 ·rw[Ye hj,Ye hj];exact⟨_,rfl⟩
 ·rw[Yb hj,Yb hj];exact⟨_,rfl⟩
theorem Zin (hc:X.calm=true):Zay X (.builtin "min") (λxs H Q=>∃i j,xs=[.int i,.int j]/\Q (.int (if j<i then j else i)) H):=by
 intro pins s σ H xs us Q I r h
 obtain⟨i,j,rfl,q⟩:=h
 obtain⟨u,w',rfl,⟨t,rfl⟩,⟨t',rfl⟩⟩:=vals2 r
 refine min_two_ints (I.ok.hd hc) λh' tk k=>⟨_,H,I.kept k,?_,q⟩
 by_cases hj:j<i
 ·rw[Ye hj,Ye hj];exact⟨_,rfl⟩
 ·rw[Yb hj,Yb hj];exact⟨_,rfl⟩
theorem Zio:Zay X (.type "int") (λxs H Q=>(∃i,xs=[.int i]/\Q (.int i) H)\/∃k,xs=[.bl k]/\Q (.int (if k then 1 else 0)) H):=by
 intro pins s σ H xs us Q I r h
 rcases h with⟨i,rfl,q⟩|⟨k,rfl,q⟩
 ·obtain⟨u,rfl,t,rfl⟩:=vals1 r
  exact call_int_int ⟨.int i,H,I,⟨_,rfl⟩,q⟩
 ·obtain⟨u,rfl,r1⟩:=vals1 r
  cases r1
  exact call_int_bool ⟨.int (if k then 1 else 0),H,I.tok _,⟨_,rfl⟩,q⟩
theorem Zf4:Zay X (.type "str") (λxs H Q=>∃i,xs=[.int i]/\i.natAbs.log2<1920/\Q (.str (toString i)) H):=by
 intro pins s σ H xs us Q I r h
 obtain⟨i,rfl,hz,q⟩:=h
 obtain⟨u,rfl,t,rfl⟩:=vals1 r
 exact PySem.P.str_of_int hz ⟨.str _,H,I.tok _,⟨_,rfl⟩,q⟩
end
structure ObjM (h:Heap) (x dx C:Addr) (mA:Str->Option Value):Prop where
 obj:h.get? x=some (PySem.W.instObj C dx)
 ns:h.Ns1 dx mA
 ne:dx≠x
theorem Ziq {h:Heap}{dx:Addr}{mA:Str->Option Value} (n:h.Ns1 dx mA):∃od,h.get? dx=some od/\∀name,PySem.W.lookIn name od=some (mA name):=by
 obtain⟨o,es,ep,ho,hd,hk,_,hm⟩:=n
 refine⟨o,ho,λname=>?_⟩
 have e:=hm name
 unfold nsFind findBy at e
 rw[<-Array.find?_toList]at e
 unfold PySem.W.lookIn
 rw[hd]
 dsimp only
 split
 ·rename_i y q
  rw[q]at e
  exact congrArg some e
 ·rename_i q
  rw[q]at e
  have a:es.toList.any (·.refKey)=false:=by
   rw[List.any_eq_false]
   intro y hy
   obtain⟨z,t,hkey⟩:=hk y (Array.mem_toList_iff.mp hy)
   simp[DictEntry.refKey,hkey]
  have a':¬ es.toList.any (·.refKey)=true:=by rw[a];exact Yn
  rw[Yb a']
  exact congrArg some e
theorem ObjM.look {h:Heap}{x dx C:Addr}{mA:Str->Option Value} (I:ObjM h x dx C mA):∃od,PySem.W.InstAt h x (PySem.W.instObj C dx) C (some od)/\∀name,PySem.W.lookIn name od=some (mA name) :=
 let ⟨od,ho,hl⟩:=Ziq I.ns
 ⟨od,⟨I.obj,rfl,rfl,ho⟩,hl⟩
section
variable {prog:Program}{w:World}{A:Around}{E:Value->Shared->Prop}{s:Shared}{K:PySem.W.Frag}{x dx C f:Addr}{mA:Str->Option Value}{name:Str}{v:Value}
theorem get_map {expr:Bool}{Q:Value->Shared->Prop} (X:K.In s.heap) (I:ObjM s.heap x dx C mA) (hg:PySem.W.plainGet K C name=true) (hh:PySem.W.hasDictIn K C=true)
  (ha:PySem.W.findIn K (.ref C) name=some none) (hv:mA name=some v) (hv':PySem.W.handedIn v=true) (h:Q v {s with toks:=s.toks+1}) :
  wpAny (model prog w) A (getAttr (.ref x) name expr) Q E s:=by
 obtain⟨od,J,hl⟩:=I.look
 exact PySem.W.get_value X J (PySem.W.plainGet_of hg).1 (PySem.W.findObj_own hh ha rfl (by rw[hl,hv])) hv' h
theorem Zjk {pl:Sem Bool}{Q:Value×List Value->Shared->Prop} (X:K.In s.heap) (I:ObjM s.heap x dx C mA) (hg:PySem.W.plainGet K C name=true)
  (hf:PySem.W.findIn K (.ref C) name=some (some (.ref f))) (ht:PySem.W.isFn K (.ref f)=true) (hv:mA name=none) (h:Q (.ref f,[.ref x]) s) :
  wpAny (model prog w) A (getMethod (.ref x) name pl) Q E s:=by
 obtain⟨od,J,hl⟩:=I.look
 exact PySem.W.method_fn X J (PySem.W.plainGet_of hg).1 (PySem.W.plainGet_of hg).2 hf (beq_iff_eq.mp ht) (by show(PySem.W.lookIn name od).map (·.isSome)=some false;rw[hl,hv];rfl) h
theorem ZkR {ns:List Str}{Q:Unit->Shared->Prop} (X:K.In s.heap) (I:ObjM s.heap x dx C mA)
  (hs:PySem.W.findIn K (.ref C) "__setattr__"=some (some (.builtin "object.__setattr__"))) (hp:PySem.W.plainOver K C=true) (ht:PySem.W.takerIn K C name=some none) (hh:PySem.W.hasDictIn K C=true)
  (hw:PySem.Within mA ns) (hsz:ns.length<=sizeLine)
  (h:∀h',ObjM h' x dx C (λy=>if y=name then some v else mA y)->Heap.SameBut dx s.heap h'->Q () {s with heap:=h',toks:=s.toks+2}) :
  wpAny (model prog w) A (setAttr (.ref x) name v) Q E s:=by
 obtain⟨od,J,hl⟩:=I.look
 refine PySem.W.set_plain X J hs (PySem.W.osa_open (s:={s with toks:=s.toks+1}) (r:=none) X J hp ht λb=>?_)
 obtain⟨cd,hc,hd'⟩:=PySem.W.any_some hh
 have hx:s.heap.get? x=some ⟨.ref C,some dx,.plain,#[]⟩:=I.obj
 refine Ya (Yc (Ya (Ya (wpAny_loadPart hx (Ya (PySem.W.Looks.here (s:={s with toks:=s.toks+1}) (PySem.W.looks_clsIn X hc) ?_))))))
 rw[hd']
 refine Yc (a:=some dx) (Ya (Yc (Ya ?_)))
 refine wpAny_nsSet1 (s:={s with toks:=s.toks+1}) I.ns λh' hn2 hs2=>?_
 obtain⟨oD,esD,epD,hoD,hdD,hcD⟩:=hn2.count (PySem.Within.cons name v hw)
 refine Ya (wpAny_lookBehind hoD (by rw[hdD];exact pastItsLine_dict (Yd hcD (by rw[Yr];omega))) ?_)
 exact Yc (h _ ⟨(hs2.2 _ (Ne.symm I.ne)).trans I.obj,hn2,I.ne⟩ hs2)
theorem Zjl {R:Result->Shared->Prop}{vs:List Value}{kw:List (Str×Value)} (X:K.In s.heap) (hm:PySem.W.makesIn K C=true)
  (hi:PySem.W.findIn K (.ref C) "__init__"=some (some (.ref f))) (hf:PySem.W.typeIn K (.ref f)=some (.type "function"))
  (h:codeAny (model prog w) (A.under (.builtin "type.__call__" ⟨.ref C::vs,kw⟩)) (.call (.ref f) ⟨.ref (s.heap.objs.size+1)::vs,kw⟩) (PySem.W.InitBack (s.heap.objs.size+1) R)
   {s with heap:=(s.heap.push PySem.W.emptyDict).push (PySem.W.instObj C s.heap.objs.size)}) :
  codeAny (model prog w) A (.call (.ref C) ⟨vs,kw⟩) R s:=by
 obtain⟨hh,g,d,t,os⟩:=s
 exact PySem.W.make_core (PySem.W.makes_of X hm) (PySem.W.looks_findIn X hi) (λself=>PySem.W.bind_fn X self hf) (.inl rfl) h
end
noncomputable def ZcN (f:Str) (v:V):List (Str×V)->List (Str×V)
 |[]=>[(f,v)]
 |(g,x)::r=>if g=f then (g,v)::r else (g,x)::ZcN f v r
theorem Zd9 (f g:Str) (v:V):∀fs:List (Str×V),(ZcN f v fs).lookup g=if g=f then some v else fs.lookup g
 |[]=>by
  show List.lookup g [(f,v)]=_
  by_cases h:g=f
  ·have hb:(g==f)=true:=beq_iff_eq.mpr h
   simp only[List.lookup,hb,Ye h]
  ·have hb:(g==f)=false:=beq_eq_false_iff_ne.mpr h
   simp only[List.lookup,hb,Yb h]
 |(k,x)::r=>by
  have ih:=Zd9 f g v r
  rw[show ZcN f v ((k,x)::r)=(if k=f then (k,v)::r else (k,x)::ZcN f v r)from rfl]
  by_cases hk:k=f
  ·rw[Ye hk]
   by_cases h:g=k
   ·have hb:(g==k)=true:=beq_iff_eq.mpr h
    simp only[List.lookup,hb,Ye (h.trans hk)]
   ·have hb:(g==k)=false:=beq_eq_false_iff_ne.mpr h
    simp only[List.lookup,hb,Yb (λe:g=f=>h (e.trans hk.symm))]
  ·rw[Yb hk]
   by_cases h:g=k
   ·have hb:(g==k)=true:=beq_iff_eq.mpr h
    simp only[List.lookup,hb,Yb (λe:g=f=>hk (h.symm.trans e))]
   ·have hb:(g==k)=false:=beq_eq_false_iff_ne.mpr h
    simp only[List.lookup,hb]
    exact ih
theorem ZdQ (f:Str) (v:V):∀fs:List (Str×V),f∈(ZcN f v fs).map (·.1)/\∀g,g∈fs.map (·.1)->g∈(ZcN f v fs).map (·.1)
 |[]=>⟨by simp[ZcN],λg h=>by simp at h⟩
 |(k,x)::r=>by
  obtain⟨i1,i2⟩:=ZdQ f v r
  rw[show ZcN f v ((k,x)::r)=(if k=f then (k,v)::r else (k,x)::ZcN f v r)from rfl]
  by_cases hk:k=f
  ·rw[Ye hk]
   subst hk
   exact⟨by simp,λg h=>by simpa using h⟩
  ·rw[Yb hk]
   refine⟨?_,λg h=>?_⟩
   ·rw[YA]
    exact YE _ i1
   ·rw[YA]at h⊢
    rcases Yj.mp h with e|e
    ·exact Yj.mpr (.inl e)
    ·exact YE _ (i2 g e)
theorem Zea (f:Str) (v:V):∀fs:List (Str×V),(ZcN f v fs).length<=fs.length+1
 |[]=>by simp[ZcN]
 |(k,x)::r=>by
  have ih:=Zea f v r
  rw[show ZcN f v ((k,x)::r)=(if k=f then (k,v)::r else (k,x)::ZcN f v r)from rfl]
  by_cases hk:k=f
  ·rw[Ye hk,Yr,Yr];omega
  ·rw[Yb hk,Yr,Yr];omega
theorem Zfe.some_of {v:V}{o:Option Value} (r:Zfe (some v) o):∃u,o=some u/\RelV v u:=by
 cases o with
 |none=>exact(show False from r).elim
 |some u=>exact⟨u,rfl,r⟩
theorem Zfe.none_of {o:Option Value} (r:Zfe none o):o=none:=by
 cases o with
 |none=>rfl
 |some u=>exact(show False from r).elim
theorem Zir {v:V}{u:Value} (r:RelV v u):PySem.W.handedIn u=true:=by
 cases v with
 |non=>cases(show u=Value.none from r);rfl
 |bl b=>cases(show u=Value.bool b from r);rfl
 |int i=>obtain⟨t,e⟩:=(show ∃t,u=Value.int i t from r);cases e;rfl
 |str x=>obtain⟨t,e⟩:=(show ∃t,u=Value.str x t from r);cases e;rfl
 |byt b=>obtain⟨t,e⟩:=(show ∃t,u=Value.bytes b t from r);cases e;rfl
 |flt b=>obtain⟨t,e⟩:=(show ∃t,u=Value.float b t from r);cases e;rfl
 |ref a=>cases(show u=Value.ref a from r);rfl
 |ty n=>cases(show u=Value.type n from r);rfl
section
variable {P:Program}{w:World}{H H':Hp}{h h':Heap}{a C dx:Addr}{fs fs':List (Str×V)}
theorem Zdo (hok:HOk P w H h) (e:H a=some (.ins C dx fs)):∃mA,ObjM h a dx C mA/\(∀f,Zfe (fs.lookup f) (mA f))/\PySem.Within mA (fs.map (·.1))/\fs.length<=1000/\H dx=some (.own a):=by
 obtain⟨d,z,ne,ob,mA,n,r,q⟩:=(show ZZ P w H h a (.ins C dx fs)from hok a _ e)
 exact⟨mA,⟨ob,n,ne⟩,r,q,z,d⟩
end
structure Cls (K:PySem.W.Frag) (C:Addr):Prop where
 pg:PySem.W.plainGet K C Str.empty=true
 hd:PySem.W.hasDictIn K C=true
 po:PySem.W.plainOver K C=true
 sa:PySem.W.findIn K (.ref C) "__setattr__"=some (some (.builtin "object.__setattr__"))
theorem Cls.get {K:PySem.W.Frag}{C:Addr} (c:Cls K C) (f:Str):PySem.W.plainGet K C f=true:=c.pg
noncomputable def NoAttr (K:PySem.W.Frag) (C:Addr) (f:Str):Prop:=PySem.W.findIn K (.ref C) f=some none
theorem NoAttr.taker {K:PySem.W.Frag}{C:Addr}{f:Str} (n:NoAttr K C f):PySem.W.takerIn K C f=some none:=by
 unfold PySem.W.takerIn
 rw[show PySem.W.findIn K (.ref C) f=some none from n]
 rfl
structure Meth (K:PySem.W.Frag) (C:Addr) (m:Str) (f:Addr):Prop where
 at_:PySem.W.findIn K (.ref C) m=some (some (.ref f))
 fn:PySem.W.isFn K (.ref f)=true
 kp:PySem.W.keepIn K (.ref f)=true
section
variable {X:Cx}{pins:List (Addr×Obj)}{σ:St}{H:Hp}{s:Shared}{a C dx:Addr}{fs:List (Str×V)}{f:Str}{v:V}{A:Around}{E:Value->Shared->Prop}
theorem Zhk {b:Bool}{Q:Value->Shared->Prop} (I:Inv X pins σ H s) (e:H a=some (.ins C dx fs)) (c:Cls X.K C) (n:NoAttr X.K C f) (l:fs.lookup f=some v)
  (h:∀u s',Inv X pins σ H s'->RelV v u->Q u s'):wpAny (model X.prog X.w) A (getAttr (.ref a) f b) Q E s:=by
 obtain⟨mA,O,r,_,_,_⟩:=Zdo I.hok e
 obtain⟨u,hu,ru⟩:=Zfe.some_of (v:=v) (o:=mA f) (by rw[<-l];exact r f)
 exact get_map I.kIn O (c.get f) c.hd n hu (Zir ru) (h u _ (I.tok _) ru)
theorem ZcX {m:Str}{g:Addr}{pl:Sem Bool}{Q:Value×List Value->Shared->Prop} (I:Inv X pins σ H s) (e:H a=some (.ins C dx fs)) (c:Cls X.K C) (k:Meth X.K C m g) (l:fs.lookup m=none)
  (h:Q (.ref g,[.ref a]) s):wpAny (model X.prog X.w) A (getMethod (.ref a) m pl) Q E s:=by
 obtain⟨mA,O,r,_,_,_⟩:=Zdo I.hok e
 have hn:mA m=none:=Zfe.none_of (by rw[<-l];exact r m)
 exact Zjk I.kIn O (c.get m) k.at_ k.fn hn h
theorem Zhl {y:V}{u:Value}{Q:Unit->Shared->Prop} (I:Inv X pins σ H s) (e:H a=some (.ins C dx fs)) (c:Cls X.K C) (n:NoAttr X.K C f) (hl:fs.length<1000) (ry:RelV y u)
  (h:∀s',Inv X pins σ (upd H a (.ins C dx (ZcN f y fs))) s'->Q () s'):wpAny (model X.prog X.w) A (setAttr (.ref a) f u) Q E s:=by
 obtain⟨mA,O,r,wi,_,ho⟩:=Zdo I.hok e
 have hz:(fs.map (·.1)).length<=sizeLine:=by rw[Yp,sizeLine_eq];omega
 refine ZkR I.kIn O c.sa c.po n.taker c.hd wi hz λh' O' sb=>h _ ?_
 have hd:∃o,h'.get? dx=some o:=let ⟨o,_,_,e',_⟩:=O'.ns;⟨o,e'⟩
 refine I.write (x:=a) (e:=dx) (by rw[e];exact True.intro) (.inr ho) (λb q hb z=>(sb.2 b hb).trans z) hd ?_
 refine⟨by rw[Zj O.ne];exact ho,?_,O.ne,O'.obj,_,O'.ns,λg=>?_,λg hg=>?_⟩
 ·have:=Zea f y fs;omega
 ·show Zfe ((ZcN f y fs).lookup g) (if g=f then some u else mA g)
  rw[Zd9]
  by_cases q:g=f
  ·rw[Ye q,Ye q];exact ry
  ·rw[Yb q,Yb q];exact r g
 ·by_cases q:g=f
  ·rw[q];exact(ZdQ f y fs).1
  ·refine(ZdQ f y fs).2 g (wi g λz=>hg ?_)
   show(if g=f then some u else mA g)=none
   rw[Yb q];exact z
theorem Inv.made (I:Inv X pins σ H s):Inv X pins σ (upd (upd H s.heap.objs.size (.own (s.heap.objs.size+1))) (s.heap.objs.size+1) (.ins C s.heap.objs.size []))
  {s with heap:=(s.heap.push PySem.W.emptyDict).push (PySem.W.instObj C s.heap.objs.size)}:=by
 have e1:(s.heap.push PySem.W.emptyDict).get? s.heap.objs.size=some PySem.W.emptyDict:=Yu s.heap rfl
 have e2:((s.heap.push PySem.W.emptyDict).push (PySem.W.instObj C s.heap.objs.size)).get? (s.heap.objs.size+1)=some (PySem.W.instObj C s.heap.objs.size):=by
  have:=Yu (s.heap.push PySem.W.emptyDict) (o:=PySem.W.instObj C s.heap.objs.size) rfl
  rwa [Heap.size_push]at this
 have e3:(s.heap.push PySem.W.emptyDict).Ns s.heap.objs.size (λ_=>none):=⟨PySem.W.emptyDict,#[],_,e1,rfl,(λe he=>absurd he (by simp)),λ_=>rfl⟩
 have I1:=I.laid (a:=s.heap.objs.size) (o:=.own (s.heap.objs.size+1)) (h':=s.heap.push PySem.W.emptyDict) (t':=s.toks) (λb u q=>Yl _ q) (Yf _) ⟨_,e1⟩
 refine I1.laid (a:=s.heap.objs.size+1) (o:=.ins C s.heap.objs.size []) (t':=s.toks) (λb u q=>Yl _ q) (Nat.le_of_eq (Heap.size_push _ _)) ?_
 have ne:s.heap.objs.size≠s.heap.objs.size+1:=Ym (Nat.lt_succ_self _)
 refine⟨by rw[Zj ne,Zd],YG _,ne,e2,λ_=>none,(Heap.Ns1.of_empty e3).at λo q=>Yl _ q,λ_=>True.intro,λy hy=>absurd rfl hy⟩
theorem ZkS {prog:Program}{w:World}{env:Env}{e:Expr}{f:Str}{pos:Pos}{s:Shared}{Q:Value->Shared->Prop} (hb:attributeBase e f env (eval e env)=eval e env)
  (h:wpAny (model prog w) A (eval e env) (λo s₁=>wpAny (model prog w) A (getAttr o f true) Q E s₁) E s):wpAny (model prog w) A (eval (.Attribute e f pos) env) Q E s :=
 Attribute_any_ h (by rw[arm_eval_Attribute,hb])
end
section
variable {X:Cx}{pins:List (Addr×Obj)}{σ:St}{H:Hp}{s:Shared}{A:Around}{E:Value->Shared->Prop}{Q:Value->Shared->Prop}{c:Value}{b:Bool}
inductive TyOf (K:PySem.W.Frag) (H:Hp):V->Value->Prop where
 |non:TyOf K H .non (.type "NoneType")
 |bl (x:Bool):TyOf K H (.bl x) (.type "bool")
 |int (i:Int):TyOf K H (.int i) (.type "int")
 |str (x:Str):TyOf K H (.str x) (.type "str")
 |flt (x:UInt64):TyOf K H (.flt x) (.type "float")
 |lst {a:Addr}{xs:List V} (e:H a=some (.lst xs)):TyOf K H (.ref a) (.type "list")
 |frz {a:Addr}{o:Obj}{xs:List V} (e:H a=some (.frz o (.lst xs))):TyOf K H (.ref a) (.type "list")
 |tup {a:Addr}{xs:List V} (e:H a=some (.tup xs)):TyOf K H (.ref a) (.type "tuple")
 |dK {a:Addr}{kvs:List (Key×V)} (e:H a=some (.dK kvs)):TyOf K H (.ref a) (.type "dict")
 |dT {a:Addr}{kvs:List (List Key×V)} (e:H a=some (.dT kvs)):TyOf K H (.ref a) (.type "dict")
 |ins {a C dx:Addr}{fs:List (Str×V)} (e:H a=some (.ins C dx fs)) (cl:Cls K C) (ha:PySem.W.findIn K (.ref C) "__class__"=some (some (.builtin "object.__class__")))
   (hn:PySem.W.specialIn K (.builtin "object.__class__") "__get__"=some (some (.builtin "getset_descriptor.__get__"))) (htk:PySem.W.takesIn K (.builtin "object.__class__")=some true)
   (hm:PySem.W.mroIn K C (.type "object")=some true):TyOf K H (.ref a) (.ref C)
theorem Zis {x:V}{u t:Value} (I:Inv X pins σ H s) (rx:RelV x u) (ty:TyOf X.K H x t) (e:PySem.W.kitOne X.K t c=some b) (h:∀tk,Q (.bool b) {s with toks:=tk}) :
  wpAny (model X.prog X.w) A (call (.builtin "isinstance") [u,c]) Q E s:=by
 cases ty with
 |non=>cases(show u=Value.none from rx);exact PySem.W.kia_one PySem.W.kitx_none I.kIn True.intro e (λz=>nomatch z) h
 |bl y=>cases(show u=Value.bool y from rx);exact PySem.W.kia_one PySem.W.kitx_bool I.kIn True.intro e (λz=>nomatch z) h
 |int i=>obtain⟨t,q⟩:=(show ∃t,u=Value.int i t from rx);cases q;exact PySem.W.kia_one PySem.W.kitx_int I.kIn True.intro e (λz=>nomatch z) h
 |str y=>obtain⟨t,q⟩:=(show ∃t,u=Value.str y t from rx);cases q;exact PySem.W.kia_one PySem.W.kitx_str I.kIn True.intro e (λz=>nomatch z) h
 |flt y=>obtain⟨t,q⟩:=(show ∃t,u=Value.float y t from rx);cases q;exact PySem.W.kia_one PySem.W.kitx_float I.kIn True.intro e (λz=>nomatch z) h
 |@lst a xs ea =>
  cases(show u=Value.ref a from rx)
  obtain⟨_,_,n,_,h1⟩:=(show ZZ X.prog X.w H s.heap a (.lst xs)from I.hok a _ ea)
  exact PySem.W.kia_one PySem.W.kitx_list I.kIn ⟨_,h1,rfl⟩ e (λz=>nomatch z) h
 |@frz a ob xs ea =>
  cases(show u=Value.ref a from rx)
  obtain⟨_,_,_,n,_,h1⟩:=(show ZZ X.prog X.w H s.heap a (.frz ob (.lst xs))from I.hok a _ ea)
  exact PySem.W.kia_one PySem.W.kitx_list I.kIn ⟨_,h1,rfl⟩ e (λz=>nomatch z) h
 |@tup a xs ea =>
  cases(show u=Value.ref a from rx)
  obtain⟨_,_,_,p⟩:=(show ZZ X.prog X.w H s.heap a (.tup xs)from I.hok a _ ea)
  obtain⟨o,h1,h2,_⟩:=p
  exact PySem.W.kia_one PySem.W.kitx_tuple I.kIn ⟨o,h1,h2⟩ e (λz=>nomatch z) h
 |@dK a kvs ea =>
  cases(show u=Value.ref a from rx)
  obtain⟨_,_,vs,_,p⟩:=(show ZZ X.prog X.w H s.heap a (.dK kvs)from I.hok a _ ea)
  obtain⟨o,es,ep,h1,h2,_⟩:=p
  exact PySem.W.kia_one PySem.W.kitx_dict I.kIn ⟨o,h1,h2.1⟩ e (λz=>nomatch z) h
 |@dT a kvs ea =>
  cases(show u=Value.ref a from rx)
  obtain⟨_,_,xs,_,o,es,ep,h1,h2,_⟩:=(show ZZ X.prog X.w H s.heap a (.dT kvs)from I.hok a _ ea)
  exact PySem.W.kia_one PySem.W.kitx_dict I.kIn ⟨o,h1,h2.1⟩ e (λz=>nomatch z) h
 |@ins a C dx fs ea cl ha hn htk hm =>
  cases(show u=Value.ref a from rx)
  obtain⟨mA,O,_⟩:=Zdo I.hok ea
  obtain⟨od,J,_⟩:=O.look
  exact PySem.W.kia_one (PySem.W.kitx_own (cl.get _) cl.hd ha hn htk hm) I.kIn J e (λz=>nomatch z) h
end
structure Room (k:Nat) (A:Around):Prop where
 hd:A.handled=none
 dp:A.depth+3*k+5<recursionLimit
 un:A.units+16*k+200<cLine
theorem Room.mono {j k:Nat}{A:Around} (r:Room k A) (h:j<=k):Room j A:=⟨r.hd,by have:=r.dp;omega,by have:=r.un;omega⟩
theorem Room.deeper {k:Nat}{A:Around} (r:Room (k+1) A) (env:Env):Room k (A.deeper env) :=
 ⟨r.hd,by have:=r.dp;show A.depth+1+3*k+5 < _;omega,by have:=r.un;show A.units+3+16*k+200 < _;omega⟩
theorem Zhm {A:Around}{C:Addr}{us:List Value}{kw:List (Str×Value)}:(A.under (.builtin "type.__call__" ⟨.ref C::us,kw⟩)).depth=A.depth+1:=by
 first|rfl|simp[Around.under,Code.weight,Code.isCreation,Code.isGuard,Code.isCaller,Code.frames,Code.isFrame,guardIds]
theorem Zhn {A:Around}{C:Addr}{us:List Value}{kw:List (Str×Value)}:(A.under (.builtin "type.__call__" ⟨.ref C::us,kw⟩)).units=A.units+1:=by
 first|rfl|simp[Around.under,Code.cUnits,Code.frames,Code.isFrame]
theorem Room.make {k:Nat}{A:Around} (r:Room (k+1) A) (C:Addr) (us:List Value) (kw:List (Str×Value)):Room k (A.under (.builtin "type.__call__" ⟨.ref C::us,kw⟩)) :=
 ⟨r.hd,by have:=r.dp;rw[Zhm];omega,by have:=r.un;rw[Zhn];omega⟩
theorem Room.depth {k:Nat}{A:Around} (r:Room k A):A.depth<recursionLimit:=by have:=r.dp;omega
noncomputable def tNil:TA:=λ_ H Q=>Q [] H
noncomputable def tCons (ta:TE) (tr:TA):TA:=fun σ H Q=>ta σ H λx H1=>tr σ H1 λxs H2=>Q (x::xs) H2
section
variable {X:Cx}{e:Expr}{es:List Expr}{te:TE}{t:TA}{pos:Pos}
theorem Zb:PA X [] tNil:=λ_ _ _ _ H Q I h=>Calls.spliced_nil ⟨[],H,I,.nil,h⟩
theorem Za (ha:PE X e te) (hr:PA X es t) (hs:starEach (e::es) X.env=(false,eval e X.env)::starEach es X.env:=by rfl):PA X (e::es) (tCons te t):=by
 intro pos pins s σ H Q I h
 rw[hs]
 show wpAny _ _ (spliced ((false,eval e X.env)::backTo pos (starEach es X.env))) _ _ s
 refine Calls.spliced_cons (thn (ha pins s σ H _ I h) λu s1 ⟨x,H1,I1,r1,q1⟩=>?_)
 exact thn (hr pos pins s1 σ H1 _ I1 q1) λus s2 ⟨xs,H2,I2,r2,q2⟩=>⟨x::xs,H2,I2,.cons r1 r2,q2⟩
noncomputable def tTup (t:TA):TE:=fun σ H Q=>t σ H λxs H1=>xs.length<=sizeLine/\∀p,H1 p=none->Q (.ref p) (upd H1 p (.tup xs))
noncomputable def tLst (t:TA):TE:=fun σ H Q=>t σ H λxs H1=>xs.length<=sizeLine/\∀p,H1 p=none->Q (.ref p) (upd H1 p (.lst xs))
theorem Zal {x1} (h:PA X es t):PE X (.Tuple es x1 pos) (tTup t):=by
 intro pins s σ H Q I hq
 refine wpAny_Tuple_spliced (thn (h pos pins s σ H _ I hq) λus s1 ⟨xs,H1,I1,r,z,q⟩=>⟨by rw[<-r.length];exact z,?_⟩)
 have hf:H1 s1.heap.objs.size=none:=I1.hok.fresh (Yf _)
 refine⟨.ref s1.heap.objs.size,upd H1 s1.heap.objs.size (.tup xs),I1.laid (t':=s1.toks) (λb u e=>Yl _ e) (Yf _) ?_,rfl,q _ hf⟩
 exact⟨z,us,r,⟨_,Yu _ rfl,rfl,_,rfl⟩⟩
theorem Z0 (h:PA X es t):PE X (.List es pos) (tLst t):=by
 intro pins s σ H Q I hq
 refine wpAny_List_spliced (thn (h pos pins s σ H _ I hq) λus s1 ⟨xs,H1,I1,r,z,q⟩=>⟨by rw[<-r.length];exact z,?_⟩)
 have hf:H1 s1.heap.objs.size=none:=I1.hok.fresh (Yf _)
 refine⟨.ref s1.heap.objs.size,upd H1 s1.heap.objs.size (.lst xs),I1.laid (t':=s1.toks) (λb u e=>Yl _ e) (Yf _) ?_,rfl,q _ hf⟩
 exact⟨z,us,0,r,Yu _ rfl⟩
end
noncomputable abbrev Sp:=List V->Hp->VK->XK->Prop
noncomputable abbrev CXT:=List Env->Hp->Shared->XK->Value->Shared->Prop
structure Env0 (P:Program) (w:World) (K:PySem.W.Frag) (mg:Str->Option Value) (base:Heap) (A:Around) (outer:List Env) (s:Shared) (H:Hp):Prop where
 frames:A.frames=some outer
 mod:Mod K mg base
 bs:∀b o,base.get? b=some o->s.heap.get? b=some o/\H b=none
 bsz:base.objs.size<=s.heap.objs.size
 funs:s.heap.FunFrames base outer
 frf:∀b∈frs outer,H b=none
 hok:HOk P w H s.heap
 bare:AllBare s.gens
noncomputable def CE (outer:List Env) (P:Program) (w:World) (H:Hp) (s:Shared) (Q:VK) (u:Value) (s':Shared):Prop :=
 ∃v H',s'.os=s.os/\AllBare s'.gens/\Un (frs outer) [] H H' s.heap s'.heap/\HOk P w H' s'.heap/\RelV v u/\Q v H'
noncomputable def CR (CX:CXT) (outer:List Env) (P:Program) (w:World) (H:Hp) (s:Shared) (Q:VK) (E:XK) (r:Result) (s':Shared):Prop :=
 match r with
 |.ok (.ret u)=>CE outer P w H s Q u s'
 |.ok _=>False
 |.error e=>CX outer H s E e s'
structure FnOk (P:Program) (w:World) (K:PySem.W.Frag) (mg:Str->Option Value) (base:Heap) (CX:CXT) (k:Nat) (f:Addr) (fd:FuncData) (ps:List Str) (sp:Sp):Prop where
 len:∀vs H Q E,sp vs H Q E->vs.length=ps.length
 run:∀(A:Around) (outer:List Env) (s:Shared) (H:Hp) (args:Args) (us:List Value) (vs:List V) (Q:VK) (E:XK),Room k A->Env0 P w K mg base A outer s H->BindsTo s fd args (ps.zip us)->Vals vs us->sp vs H Q E ->
  codeAny (model P w) A (.call (.ref f) args) (CR CX outer P w H s Q E) s
theorem Env0.make {P:Program}{w:World}{K:PySem.W.Frag}{mg:Str->Option Value}{base:Heap}{A:Around}{outer:List Env}{s:Shared}{H:Hp} (e:Env0 P w K mg base A outer s H) (C:Addr) (us:List Value) (kw:List (Str×Value)) :
  Env0 P w K mg base (A.under (.builtin "type.__call__" ⟨.ref C::us,kw⟩)) outer s H:=⟨by first|exact e.frames|(simpa[Around.under,Code.envs,Code.isFrame,pushEnvs]using e.frames),e.mod,e.bs,e.bsz,e.funs,e.frf,e.hok,e.bare⟩
section
variable {X:Cx}{pins:List (Addr×Obj)}{σ:St}{H:Hp}{s s':Shared}
theorem Inv.env0 (I:Inv X pins σ H s):Env0 X.prog X.w X.K X.mg X.base X.A X.stack s H :=
 ⟨I.ok.frames,I.ok.mod,I.bs,Yd I.ok.bsz I.sz,I.stack,I.ZfW,I.hok,I.bare⟩
theorem Inv.after {Q:VK}{u:Value} (I:Inv X pins σ H s) (h:CE X.stack X.prog X.w H s Q u s'):EP X pins σ Q u s':=by
 obtain⟨v,H',os,bare,un,hok,r,q⟩:=h
 obtain⟨hh,g,d,t,os'⟩:=s'
 obtain rfl:os'=s.os:=os
 exact⟨v,H',I.call (h':=hh) (g':=g) (d':=d) (t':=t) (ch:=[]) un hok bare (λb z=>absurd z (by simp)),r,q⟩
end
noncomputable def tCall (sp:Sp) (dvs:List V) (E:XK) (t:TA):TE:=fun σ H Q=>t σ H λvs H1=>sp (vs++dvs) H1 Q E
noncomputable def tMeth (C:Addr) (m:Str) (sp:Sp) (dvs:List V) (E:XK) (ta:TE) (t:TA):TE:=fun σ H Q=>ta σ H λx H1=>∃a dx fs,x=.ref a/\H1 a=some (.ins C dx fs)/\fs.lookup m=none /\
 t σ H1 λvs H2=>sp (x::(vs++dvs)) H2 Q E
noncomputable def tMake (C:Addr) (sp:Sp) (dvs:List V) (E:XK) (t:TA):TE:=fun σ H Q=>t σ H λvs H1=>∀x dx,H1 x=none->H1 dx=none->dx≠x ->
 sp (.ref x::(vs++dvs)) (upd (upd H1 dx (.own x)) x (.ins C dx [])) (λv H2=>v=.non/\Q (.ref x) H2) E
noncomputable def Binds (K:PySem.W.Frag) (fd:FuncData) (ps:List Str) (ds:List Value):Prop :=
 ∀(s:Shared) (us:List Value),K.In s.heap->(us++ds).length=ps.length->BindsTo s fd ⟨us,[]⟩ (ps.zip (us++ds))
theorem Binds.all {K:PySem.W.Frag}{fd:FuncData}{ps:List Str} (h:∀us:List Value,us.length=ps.length->bindArgs fd ⟨us,[]⟩=pure (ps.zip us)):Binds K fd ps []:=λs us _ hl=>by
 rw[List.append_nil]at hl⊢
 exact .of_eq (h us hl)
noncomputable def Passes (CX:CXT) (X:Cx) (E:XK):Prop:=∀(pins:List (Addr×Obj)) (σ:St) (H:Hp) (s:Shared) (e:Value) (s':Shared),Inv X pins σ H s->CX X.stack H s E e s'->X.xe e s'
section
variable {X:Cx}{CX:CXT}{k:Nat}{f C:Addr}{fd:FuncData}{ps:List Str}{sp:Sp}{dvs:List V}{ds:List Value}{E:XK}{x m:Str}{p pos apos:Pos}{e o:Expr}{es:List Expr}{ta:TE}{t:TA}
theorem Zf5 {pins:List (Addr×Obj)}{σ:St}{H:Hp}{s:Shared}{Q:VK}{us:List Value}{vs:List V} (F:FnOk X.prog X.w X.K X.mg X.base CX k f fd ps sp) (hr:Room k X.A) (hb:Binds X.K fd ps ds) (hd:Vals dvs ds) (hx:Passes CX X E)
  (I:Inv X pins σ H s) (r:Vals vs us) (h:sp (vs++dvs) H Q E):wpAny (model X.prog X.w) X.A (call (.ref f) us) (EP X pins σ Q) X.xe s:=by
 have r2:Vals (vs++dvs) (us++ds):=r.append hd
 have hl:(us++ds).length=ps.length:=by rw[<-r2.length];exact F.len _ _ _ _ h
 refine wpAny_call (codeAny_mono (F.run X.A X.stack s H ⟨us,[]⟩ (us++ds) (vs++dvs) Q E hr I.env0 (hb s us I.kIn hl) r2 h) λr s' hq=>?_)
 cases r with
 |error e=>exact hx pins σ H s e s' I hq
 |ok fl =>
  cases fl with
  |ret u=>exact I.after hq
  |next=>exact False.elim hq
  |brk=>exact False.elim hq
  |cont=>exact False.elim hq
theorem ZhP (F:FnOk X.prog X.w X.K X.mg X.base CX k f fd ps sp) (hr:Room k X.A) (hg:Gl X x) (hm:X.mg x=some (.ref f)) (hk:PySem.W.keepIn X.K (.ref f)=true) (hb:Binds X.K fd ps ds) (hd:Vals dvs ds) (hx:Passes CX X E)
  (ha:PA X (e::es) t) (hdb:(x==("__debug__":Str))=false:=by decide) (he:starEach (e::es) X.env=(false,eval e X.env)::starEach es X.env:=by rfl) (hpl:(backTo pos (starEach es X.env)).any (·.1)=false:=by rfl) :
  PE X (.Call (.Name x p) (e::es) [] pos) (tCall sp dvs E t):=by
 intro pins s σ H Q I h
 refine wpAny_Call_Name_kw (Zdm I hg hm ?_ hdb)
 refine PySem.W.callWith_K (h₀:=X.base) I.ok.mod.kin hk (thn (ha pos pins s σ H _ I h) λus s1 ⟨vs,H1,I1,r,q⟩=>⟨I1.kIn,?_⟩) he hpl
 exact Zf5 F hr hb hd hx I1 r q
theorem ZkT {pl:Sem Bool} (he:PE X o ta) (c:Cls X.K C) (hm:Meth X.K C m f) (F:FnOk X.prog X.w X.K X.mg X.base CX k f fd ps sp) (hr:Room k X.A) (hb:Binds X.K fd ps ds) (hd:Vals dvs ds) (hx:Passes CX X E) (ha:PA X (e::es) t)
  (hst:starEach (e::es) X.env=(false,eval e X.env)::starEach es X.env:=by rfl) (hpl:(backTo pos (starEach es X.env)).any (·.1)=false:=by rfl)
  (ht:eval (.Call (.Attribute o m apos) (e::es) [] pos) X.env=(do
   let ov <-eval o X.env
   standAt apos.atName
   let (f,first) <-holding [ov] (getMethod ov m pl)
   callWith pos f first (backTo pos (starEach (e::es) X.env)) (backToKw pos (keywordEach [] X.env))):=by rfl) :
  PE X (.Call (.Attribute o m apos) (e::es) [] pos) (tMeth C m sp dvs E ta t):=by
 intro pins s σ H Q I h
 refine PySem.W.methodCall_KW (pl:=pl) (thn (he pins s σ H _ I h) λu s1 ⟨x,H1,I1,rx,a,dx,fs,ex,ea,l,q⟩=>?_) ht
 subst ex
 obtain rfl:u=Value.ref a:=rx
 refine ZcX I1 ea c hm l ?_
 refine PySem.W.callWith_K (first:=[.ref a]) (h₀:=X.base) I.ok.mod.kin hm.kp (thn (ha pos pins s1 σ H1 _ I1 q) λus s2 ⟨vs,H2,I2,r,q2⟩=>⟨I2.kIn,?_⟩) hst hpl
 exact Zf5 (us:=.ref a::us) (vs:=.ref a::vs) F hr hb hd hx I2 (.cons rfl r) q2
theorem Zjm {pl:Sem Bool} (he:PE X o ta) (c:Cls X.K C) (hm:Meth X.K C m f) (F:FnOk X.prog X.w X.K X.mg X.base CX k f fd ps sp) (hr:Room k X.A) (hb:Binds X.K fd ps ds) (hd:Vals dvs ds) (hx:Passes CX X E)
  (ht:eval (.Call (.Attribute o m apos) [] [] pos) X.env=(do
   let ov <-eval o X.env
   standAt apos.atName
   let (f,first) <-holding [ov] (getMethod ov m pl)
   callWith pos f first (backTo pos (starEach [] X.env)) (backToKw pos (keywordEach [] X.env))):=by rfl) :
  PE X (.Call (.Attribute o m apos) [] [] pos) (tMeth C m sp dvs E ta tNil):=by
 intro pins s σ H Q I h
 refine PySem.W.methodCall_KW (pl:=pl) (thn (he pins s σ H _ I h) λu s1 ⟨x,H1,I1,rx,a,dx,fs,ex,ea,l,q⟩=>?_) ht
 subst ex
 obtain rfl:u=Value.ref a:=rx
 refine ZcX I1 ea c hm l ?_
 exact PySem.W.callWith_K0 (first:=[.ref a]) I1.kIn hm.kp (Zf5 (us:=[.ref a]) (vs:=[.ref a]) F hr hb hd hx I1 (.cons rfl .nil) q)
structure Mk (K:PySem.W.Frag) (C f:Addr):Prop where
 makes:PySem.W.makesIn K C=true
 init:PySem.W.findIn K (.ref C) "__init__"=some (some (.ref f))
 fn:PySem.W.isFn K (.ref f)=true
 kp:PySem.W.keepIn K (.ref C)=true
theorem Zjn {pins:List (Addr×Obj)}{σ:St}{H:Hp}{s:Shared}{Q:VK}{us:List Value}{vs:List V} (M:Mk X.K C f) (F:FnOk X.prog X.w X.K X.mg X.base CX k f fd ps sp) (hr:Room (k+1) X.A) (hb:Binds X.K fd ps ds) (hd:Vals dvs ds)
  (hx:Passes CX X E) (I:Inv X pins σ H s) (r:Vals vs us)
  (h:∀x dx,H x=none->H dx=none->dx≠x->sp (.ref x::(vs++dvs)) (upd (upd H dx (.own x)) x (.ins C dx [])) (λv H2=>v=.non/\Q (.ref x) H2) E) :
  wpAny (model X.prog X.w) X.A (call (.ref C) us) (EP X pins σ Q) X.xe s:=by
 have hq:=h (s.heap.objs.size+1) s.heap.objs.size (I.hok.fresh (Nat.le_succ _)) (I.hok.fresh (Yf _)) (Ym (Nat.lt_succ_self _))
 have I2:=Inv.made (C:=C) I
 have r2:Vals (V.ref (s.heap.objs.size+1)::(vs++dvs)) (Value.ref (s.heap.objs.size+1)::(us++ds)):=.cons rfl (r.append hd)
 have hl:(Value.ref (s.heap.objs.size+1)::us++ds).length=ps.length:=by
  have e:=r2.length
  rw[F.len _ _ _ _ hq]at e
  exact e.symm
 refine wpAny_call (Zjl (f:=f) I.kIn M.makes M.init (beq_iff_eq.mp M.fn) (codeAny_mono (F.run _ X.stack _ _ ⟨Value.ref (s.heap.objs.size+1)::us,[]⟩ (Value.ref (s.heap.objs.size+1)::(us++ds)) _ _ E (hr.make C us [])
  (I2.env0.make C us []) (hb _ (Value.ref (s.heap.objs.size+1)::us) I2.kIn hl) r2 hq) λr s' hq'=>?_))
 cases r with
 |error e=>exact hx pins σ _ _ e s' I2 hq'
 |ok fl =>
  cases fl with
  |ret u =>
   obtain⟨v,H',I3,rv,ev,q3⟩:=I2.after hq'
   subst ev
   exact⟨rv,⟨V.ref (s.heap.objs.size+1),H',I3,rfl,q3⟩⟩
  |next=>exact False.elim hq'
  |brk=>exact False.elim hq'
  |cont=>exact False.elim hq'
theorem Zjo (M:Mk X.K C f) (F:FnOk X.prog X.w X.K X.mg X.base CX k f fd ps sp) (hr:Room (k+1) X.A) (hg:Gl X x) (hm:X.mg x=some (.ref C)) (hb:Binds X.K fd ps ds) (hd:Vals dvs ds) (hx:Passes CX X E)
  (hdb:(x==("__debug__":Str))=false:=by decide):PE X (.Call (.Name x p) [] [] pos) (tMake C sp dvs E tNil):=by
 intro pins s σ H Q I h
 refine wpAny_Call_Name_kw (Zdm I hg hm ?_ hdb)
 exact PySem.W.callWith_K0 I.kIn M.kp (Zjn (us:=[]) M F hr hb hd hx I .nil h)
end
structure FnScope (N P:List Str) (sc:Scope):Prop where
 kind:sc.kind=.function
 co:sc.isCoroutine=false
 gen:sc.isGenerator=false
 nd:N.Nodup
 pre:N.take P.length=P
 par:∀x∈P,sc.names.lookup x=some .local\/sc.names.lookup x=some .cell
 nofree:∀y∈sc.names,y.2≠.free
theorem ZfA {kindOf:Str->Option NameKind}{x:Str}:∀{binds:List (Str×Value)}{m:Str->Option Value},(∀v,(x,v)∉binds)->bindL kindOf binds m x=m x
 |[],_,_=>rfl
 |(n,v)::r,m,h=>by
  unfold bindL
  rw[ZfA λw hw=>h w (YE _ hw)]
  split
  ·have:x≠n:=by rintro rfl;exact h v YS
   simp[this]
  ·rfl
theorem ZfB {kindOf:Str->Option NameKind}{x:Str}:∀{binds:List (Str×Value)}{m:Str->Option Value},(∀v,(x,v)∉binds)->bindC kindOf binds m x=m x
 |[],_,_=>rfl
 |(n,v)::r,m,h=>by
  unfold bindC
  rw[ZfB λw hw=>h w (YE _ hw)]
  split
  ·rfl
  ·have:x≠n:=by rintro rfl;exact h v YS
   simp[this]
theorem ZfC {kindOf:Str->Option NameKind}{x:Str}{v:Value}:∀{P:List Str}{vs:List Value}{i:Nat}{m:Str->Option Value},P.Nodup->P[i]?=some x->vs[i]?=some v->kindOf x=some .local ->
  bindL kindOf (P.zip vs) m x=some v
 |[],_,_,_,_,h,_,_=>by simp at h
 |_::_,[],_,_,_,_,h,_=>by simp at h
 |p::P,w::vs,0,m,nd,h1,h2,hk=>by
  simp at h1 h2;subst h1;subst h2
  show bindL kindOf ((p,w)::P.zip vs) m p=_
  unfold bindL
  rw[ZfA λv hv=>(List.nodup_cons.mp nd).1 (List.of_mem_zip hv).1,Ye hk]
  simp
 |p::P,w::vs,i+1,m,nd,h1,h2,hk=>by
  show bindL kindOf ((p,w)::P.zip vs) m x=_
  unfold bindL
  exact ZfC (i:=i) (List.nodup_cons.mp nd).2 (by simpa using h1) (by simpa using h2) hk
theorem ZfD {kindOf:Str->Option NameKind}{x:Str}{v:Value}:∀{P:List Str}{vs:List Value}{i:Nat}{m:Str->Option Value},P.Nodup->P[i]?=some x->vs[i]?=some v->kindOf x≠some .local ->
  bindC kindOf (P.zip vs) m x=some v
 |[],_,_,_,_,h,_,_=>by simp at h
 |_::_,[],_,_,_,_,h,_=>by simp at h
 |p::P,w::vs,0,m,nd,h1,h2,hk=>by
  simp at h1 h2;subst h1;subst h2
  show bindC kindOf ((p,w)::P.zip vs) m p=_
  unfold bindC
  rw[ZfB λv hv=>(List.nodup_cons.mp nd).1 (List.of_mem_zip hv).1,Yb hk]
  simp
 |p::P,w::vs,i+1,m,nd,h1,h2,hk=>by
  show bindC kindOf ((p,w)::P.zip vs) m x=_
  unfold bindC
  exact ZfD (i:=i) (List.nodup_cons.mp nd).2 (by simpa using h1) (by simpa using h2) hk
noncomputable def start (N:List Str) (vs:List V):St:=vs.map some++List.replicate (N.length-vs.length) none
noncomputable def ZdR (CX:CXT) (P:Program) (w:World) (K:PySem.W.Frag) (mg:Str->Option Value) (base:Heap) (N:List Str) (qual:Str) (scope:Scope) (f:Addr) (cd:Value) (A:Around) (outer:List Env) (s:Shared) (H:Hp) (E:XK):Cx where
 prog:=P
 w:=w
 K:=K
 mg:=mg
 base:=base
 A:=A.deeper (envOfC qual scope s.heap.objs.size f cd)
 N:=N
 s₀:=s
 H₀:=H
 env:=envOfC qual scope s.heap.objs.size f cd
 outer:=outer
 stack:=envOfC qual scope s.heap.objs.size f cd::outer
 ex:=[]
 calm:=true
 fn:=λ_=>true
 pn:=[]
 xe:=λe s'=>wpAny (model P w) (A.deeper (envOfC qual scope s.heap.objs.size f cd)) (leaving (envOfC qual scope s.heap.objs.size f cd) e) (λ_ s''=>CX outer H s E e s'') (λe' s''=>CX outer H s E e' s'') s'
theorem ZgI {sc:Scope}{n:Nat}{x:Str} (h:sc.names.lookup x=some .cell):∃c,(cellsFrom n sc.names []).lookup x=some c:=by
 have q:=PySem.W.cellsFrom_some sc.names n [] (.inl h)
 exact Option.isSome_iff_exists.mp q
theorem Zit {CX:CXT}{P:Program}{w:World}{K:PySem.W.Frag}{mg:Str->Option Value}{base:Heap}{N ps:List Str}{qual:Str}{scope:Scope}{f:Addr}{cd:Value}{A:Around}{outer:List Env}{s s1:Shared}{H:Hp}{E:XK}{us:List Value}{vs:List V}
  (S:FnScope N ps scope) (hd:A.handled=none) (e0:Env0 P w K mg base A outer s H) (hl:vs.length=ps.length) (r:Vals vs us)
  (x:InCallC s s.heap.objs.size (bindL (envOfC qual scope s.heap.objs.size f cd).kindOf (ps.zip us) λ_=>none) (cellsFrom (s.heap.objs.size+1) scope.names []) (bindC (envOfC qual scope s.heap.objs.size f cd).kindOf (ps.zip us) λ_=>none) s1) :
  Inv (ZdR CX P w K mg base N qual scope f cd A outer s H E) [] (start N vs) H s1:=by
 have hpl:ps.length<=N.length:=by have:=congrArg List.length S.pre;rw[YJ]at this;omega
 obtain⟨h1,tk,rfl,hk⟩:=x.done
 have noA:∀b:Addr,b∉(ZdR CX P w K mg base N qual scope f cd A outer s H E).ex:=λb z=>absurd (show b∈([]:List Addr)from z) (by simp)
 refine⟨⟨e0.mod,S.kind,rfl,rfl,Yf _,λy z c h1 h2=>?_,λy hy=>?_,λy c _ h=>?_,λ_=>hd,Around.frames_deeper e0.frames,.inr ⟨rfl,rfl⟩,λb z=>absurd z (noA b),e0.bs,e0.bsz,λb _ _=>noA b,λb z=>absurd z (noA b),e0.funs,e0.frf⟩,
  rfl,e0.bare,Un.kept hk,⟨_,x.toInCall.ns,λi y v h1 h2 h3=>?_⟩,λy c h=>⟨_,x.cell y c h⟩,e0.hok.fresh (Yf _),λy c h=>?_,λp hp=>absurd (show p∈([]:List (Addr×Obj))from hp) (by simp),e0.hok.kept hk,?_⟩
 ·exact name_of_addr x.apart (PySem.mem_of_lookup h1) (PySem.mem_of_lookup h2)
 ·have hy:scope.names.lookup y=some .cell\/scope.names.lookup y=some .free:=hy
  rcases hy with hy|hy
  ·exact ZgI hy
  ·exact absurd rfl (S.nofree _ (PySem.mem_of_lookup hy))
 ·exact YM (x.above y c (PySem.mem_of_lookup h))
 ·have hi:i<vs.length:=by
   unfold start at h2
   by_cases hi:i<vs.length
   ·exact hi
   ·rw[YT (by simpa using hi)]at h2
    rw[List.getElem?_replicate]at h2
    split at h2<;>cases h2
  have ha:vs[i]?=some v:=by
   unfold start at h2
   rw[YU (by simpa using hi),Yy]at h2
   cases e:vs[i]? with
   |none=>rw[e]at h2;cases h2
   |some a=>rw[e]at h2;cases h2;rfl
  obtain⟨u,hu,rv⟩:=r.get ha
  have hp:ps[i]?=some y:=by
   rw[<-S.pre,List.getElem?_take_of_lt (by omega)];exact h1
  have ndP:ps.Nodup:=by rw[<-S.pre];exact S.nd.sublist (List.take_sublist _ _)
  refine⟨u,rv,?_⟩
  rcases S.par y (List.mem_of_getElem? hp)with k|k
  ·exact .inl ⟨k,ZfC ndP hp hu k⟩
  ·obtain⟨c,e⟩:=ZgI (n:=s.heap.objs.size+1) k
   refine .inr ⟨.inl k,c,e,?_⟩
   have q:=x.cell y c e
   rw[ZfD ndP hp hu (by show scope.names.lookup y≠_;rw[k];decide)]at q
   exact q
 ·exact e0.hok.fresh (YM (x.above y c (PySem.mem_of_lookup h)))
 ·unfold start
  show _=N.length
  rw[YB,Yp,List.length_replicate]
  omega
theorem fn_of {CX:CXT}{P:Program}{w:World}{K:PySem.W.Frag}{mg:Str->Option Value}{base:Heap}{k:Nat}{f:Addr}{name qual:Str}{params:Arguments}{body:List Stmt}{scope:Scope}{dV kV doc pm cdv ct oc:Value}{an od:Option Addr}
  {osl:Array (Option Value)}{N ps:List Str}{sp:Sp} (lk:K.lookup f=some ⟨oc,od,.func (PySem.W.fnOf name qual params body scope dV kV doc pm an cdv ct),osl⟩) (hcd:PySem.W.codeIn K cdv qual=true) (S:FnScope N ps scope)
  (len:∀vs H Q E,sp vs H Q E->vs.length=ps.length)
  (hbody:∀(A:Around) (outer:List Env) (s:Shared) (H:Hp) (vs:List V) (Q:VK) (E:XK),Room k (A.deeper (envOfC qual scope s.heap.objs.size f cdv))->sp vs H Q E ->
   ∃t,PSs (ZdR CX P w K mg base N qual scope f cdv A outer s H E) body t/\t {nx:=λ_ H'=>Q .non H',rt:=Q} (start N vs) H) :
  FnOk P w K mg base CX (k+1) f (PySem.W.fnOf name qual params body scope dV kV doc pm an cdv ct) ps sp:=by
 refine⟨len,λA outer s H args us vs Q E hr e0 hb r hsp=>?_⟩
 have hl:=len _ _ _ _ hsp
 have KX:K.In s.heap:=e0.mod.kin.keeps λb o e=>(e0.bs b o e).1
 have lim:s.heap.NoLimit:=e0.mod.nolimit.keeps λb o e=>(e0.bs b o e).1
 have hkind:∀y∈ps.zip us,scope.names.lookup y.1=some .local\/(scope.names.lookup y.1=some .cell/\((cellsFrom (s.heap.objs.size+1) scope.names []).lookup y.1).isSome=true):=λ⟨n,v⟩ hy=>by
  rcases S.par n (List.of_mem_zip hy).1 with q|q
  ·exact .inl q
  ·exact .inr ⟨q,PySem.W.cellsFrom_some _ _ _ (.inl q)⟩
 refine codeAny_call_function hr.depth (KX _ _ lk) rfl S.co S.gen rfl (PySem.W.codeRec_of KX hcd) (hb _ _ _ _ ?_)
 refine wpAny_newFunctionEnv_cells S.kind hkind λenv he s1 x=>?_
 subst he
 refine⟨lim.keeps x.toInCall.keep,codeAny_func ?_⟩
 obtain⟨t,ht,hq⟩:=hbody A outer s H vs Q E (hr.deeper _) hsp
 have I:Inv (ZdR CX P w K mg base N qual scope f cdv A outer s H E) [] (start N vs) H s1:=Zit S hr.hd e0 hl r x
 refine Yz (ht [] s1 (start N vs) H _ I hq) (λfl s' hs=>?_) λe s' hs=>hs
 have fin:∀{σ':St}{H':Hp}{v:V}{u:Value},Inv (ZdR CX P w K mg base N qual scope f cdv A outer s H E) [] σ' H' s'->RelV v u->Q v H'->CE outer P w H s Q u s' :=
  λ{σ' H' v u} J rv q=>⟨v,H',J.os,J.bare,J.base,J.hok,rv,q⟩
 cases fl with
 |ret u =>
  obtain⟨v,σ',H',J,rv,q⟩:=hs
  exact fin J rv q
 |next =>
  obtain⟨σ',H',J,q⟩:=hs
  exact fin (v:=V.non) (u:=Value.none) J rfl q
 |brk =>
  obtain⟨_,_,_,q⟩:=hs
  exact False.elim q
 |cont =>
  obtain⟨_,_,_,q⟩:=hs
  exact False.elim q
section
variable {X:Cx}{x:Str}{p pos:Pos}{e:Expr}{es:List Expr}{t:TA}{id T:String}{r:List V->Hp->VK->Prop}
noncomputable def tCB (r:List V->Hp->VK->Prop) (t:TA):TE:=fun σ H Q=>t σ H λvs H1=>r vs H1 Q
theorem Zm (hc:Zay X (.builtin id) r) (hg:Gl X x) (hm:X.mg x=none) (hv:bootBuiltins x=some (.builtin id)) (ha:PA X (e::es) t) (hn:x≠"__name__":=by decide) (hdb:(x==("__debug__":Str))=false:=by decide)
  (he:starEach (e::es) X.env=(false,eval e X.env)::starEach es X.env:=by rfl) (hpl:(backTo pos (starEach es X.env)).any (·.1)=false:=by rfl):PE X (.Call (.Name x p) (e::es) [] pos) (tCB r t):=by
 intro pins s σ H Q I h
 refine wpAny_Call_Name_kw (ZfX I hg hm hv ?_ hn hdb)
 exact PyProof.Rows.callWith_builtin1 (thn (ha pos pins s σ H _ I h) λus s1 ⟨vs,H1,I1,r1,q1⟩=>hc pins s1 σ H1 vs us Q I1 r1 q1) he hpl
theorem ZU (hc:Zay X (.type T) r) (hg:Gl X x) (hm:X.mg x=none) (hv:bootBuiltins x=some (.type T)) (ha:PA X (e::es) t) (hn:x≠"__name__":=by decide) (hdb:(x==("__debug__":Str))=false:=by decide)
  (he:starEach (e::es) X.env=(false,eval e X.env)::starEach es X.env:=by rfl) (hpl:(backTo pos (starEach es X.env)).any (·.1)=false:=by rfl):PE X (.Call (.Name x p) (e::es) [] pos) (tCB r t):=by
 intro pins s σ H Q I h
 refine wpAny_Call_Name_kw (ZfX I hg hm hv ?_ hn hdb)
 exact PyProof.Rows.callWith_type1 (thn (ha pos pins s σ H _ I h) λus s1 ⟨vs,H1,I1,r1,q1⟩=>hc pins s1 σ H1 vs us Q I1 r1 q1) he hpl
end
end L2
namespace HT
open PySem PyProof.Rows
section
open PySem.SeqAt
open PySem.AutoSeq1 (wpAny_loadPart')
open PySem.MeetsSeq PySem.MeetsSeq2 PySem.MeetsSeq3
end
section
variable {prog:Program}{w:World}{A:Around}{E:Value->Shared->Prop}{s:Shared}
theorem ZkU {t b:Addr}{vs ws:List Value}{Q:Value->Shared->Prop} (ht:IsTup s.heap t vs.toArray) (hb:IsTup s.heap b ws.toArray) (hv:vs≠[])
  (h1:ws=[]->Q (.ref t) s) (h2:ws≠[]->Q (.ref s.heap.objs.size) {s with heap:=s.heap.push {cls:=.type "tuple",data:=.seq (vs++ws).toArray}})
  (hsz:vs.length+ws.length<=sizeLine):wpAny (model prog w) A (binaryOp .Add (.ref t) (.ref b)) Q E s:=by
 obtain⟨⟨cls,dd,data,sl⟩,ho,hc,n,hd⟩:=id ht
 obtain⟨⟨cls2,dd2,data2,sl2⟩,ho2,hc2,n2,hd2⟩:=id hb
 simp only at hc hd hc2 hd2
 subst hc hd hc2 hd2
 have e:vs.toArray++ws.toArray=(vs++ws).toArray:=by simp
 by_cases hw:ws=[]
 ·exact concat_meets ⟨_,ho,rfl⟩ ⟨_,ho2,rfl⟩ noFill_tuple_add seq_tuple_add PySem.F.slot_tuple_add PySem.F.entry_tuple_add (PySem.F.args_tuple_add_2 _ _)
   (tuple_addW1 t b vs.toArray ws.toArray n n2 dd dd2 sl sl2 (by simpa using hv) (by simp[hw])) ⟨ho,ho2,h1 hw⟩
 ·refine concat_meets ⟨_,ho,rfl⟩ ⟨_,ho2,rfl⟩ noFill_tuple_add seq_tuple_add PySem.F.slot_tuple_add PySem.F.entry_tuple_add (PySem.F.args_tuple_add_2 _ _)
   (tuple_addW2 t b vs.toArray ws.toArray n n2 dd dd2 sl sl2 (by simpa using hv) (by simpa using hw) (by rw[Yi,Yi];exact hsz)) ⟨ho,ho2,?_⟩
  rw[e]
  exact h2 hw
noncomputable def sIx (n d:Nat):Option Int->Nat
 |none=>d
 |some v=>if v<0 then (v+(n:Int)).toNat else min v.toNat n
theorem sIx_le (n d:Nat) (hd:d<=n) (o:Option Int):sIx n d o<=n:=by
 cases o with
 |none=>exact hd
 |some v =>
  show(if v<0 then (v+(n:Int)).toNat else min v.toNat n)<=n
  by_cases hv:v<0
  ·rw[Ye hv];omega
  ·rw[Yb hv];exact Nat.min_le_right _ _
theorem ZhQ (v:Int) (n d:Nat):(if v<0 then max (v+(n:Int)) 0 else min v (n:Int))=((sIx n d (some v):Nat):Int):=by
 show(if v<0 then max (v+(n:Int)) 0 else min v (n:Int))=(((if v<0 then (v+(n:Int)).toNat else min v.toNat n):Nat):Int)
 by_cases hv:v<0
 ·simp only[Ye hv];omega
 ·simp only[Yb hv];omega
theorem Zho (lo hi:Option Int) (n:Nat):Builtin.Slice.sliceAdjust lo hi 1 (n:Int)=(((sIx n 0 lo:Nat):Int),((sIx n n hi:Nat):Int)):=by
 have h1:¬ ((1:Int)<0):=by omega
 unfold Builtin.Slice.sliceAdjust
 simp only[h1,if_false]
 refine Prod.ext ?_ ?_
 ·cases lo with
  |none=>rfl
  |some v=>exact ZhQ v n 0
 ·cases hi with
  |none=>rfl
  |some v=>exact ZhQ v n n
theorem Zhp (i j:Nat):Builtin.Slice.slicePlaces (i:Int) (j:Int) 1=j-i:=by
 unfold Builtin.Slice.slicePlaces
 have h1:(1:Int)>0:=by omega
 simp only[h1,if_true,Int.ediv_one]
 split<;>omega
theorem ZeL {v:Value}{o:Option Int}{Q:Option Int->Shared->Prop} (p:IsPart v o) (h:Q o s):wpAny (model prog w) A (Builtin.Slice.slicePartIndex v) Q E s:=by
 cases p with
 |none=>exact slicePart_none h
 |int i t=>exact slicePart_int h
theorem Zbu {sl:Addr}{vl vu:Value}{lo hi:Option Int}{n:Nat}{Q:Int×Int×Nat->Shared->Prop} (hs:s.heap.IsSliceOf sl vl vu .none) (pl:IsPart vl lo) (pu:IsPart vu hi)
  (h:Q (((sIx n 0 lo:Nat):Int),1,sIx n n hi-sIx n 0 lo) s):wpAny (model prog w) A (Builtin.Slice.sliceApplied (.ref sl) (pure (n:Int))) Q E s:=by
 obtain⟨os,hos,hcs,hds⟩:=id hs
 unfold Builtin.Slice.sliceApplied Builtin.Slice.sliceFields
 refine Ya (Ya (wpAny_field hos hds (x:=vl) rfl (Ya (wpAny_field hos hds (x:=vu) rfl (Ya (wpAny_field hos hds (x:=.none) rfl (Yc ?_)))))))
 refine Ya (slicePart_none ?_)
 show wpAny _ _ (if ((1:Int)==0)=true then _ else _) _ _ s
 rw[Yb (by decide)]
 refine Ya (ZeL pl (Ya (ZeL pu (Ya (Yc ?_)))))
 show wpAny _ _ (match Builtin.Slice.sliceAdjust lo hi 1 (n:Int)with|(lo,hi)=>pure (lo,(1:Int),Builtin.Slice.slicePlaces lo hi 1)) _ _ s
 rw[Zho lo hi n]
 show wpAny _ _ (pure (((sIx n 0 lo:Nat):Int),(1:Int),Builtin.Slice.slicePlaces ((sIx n 0 lo:Nat):Int) ((sIx n n hi:Nat):Int) 1)) _ _ s
 rw[Zhp]
 exact Yc h
theorem Zjp (xs:Array Value) (i k:Nat):((List.range k).filterMap λ(m:Nat)=>xs[((i:Int)+(m:Int)*1).toNat]?).toArray=((xs.toList.drop i).take k).toArray:=by
 have e:(λ(m:Nat)=>xs[((i:Int)+(m:Int)*1).toNat]?)=λm=>xs[i+m]?:=by
  funext m
  have:((i:Int)+(m:Int)*1).toNat=i+m:=by omega
  rw[this]
 rw[e]
 have:=pick_run xs i k
 rw[List.filterMap_map]at this
 have e2:((λx=>xs[x]?) ∘ λx=>i+x)=λm=>xs[i+m]?:=rfl
 rw[e2]at this
 rw[this]
theorem Zdp {t sl:Addr}{items:Array Value}{vl vu:Value}{lo hi:Option Int}{Q:Value->Shared->Prop} (ht:IsTup s.heap t items) (hs:s.heap.IsSliceOf sl vl vu .none) (pl:IsPart vl lo) (pu:IsPart vu hi)
  (hw:¬ (sIx items.size 0 lo=0/\sIx items.size items.size hi=items.size))
  (h:Q (.ref s.heap.objs.size) {s with heap:=s.heap.push {cls:=.type "tuple",data:=.seq ((items.toList.drop (sIx items.size 0 lo)).take (sIx items.size items.size hi-sIx items.size 0 lo)).toArray}})
  (hsz:items.size<=sizeLine):wpAny (model prog w) A (getItem (.ref t) (.ref sl)) Q E s:=by
 have htake:sizeOk (.seq ((items.toList.drop (sIx items.size 0 lo)).take (sIx items.size items.size hi-sIx items.size 0 lo)).toArray):=by
  show((items.toList.drop (sIx items.size 0 lo)).take (sIx items.size items.size hi-sIx items.size 0 lo)).toArray.size<=sizeLine
  rw[Yi,YJ,YV,YI]
  omega
 have hj:sIx items.size items.size hi<=items.size:=sIx_le _ _ (Yf _) hi
 obtain⟨os,hos,hcs,hds⟩:=id hs
 have hTs:s.TypeIs (.ref sl) "slice":=⟨os,hos,hcs⟩
 unfold getItem
 try with_reducible refine YF ?_
 first|refine Ya (Yc ?_)|skip
 refine Ya (wpAny_sequenceKey ht.typeIs (by decide) ?_)
 refine Ya (wpAny_callSpecial?_slot (name:=Str.ofString "__getitem__") ht.typeIs PyProof.Rows.slot_tuple_getitem
  (wpAny_call_entry PyProof.Rows.slot_tuple_getitem ht.typeIs entry_tuple_getitem ?_ (args_tuple_getitem _ _)))
 show wpAny _ _ (Builtin.Tuple.tupleItemsOf (.ref t) >>= _) _ _ s
 refine Ya (tupleItemsOf_ ht ?_)
 refine Ya (wpAny_typeOf hTs ?_)
 rw[Ye (by decide)]
 refine Ya (Zbu hs pl pu ?_)
 have hno:¬ ((((sIx items.size 0 lo:Nat):Int)==0&&(1:Int)==1&&(sIx items.size items.size hi-sIx items.size 0 lo)==items.size)=true):=by
  intro q
  rw[Bool.and_eq_true,Bool.and_eq_true]at q
  have q1:((sIx items.size 0 lo:Nat):Int)=0:=eq_of_beq q.1.1
  have q2:sIx items.size items.size hi-sIx items.size 0 lo=items.size:=eq_of_beq q.2
  exact hw ⟨by omega,by omega⟩
 show wpAny _ _ (if (((sIx items.size 0 lo:Nat):Int)==0&&(1:Int)==1&&(sIx items.size items.size hi-sIx items.size 0 lo)==items.size)=true then _ else _) _ _ s
 rw[Yb hno,Zjp]
 first
  |exact Ya (m:=Builtin.Tuple.tupleExact _) (wpAny_newObj_type (Yc ⟨_,rfl,Yc h⟩) htake)
  |exact Ya (m:=Builtin.Tuple.tupleExact _) (wpAny_newObj_type (Ya (Yc (Yc ⟨_,rfl,Yc h⟩))) htake)
  |exact Ya (Ya (m:=Builtin.Tuple.tupleExact _) (wpAny_newObj_type (Yc (Yc ⟨_,rfl,Yc h⟩)) htake))
  |exact Ya (Ya (m:=Builtin.Tuple.tupleExact _) (wpAny_newObj_type (Yc ⟨_,rfl,Yc h⟩) htake))
end
end HT
namespace L2
open PySem PySem.Spec PyProof.Rows
noncomputable abbrev TO:=St->Hp->(Option Int->Hp->Prop)->Prop
noncomputable def PO (X:Cx) (e:Option Expr) (t:TO):Prop :=
 ∀(pins:List (Addr×Obj)) (s:Shared) (σ:St) (H:Hp) (Q:Option Int->Hp->Prop),Inv X pins σ H s->t σ H Q ->
  wpAny (model X.prog X.w) X.A (evalPart e X.env) (λu s'=>∃o H',Inv X pins σ H' s'/\IsPart u o/\Q o H') X.xe s
noncomputable def tNoPart:TO:=λ_ H Q=>Q none H
noncomputable def tPart (t:TE):TO:=fun σ H Q=>t σ H λx H1=>∃i,x=.int i/\Q (some i) H1
section
variable {X:Cx}{e:Expr}{te:TE}{lo hi:Option Expr}{tl th:TO}{pos p2:Pos}
theorem Zex:PO X none tNoPart:=by
 intro pins s σ H Q I h
 rw[evalPart_none]
 exact Yc ⟨none,H,I,.none,h⟩
theorem Zey (h:PE X e te):PO X (some e) (tPart te):=by
 intro pins s σ H Q I hw
 rw[evalPart_some]
 refine thn (h pins s σ H _ I hw) λu s1 ⟨x,H1,I1,r1,q1⟩=>?_
 obtain⟨i,rfl,q⟩:=q1
 obtain⟨t,rfl⟩:=r1
 exact⟨some i,H1,I1,.int i t,q⟩
noncomputable def SlR (X:Cx) (r:V->Option Int->Option Int->Hp->VK->Prop):Prop :=
 ∀(pins:List (Addr×Obj)) (s:Shared) (σ:St) (H:Hp) (x:V) (v vl vu:Value) (lo hi:Option Int) (sl:Addr) (Q:VK),Inv X pins σ H s->RelV x v->s.heap.IsSliceOf sl vl vu .none->IsPart vl lo->IsPart vu hi->r x lo hi H Q ->
  ∃T id,typeLookup (.type T) "__getitem__"=pure (some (.builtin id))/\s.TypeIs v T/\wpAny (model X.prog X.w) X.A (getItem v (.ref sl)) (EP X pins σ Q) X.xe s
noncomputable def tSl (r:V->Option Int->Option Int->Hp->VK->Prop) (te:TE) (tl th:TO):TE:=fun σ H Q=>te σ H λx H1=>tl σ H1 λl H2=>th σ H2 λu H3=>r x l u H3 Q
theorem Zdq {r:V->Option Int->Option Int->Hp->VK->Prop} (hr:SlR X r) (he:PE X e te) (hl:PO X lo tl) (hu:PO X hi th):PE X (.Subscript e (.Slice lo hi none p2) pos) (tSl r te tl th):=by
 intro pins s σ H Q I h
 refine Subscript_ (thn (he pins s σ H _ I h) λv s1 ⟨x,H1,I1,r1,q1⟩=>?_)
 refine wpAny_Slice (thn (hl pins s1 σ H1 _ I1 q1) λvl s2 ⟨l,H2,I2,pl,q2⟩=>thn (hu pins s2 σ H2 _ I2 q2) λvu s3 ⟨u,H3,I3,pu,q3⟩=>?_)
 rw[evalPart_none]
 refine Yc ?_
 have I4:Inv X pins σ H3 {s3 with heap:=s3.heap.push {cls:=.type "slice",data:=.fields #[vl,vu,.none]}}:=I3.kept (t':=s3.toks) λb ob q=>Yl _ q
 obtain⟨T,id,hT,ht,hg⟩:=hr pins {s3 with heap:=s3.heap.push {cls:=.type "slice",data:=.fields #[vl,vu,.none]}} σ H3 x v vl vu l u s3.heap.objs.size Q I4 r1 (Heap.IsSliceOf.new ..) pl pu q3
 show wpAny (model X.prog X.w) X.A (subscriptTail e (.Slice lo hi none p2) v (.ref s3.heap.objs.size)) (EP X pins σ Q) X.xe {s3 with heap:=s3.heap.push {cls:=.type "slice",data:=.fields #[vl,vu,.none]}}
 exact tail_any (ops:=[.ref s3.heap.objs.size,v]) ht hT hg (by with_unfolding_all rfl)
noncomputable def Zcb (xs:List V) (lo hi:Option Int):List V:=(xs.drop (HT.sIx xs.length 0 lo)).take (HT.sIx xs.length xs.length hi-HT.sIx xs.length 0 lo)
theorem Zeb (xs:List V) (lo hi:Option Int):(Zcb xs lo hi).length<=xs.length:=by
 unfold Zcb
 rw[YJ,YV]
 omega
noncomputable def rSlT (K:PySem.W.Frag):V->Option Int->Option Int->Hp->VK->Prop:=λx lo hi H Q=>∃a xs,x=.ref a/\SqT K H a xs /\
 ¬ (HT.sIx xs.length 0 lo=0/\HT.sIx xs.length xs.length hi=xs.length)/\∀p,H p=none->Q (.ref p) (upd H p (.tup (Zcb xs lo hi)))
theorem sl_tup:SlR X (rSlT X.K):=by
 intro pins s σ H x v vl vu lo hi sl Q I rx hs pl pu h
 obtain⟨a,xs,rfl,hx,hw,q⟩:=h
 cases rx
 obtain⟨its,r,ht,hz⟩:=I.tuple hx
 have hlen:its.toArray.size=xs.length:=by rw[Yi];exact r.length.symm
 refine⟨"tuple",_,PyProof.Rows.slot_tuple_getitem.lookup,ht.typeIs,?_⟩
 refine HT.Zdp ht hs pl pu (by rw[hlen];exact hw) ?_ (by rw[hlen];exact hz)
 rw[hlen]
 refine⟨.ref s.heap.objs.size,_,I.laid (t':=s.toks) (o:=.tup (Zcb xs lo hi)) (λb ob q=>Yl _ q) (Yf _) ?_,rfl,q _ (I.hok.fresh (Yf _))⟩
 exact⟨Yd (Zeb xs lo hi) hz,_,(r.drop (HT.sIx xs.length 0 lo)).take (HT.sIx xs.length xs.length hi-HT.sIx xs.length 0 lo),IsTup.new _ _⟩
theorem Vals.Zf6 {xs:List V}{us:List Value} (r:Vals xs us):us=[]↔xs=[]:=by
 cases r with
 |nil=>simp
 |cons _ _=>simp
end
noncomputable def ixN (n:Nat) (i:Int):Option Nat:=if 0<=i then (if i<n then some i.toNat else none)else if -(n:Int)<=i then some (i+n).toNat else none
noncomputable def atI {α:Type} (xs:List α) (i:Int):Option α:=(ixN xs.length i).bind λj=>xs[j]?
theorem ZhR {n:Nat}{i:Int}{j:Nat} (h:ixN n i=some j):seqIndex? i n=some j/\j<n/\-(n:Int)<=i/\i<n:=by
 unfold ixN at h
 by_cases h0:0<=i
 ·rw[Ye h0]at h
  by_cases h1:i<n
  ·rw[Ye h1]at h
   have e:i.toNat=j:=Yq h
   exact⟨by rw[seqIndex_of h0 h1,e],by omega,by omega,h1⟩
  ·rw[Yb h1]at h;cases h
 ·rw[Yb h0]at h
  by_cases h1:-(n:Int)<=i
  ·rw[Ye h1]at h
   have e:(i+n).toNat=j:=Yq h
   exact⟨by rw[seqIndex_neg (by omega) h1,e],by omega,h1,by omega⟩
  ·rw[Yb h1]at h;cases h
theorem ZhS {α:Type}{xs:List α}{i:Int}{v:α} (h:atI xs i=some v):∃j,seqIndex? i xs.length=some j/\xs[j]?=some v/\j<xs.length/\-(xs.length:Int)<=i/\i<xs.length:=by
 unfold atI at h
 cases e:ixN xs.length i with
 |none=>rw[e]at h;cases h
 |some j =>
  rw[e]at h
  obtain⟨h1,h2,h3,h4⟩:=ZhR e
  exact⟨j,h1,h,h2,h3,h4⟩
noncomputable def ZkV (b:Expr):Prop:=∀o i,subscripted b false o i=operate [o,i] (getItem o i)
noncomputable def IxR (X:Cx) (r:R2):Prop :=
 ∀(value slice:Expr) (pins:List (Addr×Obj)) (s:Shared) (σ:St) (H:Hp) (x y:V) (v u:Value) (Q:VK),Inv X pins σ H s->RelV x v->RelV y u->r x y H Q ->
  subscripted slice false v u=operate [v,u] (getItem v u)->wpAny (model X.prog X.w) X.A (subscriptTail value slice v u) (EP X pins σ Q) X.xe s
noncomputable def MtR (X:Cx) (id:String) (r:V->List V->Hp->VK->Prop):Prop :=
 ∀(pins:List (Addr×Obj)) (s:Shared) (σ:St) (H:Hp) (x:V) (xs:List V) (v:Value) (us:List Value) (Q:VK),Inv X pins σ H s->RelV x v->Vals xs us->r x xs H Q ->
  wpAny (model X.prog X.w) X.A (call (.builtin id) (v::us)) (EP X pins σ Q) X.xe s
section
variable {X:Cx}{a b:Expr}{ta tb:TE}{pos:Pos}
theorem Za3 {r:R2} (hr:IxR X r) (ha:PE X a ta) (hb:PE X b tb) (hs:ZkV b):PE X (.Subscript a b pos) (tOp r ta tb):=by
 intro pins s σ H Q I h
 exact Subscript_ (binT ha hb I h λv u s2 x y H2 I2 rx ry q=>hr a b pins s2 σ H2 x y v u Q I2 rx ry q (hs _ _))
noncomputable def rIxL (K:PySem.W.Frag):R2:=λx y H Q=>∃p xs i v,x=.ref p/\y=.int i/\SqL K H p xs/\atI xs i=some v/\Q v H
noncomputable def rIxT (K:PySem.W.Frag):R2:=λx y H Q=>∃p xs i v,x=.ref p/\y=.int i/\SqT K H p xs/\atI xs i=some v/\Q v H
theorem Zam:IxR X (rIxL X.K):=by
 intro value slice pins s σ H x y v u Q I rx ry h hs
 obtain⟨p,xs,i,z,rfl,rfl,hq,he,q⟩:=h
 cases rx
 obtain⟨t,rfl⟩:=ry
 obtain⟨its,r,pl,hz⟩:=I.list hq
 obtain⟨j,h1,h2,h3,h4,h5⟩:=ZhS he
 obtain⟨w,ew,rw'⟩:=r.get h2
 have hl:=r.length
 have hn:=ZdP
 have fin:EP X pins σ Q w s:=⟨z,H,I,rw',q⟩
 by_cases h0:0<=i
 ·have hj:i.toNat=j:=by
   rw[seqIndex_of h0 h5]at h1
   exact Yq h1
  exact item_listR pl.isList h0 (by omega) (by rw[hj];simpa using ew) fin hs
 ·have hj:(i+(its.toArray.size:Int)).toNat=j:=by
   rw[seqIndex_neg (by omega) h4]at h1
   rw[Yi,<-hl]
   exact Yq h1
  exact subscriptTail_builtinR (x:=w) pl.isList.typeIs slot_list_getitem.lookup
   (wpAny_getItem_list_neg (Q:=λr s'=>r=w/\EP X pins σ Q r s') pl.isList (by omega) (by rw[Yi]<;>omega) (by omega) (by rw[hj];simpa using ew) ⟨rfl,fin⟩) hs
theorem Zhq:IxR X (rIxT X.K):=by
 intro value slice pins s σ H x y v u Q I rx ry h hs
 obtain⟨p,xs,i,z,rfl,rfl,hq,he,q⟩:=h
 cases rx
 obtain⟨t,rfl⟩:=ry
 obtain⟨its,r,pl,hz⟩:=I.tuple hq
 obtain⟨j,h1,h2,h3,h4,h5⟩:=ZhS he
 obtain⟨w,ew,rw'⟩:=r.get h2
 have hl:=r.length
 have hn:=ZdP
 have fin:EP X pins σ Q w s:=⟨z,H,I,rw',q⟩
 exact subscriptTail_builtinR (x:=w) pl.typeIs slot_tuple_getitem.lookup
  (getItem_tuple (j:=j) (Q:=λr s'=>r=w/\EP X pins σ Q r s') pl (by omega) (by omega) (by rw[Yi,<-hl];exact h1) (by simpa using ew) ⟨rfl,fin⟩) hs
theorem Zhr (its:List Value) (n j:Nat) (u:Value):Obj.mapSeq (·.setIfInBounds j u) {cls:=.type "list",data:=.seq its.toArray n}={cls:=.type "list",data:=.seq (its.set j u).toArray n}:=by
 simp[Obj.mapSeq]
theorem Inv.lst {pins:List (Addr×Obj)}{σ:St}{H:Hp}{s:Shared}{p:Addr}{xs:List V} (I:Inv X pins σ H s) (h:H p=some (.lst xs)) :
  ∃(its:List Value) (n:Nat),Vals xs its/\s.heap.get? p=some {cls:=.type "list",data:=.seq its.toArray n}/\xs.length<=sizeLine:=by
 obtain⟨z,its,n,r,e⟩:=I.hok p _ h
 exact⟨its,n,r,e,z⟩
theorem Inv.lstUpd {pins:List (Addr×Obj)}{σ:St}{H:Hp}{s:Shared}{p:Addr}{xs ys:List V}{its its':List Value}{n n':Nat}{f:Obj->Obj} (I:Inv X pins σ H s) (h:H p=some (.lst xs))
  (ho:s.heap.get? p=some {cls:=.type "list",data:=.seq its.toArray n}) (hf:f {cls:=.type "list",data:=.seq its.toArray n}={cls:=.type "list",data:=.seq its'.toArray n'}) (r:Vals ys its') (hz:ys.length<=sizeLine) (t:Nat) :
  Inv X pins σ (upd H p (.lst ys)) {s with heap:=s.heap.update p f,toks:=t}:=by
 have e:(s.heap.update p f).get? p=some {cls:=.type "list",data:=.seq its'.toArray n'}:=by
  rw[Heap.get?_update_self f ho (by rw[hf]<;>rfl),hf]
 refine I.write (x:=p) (e:=p) (by rw[h];trivial) (.inl rfl) (λb u hb q=>(Heap.get?_update_other _ _ (Ne.symm hb)).trans q) ⟨_,e⟩ ?_
 exact⟨hz,its',n',r,e⟩
noncomputable def rSetL:V->V->V->Hp->(Hp->Prop)->Prop:=λo i v H Q=>∃p xs k j,o=.ref p/\i=.int k/\H p=some (.lst xs)/\ixN xs.length k=some j/\Q (upd H p (.lst (xs.set j v)))
theorem set_list:PSet X rSetL:=by
 intro pins s σ H o i v ov iv u Q I ro ri rv h
 obtain⟨p,xs,k,j,rfl,rfl,hp,hj,q⟩:=h
 cases ro
 obtain⟨t,rfl⟩:=ri
 obtain⟨its,n,r,ho,hz⟩:=I.lst hp
 obtain⟨h1,h2,h3,h4⟩:=ZhR hj
 have hl:=r.length
 have hn:=ZdP
 have I':Inv X pins σ (upd H p (.lst (xs.set j v))) {s with heap:=s.heap.update p (Obj.mapSeq (·.setIfInBounds j u))} :=
  I.lstUpd hp ho (Zhr its n j u) (r.set rv j) (by rw[List.length_set];exact hz) s.toks
 by_cases h0:0<=k
 ·have hk:k.toNat=j:=by
   rw[seqIndex_of h0 h4]at h1
   exact Yq h1
  exact PySem.W.ki_setAt ho h0 (by omega) (by rw[Yi,<-hl];exact h4) (by rw[hk];exact⟨_,I',q⟩)
 ·have hk:(k+(its.toArray.size:Int)).toNat=j:=by
   rw[seqIndex_neg (by omega) h3]at h1
   rw[Yi,<-hl]
   exact Yq h1
  exact PySem.W.ki_setBack ho (by omega) (by rw[Yi,<-hl];exact h3) (by omega) (by rw[hk];exact⟨_,I',q⟩)
theorem Zf7 (lo hi:Option Int) (n:Nat):(sliceBounds lo hi none n).1=((HT.sIx n 0 lo:Nat):Int)/\(sliceBounds lo hi none n).2.1=((HT.sIx n n hi:Nat):Int)/\(sliceBounds lo hi none n).2.2=1:=by
 refine⟨?_,?_,rfl⟩
 ·cases lo with
  |none=>simp[sliceBounds,HT.sIx]
  |some i =>
   simp only[sliceBounds,HT.sIx,Option.getD_none,show(1:Int)>0 by decide,if_true]
   by_cases h:i<0
   ·simp only[h,if_true]<;>omega
   ·simp only[h,if_false]<;>omega
 ·cases hi with
  |none=>simp[sliceBounds,HT.sIx]
  |some i =>
   simp only[sliceBounds,HT.sIx,Option.getD_none,show(1:Int)>0 by decide,if_true]
   by_cases h:i<0
   ·simp only[h,if_true]<;>omega
   ·simp only[h,if_false]<;>omega
theorem Zfh (its:List Value) (lo hi:Option Int):slicePick its.toArray lo hi none=((its.drop (HT.sIx its.length 0 lo)).take (HT.sIx its.length its.length hi-HT.sIx its.length 0 lo)).toArray:=by
 obtain⟨h1,h2,h3⟩:=Zf7 lo hi its.toArray.size
 unfold slicePick
 rw[h1,h2,h3]
 simp only[sliceRange_one,pick_run,Yi]<;>rfl
noncomputable def rSlL (K:PySem.W.Frag):V->Option Int->Option Int->Hp->VK->Prop:=λx lo hi H Q=>∃a xs,x=.ref a/\SqL K H a xs/\∀p,H p=none->Q (.ref p) (upd H p (.lst (Zcb xs lo hi)))
theorem Zf8:SlR X (rSlL X.K):=by
 intro pins s σ H x v vl vu lo hi sl Q I rx hs pl pu h
 obtain⟨a,xs,rfl,hx,q⟩:=h
 cases rx
 obtain⟨its,r,ht,hz⟩:=I.list hx
 have hlen:=r.length
 refine⟨"list",_,slot_list_getitem.lookup,ht.isList.typeIs,?_⟩
 refine wpAny_getItem_list_slice ht.isList hs pl pu .none (by simp) ?_ (by rw[Yi]<;>omega)
 rw[Zfh,<-hlen]
 refine⟨.ref s.heap.objs.size,_,I.laid (t':=s.toks) (o:=.lst (Zcb xs lo hi)) (λb ob q=>Yl _ q) (Yf _) ?_,rfl,q _ (I.hok.fresh (Yf _))⟩
 exact⟨Yd (Zeb xs lo hi) hz,_,0,(r.drop (HT.sIx xs.length 0 lo)).take (HT.sIx xs.length xs.length hi-HT.sIx xs.length 0 lo),Yu _ rfl⟩
noncomputable def flatV:V->Bool
 |.non=>true
 |.bl _=>true
 |.int _=>true
 |.str _=>true
 |_=>false
noncomputable def eqV:V->V->Bool
 |.non,.non=>true
 |.bl a,.bl b=>a==b
 |.bl a,.int b=>(if a then 1 else 0)==b
 |.int a,.bl b=>a==(if b then 1 else 0)
 |.int a,.int b=>a==b
 |.str a,.str b=>a==b
 |_,_=>false
theorem Zjq {A:Around}{s:Shared}{y x:V}{u v:Value} (ry:RelV y u) (rx:RelV x v) (fy:flatV y=true) (fx:flatV x=true):SeqAt.EqAt A s u v (eqV y x):=by
 cases y with
 |non =>
  cases ry
  cases x with
  |non=>cases rx;exact SeqAt.EqAt.same _
  |bl b=>cases rx;exact SeqAt.EqAt.none_bool b
  |int b=>obtain⟨t,rfl⟩:=rx;exact SeqAt.EqAt.none_int b t
  |str b=>obtain⟨t,rfl⟩:=rx;exact SeqAt.EqAt.none_str b t
  |_=>exact absurd (show false=true from fx) Yn
 |bl a =>
  cases ry
  cases x with
  |non=>cases rx;exact SeqAt.EqAt.bool_none a
  |bl b=>cases rx;exact SeqAt.EqAt.bool_bool a b
  |int b=>obtain⟨t,rfl⟩:=rx;exact SeqAt.EqAt.bool_int a b t
  |str b=>obtain⟨t,rfl⟩:=rx;exact SeqAt.EqAt.bool_str a b t
  |_=>exact absurd (show false=true from fx) Yn
 |int a =>
  obtain⟨t',rfl⟩:=ry
  cases x with
  |non=>cases rx;exact SeqAt.EqAt.int_none a t'
  |bl b=>cases rx;exact SeqAt.EqAt.int_bool a t' b
  |int b=>obtain⟨t,rfl⟩:=rx;exact SeqAt.EqAt.int_int a t' b t
  |str b=>obtain⟨t,rfl⟩:=rx;exact SeqAt.EqAt.int_str a t' b t
  |_=>exact absurd (show false=true from fx) Yn
 |str a =>
  obtain⟨t',rfl⟩:=ry
  cases x with
  |non=>cases rx;exact SeqAt.EqAt.str_none a t'
  |bl b=>cases rx;exact SeqAt.EqAt.str_bool a t' b
  |int b=>obtain⟨t,rfl⟩:=rx;exact SeqAt.EqAt.str_int a t' b t
  |str b=>obtain⟨t,rfl⟩:=rx;exact SeqAt.EqAt.str_str a t' b t
  |_=>exact absurd (show false=true from fx) Yn
 |_=>exact absurd (show false=true from fy) Yn
noncomputable def eqU (x:V) (u:Value):Bool:=match u with
 |.none=>eqV .non x
 |.bool b=>eqV (.bl b) x
 |.int i _=>eqV (.int i) x
 |.str z _=>eqV (.str z) x
 |_=>false
theorem Zjr {x y:V}{u:Value} (r:RelV y u) (f:flatV y=true):eqU x u=eqV y x:=by
 cases y with
 |non=>cases r;rfl
 |bl b=>cases r;rfl
 |int i=>obtain⟨t,rfl⟩:=r;rfl
 |str z=>obtain⟨t,rfl⟩:=r;rfl
 |_=>exact absurd (show false=true from f) Yn
theorem Zf9 {x:V}:∀{xs:List V}{us:List Value},Vals xs us->xs.all flatV=true->us.any (eqU x)=xs.any λy=>eqV y x
 |_,_,.nil,_=>rfl
 |y::xs,u::us,.cons r t,f=>by
  rw[List.all_cons,Bool.and_eq_true]at f
  rw[List.any_cons,List.any_cons,Zjr r f.1,Zf9 t f.2]
theorem ZeM {A:Around}{s:Shared}{x:V}{v:Value} (rx:RelV x v) (fx:flatV x=true):∀{xs:List V}{us:List Value},Vals xs us->xs.all flatV=true->∀u∈us,SeqAt.EqAt A s u v (eqU x u)
 |_,_,.nil,_=>λu hu=>by cases hu
 |y::xs,u::us,.cons r t,f=>λu' hu=>by
  rw[List.all_cons,Bool.and_eq_true]at f
  rcases Yj.mp hu with rfl|hu
  ·rw[Zjr r f.1];exact Zjq r rx f.1 fx
  ·exact ZeM rx fx t f.2 u' hu
noncomputable def inV (x:V) (xs:List V):Bool:=xs.any λy=>eqV y x
noncomputable def rIn (K:PySem.W.Frag) (neg:Bool):R2:=λx y H Q=>∃p xs,y=.ref p/\(SqL K H p xs\/SqT K H p xs)/\flatV x=true/\xs.all flatV=true/\Q (.bl (if neg then !inV x xs else inV x xs)) H
theorem Ziu:OpR X (compareOp .In) (rIn X.K false):=by
 intro pins s σ H x y v u Q I rx ry h
 obtain⟨p,xs,rfl,hq,fx,fs,q⟩:=h
 cases ry
 rcases hq with hq|hq
 ·obtain⟨its,r,pl,hz⟩:=I.list hq
  refine SeqAt.in_listAt (eqU x) pl.isList (λw hw=>ZeM rx fx r fs w (by simpa using hw)) ⟨.bl _,H,I,rfl,?_⟩
  rw[show its.toArray.any (eqU x)=its.any (eqU x) by simp,Zf9 r fs]
  exact q
 ·obtain⟨its,r,pl,hz⟩:=I.tuple hq
  refine SeqAt.in_tupleAt (eqU x) pl (λw hw=>ZeM rx fx r fs w (by simpa using hw)) ⟨.bl _,H,I,rfl,?_⟩
  rw[show its.toArray.any (eqU x)=its.any (eqU x) by simp,Zf9 r fs]
  exact q
theorem Zga:Zay X (.builtin "len") (λxs H Q=>∃p ys,xs=[.ref p]/\(SqL X.K H p ys\/SqT X.K H p ys)/\Q (.int ys.length) H):=by
 intro pins s σ H xs us Q I r h
 obtain⟨p,ys,rfl,hq,q⟩:=h
 obtain⟨u,rfl,rx⟩:=vals1 r
 cases rx
 have hn:=ZdP
 rcases hq with hq|hq
 ·obtain⟨its,r',pl,hz⟩:=I.list hq
  have hlen:=r'.length
  exact Calls.call_len_list pl.isList (by simp only[Yi]<;>omega) ⟨.int ys.length,H,I.tok _,⟨s.toks+1,by rw[Yi,hlen]⟩,q⟩
 ·obtain⟨its,r',pl,hz⟩:=I.tuple hq
  have hlen:=r'.length
  exact len_tuple pl (by simp only[Yi]<;>omega) ⟨.int ys.length,H,I.tok _,⟨s.toks+1,by rw[Yi,hlen]⟩,q⟩
theorem Zgb:Zay X (.type "list") (λxs H Q=>∃p ys,xs=[.ref p]/\(SqL X.K H p ys\/SqT X.K H p ys)/\∀l,H l=none->Q (.ref l) (upd H l (.lst ys))):=by
 intro pins s σ H xs us Q I r h
 obtain⟨p,ys,rfl,hq,q⟩:=h
 obtain⟨u,rfl,rx⟩:=vals1 r
 cases rx
 have fin:∀(its:List Value),Vals ys its->ys.length<=sizeLine->∀(h':Heap) (c':Nat),(∀b o',s.heap.get? b=some o'->h'.get? b=some o') ->
   h'.get? s.heap.objs.size=some {cls:=.type "list",dict:=none,data:=.seq its.toArray c',slots:=#[]}->EP X pins σ Q (.ref s.heap.objs.size) {s with heap:=h'}:=λits r' hz h' c' kp e =>
  ⟨.ref s.heap.objs.size,_,I.laid (t':=s.toks) kp (Yf _) (show ZZ X.prog X.w _ h' _ (.lst ys)from⟨hz,its,c',r',e⟩),rfl,q _ (I.hok.fresh (Yf _))⟩
 rcases hq with hq|hq
 ·obtain⟨its,r',pl,hz⟩:=I.list hq
  have hlen:=r'.length
  obtain⟨o,ho,hc,n,hd⟩:=pl.isList
  exact call_list_seq p (.inl rfl) ho hc hd (λh' c' kp e=>fin its r' hz h' c' kp e) (by simp only[Yi]<;>omega)
 ·obtain⟨its,r',pl,hz⟩:=I.tuple hq
  have hlen:=r'.length
  obtain⟨o,ho,hc,n,hd⟩:=pl
  exact call_list_seq p (.inr rfl) ho hc hd (λh' c' kp e=>fin its r' hz h' c' kp e) (by simp only[Yi]<;>omega)
theorem Zfi:Zay X (.type "tuple") (λxs H Q=>∃p ys,xs=[.ref p]/\((SqL X.K H p ys/\∀l,H l=none->Q (.ref l) (upd H l (.tup ys)))\/(SqT X.K H p ys/\Q (.ref p) H))):=by
 intro pins s σ H xs us Q I r h
 obtain⟨p,ys,rfl,h⟩:=h
 obtain⟨u,rfl,rx⟩:=vals1 r
 cases rx
 rcases h with⟨hq,q⟩|⟨hq,q⟩
 ·obtain⟨its,r',pl,hz⟩:=I.list hq
  have hlen:=r'.length
  refine call_tuple_list pl.isList (λh' kp=>?_) (by simp only[Yi]<;>omega)
  have I1:Inv X pins σ H {s with heap:=h'}:=I.kept (t':=s.toks) kp
  have I2:Inv X pins σ (upd H h'.objs.size (.tup ys)) {s with heap:=h'.push {cls:=.type "tuple",data:=.seq its.toArray}} :=
   I1.laid (t':=s.toks) (λb o e=>Yl _ e) (Yf _) (show ZZ X.prog X.w _ _ _ (.tup ys)from⟨hz,its,r',IsTup.new _ _⟩)
  exact⟨.ref h'.objs.size,_,I2,rfl,q _ (I1.hok.fresh (Yf _))⟩
 ·obtain⟨its,r',pl,hz⟩:=I.tuple hq
  exact call_tuple_same pl ⟨.ref p,H,I,rfl,q⟩
noncomputable def tyV (K:PySem.W.Frag) (T:String) (x:V) (H:Hp):Prop:=match x with
 |.str _=>T="str"
 |.int _=>T="int"
 |.ref p=>(T="list"/\∃xs,SqL K H p xs)\/(T="tuple"/\∃o,K.lookup p=some o/\o.cls=.type "tuple"/\o.dict=none) \/
   (T="dict"/\((∃kvs,H p=some (.dK kvs))\/∃kvs,H p=some (.dT kvs)))\/(T="set"/\∃S n,H p=some (.set S n))
 |_=>False
theorem Zjs {pins:List (Addr×Obj)}{σ:St}{H:Hp}{s:Shared}{T:String}{x:V}{v:Value} (I:Inv X pins σ H s) (r:RelV x v) (ty:tyV X.K T x H) :
  s.TypeIs v T/\∀a,v=.ref a->∃ob,s.heap.get? a=some ob/\ob.dict=none:=by
 cases x with
 |str z =>
  obtain⟨t,rfl⟩:=r
  cases(show T="str" from ty)
  exact⟨typeIs_str s z t,λ_ e=>nomatch e⟩
 |int i =>
  obtain⟨t,rfl⟩:=r
  cases(show T="int" from ty)
  exact⟨typeIs_int s i t,λ_ e=>nomatch e⟩
 |ref p =>
  cases r
  rcases ty with⟨rfl,xs,hq⟩|⟨rfl,o,hk,hc,hd⟩|⟨rfl,hk⟩|⟨rfl,S,n,hk⟩
  ·obtain⟨its,_,pl,_⟩:=I.list hq
   refine⟨pl.isList.typeIs,λa e=>?_⟩
   cases e
   obtain⟨o,n,e,c,hd,_⟩:=pl
   exact⟨o,e,hd⟩
  ·refine⟨⟨o,I.kIn p o hk,hc⟩,λa e=>?_⟩
   cases e
   exact⟨o,I.kIn _ o hk,hd⟩
  ·have z:∃o,s.heap.get? p=some o/\o.ExactDict:=by
    rcases hk with⟨kvs,hk⟩|⟨kvs,hk⟩
    ·obtain⟨_,_,_,_,o,_,_,e,ex,_⟩:=I.hok p _ hk
     exact⟨o,e,ex⟩
    ·obtain⟨_,_,_,_,o,_,_,e,ex,_⟩:=I.hok p _ hk
     exact⟨o,e,ex⟩
   obtain⟨o,e,ex⟩:=z
   refine⟨⟨o,e,ex.1⟩,λa e2=>?_⟩
   cases e2
   exact⟨o,e,ex.2.1⟩
  ·obtain⟨o,_,_,_,e,ex,_⟩:=I.hok p _ hk
   refine⟨⟨o,e,ex.1⟩,λa e2=>?_⟩
   cases e2
   exact⟨o,e,ex.2.1⟩
 |_=>exact False.elim ty
noncomputable def tBM0 (K:PySem.W.Frag) (T:String) (r:V->List V->Hp->VK->Prop) (to:TE):TE:=fun σ H Q=>to σ H λx H1=>tyV K T x H1/\r x [] H1 Q
noncomputable def tBM (K:PySem.W.Frag) (T:String) (r:V->List V->Hp->VK->Prop) (to:TE) (t:TA):TE:=fun σ H Q=>to σ H λx H1=>tyV K T x H1/\t σ H1 λxs H2=>r x xs H2 Q
variable {o e:Expr}{es:List Expr}{to:TE}{t:TA}{name:Str}{apos cpos:Pos}{T id:String}{r:V->List V->Hp->VK->Prop}
theorem ZeN (pa:PlainAttrs T) (slot:Slot T name id) (hty:typeOf (.builtin id)=pure (.type "method_descriptor")) (hm:MtR X id r) (ho:PE X o to)
  (hbase:attributeBase o name X.env (eval o X.env)=eval o X.env:=by rfl) (hline:(apos.endLine==cpos.line)=true:=by rfl):PE X (.Call (.Attribute o name apos) [] [] cpos) (tBM0 X.K T r to):=by
 intro pins s σ H Q I h
 refine wpAny_Call_method0_late hbase hline (thn (ho pins s σ H _ I h) λv s1 ⟨x,H1,I1,r1,ty,q1⟩=>?_)
 obtain⟨h1,h2⟩:=Zjs I1 r1 ty
 exact⟨T,id,pa,slot,hty,h1,h2,Calls.callWith_builtin rfl (PySem.evalArgs_none (hm pins s1 σ H1 x [] v [] Q I1 r1 .nil q1))⟩
theorem ZaN (pa:PlainAttrs T) (slot:Slot T name id) (hty:typeOf (.builtin id)=pure (.type "method_descriptor")) (hm:MtR X id r) (ho:PE X o to) (ha:PA X (e::es) t)
  (hbase:attributeBase o name X.env (eval o X.env)=eval o X.env:=by rfl)
  (hfew:((backTo cpos (starEach (e::es) X.env)).all (λx=>!x.1)&&(backToKw cpos (keywordEach [] X.env)).all (λx=>x.1.isSome)
   && decide ((e::es).length+([]:List Keyword).length+(if ([]:List Keyword).isEmpty then 0 else 1)<30))=true:=by rfl)
  (hline:(apos.endLine==cpos.line)=true:=by rfl) (hs:starEach (e::es) X.env=(false,eval e X.env)::starEach es X.env:=by rfl) (hplain:(backTo cpos (starEach es X.env)).any (·.1)=false:=by rfl) :
  PE X (.Call (.Attribute o name apos) (e::es) [] cpos) (tBM X.K T r to t):=by
 intro pins s σ H Q I h
 refine wpAny_Call_method_late hbase hfew hline rfl (thn (ho pins s σ H _ I h) λv s1 ⟨x,H1,I1,r1,ty,q1⟩=>?_)
 obtain⟨h1,h2⟩:=Zjs I1 r1 ty
 refine⟨T,id,pa,slot,hty,h1,h2,?_⟩
 have hA:=ha cpos pins s1 σ H1 _ I1 q1
 rw[hs]at hA⊢
 refine Calls.callWith_builtin (by show(false||(backTo cpos (starEach es X.env)).any (·.1))=false;rw[hplain]<;>rfl) (Calls.evalArgs_plain ?_)
 exact thn hA λus s2 ⟨vs,H2,I2,r2,q2⟩=>hm pins s2 σ H2 x vs v us Q I2 r1 r2 q2
end
noncomputable def MtM (X:Cx) (id:String) (r:V->List V->Hp->VK->Prop):Prop :=
 ∀(pins:List (Addr×Obj)) (s:Shared) (σ:St) (H:Hp) (x:V) (xs:List V) (v:Value) (us:List Value) (Q:VK),Inv X pins σ H s->RelV x v->Vals xs us->r x xs H Q ->
  wpAny (model X.prog X.w) X.A (call (.builtin id) (v::us)) (EP X pins σ Q) X.xe s
theorem Vals.one:∀{x:V}{us:List Value},Vals [x] us->∃u,us=[u]/\RelV x u
 |_,_,.cons r .nil=>⟨_,rfl,r⟩
theorem Vals.two:∀{x y:V}{us:List Value},Vals [x,y] us->∃u v,us=[u,v]/\RelV x u/\RelV y v
 |_,_,_,.cons r (.cons q .nil)=>⟨_,_,rfl,r,q⟩
theorem Vals.zero:∀{us:List Value},Vals [] us->us=[]
 |_,.nil=>rfl
theorem Vals.dropLast {xs:List V}{us:List Value} (h:Vals xs us):Vals xs.dropLast us.dropLast:=by
 induction h with
 |nil=>exact .nil
 |cons r t ih =>
  cases t with
  |nil=>exact .nil
  |cons q t'=>exact .cons r ih
theorem Zhs {α:Type} (l:List α):l.eraseIdx (l.length-1)=l.dropLast:=by
 induction l with
 |nil=>rfl
 |cons a r ih =>
  cases r with
  |nil=>rfl
  |cons b r =>
   have e:(a::b::r).length-1=((b::r).length-1)+1:=by
    have h1:(a::b::r).length=r.length+2:=rfl
    have h2:(b::r).length=r.length+1:=rfl
    omega
   rw[e,List.eraseIdx_cons_succ,ih]
   all_goals rfl
section
variable {X:Cx}{pins:List (Addr×Obj)}{σ:St}{H:Hp}{s:Shared}{l b:Addr}{xs ys zs:List V}
theorem Inv.lset {its its':List Value}{n:Nat}{f:Array Value->Array Value}{t':Nat} (I:Inv X pins σ H s) (hH:H l=some (.lst xs))
  (e:s.heap.get? l=some {cls:=.type "list",data:=.seq its.toArray n}) (hf:f its.toArray=its'.toArray) (hv:Vals ys its') (hz:ys.length<=sizeLine) :
  Inv X pins σ (upd H l (.lst ys)) {s with heap:=s.heap.update l (Obj.mapSeq f),toks:=t'}:=by
 have q:=PySem.IsL.update e f
 rw[hf]at q
 refine I.write (x:=l) (e:=l) (by rw[hH];exact trivial) (.inl rfl) (λb' u hb hu=>(Heap.get?_update_other s.heap (Obj.mapSeq f) (Ne.symm hb)).trans hu) ⟨_,q⟩ ?_
 exact⟨hz,its',_,hv,q⟩
theorem Inv.lnew {its:List Value}{t':Nat} (I:Inv X pins σ H s) (hv:Vals ys its) (hz:ys.length<=sizeLine) :
  Inv X pins σ (upd H s.heap.objs.size (.lst ys)) {s with heap:=s.heap.push {cls:=.type "list",data:=.seq its.toArray},toks:=t'} :=
 I.laid (λ_ _ q=>Yl _ q) (Yf _) ⟨hz,its,0,hv,Yu _ rfl⟩
theorem Inv.fresh (I:Inv X pins σ H s):H s.heap.objs.size=none:=I.hok.fresh (Yf _)
theorem Inv.lstM (I:Inv X pins σ H s) (hH:H l=some (.lst xs)):xs.length<=sizeLine/\∃(its:List Value) (n:Nat),Vals xs its/\xs.length=its.length/\s.heap.get? l=some {cls:=.type "list",data:=.seq its.toArray n}:=by
 obtain⟨z,its,n,r,e⟩:=I.hok l _ hH
 exact⟨z,its,n,r,r.length,e⟩
end
section
variable {X:Cx}
noncomputable def rAppend:V->List V->Hp->VK->Prop:=λx vs H Q=>∃l xs y,x=.ref l/\vs=[y]/\H l=some (.lst xs)/\xs.length<sizeLine/\Q .non (upd H l (.lst (xs++[y])))
theorem Zac:MtM X "list.append" rAppend:=by
 intro pins s σ H x vs v us Q I rx rv h
 obtain⟨l,xs,y,rfl,rfl,hH,hz,q⟩:=h
 cases rx
 obtain⟨u,rfl,ru⟩:=rv.one
 obtain⟨z,its,n,r,hl,e⟩:=I.lstM hH
 refine call_meets F.slot_list_append ⟨_,e,rfl⟩ F.entry_list_append (F.args_list_append_2 _ _) (PySem.list_append l its.toArray n u (by rw[Yi];omega)) ⟨e,?_⟩
 refine⟨.non,_,I.lset (its':=its++[u]) hH e (by simp) (r.append (.cons ru .nil)) ?_,rfl,q⟩
 rw[YB,List.length_singleton]
 omega
noncomputable def rPop:V->List V->Hp->VK->Prop:=λx vs H Q=>∃l xs y,x=.ref l/\vs=[]/\H l=some (.lst xs)/\xs[xs.length-1]?=some y/\Q y (upd H l (.lst xs.dropLast))
theorem Zht:MtM X "list.pop" rPop:=by
 intro pins s σ H x vs v us Q I rx rv h
 obtain⟨l,xs,y,rfl,rfl,hH,hy,q⟩:=h
 cases rx
 have hus:=rv.zero
 subst hus
 obtain⟨z,its,n,r,hl,e⟩:=I.lstM hH
 obtain⟨u,hu,ru⟩:=r.get hy
 have hy':its.toArray[its.toArray.size-1]?=some u:=by
  show its.toArray[its.length-1]?=some u
  rw[<-YW,<-hl]
  exact hu
 refine call_meets F.slot_list_pop ⟨_,e,rfl⟩ F.entry_list_pop (F.args_list_pop_1 _) (MeetsSeq.list_pop_last l its.toArray n u hy' (by rw[Yi];omega)) ⟨e,?_⟩
 refine⟨y,_,I.lset (its':=its.dropLast) hH e ?_ r.dropLast ?_,ru,q⟩
 ·show its.toArray.eraseIdxIfInBounds (its.toArray.size-1)=its.dropLast.toArray
  rw[Yi,List.eraseIdxIfInBounds_toArray,Zhs]
 ·rw[List.length_dropLast]
  omega
noncomputable def rCat:R2:=λx y H Q=>∃l b xs zs,x=.ref l/\y=.ref b/\H l=some (.lst xs)/\H b=some (.lst zs)/\xs.length+zs.length<=sizeLine/\∀p,H p=none->Q (.ref p) (upd H p (.lst (xs++zs)))
theorem ZdS:OpR X (binaryOp .Add) rCat:=by
 intro pins s σ H x y v u Q I rx ry h
 obtain⟨l,b,xs,zs,rfl,rfl,hH,hB,hz,q⟩:=h
 cases rx
 cases ry
 obtain⟨z,its,n,r,hl,e⟩:=I.lstM hH
 obtain⟨z2,its2,n2,r2,hl2,e2⟩:=I.lstM hB
 refine PySem.P.add_list e e2 ?_ (by rw[Yi,Yi];omega)
 have ea:its.toArray++its2.toArray=(its++its2).toArray:=by simp
 rw[ea]
 exact⟨.ref _,_,I.lnew (t':=s.toks) (r.append r2) (by rw[YB];omega),rfl,q _ I.fresh⟩
end
end L2
namespace Att
open PySem PySem.W PySem.Calls PyProof.Rows
theorem Zeq {P:Params}{h:Heap}:∀(ns:List Int) (vs:List Value),WellAll P h vs (ns.map WData.int)->IntsAre vs ns:=by
 intro ns
 induction ns with
 |nil =>
  intro vs w
  rw[List.map_nil]at w
  cases w
  exact .nil
 |cons n ns ih =>
  intro vs w
  rw[YA]at w
  cases w with
  |cons a b =>
   cases a
   exact .cons _ _ (ih _ b)
theorem Ziv {l:OpenLaw}{n:Nat} (hn:l.most=some n) {P:Params}{h:Heap}{args:List WData}{vals:List Value}
  (hpre:l.row.toRowW.claim.pre args=true) (hwl:WellAll P h vals args) :
  ∃a vs ns,vals=[Value.ref a]/\args=[WData.list (ns.map WData.int)]/\h.get? a=some {cls:=.type "list",data:=.seq vs.toArray}/\IntsAre vs ns/\ns.length<=n:=by
 have hsh:WShape.hasAll [] args [.list .int]=true:=(pre_splitW hpre).1
 have hc:l.pre.holds [] {args:=args}=true:=(pre_splitW hpre).2
 obtain⟨d,r,rfl,h1,h2⟩:=hasAllW_cons hsh
 obtain rfl:=hasAllW_nil h2
 obtain⟨xs,rfl,h3⟩:=hasW_list h1
 obtain⟨ns,rfl⟩:=items_int h3
 have hlen:ns.length<=n:=by
  unfold OpenLaw.pre at hc
  have h4:(WTm.not (.lt (.lit (.int (n:Int))) (.len (.arg 0)))).holds [] {args:=[.list (ns.map .int)]}=true:=by
   have h4:=(holds_andW hc).1
   rw[hn]at h4
   exact h4
  have h5:=condW_of h4 (w_not (w_lt w_lit (w_len_list (w_arg rfl))))
  rw[Yp]at h5
  refine Nat.le_of_not_lt λq=>?_
  have q':(n:Int)<((ns.length:Nat):Int):=by omega
  first
   |(rw[YC q']at h5;exact absurd h5 (by decide))
   |(simp at h5;omega)
 cases hwl with
 |cons w1 w2 =>
  cases w2
  cases w1 with
  |list ho hall=>exact⟨_,_,ns,rfl,rfl,ho,Zeq ns _ hall,hlen⟩
theorem Ziw (l:OpenLaw) (args:List WData):l.row.toRowW.claim.post args (.bool true) args=true :=
 postW_of (r:=l.row.toRowW) (X:=(true==true))
  (show WShape.has [] (.bool true) .bool=true by first|rfl|decide|simp[WShape.has,WShape.arms,WShape.armsAll])
  (show(WTm.eq .res (.lit (.bool true))).value [] {args:=args,res:=some (.bool true),after:=args}=some (.bool (true==true))from w_eq_bool (w_res rfl) w_lit) rfl
theorem ZgJ {l:OpenLaw}{n:Nat}{q:Program}{loose:List Str}{XP:(Str->Option Value)->Heap->Prop}{YP:World->Heap->Prop}{d:DefRec}
  (hn:l.most=some n) (hdf:d.params.defaults=[])
  (call:∀(w:World) (s₀ s₁:Shared) (mg mb:Str->Option Value) (fa:Addr) (o:Obj) (pm cd doc:Value) (a:Addr) (vs:List Value) (ns:List Int),
   Ground q loose [] XP w s₀ mg mb s₁.heap->YP w s₁.heap ->
   s₁.heap.get? fa=some o->o.data=.func (docDef d.name d.params d.body d.scope pm cd doc)->s₁.heap.CodeRec cd d.name->mg d.name=some (.ref fa) ->
   s₁.heap.get? a=some {cls:=.type "list",data:=.seq vs.toArray}->IntsAre vs ns->ns.length<=n->s₁.gens=#[] ->
   codeAny (model l.prog w) callerA (.call (.ref fa) ⟨[.ref a],[]⟩) (λr s'=>r=.ok (.ret (.bool true))/\OldK s₁.heap s'.heap/\s'.os=s₁.os/\AllBare s'.gens) s₁) :
  WalkO q loose XP YP l.row.toRowW d [] (λf vs=>PySem.call f vs):=by
 intro w s₀ s₁ mg mb G Y fa o pm cd doc dV kV ho hd hcd hD hmg hg args vals as hpre hlay hrd hwl hlo
 obtain rfl:dV=.none:=Dflts.none hD hdf
 obtain rfl:kV=.none:=Dflts.noKw hD
 obtain⟨a,vs,ns,rfl,rfl,hobj,hints,hlen⟩:=Ziv hn hpre hwl
 refine enter_call (codeAny_mono (call w s₀ s₁ mg mb fa o pm cd doc a vs ns G Y ho (fd_plain hd) hcd hmg hobj hints hlen hg) λr s' hq=>?_)
 obtain⟨rfl,h2,h3,h4⟩:=hq
 exact⟨.inl ⟨.bool true,.bool true,[],rfl,λ_=>rfl,.bool true,Ziw l _,λ_=>⟨List.Pairwise.nil,λ_ hm=>(nomatch hm)⟩⟩,h2,h3,h4⟩
end Att
namespace L2
open PySem PySem.Spec PyProof.Rows
theorem ZfE:∀{vs:List Value}{ns:List Int},IntsAre vs ns->Vals (ns.map V.int) vs
 |_,_,.nil=>.nil
 |_,_,.cons n t h=>.cons ⟨t,rfl⟩ (ZfE h)
noncomputable def Only (H:Hp):Prop:=∀b,H b=none\/∃o xs,H b=some (.frz o (.lst xs))
theorem Zjt {P:Program}{w:World}{K:PySem.W.Frag}{mg mb:Str->Option Value}{CX:CXT}{k:Nat}{fa a:Addr}{fd:FuncData}{x:Str}{sp:Sp}{s₁:Shared}{vs:List Value}{ns:List Int}
  (KX:K.In s₁.heap) (hns:s₁.heap.Ns mainGlobals mg) (hb:s₁.heap.Ns builtinsNs mb) (hbb:∀x:Str,x≠"__name__"->mb x=bootBuiltins x) (hlim:s₁.heap.NoLimit) (hg:s₁.gens=#[])
  (ha:s₁.heap.get? a=some {cls:=.type "list",data:=.seq vs.toArray}) (hi:IntsAre vs ns) (hl:ns.length<=sizeLine) (hr:Room k callerA)
  (F:∀base:Heap,K.In base->base.Ns mainGlobals mg->FnOk P w K mg base CX k fa fd [x] sp) (hbind:∀(s:Shared) (u:Value),BindsTo s fd ⟨[u],[]⟩ [(x,u)])
  (hsp:∀H:Hp,Only H->SqL K H a (ns.map V.int)->sp [.ref a] H (λv _=>v=.bl true) λ_ _ _=>False)
  (hCX:∀H e s',CX [] H s₁ (λ_ _ _=>False) e s'->False) :
  codeAny (model P w) callerA (.call (.ref fa) ⟨[.ref a],[]⟩) (λr s'=>r=.ok (.ret (.bool true))/\OldK s₁.heap s'.heap/\s'.os=s₁.os/\AllBare s'.gens) s₁:=by
 have rv:=ZfE hi
 have lenV:=hi.length
 -- from an abstract heap in which nothing but the script may be tracked
 have core:∀H:Hp,Only H->SqL K H a (ns.map V.int)->HOk P w H s₁.heap->(∀b,H b≠none->b=a)->(H a≠none->K.lookup a=none) ->
   codeAny (model P w) callerA (.call (.ref fa) ⟨[.ref a],[]⟩) (λr s'=>r=.ok (.ret (.bool true))/\OldK s₁.heap s'.heap/\s'.os=s₁.os/\AllBare s'.gens) s₁:=by
  intro H hO hS hok hA hK
  have base_of:∀{b:Addr}{o:Obj},s₁.heap.get? b=some o->H b=none->(ZfV s₁.heap H).get? b=some o:=λe n=>Zi9 e n
  have noA:∀{b:Addr}{o:Obj}{es:Array DictEntry}{ep:Nat},s₁.heap.get? b=some o->o.data=.dict es ep->H b=none:=λ{b o es ep} e d=>by
   cases q:H b with
   |none=>rfl
   |some u =>
    have e':b=a:=hA b (by rw[q];simp)
    subst e'
    rw[ha]at e;cases e
    have d':Data.seq vs.toArray _=Data.dict es ep:=d
    cases d'
  have nsK:∀{b:Addr}{m:Str->Option Value},s₁.heap.Ns b m->(ZfV s₁.heap H).Ns b m:=λ{b m} ⟨o,es,ep,e,d,r⟩=>⟨o,es,ep,base_of e (noA e d),d,r⟩
  have hKb:K.In (ZfV s₁.heap H):=λb o e=>base_of (KX b o e) (by
   cases q:H b with
   |none=>rfl
   |some u =>
    have e':b=a:=hA b (by rw[q];simp)
    subst e'
    rw[hK (by rw[q];simp)]at e;cases e)
  have hM:Mod K mg (ZfV s₁.heap H):=⟨hKb,nsK hns,⟨mb,nsK hb,hbb⟩,let ⟨mc,h1,h2⟩:=hlim;⟨mc,nsK h1,h2⟩⟩
  have e0:Env0 P w K mg (ZfV s₁.heap H) callerA [] s₁ H:=⟨rfl,hM,λb o e=>ZkP e,Nat.le_of_eq (Zil _ _),trivial,λb hb=>absurd (show b∈([]:List Addr)from hb) (by simp),hok,.of_eq hg⟩
  refine codeAny_mono ((F _ hKb (nsK hns)).run callerA [] s₁ H ⟨[.ref a],[]⟩ [.ref a] [.ref a] _ _ hr e0 (hbind s₁ (.ref a)) (.cons rfl .nil) (hsp H hO hS)) λr s' h=>?_
  cases r with
  |error e=>exact(hCX H e s' h).elim
  |ok fl =>
   cases fl with
   |next=>exact False.elim h
   |brk=>exact False.elim h
   |cont=>exact False.elim h
   |ret u =>
    obtain⟨v,H',os,bare,un,hok',r',q⟩:=h
    have q':v=.bl true:=q
    subst q'
    obtain rfl:u=Value.bool true:=r'
    refine⟨rfl,OldK.of_keep λb o e=>?_,os,bare⟩
    cases q:H b with
    |none=>exact un.keep b o e q (by intro z;exact absurd (show b∈([]:List Addr)from z) (by simp)) (by simp)
    |some u =>
     rcases hO b with z|⟨ob,xs,z⟩
     ·rw[q]at z;cases z
     ·have z2:=un.frzs b ob _ z
      obtain⟨e1,_⟩:=hok b _ z
      obtain⟨e2,_⟩:=hok' b _ z2
      rw[e]at e1;cases e1
      exact e2
 cases hk:K.lookup a with
 |some o =>
  -- the script is one of the module's own objects
  have e:=KX a o hk
  rw[ha]at e
  cases e
  refine core (λ_=>none) (λ_=>.inl rfl) (.inr ⟨_,vs.toArray,_,hk,rfl,rfl,rfl,by rw[Yi,lenV];exact hl,by simpa using rv⟩) (λb u z=>by have z':(none:Option HO)=some u:=z;cases z') (λb z=>absurd rfl z) λz=>absurd rfl z
 |none =>
  refine core (λb=>if b=a then some (.frz {cls:=.type "list",data:=.seq vs.toArray} (.lst (ns.map V.int)))else none) (λb=>?_) (.inl (.inr ⟨{cls:=.type "list",data:=.seq vs.toArray},Ye rfl⟩)) (λb u z=>?_) (λb z=>?_) λ_=>hk
  ·by_cases hb:b=a
   ·exact .inr ⟨_,_,Ye hb⟩
   ·exact .inl (Yb hb)
  ·by_cases hb:b=a
   ·have z':=(Ye hb).symm.trans z
    cases z'
    subst hb
    exact⟨ha,by rw[Yp];exact hl,vs,_,rv,ha⟩
   ·have z':=(Yb hb).symm.trans z
    cases z'
  ·by_cases hb:b=a
   ·exact hb
   ·exact absurd (Yb hb) z
theorem ZkW {l:PySem.W.OpenLaw}{n k:Nat}{q:Program}{loose:List Str}{XP:(Str->Option Value)->Heap->Prop}{YP:World->Heap->Prop}{d:DefRec}{K:Params->PySem.W.Frag}{CX:World->CXT}{sp:World->Sp}{x:Str}
  (hn:l.most=some n) (hn2:n<=sizeLine) (hdf:d.params.defaults=[]) (hr:Room k callerA)
  (hY:∀(w:World) (h:Heap),YP w h->(K w.params).In h)
  (F:∀(w:World) (mg:Str->Option Value) (fa:Addr) (h:Heap),(K w.params).In h->h.Ns mainGlobals mg->mg d.name=some (.ref fa) ->
   ∃fd:FuncData,(∀(s:Shared) (u:Value),BindsTo s fd ⟨[u],[]⟩ [(x,u)]) /\
    ∀base:Heap,(K w.params).In base->base.Ns mainGlobals mg->FnOk l.prog w (K w.params) mg base (CX w) k fa fd [x] (sp w))
  (hsp:∀(w:World) (H:Hp) (a:Addr) (ns:List Int),ns.length<=n->Only H->SqL (K w.params) H a (ns.map V.int)->sp w [.ref a] H (λv _=>v=.bl true) λ_ _ _=>False)
  (hCX:∀(w:World) (H:Hp) (s:Shared) (e:Value) (s':Shared),CX w [] H s (λ_ _ _=>False) e s'->False) :
  PySem.W.WalkO q loose XP YP l.row.toRowW d [] (λf vs=>PySem.call f vs):=by
 refine Att.ZgJ hn hdf λw s₀ s₁ mg mb fa o pm cd doc a vs ns G Y ho hd hcd hmg hobj hints hlen hg=>?_
 have KX:=hY w _ Y
 obtain⟨fd,hb,hF⟩:=F w mg fa _ KX G.T.g hmg
 exact Zjt KX G.T.g G.T.b G.T.builtins G.T.nolimit hg hobj hints (Yd hlen hn2) hr hF hb (λH hO hS=>hsp w H a ns hlen hO hS) λH e s'=>hCX w H s₁ e s'
noncomputable def inClass (s:Stmt) (j:Nat):Stmt:=match s with
 |.ClassDef _ _ _ body _ _ _ _ _ _ _=>body.getD j (.Pass ⟨0,0,0,0⟩)
 |_=>.Pass ⟨0,0,0,0⟩
noncomputable def defArgs (s:Stmt):Arguments:=match s with
 |.FunctionDef _ a _ _ _ _ _ _ _ _=>a
 |_=>{posonlyargs:=[],args:=[],vararg:=none,kwonlyargs:=[],kw_defaults:=[],kwarg:=none,defaults:=[]}
noncomputable def defBody (s:Stmt):List Stmt:=match s with
 |.FunctionDef _ _ b _ _ _ _ _ _ _=>b
 |_=>[]
noncomputable def defScope (s:Stmt):Scope:=match s with
 |.FunctionDef _ _ _ _ _ _ sc _ _ _=>sc
 |_=>{kind:=.function,names:=[],isGenerator:=false,isCoroutine:=false}
noncomputable abbrev E0:XK:=λ_ _ _=>False
structure Fun (K:PySem.W.Frag) (x qual:Str) (st:Stmt) (f:Addr) (fd:FuncData):Prop where
 ex:∃(oc:Value) (od:Option Addr) (kV doc pm:Value) (an:Option Addr) (cdv ct:Value) (osl:Array (Option Value)),
  fd=PySem.W.fnOf x qual (defArgs st) (defBody st) (defScope st) .none kV doc pm an cdv ct/\K.lookup f=some ⟨oc,od,.func fd,osl⟩/\PySem.W.codeIn K cdv qual=true
 kp:PySem.W.keepIn K (.ref f)=true
section
variable {P:Program}{w:World}{K:PySem.W.Frag}{mg:Str->Option Value}{base:Heap}
theorem Fun.binds {x qual:Str}{st:Stmt}{f:Addr}{fd:FuncData}{ps:List Str} (F:Fun K x qual st f fd)
  (h:∀(kV doc pm:Value) (an:Option Addr) (cdv ct:Value) (us:List Value),us.length=ps.length->bindArgs (PySem.W.fnOf x qual (defArgs st) (defBody st) (defScope st) .none kV doc pm an cdv ct) ⟨us,[]⟩=pure (ps.zip us)):Binds K fd ps []:=by
 obtain⟨oc,od,kV,doc,pm,an,cdv,ct,osl,rfl,lk,hcd⟩:=F.ex
 exact .all (h kV doc pm an cdv ct)
theorem ZH {x qual:Str}{st:Stmt}{f:Addr}{oc:Value}{od an:Option Addr}{osl:Array (Option Value)}{kV doc pm cdv ct:Value} (l:K.lookup f=some ⟨oc,od,.func (PySem.W.fnOf x qual (defArgs st) (defBody st) (defScope st) .none kV doc pm an cdv ct),osl⟩)
  (c:PySem.W.codeIn K cdv qual=true) (k:PySem.W.keepIn K (.ref f)=true):Fun K x qual st f (PySem.W.fnOf x qual (defArgs st) (defBody st) (defScope st) .none kV doc pm an cdv ct):=⟨⟨oc,od,kV,doc,pm,an,cdv,ct,osl,rfl,l,c⟩,k⟩
end
section
variable {X:Cx}
theorem pv (i:Nat) {x:Str}{pos:Pos} (hN:X.N[i]?=some x:=by rfl) (hv:Vis X.env.scope x:=by first|exact Or.inl rfl|exact Or.inr (Or.inl rfl)|exact Or.inr (Or.inr rfl)) (hd:(x==("__debug__":Str))=false:=by decide)
  (hcd:(x==("__classdict__":Str))=false:=by decide):PE X (.Name x pos) (tVar i):=pe_var hN hv hd hcd
end
theorem Zs {c A B:Prop} [Decidable c] (h1:c->A) (h2:¬ c->B):if c then A else B:=by
 by_cases h:c
 ·rw[Ye h]
  exact h1 h
 ·rw[Yb h]
  exact h2 h
noncomputable def Same (H H':Hp):Prop:=∀b o,H b=some o->H' b=some o
theorem Same.refl (H:Hp):Same H H:=λ_ _ h=>h
theorem Same.trans {H H1 H2:Hp} (a:Same H H1) (b:Same H1 H2):Same H H2:=λc o h=>b c o (a c o h)
theorem Same.free {H H':Hp} (e:Same H H') {l:Addr} (h:H' l=Option.none):H l=Option.none:=by
 cases q:H l with
 |none=>rfl
 |some o =>
  rw[e l o q]at h
  cases h
theorem Same.seq {K:PySem.W.Frag}{H H':Hp}{a:Addr}{xs:List V} (e:Same H H') (h:SqL K H a xs):SqL K H' a xs:=by
 rcases h with(h|⟨o,h⟩)|h
 ·exact .inl (.inl (e _ _ h))
 ·exact .inl (.inr ⟨o,e _ _ h⟩)
 ·exact .inr h
theorem ZcY {env:Env}:∀(names:List (Str×NameKind)) (cs0:List (Str×Addr)),(∀y∈names,y.2=.free->∃c,env.cells.lookup y.1=some c) ->
  ∃cl,(forIn names cs0 (λ(x:Str×NameKind) r=>(do
   match x with
   |(name,kind)=>if (kind==NameKind.free)=true then do let a <-cellOf env name;pure (ForInStep.yield ((name,a)::r))else pure (ForInStep.yield r)):_->_->Sem (ForInStep (List (Str×Addr)))))=pure cl /\
   (∀p∈cl,p∈cs0\/env.cells.lookup p.1=some p.2)/\(∀p∈cs0,p∈cl)/\(∀y∈names,y.2=.free->∃c,(y.1,c)∈cl)
 |[],cs0,_=>⟨cs0,rfl,λp h=>.inl h,λp h=>h,λy h=>by cases h⟩
 |(n,k)::r,cs0,h=>by
  by_cases hk:k=.free
  ·subst hk
   obtain⟨c,hc⟩:=h (n,.free) (.head _) rfl
   obtain⟨cl,e,h1,h2,h3⟩:=ZcY r ((n,c)::cs0) λy hy=>h y (.tail _ hy)
   refine⟨cl,?_,λp hp=>?_,λp hp=>h2 p (.tail _ hp),λy hy hf=>?_⟩
   ·rw[List.forIn_cons]
    have e1:cellOf env n=pure c:=by unfold cellOf;rw[hc]
    simp only[beq_self_eq_true,if_true,e1,pure_bind]
    exact e
   ·rcases h1 p hp with q|q
    ·rcases Yj.mp q with q|q
     ·subst q;exact .inr hc
     ·exact .inl q
    ·exact .inr q
   ·rcases Yj.mp hy with q|q
    ·subst q;exact⟨c,h2 _ (.head _)⟩
    ·exact h3 y q hf
  ·obtain⟨cl,e,h1,h2,h3⟩:=ZcY r cs0 λy hy=>h y (.tail _ hy)
   refine⟨cl,?_,h1,h2,λy hy hf=>?_⟩
   ·rw[List.forIn_cons]
    have e1:(k==NameKind.free)=false:=by cases k<;>first|rfl|exact absurd rfl hk
    simp only[e1,Bool.false_eq_true,if_false,pure_bind]
    exact e
   ·rcases Yj.mp hy with q|q
    ·subst q;exact absurd hf hk
    ·exact h3 y q hf
theorem Zaa {env:Env}:∀{names:List (Str×NameKind)}{x:Str}{k:NameKind},(names.map λ(n,k)=>if (k==NameKind.free&&env.scope.kind==.function&&env.kindOf n==some .cell)then (n,NameKind.cell)else (n,k)).lookup x=some k ->
  ∃k',names.lookup x=some k'/\(k=k'\/(k'=.free/\k=.cell))
 |[],_,_,h=>by simp at h
 |(n,k0)::r,x,k,h=>by
  by_cases hx:x=n
  ·subst hx
   refine⟨k0,by simp,?_⟩
   simp only[YA]at h
   split at h
   ·rename_i hc
    simp only[Bool.and_eq_true,beq_iff_eq]at hc
    simp only[List.lookup_cons_self,Option.some.injEq]at h
    exact .inr ⟨hc.1.1,h.symm⟩
   ·simp only[List.lookup_cons_self,Option.some.injEq]at h
    exact .inl h.symm
  ·have hb:(x==n)=false:=by simpa using hx
   simp only[YA]at h
   have e2:∀k1,((n,k1)::r).lookup x=r.lookup x:=λk1=>by simp[List.lookup_cons,hb]
   split at h<;>(simp only[List.lookup_cons,hb]at h;obtain⟨k',h1,h2⟩:=Zaa h;exact⟨k',by rw[e2];exact h1,h2⟩)
noncomputable def Zju (X:Cx) (Nc:List Str) (scope:Scope) (cl:List (Str×Addr)) (C:Addr) (s2:Shared) (H2:Hp) (fp:List Addr):Cx where
 prog:=X.prog
 w:=X.w
 K:=X.K
 mg:=X.mg
 base:=X.base
 A:=X.A
 N:=Nc
 s₀:=s2
 H₀:=H2
 env:=compEnvC scope cl C X.env
 outer:=X.stack
 stack:=X.stack
 ex:=fp
 fn:=λ_=>false
 calm:=X.calm
 pn:=[]
 xe:=λ_ _=>False
noncomputable def iniC (js:List (Option Nat)) (σ:St):St:=js.map λj=>match j with
 |none=>none
 |some i=>(σ[i]?).join
noncomputable def Zan (N Nc:List Str) (scope:Scope):List (Option Nat)->Nat->Bool
 |[],i=>i==Nc.length
 |none::r,i=>Zan N Nc scope r (i+1)
 |some j::r,i=>(match Nc[i]?,N[j]? with
  |some x,some y=>x==y&&scope.names.lookup x==some .free
  |_,_=>false)&&Zan N Nc scope r (i+1)
theorem ZcZ {N Nc:List Str}{scope:Scope}:∀{js:List (Option Nat)}{i:Nat},Zan N Nc scope js i=true->i+js.length=Nc.length
 |[],i,h=>by simpa[Zan]using h
 |none::r,i,h=>by
  have:=ZcZ (js:=r) (i:=i+1) (by simpa[Zan]using h)
  simp only[Yr];omega
 |some j::r,i,h=>by
  simp only[Zan,Bool.and_eq_true]at h
  have:=ZcZ (js:=r) (i:=i+1) h.2
  simp only[Yr];omega
theorem ZdT {N Nc:List Str}{scope:Scope}:∀{js:List (Option Nat)}{i k j:Nat},Zan N Nc scope js i=true->js[k]?=some (some j)->∃x,Nc[i+k]?=some x/\N[j]?=some x/\scope.names.lookup x=some .free
 |[],i,k,j,h,e=>by simp at e
 |none::r,i,0,j,h,e=>by simp at e
 |none::r,i,k+1,j,h,e=>by
  obtain⟨x,h1,h2,h3⟩:=ZdT (js:=r) (i:=i+1) (k:=k) (j:=j) (by simpa[Zan]using h) (by simpa using e)
  exact⟨x,by rw[<-h1];congr 1;omega,h2,h3⟩
 |some j0::r,i,0,j,h,e=>by
  simp only[Zan,Bool.and_eq_true]at h
  simp only[List.getElem?_cons_zero,Option.some.injEq]at e
  subst e
  cases e1:Nc[i]? with
  |none=>rw[e1]at h;simp at h
  |some x =>
   cases e2:N[j0]? with
   |none=>rw[e1,e2]at h;simp at h
   |some y =>
    rw[e1,e2]at h
    simp only[Bool.and_eq_true,beq_iff_eq]at h
    exact⟨x,by simpa using e1,by rw[h.1.1],h.1.2⟩
 |some j0::r,i,k+1,j,h,e=>by
  simp only[Zan,Bool.and_eq_true]at h
  obtain⟨x,h1,h2,h3⟩:=ZdT (js:=r) (i:=i+1) (k:=k) (j:=j) h.2 (by simpa using e)
  exact⟨x,by rw[<-h1];congr 1;omega,h2,h3⟩
section
variable {X:Cx}
theorem lookup_mem {names:List (Str×NameKind)}{x:Str}{k:NameKind} (h:names.lookup x=some k):(x,k)∈names:=PySem.mem_of_lookup h
theorem Zcg {prog:Program}{w:World}{A:Around}{R:Result->Shared->Prop}{s:Shared}{elt target iter:Expr}{ifs:List Expr}{scope:Scope}{pos:Pos}{it acc:Value}{env:Env} (I:Nat->Shared->Prop)
  (turn:∀n s,I n s->wpAny (model prog w) A (pyNext it) (λr s₁=>match r with
   |none=>R (.ok .next) s₁
   |some v=>wpAny (model prog w) A (letOwnedTupleGo target it v) (λ_ s₁=>wpAny (model prog w) A (assign target env v) (λ_ s₂ =>
     wpAny (model prog w) A (forIn ifs true λc r=>if r=true then do let ok <-isTrue c env (eval c env);pure (ForInStep.yield ok)else pure (ForInStep.yield r)) (λok s₃ =>
      if ok=true then wpAny (model prog w) A (eval elt env) (λx s₄ =>
       wpAny (model prog w) A (call (.builtin "list.append") [acc,x]) (λ_ s₅=>∃m,m<n/\I m s₅) (λ_ _=>False) s₄) (λ_ _=>False) s₃
      else ∃m,m<n/\I m s₃) (λ_ _=>False) s₂) (λ_ _=>False) s₁) (λ_ _=>False) s₁) (λ_ _=>False) s)
  (n:Nat) (h:I n s) :
  codeAny (model prog w) A (.compLoop (.ListComp elt [⟨target,iter,ifs,0⟩] scope pos) 0 it acc env) R s:=by
 refine codeAny_loop rfl I (λn s hI=>?_) n h
 show wpAny _ A ((compTurn (.ListComp elt [⟨target,iter,ifs,0⟩] scope pos) 0 it acc env).onRaise (λx=>do noteFrame x env;theTreesLotGoes x)) _ _ s
 refine wpAny_noted ?_
 rw[compTurn_list]
 refine Ya (wpAny_standAt (Ya (Yz (turn n s hI) (λr s₁ h₁=>?_) λ_ _ h'=>h'.elim)))
 cases r with
 |none=>exact Yc h₁
 |some v =>
  refine Ya (Yz h₁ (λ_ s₁' h₁=>?_) λ_ _ h'=>h'.elim)
  refine Ya (Yz h₁ (λ_ s₂ h₂=>Ya (Yz h₂ (λok s₃ h₃=>?_) λ_ _ h'=>h'.elim)) λ_ _ h'=>h'.elim)
  cases ok with
  |false=>exact Yc ⟨rfl,h₃⟩
  |true =>
   exact Ya (Ya (Yz h₃ (λx s₄ h₄=>Ya (Yz h₄ (λ_ s₅ h₅=>Yc (Yc ⟨rfl,h₅⟩)) λ_ _ h'=>h'.elim)) λ_ _ h'=>h'.elim))
noncomputable def PIfs (X:Cx) (ifs:List Expr) (t:TT):Prop :=
 ∀(pins:List (Addr×Obj)) (s:Shared) (σ:St) (H:Hp) (Q:Bool->Hp->Prop),Inv X pins σ H s->t σ H Q ->
  wpAny (model X.prog X.w) X.A (forIn ifs true λc r=>if r=true then do let ok <-isTrue c X.env (eval c X.env);pure (ForInStep.yield ok)else pure (ForInStep.yield r)) (TP X pins σ Q) X.xe s
noncomputable def tYes:TT:=λ_ H Q=>Q true H
theorem Zbv:PIfs X [] tYes:=λpins s σ H Q I h=>wpAny_tests_nil ⟨H,I,h⟩
noncomputable def Zjv (L:List Nat) (σ σ':St):Prop:=σ'.length=σ.length/\∀k,k∉L->σ'[k]?=σ[k]?
noncomputable def ZhT (g:TG) (L:List Nat):Prop:=∀v σ H (Q Q':St->Hp->Prop),(∀σ' H',Zjv L σ σ'->Q σ' H'->Q' σ' H')->g v σ H Q->g v σ H Q'
theorem Za2 {i:Nat}:ZhT (gName i) [i]:=λv σ H Q Q' hq h=>hq _ _ ⟨by simp,λk hk=>by
 rw[List.getElem?_set_ne]
 intro z;subst z;exact hk (by simp)⟩ h
noncomputable def ZhU (wi:TI) (g:TG) (tt:TT) (te:TE) (js:List (Option Nat)):TE:=fun σ H Q=>wi σ H λJ H1=>∃W:Nat->Nat->List V->Hp->Prop,(∃m,W 0 m [] H1)/\∀i m acc H,W i m acc H ->
 (J.stop i H/\acc.length<=sizeLine/\∀p,H p=none->Q (.ref p) (upd H p (.lst acc))) \/
 (J.go i H/\acc.length<sizeLine/\∀x H',J.yld i H x H'->g x (iniC js σ) H' fun σ2 H2=>tt σ2 H2 λb H3=>if b=true then te σ2 H3 λv H4=>∃m',m'<m/\W (i+1) m' (acc++[v]) H4 else ∃m',m'<m/\W (i+1) m' acc H3)
theorem Zgc {C:Addr}{h:Heap}:Heap.SameBut C h h:=by
 first|exact Heap.SameBut.refl|exact⟨rfl,λ_ _=>rfl⟩
end
end L2
namespace L2
open PySem PySem.Spec PyProof.Rows PySem.W PySem.Builtin.ObjectAttr PySem.Builtin.Getset_descriptor
noncomputable def ZgK (x C:Addr) (h:Heap):Prop:=∃o,h.get? x=some o/\o.cls=.ref C
structure ExK (K:Frag) (C:Addr):Prop where
 dk:hasDictIn K C=true
 ga:findIn K (.ref C) "__getattribute__"=some (some (.builtin "BaseException.__getattribute__"))
 gt:findIn K (.ref C) "__getattr__"=some none
 cl:findIn K (.ref C) "__class__"=some (some (.builtin "object.__class__"))
 gg:specialIn K (.builtin "object.__class__") "__get__"=some (some (.builtin "getset_descriptor.__get__"))
 tk:takesIn K (.builtin "object.__class__")=some true
 mo:mroIn K C (.type "object")=some true
 mb:mroIn K C (.type "BaseException")=some true
section
variable {K:Frag}{x C:Addr}
theorem ZgK.type {M:Model}{h:Heap} (I:ZgK x C h):Looks M h (typeOf (.ref x)) (.ref C):=by
 obtain⟨o,e,c⟩:=I
 exact c▸(Looks.ld e).andThen .now
theorem Zjw {M:Model}{h:Heap} (X:K.In h) (Z:ExK K C):Looks M h (find (.ref x) (.ref C) "__class__") (.bind (.builtin "getset_descriptor.__get__") (.builtin "object.__class__")):=by
 have L3:=looks_takesIn (M:=M) X Z.tk
 exact(looks_findIn (M:=M) X Z.cl).andThen ((looks_specialIn X Z.gg).andThen
  ((show Looks M h (dataDescriptor? (some (.builtin "object.__class__")) (some (.builtin "getset_descriptor.__get__"))) (some (.builtin "getset_descriptor.__get__",.builtin "object.__class__"))from L3.andThen .now).andThen (Looks.tag .now)))
theorem ZkX {prog:Program}{w:World}{A:Around}{R:Result->Shared->Prop}{s:Shared}{tp:Value} (X:K.In s.heap) (I:ZgK x C s.heap) (Z:ExK K C) (hR:R (.ok (.ret (.ref C))) s) :
  codeAny (model prog w) A (.call (.builtin "getset_descriptor.__get__") ⟨[.builtin "object.__class__",.ref x,tp],[]⟩) R s:=by
 obtain⟨hp,gn,dw,tk,os⟩:=s
 have L0:=I.type (M:=model prog w)
 have L1:=looks_mroIn (M:=model prog w) X Z.mo
 refine codeAny_call_builtin KF.slot_gs.plain KF.entry_gs (KF.slot_gs.check _ _ _ _ _ _ _ _ KF.type_class (KF.args_gs _ _ _) ?_)
 unfold Builtin.«getset_descriptor.__get__» descrGet;rw[dga_obj];refine Ya (Yc ?_)
 unfold descrGetter descrCheckInstance descrNameAndClass isInstance;simp only[KF.owner_class]
 repeat lk
 refine⟨Code.quiet_builtin _ (by decide +kernel),codeAny_builtin KF.entry_class ?_⟩;unfold Builtin.«object.__class__» shownTypeOf
 repeat lk
 exact hR
theorem Zix {prog:Program}{w:World}{A:Around}{E:Value->Shared->Prop}{s:Shared}{tk:Tok}{Q:Fin->Shared->Prop} (X:K.In s.heap) (I:ZgK x C s.heap) (Z:ExK K C) (hQ:Q (.done (.ret (.ref C))) s) :
  wpAny (model prog w) A (Builtin.«object.__getattribute__» ⟨[.ref x,.str "__class__" tk],[]⟩) Q E s:=by
 obtain⟨hp,gn,dw,t,os⟩:=s
 have L0:=I.type (M:=model prog w)
 have L2:=Zjw (M:=model prog w) (x:=x) X Z
 unfold Builtin.«object.__getattribute__»
 refine Ya (Yc (Ya (Yc (Ya (L0.at (Ya (L2.at ?_)))))))
 show wpAny _ _ (holding _ (call _ _) >>= ret) _ _ _
 exact Ya (YF (wpAny_call (ZkX (s:=⟨hp,gn,dw,t,os⟩) X I Z (Yc hQ))))
theorem Ziy {M:Model}{A:Around}{E:Value->Shared->Prop}{s:Shared}{nameV:Value}{Q:Unit->Shared->Prop} (X:K.In s.heap) (I:ZgK x C s.heap) (Z:ExK K C) (hq:Q () s) :
  wpAny M A (checkBuiltinCall "BaseException.__getattribute__" ⟨[.ref x,nameV],[]⟩) Q E s:=by
 obtain⟨hp,gn,dw,t,os⟩:=s
 have hk:builtinKind "BaseException.__getattribute__"=some .slot:=by decide +kernel
 have hsplit:splitId "BaseException.__getattribute__"=some ("BaseException","__getattribute__"):=by decide +kernel
 have L0:=I.type (M:=M)
 have L1:=looks_mroIn (M:=M) X Z.mb
 have ha:=F.args_bexc_ga (.ref x) nameV
 simp only[checkBuiltinCall,hk,hsplit]
 refine Ya ?_
 unfold isInstance
 refine Ya (L0.at (L1.at ?_))
 repeat (first|assumption|wp_step)
theorem Ziz {prog:Program}{w:World}{A:Around}{E:Value->Shared->Prop}{s:Shared}{Q:Option Value->Shared->Prop} (X:K.In s.heap) (I:ZgK x C s.heap) (Z:ExK K C) (hQ:Q (some (.ref C)) {s with toks:=s.toks+1}) :
  wpAny (model prog w) A (getAttr? (.ref x) "__class__") Q E s:=by
 obtain⟨hp,gn,dw,tk,os⟩:=s
 have L0:=I.type (M:=model prog w)
 have L1:=looks_findIn (M:=model prog w) X Z.ga
 have L3:=looks_findIn (M:=model prog w) X Z.gt
 have hb:=(F.attrBase_ValueError.ga).bind (.ref x)
 unfold getAttr? getAttrBy? getAttrBy;refine Ya (wpAny_mkText (Ya (wpAny_attempt (YF (Ya (L0.at (Ya (L1.at ?_))))))))
 show wpAny _ _ (getAttrByItsOwn _ _ _ _ _ _) _ _ _
 unfold getAttrByItsOwn hookBefore
 refine Ya (L3.at ?_)
 refine Ya (wpAny_attempt (YF ?_))
 unfold callGetattribute
 show wpAny _ _ (boundAndCalled _ _ _) _ _ _
 unfold boundAndCalled
 rw[hb]
 refine Ya (Yc ?_)
 refine wpAny_call ?_
 refine codeAny_call_builtin F.attrBase_ValueError.ga.plain F.entry_bexc_ga (Ziy (s:=⟨hp,gn,dw,tk+1,os⟩) X I Z (Zix (s:=⟨hp,gn,dw,tk+1,os⟩) X I Z ?_))
 exact handed_on rfl (Yc hQ)
theorem ZkY (Z:ExK K C):KitX K (.ref x) (.ref C) (ZgK x C) where
 ty:=λ_ _ _ I=>I.type
 it:=λ_ _ X _=>by
  obtain⟨cdD,hcD,_⟩:=any_some Z.dk
  unfold clsIn at hcD
  split at hcD
  ·rename_i c' d' cd' sl' ho
   intro A' Q' E' s' k q
   unfold isType loadHead;exact Ya (wpAny_loadPart (k _ _ (X _ _ ho)) (Yc q))
  ·cases hcD
 ne:=λh tp dd its n sl X htp=>by
  obtain⟨cdD,hcD,_⟩:=any_some Z.dk
  refine Bool.eq_false_iff.mpr λq=>?_
  have e:C=tp:=Value.ref.inj (beq_iff_eq.mp q);subst e
  unfold clsIn at hcD
  split at hcD
  ·rename_i c' d' cd' sl' ho
   have z:=(X _ _ ho).symm.trans htp;cases z
  ·cases hcD
 ca:=λX I k=>Ziz X I Z k
end
noncomputable def Zgd (e C:Addr):HO:=.ext (ZgK e C)
noncomputable def tyIs (K:Frag) (H:Hp) (x:V) (c:Value) (b:Bool):Prop :=
 (∃t,TyOf K H x t/\kitOne K t c=some b)\/∃e C,x=.ref e/\H e=some (Zgd e C)/\ExK K C/\kitOne K (.ref C) c=some b
noncomputable def cOf:V->Option Value
 |.ref a=>some (.ref a)
 |.ty n=>some (.type n)
 |_=>none
section
variable {X:Cx}
noncomputable def rIsi (K:Frag):List V->Hp->VK->Prop:=λxs H Q=>∃x v c b,xs=[x,v]/\cOf v=some c/\tyIs K H x c b/\Q (.bl b) H
theorem Zjx:Zay X (.builtin "isinstance") (rIsi X.K):=by
 intro pins s σ H xs us Q I r h
 obtain⟨x,v,c,b,rfl,hc,ht,q⟩:=h
 obtain⟨u,u2,rfl,ru,ru2⟩:=r.two
 have e2:u2=c:=by
  cases v with
  |ref a=>have:=(show u2=Value.ref a from ru2);cases hc;exact this
  |ty n=>have:=(show u2=Value.type n from ru2);cases hc;exact this
  |_=>cases hc
 subst e2
 have fin:∀tk,EP X pins σ Q (.bool b) {s with toks:=tk}:=λtk=>⟨.bl b,H,I.tok tk,rfl,q⟩
 rcases ht with⟨t,ty,e⟩|⟨e,C,rfl,hH,Z,e1⟩
 ·exact Zis I ru ty e fin
 ·cases(show u=Value.ref e from ru)
  obtain⟨p,_,_⟩:=(show ZZ X.prog X.w H s.heap e (Zgd e C)from I.hok e _ hH)
  exact kia_one (ZkY Z) I.kIn p e1 (λz=>nomatch z) fin
end
end L2
namespace L2
open PySem PySem.Spec PyProof.Rows
theorem ZZ.has {P:Program}{w:World}{H:Hp}{h:Heap}{a:Addr}{o:HO} (x:ZZ P w H h a o):∃u,h.get? a=some u:=by
 induction o with
 |lst xs=>obtain⟨_,_,_,_,e⟩:=x;exact⟨_,e⟩
 |tup xs=>obtain⟨_,_,_,o,e,_⟩:=x;exact⟨_,e⟩
 |dK kvs=>obtain⟨_,_,_,_,o,_,_,e,_⟩:=x;exact⟨_,e⟩
 |dT kvs=>obtain⟨_,_,_,_,o,_,_,e,_⟩:=x;exact⟨_,e⟩
 |set S n=>obtain⟨o,_,_,_,e,_⟩:=x;exact⟨_,e⟩
 |ins C dx fs=>obtain⟨_,_,_,e,_⟩:=x;exact⟨_,e⟩
 |own y=>exact x
 |xd fs=>obtain⟨_,⟨_,_,_,e,_⟩,_⟩:=x;exact⟨_,e⟩
 |rng lo hi=>obtain⟨_,_,_,e⟩:=x;exact⟨_,e⟩
 |frz ob u _=>obtain⟨e,_⟩:=x;exact⟨_,e⟩
 |tbl ps=>obtain⟨_,e,_⟩:=x;exact⟨_,e⟩
 |met f y=>exact⟨_,x⟩
 |ext φ=>obtain⟨_,e,_⟩:=x;exact e
structure Fly (P:Program) (w:World) (outer:List Env) (H:Hp) (s:Shared) (H':Hp) (B:Heap) (e:Addr) (C a0:Value) (s':Shared):Prop where
 os:s'.os=s.os
 bare:AllBare s'.gens
 fly:Heap.FlyingW B outer e C a0 s'.heap
 hok:HOk P w H' B
 keep:∀b o,s.heap.get? b=some o->H b=none->b∉frs outer->B.get? b=some o
 slot:∀b o,s.heap.get? b=some o->b∈frs outer->(∀vs,o.data≠.fields vs)->∃sl,s'.heap.get? b=some {o with slots:=sl}
 free:∀b o,s.heap.get? b=some o->H b=none->H' b=none
 there:∀b o,s.heap.get? b=some o->b∉frs outer->∃o',B.get? b=some o'
 tups:∀b xs,H b=some (.tup xs)->H' b=some (.tup xs)
 frzs:∀b o u,H b=some (.frz o u)->H' b=some (.frz o u)
 tbls:∀b ps,H b=some (.tbl ps)->∃more,H' b=some (.tbl (ps++more))
noncomputable def CXE (P:Program) (w:World):CXT:=λouter H s E ev s'=>∃e C a0 H' B,ev=.ref e/\Fly P w outer H s H' B e C a0 s'/\E C none H'
theorem Zu {P:Program}{w:World}{X:Cx}:Passes (CXE P w) X E0:=λ_ _ _ _ _ _ _ ⟨_,_,_,_,_,_,_,z⟩=>z.elim
section
variable {P:Program}{w:World}{K:PySem.W.Frag}{mg:Str->Option Value}{base:Heap}{N:List Str}{qual:Str}{scope:Scope}{f:Addr}{cd:Value}{A:Around}{outer:List Env}{s:Shared}{H:Hp}{E:XK}
theorem Zge {pins:List (Addr×Obj)}{σ:St}{H1:Hp}{s1:Shared}{h':Heap}{e:Addr}{C:Value}{vs:List Value} (I:Inv (ZdR (CXE P w) P w K mg base N qual scope f cd A outer s H E) pins σ H1 s1)
  (hx:Heap.MadeExcOf s1.heap h' e C vs) (hE:E C none H1):(ZdR (CXE P w) P w K mg base N qual scope f cd A outer s H E).xe (.ref e) {s1 with heap:=h'}:=by
 let env:=envOfC qual scope s.heap.objs.size f cd
 let B:=PySem.W.hideAll s1.heap (frs (env::outer))
 have hin:∀en∈(env::outer),∀b,en.frame=some b->b∈frs (env::outer):=λen he b hb=>List.mem_filterMap.mpr ⟨en,he,hb⟩
 have st:s1.heap.FunFrames base (env::outer):=I.stack
 have loc:∀b,b∈frs (env::outer)->b=s.heap.objs.size\/b∈frs outer:=λb hb=>Yj.mp (I.ZdN b hb)
 have old:∀b o,s.heap.get? b=some o->b∉frs outer->b∉frs (env::outer):=λb o q nb hb=>by
  rcases loc b hb with z|z
  ·exact absurd (Yh q) (by rw[z];exact Yx _)
  ·exact nb z
 have un:Un (frs outer) [] H H1 s.heap s1.heap:=I.base
 have hokB:HOk P w H1 B:=λa o q=>by
  have nf:∀b o,H1 b=some o->b∉frs (env::outer):=λb o z hb=>by
   have:=I.ZfW b hb
   rw[this]at z;cases z
  refine(I.hok a o q).ZfU (λb u hb z=>?_) (λ_ z=>z) (λ_ _ z=>z) λ_ _ _ z=>z
  rcases hb with hb|hb
  ·rw[hb]at z⊢;exact PySem.W.hideAll_get _ z (nf a o q)
  ·exact PySem.W.hideAll_get _ z (nf b _ hb)
 refine wpAny_leaves_madeW (base:=B) (h:=s1.heap) (env:=env) (outer:=outer) (L:=s.heap.objs.size) I.ok.frames rfl (λb o q=>PySem.W.of_hideAll _ q) (PySem.W.funFrames_hide st hin) hx λh2 t x1 x2 x3 x4=>?_
 refine⟨e,C,.ref t,H1,B,rfl,⟨I.os,I.bare,x1,hokB,λb o q n nb=>?_,λb o q hb hd=>?_,λb o q n=>un.free b o q n (by simp),λb o q nb=>?_,un.tups,un.frzs,un.tbls⟩,hE⟩
 ·exact PySem.W.hideAll_get _ (un.keep b o q n nb (by simp)) (old b o q nb)
 ·obtain⟨sl,z⟩:=un.slot b o q (I.ok.frf b hb) hb (by simp)
  obtain⟨sl2,z2⟩:=x4 b _ (hx.keeps _ _ z) hd
  exact⟨sl2,z2⟩
 ·obtain⟨o',z⟩:=un.there b o q (by simp)
  exact⟨o',PySem.W.hideAll_get _ z (old b o q nb)⟩
theorem Zao:Passes (CXE P w) (ZdR (CXE P w) P w K mg base N qual scope f cd A outer s H E) E:=by
 intro pins σ H1 s1 ev s2 I h
 obtain⟨e,C,a0,H',B,rfl,F,hE⟩:=h
 let env:=envOfC qual scope s.heap.objs.size f cd
 have un:Un (frs outer) [] H H1 s.heap s1.heap:=I.base
 have loc:∀b,b∈frs (env::outer)->b=s.heap.objs.size\/b∈frs outer:=λb hb=>Yj.mp (I.ZdN b hb)
 have old:∀b o,s.heap.get? b=some o->b∉frs outer->b∉frs (env::outer):=λb o q nb hb=>by
  rcases loc b hb with z|z
  ·exact absurd (Yh q) (by rw[z];exact Yx _)
  ·exact nb z
 refine wpAny_leaves_onW (env:=env) (outer:=outer) (L:=s.heap.objs.size) I.ok.frames rfl F.fly λh2 x1 x2=>?_
 refine⟨e,C,a0,H',B,rfl,⟨F.os.trans I.os,F.bare,x1,F.hok,λb o q n nb=>F.keep b o (un.keep b o q n nb (by simp)) (un.free b o q n (by simp)) (old b o q nb),λb o q hb hd=>?_,λb o q n=>?_,λb o q nb=>?_,λb xs z=>F.tups b xs (un.tups b xs z),λb o u z=>F.frzs b o u (un.frzs b o u z),λb ps z=>?_⟩,hE⟩
 ·obtain⟨sl,z⟩:=un.slot b o q (I.ok.frf b hb) hb (by simp)
  obtain⟨en,he,hf⟩:=List.mem_filterMap.mp hb
  obtain⟨sl2,z2⟩:=F.slot b _ z (List.mem_filterMap.mpr ⟨en,.tail _ he,hf⟩) hd
  obtain⟨sl3,z3⟩:=x2 b _ z2 hd
  exact⟨sl3,z3⟩
 ·by_cases hb:b∈frs outer
  ·have h1:H1 b=none:=un.free b o q n (by simp)
   obtain⟨sl,z⟩:=un.slot b o q n hb (by simp)
   exact F.free b _ z h1
  ·exact F.free b o (un.keep b o q n hb (by simp)) (un.free b o q n (by simp))
 ·obtain⟨o',z⟩:=un.there b o q (by simp)
  exact F.there b o' z (old b o q nb)
 ·obtain⟨m1,z1⟩:=un.tbls b ps z
  obtain⟨m2,z2⟩:=F.tbls b _ z1
  exact⟨m1++m2,by rw[<-Array.append_assoc];exact z2⟩
end
abbrev bmV:List Value:=[.type "ValueError",.type "Exception",.type "BaseException",.type "object"]
abbrev newV:String:="ValueError.__new__"
theorem Zjy {K:PySem.W.Frag}{h:Heap}{mg:Str->Option Value}{x:Str}{C:Addr} (X:K.In h) (hm:mg x=some (.ref C)) (q:PySem.W.excIn K C bmV newV=true):OwnCls x C bmV newV mg h:=by
 refine⟨hm,?_⟩
 unfold PySem.W.excIn at q;split at q
 ·rename_i dd cd sl ho
  split at q
  ·rename_i C' bm k0 k1 k2 k3 n k5 hmm hs
   simp only[Bool.and_eq_true,beq_iff_eq,Bool.not_eq_true']at q;obtain⟨⟨⟨⟨⟨rfl,rfl⟩,hdel⟩,ht⟩,hok⟩,hni⟩:=q
   obtain⟨nm,bs,mro,ns,qn,hd,sn,sub,ab,col,del⟩:=cd;dsimp only at hmm hdel hok hni;subst hmm hdel
   have hsl:sl=#[k0,k1,k2,k3,some (.builtin newV),k5]:=by obtain⟨l⟩:=sl;simp only at hs;rw[hs]
   subst hsl;exact⟨bm,ns,nm,qn,bs,hd,sn,sub,ab,col,dd,k0,k1,k2,k3,k5,_,X _ _ ho,.of_isNs (PySem.W.isNs_of_in X hok),PySem.W.nsMap_none_of_in X hok hni,PySem.W.tail_of_in X ht⟩
  ·cases q
 ·cases q
section
variable {X:Cx}
noncomputable def tRaise (C:Addr) (E:XK) (t:TA):TS:=λ_ σ H=>t σ H λvs H1=>vs.length<=sizeLine/\E (.ref C) none H1
theorem ZaO {x:Str}{C:Addr}{np cpos pos:Pos}{e0:Expr}{es:List Expr}{t:TA}{E:XK} (hc:X.calm=true) (hg:Gl X x) (hm:X.mg x=some (.ref C)) (q:PySem.W.excIn X.K C bmV newV=true) (ha:PA X (e0::es) t)
  (hx:∀pins σ H s h' e vs,Inv X pins σ H s->Heap.MadeExcOf s.heap h' e (.ref C) vs->E (.ref C) none H->X.xe (.ref e) {s with heap:=h'})
  (he:starEach (e0::es) X.env=(false,eval e0 X.env)::starEach es X.env:=by rfl) (hpl:(backTo cpos (starEach es X.env)).any (·.1)=false:=by rfl) (hd:(x==("__debug__":Str))=false:=by decide) :
  PS X (.Raise (some (.Call (.Name x np) (e0::es) [] cpos)) none pos) (tRaise C E t):=by
 intro pins s σ H D I h
 obtain⟨tl,Nn,nm,qn,bs,hdct,sn,sub,ab,col,dd,k0,k1,k2,k3,k5,mN,hC,hN,hni,T⟩:=(Zjy (x:=x) I.mod.kin hm q).obj
 refine wpAny_Raise_call_subT (C:=C) (nm:=nm) (q:=qn) (N:=Nn) (bs:=bs) (bm:=tl) (hdct:=hdct) (sn:=sn) (sub:=sub) (ab:=ab) (col:=col) (dd:=dd) (k0:=k0) (k1:=k1) (k2:=k2) (k3:=k3) (k5:=k5)
  PySem.F.excBase_ValueError (mN:=mN) (T.hasType PySem.F.excBase_ValueError.hasBase) (I.ok.hd hc) (by rw[he];show(false||(backTo cpos (starEach es X.env)).any (·.1))=false;rw[hpl];rfl) hni (Zdm I hg hm ⟨rfl,?_⟩ hd)
 have h2:=ha cpos pins s σ H _ I h
 rw[he]at h2⊢
 exact Calls.evalArgs_plain (thn h2 λus s2 ⟨vs,H2,I2,r,z,q2⟩=>⟨rfl,by rw[<-r.length];exact z,I2.bk _ _ hC,hN.keeps I2.bk,T.keeps I2.bk,λh' e hm'=>hx pins σ H2 s2 h' e us I2 hm' q2⟩)
end
noncomputable def Cx.tries (X:Cx) (Ec:St->XK) (pl:List (Addr×Obj)):Cx:={X with pn:=X.pn++pl,xe:=λev s'=>∃σ H s,Inv X pl σ H s/\CXE X.prog X.w X.stack H s (Ec σ) ev s'}
noncomputable def Cx.ZcQ (X:Cx) (A':Around):Cx:={X with A:=A',calm:=false,xe:=λ_ _=>False}
section
variable {X:Cx}
theorem Inv.tries {pins:List (Addr×Obj)}{σ:St}{H:Hp}{s:Shared} (I:Inv X pins σ H s) (Ec:St->XK):Inv (X.tries Ec pins) [] σ H s :=
 ⟨⟨I.ok.mod,I.ok.kind,I.ok.glob,I.ok.blt,I.ok.above,I.ok.inj,I.ok.has,I.ok.cab,I.ok.hd,I.ok.frames,I.ok.stk,I.ok.exf,I.ok.bs,I.ok.bsz,I.ok.noex,I.ok.exfs,I.ok.funs,I.ok.frf⟩,I.os,I.bare,I.base,I.loc,I.cell,I.free,I.freeC,
  λp hp=>I.pin p (by simpa[Cx.tries]using hp),I.hok,I.len⟩
theorem Inv.Zdr {pins pl:List (Addr×Obj)}{σ:St}{H:Hp}{s:Shared}{Ec:St->XK} (I:Inv (X.tries Ec pl) pins σ H s):Inv X pl σ H s :=
 ⟨⟨I.ok.mod,I.ok.kind,I.ok.glob,I.ok.blt,I.ok.above,I.ok.inj,I.ok.has,I.ok.cab,I.ok.hd,I.ok.frames,I.ok.stk,I.ok.exf,I.ok.bs,I.ok.bsz,I.ok.noex,I.ok.exfs,I.ok.funs,I.ok.frf⟩,I.os,I.bare,I.base,I.loc,I.cell,I.free,I.freeC,
  λp hp=>I.pin p (YN _ (by simpa[Cx.tries]using hp)),I.hok,I.len⟩
theorem Inv.ZcQ {pins:List (Addr×Obj)}{σ:St}{H:Hp}{s:Shared}{A':Around} (I:Inv X pins σ H s) (hA:A'.frames=X.A.frames):Inv (X.ZcQ A') pins σ H s :=
 ⟨⟨I.ok.mod,I.ok.kind,I.ok.glob,I.ok.blt,I.ok.above,I.ok.inj,I.ok.has,I.ok.cab,(λz=>nomatch z),hA.trans I.ok.frames,I.ok.stk,I.ok.exf,I.ok.bs,I.ok.bsz,I.ok.noex,I.ok.exfs,I.ok.funs,I.ok.frf⟩,I.os,I.bare,I.base,I.loc,I.cell,I.free,I.freeC,I.pin,I.hok,I.len⟩
theorem Inv.ZkZ {pins:List (Addr×Obj)}{σ:St}{H:Hp}{s:Shared}{A':Around} (ok:X.Ok) (I:Inv (X.ZcQ A') pins σ H s):Inv X pins σ H s :=
 ⟨ok,I.os,I.bare,I.base,I.loc,I.cell,I.free,I.freeC,I.pin,I.hok,I.len⟩
theorem passT {Ec:St->XK}{pl:List (Addr×Obj)}:∀pins σ H s ev s',Inv (X.tries Ec pl) pins σ H s->CXE X.prog X.w X.stack H s (Ec σ) ev s'->(X.tries Ec pl).xe ev s':=λpins σ H s ev s' I h=>⟨σ,H,s,I.Zdr,h⟩
theorem Zfj {M:Model}{A:Around}{E:Value->Shared->Prop}{C D:Addr}{nm' q':Str}{N':Addr}{bs' bm':List Value}{hdct':Bool}{sn':List Str}{sub':List Value}{ab':Bool}{col':Option Bool}{dd':Option Addr}{k0' k1' k2' k3' k5':Option Value}{newId':String}
  {h:Heap}{g:Array GenState}{d:Drawn}{t:Nat}{os:OsState}{e:Addr}{oe:Obj}{Q:Bool->Shared->Prop}
  (LC:PySem.W.Looks M h (isSubtype (.ref C) (.ref D)) true) (hD:h.get? D=some (excClassObj nm' q' D N' bs' bm' hdct' sn' sub' ab' col' dd' k0' k1' k2' k3' k5' newId'))
  (he:h.get? e=some oe) (hcls:oe.cls=.ref C) (hbase:bm'.contains (.type "BaseException")=true)
  (hq:Q true ⟨h,g,d,t,os⟩):wpAny M A (excMatches (.ref e) (.ref D)) Q E ⟨h,g,d,t,os⟩:=by
 have hcB:(Value.ref D::bm').contains (.type "BaseException")=true:=by rw[List.contains_cons,hbase,Bool.or_true]
 have f:=tc_notTuple
 unfold excMatches
 repeat (first|(with_reducible refine wpAny_loadPart_at he ?_;rw[hcls])|with_reducible refine wpAny_loadPart_at hD ?_|(with_reducible refine wpAny_isSubtype_exc hD ?_;rw[hcB])|(with_reducible refine LC.at ?_)|wp_step)
 exact hq
theorem Fly.land {pins:List (Addr×Obj)}{σ:St}{H1 H':Hp}{s1 s2:Shared}{B h5:Heap}{e C:Addr}{a0:Value} (I:Inv X pins σ H1 s1) (F:Fly X.prog X.w X.stack H1 s1 H' B e (.ref C) a0 s2)
  (fl:Heap.FlyingW B X.stack e (.ref C) a0 h5) (sm:s2.heap.UpToSlots h5):H' e=none/\Inv X pins σ (upd H' e (Zgd e C)) {s2 with heap:=h5}:=by
 obtain⟨oe,vs,hoe,hoc,hod,_⟩:=fl.first
 have nB:B.get? e=none:=fl.2.1
 have trk:∀b o,H' b=some o->b≠e:=λb o q z=>by
  obtain⟨u,hu⟩:=(F.hok b o q).has
  rw[z,nB]at hu;cases hu
 have hHe:H' e=none:=by
  cases q:H' e with
  |none=>rfl
  |some o=>exact absurd rfl (trk e o q)
 have nfr:e∉frs X.stack:=λhb=>by
  obtain⟨_,o,ho,hd⟩:=fl.2.2.1.mem hb
  rw[hoe]at ho;cases ho
  exact hd _ hod
 have frd:∀b o,s1.heap.get? b=some o->b∈frs X.stack->∀vs,o.data≠.fields vs:=λb o q hb=>by
  obtain⟨_,o',ho,hd⟩:=I.stack.mem hb
  rw[q]at ho;cases ho
  exact hd
 refine⟨hHe,I.call' (s':={s2 with heap:=h5}) (ch:=[]) F.os ⟨λb o q n nb _=>fl.1 b o (F.keep b o q n nb),λb o q n hb _=>?_,λb o q n _=>?_,λb o q _=>?_,λb xs q=>?_,λb o u q=>?_,λb ps q=>?_⟩ (λa o q=>?_) F.bare λb z=>absurd z (by simp)⟩
 ·obtain⟨sl,z⟩:=F.slot b o q hb (frd b o q hb)
  obtain⟨sl2,z2⟩:=sm b _ z (frd b o q hb)
  exact⟨sl2,z2⟩
 ·rw[Zj]
  ·exact F.free b o q n
  ·intro z
   by_cases hb:b∈frs X.stack
   ·exact nfr (z▸hb)
   ·have:=F.keep b o q n hb
    rw[z,nB]at this;cases this
 ·by_cases hb:b∈frs X.stack
  ·obtain⟨sl,z⟩:=F.slot b o q hb (frd b o q hb)
   obtain⟨sl2,z2⟩:=sm b _ z (frd b o q hb)
   exact⟨_,z2⟩
  ·obtain⟨o',z⟩:=F.there b o q hb
   exact⟨o',fl.1 b o' z⟩
 ·have z:=F.tups b xs q;rw[Zj (trk b _ z)];exact z
 ·have z:=F.frzs b o u q;rw[Zj (trk b _ z)];exact z
 ·obtain⟨m,z⟩:=F.tbls b ps q
  exact⟨m,by rw[Zj (trk b _ z)];exact z⟩
 ·by_cases ha:a=e
  ·subst ha
   rw[Zd]at q;cases q
   exact⟨⟨oe,hoe,hoc⟩,⟨oe,hoe⟩,λh1 h2 ⟨o,z1,z2⟩ k=>⟨o,k o z1,z2⟩⟩
  ·rw[Zj ha]at q
   exact(F.hok a o q).ZfU (λb u _ z=>fl.1 b u z) (λb z=>by rw[Zj (trk b _ z)];exact z) (λb xs z=>by rw[Zj (trk b _ z)];exact z) λb o u z=>by rw[Zj (trk b _ z)];exact z
theorem Inv.forget {pins:List (Addr×Obj)}{σ:St}{H:Hp}{s:Shared}{h':Heap}{j:Nat}{n:Str}{m:Str->Option Value}{u:Option Value} (I:Inv X pins σ H s) (hj:X.N[j]?=some n) (hN:X.N.Nodup)
  (hl:∀(i:Nat) (x:Str) (v:V),X.N[i]?=some x->σ[i]?=some (some v)->Vis X.env.scope x->∃u,RelV v u/\Look X.env s.heap m x u)
  (hn:h'.Ns X.env.locals (λx=>if x=n then u else m x)) (hs:Heap.SameBut X.env.locals s.heap h'):Inv X pins (σ.set j none) H {s with heap:=h'}:=by
 have same:∀b o,b≠X.env.locals->s.heap.get? b=some o->h'.get? b=some o:=λb o hb e=>hs.extBut b o hb e
 have old:∀b o,X.s₀.heap.get? b=some o->b≠X.env.locals:=λb o e=>Ym (Yk (Yh e) I.ok.above)
 have trk:∀b o,H b=some o->b≠X.env.locals:=λb o e z=>by rw[z,I.free]at e;cases e
 refine⟨I.ok,I.os,I.bare,⟨λb o e n hb hx=>same _ _ (old b o e) (I.base.keep b o e n hb hx),λb o e n hb hx=>?_,I.base.free,λb o e hx=>?_,I.base.tups,I.base.frzs,I.base.tbls⟩,⟨_,hn,λi x v e1 e2 e3=>?_⟩,λx c e=>?_,I.free,I.freeC,λp hp=>?_,λa o e=>?_,by rw[List.length_set];exact I.len⟩
 ·obtain⟨sl,z⟩:=I.base.slot b o e n hb hx
  exact⟨sl,same _ _ (old b o e) z⟩
 ·obtain⟨o',z⟩:=I.base.there b o e hx
  exact⟨o',same _ _ (old b o e) z⟩
 ·have hij:i≠j:=λz=>by
   subst z
   rw[List.getElem?_set]at e2
   split at e2
   ·split at e2<;>cases e2
   ·rename_i hh;exact hh rfl
  rw[List.getElem?_set_ne (Ne.symm hij)]at e2
  obtain⟨w,r,l⟩:=hl i x v e1 e2 e3
  refine⟨w,r,?_⟩
  have hxn:x≠n:=λz=>by subst z;exact hij (ZeG hN e1 hj)
  rcases l with⟨l1,l2⟩|⟨l1,c,l2,l3⟩
  ·exact .inl ⟨l1,by show(if x=n then u else m x)=_;rw[Yb hxn];exact l2⟩
  ·obtain⟨oc,z1,z2⟩:=l3
   exact .inr ⟨l1,c,l2,oc,same _ _ (I.cne x c l2) z1,z2⟩
 ·obtain⟨v,oc,z1,z2⟩:=I.cell x c e
  exact⟨v,oc,same _ _ (I.cne x c e) z1,z2⟩
 ·obtain⟨z1,z2,z3,z4,z5⟩:=I.pin p hp
  exact⟨same _ _ z3 z1,z2,z3,z4,z5⟩
 ·refine(I.hok a o e).ZfU (λb u hb z=>same b u ?_ z) (λ_ z=>z) (λ_ _ z=>z) λ_ _ _ z=>z
  rcases hb with hb|hb
  ·rw[hb];exact trk a o e
  ·exact trk b _ hb
noncomputable def tTry (K:PySem.W.Frag) (D:Addr) (tb:(St->XK)->TS) (ts:TS) (j:Nat):TS:=λDe σ H=>∃Ec:St->XK,tb Ec De σ H/\∀σ1 C H1,Ec σ1 C none H1->∃C',C=.ref C'/\PySem.W.mroIn K C' (.ref D)=some true /\
 ∀e,H1 e=none->ts {nx:=fun σ2 H2=>De.nx (σ2.set j none) H2,rt:=λ_ _=>False} (σ1.set j (some (.ref e))) (upd H1 e (Zgd e C'))
theorem ps_try {body:List Stmt}{n x:Str}{np hpos pos:Pos}{b0:Stmt}{ZcQ:List Stmt}{D:Addr}{tb:(St->XK)->TS}{ts:TS}{j:Nat}
  (hst:X.stack=X.env::X.outer/\X.env.frame=some X.env.locals) (hN:X.N.Nodup) (hj:X.N[j]?=some n) (hn:X.env.scope.names.lookup n=some .local)
  (hg:Gl X x) (hm:X.mg x=some (.ref D)) (qD:PySem.W.excIn X.K D bmV newV=true) (hb:∀Ec pl,PSs (X.tries Ec pl) body (tb Ec)) (hs:∀A',PSs (X.ZcQ A') (b0::ZcQ) ts)
  (hd:(x==("__debug__":Str))=false:=by decide) :
  PS X (.Try body [.ExceptHandler (some (.Name x np)) (some n) (b0::ZcQ) hpos] [] [] pos) (tTry X.K D tb ts j):=by
 intro pins s σ H De I h
 obtain⟨Ec,hb1,hx⟩:=h
 refine wpAny_Try_except (Yz (hb Ec pins [] s σ H De (I.tries Ec) hb1) (λfl s1 q=>?_) λev s1 q=>?_)
 ·cases fl with
  |next=>obtain⟨σ',H',I',q⟩:=q;exact wpAny_execs_nil ⟨σ',H',I'.Zdr,q⟩
  |brk=>obtain⟨σ',H',I',q⟩:=q;exact⟨σ',H',I'.Zdr,q⟩
  |cont=>obtain⟨σ',H',I',q⟩:=q;exact⟨σ',H',I'.Zdr,q⟩
  |ret u=>obtain⟨v,σ',H',I',r,q⟩:=q;exact⟨v,σ',H',I'.Zdr,r,q⟩
 ·obtain⟨σ1,H1,s0,I1,e,C,a0,H',B,rfl,F,hE⟩:=q
  obtain⟨C',rfl,hup,hx⟩:=hx σ1 C H' hE
  refine wpAny_looks_onW (by rw[I.ok.frames,hst.1]) hst.2 (hst.1▸F.fly) λh4 held sm4=>?_
  refine wpAny_landsW held λh5 fl5 sm5=>?_
  have fl5':Heap.FlyingW B X.stack e (.ref C') a0 h5:=by rw[hst.1];exact fl5
  obtain⟨hHe,I5⟩:=F.land I1 fl5' (sm4.trans sm5)
  refine wpAny_handleBy_cons (codeAny_handlers_test ?_) (by intro q;cases q)
  have I5s:=I5.ZcQ (A':=X.A.mark (some (.ref e))) rfl
  refine Zdm (X:=X.ZcQ (X.A.mark (some (.ref e)))) I5s hg hm ?_ hd
  obtain⟨tl,Nn,nm,qn,bs,hdct,sn,sub,ab,col,dd,k0,k1,k2,k3,k5,mN,hC,_,_,T⟩:=(Zjy (x:=x) I5.kIn hm qD).obj
  obtain⟨oe,hoe,hoc⟩:=fl5.there
  refine Zfj (PySem.W.looks_mroIn I5.kIn hup) hC hoe hoc (T.hasType PySem.F.excBase_ValueError.hasBase) ?_
  refine codeAny_handlers_suite_as ?_
  refine lands_againW fl5 λh6 fl6 sm6=>?_
  obtain⟨_,I6⟩:=F.land I1 (h5:=h6) (by rw[hst.1];exact fl6) ((sm4.trans sm5).trans sm6)
  refine Zdl I6 hN hj (Or.inl hn) (v:=.ref e) rfl (λs7 I7=>?_) (.inr hn)
  refine Yz (hs _ pins s7 _ _ _ (I7.ZcQ rfl) (hx e hHe)) (λfl s8 q=>?_) λ_ _ z=>z.elim
  cases fl with
  |brk=>obtain⟨_,_,_,q⟩:=q;exact q.elim
  |cont=>obtain⟨_,_,_,q⟩:=q;exact q.elim
  |ret u=>obtain⟨_,_,_,_,_,q⟩:=q;exact q.elim
  |next =>
   obtain⟨σ8,H8,I8,q8⟩:=q
   have I8':=I8.ZkZ I.ok
   refine Ya (wpAny_bindName (Zdl I8' hN hj (Or.inl hn) (v:=.non) (u:=.none) rfl (λs9 I9=>?_) (.inr hn)))
   unfold unbindBehindTheSuite
   refine wpAny_onRaise ?_
   obtain⟨m9,hn9,hl9⟩:=I9.loc
   have hlen:j < σ8.length:=by
    have e1:=I8'.len
    have e2:=(Yt.mp hj).1
    omega
   obtain⟨u9,r9,l9⟩:=hl9 j n .non hj (by rw[List.getElem?_set_self hlen]) (Or.inl hn)
   have hm9:m9 n=some u9:=by
    rcases l9 with⟨_,z⟩|⟨z,_⟩
    ·exact z
    ·rcases z with z|z
     ·rw[show X.env.kindOf n=some .local from hn]at z;cases z
     ·rw[show X.env.kindOf n=some .local from hn]at z;cases z
   refine wpAny_unbindName_local hn hn9 hm9 (by rw[I.ok.kind];rfl) λh' u hns hsb=>?_
   have J:=I9.forget hj hN hl9 hns hsb
   rw[List.set_set]at J
   exact⟨_,_,J,q8⟩
end
section
variable {P:Program}{w:World}{K:PySem.W.Frag}{mg:Str->Option Value}{base:Heap}
theorem Fun.okX {x qual:Str}{st:Stmt}{f:Addr}{fd:FuncData}{N ps:List Str}{k:Nat}{sp:Sp} (F:Fun K x qual st f fd) (S:FnScope N ps (defScope st)) (len:∀vs H Q E,sp vs H Q E->vs.length=ps.length)
  (hbody:∀(cdv:Value) (A:Around) (outer:List Env) (s:Shared) (H:Hp) (vs:List V) (Q:VK) (E:XK),Room k (A.deeper (envOfC qual (defScope st) s.heap.objs.size f cdv))->sp vs H Q E ->
   ∃t,PSs (ZdR (CXE P w) P w K mg base N qual (defScope st) f cdv A outer s H E) (defBody st) t/\t {nx:=λ_ H'=>Q .non H',rt:=Q} (start N vs) H):FnOk P w K mg base (CXE P w) (k+1) f fd ps sp:=by
 obtain⟨oc,od,kV,doc,pm,an,cdv,ct,osl,rfl,lk,hcd⟩:=F.ex
 exact fn_of lk hcd S len λA outer s H vs Q E hr hsp=>hbody cdv A outer s H vs Q E hr hsp
end
end L2
namespace L2
open PySem PySem.Spec PyProof.Rows PySem.W
section
variable {X:Cx}
theorem Z8:OpR X (binaryOp .Mult) (rI IntMulOk λi j=>.int (i*j)):=opI λ_ _ _ _ _ _ _ hc q=>mul_int q hc
noncomputable def PJ (X:Cx) (es:List (Sem Value)) (t:St->Hp->(Hp->Prop)->Prop):Prop :=
 ∀(out:Str) (pins:List (Addr×Obj)) (s:Shared) (σ:St) (H:Hp) (Q:Hp->Prop),out.length+2000*es.length<=100000->Inv X pins σ H s->t σ H Q ->
  wpAny (model X.prog X.w) X.A (joinParts out es) (λu s'=>∃y tk H',u=.str y tk/\Inv X pins σ H' s'/\Q H') X.xe s
theorem Zhu:PJ X [] (λ_ H Q=>Q H):=λout pins s σ H Q hl I h =>
 joinParts_nil ⟨out,_,H,rfl,I.tok _,h⟩ (by simp at hl;exact Yd hl (by decide))
theorem ZbE {x:Str}{j:Nat}{pos:Pos}{es:List (Sem Value)}{t:St->Hp->(Hp->Prop)->Prop} (hx:x.length<=2000) (h:PJ X es t):PJ X (eval (.Constant (.str x) j pos) X.env::es) t:=by
 intro out pins s σ H Q hl I hq
 have hl':(out++x).length+2000*es.length<=100000:=by rw[PySem.strLen_append];simp at hl;omega
 refine joinParts_cons (Calls.Constant_str ⟨Yd (Yd (Nat.le_add_right _ _) hl') (by decide),?_⟩)
 exact h _ pins _ σ H Q hl' (I.tok _) hq
theorem ZiA {i:Int} (h0:0<=i) (h1:i<10 ^ 18):i.natAbs.log2<1920:=by
 by_cases hz:i.natAbs=0
 ·rw[hz];decide
 ·have h3:i.natAbs<2 ^ 60:=by
   have:(2:Nat) ^ 60=1152921504606846976:=by decide
   have h2:(10:Int) ^ 18=1000000000000000000:=by decide
   omega
  exact Yk ((Nat.log2_lt hz).mpr h3) (by decide)
theorem Zgf {e:Expr}{pos:Pos}{es:List (Sem Value)}{te:TE}{t:St->Hp->(Hp->Prop)->Prop} (he:PE X e te) (h:PJ X es t):PJ X (eval (.FormattedValue e (-1) none pos) X.env::es) (fun σ H Q=>te σ H λx H1=>∃i:Int,x=.int i/\(0<=i/\i<10 ^ 18)/\t σ H1 Q):=by
 intro out pins s σ H Q hl I hq
 refine joinParts_cons (FormattedValue_plain (thn (he pins s σ H _ I hq) λu s1 ⟨x,H1,I1,r1,i,ex,⟨h0,h1⟩,q⟩=>?_))
 subst ex
 obtain⟨tk,rfl⟩:=(show ∃t,u=Value.int i t from r1)
 refine wpAny_formatField_int (ZiA h0 h1) ?_
 have hx:(Str.ofString (toString i)).length<=18:=toString_length_le h0 (by decide) h1
 have hl':(out++Str.ofString (toString i)).length+2000*es.length<=100000:=by rw[PySem.strLen_append];simp at hl;omega
 refine⟨Yd (Yd (Nat.le_add_right _ _) hl') (by decide),?_⟩
 exact h _ pins _ σ H1 Q hl' (I1.tok _) q
theorem ZeO (env:Env):∀l:List Expr,(evalEach l env).length=l.length
 |[]=>rfl
 |e::r=>by
  have:evalEach (e::r) env=eval e env::evalEach r env:=rfl
  rw[this,Yr,Yr,ZeO env r]
theorem ZdU {e1 e2:Expr}{rest:List Expr}{pos:Pos}{t:St->Hp->(Hp->Prop)->Prop} (h:PJ X (eval e1 X.env::eval e2 X.env::evalEach rest X.env) t) (hn:rest.length<=20:=by decide) :
  PE X (.JoinedStr (e1::e2::rest) pos) (fun σ H Q=>t σ H λH1=>∀y,Q (.str y) H1):=by
 intro pins s σ H Q I hq
 have hle:=ZeO X.env rest
 refine JoinedStr_many (thn (h Str.empty pins s σ H _ (by simp only[Yr,hle];show 0+_<=_;omega) I hq) λu s' ⟨y,tk,H',e,I',q⟩=>?_)
 subst e
 exact⟨.str y,H',I',⟨tk,rfl⟩,q y⟩
end
noncomputable def clsAt (mg:Str->Option Value) (x:Str):Addr:=match mg x with
 |some (.ref C)=>C
 |_=>0
noncomputable def tokAt (mg:Str->Option Value) (x:Str):Tok:=match mg x with
 |some (.int _ t)=>t
 |_=>default
noncomputable def Callee (P:Program) (w:World) (K:Frag) (mg:Str->Option Value) (base:Heap) (x:Str) (k:Nat) (ps:List Str) (sp:Sp):Prop :=
 ∃f fd,mg x=some (.ref f)/\keepIn K (.ref f)=true/\Binds K fd ps []/\FnOk P w K mg base (CXE P w) k f fd ps sp
section
variable {X:Cx}
theorem ZeP {st:Stmt}{t:TS} (h:PS X.nox st t):PS X st t:=λpins s σ H D I hw =>
 Yz (h pins s σ H D (I.Zff _) hw) (λ_ _ q=>q.Zcc) λ_ _ z=>False.elim z
theorem Zg {x:Str}{k:Nat}{ps:List Str}{sp:Sp}{E:XK}{e:Expr}{es:List Expr}{t:TA}{p pos:Pos} (C:Callee X.prog X.w X.K X.mg X.base x k ps sp) (hr:Room k X.A) (hg:Gl X x) (hx:Passes (CXE X.prog X.w) X E)
  (ha:PA X (e::es) t) (hdb:(x==("__debug__":Str))=false:=by decide) (he:starEach (e::es) X.env=(false,eval e X.env)::starEach es X.env:=by rfl) (hpl:(backTo pos (starEach es X.env)).any (·.1)=false:=by rfl) :
  PE X (.Call (.Name x p) (e::es) [] pos) (tCall sp [] E t):=by
 obtain⟨f,fd,hm,hk,hb,F⟩:=C
 exact ZhP F hr hg hm hk hb .nil hx ha hdb he hpl
theorem Za9 {P:Program}{w:World}{K:Frag}{mg:Str->Option Value}{base:Heap}{N:List Str}{qual:Str}{scope:Scope}{f:Addr}{cd:Value}{A:Around}{outer:List Env}{s0:Shared}{H0:Hp}{E:XK}{C:Addr} :
  ∀pins σ H s h' e vs,Inv (ZdR (CXE P w) P w K mg base N qual scope f cd A outer s0 H0 E) pins σ H s->Heap.MadeExcOf s.heap h' e (.ref C) vs->E (.ref C) none H->(ZdR (CXE P w) P w K mg base N qual scope f cd A outer s0 H0 E).xe (.ref e) {s with heap:=h'} :=
 λ_ _ _ _ _ _ _ I hx hE=>Zge I hx hE
end
theorem Zjz:bootBuiltins "max"=some (.builtin "max"):=by decide +kernel
theorem bt_min:bootBuiltins "min"=some (.builtin "min"):=by decide +kernel
theorem Zp:bootBuiltins "isinstance"=some (.builtin "isinstance"):=by decide +kernel
theorem Zk0:bootBuiltins "list"=some (.type "list"):=by decide +kernel
theorem ZgL:bootBuiltins "tuple"=some (.type "tuple"):=by decide +kernel
theorem ZdV:bootBuiltins "int"=some (.type "int"):=by decide +kernel
theorem ZcR:bootBuiltins "ValueError"=some (.type "ValueError"):=by decide +kernel
theorem cxK {CX:CXT}{P:Program}{w:World}{K:Frag}{mg:Str->Option Value}{base:Heap}{N:List Str}{qual:Str}{scope:Scope}{f:Addr}{cd:Value}{A:Around}{outer:List Env}{s:Shared}{H:Hp}{E:XK} :
  (ZdR CX P w K mg base N qual scope f cd A outer s H E).K=K:=rfl
theorem Same.upd {H H1:Hp}{p:Addr}{o:HO} (h:H p=none) (e:Same H H1):Same H (upd H1 p o):=λb u z=>by
 rw[Zj (ZO z h)];exact e b u z
theorem Same.ZC {H H1:Hp}{p:Addr}{o:HO} (e:Same H H1) (h:H1 p=none):Same H (L2.upd H1 p o):=e.upd (e.free h)
noncomputable def LoopR (J:It) (g:TG) (tb:TS) (D:Ends) (σ:St) (H1:Hp):Prop:=∃W:Nat->Nat->St->Hp->Prop,(∃m,W 0 m σ H1)/\∀i m σ H,W i m σ H ->
 (J.stop i H/\D.nx σ H)\/(J.go i H/\∃N:St->Hp->Prop,(∀σ' H',N σ' H'->∃m',m'<m/\W (i+1) m' σ' H')/\∀x H',J.yld i H x H'->g x σ H' fun σ2 H2=>tb {D with nx:=N,ct:=N,bk:=D.nx} σ2 H2)
theorem ZhV {wi:TI}{g:TG}{tb:TS}{D:Ends}{σ:St}{H:Hp}:tFor wi g tb D σ H=wi σ H λJ H1=>LoopR J g tb D σ H1:=rfl
noncomputable def ZjA (c:TT) (tb:TS) (D:Ends) (σ:St) (H:Hp):Prop:=Zhg c tb D σ H
theorem ZfF {c:TT}{tb:TS}{D:Ends}{σ:St}{H:Hp}:Zhg c tb D σ H=ZjA c tb D σ H:=rfl
noncomputable def ZhW (J:It) (g:TG) (tt:TT) (te:TE) (σ0:St) (Q:VK) (H1:Hp):Prop:=∃W:Nat->Nat->List V->Hp->Prop,(∃m,W 0 m [] H1)/\∀i m acc H,W i m acc H ->
 (J.stop i H/\acc.length<=sizeLine/\∀p,H p=none->Q (.ref p) (upd H p (.lst acc))) \/
 (J.go i H/\acc.length<sizeLine/\∀x H',J.yld i H x H'->g x σ0 H' fun σ2 H2=>tt σ2 H2 λb H3=>if b=true then te σ2 H3 λv H4=>∃m',m'<m/\W (i+1) m' (acc++[v]) H4 else ∃m',m'<m/\W (i+1) m' acc H3)
theorem ZgM {wi:TI}{g:TG}{tt:TT}{te:TE}{js:List (Option Nat)}{σ:St}{H:Hp}{Q:VK}:ZhU wi g tt te js σ H Q=wi σ H λJ H1=>ZhW J g tt te (iniC js σ) Q H1:=rfl
noncomputable def CW (n:Nat) (vals:Nat->V) (H1:Hp) (i m:Nat) (acc:List V) (H:Hp):Prop:=m=n-i/\i<=n/\acc=(List.range i).map vals/\Same H1 H
theorem CW.next {n:Nat}{vals:Nat->V}{H1 H:Hp}{i:Nat}{v:V} (hi:i<n) (hv:v=vals i) (s:Same H1 H):∃m',m'<n-i/\CW n vals H1 (i+1) m' ((List.range i).map vals++[v]) H :=
 ⟨n-(i+1),by omega,rfl,hi,by rw[List.range_succ,List.map_append,hv];rfl,s⟩
theorem comp_map {J:It}{n:Nat}{H1:Hp}{g:TG}{tt:TT}{te:TE}{σ0:St}{Q:VK} (vals:Nat->V) (hn:n<sizeLine) (hgo:∀i H,Same H1 H->i<n->J.go i H) (hstop:∀H,Same H1 H->J.stop n H)
  (hb:∀i x H H',i<n->Same H1 H->J.yld i H x H'->g x σ0 H' fun σ2 H2=>tt σ2 H2 λb H3=>if b=true then te σ2 H3 λv H4=>∃m',m'<n-i/\CW n vals H1 (i+1) m' ((List.range i).map vals++[v]) H4 else ∃m',m'<n-i/\CW n vals H1 (i+1) m' ((List.range i).map vals) H3)
  (hk:∀l H',Same H1 H'->H' l=none->Q (.ref l) (upd H' l (.lst ((List.range n).map vals)))) :
  ZhW J g tt te σ0 Q H1:=by
 refine⟨CW n vals H1,⟨n,rfl,YG _,rfl,Same.refl _⟩,?_⟩
 rintro i m acc H ⟨rfl,hi,rfl,s⟩
 by_cases h:i<n
 ·refine .inr ⟨hgo i H s h,by simpa using Nat.lt_trans h hn,λx H' y=>hb i x H H' h s y⟩
 ·have e:i=n:=by omega
  subst e
  exact .inl ⟨hstop H s,by simpa using YM hn,λp hp=>hk p H s hp⟩
theorem ZjB {α:Type}{xs:List α}{i:Int}{j:Nat} (h:i=(j:Int)) (hj:j<xs.length):atI xs i=some xs[j]:=by
 subst h
 unfold atI ixN
 rw[Ye (by omega),Ye (by omega)]
 simp
theorem Zgg {α:Type}{xs:List α}{i:Int} (C:α->Prop) (h0:0<=i) (h1:i<xs.length) (h:∀x∈xs,C x):∃v,atI xs i=some v/\C v:=by
 obtain⟨j,rfl⟩:=Int.eq_ofNat_of_zero_le h0
 have hj:j<xs.length:=by omega
 exact⟨xs[j],ZjB rfl hj,h _ (YK hj)⟩
theorem mul_r {a b:Int} (h1:-(2 ^ 64)<b) (h2:b<2 ^ 64):IntMulOk a b:=IntMulOk.of_right (intBits_le_64 h1 h2)
theorem ZeQ {a b:Int} (h1:-(2 ^ 64)<a) (h2:a<2 ^ 64):IntMulOk a b:=IntMulOk.of_left (intBits_le_64 h1 h2)
theorem Zgh {a b:Int} (ha:Builtin.Int.intBits a<=2 ^ 20) (hb:Builtin.Int.intBits b<=2 ^ 20):IntMulOk a b:=IntMulOk.of_bits ha hb
theorem cp18:Zfg 10 18:=by unfold Zfg;decide
theorem cp9:Zfg 10 9:=by unfold Zfg;decide
theorem cp59:Zfg 10 59:=by unfold Zfg;decide
noncomputable def Exc (p:Addr) (H H':Hp):Prop:=∀b o,b≠p->H b=some o->H' b=some o
theorem Same.exc {H H1 H2:Hp}{p:Addr} (s:Same H H1) (h:H p=none) (e:Exc p H1 H2):Same H H2:=λb o z=>e b o (ZO z h) (s b o z)
theorem Same.ZgN {H H':Hp}{p:Addr} (s:Same H H'):Exc p H H':=λb o _ z=>s b o z
theorem Exc.upd {H:Hp}{p:Addr}{o:HO}:Exc p H (L2.upd H p o):=λb u n z=>by rw[Zj n];exact z
theorem ZT {K:Frag}{H:Hp}{p:Addr}{xs:List V} (h:H p=some (.lst xs)):tyV K "list" (.ref p) H:=.inl ⟨rfl,_,SqL.of h⟩
theorem ZhX {i j:Int}:Zf3 (.int i) (.int j)=true:=rfl
theorem ZhY {i j:Bool}:Zf3 (.bl i) (.bl j)=true:=rfl
theorem ZhZ {i j:Str}:Zf3 (.str i) (.str j)=true:=rfl
theorem Zh0:Zf3 .non .non=true:=rfl
theorem Zh1 {i:Int}:Zf3 .non (.int i)=true:=rfl
theorem Zh2 {i:Int}:Zf3 (.int i) .non=true:=rfl
section
variable {X:Cx}
noncomputable def rLen (K:Frag):List V->Hp->VK->Prop:=λxs H Q=>∃p ys,xs=[.ref p]/\(SqL K H p ys\/SqT K H p ys)/\Q (.int ys.length) H
theorem Zy {K:Frag} (hK:X.K=K):Zay X (.builtin "len") (rLen K):=by subst hK;exact Zga
noncomputable def rLof (K:Frag):List V->Hp->VK->Prop:=λxs H Q=>∃p ys,xs=[.ref p]/\(SqL K H p ys\/SqT K H p ys)/\∀l,H l=none->Q (.ref l) (upd H l (.lst ys))
theorem Zhv {K:Frag} (hK:X.K=K):Zay X (.type "list") (rLof K):=by subst hK;exact Zgb
noncomputable def rTof (K:Frag):List V->Hp->VK->Prop:=λxs H Q=>∃p ys,xs=[.ref p]/\((SqL K H p ys/\∀l,H l=none->Q (.ref l) (upd H l (.tup ys)))\/(SqT K H p ys/\Q (.ref p) H))
theorem ZfG {K:Frag} (hK:X.K=K):Zay X (.type "tuple") (rTof K):=by subst hK;exact Zfi
theorem Zz {K:Frag} (hK:X.K=K):Zay X (.builtin "isinstance") (rIsi K):=by subst hK;exact Zjx
end
theorem tyE {K:Frag}{H:Hp}{e C:Addr}{c:Value}{b:Bool} (he:H e=some (Zgd e C)) (Z:ExK K C) (k:kitOne K (.ref C) c=some b):tyIs K H (.ref e) c b:=.inr ⟨e,C,rfl,he,Z,k⟩
theorem ZeR {K:Frag}{t:Value}:kitOne K t t=some true:=by unfold kitOne;simp
theorem Zt {K:Frag}{A C:Addr}{b:Bool} (ne:A≠C) (h1:hasDictIn K C=true) (h2:typeIn K (.ref C)=some (.type "type")) (h3:subIn K (.ref A) (.ref C)=some b):kitOne K (.ref A) (.ref C)=some b:=by
 obtain⟨cd,hc,_⟩:=any_some h1
 unfold kitOne
 rw[Yb (by intro z;exact ne (Value.ref.inj (beq_iff_eq.mp z)))]
 unfold kitCls
 dsimp only
 rw[Ye (by rw[hc,h2];rfl)]
 exact h3
theorem ZjC {K:Frag}{A:Addr}{b:Bool} (h:subIn K (.ref A) (.type "ValueError")=some b):kitOne K (.ref A) (.type "ValueError")=some b:=by
 unfold kitOne
 rw[Yb (by intro z;cases beq_iff_eq.mp z)]
 unfold kitCls
 dsimp only
 rw[Ye (by decide +kernel)]
 exact h
theorem Zh3 {a:Addr}{x:Value}:(cOf (.ref a)=some x)=(.ref a=x):=by simp[cOf]
theorem ZjD {n:String}{x:Value}:(cOf (.ty n)=some x)=(.type n=x):=by simp[cOf]
theorem ZgO {α:Type}{xs:List α}{z:α} (h:xs.getLast?=some z):atI xs (-1)=some z:=by
 unfold atI ixN
 cases xs with
 |nil=>cases h
 |cons x r =>
  have hl:(x::r).length=r.length+1:=by simp
  rw[hl,Yb (by omega),Ye (by omega)]
  have e:(-1+((r.length+1:Nat):Int)).toNat=r.length:=by omega
  rw[List.getLast?_eq_getElem?]at h
  show(x::r)[(-1+((r.length+1:Nat):Int)).toNat]?=_
  rw[e]
  simpa using h
noncomputable def Rows (H:Hp) (l:Addr) (rs:List (List Int)):Prop:=∃as:List Addr,H l=some (.lst (as.map V.ref))/\l∉as/\as.length=rs.length/\∀i (h1:i<as.length) (h2:i<rs.length),H as[i]=some (.lst (rs[i].map V.int))
theorem Rows.same {H H':Hp}{l:Addr}{rs:List (List Int)} (R:Rows H l rs) (s:Same H H'):Rows H' l rs:=by
 obtain⟨as,e,n,hl,h⟩:=R
 exact⟨as,s _ _ e,n,hl,λi h1 h2=>s _ _ (h i h1 h2)⟩
theorem Rows.push {H:Hp}{l p:Addr}{rs:List (List Int)}{r:List Int}{as:List Addr} (e:H l=some (.lst (as.map V.ref))) (n:l∉as) (hl:as.length=rs.length) (h:∀i (h1:i<as.length) (h2:i<rs.length),H as[i]=some (.lst (rs[i].map V.int)))
  (hp:H p=some (.lst (r.map V.int))) (np:p≠l):Rows (upd H l (.lst (as.map V.ref++[.ref p]))) l (rs++[r]):=by
 refine⟨as++[p],by rw[Zd];simp,?_,by simp[hl],λi h1 h2=>?_⟩
 ·simp only[Ys,Yv,not_or]
  exact⟨n,λz=>np z.symm⟩
 ·by_cases hi:i<as.length
  ·have e1:(as++[p])[i]=as[i]:=YX hi
   have e2:(rs++[r])[i]=rs[i]'(by omega):=YX (by omega)
   rw[e1,e2,Zj]
   ·exact h i hi (by omega)
   ·intro z;exact n (z▸YK hi)
  ·have e1:(as++[p])[i]=p:=by rw[List.getElem_append_right (by omega)];simp
   have e2:(rs++[r])[i]=r:=by rw[List.getElem_append_right (by omega)];simp
   rw[e1,e2,Zj np];exact hp
inductive EqD (K:Frag) (H:Hp):Nat->V->V->Bool->Prop
 |flat {n:Nat}{x y:V} (fx:flatV x=true) (fy:flatV y=true):EqD K H n x y (eqV x y)
 |lst {n:Nat}{a b:Addr}{xs ys:List V} (e:Nat->Bool) (hx:SqL K H a xs) (hy:SqL K H b ys) (hl:xs.length=ys.length) (h:∀j x y,xs[j]?=some x->ys[j]?=some y->EqD K H n x y (e j)):EqD K H (n+1) (.ref a) (.ref b) ((List.range xs.length).all e)
 |len {n:Nat}{a b:Addr}{xs ys:List V} (hx:SqL K H a xs) (hy:SqL K H b ys) (hl:xs.length≠ys.length):EqD K H (n+1) (.ref a) (.ref b) false
 |tup {n:Nat}{a b:Addr}{xs ys:List V} (e:Nat->Bool) (hx:SqT K H a xs) (hy:SqT K H b ys) (h:∀j x y,xs[j]?=some x->ys[j]?=some y->EqD K H n x y (e j)):EqD K H (n+1) (.ref a) (.ref b) ((List.range (min xs.length ys.length)).all e&&xs.length==ys.length)
theorem ZjE {x:V} (h:flatV x=true):eqV x x=true:=by
 cases x<;>first
  |rfl
  |(simp[eqV];done)
  |cases h
section
variable {X:Cx}{pins:List (Addr×Obj)}{σ:St}{H:Hp}{s:Shared}
theorem ZgP (I:Inv X pins σ H s) {n:Nat}{x y:V}{b:Bool} (h:EqD X.K H n x y b):x=y->b=true:=by
 induction h with
 |flat fx fy=>rintro rfl;exact ZjE fx
 |lst e hx hy hl h ih =>
  intro z
  cases z
  have:=I.Zdn hx hy
  subst this
  refine List.all_eq_true.mpr λj hj=>?_
  have hj':=List.mem_range.mp hj
  exact ih j _ _ (Yg hj') (Yg hj') rfl
 |len hx hy hl =>
  intro z
  cases z
  have:=I.Zdn hx hy
  subst this
  exact absurd rfl hl
 |tup e hx hy h ih =>
  intro z
  cases z
  have:=I.Zfw hx hy
  subst this
  rw[Nat.min_self]
  have:(List.range _).all e=true:=List.all_eq_true.mpr λj hj=>by
   have hj':=List.mem_range.mp hj
   exact ih j _ _ (Yg hj') (Yg hj') rfl
  rw[this];simp
theorem ZjF (I:Inv X pins σ H s) {n:Nat}{x y:V}{b:Bool} (h:EqD X.K H n x y b):∀(A:Around) (u v:Value),A.units+n<cLine->RelV x u->RelV y v->SeqAt.EqAt A s u v b:=by
 induction h with
 |flat fx fy=>intro A u v _ ru rv;exact Zjq ru rv fx fy
 |@lst n a b xs ys e hx hy hl h ih =>
  intro A u v hu ru rv
  have hb:=ZgP I (.lst e hx hy hl h)
  cases ru
  cases rv
  by_cases hab:a=b
  ·subst hab
   rw[hb rfl];exact SeqAt.EqAt.same _
  ·obtain⟨is1,r1,p1,_⟩:=I.list hx
   obtain⟨is2,r2,p2,_⟩:=I.list hy
   have e1:=r1.length
   have e2:=r2.length
   have key:=SeqAt.RcAt.lists (A:=A) (s:=s) (e:=e) p1.isList p2.isList (by simp;omega) (by omega) λj h1 h2=>by
    have h1':j<xs.length:=by simpa[e1]using h1
    have h2':j<ys.length:=by simpa[e2]using h2
    obtain⟨u,hu1,ru⟩:=r1.get (Yg h1')
    obtain⟨v,hv1,rv⟩:=r2.get (Yg h2')
    have eu:is1.toArray[j]=u:=by simpa using(Yt.mp hu1).2
    have ev:is2.toArray[j]=v:=by simpa using(Yt.mp hv1).2
    rw[eu,ev]
    exact ih j _ _ (Yg h1') (Yg h2') A.in1 u v (by show A.units+1+n<cLine;omega) ru rv
   have e3:is1.toArray.size=xs.length:=by simp[e1]
   rw[e3]at key
   exact SeqAt.EqAt.of_refs hab key
 |@len n a b xs ys hx hy hl =>
  intro A u v hu ru rv
  cases ru
  cases rv
  have hab:a≠b:=λz=>by subst z;exact hl (congrArg List.length (I.Zdn hx hy))
  obtain⟨is1,r1,p1,_⟩:=I.list hx
  obtain⟨is2,r2,p2,_⟩:=I.list hy
  have e1:=r1.length
  have e2:=r2.length
  exact SeqAt.EqAt.of_refs hab (SeqAt.RcAt.lists_lengths p1.isList p2.isList (by simp;omega) (by omega))
 |@tup n a b xs ys e hx hy h ih =>
  intro A u v hu ru rv
  have hb:=ZgP I (.tup e hx hy h)
  cases ru
  cases rv
  by_cases hab:a=b
  ·subst hab
   rw[hb rfl];exact SeqAt.EqAt.same _
  ·obtain⟨is1,r1,p1,_⟩:=I.tuple hx
   obtain⟨is2,r2,p2,_⟩:=I.tuple hy
   have e1:=r1.length
   have e2:=r2.length
   have key:=SeqAt.RcAt.tuples (A:=A) (s:=s) (e:=e) p1 p2 (by omega) λj h1 h2=>by
    have h1':j<xs.length:=by simpa[e1]using h1
    have h2':j<ys.length:=by simpa[e2]using h2
    obtain⟨u,hu1,ru⟩:=r1.get (Yg h1')
    obtain⟨v,hv1,rv⟩:=r2.get (Yg h2')
    have eu:is1.toArray[j]=u:=by simpa using(Yt.mp hu1).2
    have ev:is2.toArray[j]=v:=by simpa using(Yt.mp hv1).2
    rw[eu,ev]
    exact ih j _ _ (Yg h1') (Yg h2') A.in1 u v (by show A.units+1+n<cLine;omega) ru rv
   have e3:is1.toArray.size=xs.length:=by simp[e1]
   have e4:is2.toArray.size=ys.length:=by simp[e2]
   rw[e3,e4]at key
   exact SeqAt.EqAt.of_refs hab key
end
noncomputable def rEqD (K:Frag) (neg:Bool):R2:=λx y H Q=>∃a b k,x=.ref a/\y=.ref b/\EqD K H 3 x y k/\Q (.bl (if neg then !k else k)) H
section
variable {X:Cx}
theorem Zgi {K:Frag} (hK:X.K=K) {k:Nat} (hr:Room k X.A):OpR X (compareOp .Eq) (rEqD K false):=by
 subst hK
 have hu0:=hr.un
 intro pins s σ H x y v u Q I rx ry h
 obtain⟨a,b,k,rfl,rfl,h,q⟩:=h
 cases rx
 cases ry
 cases h with
 |flat fx fy=>cases fx
 |@lst n _ _ xs ys e hx hy hl h =>
  obtain⟨is1,r1,p1,_⟩:=I.list hx
  obtain⟨is2,r2,p2,_⟩:=I.list hy
  have e1:=r1.length
  have e2:=r2.length
  have e3:is1.toArray.size=xs.length:=by simp[e1]
  refine SeqAt.eq_listAt (e:=e) p1.isList p2.isList (by simp;omega) (by omega) (λj h1 h2=>?_) ⟨.bl _,H,I,rfl,by rw[e3];exact q⟩
  have h1':j<xs.length:=by simpa[e1]using h1
  have h2':j<ys.length:=by simpa[e2]using h2
  obtain⟨u,hu1,ru⟩:=r1.get (Yg h1')
  obtain⟨v,hv1,rv⟩:=r2.get (Yg h2')
  have eu:is1.toArray[j]=u:=by simpa using(Yt.mp hu1).2
  have ev:is2.toArray[j]=v:=by simpa using(Yt.mp hv1).2
  rw[eu,ev]
  exact ZjF I (h j _ _ (Yg h1') (Yg h2')) X.A.in1 u v (by show X.A.units+1+2<cLine;omega) ru rv
 |@len n _ _ xs ys hx hy hl =>
  obtain⟨is1,r1,p1,_⟩:=I.list hx
  obtain⟨is2,r2,p2,_⟩:=I.list hy
  have e1:=r1.length
  have e2:=r2.length
  exact SeqAt.eq_list_lengthsAt p1.isList p2.isList (by simp;omega) (by omega) ⟨.bl _,H,I,rfl,q⟩
 |@tup n _ _ xs ys e hx hy h =>
  obtain⟨is1,r1,p1,_⟩:=I.tuple hx
  obtain⟨is2,r2,p2,_⟩:=I.tuple hy
  have e1:=r1.length
  have e2:=r2.length
  have e3:is1.toArray.size=xs.length:=by simp[e1]
  have e4:is2.toArray.size=ys.length:=by simp[e2]
  refine SeqAt.eq_tupleAt (e:=e) p1 p2 (by omega) (λj h1 h2=>?_) ⟨.bl _,H,I,rfl,by rw[e3,e4];exact q⟩
  have h1':j<xs.length:=by simpa[e1]using h1
  have h2':j<ys.length:=by simpa[e2]using h2
  obtain⟨u,hu1,ru⟩:=r1.get (Yg h1')
  obtain⟨v,hv1,rv⟩:=r2.get (Yg h2')
  have eu:is1.toArray[j]=u:=by simpa using(Yt.mp hu1).2
  have ev:is2.toArray[j]=v:=by simpa using(Yt.mp hv1).2
  rw[eu,ev]
  exact ZjF I (h j _ _ (Yg h1') (Yg h2')) X.A.in1 u v (by show X.A.units+1+2<cLine;omega) ru rv
end
noncomputable def IsI (v:V) (i:Int):Prop:=v=.int i
noncomputable def IsL (K:Frag) (H:Hp) {α:Type} (P:V->α->Prop) (v:V) (as:List α):Prop:=∃a xs,v=.ref a/\SqL K H a xs/\xs.length=as.length/\∀(j:Nat) (x:V) (y:α),xs[j]?=some x->as[j]?=some y->P x y
noncomputable def EqP (K:Frag) (H:Hp) (n:Nat) {α:Type} [DecidableEq α] (P:V->α->Prop):Prop:=∀x y a b,P x a->P y b->EqD K H n x y (decide (a=b))
theorem Zh4 {K:Frag}{H:Hp}{n:Nat}:EqP K H n IsI:=by
 rintro x y a b rfl rfl
 have:=EqD.flat (K:=K) (H:=H) (n:=n) (x:=.int a) (y:=.int b) rfl rfl
 have e:eqV (.int a) (.int b)=decide (a=b):=by simp[eqV,Bool.beq_eq_decide_eq]
 rw[<-e];exact this
theorem all_eq {α:Type} [DecidableEq α] (as bs:List α) (h:as.length=bs.length):(List.range as.length).all (λj=>decide (as[j]?=bs[j]?))=decide (as=bs):=by
 rw[Bool.eq_iff_iff,List.all_eq_true,decide_eq_true_iff]
 constructor
 ·intro q
  refine List.ext_getElem? λj=>?_
  by_cases hj:j<as.length
  ·simpa using q j (List.mem_range.mpr hj)
  ·rw[List.getElem?_eq_none (by omega),List.getElem?_eq_none (by omega)]
 ·rintro rfl j _;simp
theorem Zgj {K:Frag}{H:Hp}{n:Nat}{α:Type} [DecidableEq α] {P:V->α->Prop} (h:EqP K H n P):EqP K H (n+1) (IsL K H P):=by
 rintro x y as bs ⟨a,xs,rfl,hx,lx,px⟩ ⟨b,ys,rfl,hy,ly,py⟩
 by_cases hl:as.length=bs.length
 ·rw[<-all_eq as bs hl,<-lx]
  refine .lst _ hx hy (by omega) λj x y h1 h2=>?_
  have j1:=(Yt.mp h1).1
  have j2:=(Yt.mp h2).1
  have ha:as[j]?=some as[j]:=Yg (by omega)
  have hb:bs[j]?=some bs[j]:=Yg (by omega)
  have:=h x y _ _ (px j _ _ h1 ha) (py j _ _ h2 hb)
  rw[ha,hb]
  simpa using this
 ·have e:decide (as=bs)=false:=by simp;intro z;exact hl (congrArg List.length z)
  rw[e]
  exact .len hx hy (by omega)
theorem Zds {K:Frag}{H:Hp}{a:Addr}{ns:List Int} (h:SqL K H a (ns.map V.int)):IsL K H IsI (.ref a) ns:=⟨a,_,rfl,h,by simp,λj x y h1 h2=>by
 rw[Yy,h2]at h1
 exact(Yq h1).symm⟩
noncomputable def nth (ns:List Int) (i:Nat):Int:=ns.getD i 0
theorem Same.seqT {K:Frag}{H H':Hp}{a:Addr}{xs:List V} (e:Same H H') (h:SqT K H a xs):SqT K H' a xs:=by
 rcases h with(h|⟨o,h⟩)|h
 ·exact .inl (.inl (e _ _ h))
 ·exact .inl (.inr ⟨o,e _ _ h⟩)
 ·exact .inr h
theorem Exc.trans {p:Addr}{H H1 H2:Hp} (a:Exc p H H1) (b:Exc p H1 H2):Exc p H H2:=λc o n z=>b c o n (a c o n z)
theorem Exc.free {p q:Addr}{H H':Hp} (e:Exc p H H') (n:q≠p) (h:H' q=none):H q=none:=by
 cases z:H q with
 |none=>rfl
 |some o=>rw[e q o n z]at h;cases h
theorem Exc.updN {p q:Addr}{H H':Hp}{o:HO} (e:Exc p H H') (h:H q=none):Exc p H (L2.upd H' q o):=λb u n z=>by
 rw[Zj (ZO z h)];exact e b u n z
theorem Exc.same {p:Addr}{H H1 H2:Hp} (a:Exc p H H1) (s:Same H1 H2):Exc p H H2:=a.trans s.ZgN
section
variable {X:Cx}{a b c d:Expr}{ta tb tc td:TE}{pos:Pos}
noncomputable def iSeq (K:Frag) (tl:TE):TI:=fun σ H R=>tl σ H λx H1=>∃a,x=.ref a/\(((∃xs,SqL K H1 a xs)/\R (Itl K a) H1)\/((∃xs,SqT K H1 a xs)/\R (Itt K a) H1))
theorem pi_seq {tg l:Expr}{tl:TE}{K:Frag} (hK:X.K=K) (hl:PE X l tl):PI X tg l (iSeq K tl):=by
 subst hK
 intro pins s σ H R I h
 refine thn (hl pins s σ H _ I h) λv s1 ⟨x,H1,I1,r1,q1⟩=>?_
 obtain⟨a,e,q1⟩:=q1
 subst e
 cases r1
 rcases q1 with⟨⟨xs,hq⟩,q⟩|⟨⟨xs,hq⟩,q⟩
 ·obtain⟨its,rv,p,hz⟩:=I1.list hq
  refine wpAny_pyIter_list p.isList ?_
  refine⟨s1.heap.objs.size,[s1.heap.objs.size],_,_,H1,rfl,I1.kept (t':=s1.toks) λb o e=>Yl _ e,Zfx a _,⟨_,Yu _ rfl,rfl,rfl⟩,λb hb=>?_,q⟩
  have e:b=s1.heap.objs.size:=by simpa using hb
  subst e
  exact I1.fpOk (Yf _) (I1.hok.fresh (Yf _))
 ·obtain⟨its,rv,p,hz⟩:=I1.tuple hq
  refine wpAny_pyIter_tuple (show s1.heap.IsTuple a its.toArray from p) ?_
  refine⟨s1.heap.objs.size,[s1.heap.objs.size],_,_,H1,rfl,I1.kept (t':=s1.toks) λb o e=>Yl _ e,Zhh a _,⟨_,Yu _ rfl,rfl,rfl⟩,λb hb=>?_,q⟩
  have e:b=s1.heap.objs.size:=by simpa using hb
  subst e
  exact I1.fpOk (Yf _) (I1.hok.fresh (Yf _))
end
noncomputable def CA (n:Nat) (Pv:Nat->List V->Hp->Prop) (i m:Nat) (acc:List V) (H:Hp):Prop:=m=n-i/\i<=n/\acc.length<=i/\Pv i acc H
theorem CA.take {n:Nat}{Pv:Nat->List V->Hp->Prop}{i:Nat}{acc:List V}{v:V}{H:Hp} (hi:i<n) (hl:acc.length<=i) (h:Pv (i+1) (acc++[v]) H):∃m',m'<n-i/\CA n Pv (i+1) m' (acc++[v]) H:=⟨n-(i+1),by omega,rfl,hi,by simp;omega,h⟩
theorem ZjG {J:It}{n:Nat}{H1:Hp}{g:TG}{tt:TT}{te:TE}{σ0:St}{Q:VK} (Pv:Nat->List V->Hp->Prop) (hn:n<sizeLine) (h0:Pv 0 [] H1) (hgo:∀i acc H,Pv i acc H->i<n->J.go i H) (hstop:∀acc H,Pv n acc H->J.stop n H)
  (hb:∀i x acc H H',i<n->acc.length<=i->Pv i acc H->J.yld i H x H'->g x σ0 H' fun σ2 H2=>tt σ2 H2 λb H3=>if b=true then te σ2 H3 λv H4=>∃m',m'<n-i/\CA n Pv (i+1) m' (acc++[v]) H4 else ∃m',m'<n-i/\CA n Pv (i+1) m' acc H3)
  (hk:∀l acc H',Pv n acc H'->acc.length<=n->H' l=none->Q (.ref l) (upd H' l (.lst acc))):ZhW J g tt te σ0 Q H1:=by
 refine⟨CA n Pv,⟨n,rfl,YG _,Yf _,h0⟩,?_⟩
 rintro i m acc H ⟨rfl,hi,hl,p⟩
 by_cases h:i<n
 ·exact .inr ⟨hgo i acc H p h,by omega,λx H' y=>hb i x acc H H' h hl p y⟩
 ·have e:i=n:=by omega
  subst e
  exact .inl ⟨hstop acc H p,by omega,λq hq=>hk q acc H p hl hq⟩
section
variable {X:Cx}
noncomputable def rInsert:V->List V->Hp->VK->Prop:=λx vs H Q=>∃l xs i y,x=.ref l/\vs=[.int i,y]/\H l=some (.lst xs)/\0<=i/\i<2 ^ 62/\xs.length<sizeLine/\Q .non (upd H l (.lst (xs.take i.toNat++y::xs.drop i.toNat)))
theorem Vals.takeN:∀{xs:List V}{us:List Value} (k:Nat),Vals xs us->Vals (xs.take k) (us.take k)
 |_,_,0,_=>by simp;exact .nil
 |_,_,_+1,.nil=>.nil
 |_,_,k+1,.cons r h=>.cons r (Vals.takeN k h)
theorem Vals.dropN:∀{xs:List V}{us:List Value} (k:Nat),Vals xs us->Vals (xs.drop k) (us.drop k)
 |_,_,0,h=>by simpa using h
 |_,_,_+1,.nil=>.nil
 |_,_,k+1,.cons _ h=>Vals.dropN k h
theorem ZiB:MtM X "list.insert" rInsert:=by
 intro pins s σ H x vs v us Q I rx rv h
 obtain⟨l,xs,i,y,rfl,rfl,hH,h1,h2,hz,q⟩:=h
 cases rx
 obtain⟨u,u2,rfl,ru,ru2⟩:=rv.two
 obtain⟨t,rfl⟩:=ru
 obtain⟨z,its,n,r,hl,e⟩:=I.lstM hH
 have hf:¬ (!Builtin.List.listFitsIndex i)=true:=by
  unfold Builtin.List.listFitsIndex
  have a1:decide (-(2 ^ 63:Int)<=i)=true:=YC (by omega)
  have a2:decide (i<(2 ^ 63:Int))=true:=YC (by omega)
  rw[a1,a2];decide
 refine call_meets F.slot_list_insert ⟨_,e,rfl⟩ F.entry_list_insert (F.args_list_insert_3 _ _ _) (AutoListH.list_insert_list_int_val_1 l its.toArray n i t u2 hf (by rw[Yi];omega)) ⟨e,?_⟩
 refine⟨.non,_,I.lset (its':=its.take i.toNat++u2::its.drop i.toNat) (ys:=xs.take i.toNat++y::xs.drop i.toNat) hH e ?_ ((r.takeN _).append (.cons ru2 (r.dropN _))) ?_,rfl,q⟩
 ·show((its.toArray.extract 0 (if i<0 then (i+((its.toArray.size:Nat):Int)).toNat else min i.toNat its.toArray.size)).push u2++its.toArray.extract (if i<0 then (i+((its.toArray.size:Nat):Int)).toNat else min i.toNat its.toArray.size))=_
  rw[Yb (by omega)]
  have e1:its.take (min i.toNat its.length)=its.take i.toNat:=by
   by_cases hh:i.toNat<=its.length
   ·rw[Nat.min_eq_left hh]
   ·rw[Nat.min_eq_right (by omega),List.take_of_length_le (by omega),List.take_of_length_le (by omega)]
  have e2:its.drop (min i.toNat its.length)=its.drop i.toNat:=by
   by_cases hh:i.toNat<=its.length
   ·rw[Nat.min_eq_left hh]
   ·rw[Nat.min_eq_right (by omega),List.drop_of_length_le (by omega),List.drop_of_length_le (by omega)]
  apply Array.ext'
  simp[e1,e2]
  exact List.take_of_length_le (by rw[YV];omega)
 ·rw[YB,Yr,YJ,YV];omega
end
noncomputable def rIntB:List V->Hp->VK->Prop:=λxs H Q=>∃k,xs=[.bl k]/\Q (.int (if k=true then 1 else 0)) H
theorem ZcI {X:Cx}:Zay X (.type "int") rIntB:=λpins s σ H xs us Q I r h=>Zio pins s σ H xs us Q I r (.inr h)
noncomputable def IsB (v:V) (b:Bool):Prop:=v=.bl b
theorem ZjH {K:Frag}{H:Hp}{n:Nat}:EqP K H n IsB:=by
 rintro x y a b rfl rfl
 have:=EqD.flat (K:=K) (H:=H) (n:=n) (x:=.bl a) (y:=.bl b) rfl rfl
 have e:eqV (.bl a) (.bl b)=decide (a=b):=by cases a<;>cases b<;>rfl
 rw[<-e];exact this
theorem ZfH {K:Frag}{H:Hp}{a:Addr}{bs:List Bool} (h:SqL K H a (bs.map V.bl)):IsL K H IsB (.ref a) bs:=⟨a,_,rfl,h,by simp,λj x y h1 h2=>by
 rw[Yy,h2]at h1
 exact(Yq h1).symm⟩
noncomputable def ZA (H:Hp) (p:Addr):Prop:=∃x:Int,H p=some (.lst [.int x])/\0<=x
theorem ZA.ne {H:Hp}{p q:Addr} (P:ZA H p) (h:H q=none):q≠p:=by
 obtain⟨x,e,_⟩:=P
 exact(ZO e h).symm
theorem ZA.same {H H':Hp}{p:Addr} (P:ZA H p) (s:Same H H'):ZA H' p:=by
 obtain⟨x,e,r⟩:=P
 exact⟨x,s _ _ e,r⟩
theorem ZA.upd {H:Hp}{p q:Addr}{o:HO} (P:ZA H p) (h:H q=none):ZA (L2.upd H q o) p:=P.same ((Same.refl H).upd h)
theorem ZA.updN {H:Hp}{p q:Addr}{o:HO} (P:ZA H p) (h:q≠p):ZA (L2.upd H q o) p:=by
 obtain⟨x,e,r⟩:=P
 exact⟨x,by rw[Zj h.symm];exact e,r⟩
theorem cp60:Zfg 10 60:=by unfold Zfg;decide
theorem qm1:IntMulOk (10 ^ Int.toNat 60) (10 ^ Int.toNat 60):=Zgh (by decide +kernel) (by decide +kernel)
theorem qm2:IntMulOk (10 ^ Int.toNat 60*10 ^ Int.toNat 60) (10 ^ Int.toNat 60):=Zgh (by decide +kernel) (by decide +kernel)
theorem qm3:IntMulOk (10 ^ Int.toNat 60*10 ^ Int.toNat 60*10 ^ Int.toNat 60) (10 ^ Int.toNat 60):=Zgh (by decide +kernel) (by decide +kernel)
theorem qm4:(0:Int)<10 ^ Int.toNat 60*10 ^ Int.toNat 60*10 ^ Int.toNat 60*10 ^ Int.toNat 60:=by decide +kernel
end L2
namespace L2
open PySem PySem.Spec PyProof.Rows PySem.W
theorem Zk1 {c:TT}{tb:TS}{D:Ends}{σ:St}{H:Hp} (Pv:Nat->St->Hp->Prop) (m0:Nat) (h0:Pv m0 σ H)
  (hs:∀m σ H,Pv m σ H->c σ H λb H1=>if b=true then ∃Nx:St->Hp->Prop,(∀σ' H',Nx σ' H'->∃m',m'<m/\Pv m' σ' H')/\tb {D with nx:=Nx,ct:=Nx,bk:=D.nx} σ H1 else D.nx σ H1):ZjA c tb D σ H:=⟨Pv,⟨m0,h0⟩,hs⟩
end L2
namespace L2
noncomputable def wayF (T:List Int):Nat->Int->List Nat
 |0,_=>[]
 |k+1,at_=>if 0<=at_/\at_<T.length then at_.toNat::wayF T k (nth T at_.toNat)else []
end L2
namespace L2
open PySem PySem.Spec PyProof.Rows PySem.W
section
variable {X:Cx}
theorem ZeS {K:Frag} (hK:X.K=K):OpR X (compareOp .In) (rIn K false):=hK▸Ziu
end
theorem ZiC (xs:List Int):(xs.map V.int).all flatV=true:=by
 induction xs with
 |nil=>rfl
 |cons x r ih=>rw[YA,List.all_cons,ih];rfl
theorem ZcO {a b:TS}{D:Ends}{σ:St}{H:Hp} (Mid:St->Hp->Prop) (h1:∀R:St->Hp->Prop,(∀σ' H',Mid σ' H'->R σ' H')->a {D with nx:=R} σ H) (h2:∀σ' H',Mid σ' H'->b D σ' H'):tSeq a b D σ H:=h1 _ h2
end L2
namespace L2
open PySem PySem.Spec PyProof.Rows
structure CellsOf (cl:List (Str×Addr)) (n0:Nat) (cs:List (Str×Addr)) (h0 h:Heap) (done:List (Str×NameKind)):Prop where
 old:∀b o,h0.get? b=some o->h.get? b=some o
 sz:n0<=h.objs.size
 mem:∀p∈cs,p∈cl\/(n0<=p.2/\p.2<h.objs.size/\h.IsCell p.2 none)
 inj:∀p∈cs,∀q∈cs,n0<=p.2->p.2=q.2->p.1=q.1
 own:∀y∈done,y.2=.cell->∃c,cs.lookup y.1=some c/\n0<=c
 oth:∀x,(∀y∈done,y.2=.cell->y.1≠x)->cs.lookup x=cl.lookup x
theorem ZdW {M:Model}{A:Around}{E:Value->Shared->Prop}{cl:List (Str×Addr)}{n0:Nat}{h0:Heap} (hcl:∀p∈cl,p.2<n0):∀(names:List (Str×NameKind)) (cs:List (Str×Addr)) (done:List (Str×NameKind)) (s:Shared),CellsOf cl n0 cs h0 s.heap done ->
  wpAny M A (forIn names cs λ(x:Str×NameKind) (r:List (Str×Addr))=>(match x with
   |(name,kind)=>if (kind==NameKind.cell)=true then do
     let a <-alloc {cls:=.type "cell",data:=.cell none}
     pure (ForInStep.yield ((name,a)::r))
    else pure (ForInStep.yield r):Sem (ForInStep (List (Str×Addr))))) (λcs' s'=>∃h',s'={s with heap:=h'}/\CellsOf cl n0 cs' h0 h' (done++names)) E s
 |[],cs,done,s,I=>by
  rw[List.forIn_nil,List.append_nil]
  exact Yc ⟨s.heap,rfl,I⟩
 |(n,k)::r,cs,done,s,I=>by
  rw[List.forIn_cons]
  by_cases hk:k=.cell
  ·subst hk
   simp only[beq_self_eq_true,if_true]
   refine Ya (Ya (wpAny_alloc (Yc ?_)))
   have hget:(s.heap.push {cls:=.type "cell",data:=.cell none}).get? s.heap.objs.size=some {cls:=.type "cell",data:=.cell none}:=Yu _ rfl
   have I':CellsOf cl n0 ((n,s.heap.objs.size)::cs) h0 (s.heap.push {cls:=.type "cell",data:=.cell none}) (done++[(n,.cell)]):=by
    refine⟨λb o e=>Yl _ (I.old b o e),by rw[Heap.size_push];exact Nat.le_succ_of_le I.sz,λp hp=>?_,λp hp q hq hn e=>?_,λy hy hc=>?_,λx hx=>?_⟩
    ·rcases Yj.mp hp with z|z
     ·subst z
      exact .inr ⟨I.sz,by rw[Heap.size_push];exact Nat.lt_succ_self _,_,hget,rfl⟩
     ·rcases I.mem p z with w|⟨w1,w2,o,w3,w4⟩
      ·exact .inl w
      ·exact .inr ⟨w1,by rw[Heap.size_push];exact YL w2,o,Yl _ w3,w4⟩
    ·have lt:∀p∈cs,p.2<s.heap.objs.size:=λp hp=>by
      rcases I.mem p hp with w|w
      ·exact Yk (hcl p w) I.sz
      ·exact w.2.1
     rcases Yj.mp hp with z|z<;>rcases Yj.mp hq with z'|z'
     ·rw[z,z']
     ·subst z;exact absurd (show s.heap.objs.size<s.heap.objs.size from(show s.heap.objs.size=q.2 from e)▸lt q z') (Yx _)
     ·subst z';exact absurd (show s.heap.objs.size<s.heap.objs.size from(show p.2=s.heap.objs.size from e)▸lt p z) (Yx _)
     ·exact I.inj p z q z' hn e
    ·rcases Ys.mp hy with z|z
     ·obtain⟨c,e1,e2⟩:=I.own y z hc
      by_cases hx:y.1=n
      ·exact⟨s.heap.objs.size,by rw[hx];simp,I.sz⟩
      ·have hb:(y.1==n)=false:=by simpa using hx
       exact⟨c,by simp only[List.lookup_cons,hb];exact e1,e2⟩
     ·have:y=(n,.cell):=by simpa using z
      subst this
      exact⟨s.heap.objs.size,by simp,I.sz⟩
    ·have hxn:n≠x:=hx (n,.cell) (by simp) rfl
     have hb:(x==n)=false:=by simpa using hxn.symm
     simp only[List.lookup_cons,hb]
     exact I.oth x λy hy=>hx y (YN _ hy)
   refine thn (ZdW hcl r _ _ {s with heap:=s.heap.push {cls:=.type "cell",data:=.cell none}} I') λcs' s' ⟨h',e1,e2⟩=>⟨h',e1,?_⟩
   rw[YO]at e2
   exact e2
  ·have e1:(k==NameKind.cell)=false:=by cases k<;>first|rfl|exact absurd rfl hk
   simp only[e1,Bool.false_eq_true,if_false]
   refine Ya (Yc ?_)
   have I':CellsOf cl n0 cs h0 s.heap (done++[(n,k)]):=by
    refine⟨I.old,I.sz,I.mem,I.inj,λy hy hc=>?_,λx hx=>I.oth x λy hy=>hx y (YN _ hy)⟩
    rcases Ys.mp hy with z|z
    ·exact I.own y z hc
    ·have:y=(n,k):=by simpa using z
     subst this
     exact absurd hc hk
   refine thn (ZdW hcl r _ _ s I') λcs' s' ⟨h',e1,e2⟩=>⟨h',e1,?_⟩
   rw[YO]at e2
   exact e2
theorem Zhw {M:Model}{A:Around}{E:Value->Shared->Prop}{s:Shared}{scope:Scope}{globals:Addr}{cl:List (Str×Addr)}{qual:Str}{around:Env}{Q:Env->Shared->Prop} (hcl:∀p∈cl,p.2<s.heap.objs.size)
  (h:∀cs h',CellsOf cl (s.heap.objs.size+1) cs (s.heap.push {cls:=.type "dict",data:=.dict #[]}) h' scope.names->Q {scope:=scope,locals:=s.heap.objs.size,globals:=globals,cells:=cs,qual:=qual,func:=none,code:=around.code,frame:=around.frame,builtins:=around.builtins} {s with heap:=h'}) :
  wpAny M A (newFunctionEnv scope globals cl [] qual none .none (some around)) Q E s:=by
 unfold newFunctionEnv
 refine Ya (wpAny_alloc ?_)
 refine Ya (thn (ZdW (cl:=cl) (n0:=s.heap.objs.size+1) (h0:=s.heap.push {cls:=.type "dict",data:=.dict #[]}) (λp hp=>YL (hcl p hp)) scope.names cl [] {s with heap:=s.heap.push {cls:=.type "dict",data:=.dict #[]}} ⟨λb o e=>e,by rw[Heap.size_push];exact Yf _,λp hp=>.inl hp,λp hp q hq hn e=>absurd (hcl p hp) (Nat.not_lt_of_le (Nat.le_of_succ_le hn)),λy hy=>(nomatch hy),λx hx=>rfl⟩) λcs s' ⟨h',e1,e2⟩=>?_)
 subst e1
 rw[List.nil_append]at e2
 exact Ya (Yc (Yc (h cs h' e2)))
noncomputable def Zap (around scope:Scope):Bool :=
 scope.kind==.function&&around.kind==.function&&scope.names.all λy=>match y.2 with
  |.local=>scope.names.lookup y.1==some .local
  |.cell=>scope.names.lookup y.1==some .cell
  |.free=>(scope.names.lookup y.1==some .free)&&(around.names.lookup y.1==some .cell||around.names.lookup y.1==some .free)
  |_=>true
theorem Zdt {a s:Scope} (h:Zap a s=true):s.kind=.function:=by
 simp only[Zap,Bool.and_eq_true,beq_iff_eq]at h;exact h.1.1
theorem Zc0 {a s:Scope} (h:Zap a s=true) {y:Str×NameKind} (hy:y∈s.names):(match y.2 with
  |.local=>s.names.lookup y.1==some .local
  |.cell=>s.names.lookup y.1==some .cell
  |.free=>(s.names.lookup y.1==some .free)&&(a.names.lookup y.1==some .cell||a.names.lookup y.1==some .free)
  |_=>true)=true:=by
 simp only[Zap,Bool.and_eq_true]at h
 exact List.all_eq_true.mp h.2 y hy
theorem Zfk {a s:Scope} (h:Zap a s=true):∀y∈s.names,y.2=.local->s.names.lookup y.1=some .local:=λy hy e=>by
 have q:=Zc0 h hy
 rw[e]at q
 exact beq_iff_eq.mp q
theorem Zgk {a s:Scope} (h:Zap a s=true):∀y∈s.names,y.2=.cell->s.names.lookup y.1=some .cell:=λy hy e=>by
 have q:=Zc0 h hy
 rw[e]at q
 exact beq_iff_eq.mp q
theorem ZbF {a s:Scope} (h:Zap a s=true):∀y∈s.names,y.2=.free->s.names.lookup y.1=some .free/\(a.names.lookup y.1=some .cell\/a.names.lookup y.1=some .free):=λy hy e=>by
 have q:=Zc0 h hy
 rw[e]at q
 simp only[Bool.and_eq_true,Bool.or_eq_true,beq_iff_eq]at q
 exact q
noncomputable def Z3 (X:Cx) (Nc:List Str) (scope:Scope) (cs:List (Str×Addr)) (C:Addr) (s2:Shared) (H2:Hp) (fp:List Addr):Cx :=
 {Zju X Nc scope cs C s2 H2 fp with fn:=λx=>scope.names.lookup x==some .cell}
theorem ZgQ {env:Env}{scope:Scope} (h:∀y∈scope.names,y.2=.free->∃c,env.cells.lookup y.1=some c) :
  ∃cl,closureFor scope env=pure cl/\(∀p∈cl,env.cells.lookup p.1=some p.2)/\(∀y∈scope.names,y.2=.free->∃c,cl.lookup y.1=some c/\env.cells.lookup y.1=some c):=by
 obtain⟨cl,e,h1,h2,h3⟩:=ZcY (env:=env) scope.names [] h
 have up:∀p∈cl,env.cells.lookup p.1=some p.2:=λp q=>by
  rcases h1 _ q with z|z
  ·cases z
  ·exact z
 refine⟨cl,?_,up,λy hy hf=>?_⟩
 ·unfold closureFor
  simp only[bind_pure_comp]at e⊢
  rw[e]
  exact pure_bind _ _
 ·obtain⟨c,hc⟩:=h3 y hy hf
  cases q:cl.lookup y.1 with
  |none=>exact absurd (List.lookup_eq_none_iff.mp q _ hc) (by simp)
  |some c'=>exact⟨c',rfl,up _ (PySem.mem_of_lookup q)⟩
section
variable {X:Cx}
theorem ZgR {pins:List (Addr×Obj)}{σ:St}{H2:Hp}{s2:Shared}{Nc:List Str}{js:List (Option Nat)}{scope:Scope}{cs:List (Str×Addr)}{fp:List Addr}{h1:Heap}{tk:Nat}{D C:Addr}{oD:Obj}{m:Str->Option Value}
  (I:Inv X pins σ H2 s2) (hok:Zap X.env.scope scope=true) (htk:Zan X.N Nc scope js 0=true) (up:∀x c,cs.lookup x=some c->X.env.cells.lookup x=some c\/(C<c/\h1.IsCell c none)) (hinj:∀x y c,cs.lookup x=some c->cs.lookup y=some c->x=y) (hown:∀y∈scope.names,y.2=.cell->∃c,cs.lookup y.1=some c/\C<c) (hfr:∀y∈scope.names,y.2=.free->∃c,cs.lookup y.1=some c/\X.env.cells.lookup y.1=some c)
  (hfp:∀b∈fp,FpOk X pins H2 b) (hfl:∀b∈fp,b<s2.heap.objs.size) (hD:D=s2.heap.objs.size) (hC:C=s2.heap.objs.size+1) (old:∀b o,s2.heap.get? b=some o->h1.get? b=some o) (hns:h1.Ns C m) (hoD:h1.get? D=some oD) (hdD:∀v,oD.data≠.cell v) :
  Inv (Z3 X Nc scope cs C s2 H2 fp) [(D,oD)] (iniC js σ) H2 {s2 with heap:=h1,toks:=tk}:=by
 have leC:s2.heap.objs.size<=C:=by rw[hC];exact Nat.le_succ _
 have leD:s2.heap.objs.size<=D:=Nat.le_of_eq hD.symm
 have kf:∀x,((compEnvC scope cs C X.env).kindOf x=some .cell\/(compEnvC scope cs C X.env).kindOf x=some .free)->∃c,cs.lookup x=some c:=λx hx=>by
  have:∃k,(compEnvC scope cs C X.env).kindOf x=some k/\(k=.cell\/k=.free):=hx.elim (λq=>⟨_,q,.inl rfl⟩) λq=>⟨_,q,.inr rfl⟩
  obtain⟨k,e,hk⟩:=this
  obtain⟨k',h1,h2⟩:=Zaa (show(scope.names.map _).lookup x=some k from e)
  have hm:=lookup_mem h1
  have:k'=.free\/k'=.cell:=by
   rcases h2 with q|q
   ·subst q
    exact hk.symm
   ·exact .inl q.1
  rcases this with z|z
  ·subst z
   obtain⟨c,q,_⟩:=hfr _ hm rfl
   exact⟨c,q⟩
  ·subst z
   obtain⟨c,q,_⟩:=hown _ hm rfl
   exact⟨c,q⟩
 have nC:∀c x,X.env.cells.lookup x=some c->c<s2.heap.objs.size:=λc x e=>by
  obtain⟨v,q⟩:=I.cell x c e
  exact q.lt
 have noB:∀b,b∈fp->b∉frs X.stack:=λb hb q=>by
  rcases Yj.mp (I.ZdN b q)with z|z
  ·exact(hfp b hb).2.1 z
  ·exact(hfp b hb).2.2.1 z
 have okX:(Z3 X Nc scope cs C s2 H2 fp).Ok:=by
  refine⟨I.ok.mod,(show scope.kind=.function from Zdt hok),I.ok.glob,I.ok.blt,?_,λx y c e1 e2=>hinj x y c e1 e2,λx hx=>?_,(λx c e1 e2=>?_),I.ok.hd,I.ok.frames,.inl rfl,λb hb=>⟨?_,λx c e=>(up _ _ e).elim (λz=>(hfp b hb).2.2.2.2.1 x c z) λz=>Nat.ne_of_gt (Nat.lt_trans (Yk (hfl b hb) leC) z.1)⟩,I.bs,Yd I.ok.bsz I.sz,λb o e hb=>?_,λb hb=>noB b hb,I.stack,I.ZfW⟩
  ·show s2.heap.objs.size<=C;exact leC
  ·exact kf x hx
  ·have hm:=lookup_mem (beq_iff_eq.mp (show(scope.names.lookup x==some NameKind.cell)=true from e1))
   obtain⟨c',q1,q2⟩:=hown _ hm rfl
   have:c=c':=Yq ((show cs.lookup x=some c from e2).symm.trans q1)
   rw[this]
   exact Yd leC (YM q2)
  ·exact Ym (Yk (hfl b hb) leC)
  ·rcases(hfp b hb).2.2.2.1 with q|q
   ·exact I.ok.noex b o e q
   ·exact absurd (Yk (Yh e) (Yd I.ok.bsz q)) (Yx _)
 refine⟨okX,rfl,I.bare,Un.kept old,⟨m,hns,λi x v e1 e2 e3=>?_⟩,λx c e=>?_,I.hok.fresh leC,λx c e=>(up _ _ e).elim (λz=>I.freeC x c z) λz=>I.hok.fresh (Yd leC (YM z.1)),λp hp=>?_,I.hok.kept old,?_⟩
 ·have e2':(iniC js σ)[i]?=some (some v):=e2
  unfold iniC at e2'
  rw[Yy]at e2'
  cases q:js[i]? with
  |none=>rw[q]at e2';cases e2'
  |some j0 =>
   cases j0 with
   |none=>rw[q]at e2';cases e2'
   |some j =>
    rw[q]at e2'
    simp only[Option.map_some,Option.some.injEq]at e2'
    have e4:σ[j]?=some (some v):=by
     cases z:σ[j]? with
     |none=>rw[z]at e2';cases e2'
     |some o=>rw[z]at e2';simp only[Option.join_some]at e2';rw[e2']
    obtain⟨y,y1,y2,y3⟩:=ZdT htk q
    rw[Nat.zero_add]at y1
    have:x=y:=Yq ((show Nc[i]?=some x from e1).symm.trans y1)
    subst this
    have hm:=lookup_mem y3
    obtain⟨c,c1,c2⟩:=hfr _ hm rfl
    have hk:=(ZbF hok _ hm rfl).2
    obtain⟨m0,hn0,hl0⟩:=I.loc
    obtain⟨u,r,l⟩:=hl0 j x v y2 e4 (hk.elim (λz=>.inr (.inl z)) λz=>.inr (.inr z))
    refine⟨u,r,.inr ⟨?_,c,c1,?_⟩⟩
    ·rcases e3 with z|z|z
     ·obtain⟨k',w1,w2⟩:=Zaa (show(scope.names.map _).lookup x=some NameKind.local from z)
      rw[y3]at w1;cases w1
      rcases w2 with w|w
      ·cases w
      ·cases w.2
     ·exact .inl z
     ·exact .inr z
    ·rcases l with⟨lk,_⟩|⟨_,c',c3,c4⟩
     ·rcases hk with z|z
      ·rw[show X.env.kindOf x=some .cell from z]at lk;cases lk
      ·rw[show X.env.kindOf x=some .free from z]at lk;cases lk
     ·rw[c2]at c3;cases c3
      obtain⟨oc,w1,w2⟩:=c4
      exact⟨oc,old _ _ w1,w2⟩
 ·rcases up _ _ e with z|z
  ·obtain⟨v,oc,w1,w2⟩:=I.cell x c z
   exact⟨v,oc,old _ _ w1,w2⟩
  ·exact⟨_,z.2⟩
 ·have:p=(D,oD):=by
   have hp':p∈([]++[(D,oD)]:List (Addr×Obj)):=hp
   simpa using hp'
  subst this
  refine⟨hoD,I.hok.fresh leD,(by show D≠C;rw[hD,hC];exact Ym (Nat.lt_succ_self _)),λhb=>?_,hdD⟩
  have hb':D∈frs X.stack:=hb
  obtain⟨_,o,ho,_⟩:=I.stack.mem hb'
  exact absurd (Yk (Yh ho) leD) (Yx _)
 ·have:=ZcZ htk
  show(iniC js σ).length=Nc.length
  unfold iniC;rw[Yp];omega
theorem ZfI {pins:List (Addr×Obj)}{σ:St}{H:Hp}{s:Shared}{tg elt iter:Expr}{ifs:List Expr}{scope:Scope}{pos:Pos}{wi:TI}{g:TG}{tt:TT}{te:TE}{Nc:List Str}{js:List (Option Nat)}{use:Option (Value->Sem Unit)}{Q:VK}{QQ:Value->Shared->Prop}
  (hc:X.calm=true) (hok:Zap X.env.scope scope=true) (htk:Zan X.N Nc scope js 0=true) (hi:PI X tg iter wi)
  (hg:∀cl C s2 H2 fp,PG (Z3 X Nc scope cl C s2 H2 fp) tg g) (ht:∀cl C s2 H2 fp,PIfs (Z3 X Nc scope cl C s2 H2 fp) ifs tt) (he:∀cl C s2 H2 fp,PE (Z3 X Nc scope cl C s2 H2 fp) elt te)
  (hs:∀x,foldedSetIterable iter X.env x=pure x) {L:List Nat} (ho:ZhT g L) (hL:(L.all λk=>js[k]?==some none)=true) (I:Inv X pins σ H s) (h:ZhU wi g tt te js σ H Q)
  (fin:∀(D C:Addr) (H' H2:Hp) (s2 s':Shared) (xs:List V) (m:Str->Option Value),Inv X pins σ H2 s2->H' C=none->C=D+1->D=s2.heap.objs.size->s'.heap.Ns C m->(∀h',Heap.SameBut C s'.heap h'->Inv X pins σ (upd H' D (.lst xs)) {s' with heap:=h'})->Q (.ref D) (upd H' D (.lst xs)) ->
   compPost (model X.prog X.w) X.A X.xe use QQ (.ref D) C (.ok .next) s') :
  wpAny (model X.prog X.w) X.A (comprehension (.ListComp elt [⟨tg,iter,ifs,0⟩] scope pos) scope X.env (firstIterPos [⟨tg,iter,ifs,0⟩] pos) (newList []) false (eval iter X.env) use) QQ X.xe s:=by
 have hcells:∀y∈scope.names,y.2=.free->∃c,X.env.cells.lookup y.1=some c:=λy hy hf=>I.ok.has y.1 (ZbF hok y hy hf).2
 obtain⟨cl,hcl,upM,hfr0⟩:=ZgQ hcells
 have hk:=Zdt hok
 refine wpAny_comprehension_free (use:=use) rfl hs hcl hk (Zfk hok) (thn (hi pins s σ H _ I h) λv s1 h1=>thn h1 λitv s2 h2=>?_)
 obtain⟨it,fp,tn,J,H2,e,I2,T,st2,f2,W,⟨m0,w0⟩,turn⟩:=h2
 subst e
 have clt:∀p∈cl,p.2<s2.heap.objs.size:=λp hp=>by
  obtain⟨v,q⟩:=I2.cell p.1 p.2 (upM p hp)
  exact q.lt
 refine wpAny_newObj_type (Zhw (λp hp=>?_) λcs h₁ CO=>?_)
 ·show p.2<(s2.heap.push _).objs.size
  rw[Heap.size_push];exact YL (clt p hp)
 dsimp only at CO⊢
 generalize hH2:s2.heap.push {cls:=.type "list",dict:=none,data:=.seq ([]:List Value).toArray}=HH at CO⊢
 have hC:HH.objs.size=s2.heap.objs.size+1:=by rw[<-hH2,Heap.size_push]
 have hcl':∀p∈cl,p.2<HH.objs.size:=λp hp=>by rw[hC];exact YL (clt p hp)
 have hns₁:h₁.Ns HH.objs.size (λ_=>none):=⟨_,#[],_,CO.old _ _ (Yu _ rfl),rfl,λe he=>absurd he (by simp),λn=>rfl⟩
 have up:∀x c,cs.lookup x=some c->X.env.cells.lookup x=some c\/(HH.objs.size<c/\h₁.IsCell c none):=λx c e=>by
  rcases CO.mem _ (PySem.mem_of_lookup e)with z|z
  ·exact .inl (upM _ z)
  ·exact .inr ⟨z.1,z.2.2⟩
 have hinj:∀x y c,cs.lookup x=some c->cs.lookup y=some c->x=y:=λx y c e1 e2=>by
  have m1:=PySem.mem_of_lookup e1
  have m2:=PySem.mem_of_lookup e2
  rcases CO.mem _ m1 with z|z
  ·rcases CO.mem _ m2 with z'|z'
   ·exact I2.ok.inj x y c (upM _ z) (upM _ z')
   ·exact absurd (hcl' _ z) (Nat.not_lt_of_le (Nat.le_of_succ_le z'.1))
  ·exact CO.inj _ m1 _ m2 z.1 rfl
 have hfr:∀y∈scope.names,y.2=.free->∃c,cs.lookup y.1=some c/\X.env.cells.lookup y.1=some c:=λy hy hf=>by
  obtain⟨c,q1,q2⟩:=hfr0 y hy hf
  refine⟨c,?_,q2⟩
  rw[CO.oth y.1 λy' hy' hc' z=>?_]
  ·exact q1
  ·have w1:=Zgk hok y' hy' hc'
   have w2:=(ZbF hok y hy hf).1
   rw[z,w2]at w1;cases w1
 have hfl:∀b∈fp,b<s2.heap.objs.size:=λb hb=>by
  obtain⟨o,ho,_⟩:=T.obj 0 _ st2 b hb
  exact Yh ho
 have hDC:s2.heap.objs.size≠HH.objs.size:=by rw[hC];exact Ym (Nat.lt_succ_self _)
 have old:∀b o,s2.heap.get? b=some o->h₁.get? b=some o:=λb o e=>CO.old b o (Yl _ (hH2▸Yl _ e))
 have hacc:h₁.get? s2.heap.objs.size=some {cls:=.type "list",dict:=none,data:=.seq ([]:List Value).toArray}:=CO.old _ _ (Yl _ (hH2▸Yu _ rfl))
 have I4:=ZgR (Nc:=Nc) (js:=js) (tk:=s2.toks) I2 hok htk up hinj (λy hy hc=>CO.own y hy hc) hfr f2 hfl rfl hC old hns₁ hacc (by intro v z;cases z)
 have st4:tn 0 h₁:=T.keep _ _ _ st2 λb _ o e=>old b o e
 generalize hXc:Z3 X Nc scope cs HH.objs.size s2 H2 fp=Xc at I4
 have hXA:Xc.A=X.A:=by rw[<-hXc];rfl
 have hXe:Xc.env=compEnvC scope cs HH.objs.size X.env:=by rw[<-hXc];rfl
 have hXp:Xc.prog=X.prog:=by rw[<-hXc];rfl
 have hXw:Xc.w=X.w:=by rw[<-hXc];rfl
 have hXx:Xc.xe=λ_ _=>False:=by rw[<-hXc];rfl
 have hXk:Xc.K=X.K:=by rw[<-hXc];rfl
 have hXcalm:Xc.calm=true:=by rw[<-hXc];exact hc
 have fpok:∀{pl:List (Addr×Obj)}{H':Hp},(∀p∈pl,s2.heap.objs.size<=p.1)->(∀b∈fp,H' b=none)->∀b∈fp,FpOk Xc pl H' b:=λ{pl H'} hpl hn b hb=>by
  have k1:b≠HH.objs.size:=Ym (by rw[hC];exact YL (hfl b hb))
  have k2:b∉frs X.stack:=λq=>by
   rcases Yj.mp (I2.ZdN b q)with z|z
   ·exact(f2 b hb).2.1 z
   ·exact(f2 b hb).2.2.1 z
  rw[<-hXc]
  refine⟨hn b hb,k1,k2,.inl hb,λx c e=>(up _ _ e).elim (λz=>(f2 b hb).2.2.2.2.1 x c z) λz=>Nat.ne_of_gt (Nat.lt_trans (by rw[hC];exact YL (hfl b hb)) z.1),λp hp=>?_⟩
  have hp':p∈pl:=by simpa[Z3,Zju]using hp
  exact Nat.ne_of_gt (Yk (hfl b hb) (hpl p hp'))
 have gX:PG Xc tg g:=hXc▸hg cs HH.objs.size s2 H2 fp
 have tX:PIfs Xc ifs tt:=hXc▸ht cs HH.objs.size s2 H2 fp
 have eX:PE Xc elt te:=hXc▸he cs HH.objs.size s2 H2 fp
 have hs0:Xc.s₀=s2:=by rw[<-hXc];rfl
 have hh0:Xc.H₀=H2:=by rw[<-hXc];rfl
 have hfs:Xc.fs=frs X.stack:=by rw[<-hXc];rfl
 have hex:Xc.ex=fp:=by rw[<-hXc];rfl
 have loop:codeAny (model X.prog X.w) X.A (.compLoop (.ListComp elt [⟨tg,iter,ifs,0⟩] scope pos) 0 (.ref it) (.ref s2.heap.objs.size) (compEnvC scope cs HH.objs.size X.env)) (compPost (model X.prog X.w) X.A X.xe use QQ (.ref s2.heap.objs.size) HH.objs.size)
   {s2 with heap:=h₁,toks:=s2.toks}:=by
  refine Zcg (λn s'=>∃i acc its nn H',Inv Xc [(s2.heap.objs.size,{cls:=.type "list",dict:=none,data:=.seq (its:List Value).toArray nn})] (iniC js σ) H' s'/\Vals acc its/\acc.length<=sizeLine/\tn i s'.heap/\(∀b∈fp,H' b=none)/\W i n acc H') ?_ m0
   ⟨0,[],[],0,H2,I4,.nil,YG _,st4,λb hb=>(f2 b hb).1,w0⟩
  rintro n s3 ⟨i,acc,its,nn,H3,I3,va,hlen,st3,fr3,w3⟩
  have pg:∀p∈([(s2.heap.objs.size,{cls:=.type "list",dict:=none,data:=.seq its.toArray nn})]:List (Addr×Obj)),s2.heap.objs.size<=p.1:=λp hp=>by
   simp only[Yj,List.not_mem_nil,or_false]at hp
   subst hp;exact Yf _
  rcases turn i n acc H3 w3 with⟨stop,hl,qn⟩|⟨go,hl,step⟩
  ·have q:=T.done Xc hXp hXw hXk hXcalm i _ s3 (iniC js σ) H3 (λ_ _=>False) I3 (fpok pg fr3) st3 stop
   rw[hXA]at q
   refine thn q λr s4 ⟨hr,I5⟩=>?_
   subst hr
   have hpin:=I5.pin _ (Yo _ (.head _))
   obtain⟨m5,hn5,_⟩:=I5.loc
   rw[hXe]at hn5
   refine fin _ _ H3 H2 s2 s4 acc m5 I2 (by have:=I5.free;rw[hXe]at this;exact this) hC rfl hn5 (λh' hsb=>?_) (qn _ hpin.2.1)
   have same:∀b o,b≠HH.objs.size->s4.heap.get? b=some o->h'.get? b=some o:=λb o hb e=>hsb.extBut b o hb e
   have un:=I5.base
   rw[hfs,hex,hh0,hs0]at un
   have lt:∀b o,s2.heap.get? b=some o->b<s2.heap.objs.size:=λb o e=>Yh e
   have neC:∀b o,s2.heap.get? b=some o->b≠HH.objs.size:=λb o e=>Ym (by rw[hC];exact YL (lt b o e))
   have neD:∀b o,s2.heap.get? b=some o->b≠s2.heap.objs.size:=λb o e=>Ym (lt b o e)
   have trkC:∀b o,H3 b=some o->b≠HH.objs.size:=λb o e z=>by
    have:=I5.free;rw[hXe]at this;rw[z,show H3 HH.objs.size=none from this]at e;cases e
   refine I2.call' (s':={s4 with heap:=h'}) (ch:=fp) (I5.os.trans (by rw[hs0])) ⟨λb o e n hb hx=>same _ _ (neC b o e) (un.keep b o e n hb hx),λb o e n hb hx=>?_,λb o e n hx=>by rw[Zj (neD b o e)];exact un.free b o e n hx,λb o e hx=>?_,λb xs e=>?_,λb o u e=>?_,λb ps e=>?_⟩ (λa o e=>?_) I5.bare λb hb=>⟨(f2 b hb).2.2.2.1,(f2 b hb).2.1,(f2 b hb).2.2.2.2.1,(f2 b hb).2.2.2.2.2⟩
   ·obtain⟨sl,z⟩:=un.slot b o e n hb hx
    exact⟨sl,same _ _ (neC b o e) z⟩
   ·obtain⟨o',z⟩:=un.there b o e hx
    exact⟨o',same _ _ (neC b o e) z⟩
   ·rw[Zj (Ym (I2.hok.lt e))];exact un.tups b xs e
   ·rw[Zj (Ym (I2.hok.lt e))];exact un.frzs b o u e
   ·obtain⟨more,z⟩:=un.tbls b ps e
    exact⟨more,by rw[Zj (Ym (I2.hok.lt e))];exact z⟩
   ·by_cases ha:a=s2.heap.objs.size
    ·subst ha
     rw[Zd]at e;cases e
     exact⟨hl,its,nn,va,same _ _ hDC hpin.1⟩
    ·rw[Zj ha]at e
     have q:=I5.hok a o e
     rw[hXp,hXw]at q
     refine q.ZfU (λb u hb z=>same b u ?_ z) (λb z=>by rw[Zj];exact z;intro y;subst y;rw[hpin.2.1]at z;cases z) (λb xs z=>by rw[Zj];exact z;intro y;subst y;rw[hpin.2.1]at z;cases z) λb o u z=>by rw[Zj];exact z;intro y;subst y;rw[hpin.2.1]at z;cases z
     rcases hb with hb|hb
     ·subst hb;exact trkC _ _ e
     ·exact trkC _ _ hb
  ·have q:=T.item Xc hXp hXw hXk hXcalm i _ s3 (iniC js σ) H3 (λ_ _=>False) I3 (fpok pg fr3) st3 go
   rw[hXA]at q
   refine thn q λr s4 ⟨u,hr,h4⟩=>?_
   subst hr
   refine thn h4 λ_ s5 ⟨x,H5,I5,r5,y5,st5,fr5⟩=>?_
   have I5':=I5.pinned (fpok pg fr5) (T.obj _ _ st5)
   have again:∀{σ7:St}{H7:Hp}{s7:Shared}{acc7:List V}{its7:List Value}{n7:Nat}{m:Nat},Inv Xc ([(s2.heap.objs.size,{cls:=.type "list",dict:=none,data:=.seq its7.toArray n7})]++Zce fp s5.heap) σ7 H7 s7->Vals acc7 its7->acc7.length<=sizeLine->W (i+1) m acc7 H7->σ7.length=(iniC js σ).length->(∀(k:Nat) v,(iniC js σ)[k]?=some (some v)->σ7[k]?=some (some v)) ->
     ∃i acc its nn H',Inv Xc [(s2.heap.objs.size,{cls:=.type "list",dict:=none,data:=.seq (its:List Value).toArray nn})] (iniC js σ) H' s7/\Vals acc its/\acc.length<=sizeLine/\tn i s7.heap/\(∀b∈fp,H' b=none)/\W i m acc H':=λ{σ7 H7 s7 acc7 its7 n7 m} I7 v7 l7 w7 hl7 hw7=>by
    refine⟨i+1,acc7,its7,n7,H7,(I7.weak hl7.symm hw7).Zcf,v7,l7,T.keep _ _ _ st5 λb hb o e=>(I7.pin (b,o) (Yo _ (Yo _ (ZbB hb e)))).1,λb hb=>?_,w7⟩
    obtain⟨o,e,d⟩:=T.obj _ _ st5 b hb
    exact(I7.pin (b,o) (Yo _ (Yo _ (ZbB hb e)))).2.1
   have keep:∀{σ6:St},Zjv L (iniC js σ) σ6->σ6.length=(iniC js σ).length/\∀(k:Nat) v,(iniC js σ)[k]?=some (some v)->σ6[k]?=some (some v):=λ{σ6} hk=>⟨hk.1,λk v e=>by
    rw[hk.2 k]
    ·exact e
    ·intro z
     have q:=List.all_eq_true.mp hL k z
     simp only[beq_iff_eq]at q
     unfold iniC at e
     rw[Yy,q]at e
     cases e⟩
   have q6:=gX _ s5 (iniC js σ) H5 x u _ I5' r5 (ho _ _ _ _ _ (fun σ' H' kk z=>And.intro kk z) (step x H5 y5))
   rw[hXe,hXA,hXp,hXw,hXx]at q6
   refine thn q6 λ_ s6 ⟨σ6,H6,I6,k6,q6⟩=>?_
   obtain⟨kl,kv⟩:=keep k6
   have q7:=tX _ s6 σ6 H6 _ I6 q6
   rw[hXe,hXA,hXp,hXw,hXx]at q7
   refine thn q7 λb s7 ⟨H7,I7,q7⟩=>?_
   cases b with
   |false =>
    obtain⟨m',hm,w7⟩:=q7
    exact⟨m',hm,again I7 va hlen w7 kl kv⟩
   |true =>
    have q8:=eX _ s7 σ6 H7 _ I7 q7
    rw[hXe,hXA,hXp,hXw,hXx]at q8
    refine thn q8 λy s8 ⟨v8,H8,I8,r8,m',hm,w8⟩=>?_
    have pinD:=I8.pin _ (Yo _ (YN _ (.head _)))
    have hnf:∀p∈Zce fp s5.heap,p.1≠s2.heap.objs.size:=λp hp=>by
     obtain⟨z,_⟩:=Zfy hp
     exact Ym (hfl _ z)
    have va':=va.length
    refine call_meets F.slot_list_append ⟨_,pinD.1,rfl⟩ F.entry_list_append (F.args_list_append_2 _ _) (PySem.list_append s2.heap.objs.size its.toArray nn y (by rw[Yi];omega)) ⟨pinD.1,?_⟩
    have e9:=PySem.IsL.update pinD.1 (λa=>a.push y)
    have e9':its.toArray.push y=(its++[y]).toArray:=by simp
    dsimp only at e9
    rw[e9']at e9
    have I8':Inv Xc (Zce fp s5.heap) σ6 H8 s8:=I8.Zdk λp hp=>I8.pin p (Yo _ (Yo _ hp))
    have hXpn:Xc.pn=[]:=by rw[<-hXc];rfl
    have hXs:s2.heap.objs.size∉frs X.stack:=by rw[<-hfs];exact pinD.2.2.2.1
    have I9:=I8'.turned (t':=s8.toks) (it:=s2.heap.objs.size) (h':=s8.heap.update s2.heap.objs.size (Obj.mapSeq λa=>a.push y)) (λb o hb e=>(Heap.get?_update_other s8.heap _ (Ne.symm hb)).trans e) pinD.2.1 pinD.2.2.1
     (.inr (by rw[hs0];exact Yf _)) (λx c e=>by
      rw[hXe]at e
      intro z
      rcases up _ _ e with y|y
      ·obtain⟨v,q⟩:=I2.cell x c y
       exact absurd q.lt (by rw[z];exact Yx _)
      ·have:=y.1
       rw[z,hC]at this
       exact absurd this (Nat.not_lt_of_le (Nat.le_succ _))) (λp hp=>by rw[hXpn,List.nil_append]at hp;exact hnf p hp)
    have I10:=I9.Zdk (pins':=[(s2.heap.objs.size,{cls:=.type "list",dict:=none,data:=.seq (its++[y]).toArray _})]++Zce fp s5.heap) λp hp=>by
     rcases Ys.mp hp with z|z
     ·simp only[Yj,List.not_mem_nil,or_false]at z
      subst z
      exact⟨e9,pinD.2.1,pinD.2.2.1,pinD.2.2.2.1,by intro v z;cases z⟩
     ·exact I9.pin p (Yo _ z)
    exact⟨m',hm,again I10 (va.append (.cons r8 .nil)) (by rw[YB,List.length_singleton];omega) w8 kl kv⟩
 exact codeAny_compStart_list loop (T.self _ 0 _ _ _ st4 loop)
theorem Zdu {tg elt iter:Expr}{ifs:List Expr}{scope:Scope}{pos:Pos}{wi:TI}{g:TG}{tt:TT}{te:TE} (Nc:List Str) (js:List (Option Nat)) {L:List Nat}
  (hc:X.calm=true) (hok:Zap X.env.scope scope=true) (htk:Zan X.N Nc scope js 0=true) (hi:PI X tg iter wi)
  (hg:∀cl C s2 H2 fp,PG (Z3 X Nc scope cl C s2 H2 fp) tg g) (ht:∀cl C s2 H2 fp,PIfs (Z3 X Nc scope cl C s2 H2 fp) ifs tt) (he:∀cl C s2 H2 fp,PE (Z3 X Nc scope cl C s2 H2 fp) elt te)
  (ho:ZhT g L) (hL:(L.all λk=>js[k]?==some none)=true:=by rfl) (hs:∀x,foldedSetIterable iter X.env x=pure x:=by intro _;rfl):PE X (.ListComp elt [⟨tg,iter,ifs,0⟩] scope pos) (ZhU wi g tt te js):=by
 intro pins s σ H Q I h
 rw[eval_ListComp]
 exact ZfI (use:=none) hc hok htk hi hg ht he hs ho hL I h λD C H' H2 s2 s' xs m I2 hHC e1 e2 hn hI q=>⟨m,hn,λh' hsb=>⟨.ref D,_,hI h' hsb,rfl,q⟩⟩
theorem ZgS {i:Nat}{x:Str}{pos' spos:Pos}{tg elt iter:Expr}{ifs:List Expr}{scope:Scope}{pos:Pos}{wi:TI}{g:TG}{tt:TT}{te:TE} (Nc:List Str) (js:List (Option Nat)) {L:List Nat}
  (hN:X.N.Nodup) (hxi:X.N[i]?=some x) (hx:Loc X.env.scope x)
  (hc:X.calm=true) (hok:Zap X.env.scope scope=true) (htk:Zan X.N Nc scope js 0=true) (hi:PI X tg iter wi)
  (hg:∀cl C s2 H2 fp,PG (Z3 X Nc scope cl C s2 H2 fp) tg g) (ht:∀cl C s2 H2 fp,PIfs (Z3 X Nc scope cl C s2 H2 fp) ifs tt) (he:∀cl C s2 H2 fp,PE (Z3 X Nc scope cl C s2 H2 fp) elt te)
  (ho:ZhT g L) (hL:(L.all λk=>js[k]?==some none)=true:=by rfl) (hs:∀x,foldedSetIterable iter X.env x=pure x:=by intro _;rfl)
  (hsw:swapsWith (.ListComp elt [⟨tg,iter,ifs,0⟩] scope pos) (some (.Name x pos')) spos.line X.env=pure true:=by rfl)
  (hf:X.fn x=true\/X.env.scope.names.lookup x=some .local:=by first|exact .inl rfl|exact .inr rfl|assumption) :
  PS X (.Assign [.Name x pos'] (.ListComp elt [⟨tg,iter,ifs,0⟩] scope pos) spos) (tAsg (ZhU wi g tt te js) (gName i)):=by
 intro pins s σ H D I h
 rw[exec_Assign_Name_used _ _ _ _ hsw]
 refine Ya (wpAny_standAt (Ya ?_))
 show wpAny _ _ (comprehension _ _ _ _ _ _ _ _ >>= _) _ _ _
 refine Ya (thn (Q:=λ_ s'=>∃σ' H',Inv X pins σ' H' s'/\D.nx σ' H') (ZfI (Q:=λv H1=>gName i v σ H1 D.nx) (use:=some (assign (.Name x pos') X.env)) hc hok htk hi hg ht he hs ho hL I h ?_) λ_ s' ⟨σ',H',I',q⟩=>Yc (Yc ⟨σ',H',I',q⟩))
 intro D' C H' H2 s2 s' xs m I2 hHC e1 e2 hn hI q
 obtain⟨oC,es,ep,hoC,hdC,hrest⟩:=id hn
 have leC:s2.heap.objs.size<=C:=by rw[e1,e2];exact Nat.le_succ _
 have ltC:s2.heap.objs.size<C:=by rw[e1,e2];exact Nat.lt_succ_self _
 have neDC:C≠D':=by rw[e2];exact Nat.ne_of_gt ltC
 have fresh:s2.heap.get? C=none:=by
  cases e:s2.heap.get? C with
  |none=>rfl
  |some o=>exact absurd (Yk (Yh e) leC) (Yx _)
 have neL:C≠X.env.locals:=Nat.ne_of_gt (Yk I2.lt leC)
 have nfs:C∉X.fs:=I2.nofs leC
 have ncl:∀x c,X.env.cells.lookup x=some c->c≠C:=λx c e z=>by
  obtain⟨v,q⟩:=I2.cell x c e
  exact absurd (Yk q.lt leC) (by rw[z];exact Yx _)
 have npn:∀p∈X.pn++pins,p.1≠C:=λp hp z=>by
  have:=(I2.pin p hp).1
  rw[z,fresh]at this;cases this
 have hH:(upd H' D' (HO.lst xs)) C=none:=by rw[Zj neDC];exact hHC
 have I0:=hI s'.heap Zgc
 have I1:Inv X (pins++[(C,oC)]) σ (upd H' D' (.lst xs)) s':=I0.Zdk λp hp=>by
  rcases Ys.mp hp with z|z
  ·exact I0.pin p (Yo _ z)
  ·simp only[Yj,List.not_mem_nil,or_false]at z
   subst z
   exact⟨hoC,hH,neL,nfs,λv z=>by rw[hdC]at z;cases z⟩
 show wpAny _ _ _ _ _ _
 refine thn (ZP (X:=X) (i:=i) hN hxi hx hf (pins++[(C,oC)]) s' σ _ (.ref D') (.ref D') _ I1 rfl q) λ_ s3 ⟨σ3,H3,I3,q3⟩=>?_
 have pC:=I3.pin (C,oC) (Yo _ (Yo _ (.head _)))
 refine⟨m,⟨oC,es,ep,pC.1,hdC,hrest⟩,λh' hsb=>⟨σ3,H3,?_,q3⟩⟩
 exact I3.Zcf.turned (t':=s3.toks) (it:=C) (λb o hb e=>hsb.extBut b o hb e) pC.2.1 neL (.inr (Yd I2.sz leC)) ncl npn
end
end L2
namespace L2
open PySem PySem.Spec PyProof.Rows PySem.W
end L2
namespace HT
open PySem PyProof.Rows
section
open PySem.SeqAt
open PySem.AutoSeq1 (wpAny_loadPart')
open PySem.MeetsSeq PySem.MeetsSeq2 PySem.MeetsSeq3
variable {prog:Program}{w:World}{A:Around}{E:Value->Shared->Prop}{s:Shared}
theorem Zdv {t sl:Addr}{items:Array Value}{vl vu:Value}{lo hi:Option Int}{Q:Value->Shared->Prop} (ht:IsTup s.heap t items) (hs:s.heap.IsSliceOf sl vl vu .none) (pl:IsPart vl lo) (pu:IsPart vu hi)
  (hw:sIx items.size 0 lo=0/\sIx items.size items.size hi=items.size) (h:Q (.ref t) s):wpAny (model prog w) A (getItem (.ref t) (.ref sl)) Q E s:=by
 obtain⟨os,hos,hcs,hds⟩:=id hs
 have hTs:s.TypeIs (.ref sl) "slice":=⟨os,hos,hcs⟩
 unfold getItem
 try with_reducible refine YF ?_
 first|refine Ya (Yc ?_)|skip
 refine Ya (wpAny_sequenceKey ht.typeIs (by decide) ?_)
 refine Ya (wpAny_callSpecial?_slot (name:=Str.ofString "__getitem__") ht.typeIs PyProof.Rows.slot_tuple_getitem
  (wpAny_call_entry PyProof.Rows.slot_tuple_getitem ht.typeIs entry_tuple_getitem ?_ (args_tuple_getitem _ _)))
 show wpAny _ _ (Builtin.Tuple.tupleItemsOf (.ref t) >>= _) _ _ s
 refine Ya (tupleItemsOf_ ht ?_)
 refine Ya (wpAny_typeOf hTs ?_)
 rw[Ye (by decide)]
 refine Ya (Zbu hs pl pu ?_)
 have hyes:(((sIx items.size 0 lo:Nat):Int)==0&&(1:Int)==1&&(sIx items.size items.size hi-sIx items.size 0 lo)==items.size)=true:=by
  rw[hw.1,hw.2];simp
 show wpAny _ _ (if (((sIx items.size 0 lo:Nat):Int)==0&&(1:Int)==1&&(sIx items.size items.size hi-sIx items.size 0 lo)==items.size)=true then _ else _) _ _ s
 rw[Ye hyes]
 refine Ya ?_
 unfold Builtin.Tuple.tupleIsExact
 refine Ya (wpAny_typeOf ht.typeIs (Yc ?_))
 rw[Ye (by decide)]
 refine Ya (wpAny_rule ?_)
 first
  |exact Yc ⟨_,rfl,Yc h⟩
  |exact Ya (Yc (Yc ⟨_,rfl,Yc h⟩))
  |exact Ya (Yc ⟨_,rfl,Yc h⟩)
end
end HT
namespace L2
open PySem PySem.Spec PyProof.Rows PySem.W
section
variable {X:Cx}
noncomputable def rSlQ (K:Frag):V->Option Int->Option Int->Hp->VK->Prop:=λx lo hi H Q=>∃a xs,x=.ref a/\((SqL K H a xs/\∀p,H p=none->Q (.ref p) (upd H p (.lst (Zcb xs lo hi)))) \/
 (SqT K H a xs/\(HT.sIx xs.length 0 lo=0/\HT.sIx xs.length xs.length hi=xs.length->Q (.ref a) H)/\(¬ (HT.sIx xs.length 0 lo=0/\HT.sIx xs.length xs.length hi=xs.length)->∀p,H p=none->Q (.ref p) (upd H p (.tup (Zcb xs lo hi))))))
theorem sl_q {K:Frag} (hK:X.K=K):SlR X (rSlQ K):=by
 subst hK
 intro pins s σ H x v vl vu lo hi sl Q I rx hs pl pu h
 obtain⟨a,xs,rfl,h|⟨hx,h1,h2⟩⟩:=h
 ·exact Zf8 pins s σ H _ v vl vu lo hi sl Q I rx hs pl pu ⟨a,xs,rfl,h⟩
 ·by_cases hw:HT.sIx xs.length 0 lo=0/\HT.sIx xs.length xs.length hi=xs.length
  ·cases rx
   obtain⟨its,r,ht,hz⟩:=I.tuple hx
   have hlen:its.toArray.size=xs.length:=by rw[Yi];exact r.length.symm
   refine⟨"tuple",_,PyProof.Rows.slot_tuple_getitem.lookup,ht.typeIs,?_⟩
   exact HT.Zdv ht hs pl pu (by rw[hlen];exact hw) ⟨.ref a,H,I,rfl,h1 hw⟩
  ·exact sl_tup pins s σ H _ v vl vu lo hi sl Q I rx hs pl pu ⟨a,xs,rfl,hx,hw,h2 hw⟩
end
theorem ZiD {xs:List V}{lo hi:Option Int} (h:HT.sIx xs.length 0 lo=0/\HT.sIx xs.length xs.length hi=xs.length):Zcb xs lo hi=xs:=by
 unfold Zcb
 rw[h.1,h.2];simp
noncomputable def way (T:List Int) (p:Nat):List Nat:=wayF T T.length (nth T p)
section
variable {X:Cx}
noncomputable def rOr (r1 r2:R2):R2:=λx y H Q=>r1 x y H Q\/r2 x y H Q
theorem ZjI {op:Value->Value->Sem Value}{r1 r2:R2} (h1:OpR X op r1) (h2:OpR X op r2):OpR X op (rOr r1 r2):=λpins s σ H x y v u Q I rx ry h=>h.elim (h1 pins s σ H x y v u Q I rx ry) (h2 pins s σ H x y v u Q I rx ry)
end
end L2
namespace PySem
open Sem (wp)
end PySem
namespace L2
open PySem PySem.Spec PyProof.Rows PySem.W
end L2
namespace L2
open PySem PySem.Spec PyProof.Rows PySem.W
end L2
namespace L2
open PySem PySem.Spec PyProof.Rows PySem.W
structure FunD (K:PySem.W.Frag) (x qual:Str) (st:Stmt) (f:Addr) (fd:FuncData) (dV:Value):Prop where
 ex:∃(oc:Value) (od:Option Addr) (kV doc pm:Value) (an:Option Addr) (cdv ct:Value) (osl:Array (Option Value)),
  fd=PySem.W.fnOf x qual (defArgs st) (defBody st) (defScope st) dV kV doc pm an cdv ct/\K.lookup f=some ⟨oc,od,.func fd,osl⟩/\PySem.W.codeIn K cdv qual=true
 kp:PySem.W.keepIn K (.ref f)=true
section
variable {P:Program}{w:World}{K:PySem.W.Frag}{mg:Str->Option Value}{base:Heap}
theorem FunD.okX {x qual:Str}{st:Stmt}{f:Addr}{fd:FuncData}{dV:Value}{N ps:List Str}{k:Nat}{sp:Sp} (F:FunD K x qual st f fd dV) (S:FnScope N ps (defScope st)) (len:∀vs H Q E,sp vs H Q E->vs.length=ps.length)
  (hbody:∀(cdv:Value) (A:Around) (outer:List Env) (s:Shared) (H:Hp) (vs:List V) (Q:VK) (E:XK),Room k (A.deeper (envOfC qual (defScope st) s.heap.objs.size f cdv))->sp vs H Q E ->
   ∃t,PSs (ZdR (CXE P w) P w K mg base N qual (defScope st) f cdv A outer s H E) (defBody st) t/\t {nx:=λ_ H'=>Q .non H',rt:=Q} (start N vs) H):FnOk P w K mg base (CXE P w) (k+1) f fd ps sp:=by
 obtain⟨oc,od,kV,doc,pm,an,cdv,ct,osl,rfl,lk,hcd⟩:=F.ex
 exact fn_of lk hcd S len λA outer s H vs Q E hr hsp=>hbody cdv A outer s H vs Q E hr hsp
theorem FunD.binds {x qual:Str}{st:Stmt}{f:Addr}{fd:FuncData}{D:Addr}{ps:List Str}{ds:List Value}{oc:Value}{od:Option Addr}{items:Array Value}{ep:Nat}{sl:Array (Option Value)} (F:FunD K x qual st f fd (.ref D))
  (lk:K.lookup D=some ⟨oc,od,.seq items ep,sl⟩)
  (h:∀(kV doc pm:Value) (an:Option Addr) (cdv ct:Value) (us:List Value),(us++ds).length=ps.length->∃k,bindArgs (PySem.W.fnOf x qual (defArgs st) (defBody st) (defScope st) (.ref D) kV doc pm an cdv ct) ⟨us,[]⟩=seqItems? (.ref D) >>= k/\k (some items)=pure (ps.zip (us++ds))):Binds K fd ps ds:=by
 obtain⟨oc,od,kV,doc,pm,an,cdv,ct,osl,rfl,lf,hcd⟩:=F.ex
 intro s us KX hl
 obtain⟨k,h1,h2⟩:=h kV doc pm an cdv ct us hl
 exact BindsTo.of_defaults rfl (KX _ _ lk) rfl h1 h2
theorem Zk2 {x qual:Str}{st:Stmt}{f:Addr}{oc:Value}{od an:Option Addr}{osl:Array (Option Value)}{dV kV doc pm cdv ct:Value} (l:K.lookup f=some ⟨oc,od,.func (PySem.W.fnOf x qual (defArgs st) (defBody st) (defScope st) dV kV doc pm an cdv ct),osl⟩)
  (c:PySem.W.codeIn K cdv qual=true) (k:PySem.W.keepIn K (.ref f)=true):FunD K x qual st f (PySem.W.fnOf x qual (defArgs st) (defBody st) (defScope st) dV kV doc pm an cdv ct) dV:=⟨⟨oc,od,kV,doc,pm,an,cdv,ct,osl,rfl,l,c⟩,k⟩
end
noncomputable def Zgl (P:Program) (w:World) (K:Frag) (mg:Str->Option Value) (base:Heap) (x:Str) (k:Nat) (ps:List Str) (dvs:List V) (sp:Sp):Prop :=
 ∃f fd ds,mg x=some (.ref f)/\keepIn K (.ref f)=true/\Binds K fd ps ds/\Vals dvs ds/\FnOk P w K mg base (CXE P w) k f fd ps sp
theorem ZiE {X:Cx}{x:Str}{k:Nat}{ps:List Str}{dvs:List V}{sp:Sp}{E:XK}{e:Expr}{es:List Expr}{t:TA}{p pos:Pos} (C:Zgl X.prog X.w X.K X.mg X.base x k ps dvs sp) (hr:Room k X.A) (hg:Gl X x) (hx:Passes (CXE X.prog X.w) X E)
  (ha:PA X (e::es) t) (hdb:(x==("__debug__":Str))=false:=by decide) (he:starEach (e::es) X.env=(false,eval e X.env)::starEach es X.env:=by rfl) (hpl:(backTo pos (starEach es X.env)).any (·.1)=false:=by rfl) :
  PE X (.Call (.Name x p) (e::es) [] pos) (tCall sp dvs E t):=by
 obtain⟨f,fd,ds,hm,hk,hb,hv,F⟩:=C
 exact ZhP F hr hg hm hk hb hv hx ha hdb he hpl
structure KindsOf (K:Frag) (mg:Str->Option Value) (C:Addr) (b:Nat->Bool):Prop where
 z:ExK K C
 k0:kitOne K (.ref C) (.ref (clsAt mg "Unlike"))=some (b 0)
 k1:kitOne K (.ref C) (.ref (clsAt mg "Empty"))=some (b 1)
 k2:kitOne K (.ref C) (.ref (clsAt mg "TooMany"))=some (b 2)
 k3:kitOne K (.ref C) (.ref (clsAt mg "NoTree"))=some (b 3)
 k4:kitOne K (.ref C) (.ref (clsAt mg "NoTelling"))=some (b 4)
 k5:kitOne K (.ref C) (.ref (clsAt mg "NoPlace"))=some (b 5)
 k6:kitOne K (.ref C) (.ref (clsAt mg "NoNumber"))=some (b 6)
 k7:kitOne K (.ref C) (.ref (clsAt mg "NoPast"))=some (b 7)
 k8:kitOne K (.ref C) (.ref (clsAt mg "NoText"))=some (b 8)
 k9:kitOne K (.ref C) (.ref (clsAt mg "NoLine"))=some (b 9)
 kd:kitOne K (.ref C) (.ref (clsAt mg "DipError"))=some true
 kv:kitOne K (.ref C) (.type "ValueError")=some true
noncomputable def Zgm (b:Nat->Bool):List Bool:=[b 0,b 1,b 2,b 3,b 4,b 5,b 6,b 7,b 8,b 9,true,true]
noncomputable def TupsAt (H:Hp) (l:Addr) (rs:List (List Int)):Prop:=∃as:List Addr,H l=some (.lst (as.map V.ref))/\as.length=rs.length/\∀i (h1:i<as.length) (h2:i<rs.length),H as[i]=some (.tup (rs[i].map V.int))
theorem TupsAt.same {H H':Hp}{l:Addr}{rs:List (List Int)} (R:TupsAt H l rs) (s:Same H H'):TupsAt H' l rs:=by
 obtain⟨as,h1,h2,h3⟩:=R
 exact⟨as,s _ _ h1,h2,λi i1 i2=>s _ _ (h3 i i1 i2)⟩
theorem TupsAt.push {H:Hp}{l t:Addr}{rs:List (List Int)}{r:List Int}{as:List Addr} (e:H l=some (.lst (as.map V.ref))) (hl:as.length=rs.length) (h:∀i (h1:i<as.length) (h2:i<rs.length),H as[i]=some (.tup (rs[i].map V.int))) (ht:H t=some (.tup (r.map V.int))) :
  TupsAt (upd H l (.lst (as.map V.ref++[V.ref t]))) l (rs++[r]):=by
 refine⟨as++[t],by rw[Zd];simp,by simp[hl],λi i1 i2=>?_⟩
 have ne:∀(a:Addr) (xs:List V),H a=some (.tup xs)->a≠l:=λa xs h1 z=>by rw[z,e]at h1;cases h1
 by_cases z:i<as.length
 ·have h3:=h i z (by omega)
  rw[YX z,YX (show i<rs.length by omega),Zj (ne _ _ h3)]
  exact h3
 ·have e1:i=as.length:=by simp at i1;omega
  subst e1
  rw[Zj (by simpa using ne _ _ ht)]
  simp[hl,ht]
noncomputable def Once (k:Nat) (ss ls:List Int):Prop:=ss=((List.range k).map λ(j:Nat)=>(j:Int)).filter (λj=>decide (j∉ls))/\ls=((List.range k).map λ(j:Nat)=>(j:Int)).filter (λj=>decide (j∈ls))
noncomputable instance (k:Nat) (ss ls:List Int):Decidable (Once k ss ls):=inferInstanceAs (Decidable (_/\_))
section
variable {N:Nat}{k:Nat->Int}{cmp:Nat->Nat->(Bool->Shared->Prop)->Shared->Prop}{s:Shared}{p:Array Nat}
noncomputable def kk (k:Nat->Int) (p:Array Nat) (i:Nat):Int:=k (p.getD i 0)
end
end L2
namespace L2
open PySem PySem.Spec PyProof.Rows PySem.W
section
variable {X:Cx}
noncomputable def rMulS:R2:=λx y H Q=>∃(i:Str) (n:Int),x=.str i/\y=.int n/\-1000<=n/\n<=1000/\i.length<=1000/\Q (.str (Txt.mul i n)) H
theorem Zk3:OpR X (binaryOp .Mult) rMulS:=by
 intro pins s σ H x y v u Q I rx ry h
 obtain⟨i,n,rfl,rfl,h1,h2,h3,q⟩:=h
 obtain⟨t,rfl⟩:=rx
 obtain⟨t',rfl⟩:=ry
 refine SB.mul ⟨?_,λ_ _=>?_,λ_ _=>?_⟩ λt' k=>⟨.str (Txt.mul i n),H,I.tok _,⟨_,rfl⟩,q⟩
 ·simp;omega
 ·intro z
  have hn:1<=n:=by omega
  have h4:(1000:Int)<=(2 ^ 63-1) / n:=Int.le_ediv_of_mul_le (by omega) (by omega)
  omega
 ·unfold Builtin.Str.tooLong
  have h4:i.length*n.toNat<=1000*1000:=Nat.mul_le_mul h3 (by omega)
  simp only[decide_eq_false_iff_not,Nat.not_lt]
  exact Yd h4 (by decide)
noncomputable def rJoin (K:Frag):V->List V->Hp->VK->Prop:=λx xs H Q=>∃(sep:Str) (a:Addr) (ss:List Str),x=.str sep/\xs=[.ref a]/\SqL K H a (ss.map V.str)/\JoinOk sep ss=true/\Q (.str (Txt.join sep ss)) H
theorem ZfJ:∀{ss:List Str}{us:List Value},Vals (ss.map V.str) us->∃l:List (Str×Tok),us=strValues l/\l.map (·.1)=ss
 |[],_,.nil=>⟨[],rfl,rfl⟩
 |x::ss,_,.cons ⟨t,e⟩ r=>by
  obtain⟨l,h1,h2⟩:=ZfJ r
  subst e
  exact⟨(x,t)::l,by rw[h1];rfl,by simp[h2]⟩
theorem Zh5 {K:Frag} (hK:X.K=K):MtR X "str.join" (rJoin K):=by
 subst hK
 intro pins s σ H x vs v us Q I rx rv h
 obtain⟨sep,a,ss,rfl,rfl,hH,hl,q⟩:=h
 obtain⟨t,rfl⟩:=rx
 obtain⟨u,rfl,ru⟩:=rv.one
 cases(show u=Value.ref a from ru)
 obtain⟨its,r,p,hz⟩:=I.list hH
 obtain⟨l,rfl,rfl⟩:=ZfJ r
 exact SC.join p.isList rfl hl λt' k=>⟨.str _,H,I.tok _,⟨_,rfl⟩,q⟩
end
theorem ZjJ:bootBuiltins "str"=some (.type "str"):=by decide +kernel
noncomputable def tokS (mg:Str->Option Value) (x:Str):Tok:=match mg x with
 |some (.str _ t)=>t
 |_=>0
section
variable {X:Cx}
noncomputable def rLenS:List V->Hp->VK->Prop:=λxs H Q=>∃a:Str,xs=[.str a]/\a.length<=sizeLine/\Q (.int (a.length:Nat)) H
theorem ZiF:Zay X (.builtin "len") rLenS:=by
 intro pins s σ H xs us Q I r h
 obtain⟨a,rfl,hz,q⟩:=h
 obtain⟨u,rfl,t,rfl⟩:=r.one
 have hn:=ZdP
 exact P.len_str (by omega) ⟨.int _,H,I.tok _,⟨_,rfl⟩,q⟩
end
end L2
namespace L2
noncomputable def Ok:Nat->List Nat->Prop
 |_,[]=>True
 |st,d::ds=>d<=st/\Ok (st-d+1) ds
end L2
namespace L2
open PySem PySem.Spec PyProof.Rows PySem.W
end L2
namespace L2
open PySem PySem.Spec PyProof.Rows PySem.W
section
variable {X:Cx}
noncomputable def rRemP:V->List V->Hp->VK->Prop:=λx xs H Q=>∃a b:Str,x=.str a/\xs=[.str b]/\a.length<=sizeLine/\Q (.str (Txt.removeprefix a b)) H
theorem Zk4:MtR X "str.removeprefix" rRemP:=by
 intro pins s σ H x vs v us Q I rx rv h
 obtain⟨a,b,rfl,rfl,hz,q⟩:=h
 obtain⟨t,rfl⟩:=rx
 obtain⟨u,rfl,t',rfl⟩:=rv.one
 exact SC.removeprefix (λt' k=>⟨.str _,H,I.tok _,⟨_,rfl⟩,q⟩) hz
noncomputable def rIsAsc:V->List V->Hp->VK->Prop:=λx xs H Q=>∃a:Str,x=.str a/\xs=[]/\Q (.bl (Txt.isascii a)) H
theorem ZjK:MtR X "str.isascii" rIsAsc:=by
 intro pins s σ H x vs v us Q I rx rv h
 obtain⟨a,rfl,rfl,q⟩:=h
 obtain⟨t,rfl⟩:=rx
 have hus:=rv.zero
 subst hus
 exact SC.isascii ⟨.bl _,H,I,rfl,q⟩
noncomputable def rIsDig:V->List V->Hp->VK->Prop:=λx xs H Q=>∃a:Str,x=.str a/\xs=[]/\Q (.bl (Txt.isdigit a)) H
theorem ZjL:MtR X "str.isdigit" rIsDig:=by
 intro pins s σ H x vs v us Q I rx rv h
 obtain⟨a,rfl,rfl,q⟩:=h
 obtain⟨t,rfl⟩:=rx
 have hus:=rv.zero
 subst hus
 exact SC.isdigit ⟨.bl _,H,I,rfl,q⟩
noncomputable def rStarts:V->List V->Hp->VK->Prop:=λx xs H Q=>∃a b:Str,x=.str a/\xs=[.str b]/\Q (.bl (Txt.startswith a b)) H
theorem ZiG:MtR X "str.startswith" rStarts:=by
 intro pins s σ H x vs v us Q I rx rv h
 obtain⟨a,b,rfl,rfl,q⟩:=h
 obtain⟨t,rfl⟩:=rx
 obtain⟨u,rfl,t',rfl⟩:=rv.one
 exact SC.startswith ⟨.bl _,H,I,rfl,q⟩
noncomputable def rStrI:List V->Hp->VK->Prop:=λxs H Q=>∃i:Int,xs=[.int i]/\i.natAbs.log2<1920/\Q (.str (Str.ofString (toString i))) H
theorem ZfK:Zay X (.type "str") rStrI:=Zf4
noncomputable def rIntS:List V->Hp->VK->Prop:=λxs H Q=>∃(a:Str) (n:Int),xs=[.str a]/\PySem.intText? a=some n/\a.length<=640/\Q (.int n) H
theorem ZiH:Zay X (.type "int") rIntS:=by
 intro pins s σ H xs us Q I r h
 obtain⟨a,n,rfl,h1,h2,q⟩:=h
 obtain⟨u,rfl,t,rfl⟩:=r.one
 exact KIN.call_text h1 h2 ⟨.int _,H,I.tok _,⟨_,rfl⟩,q⟩
noncomputable def rSplit:V->List V->Hp->VK->Prop:=λx xs H Q=>∃a b:Str,x=.str a/\xs=[.str b]/\(b.length==0)=false/\a.length<=100000/\∀p,H p=none->Q (.ref p) (upd H p (.lst ((Txt.split a b).map V.str)))
theorem Zdw:∀l:List (Str×Tok),Vals ((l.map (·.1)).map V.str) (strValues l)
 |[]=>.nil
 |(x,t)::l=>.cons ⟨t,rfl⟩ (Zdw l)
theorem Zhx {M:Program}{w:World}{A:Around}{E:Value->Shared->Prop}{s:Shared}{x y:Str}{t u:Tok}{Q:Value->Shared->Prop} (hy:(y.length==0)=false) (hz:x.length<=100000)
  (hq:∀(l:List (Str×Tok)) (k:Nat),l.map (·.1)=Txt.split x y->Q (.ref s.heap.objs.size) {s with heap:=s.heap.push {cls:=.type "list",data:=.seq (strValues l).toArray},toks:=k}) :
  wpAny (model M w) A (call (.builtin "str.split") [.str x t,.str y u]) Q E s:=by
 have hx:x.length<=sizeLine:=Yd hz (by decide)
 cases h1:(decide (x.length<y.length)||decide (Builtin.Str.strKind x<Builtin.Str.strKind y))
 ·cases hf:(Builtin.Str.occurrences x y 0 x.length (x.length+1)).isEmpty
  ·have es:Txt.split x y=Builtin.Str.partsBetween x (Builtin.Str.occurrences x y 0 x.length (x.length+1)) y.length:=by
    unfold Txt.split;rw[h1,hf];rfl
   have hn:=split_le x y
   rw[es]at hn
   refine call_meets F.slot_str_split (typeIs_str _ _ _) F.entry_str_split (F.args_str_split_2 _ _) (meets_str_split_sep x y t u h1 hy hf hx (Yd hn (Yd (show _<=100002 by omega) (by decide)))) ?_
   rw[strsFrom_eq]
   exact hq (numbered s.toks _) _ ((numbered_texts _ _).trans es.symm)
  ·have es:Txt.split x y=[x]:=by unfold Txt.split;rw[h1,hf];rfl
   exact call_meets F.slot_str_split (typeIs_str _ _ _) F.entry_str_split (F.args_str_split_2 _ _) (meets_str_split_not_found x y t u h1 hy hf) (hq [(x,t)] s.toks es.symm)
 ·have es:Txt.split x y=[x]:=by unfold Txt.split;rw[h1];rfl
  exact call_meets F.slot_str_split (typeIs_str _ _ _) F.entry_str_split (F.args_str_split_2 _ _) (meets_str_split_cannot_occur x y t u h1) (hq [(x,t)] s.toks es.symm)
theorem ZeT:MtR X "str.split" rSplit:=by
 intro pins s σ H x vs v us Q I rx rv h
 obtain⟨a,b,rfl,rfl,hb,hz,q⟩:=h
 obtain⟨t,rfl⟩:=rx
 obtain⟨u,rfl,t',rfl⟩:=rv.one
 refine Zhx hb hz λl k hl=>⟨.ref _,_,I.laid (t':=k) (o:=.lst ((Txt.split a b).map V.str)) (λb u e=>Yl _ e) (Yf _) ?_,rfl,q _ (I.hok.fresh (Yf _))⟩
 have hn:=split_le a b
 refine⟨by rw[Yp];exact Yd (show _<=100002 by omega) (by decide),strValues l,0,?_,?_⟩
 ·rw[<-hl];exact Zdw l
 ·exact Yu _ rfl
end
theorem in_non (xs:List Int):inV .non (xs.map V.int)=false:=by
 induction xs with
 |nil=>rfl
 |cons y r ih =>
  have:inV .non ((y::r).map V.int)=(false||inV .non (r.map V.int)):=rfl
  rw[this,ih];rfl
noncomputable abbrev cds (x:Str):List Nat:=x.cps.toList
theorem Zez {x y:Str} (h:cds x=cds y):x=y:=by
 cases x;cases y
 congr 1
 exact Array.toList_inj.mp h
theorem Zgn {c:Nat}:∀{a b r r':List Nat},c∉a->c∉b->a++c::r=b++c::r'->a=b/\r=r'
 |[],[],r,r',_,_,h=>⟨rfl,by simpa using h⟩
 |[],y::b,r,r',_,h2,h=>by
  simp only[List.nil_append,List.cons_append,List.cons.injEq]at h
  exact absurd (by rw[h.1];simp) h2
 |x::a,[],r,r',h1,_,h=>by
  simp only[List.nil_append,List.cons_append,List.cons.injEq]at h
  exact absurd (by rw[<-h.1];simp) h1
 |x::a,y::b,r,r',h1,h2,h=>by
  simp only[List.cons_append,List.cons.injEq]at h
  obtain⟨e,e2⟩:=Zgn (a:=a) (b:=b) (λz=>h1 (by simp[z])) (λz=>h2 (by simp[z])) h.2
  exact⟨by rw[h.1,e],e2⟩
noncomputable def jl (c:Nat):List (List Nat)->List Nat
 |[]=>[]
 |[x]=>x
 |x::y::r=>x++c::jl c (y::r)
theorem ZjM {c:Nat}:∀{A B:List (List Nat)},A≠[]->B≠[]->(∀a∈A,c∉a)->(∀a∈B,c∉a)->jl c A=jl c B->A=B
 |[],_,h,_,_,_,_=>absurd rfl h
 |_,[],_,h,_,_,_=>absurd rfl h
 |[x],[y],_,_,_,_,h=>by rw[show x=y from h]
 |[x],y::z::r,_,_,h1,_,h=>by
  have h:x=y++c::jl c (z::r):=h
  exact absurd (by rw[h];simp) (h1 x (by simp))
 |x::z::r,[y],_,_,_,h2,h=>by
  have h:x++c::jl c (z::r)=y:=h
  exact absurd (by rw[<-h];simp) (h2 y (by simp))
 |x::z::r,y::z'::r',_,_,h1,h2,h=>by
  have h:x++c::jl c (z::r)=y++c::jl c (z'::r'):=h
  obtain⟨e,e2⟩:=Zgn (h1 x (by simp)) (h2 y (by simp)) h
  rw[e,ZjM (by simp) (by simp) (λa ha=>h1 a (YE _ ha)) (λa ha=>h2 a (YE _ ha)) e2]
theorem Zch (c:Nat):∀ss:List Str,cds (Str.join ⟨#[c]⟩ ss)=jl c (ss.map cds)
 |[]=>rfl
 |[x]=>rfl
 |x::y::r=>by
  have:=Zch c (y::r)
  show cds (x++⟨#[c]⟩++Str.join ⟨#[c]⟩ (y::r))=cds x++c::jl c ((y::r).map cds)
  rw[<-this]
  unfold cds
  rw[Str.cps_append,Str.cps_append]
  simp
theorem Zc1 {c:Nat}{ss:List Str} (h0:ss≠[]) (h:∀x∈ss,c∉cds x):Txt.split (Str.join ⟨#[c]⟩ ss) ⟨#[c]⟩=ss:=by
 have e:=StrLaws.join_split (Str.join ⟨#[c]⟩ ss) ⟨#[c]⟩
 have f:=StrLaws.split_free (Str.join ⟨#[c]⟩ ss) c
 have p:=split_pos (Str.join ⟨#[c]⟩ ss) ⟨#[c]⟩
 generalize Txt.split (Str.join ⟨#[c]⟩ ss) ⟨#[c]⟩=L at e f p
 have e:=congrArg cds e
 rw[Zch,Zch]at e
 have:=ZjM (by cases L with|nil=>simp at p|cons a b=>simp) (by simp[h0]) (λa ha=>by obtain⟨x,hx,rfl⟩:=YD.mp ha;exact f x hx) (λa ha=>by obtain⟨x,hx,rfl⟩:=YD.mp ha;exact h x hx) e
 exact(List.map_inj_right (λa b q=>Zez q)).mp this
theorem joinOk_of {sep:Str}{ss:List Str} (hs:sep.length<=1) (h1:ss.length<=1000) (h2:∀y∈ss,y.length<=1000):JoinOk sep ss=true:=by
 unfold JoinOk Builtin.Str.tooLong
 rw[StrLaws.joinTotal]
 have:=StrLaws.sumLen_le ss h2
 have h3:ss.length*sep.length<=1000:=Yd (Nat.mul_le_mul h1 hs) (by decide)
 have h4:ss.length*1000<=1000*1000:=Nat.mul_le_mul_right _ h1
 have h5:(1001000:Nat)<=sizeLine:=by decide
 simp only[Bool.not_eq_true',decide_eq_false_iff_not]
 omega
noncomputable def dg (m:Nat):List Nat:=(Nat.toDigits 10 m).map Char.toNat
theorem Zdx {m:Nat} (h:m<10):dg m=[m+48]:=by
 unfold dg
 rw[Nat.toDigits_of_lt_base h]
 have:∀m<10,[m.digitChar].map Char.toNat=[m+48]:=by decide
 exact this m h
theorem Zgo {m:Nat} (h:10<=m):dg m=dg (m / 10)++[m % 10+48]:=by
 have hm:m % 10<10:=Nat.mod_lt m (by decide)
 have t:Nat.toDigits 10 (m / 10)++Nat.toDigits 10 (m % 10)=Nat.toDigits 10 (10*(m / 10)+m % 10):=Nat.toDigits_append_toDigits (by decide) (by omega) hm
 rw[Nat.div_add_mod]at t
 have:=Zdx hm
 unfold dg at this⊢
 rw[<-t,List.map_append,this]
theorem Zgp:∀(k m:Nat),m<10 ^ (k+1)->(dg m).length<=k+1
 |k,m,h=>by
  by_cases hm:m<10
  ·rw[Zdx hm];simp
  ·cases k with
   |zero=>exact absurd h (by omega)
   |succ k =>
    rw[Zgo (by omega),YB]
    have:m / 10<10 ^ (k+1):=by rw[Nat.pow_succ]at h;omega
    have:=Zgp k (m / 10) this
    simp only[Yr,List.length_nil]
    omega
theorem ZdX (m:Nat):∀c∈dg m,48<=c/\c<=57:=by
 induction m using Nat.strongRecOn with
 |_ m ih =>
  by_cases h:m<10
  ·rw[Zdx h];intro c hc;simp at hc;omega
  ·rw[Zgo (by omega)]
   intro c hc
   rcases Ys.mp hc with z|z
   ·exact ih (m / 10) (by omega) c z
   ·simp at z;omega
theorem Zh6 (m:Nat):m≠0->∃c r,dg m=c::r/\c≠48:=by
 induction m using Nat.strongRecOn with
 |_ m ih =>
  intro h0
  by_cases h:m<10
  ·exact⟨m+48,[],Zdx h,by omega⟩
  ·obtain⟨c,r,e,hc⟩:=ih (m / 10) (by omega) (by omega)
   exact⟨c,r++[m % 10+48],by rw[Zgo (by omega),e];rfl,hc⟩
theorem ZgT (m:Nat):dg m≠[]:=by
 by_cases h:m=0
 ·subst h;decide
 ·obtain⟨c,r,e,_⟩:=Zh6 m h
  rw[e];simp
theorem ZjN (m:Nat):NumText.digitsVal (dg m)=m:=KIN.val_back m
noncomputable def numS (i:Int):Str:=Str.ofString (toString i)
theorem ZeU (m:Nat):cds (numS (m:Nat))=dg m:=KIN.signs_num m
theorem ZeV (m:Nat):cds (numS (Int.negSucc m))=45::dg (m+1):=by
 unfold numS
 show(Str.ofString (toString (Int.negSucc m))).cps.toList=_
 rw[signs_ofString]
 show(("-"++Nat.repr (m+1)).toList).map Char.toNat=_
 rw[String.toList_append,List.map_append]
 show _=45::(Nat.toDigits 10 (m+1)).map Char.toNat
 rw[Nat.toList_repr]
 rfl
theorem ZeA (x:Str):x.length=(cds x).length:=YI.symm
theorem ZdY (i:Int):32∉cds (numS i):=int_text_free 32 (by omega) i
structure NumFacts (i:Int):Prop where
 len:(numS i).length<=61
 fig:∃m,cds (Txt.removeprefix (numS i) (Str.ofString "-"))=dg m/\(m=0->i=0)/\m<10 ^ 60
 val:PySem.intText? (numS i)=some i
theorem ZdZ:(Str.ofString "-")=(⟨#[45]⟩:Str):=by decide +kernel
theorem ZjO:(Str.ofString "0")=(⟨#[48]⟩:Str):=by decide +kernel
theorem Za4 {i:Int} (h:i.natAbs<10 ^ 60):NumFacts i:=by
 cases i with
 |ofNat m =>
  have hm:m<10 ^ 60:=h
  have e:cds (numS (Int.ofNat m))=dg m:=ZeU m
  have l:=Zgp 59 m hm
  have hl:(numS (Int.ofNat m)).length<=60:=by rw[ZeA,e];exact l
  refine⟨by omega,⟨m,?_,λz=>by rw[z];rfl,hm⟩,?_⟩
  ·have hs:(decide (0+(Str.ofString "-").length<=(numS (Int.ofNat m)).length)&&Builtin.Str.subAt (numS (Int.ofNat m)) (Str.ofString "-") 0)≠true:=by
    rw[ZdZ]
    intro z
    rw[Bool.and_eq_true,decide_eq_true_iff]at z
    have:=(StrLaws.subAt_one (numS (Int.ofNat m)) 45 0).mp z
    have:(cds (numS (Int.ofNat m)))[0]?=some 45:=this
    rw[e]at this
    have:=ZdX m 45 (List.mem_of_getElem? this)
    omega
   rw[StrLaws.removeprefix_eq,Yb hs,e]
  ·have:=intText_digits (x:=numS (Int.ofNat m)) (by rw[show(numS (Int.ofNat m)).cps.toList=dg m from e];exact ZdX m) (by rw[show(numS (Int.ofNat m)).cps.toList=dg m from e];exact ZgT m) (by omega)
   rw[this,show(numS (Int.ofNat m)).cps.toList=dg m from e,ZjN]
   rfl
 |negSucc m =>
  have hm:m+1<10 ^ 60:=h
  have e:cds (numS (Int.negSucc m))=45::dg (m+1):=ZeV m
  have l:=Zgp 59 (m+1) hm
  have hl:(numS (Int.negSucc m)).length=(dg (m+1)).length+1:=by rw[ZeA,e];rfl
  refine⟨by omega,⟨m+1,?_,λz=>absurd z (by omega),hm⟩,?_⟩
  ·have hs:(decide (0+(Str.ofString "-").length<=(numS (Int.negSucc m)).length)&&Builtin.Str.subAt (numS (Int.negSucc m)) (Str.ofString "-") 0)=true:=by
    rw[ZdZ,Bool.and_eq_true,decide_eq_true_iff]
    refine(StrLaws.subAt_one (numS (Int.negSucc m)) 45 0).mpr ?_
    show(cds (numS (Int.negSucc m)))[0]?=some 45
    rw[e];rfl
   rw[StrLaws.removeprefix_eq,Ye hs]
   have e1:(Str.ofString "-").length=1:=by decide +kernel
   rw[e1,show(numS (Int.negSucc m)).cps.toList=45::dg (m+1)from e,hl]
   show(((45::dg (m+1)).drop 1).take ((dg (m+1)).length+1-1)).toArray.toList=_
   rw[List.drop_succ_cons,List.drop_zero,Nat.add_sub_cancel,List.take_length]
  ·have:=intText_neg (x:=numS (Int.negSucc m)) e (ZdX (m+1)) (ZgT (m+1)) (by omega)
   rw[this,ZjN]
   rfl
theorem ZiI {x:Str}{m:Nat} (h:cds x=dg m):Txt.isascii x=true:=by
 unfold Txt.isascii
 rw[<-Array.all_toList,List.all_eq_true]
 intro c hc
 have:=ZdX m c (by rw[<-h];exact hc)
 simp;omega
theorem ZiJ {x:Str}{m:Nat} (h:cds x=dg m):Txt.isdigit x=true:=by
 unfold Txt.isdigit
 rw[Bool.and_eq_true]
 constructor
 ·have:0<(dg m).length:=List.length_pos_iff.mpr (ZgT m)
  rw[ZeA,h];simpa using this
 ·rw[<-Array.all_toList,List.all_eq_true]
  intro c hc
  have h1:=ZdX m c (by rw[<-h];exact hc)
  have:∀c,48<=c->c<58->Unicode.isDigit c=true:=by
   have:∀k<10,Unicode.isDigit (48+k)=true:=by decide +kernel
   intro c a b
   have:=this (c-48) (by omega)
   rwa [show 48+(c-48)=c by omega]at this
  exact this c h1.1 (by omega)
theorem Zhy {x:Str}{m:Nat} (h:cds x=dg m) (h0:m≠0):Txt.startswith x (Str.ofString "0")=false:=by
 rw[Bool.eq_false_iff]
 unfold Txt.startswith
 rw[ZjO]
 intro z
 rw[Bool.and_eq_true,decide_eq_true_iff]at z
 have:=(StrLaws.subAt_one x 48 0).mp z
 have:(cds x)[0]?=some 48:=this
 obtain⟨c,r,e,hc⟩:=Zh6 m h0
 rw[h,e]at this
 simp at this
 exact hc this
noncomputable def Zgq (P:Program) (w:World) (K:Frag) (mg:Str->Option Value) (base:Heap) (c:Str) (k:Nat) (ps:List Str) (sp:Sp):Prop :=
 ∃f fd,Mk K (clsAt mg c) f/\mg c=some (.ref (clsAt mg c))/\Binds K fd ps []/\FnOk P w K mg base (CXE P w) k f fd ps sp
noncomputable def Zba (P:Program) (w:World) (K:Frag) (mg:Str->Option Value) (base:Heap) (c m:Str) (k:Nat) (ps:List Str) (sp:Sp):Prop :=
 ∃f fd,Cls K (clsAt mg c)/\Meth K (clsAt mg c) m f/\Binds K fd ps []/\FnOk P w K mg base (CXE P w) k f fd ps sp
section
variable {X:Cx}{a:Expr}{ta:TE}{pos:Pos}
noncomputable def tFldC (C:Addr) (ta:TE) (f:Str):TE:=fun σ H Q=>ta σ H λx H1=>∃(o dx:Addr) (fs:List (Str×V)) (v:V),x=.ref o/\H1 o=some (.ins C dx fs)/\fs.lookup f=some v/\Q v H1
theorem ZeB {K:Frag}{C:Addr}{f:Str} (hK:X.K=K) (c:Cls K C) (n:NoAttr K C f) (he:PE X a ta) (hb:attributeBase a f X.env (eval a X.env)=eval a X.env:=by rfl):PE X (.Attribute a f pos) (tFldC C ta f):=by
 subst hK
 intro pins s σ H Q I h
 refine ZkS hb (thn (he pins s σ H _ I h) λu s1 ⟨x,H1,I1,rx,o,dx,fs,v,ex,ea,l,q⟩=>?_)
 subst ex
 obtain rfl:u=Value.ref o:=rx
 exact Zhk I1 ea c n l λu' s2 I2 ru=>⟨v,H1,I2,ru,q⟩
noncomputable def sFldC (C:Addr) (ta tv:TE) (f:Str):TS:=λD σ H=>tv σ H λy H1=>ta σ H1 λx H2=>∃(o dx:Addr) (fs:List (Str×V)),x=.ref o/\H2 o=some (.ins C dx fs)/\fs.length<1000/\D.nx σ (upd H2 o (.ins C dx (ZcN f y fs)))
theorem Zk5 {K:Frag}{C:Addr}{f:Str}{value:Expr}{tv:TE}{pos':Pos} (hK:X.K=K) (c:Cls K C) (n:NoAttr K C f) (ha:PE X a ta) (hv:PE X value tv) (hs:swapsWith value (some (.Attribute a f pos')) pos.line X.env=pure false:=by rfl):PS X (.Assign [.Attribute a f pos'] value pos) (sFldC C ta tv f):=by
 subst hK
 intro pins s σ H D I h
 refine plainObj_wpAny_Assign_Attribute (thn (hv pins s σ H _ I h) λu s1 ⟨y,H1,I1,ry,q⟩=>thn (ha pins s1 σ H1 _ I1 q) λov s2 ⟨x,H2,I2,rx,o,dx,fs,ex,ea,l,q2⟩=>?_) hs
 subst ex
 obtain rfl:ov=Value.ref o:=rx
 exact Zhl I2 ea c n l ry λs3 I3=>⟨σ,_,I3,q2⟩
theorem Za5 {c m:Str}{k:Nat}{ps:List Str}{sp:Sp}{E:XK}{e:Expr}{es:List Expr}{t:TA}{apos:Pos}{mg:Str->Option Value} (hmg:X.mg=mg) {pl:Sem Bool} (C:Zba X.prog X.w X.K mg X.base c m k ps sp) (hr:Room k X.A) (hx:Passes (CXE X.prog X.w) X E) (he:PE X a ta)
  (ha:PA X (e::es) t) (hst:starEach (e::es) X.env=(false,eval e X.env)::starEach es X.env:=by rfl) (hpl:(backTo pos (starEach es X.env)).any (·.1)=false:=by rfl)
  (ht:eval (.Call (.Attribute a m apos) (e::es) [] pos) X.env=(do
   let ov <-eval a X.env
   standAt apos.atName
   let (f,first) <-holding [ov] (getMethod ov m pl)
   callWith pos f first (backTo pos (starEach (e::es) X.env)) (backToKw pos (keywordEach [] X.env))):=by rfl) :
  PE X (.Call (.Attribute a m apos) (e::es) [] pos) (tMeth (clsAt mg c) m sp [] E ta t):=by
 subst hmg
 obtain⟨f,fd,hc,hm,hb,F⟩:=C
 exact ZkT he hc hm F hr hb .nil hx ha hst hpl ht
theorem ZiK {c m:Str}{k:Nat}{ps:List Str}{sp:Sp}{E:XK}{apos:Pos}{mg:Str->Option Value} (hmg:X.mg=mg) {pl:Sem Bool} (C:Zba X.prog X.w X.K mg X.base c m k ps sp) (hr:Room k X.A) (hx:Passes (CXE X.prog X.w) X E) (he:PE X a ta)
  (ht:eval (.Call (.Attribute a m apos) [] [] pos) X.env=(do
   let ov <-eval a X.env
   standAt apos.atName
   let (f,first) <-holding [ov] (getMethod ov m pl)
   callWith pos f first (backTo pos (starEach [] X.env)) (backToKw pos (keywordEach [] X.env))):=by rfl) :
  PE X (.Call (.Attribute a m apos) [] [] pos) (tMeth (clsAt mg c) m sp [] E ta tNil):=by
 subst hmg
 obtain⟨f,fd,hc,hm,hb,F⟩:=C
 exact Zjm he hc hm F hr hb .nil hx ht
end
end L2
namespace L2
open PySem PySem.Spec PyProof.Rows
end L2
namespace L2
open PySem PySem.Spec PyProof.Rows PySem.W PySem.Calls
end L2
namespace L2
open PySem PySem.Spec PyProof.Rows PySem.W
theorem Zk6 {M:Program}{w:World}{A:Around}{E:Value->Shared->Prop}{s:Shared}{t b:Addr}{vs ws:List Value}{Q:Value->Shared->Prop} (ht:IsTup s.heap t vs.toArray) (hb:IsTup s.heap b ws.toArray) (hv:vs=[]) (h:Q (.ref b) s):wpAny (model M w) A (binaryOp .Add (.ref t) (.ref b)) Q E s:=by
 obtain⟨⟨k1,d1,x1,l1⟩,e1,c1,n1,y1⟩:=id ht
 obtain⟨⟨k2,d2,x2,l2⟩,e2,c2,n2,y2⟩:=id hb
 simp only at c1 y1 c2 y2
 subst c1 y1 c2 y2
 exact concat_meets ⟨_,e1,rfl⟩ ⟨_,e2,rfl⟩ noFill_tuple_add seq_tuple_add PySem.F.slot_tuple_add PySem.F.entry_tuple_add (PySem.F.args_tuple_add_2 _ _) (tuple_addW0 t b vs.toArray ws.toArray n1 n2 d1 d2 l1 l2 (by simp[hv])) ⟨e1,e2,h⟩
section
variable {X:Cx}
noncomputable def rCatU:R2:=λx y H Q=>∃(a b:Addr) (xs ys:List V),x=.ref a/\y=.ref b/\H a=some (.tup xs)/\H b=some (.tup ys)/\xs.length+ys.length<=sizeLine/\∀(p:Addr) H',Same H H'->H' p=some (.tup (xs++ys))->Q (.ref p) H'
theorem Zh7:OpR X (binaryOp .Add) rCatU:=by
 intro pins s σ H x y v u Q I rx ry h
 obtain⟨a,b,xs,ys,rfl,rfl,ha,hb,hz,q⟩:=h
 cases rx
 cases ry
 obtain⟨its,r1,p1,_⟩:=I.tuple (SqT.of ha)
 obtain⟨its2,r2,p2,_⟩:=I.tuple (SqT.of hb)
 by_cases hx:xs=[]
 ·exact Zk6 p1 p2 (r1.Zf6.mpr hx) ⟨.ref b,H,I,rfl,q b H (Same.refl H) (by rw[hx];exact hb)⟩
 refine HT.ZkU p1 p2 (λz=>hx (r1.Zf6.mp z)) (λz=>⟨.ref a,H,I,rfl,q a H (Same.refl H) (by rw[r2.Zf6.mp z,List.append_nil];exact ha)⟩) (λz=>?_) (by rw[<-r1.length,<-r2.length];exact hz)
 refine⟨.ref s.heap.objs.size,_,I.laid (t':=s.toks) (o:=.tup (xs++ys)) (λb ob q=>Yl _ q) (Yf _) ?_,rfl,q _ _ ((Same.refl H).upd (I.hok.fresh (Yf _))) Zd⟩
 exact⟨by rw[YB];exact hz,_,r1.append r2,IsTup.new _ _⟩
noncomputable def rSlV:V->Option Int->Option Int->Hp->VK->Prop:=λx lo hi H Q=>∃a xs,x=.ref a/\H a=some (.tup xs)/\∀p H',Same H H'->H' p=some (.tup (Zcb xs lo hi))->Q (.ref p) H'
theorem sl_v {K:Frag} (hK:X.K=K):SlR X rSlV:=by
 intro pins s σ H x v vl vu lo hi sl Q I rx hs pl pu h
 obtain⟨a,xs,rfl,hx,q⟩:=h
 refine sl_q hK pins s σ H _ v vl vu lo hi sl Q I rx hs pl pu ⟨a,xs,rfl,.inr ⟨SqT.of hx,λhw=>?_,λ_ p hp=>?_⟩⟩
 ·exact q a H (Same.refl H) (by rw[ZiD hw];exact hx)
 ·exact q p _ ((Same.refl H).upd hp) Zd
end
theorem ZgU (ns:List Int) (h:1<=ns.length):Zcb (ns.map V.int) none (some (-1))=ns.dropLast.map V.int:=by
 show((ns.map V.int).drop 0).take ((if (-1:Int)<0 then ((-1:Int)+((ns.map V.int).length:Nat)).toNat else min (-1:Int).toNat (ns.map V.int).length)-0)=_
 rw[Ye (by decide),List.dropLast_eq_take,List.map_take,List.drop_zero,Yp]
 congr 1
 omega
section
variable {X:Cx}{a:Expr}{ta:TE}{pos:Pos}
theorem Zk7 {pins:List (Addr×Obj)}{σ:St}{H:Hp}{s:Shared}{Q:VK}{us:List Value}{vs:List V}{k:Nat}{f:Addr}{fd:FuncData}{ps:List Str}{sp:Sp}{E:XK} (F:FnOk X.prog X.w X.K X.mg X.base (CXE X.prog X.w) k f fd ps sp) (hr:Room k X.A) (hb:Binds X.K fd ps []) (hx:∀ev s',CXE X.prog X.w X.stack H s E ev s'->X.xe ev s')
  (I:Inv X pins σ H s) (r:Vals vs us) (h:sp vs H Q E):wpAny (model X.prog X.w) X.A (call (.ref f) us) (EP X pins σ Q) X.xe s:=by
 have hl:us.length=ps.length:=by rw[<-r.length];exact F.len _ _ _ _ h
 have hbb:=hb s us I.kIn (by simpa using hl)
 rw[List.append_nil]at hbb
 refine wpAny_call (codeAny_mono (F.run X.A X.stack s H ⟨us,[]⟩ us vs Q E hr I.env0 hbb r h) λr s' hq=>?_)
 cases r with
 |error ev=>exact hx ev s' hq
 |ok fl =>
  cases fl with
  |ret u=>exact I.after hq
  |next=>exact False.elim hq
  |brk=>exact False.elim hq
  |cont=>exact False.elim hq
noncomputable def tMethX (C:Addr) (m:Str) (sp:Sp) (E:St->XK) (ta:TE) (t:TA):TE:=fun σ H Q=>ta σ H λx H1=>∃a dx fs,x=.ref a/\H1 a=some (.ins C dx fs)/\fs.lookup m=none/\t σ H1 λvs H2=>sp (x::vs) H2 Q (E σ)
theorem ZiL {c m:Str}{k:Nat}{ps:List Str}{sp:Sp}{E:St->XK}{e:Expr}{es:List Expr}{t:TA}{apos:Pos}{mg:Str->Option Value} (hmg:X.mg=mg) {pl:Sem Bool} (C:Zba X.prog X.w X.K mg X.base c m k ps sp) (hr:Room k X.A) (hx:∀pins σ H s ev s',Inv X pins σ H s->CXE X.prog X.w X.stack H s (E σ) ev s'->X.xe ev s') (he:PE X a ta)
  (ha:PA X (e::es) t) (hst:starEach (e::es) X.env=(false,eval e X.env)::starEach es X.env:=by rfl) (hpl:(backTo pos (starEach es X.env)).any (·.1)=false:=by rfl)
  (ht:eval (.Call (.Attribute a m apos) (e::es) [] pos) X.env=(do
   let ov <-eval a X.env
   standAt apos.atName
   let (f,first) <-holding [ov] (getMethod ov m pl)
   callWith pos f first (backTo pos (starEach (e::es) X.env)) (backToKw pos (keywordEach [] X.env))):=by rfl) :
  PE X (.Call (.Attribute a m apos) (e::es) [] pos) (tMethX (clsAt mg c) m sp E ta t):=by
 subst hmg
 obtain⟨f,fd,hc,hm,hb,F⟩:=C
 intro pins s σ H Q I h
 refine PySem.W.methodCall_KW (pl:=pl) (thn (he pins s σ H _ I h) λu s1 ⟨x,H1,I1,rx,o,dx,fs,ex,ea,l,q⟩=>?_) ht
 subst ex
 obtain rfl:u=Value.ref o:=rx
 refine ZcX I1 ea hc hm l ?_
 refine PySem.W.callWith_K (first:=[.ref o]) (h₀:=X.base) I.ok.mod.kin hm.kp (thn (ha pos pins s1 σ H1 _ I1 q) λus s2 ⟨vs,H2,I2,r,q2⟩=>⟨I2.kIn,?_⟩) hst hpl
 exact Zk7 (us:=.ref o::us) (vs:=.ref o::vs) F hr hb (λev s' z=>hx pins σ H2 s2 ev s' I2 z) I2 (.cons rfl r) q2
end
end L2
namespace L2
open PySem PySem.Spec PyProof.Rows PySem.W PySem.Calls
end L2
namespace L2
open PySem PySem.Spec PyProof.Rows PySem.W
section
variable {ky:Keyed->Int}
noncomputable def Srt (ky:Keyed->Int) (l:List Keyed):Prop:=l.Pairwise (λx y=>ky x<=ky y)
variable {a b out:List Keyed}{ia ib:Nat}
noncomputable def Gd (ky:Keyed->Int) (a b res:List Keyed):Prop:=res.Perm (a++b)/\Srt ky res
variable {prog:Program}{w:World}{A:Around}{E:Value->Shared->Prop}{s:Shared}{κ:SortKind}{P:Keyed->Prop}
end
section
variable {ky:Keyed->Int}
noncomputable def kp (ky:Keyed->Int) (a:Array Keyed) (i:Nat):Int:=ky (a.getD i (Value.none,Value.none))
theorem kp_at {a:Array Keyed}{i:Nat} (h:i<a.size):kp ky a i=ky a[i]:=by unfold kp;simp[Array.getD,h]
noncomputable def SoR (ky:Keyed->Int) (a:Array Keyed) (l r:Nat):Prop:=∀i j,l<=i->i<=j->j<r->kp ky a i<=kp ky a j
structure Chg (a a':Array Keyed) (l r:Nat):Prop where
 perm:a'.Perm a
 same:∀i,i<l\/r<=i->a'[i]?=a[i]?
variable {prog:Program}{w:World}{A:Around}{E:Value->Shared->Prop}{s:Shared}{κ:SortKind}{P:Keyed->Prop}
end
section
variable {ky:Keyed->Int}
variable {a a':Array Keyed}
theorem Zh8 (base:Nat):∀(m:List Keyed) (n:Nat) (a:Array Keyed),base+n+m.length<=a.size ->
  (List.foldl (λ(a:Array Keyed) (x:Keyed×Nat)=>a.setIfInBounds (base+x.2) x.1) a (m.zipIdx n)).toList=a.toList.take (base+n)++m++a.toList.drop (base+n+m.length)
 |[],n,a,h=>by simp
 |x::m,n,a,h=>by
  simp only[Yr]at h
  rw[List.zipIdx_cons,List.foldl_cons,Zh8 base m (n+1) _ (by simp;omega)]
  simp only[Array.toList_setIfInBounds,Yr]
  have e1:(a.toList.set (base+n) x).take (base+(n+1))=a.toList.take (base+n)++[x]:=by
   rw[<-Nat.add_assoc,List.take_add_one,List.take_set,List.getElem?_set]
   rw[List.set_eq_of_length_le (by simp;omega)]
   simp[show base+n<a.size by omega]
  have e2:(a.toList.set (base+n) x).drop (base+(n+1)+m.length)=a.toList.drop (base+n+(m.length+1)):=by
   rw[List.drop_set_of_lt (by omega)]
   congr 1;omega
  rw[e1,e2]
  simp
variable {prog:Program}{w:World}{A:Around}{E:Value->Shared->Prop}{s:Shared}{κ:SortKind}{P:Keyed->Prop}
theorem laid {base mid r:Nat}{res:Array Keyed} (h1:base<=mid) (h2:mid<=r) (h3:r<=a.size) (hg:Gd ky (a.extract base mid).toList (a.extract mid r).toList res.toList) :
  ∃a':Array Keyed,List.foldl (λ(a:Array Keyed) (x:Keyed×Nat)=>a.setIfInBounds (base+x.2) x.1) a res.toList.zipIdx=a'/\Chg a a' base r/\SoR ky a' base r/\∀j,base<=j->j<r->∃t,base<=t/\t<r/\kp ky a' j=kp ky a t:=by
 have hlen:res.toList.length=r-base:=by
  have:=hg.1.length_eq
  simp only[YB,YI,Array.size_extract]at this⊢;omega
 have key:=Zh8 base res.toList 0 a (by omega)
 have hb:base+0+res.toList.length=r:=by omega
 rw[hb,Nat.add_zero]at key
 refine⟨_,rfl,⟨?_,?_⟩,?_,?_⟩
 ·rw[Array.perm_iff_toList_perm,key]
  have e:a.toList=a.toList.take base++((a.extract base mid).toList++(a.extract mid r).toList)++a.toList.drop r:=by
   simp only[Array.toList_extract,List.extract_eq_drop_take]
   have:(a.toList.drop base).take (mid-base)++(a.toList.drop mid).take (r-mid)=(a.toList.drop base).take (r-base):=by
    have e2:r-base=(mid-base)+(r-mid):=by omega
    rw[e2,List.take_add,List.drop_drop]
    congr 3;omega
   rw[this]
   have e3:a.toList.drop r=(a.toList.drop base).drop (r-base):=by rw[List.drop_drop];congr 1;omega
   rw[e3,YO,List.take_append_drop,List.take_append_drop]
  conv=>rhs;rw[e]
  exact List.Perm.append_right _ (List.Perm.append_left _ hg.1)
 ·intro i hi
  rw[<-YW,<-YW,key]
  have hl0:(a.toList.take base).length=base:=by simp;omega
  rcases hi with hi|hi
  ·rw[YO,YU (by omega),List.getElem?_take_of_lt hi]
  ·rw[YT (by simp;simp at hlen;omega),List.getElem?_drop]
   congr 1
   simp only[YB,hl0,hlen];omega
 all_goals
  have atm:∀j,(hj0:base<=j)->(hj:j<r)->kp ky (List.foldl (λ(a:Array Keyed) (x:Keyed×Nat)=>a.setIfInBounds (base+x.2) x.1) a res.toList.zipIdx) j=ky (res.toList[j-base]'(by omega)):=by
   intro j j1 j2
   have hl0:(a.toList.take base).length=base:=by simp;omega
   have:(List.foldl (λ(a:Array Keyed) (x:Keyed×Nat)=>a.setIfInBounds (base+x.2) x.1) a res.toList.zipIdx)[j]?=some (res.toList[j-base]'(by omega)):=by
    rw[<-YW,key,YO,YT (by omega),YU (by omega),hl0,Yg (by omega)]
   unfold kp
   rw[Array.getD_eq_getD_getElem?,this];rfl
 ·intro i j hi hij hj
  rw[atm i hi (by omega),atm j (by omega) hj]
  by_cases e:i=j
  ·subst e;exact Int.le_refl _
  ·exact List.pairwise_iff_getElem.mp hg.2 _ _ _ _ (by omega)
 ·intro j j1 j2
  rw[atm j j1 j2]
  have hm:(res.toList[j-base]'(by omega))∈(a.extract base mid).toList++(a.extract mid r).toList:=(List.Perm.mem_iff hg.1).mp (YK _)
  rcases Ys.mp hm with hm|hm
  ·obtain⟨t,ht,e⟩:=List.mem_iff_getElem.mp hm
   simp only[YI,Array.size_extract]at ht
   simp only[Array.getElem_toList,Array.getElem_extract]at e
   exact⟨base+t,by omega,by omega,by rw[kp_at (by omega),e,Array.getElem_toList]⟩
  ·obtain⟨t,ht,e⟩:=List.mem_iff_getElem.mp hm
   simp only[YI,Array.size_extract]at ht
   simp only[Array.getElem_toList,Array.getElem_extract]at e
   exact⟨mid+t,by omega,by omega,by rw[kp_at (by omega),e,Array.getElem_toList]⟩
end
end L2
namespace L2
open PySem PySem.Spec PyProof.Rows
end L2
namespace L2
open PySem PySem.Spec PyProof.Rows PySem.W
end L2
namespace L2
open PySem PySem.Spec PyProof.Rows PySem.W PySem.Calls
end L2
namespace L2
open PySem PySem.Spec PyProof.Rows PySem.W
theorem le1 {n:Nat}{us:List Value} (e:us.length=n+1):∃a t,us=a::t/\t.length=n:=by
 cases us with
 |nil=>cases e
 |cons a t=>exact⟨a,t,rfl,Nat.succ.inj e⟩
theorem le0 {us:List Value} (e:us.length=0):us=[]:=List.length_eq_zero_iff.mp e
end L2
namespace L2
open PySem PySem.Spec PyProof.Rows PySem.W PyProof
section
variable {X:Cx}
theorem Callee.at {P:Program}{w:World}{K:Frag}{mg:Str->Option Value}{base:Heap}{x:Str}{k:Nat}{ps:List Str}{sp:Sp} (C:Callee P w K mg base x k ps sp):mg x=some (.ref (clsAt mg x)):=by
 obtain⟨f,fd,hm,_⟩:=C
 unfold clsAt
 rw[hm]
noncomputable def Zh9 (X:Cx) (cs:List (V×Sp)):Prop:=∀c∈cs,∃f fd ps k,c.1=.ref f/\FnOk X.prog X.w X.K X.mg X.base (CXE X.prog X.w) k f fd ps c.2/\Room k X.A/\keepIn X.K (.ref f)=true/\Binds X.K fd ps []
theorem Zk8:Zh9 X []:=λc h=>nomatch h
theorem ZjP {x:Str}{k:Nat}{ps:List Str}{sp:Sp}{cs:List (V×Sp)} (C:Callee X.prog X.w X.K X.mg X.base x k ps sp) (hr:Room k X.A) (h:Zh9 X cs):Zh9 X ((.ref (clsAt X.mg x),sp)::cs):=λc hc=>by
 rcases Yj.mp hc with rfl|hc
 ·have e:=C.at
  obtain⟨f,fd,hm,hk,hb,F⟩:=C
  rw[hm]at e
  injection e with e
  injection e with e
  exact⟨f,fd,ps,k,by rw[e],F,hr,hk,hb⟩
 ·exact h c hc
noncomputable def tCallV (cs:List (V×Sp)) (E:XK) (tf:TE) (t:TA):TE:=fun σ H Q=>tf σ H λx H1=>∃sp,(x,sp)∈cs/\t σ H1 λvs H2=>sp vs H2 Q E
theorem ZjQ {cs:List (V×Sp)}{E:XK}{fx e:Expr}{es:List Expr}{tf:TE}{t:TA}{pos:Pos} (hc:Zh9 X cs) (hx:Passes (CXE X.prog X.w) X E) (hf:PE X fx tf) (ha:PA X (e::es) t)
  (hev:eval (.Call fx (e::es) [] pos) X.env=(do callWith pos (<-eval fx X.env) [] (backTo pos (starEach (e::es) X.env)) (backToKw pos (keywordEach [] X.env))):=by rfl)
  (he:starEach (e::es) X.env=(false,eval e X.env)::starEach es X.env:=by rfl) (hpl:(backTo pos (starEach es X.env)).any (·.1)=false:=by rfl):PE X (.Call fx (e::es) [] pos) (tCallV cs E tf t):=by
 intro pins s σ H Q I h
 refine Call_ (thn (hf pins s σ H _ I h) λv s1 ⟨x,H1,I1,r1,sp,hm,q1⟩=>?_) hev
 obtain⟨f,fd,ps,k,ex,F,hr,hk,hb⟩:=hc _ hm
 cases(show x=.ref f from ex)
 cases r1
 refine PySem.W.callWith_K (h₀:=X.base) I1.ok.mod.kin hk (thn (ha pos pins s1 σ H1 _ I1 q1) λus s2 ⟨vs,H2,I2,r,q⟩=>⟨I2.kIn,?_⟩) he hpl
 exact Zf5 F hr hb .nil hx I2 r (by simpa using q)
end
end L2
namespace L2
open PySem PySem.Spec PyProof.Rows PySem.W
end L2
namespace HT
open PySem PyProof.Rows
section
open PySem.SeqAt
open PySem.AutoSeq1 (wpAny_loadPart')
open PySem.MeetsSeq PySem.MeetsSeq2 PySem.MeetsSeq3
end
end HT
namespace L2
open PySem PySem.Spec PyProof.Rows PySem.W
end L2
namespace L2
open PySem PySem.Spec PyProof.Rows PySem.W PyProof
end L2
namespace PySem.SeqAt
open PySem Sem
open MeetsSeq PyProof.Rows
end PySem.SeqAt
namespace L2
open PySem PySem.Spec PyProof.Rows PySem.W
end L2
namespace ST
open PySem PySem.SetTable
noncomputable def Rise (xs:Array Nat):Prop:=xs.toList.Pairwise (· < ·)
theorem gq {xs:Array Nat}{i:Nat} (h:i<xs.size):xs[i]?=some (xs.getD i 0):=by
 rw[Array.getD_eq_getD_getElem?,Array.getElem?_eq_getElem h];rfl
noncomputable def step (N i:Nat):Nat:=(i*5+1) % N
noncomputable def mk (N:Nat):Nat->Nat->Nat->Nat×Nat
 |0,m,i=>(m,i)
 |k+1,m,i=>mk N k (m ||| 1 <<< i) (step N i)
noncomputable def whole (N:Nat):Prop:=mk N N 0 0=(2 ^ N-1,0)
noncomputable def Mask (m:Nat):Prop:=m=7\/m=31\/m=127\/m=511\/m=2047
structure Ok (t:SetTable) (n:Nat):Prop where
 mask:Mask t.mask
 size:t.place.size=n
 no:t.dummies=#[]
 rise:Rise t.place
 within:∀x∈t.place.toList,x<=t.mask
 room:n*5<t.mask*3
end ST
namespace ST
open PySem PySem.SetTable
noncomputable def vals (o:Array (Option Nat)):List Nat:=o.toList.filterMap id
end ST
namespace ST
open PySem PySem.Spec PySem.SetTable PyProof.Rows
open PySem.W
end ST
namespace ST
open PySem PySem.Spec PySem.SetTable PyProof.Rows
open PySem.W
section
variable {prog:Program}{w:World}{A:Around}{E:Value->Shared->Prop}{s:Shared}{a:Addr}{es:Array (Int×Value)}{ep n:Nat}{t:SetTable}
theorem Zdo {α:Type} (xs:List α) (p:Nat) (x:α) (hp:p<=xs.length) (i:Nat):(xs.take p++x::xs.drop p)[i]?=if i<p then xs[i]? else if i=p then some x else xs[i-1]?:=by
 by_cases h1:i<p
 ·rw[Ye h1,YU (by rw[YJ];omega),List.getElem?_take_of_lt h1]
 ·rw[Yb h1,YT (by rw[YJ];omega),YJ,Nat.min_eq_left hp]
  by_cases h2:i=p
  ·rw[Ye h2,h2,Nat.sub_self];rfl
  ·rw[Yb h2]
   obtain⟨d,hd⟩:∃d,i-p=d+1:=⟨i-p-1,by omega⟩
   rw[hd,List.getElem?_cons_succ,List.getElem?_drop]
   congr 1;omega
end
end ST
namespace L2
open PySem PySem.Spec PyProof.Rows PySem.W
end L2
namespace ST
open PySem PySem.Spec PySem.SetTable PyProof.Rows
open PySem.W
section
variable {prog:Program}{w:World}{A:Around}{E:Value->Shared->Prop}{s:Shared}{a:Addr}{es:Array (Int×Value)}{ep n:Nat}{t:SetTable}
theorem items_int {ks:List Int}{vs:List Value} (h:ItemsAre (intKind prog w) ks vs):∀v∈vs,∃(i:Int) (t:Tok),v=.int i t:=by
 induction h with
 |nil=>intro v hv;cases hv
 |cons h1 h2 ih =>
  intro v hv
  rcases Yj.mp hv with rfl|hv
  ·obtain⟨t,e⟩:=Value.isInt_shape h1
   exact⟨_,t,e⟩
  ·exact ih v hv
end
end ST
namespace L2
open PySem PySem.Spec PyProof.Rows PySem.W
end L2
namespace L2
open PySem PySem.Spec PyProof.Rows PySem.W
noncomputable def keyS:Value->Option Str
 |.str x _=>some x
 |_=>none
structure TopD (w:World) (K:Frag) (mg:Str->Option Value) (n:Str) (ks:List Str) (ps:List (Str×Str)):Prop where
 ex:∃a es k,mg n=some (.ref a)/\K.lookup a=some ⟨.type "dict",none,.dict es k,#[]⟩/\KeysLit w.params es.toList/\(a==sysModules)=false/\(∀x,(findBy Value.isStrOf es x).isSome=decide (x∈ks))/\∀p∈ps,findBy Value.isStrOf es p.1=some (.ref (clsAt mg p.2))
theorem TopD.at {w:World}{K:Frag}{mg:Str->Option Value}{n:Str}{ks:List Str}{ps:List (Str×Str)} (h:TopD w K mg n ks ps):mg n=some (.ref (clsAt mg n)):=by
 obtain⟨a,_,_,hm,_⟩:=h.ex
 unfold clsAt
 rw[hm]
theorem Zd0 {es:Array DictEntry}{ks:List Str} (h:es.toList.map (λd=>keyS d.key)=ks.map some) (x:Str):(findBy Value.isStrOf es x).isSome=decide (x∈ks):=by
 obtain⟨l⟩:=es
 unfold findBy
 rw[List.find?_toArray,Option.isSome_map]
 simp only at h
 induction l generalizing ks with
 |nil=>cases ks with
  |nil=>rfl
  |cons k r=>cases h
 |cons d l ih =>
  cases ks with
  |nil=>cases h
  |cons k r =>
   simp only[YA,List.cons.injEq]at h
   have ih:=ih h.2
   cases hk:d.key with
   |str y t =>
    rw[hk]at h
    have e:y=k:=Yq h.1
    subst e
    by_cases z:x=y
    ·subst z
     have:Value.isStrOf x d.key=true:=by rw[hk];simp[Value.isStrOf]
     rw[List.find?_cons,this];simp
    ·have:¬ Value.isStrOf x d.key=true:=by rw[hk];simp[Value.isStrOf];exact λe=>z e.symm
     rw[List.find?_cons,Bool.eq_false_iff.mpr this]
     show(List.find? _ l).isSome=_
     rw[ih]
     simp[z]
   |_=>rw[hk]at h;cases h.1
section
variable {X:Cx}
noncomputable def Zhz (a:Addr) (ks:List Str):R2:=λx y H Q=>∃s,x=.str s/\y=.ref a/\Q (.bl (decide (s∈ks))) H
theorem ZeW {n:Str}{mg:Str->Option Value}{w:World}{K:Frag}{ks:List Str}{ps:List (Str×Str)} (hK:X.K=K) (hw:X.w=w) (h:TopD w K mg n ks ps):OpR X (compareOp .In) (Zhz (clsAt mg n) ks):=by
 subst hK hw
 have ha:=h.at
 obtain⟨a,es,k,hm,hl,hk,lo,hs,_⟩:=h.ex
 rw[hm]at ha
 injection ha with ha
 injection ha with ha
 intro pins s σ H x y v u Q I rx ry h
 obtain⟨z,rfl,rfl,q⟩:=h
 obtain⟨t,rfl⟩:=rx
 cases ry
 rw[<-ha]
 refine wpAny_in_of (strKind_is X.prog X.w z t) lo (mapOf_K (prog:=X.prog) I.kIn hl hk) ?_
 rw[hs]
 exact⟨.bl _,H,I.tok _,rfl,q⟩
noncomputable def ZhA (mg:Str->Option Value) (a:Addr) (ps:List (Str×Str)):R2:=λx y H Q=>∃s f,x=.ref a/\y=.str s/\(s,f)∈ps/\Q (.ref (clsAt mg f)) H
theorem ix_top {n:Str}{mg:Str->Option Value}{w:World}{K:Frag}{ks:List Str}{ps:List (Str×Str)} (hK:X.K=K) (hw:X.w=w) (h:TopD w K mg n ks ps):IxR X (ZhA mg (clsAt mg n) ps):=by
 subst hK hw
 have ha:=h.at
 obtain⟨a,es,k,hm,hl,hk,lo,_,hs⟩:=h.ex
 rw[hm]at ha
 injection ha with ha
 injection ha with ha
 intro value slice pins s σ H x y v u Q I rx ry h hs'
 obtain⟨z,f,rfl,rfl,hp,q⟩:=h
 obtain⟨t,rfl⟩:=ry
 cases rx
 rw[<-ha]at hs'⊢
 have hmm:=mapOf_K (prog:=X.prog) I.kIn hl hk
 exact tail_any hmm.typeIs slot_dict_getitem.lookup (wpAny_getItem_of (strKind_is X.prog X.w z t) hmm (hs _ hp) ⟨.ref _,H,I.tok _,rfl,q⟩) hs'
theorem ZeC {n:Str}{mg:Str->Option Value}{w:World}{K:Frag}{ks:List Str}{ps:List (Str×Str)}{pos:Pos} (hmg:X.mg=mg) (h:TopD w K mg n ks ps) (hg:Gl X n) (hd:(n==("__debug__":Str))=false:=by decide):PE X (.Name n pos) (tC (.ref (clsAt mg n))):=by
 subst hmg
 exact ZM hg h.at rfl hd
noncomputable def ZjR:V->List V->Hp->VK->Prop:=λx xs H Q=>∃a b:Str,x=.str a/\xs=[.str b]/\(b.length==0)=false/\a.length<=100000/\∀p,H p=none->Q (.ref p) (upd H p (.tup [.str (Txt.partition a b).1,.str (Txt.partition a b).2.1,.str (Txt.partition a b).2.2]))
theorem Zk9:MtR X "str.partition" ZjR:=by
 intro pins s σ H x vs v us Q I rx rv h
 obtain⟨a,b,rfl,rfl,hb,hz,q⟩:=h
 obtain⟨t,rfl⟩:=rx
 obtain⟨u,rfl,t',rfl⟩:=rv.one
 have hx:a.length<=sizeLine:=Yd hz (by decide)
 have hf:H s.heap.objs.size=none:=I.hok.fresh (Yf _)
 have key:∀(t1 t2 t3:Tok) (k:Nat),EP X pins σ Q (.ref s.heap.objs.size) {s with toks:=k,heap:=s.heap.push {cls:=.type "tuple",data:=.seq [Value.str (Txt.partition a b).1 t1,.str (Txt.partition a b).2.1 t2,.str (Txt.partition a b).2.2 t3].toArray}}:=λt1 t2 t3 k =>
  ⟨.ref _,_,I.laid (t':=k) (o:=.tup [.str (Txt.partition a b).1,.str (Txt.partition a b).2.1,.str (Txt.partition a b).2.2]) (λb u e=>Yl _ e) (Yf _) ⟨show 3<=sizeLine by decide,_,.cons ⟨t1,rfl⟩ (.cons ⟨t2,rfl⟩ (.cons ⟨t3,rfl⟩ .nil)),⟨_,Yu _ rfl,rfl,_,rfl⟩⟩,rfl,q _ hf⟩
 refine call_meets F.slot_str_partition (typeIs_str _ _ _) F.entry_str_partition (F.args_str_partition_2 _ _) (meets_str_partition a b t t' hb hx) ?_
 have e:Txt.partition a b=(match Builtin.Str.occurrences a b 0 a.length 1 with|i::_=>(Builtin.Str.strSub a 0 i,b,Builtin.Str.strSub a (i+b.length) a.length)|[]=>(a,Str.empty,Str.empty)):=by
  unfold Txt.partition;cases Builtin.Str.occurrences a b 0 a.length 1<;>rfl
 cases hh:Builtin.Str.occurrences a b 0 a.length 1 with
 |nil=>rw[hh]at e;rw[e]at key;exact key t _ _ _
 |cons i r=>rw[hh]at e;rw[e]at key;exact key _ t' _ _
noncomputable def PJE (X:Cx) (es:List (Sem Value)) (t:St->Hp->(Str->Hp->Prop)->Prop):Prop :=
 ∀(out:Str) (pins:List (Addr×Obj)) (s:Shared) (σ:St) (H:Hp) (Q:Str->Hp->Prop),out.length+2000*es.length<=100000->Inv X pins σ H s->t σ H Q ->
  wpAny (model X.prog X.w) X.A (joinParts out es) (λu s'=>∃y tk H',u=.str (out++y) tk/\Inv X pins σ H' s'/\Q y H') X.xe s
theorem ZeD:PJE X [] (λ_ H Q=>Q Str.empty H):=λout pins s σ H Q hl I h =>
 joinParts_nil ⟨Str.empty,_,H,by rw[Str.append_empty],I.tok _,h⟩ (by simp at hl;exact Yd hl (by decide))
theorem Zdy {x:Str}{j:Nat}{pos:Pos}{es:List (Sem Value)}{t:St->Hp->(Str->Hp->Prop)->Prop} (hx:x.length<=2000) (h:PJE X es t):PJE X (eval (.Constant (.str x) j pos) X.env::es) (fun σ H Q=>t σ H λy H'=>Q (x++y) H'):=by
 intro out pins s σ H Q hl I hq
 have hl':(out++x).length+2000*es.length<=100000:=by rw[PySem.strLen_append];simp at hl;omega
 refine joinParts_cons (Calls.Constant_str ⟨Yd (Yd (Nat.le_add_right _ _) hl') (by decide),?_⟩)
 exact thn (h _ pins _ σ H _ hl' (I.tok _) hq) λu s' ⟨y,tk,H',e,I',q⟩=>⟨x++y,tk,H',by rw[e,Str.append_assoc],I',q⟩
theorem log60 {i:Int} (h:i.natAbs<10 ^ 60):i.natAbs.log2<1920:=by
 by_cases z:i.natAbs=0
 ·rw[z];decide
 ·exact(Nat.log2_lt z).mpr (Yk h (by decide +kernel))
theorem ZeE {e:Expr}{pos:Pos}{es:List (Sem Value)}{te:TE}{t:St->Hp->(Str->Hp->Prop)->Prop} (he:PE X e te) (h:PJE X es t):PJE X (eval (.FormattedValue e (-1) none pos) X.env::es) (fun σ H Q=>te σ H λx H1=>∃i:Int,x=.int i/\i.natAbs<10 ^ 60/\t σ H1 λy H'=>Q (numS i++y) H'):=by
 intro out pins s σ H Q hl I hq
 refine joinParts_cons (FormattedValue_plain (thn (he pins s σ H _ I hq) λu s1 ⟨x,H1,I1,r1,i,ex,hi,q⟩=>?_))
 subst ex
 obtain⟨tk,rfl⟩:=(show ∃t,u=Value.int i t from r1)
 refine wpAny_formatField_int (log60 hi) ?_
 have hx:(Str.ofString (toString i)).length<=61:=(Za4 hi).len
 have hl':(out++Str.ofString (toString i)).length+2000*es.length<=100000:=by rw[PySem.strLen_append];simp at hl;omega
 refine⟨Yd (Yd (Nat.le_add_right _ _) hl') (by decide),?_⟩
 exact thn (h _ pins _ σ H1 _ hl' (I1.tok _) q) λu s' ⟨y,tk,H',e,I',q⟩=>⟨numS i++y,tk,H',by rw[e,Str.append_assoc];rfl,I',q⟩
theorem ZbG {e1 e2:Expr}{rest:List Expr}{pos:Pos}{t:St->Hp->(Str->Hp->Prop)->Prop} (h:PJE X (eval e1 X.env::eval e2 X.env::evalEach rest X.env) t) (hn:rest.length<=20:=by decide) :
  PE X (.JoinedStr (e1::e2::rest) pos) (fun σ H Q=>t σ H λy H1=>Q (.str y) H1):=by
 intro pins s σ H Q I hq
 have hle:=ZeO X.env rest
 refine JoinedStr_many (thn (h Str.empty pins s σ H _ (by simp only[Yr,hle];show 0+_<=_;omega) I hq) λu s' ⟨y,tk,H',e,I',q⟩=>?_)
 subst e
 exact⟨.str y,H',I',⟨tk,by rw[Str.empty_append]⟩,q⟩
noncomputable def sDead:TS:=λ_ _ _=>False
theorem ZcJ {st:Stmt}:PS X st sDead:=λ_ _ _ _ _ _ h=>False.elim h
end
theorem ZiM (xs:List Str):(xs.map V.str).all flatV=true:=by
 induction xs with
 |nil=>rfl
 |cons x r ih=>rw[YA,List.all_cons,ih];rfl
theorem Zla (x:Str) (xs:List Str):inV (.str x) (xs.map V.str)=decide (x∈xs):=by
 induction xs with
 |nil=>rfl
 |cons y r ih =>
  have:inV (.str x) ((y::r).map V.str)=((y==x)||inV (.str x) (r.map V.str)):=rfl
  rw[this,ih]
  by_cases z:x=y
  ·subst z;simp
  ·have z2:¬ y=x:=λe=>z e.symm
   simp[z,z2]
theorem ZfL {X:Cx}{x:Str}{k:Nat}{ps:List Str}{sp:Sp}{E:XK}{p pos:Pos}{mg:Str->Option Value} (hmg:X.mg=mg) (C:Zgq X.prog X.w X.K mg X.base x k ps sp) (hr:Room (k+1) X.A) (hg:Gl X x) (hx:Passes (CXE X.prog X.w) X E) (hdb:(x==("__debug__":Str))=false:=by decide) :
  PE X (.Call (.Name x p) [] [] pos) (tMake (clsAt mg x) sp [] E tNil):=by
 subst hmg
 obtain⟨f,fd,hM,hm,hb,F⟩:=C
 exact Zjo hM F hr hg hm hb .nil hx hdb
end L2
namespace K81
open PySem PySem.Spec PyProof.Rows L2
open PySem.W (nsIn mg_of fnOf keepIn codeIn mg_none_of)
local macro_rules | `(tactic| walk_at "rd") => `(tactic| simp only [tIfS, tNot, tTest, rI0, rI, rU, tVar, tC, tB, tIf, tAndV, tCall, tCons, tNil, tAsg, tSeq, tRet, tNext, tOp, tUn, tAnd, tOr, tDrop, gName, gSub, tCB, tSl, tRaise, tLst, tTup, L2.start, tYes, gTup, gCons, gNil, iniC, Option.join_some, Option.join_none, rEq, rNe, ZhX, ZhY, ZhZ, Zh0, Zh1, Zh2, tBM, Bool.true_eq_false, YA, List.map_nil, List.cons_append, List.nil_append, Yr, List.length_nil, List.replicate, List.append_nil, List.set_cons_zero, List.set_cons_succ, List.getElem?_cons_zero, List.getElem?_cons_succ, Option.some.injEq, V.int.injEq, V.bl.injEq, V.ref.injEq, List.cons.injEq, and_true, true_and, exists_eq_left, exists_eq_left', exists_and_left, exists_eq, decide_eq_true_eq, Bool.not_eq_true', decide_eq_false_iff_not, cxK, and_assoc, Bool.false_eq_true, ↓reduceIte, ZhV, ZfF, ZgM, iRng1, iList, rIxL, rIxT, rSetL, rCat, rIsi, rPop, rIntB, rInsert, rLen, rLof, rTof, tCallV, iSeq, tBM0, rEqD, rIn, rSlQ, rOr, rSlL, tPart, tNoPart, tSl, rAppend, Zh3, ZjD, rMulS, rJoin, V.str.injEq, rLenS, rRemP, rIsAsc, rIsDig, rStarts, rStrI, rIntS, rSplit, tFldC, sFldC, tMeth, tMake, rCatU, rSlV, tMethX, tCallV, Zhz, ZhA, ZjR])
noncomputable def top (i:Nat):Stmt:=PySem.Challenge.pw_dipkin_k81_desk_keeps_a_row.main.body.getD i (.Pass ⟨0,0,0,0⟩)
noncomputable abbrev s_need_numbers:Stmt:=top 26
noncomputable abbrev Zad:Stmt:=top 35
noncomputable abbrev ZaA:Stmt:=top 81
noncomputable abbrev ZV:Stmt:=top 83
noncomputable abbrev ZaB:Stmt:=top 84
noncomputable abbrev ZaC:Stmt:=top 87
noncomputable abbrev Z4:Stmt:=top 100
noncomputable abbrev ZE:Stmt:=top 101
noncomputable abbrev Z5:Stmt:=top 102
noncomputable abbrev ZW:Stmt:=top 104
noncomputable abbrev ZI:Stmt:=inClass (top 105) 0
noncomputable abbrev ZaD:Stmt:=inClass (top 105) 1
noncomputable abbrev ZQ:Stmt:=inClass (top 105) 2
noncomputable abbrev ZaE:Stmt:=top 107
noncomputable abbrev s__law_take:Stmt:=top 108
noncomputable abbrev s__law_row:Stmt:=top 109
noncomputable abbrev ZJ:Stmt:=top 110
noncomputable abbrev Z6:Stmt:=top 111
noncomputable abbrev s__law_alone:Stmt:=top 112
noncomputable abbrev Zae:Stmt:=top 113
noncomputable abbrev Zaf:Stmt:=top 114
noncomputable abbrev Zag:Stmt:=top 115
noncomputable abbrev s_law:Stmt:=top 116
structure Txt (K:PySem.W.Frag) (mg:Str->Option Value):Prop where
 b_ValueError:mg "ValueError"=none
 b_int:mg "int"=none
 b_isinstance:mg "isinstance"=none
 b_len:mg "len"=none
 b_list:mg "list"=none
 b_max:mg "max"=none
 b_min:mg "min"=none
 b_range:mg "range"=none
 b_str:mg "str"=none
 b_tuple:mg "tuple"=none
 c_DipError:mg "DipError"=some (.ref (clsAt mg "DipError"))
 x_DipError:PySem.W.excIn K (clsAt mg "DipError") bmV newV=true
 c_Unlike:mg "Unlike"=some (.ref (clsAt mg "Unlike"))
 x_Unlike:PySem.W.excIn K (clsAt mg "Unlike") bmV newV=true
 c_Empty:mg "Empty"=some (.ref (clsAt mg "Empty"))
 x_Empty:PySem.W.excIn K (clsAt mg "Empty") bmV newV=true
 c_TooMany:mg "TooMany"=some (.ref (clsAt mg "TooMany"))
 x_TooMany:PySem.W.excIn K (clsAt mg "TooMany") bmV newV=true
 c_NoTree:mg "NoTree"=some (.ref (clsAt mg "NoTree"))
 x_NoTree:PySem.W.excIn K (clsAt mg "NoTree") bmV newV=true
 c_NoTelling:mg "NoTelling"=some (.ref (clsAt mg "NoTelling"))
 x_NoTelling:PySem.W.excIn K (clsAt mg "NoTelling") bmV newV=true
 c_NoPlace:mg "NoPlace"=some (.ref (clsAt mg "NoPlace"))
 x_NoPlace:PySem.W.excIn K (clsAt mg "NoPlace") bmV newV=true
 c_NoNumber:mg "NoNumber"=some (.ref (clsAt mg "NoNumber"))
 x_NoNumber:PySem.W.excIn K (clsAt mg "NoNumber") bmV newV=true
 c_NoPast:mg "NoPast"=some (.ref (clsAt mg "NoPast"))
 x_NoPast:PySem.W.excIn K (clsAt mg "NoPast") bmV newV=true
 c_NoText:mg "NoText"=some (.ref (clsAt mg "NoText"))
 x_NoText:PySem.W.excIn K (clsAt mg "NoText") bmV newV=true
 c_NoLine:mg "NoLine"=some (.ref (clsAt mg "NoLine"))
 x_NoLine:PySem.W.excIn K (clsAt mg "NoLine") bmV newV=true
 ex_TooMany:ExK K (clsAt mg "TooMany")
 up_TooMany:PySem.W.mroIn K (clsAt mg "TooMany") (.ref (clsAt mg "DipError"))=some true
 is_TooMany_DipError:PySem.W.kitOne K (.ref (clsAt mg "TooMany")) (.ref (clsAt mg "DipError"))=some true
 is_TooMany_Unlike:PySem.W.kitOne K (.ref (clsAt mg "TooMany")) (.ref (clsAt mg "Unlike"))=some false
 is_TooMany_Empty:PySem.W.kitOne K (.ref (clsAt mg "TooMany")) (.ref (clsAt mg "Empty"))=some false
 is_TooMany_TooMany:PySem.W.kitOne K (.ref (clsAt mg "TooMany")) (.ref (clsAt mg "TooMany"))=some true
 is_TooMany_NoTree:PySem.W.kitOne K (.ref (clsAt mg "TooMany")) (.ref (clsAt mg "NoTree"))=some false
 is_TooMany_NoTelling:PySem.W.kitOne K (.ref (clsAt mg "TooMany")) (.ref (clsAt mg "NoTelling"))=some false
 is_TooMany_NoPlace:PySem.W.kitOne K (.ref (clsAt mg "TooMany")) (.ref (clsAt mg "NoPlace"))=some false
 is_TooMany_NoNumber:PySem.W.kitOne K (.ref (clsAt mg "TooMany")) (.ref (clsAt mg "NoNumber"))=some false
 is_TooMany_NoPast:PySem.W.kitOne K (.ref (clsAt mg "TooMany")) (.ref (clsAt mg "NoPast"))=some false
 is_TooMany_NoText:PySem.W.kitOne K (.ref (clsAt mg "TooMany")) (.ref (clsAt mg "NoText"))=some false
 is_TooMany_NoLine:PySem.W.kitOne K (.ref (clsAt mg "TooMany")) (.ref (clsAt mg "NoLine"))=some false
 is_TooMany_V:PySem.W.kitOne K (.ref (clsAt mg "TooMany")) (.type "ValueError")=some true
 ex_Empty:ExK K (clsAt mg "Empty")
 up_Empty:PySem.W.mroIn K (clsAt mg "Empty") (.ref (clsAt mg "DipError"))=some true
 is_Empty_DipError:PySem.W.kitOne K (.ref (clsAt mg "Empty")) (.ref (clsAt mg "DipError"))=some true
 is_Empty_Unlike:PySem.W.kitOne K (.ref (clsAt mg "Empty")) (.ref (clsAt mg "Unlike"))=some false
 is_Empty_Empty:PySem.W.kitOne K (.ref (clsAt mg "Empty")) (.ref (clsAt mg "Empty"))=some true
 is_Empty_TooMany:PySem.W.kitOne K (.ref (clsAt mg "Empty")) (.ref (clsAt mg "TooMany"))=some false
 is_Empty_NoTree:PySem.W.kitOne K (.ref (clsAt mg "Empty")) (.ref (clsAt mg "NoTree"))=some false
 is_Empty_NoTelling:PySem.W.kitOne K (.ref (clsAt mg "Empty")) (.ref (clsAt mg "NoTelling"))=some false
 is_Empty_NoPlace:PySem.W.kitOne K (.ref (clsAt mg "Empty")) (.ref (clsAt mg "NoPlace"))=some false
 is_Empty_NoNumber:PySem.W.kitOne K (.ref (clsAt mg "Empty")) (.ref (clsAt mg "NoNumber"))=some false
 is_Empty_NoPast:PySem.W.kitOne K (.ref (clsAt mg "Empty")) (.ref (clsAt mg "NoPast"))=some false
 is_Empty_NoText:PySem.W.kitOne K (.ref (clsAt mg "Empty")) (.ref (clsAt mg "NoText"))=some false
 is_Empty_NoLine:PySem.W.kitOne K (.ref (clsAt mg "Empty")) (.ref (clsAt mg "NoLine"))=some false
 is_Empty_V:PySem.W.kitOne K (.ref (clsAt mg "Empty")) (.type "ValueError")=some true
 ex_NoPast:ExK K (clsAt mg "NoPast")
 up_NoPast:PySem.W.mroIn K (clsAt mg "NoPast") (.ref (clsAt mg "DipError"))=some true
 is_NoPast_DipError:PySem.W.kitOne K (.ref (clsAt mg "NoPast")) (.ref (clsAt mg "DipError"))=some true
 is_NoPast_Unlike:PySem.W.kitOne K (.ref (clsAt mg "NoPast")) (.ref (clsAt mg "Unlike"))=some false
 is_NoPast_Empty:PySem.W.kitOne K (.ref (clsAt mg "NoPast")) (.ref (clsAt mg "Empty"))=some false
 is_NoPast_TooMany:PySem.W.kitOne K (.ref (clsAt mg "NoPast")) (.ref (clsAt mg "TooMany"))=some false
 is_NoPast_NoTree:PySem.W.kitOne K (.ref (clsAt mg "NoPast")) (.ref (clsAt mg "NoTree"))=some false
 is_NoPast_NoTelling:PySem.W.kitOne K (.ref (clsAt mg "NoPast")) (.ref (clsAt mg "NoTelling"))=some false
 is_NoPast_NoPlace:PySem.W.kitOne K (.ref (clsAt mg "NoPast")) (.ref (clsAt mg "NoPlace"))=some false
 is_NoPast_NoNumber:PySem.W.kitOne K (.ref (clsAt mg "NoPast")) (.ref (clsAt mg "NoNumber"))=some false
 is_NoPast_NoPast:PySem.W.kitOne K (.ref (clsAt mg "NoPast")) (.ref (clsAt mg "NoPast"))=some true
 is_NoPast_NoText:PySem.W.kitOne K (.ref (clsAt mg "NoPast")) (.ref (clsAt mg "NoText"))=some false
 is_NoPast_NoLine:PySem.W.kitOne K (.ref (clsAt mg "NoPast")) (.ref (clsAt mg "NoLine"))=some false
 is_NoPast_V:PySem.W.kitOne K (.ref (clsAt mg "NoPast")) (.type "ValueError")=some true
 c_Desk:mg "Desk"=some (.ref (clsAt mg "Desk"))
 cl_Desk:Cls K (clsAt mg "Desk")
 n_Desk_rows:NoAttr K (clsAt mg "Desk") "rows"
 m_MOST_PLACES:mg "MOST_PLACES"=some (.int 40 (tokAt mg "MOST_PLACES"))
 m_MOST_HELD:mg "MOST_HELD"=some (.int 6 (tokAt mg "MOST_HELD"))
 m_MOST_HOLDING:mg "MOST_HOLDING"=some (.int 16 (tokAt mg "MOST_HOLDING"))
 m_NOTHING:mg "NOTHING"=some (.str (Str.ofString "-") (tokS mg "NOTHING"))
 m_MOST_FIGURES:mg "MOST_FIGURES"=some (.int 60 (tokAt mg "MOST_FIGURES"))
noncomputable abbrev SpT:=PySem.W.Frag->(Str->Option Value)->Sp
noncomputable def spLaw (K:PySem.W.Frag):Sp:=λvs H Q E=>∃(a:Addr) (ns:List Int),vs=[.ref a]/\SqL K H a (ns.map V.int)/\ns.length<=63/\∀H',Q (.bl true) H'
noncomputable def Zci:SpT:=λK mg vs H Q E=>∃(a:Addr) (ns:List Int) (k:Int),vs=[.ref a,.int k]/\SqL K H a (ns.map V.int)/\0<=k/\k<=100/\∀p H',H p=none->Same H H'->ZA H' p->Q (.ref p) H'
noncomputable def sp__law_take:SpT:=λK mg vs H Q E=>∃(p:Addr) (many:Int),vs=[.ref p,.int many]/\0<many/\many<=1000000001/\ZA H p/\∀d H',0<=d->d<many->ZA H' p->Exc p H H'->Q (.int d) H'
noncomputable def sp__law_row:SpT:=λK mg vs H Q E=>∃(p:Addr) (most:Int),vs=[.ref p,.int most]/\0<=most/\most<=1000/\ZA H p/\∀(r:Addr) (ns:List Int) H',H r=none->(ns.length:Int)<=most->(∀x∈ns,x.natAbs<10 ^ 60)->H' r=some (.lst (ns.map V.int))->ZA H' p->Exc p H H'->Q (.ref r) H'
structure RowOk (ns:List Int) (i:Nat) (last:Int):Prop where
 len:ns.length=i
 all:∀x∈ns,x.natAbs<10 ^ 60
 bd:last.natAbs<=10*i
theorem RowOk.nil:RowOk [] 0 0:=⟨rfl,λx h=>absurd h (by simp),by decide⟩
theorem RowOk.push {ns:List Int}{i:Nat}{last last' y:Int} (h:RowOk ns i last) (hy:y.natAbs<10 ^ 60) (hl:last'.natAbs<=10*(i+1)):RowOk (ns++[y]) (i+1) last' :=
 ⟨by simp[h.len],λx hx=>by
  rcases Ys.mp hx with z|z
  ·exact h.all x z
  ·simp at z;rw[z];exact hy,hl⟩
theorem RowOk.ins {ns:List Int}{i k:Nat}{last y:Int} (h:RowOk ns i last) (hy:y.natAbs<10 ^ 60) (hk:k<=i):RowOk (ns.take k++y::ns.drop k) (i+1) last :=
 ⟨by have:=h.len;simp;omega,λx hx=>by
  rcases Ys.mp hx with z|z
  ·exact h.all x (List.mem_of_mem_take z)
  ·rcases Yj.mp z with rfl|z
   ·exact hy
   ·exact h.all x (List.mem_of_mem_drop z),by have:=h.bd;omega⟩
noncomputable def Few (ns:List Int):Prop:=ns.length<=40/\∀x∈ns,x.natAbs<10 ^ 60
noncomputable def Zax (ns:List Int):Str:=if ns=[]then Str.ofString "-" else Str.join ⟨#[32]⟩ (ns.map numS)
noncomputable def Zcj:SpT:=λK mg vs H Q E=>∃(r:Addr) (ns:List Int),vs=[.ref r]/\(SqL K H r (ns.map V.int)\/SqT K H r (ns.map V.int))/\Few ns/\∀H',Same H H'->Q (.str (Zax ns)) H'
noncomputable def ZF:SpT:=λK mg vs H Q E=>∃(r:Addr) (ns:List Int),vs=[.ref r]/\SqL K H r (ns.map V.int)/\Few ns/\∀H',Same H H'->Q (.str (Zax ns)) H'
noncomputable def Zaq:SpT:=λK mg vs H Q E=>∃i:Int,vs=[.str (numS i)]/\i.natAbs<10 ^ 60/\Q (.int i) H
noncomputable def Zck:SpT:=λK mg vs H Q E=>∃ns:List Int,vs=[.str (Zax ns)]/\Few ns/\∀(t:Addr) H',Same H H'->H' t=some (.tup (ns.map V.int))->Q (.ref t) H'
noncomputable def sp_need_numbers:SpT:=λK mg vs H Q E=>∃(r:Addr) (ns:List Int) (k:Int),vs=[.ref r,.int k]/\(SqL K H r (ns.map V.int)\/SqT K H r (ns.map V.int))/\ns.length<=1000/\0<=k/\k<=1000/\(k<=ns.length->Q .non H)/\((ns.length:Int)<k->E (.ref (clsAt mg "Empty")) none H)
noncomputable def Zbj:SpT:=λK mg vs H Q E=>∃(e C:Addr) (b:Nat->Bool),vs=[.ref e]/\H e=some (Zgd e C)/\KindsOf K mg C b/\∀l H',Same H H'->H' l=some (.lst ((Zgm b).map V.bl))->Q (.ref l) H'
noncomputable def sp__law_alone:SpT:=λK mg vs H Q E=>∃(e C:Addr) (j:Nat),vs=[.ref e,.int (j:Int)]/\H e=some (Zgd e C)/\KindsOf K mg C (λk=>decide (k=j))/\∀H',Same H H'->Q (.bl true) H'
theorem Zec {K:PySem.W.Frag}{mg:Str->Option Value} (T:Txt K mg):KindsOf K mg (clsAt mg "Empty") (λk=>decide (k=1)):=⟨T.ex_Empty,T.is_Empty_Unlike,T.is_Empty_Empty,T.is_Empty_TooMany,T.is_Empty_NoTree,T.is_Empty_NoTelling,T.is_Empty_NoPlace,T.is_Empty_NoNumber,T.is_Empty_NoPast,T.is_Empty_NoText,T.is_Empty_NoLine,T.is_Empty_DipError,T.is_Empty_V⟩
theorem Zbk {K:PySem.W.Frag}{mg:Str->Option Value} (T:Txt K mg):KindsOf K mg (clsAt mg "TooMany") (λk=>decide (k=2)):=⟨T.ex_TooMany,T.is_TooMany_Unlike,T.is_TooMany_Empty,T.is_TooMany_TooMany,T.is_TooMany_NoTree,T.is_TooMany_NoTelling,T.is_TooMany_NoPlace,T.is_TooMany_NoNumber,T.is_TooMany_NoPast,T.is_TooMany_NoText,T.is_TooMany_NoLine,T.is_TooMany_DipError,T.is_TooMany_V⟩
theorem Zdz {K:PySem.W.Frag}{mg:Str->Option Value} (T:Txt K mg):KindsOf K mg (clsAt mg "NoPast") (λk=>decide (k=7)):=⟨T.ex_NoPast,T.is_NoPast_Unlike,T.is_NoPast_Empty,T.is_NoPast_TooMany,T.is_NoPast_NoTree,T.is_NoPast_NoTelling,T.is_NoPast_NoPlace,T.is_NoPast_NoNumber,T.is_NoPast_NoPast,T.is_NoPast_NoText,T.is_NoPast_NoLine,T.is_NoPast_DipError,T.is_NoPast_V⟩
noncomputable def DeskAt (mg:Str->Option Value) (H:Hp) (x l:Addr) (rs:List (List Int)):Prop:=∃dx fs,H x=some (.ins (clsAt mg "Desk") dx fs)/\fs.lookup (Str.ofString "rows")=some (.ref l)/\fs.lookup (Str.ofString "say")=none/\fs.lookup (Str.ofString "go_back")=none/\TupsAt H l rs
noncomputable def Zah (rs:List (List Int)):List Int:=rs.getLastD []
inductive Deed where
 |row (ns:List Int)
 |ahead (i:Int)
 |behind (i:Int)
 |offA
 |offB
noncomputable def Deed.word:Deed->Str
 |.row _=>"row"
 |.ahead _=>"ahead"
 |.behind _=>"behind"
 |.offA=>"off"
 |.offB=>"off"
noncomputable def Deed.rest:Deed->Str
 |.row ns=>Zax ns
 |.ahead i=>numS i
 |.behind i=>numS i
 |.offA=>"ahead"
 |.offB=>"behind"
noncomputable def Deed.line (d:Deed):Str:=d.word++⟨#[32]⟩++d.rest
noncomputable def Deed.Ok:Deed->Prop
 |.row ns=>Few ns
 |.ahead i=>i.natAbs<10 ^ 60
 |.behind i=>i.natAbs<10 ^ 60
 |_=>True
noncomputable def Deed.on:Deed->List Int->Option (List Int)
 |.row ns,_=>some ns
 |.ahead i,r=>if r.length<40 then some (i::r)else none
 |.behind i,r=>if r.length<40 then some (r++[i])else none
 |.offA,r=>if r.length=0 then none else some (r.drop 1)
 |.offB,r=>if r.length=0 then none else some r.dropLast
noncomputable def Deed.err:Deed->Str
 |.offA=>"Empty"
 |.offB=>"Empty"
 |_=>"TooMany"
noncomputable def Deed.no:Deed->Nat
 |.offA=>1
 |.offB=>1
 |_=>2
noncomputable def Zcl:SpT:=λK mg vs H Q E=>∃(r:Addr) (ns:List Int),vs=[.ref r]/\H r=some (.tup (ns.map V.int))/\Few ns/\∀H',Same H H'->Q (.str (Zax ns)) H'
noncomputable def Zbl:SpT:=λK mg vs H Q E=>∃s:Str,vs=[.str s]/\s.length<=100000/\Str.empty∉Txt.split s ⟨#[32]⟩/\∀H',Same H H'->Q .non H'
noncomputable def Zar:SpT:=λK mg vs H Q E=>∃i:Int,vs=[.str (numS i),.int 1]/\i.natAbs<10 ^ 60/\∀(l:Addr) H',Same H H'->H' l=some (.lst [.int i])->Q (.ref l) H'
noncomputable def Zbm:SpT:=λK mg vs H Q E=>∃ns:List Int,vs=[.str (Zax ns)]/\Few ns/\∀(t:Addr) H',Same H H'->H' t=some (.tup (ns.map V.int))->Q (.ref t) H'
noncomputable def ZbH:SpT:=λK mg vs H Q E=>∃(r:Addr) (ns:List Int),vs=[.ref r]/\H r=some (.tup (ns.map V.int))/\ns.length<=1000/\(ns.length<40->Q .non H)/\(40<=ns.length->E (.ref (clsAt mg "TooMany")) none H)
noncomputable def Za6:SpT:=λK mg vs H Q E=>∃(r:Addr) (ns:List Int) (d:Deed),vs=[.ref r,.str d.word,.str d.rest]/\H r=some (.tup (ns.map V.int))/\Few ns/\d.Ok/\(∀r' (t:Addr) H',d.on ns=some r'->Same H H'->H' t=some (.tup (r'.map V.int))->Q (.ref t) H')/\(d.on ns=none->∀H',Same H H'->E (.ref (clsAt mg d.err)) none H')
noncomputable def ZaF:SpT:=λK mg vs H Q E=>∃(x dx:Addr),vs=[.ref x]/\H x=some (.ins (clsAt mg "Desk") dx [])/\∀(l:Addr) H',H l=none->Exc x H H'->DeskAt mg H' x l [[]]->Q .non H'
noncomputable def ZaQ:SpT:=λK mg vs H Q E=>∃(x l:Addr) (rs:List (List Int)),vs=[.ref x]/\DeskAt mg H x l rs/\rs.length<=1000/\0<rs.length/\(1<rs.length->∀H',Exc l H H'->DeskAt mg H' x l rs.dropLast->Q .non H')/\(rs.length=1->E (.ref (clsAt mg "NoPast")) none H)
noncomputable def Zai : SpT := fun K mg vs H Q E => ∃ (x l : Addr) (rs : List (List Int)) (s : Str), vs = [.ref x, .str s] ∧ DeskAt mg H x l rs ∧ rs.length ≤ 1000 ∧ 0 < rs.length ∧ Few (Zah rs) ∧
  ((s = "show" ∧ ∀ H', Same H H' → Q (.str (Zax (Zah rs))) H') ∨
   (s = "back" ∧ (1 < rs.length → ∀ H', Exc l H H' → DeskAt mg H' x l rs.dropLast → Q (.str "ok") H') ∧ (rs.length = 1 → ∀ H', Same H H' → E (.ref (clsAt mg "NoPast")) none H')) ∨
   ∃ d : Deed, s = d.line ∧ d.Ok ∧ (∀ r' H', d.on (Zah rs) = some r' → Exc l H H' → DeskAt mg H' x l (rs ++ [r']) → Q (.str "ok") H') ∧ (d.on (Zah rs) = none → ∀ H', Same H H' → E (.ref (clsAt mg d.err)) none H'))
noncomputable def ZbI:SpT:=λK mg vs H Q E=>∃(p r:Addr) (ns:List Int),vs=[.ref p,.ref r]/\ZA H p/\r≠p/\H r=some (.lst (ns.map V.int))/\Few ns/\∀(u:Addr) (d:Deed) (v:V) H',H' u=some (.tup [.str d.line,v])->d.Ok->((∃r' q,d.on ns=some r'/\Few r'/\v=.ref q/\H q=none/\H' q=some (.lst (r'.map V.int)))\/(d.on ns=none/\v=.int (d.no:Int)))->ZA H' p->Exc p H H'->Q (.ref u) H'
noncomputable def ZaW : SpT := fun K mg vs H Q E => ∃ (x l : Addr) (rs : List (List Int)) (s : Str), vs = [.ref x, .str s] ∧ DeskAt mg H x l rs ∧ rs.length ≤ 1000 ∧ 0 < rs.length ∧ Few (Zah rs) ∧
  ((s = "back" ∧ (1 < rs.length → ∀ H', Exc l H H' → DeskAt mg H' x l rs.dropLast → Q (.str "ok") H') ∧ (rs.length = 1 → ∀ (e : Addr) H', Same H H' → H' e = some (Zgd e (clsAt mg "NoPast")) → Q (.ref e) H')) ∨
   ∃ d : Deed, s = d.line ∧ d.Ok ∧ (∀ r' H', d.on (Zah rs) = some r' → Exc l H H' → DeskAt mg H' x l (rs ++ [r']) → Q (.str "ok") H') ∧ (d.on (Zah rs) = none → ∀ (e : Addr) H', Same H H' → H' e = some (Zgd e (clsAt mg d.err)) → Q (.ref e) H'))
noncomputable def Ex3 (p l a:Addr) (H H':Hp):Prop:=∀b o,b≠p->b≠l->b≠a->H b=some o->H' b=some o
noncomputable def Zaz (H:Hp) (a:Addr) (rs:List (List Int)) (p:Addr):Prop:=∃as:List Addr,H a=some (.lst (as.map V.ref))/\a∉as/\p∉as/\as.length=rs.length/\∀i (h1:i<as.length) (h2:i<rs.length),H as[i]=some (.lst (rs[i].map V.int))
noncomputable def ZbJ:SpT:=λK mg vs H Q E=>∃(x p a l:Addr) (rs:List (List Int)),vs=[.ref x,.ref p,.ref a]/\DeskAt mg H x l rs/\Zaz H a rs p/\ZA H p/\x≠p/\l≠p/\a≠p/\l≠a/\rs.length<=900/\0<rs.length/\(∀r∈rs,Few r)/\∀(rs':List (List Int)) H',DeskAt mg H' x l rs'->Rows H' a rs'->rs'.length<=rs.length+1->0<rs'.length->(∀r∈rs',Few r)->Ex3 p l a H H'->Q (.bl true) H'
section
variable {P:Program}{w:World}{K:PySem.W.Frag}{mg:Str->Option Value}{base:Heap}
theorem sc_need_numbers:FnScope ["row","fewest"] ["row","fewest"] (defScope s_need_numbers):=⟨rfl,rfl,rfl,by decide +kernel,rfl,by decide +kernel,by decide +kernel⟩
theorem Zgr:FnScope ["row"] ["row"] (defScope Zad):=⟨rfl,rfl,rfl,by decide +kernel,rfl,by decide +kernel,by decide +kernel⟩
theorem ZgV:FnScope ["row"] ["row"] (defScope ZaA):=⟨rfl,rfl,rfl,by decide +kernel,rfl,by decide +kernel,by decide +kernel⟩
theorem Zcm:FnScope ["word","figures"] ["word"] (defScope ZV):=⟨rfl,rfl,rfl,by decide +kernel,rfl,by decide +kernel,by decide +kernel⟩
theorem Zed:FnScope ["text","numbers"] ["text"] (defScope ZaB):=⟨rfl,rfl,rfl,by decide +kernel,rfl,by decide +kernel,by decide +kernel⟩
theorem ZgW:FnScope ["row"] ["row"] (defScope ZaC):=⟨rfl,rfl,rfl,by decide +kernel,rfl,by decide +kernel,by decide +kernel⟩
theorem Zfl:FnScope ["line"] ["line"] (defScope Z4):=⟨rfl,rfl,rfl,by decide +kernel,rfl,by decide +kernel,by decide +kernel⟩
theorem Zbb:FnScope ["rest","many","numbers"] ["rest","many"] (defScope ZE):=⟨rfl,rfl,rfl,by decide +kernel,rfl,by decide +kernel,by decide +kernel⟩
theorem Zfm:FnScope ["rest"] ["rest"] (defScope Z5):=⟨rfl,rfl,rfl,by decide +kernel,rfl,by decide +kernel,by decide +kernel⟩
theorem Zcn:FnScope ["row","word","rest","numbers"] ["row","word","rest"] (defScope ZW):=⟨rfl,rfl,rfl,by decide +kernel,rfl,by decide +kernel,by decide +kernel⟩
theorem Zd1:FnScope ["self"] ["self"] (defScope ZI):=⟨rfl,rfl,rfl,by decide +kernel,rfl,by decide +kernel,by decide +kernel⟩
theorem Zaj:FnScope ["self","line","row","word","blank","rest","tell","tell_of_row","tell_of_tree","a","b"] ["self","line"] (defScope ZaD):=⟨rfl,rfl,rfl,by decide +kernel,rfl,by decide +kernel,by decide +kernel⟩
theorem Zer:FnScope ["self"] ["self"] (defScope ZQ):=⟨rfl,rfl,rfl,by decide +kernel,rfl,by decide +kernel,by decide +kernel⟩
theorem ZR:FnScope ["script","k","cell","great","one","turn"] ["script","k"] (defScope ZaE):=⟨rfl,rfl,rfl,by decide +kernel,rfl,by decide +kernel,by decide +kernel⟩
theorem sc__law_take:FnScope ["pot","many","digit"] ["pot","many"] (defScope s__law_take):=⟨rfl,rfl,rfl,by decide +kernel,rfl,by decide +kernel,by decide +kernel⟩
theorem sc__law_row:FnScope ["pot","most","many","way","row","last","k","far"] ["pot","most"] (defScope s__law_row):=⟨rfl,rfl,rfl,by decide +kernel,rfl,by decide +kernel,by decide +kernel⟩
theorem Zd2:FnScope ["row"] ["row"] (defScope ZJ):=⟨rfl,rfl,rfl,by decide +kernel,rfl,by decide +kernel,by decide +kernel⟩
theorem ZaK:FnScope ["e","some"] ["e"] (defScope Z6):=⟨rfl,rfl,rfl,by decide +kernel,rfl,by decide +kernel,by decide +kernel⟩
theorem sc__law_alone:FnScope ["e","at"] ["e","at"] (defScope s__law_alone):=⟨rfl,rfl,rfl,by decide +kernel,rfl,by decide +kernel,by decide +kernel⟩
theorem ZD:FnScope ["pot","row","way","some","number","fresh","kind","line"] ["pot","row"] (defScope Zae):=⟨rfl,rfl,rfl,by decide +kernel,rfl,by decide +kernel,by decide +kernel⟩
theorem Zas:FnScope ["desk","line","found","e"] ["desk","line"] (defScope Zaf):=⟨rfl,rfl,rfl,by decide +kernel,rfl,by decide +kernel,by decide +kernel⟩
theorem Zat:FnScope ["desk","pot","pasts","found","line","due"] ["desk","pot","pasts"] (defScope Zag):=⟨rfl,rfl,rfl,by decide +kernel,rfl,by decide +kernel,by decide +kernel⟩
theorem sc_law:FnScope ["script","desk","other","pasts","pot","turn","k"] ["script"] (defScope s_law):=⟨rfl,rfl,rfl,by decide +kernel,rfl,by decide +kernel,by decide +kernel⟩
theorem ZgX {f:Addr}{fd:FuncData} (F:Fun K "_law_pot" "_law_pot" ZaE f fd) (T:Txt K mg):FnOk P w K mg base (CXE P w) 1 f fd ["script","k"] (Zci K mg):=by
 refine F.okX ZR (λvs H Q E h=>?_) (λcdv A outer s H vs Q E hr h=>?_)
 ·obtain⟨a,ns,k,rfl,_⟩:=h;rfl
 obtain⟨a,ns,k,rfl,hS,h0,h1,k1⟩:=h
 refine⟨_,(Zc (Zr (i:=2) ZR.nd rfl (Or.inl rfl) Ze)
   (Zc (Zv (Zi ZhO (pv 1) (Zm (Zy (K:=K) rfl) rfl T.b_len Yw (Za (pv 0) Zb)) (Zk _)) (Zf (Zr (i:=2) ZR.nd rfl (Or.inl rfl) (Za3 Zam (pv 0) (pv 1) (λ_ _=>rfl)))) Zn)
   (Zc (Zv (Zi op_ge (pv 2) (Zl ZbC Ze Ze) (Zk _)) (Zf (Zq (Z0 (Za (Zl ZcW (Zl Zbh (pv 2) (Zl ZbC Ze Ze)) (Zl Z8 (Zl Z8 (Zl Z8 (Zl ZbC Ze Ze) (Zl ZbC Ze Ze)) (Zl ZbC Ze Ze)) (Zl ZbC Ze Ze))) Zb)))) Zn)
   (Zc (Zr (i:=3) ZR.nd rfl (Or.inl rfl) Ze)
   (Zc (Zr (i:=4) ZR.nd rfl (Or.inl rfl) (Zl ZaP (Zl ZaP (Zl ZcW (pv 2) Ze) (Zl Z8 Ze (pv 1))) Ze))
   (Zc (ZeP (Zf2 PassesOwn.never rfl (Za1 rfl T.b_range (Za Ze Zb)) (ZP (i:=5) ZR.nd rfl (Or.inl rfl)) (Zc (Zr (i:=4) ZR.nd rfl (Or.inl rfl) (Zl ZcW (Zl ZaP (Zl ZaP (Zl Z8 (pv 4) Ze) (Zl Z8 Ze (pv 5))) Ze) Ze))
   (Zf (Zr (i:=3) ZR.nd rfl (Or.inl rfl) (Zl ZaP (Zl Z8 (pv 3) Ze) (Zl ZcW (Zl ZhK (Zl ZcW (Zl Z8 (pv 4) (pv 4)) Ze) Ze) Ze)))))))
   (Zf (Zq (Z0 (Za (pv 3) Zb)))))))))),?_⟩
 simp only[tIfS,tNot,tTest,rI0,rI,rU,tVar,tC,tB,tIf,tAndV,tCall,tCons,tNil,tAsg,tSeq,tRet,tNext,tOp,tUn,tAnd,tOr,tDrop,gName,gSub,tCB,tSl,tRaise,tLst,tTup,L2.start,tYes,gTup,gCons,gNil,iniC,Option.join_some,Option.join_none,rEq,rNe,ZhX,ZhY,ZhZ,Zh0,Zh1,Zh2,tBM,Bool.true_eq_false,YA,List.map_nil,List.cons_append,List.nil_append,Yr,List.length_nil,List.replicate,List.append_nil,List.set_cons_zero,List.set_cons_succ,List.getElem?_cons_zero,List.getElem?_cons_succ,Option.some.injEq,V.int.injEq,V.bl.injEq,V.ref.injEq,List.cons.injEq,and_true,true_and,exists_eq_left,exists_eq_left',exists_and_left,exists_eq,decide_eq_true_eq,Bool.not_eq_true',decide_eq_false_iff_not,cxK,and_assoc,Bool.false_eq_true,↓reduceIte,ZhV,ZfF,ZgM,iRng1,iList,rIxL,rIxT,rSetL,rCat,rIsi,rPop,rIntB,rInsert,rLen,rLof,rTof,tCallV,iSeq,tBM0,rEqD,rIn,rSlQ,rOr,rSlL,tPart,tNoPart,tSl,rAppend,Zh3,ZjD,rMulS,rJoin,V.str.injEq,rLenS,rRemP,rIsAsc,rIsDig,rStarts,rStrI,rIntS,rSplit,tFldC,sFldC,tMeth,tMake,rCatU,rSlV,tMethX,tCallV,Zhz,ZhA,ZjR,cp18,cp60,qm1,qm2,qm3,qm4]
 have fin:∀g:Int,0<=g->∀p,H p=none->Q (V.ref p) (upd H p (.lst [V.int g])):=λg hg p hp=>k1 p _ hp ((Same.refl H).upd hp) ⟨_,Zd,hg⟩
 refine⟨_,.inl hS,Zs (λhk=>?_) (λhk=>?_)⟩
 case' refine_1 =>
  obtain⟨j,hj0⟩:=Int.eq_ofNat_of_zero_le h0
  have hj:j<(ns.map V.int).length:=by omega
  refine⟨_,hS,_,ZjB hj0 hj,ns[j]'(by simpa using hj),by simp,Zs (λ_=>⟨ns[j]'(by simpa using hj),by simp,by decide,fin _ (Int.emod_nonneg _ (by decide +kernel))⟩) (λ_=>⟨ns[j]'(by simpa using hj),by simp,by decide,ZeQ (by decide) (by decide),by decide,by decide,?_⟩)⟩
 case' refine_2 =>
  refine Zs (λz=>absurd z (by decide)) (λ_=>⟨by decide,ZeQ (by decide) (by decide),by decide,by decide,?_⟩)
 all_goals
  refine ZcH (λi σ H'=>∃v2 g o v5,σ=[some (.ref a),some (.int k),v2,some (.int g),some (.int o),v5]/\0<=g/\H'=H) ⟨_,0,_,none,rfl,Int.le_refl _,rfl⟩ ?_ ?_
  ·rintro i σ H' hi ⟨v2,g,o,v5,rfl,hg,rfl⟩
   walk_at "rd"
   have b1:=Int.emod_nonneg (o*48271+7919*(0+(i:Int))+104729) (b:=2147483647) (by decide)
   have b2:=Int.emod_lt_of_pos (o*48271+7919*(0+(i:Int))+104729) (b:=2147483647) (by decide)
   refine⟨mul_r (by decide) (by decide),ZeQ (by decide) (by decide),by decide,mul_r (by decide) (by decide),ZeQ (by omega) (by omega),by decide,⟨by decide,by decide⟩,by decide,?_⟩
   have b3:=Int.emod_nonneg ((o*48271+7919*(0+(i:Int))+104729) % 2147483647*((o*48271+7919*(0+(i:Int))+104729) % 2147483647) % 2147483629 / 128) (b:=1048576) (by decide)
   have b4:=Int.mul_nonneg hg (show(0:Int)<=1048576 by decide)
   omega
  ·rintro σ H' ⟨v2,g,o,v5,rfl,hg,rfl⟩
   walk_at "rd"
   exact⟨by decide,fin g hg⟩
theorem ok__law_take {f:Addr}{fd:FuncData} (F:Fun K "_law_take" "_law_take" s__law_take f fd) (T:Txt K mg):FnOk P w K mg base (CXE P w) 1 f fd ["pot","many"] (sp__law_take K mg):=by
 refine F.okX sc__law_take (λvs H Q E h=>?_) (λcdv A outer s H vs Q E hr h=>?_)
 ·obtain⟨p,many,rfl,_⟩:=h;rfl
 obtain⟨p,many,rfl,h0,h1,⟨x,hp,hx⟩,k1⟩:=h
 refine⟨_,(Zc (Zr (i:=2) sc__law_take.nd rfl (Or.inl rfl) (Zl ZcW (Za3 Zam (pv 0) Ze (λ_ _=>rfl)) (pv 1)))
   (Zc (Zhf (Zl ZhK (Za3 Zam (pv 0) Ze (λ_ _=>rfl)) (pv 1)) (pg_sub (pv 0) Ze set_list (λ_=>rfl)))
   (Zf (Zq (pv 2))))),?_⟩
 walk_at "rd"
 refine⟨_,SqL.of hp,_,rfl,_,rfl,h0,?_⟩
 refine⟨_,SqL.of hp,_,rfl,_,rfl,⟨h0,by omega⟩,_,hp,_,rfl,?_⟩
 exact k1 _ _ (Int.emod_nonneg _ (by omega)) (Int.emod_lt_of_pos _ h0) ⟨_,Zd,Int.ediv_nonneg hx (by omega)⟩ Exc.upd
theorem ok__law_row {f:Addr}{fd:FuncData} (F:Fun K "_law_row" "_law_row" s__law_row f fd) (Zh:Callee P w K mg base "_law_take" 1 ["pot","many"] (sp__law_take K mg)) (T:Txt K mg):FnOk P w K mg base (CXE P w) 2 f fd ["pot","most"] (sp__law_row K mg):=by
 refine F.okX sc__law_row (λvs H Q E h=>?_) (λcdv A outer s H vs Q E hr h=>?_)
 ·obtain⟨p,most,rfl,_⟩:=h;rfl
 obtain⟨p,most,rfl,h0,h1,hP,k1⟩:=h
 refine⟨_,(Zc (Zr (i:=2) sc__law_row.nd rfl (Or.inl rfl) (Zg Zh (hr.mono (by decide)) rfl Zu (Za (pv 0) (Za (Zl ZaP (pv 1) Ze) Zb))))
   (Zc (Zv (Zi ZG (Zg Zh (hr.mono (by decide)) rfl Zu (Za (pv 0) (Za Ze Zb))) Ze (Zk _)) (Zf (Zr (i:=2) sc__law_row.nd rfl (Or.inl rfl) (pv 1))) Zn)
   (Zc (Zr (i:=3) sc__law_row.nd rfl (Or.inl rfl) (Zg Zh (hr.mono (by decide)) rfl Zu (Za (pv 0) (Za Ze Zb))))
   (Zc (Zr (i:=4) sc__law_row.nd rfl (Or.inl rfl) (Z0 Zb))
   (Zc (Zr (i:=5) sc__law_row.nd rfl (Or.inl rfl) Ze)
   (Zc (ZeP (Zf2 PassesOwn.never rfl (Za1 rfl T.b_range (Za (pv 2) Zb)) (ZP (i:=6) sc__law_row.nd rfl (Or.inl rfl)) (Zc (Zr (i:=7) sc__law_row.nd rfl (Or.inl rfl) (Zl ZaP (Zl ZbC Ze Ze) (Zg Zh (hr.mono (by decide)) rfl Zu (Za (pv 0) (Za (Zl ZaP Ze (Zl Z8 (Zl ZbC Ze Ze) (ZU ZcI rfl T.b_int ZdV (Za (ZaV ZG (pv 3) Ze (Zk _)) Zb)))) Zb)))))
   (Zf (Zv (Zi ZG (pv 3) Ze (Zk _)) (Zf (ZN (ZaN PySem.F.plainAttrs_list PySem.F.slot_list_insert PySem.F.type_list_insert ZiB (pv 4) (Za (Zg Zh (hr.mono (by decide)) rfl Zu (Za (pv 0) (Za (Zl ZaP (pv 6) Ze) Zb))) (Za (pv 6) Zb))))) (Zf (Zv (Zi ZG (pv 3) Ze (Zk _)) (Zc (Zr (i:=5) sc__law_row.nd rfl (Or.inl rfl) (Zl Zbh (Zl ZaP (pv 5) (Zg Zh (hr.mono (by decide)) rfl Zu (Za (pv 0) (Za Ze Zb)))) Ze))
   (Zf (ZN (ZaN PySem.F.plainAttrs_list PySem.F.slot_list_append PySem.F.type_list_append Zac (pv 4) (Za (pv 5) Zb))))) (Zf (Zv (Zi ZG (pv 3) Ze (Zk _)) (Zc (Zr (i:=5) sc__law_row.nd rfl (Or.inl rfl) (Zl ZaP (Zl Zbh (pv 5) Ze) (Zl Z8 Ze (ZU ZcI rfl T.b_int ZdV (Za (ZaV ZG (Zg Zh (hr.mono (by decide)) rfl Zu (Za (pv 0) (Za Ze Zb))) Ze (Zk _)) Zb)))))
   (Zf (ZN (ZaN PySem.F.plainAttrs_list PySem.F.slot_list_append PySem.F.type_list_append Zac (pv 4) (Za (pv 5) Zb))))) (Zf (Zv (Zi ZG (pv 3) Ze (Zk _)) (Zf (ZN (ZaN PySem.F.plainAttrs_list PySem.F.slot_list_append PySem.F.type_list_append Zac (pv 4) (Za (Za3 Zam (Z0 (Za (pv 7) (Za (ZcP Zbi (pv 7)) (Za Ze (Za (Zg Zh (hr.mono (by decide)) rfl Zu (Za (pv 0) (Za Ze Zb))) Zb))))) (Zg Zh (hr.mono (by decide)) rfl Zu (Za (pv 0) (Za Ze Zb))) (λ_ _=>rfl)) Zb)))) (Zf (ZN (ZaN PySem.F.plainAttrs_list PySem.F.slot_list_append PySem.F.type_list_append Zac (pv 4) (Za (Zl Zbh (Zg Zh (hr.mono (by decide)) rfl Zu (Za (pv 0) (Za (Za3 Zhq (Zal (Za Ze (Za (Zl Z8 Ze (pv 2)) Zb))) (pv 3) (λ_ _=>rfl)) Zb))) (pv 3)) Zb)))))))))))))))
   (Zf (Zq (pv 4))))))))),?_⟩
 walk_at "rd"
 refine⟨p,_,rfl,by omega,by omega,hP,λd1 H1 d10 d11 P1 e1=>⟨p,_,rfl,by decide,by decide,P1,λd2 H2 d20 d21 P2 e2=>⟨rfl,?_⟩⟩⟩
 walk_at "rd"
 refine Zs (λhz=>⟨p,_,rfl,by decide,by decide,P2,λway H3 w0 w1 P3 e30=>⟨YG _,λq hq=>⟨by omega,by omega,?_⟩⟩⟩) (λhz=>⟨p,_,rfl,by decide,by decide,P2,λway H3 w0 w1 P3 e30=>⟨YG _,λq hq=>⟨by omega,by omega,?_⟩⟩⟩)
 case' refine_1=>obtain⟨many,hmany,m0,m1⟩:∃m:Int,m=most/\0<=m/\m<=most:=⟨most,rfl,h0,Int.le_refl _⟩
 case' refine_2=>obtain⟨many,hmany,m0,m1⟩:∃m:Int,m=d1/\0<=m/\m<=most:=⟨d1,rfl,d10,by omega⟩
 all_goals
  have e3:Exc p H H3:=(e1.trans e2).trans e30
  have hqp:q≠p:=P3.ne hq
  have hqH:H q=none:=e3.free hqp hq
  refine ZcH (λi σ H'=>∃ns last v6 v7,σ=[some (.ref p),some (.int most),some (.int many),some (.int way),some (.ref q),some (.int last),v6,v7]/\RowOk ns i last/\H' q=some (.lst (ns.map V.int))/\ZA H' p/\Exc p H H') ⟨[],0,none,none,by rw[hmany],RowOk.nil,Zd,P3.upd hq,e3.same ((Same.refl H3).upd hq)⟩ ?_ ?_
  ·rintro i σ H' hi ⟨ns,last,v6,v7,rfl,hRo,hq',P',e'⟩
   obtain⟨hlen,hall,hlast⟩:=id hRo
   have hi':i<1000:=by omega
   have hb:ns.length<sizeLine:=YH (show _<=1000 by omega) (by decide)
   walk_at "rd"
   have e9:(10:Int) ^ Int.toNat 9=1000000000:=by decide
   rw[e9]
   have app2:∀(y last':Int) (Hx:Hp),y.natAbs<10 ^ 60->last'.natAbs<=10*(i+1)->Hx q=some (.lst (ns.map V.int))->ZA Hx p->Exc p H Hx->∃x_1,Hx q=some (HO.lst x_1)/\x_1.length<sizeLine/\∃ns',RowOk ns' (i+1) last'/\upd Hx q (HO.lst (x_1++[V.int y])) q=some (HO.lst (List.map V.int ns'))/\ZA (upd Hx q (HO.lst (x_1++[V.int y]))) p/\Exc p H (upd Hx q (HO.lst (x_1++[V.int y]))) :=
    λy last' Hx hy hl' hx Px ex=>⟨_,hx,by simpa using hb,ns++[y],hRo.push hy hl',by rw[Zd];simp,Px.updN hqp,ex.updN hqH⟩
   have e59:(10:Int) ^ Int.toNat 59=100000000000000000000000000000000000000000000000000000000000:=by decide
   refine⟨cp59,cp9,ZeQ (by decide) (by decide),p,_,rfl,by split<;>omega,by split<;>omega,P',λd3 H4 d30 d31 P4 e4=>⟨_,rfl,?_⟩⟩
   have hq4:H4 q=some (.lst (ns.map V.int)):=e4 _ _ hqp hq'
   have eH4:Exc p H H4:=e'.trans e4
   refine Zs (λ_=>?_) λg2=>Zs (λ_=>?_) λg3=>Zs (λ_=>?_) λg4=>Zs (λ_=>?_) λg5=>?_
   ·refine⟨ZT hq4,p,_,rfl,by omega,by omega,P4,λd5 H5 d50 d51 P5 e5=>⟨_,d5,rfl,e5 _ _ hqp hq4,d50,by omega,by simpa using hb,ns.take d5.toNat++(0+(i:Int))::ns.drop d5.toNat,hRo.ins (by omega) (by omega),?_,P5.updN hqp,(eH4.trans e5).updN hqH⟩⟩
    rw[Zd];simp
   ·exact⟨p,_,rfl,by decide,by decide,P4,λd5 H5 d50 d51 P5 e5=>⟨_,rfl,ZT (e5 _ _ hqp hq4),app2 _ _ H5 (by omega) (by omega) (e5 _ _ hqp hq4) P5 (eH4.trans e5)⟩⟩
   ·exact⟨p,_,rfl,by decide,by decide,P4,λd5 H5 d50 d51 P5 e5=>⟨rfl,ZeQ (by decide) (by decide),ZT (e5 _ _ hqp hq4),app2 _ _ H5 (by split<;>omega) (by split<;>omega) (e5 _ _ hqp hq4) P5 (eH4.trans e5)⟩⟩
   ·refine⟨ZT hq4,p,_,rfl,by decide,by decide,P4,λd5 H5 d50 d51 P5 e5=>⟨by decide,λz hz2=>⟨p,_,rfl,by decide,by decide,P5.upd hz2,λd6 H6 d60 d61 P6 e6=>?_⟩⟩⟩
    have hq5:H5 q=some (.lst (ns.map V.int)):=e5 _ _ hqp hq4
    have hq6:H6 q=some (.lst (ns.map V.int)):=e6 _ _ hqp (((Same.refl H5).upd hz2) _ _ hq5)
    have eH6:Exc p H H6:=((eH4.trans e5).same ((Same.refl H5).upd hz2)).trans e6
    obtain⟨v,hv,y,rfl,hyb⟩:=Zgg (xs:=[V.int (10 ^ Int.toNat 59+d3),V.int (-(10 ^ Int.toNat 59+d3)),V.int 0,V.int d5]) (i:=d6) (λv=>∃y:Int,v=V.int y/\y.natAbs<10 ^ 60) d60 d61 (by
     intro x hx
     simp at hx
     have d3b:d3<=1000000001:=by split at d31<;>omega
     rcases hx with rfl|rfl|rfl|rfl<;>refine⟨_,rfl,?_⟩<;>(try rw[e59])<;>omega)
    exact⟨_,d6,rfl,SqL.of (e6 _ _ (P5.ne hz2) Zd),_,hv,app2 y _ H6 hyb (by omega) hq6 P6 eH6⟩
   ·refine⟨ZT hq4,ZeQ (by decide) (by decide),by decide,λz hz2=>?_⟩
    obtain⟨v,hv,y,rfl,hy0,hy1⟩:=Zgg (xs:=[V.int 3,V.int (4*many)]) (i:=way) (λv=>∃y:Int,v=V.int y/\0<y/\y<=4000) w0 (show way<2 by omega) (by
     intro x hx
     simp at hx
     rcases hx with rfl|rfl
     ·exact⟨_,rfl,by decide,by decide⟩
     ·exact⟨_,rfl,by omega,by omega⟩)
    refine⟨_,SqT.of Zd,_,hv,p,y,rfl,hy0,by omega,P4.upd hz2,λd5 H5 d50 d51 P5 e5=>⟨_,rfl,?_⟩⟩
    have hq5:H5 q=some (.lst (ns.map V.int)):=e5 _ _ hqp (((Same.refl H4).upd hz2) _ _ hq4)
    exact app2 _ _ H5 (by omega) (by omega) hq5 P5 ((eH4.same ((Same.refl H4).upd hz2)).trans e5)
  ·rintro σ H' ⟨ns,last,v6,v7,rfl,⟨hlen,hall,_⟩,hq',P',e'⟩
   walk_at "rd"
   exact k1 q ns H' hqH (by omega) hall hq' P' e'
theorem Zfn {f:Addr}{fd:FuncData} (F:Fun K "_law_kinds" "_law_kinds" Z6 f fd) (T:Txt K mg):FnOk P w K mg base (CXE P w) 1 f fd ["e"] (Zbj K mg):=by
 refine F.okX ZaK (λvs H Q E h=>?_) (λcdv A outer s H vs Q E hr h=>?_)
 ·obtain⟨e,C,b,rfl,_⟩:=h;rfl
 obtain⟨e,C,b,rfl,he,Z,k1⟩:=h
 refine⟨_,(Zc (Zr (i:=1) ZaK.nd rfl (Or.inl rfl) (Z0 (Za (Zm (Zz (K:=K) rfl) rfl T.b_isinstance Zp (Za (pv 0) (Za (ZM (v:=.ref (clsAt mg "Unlike")) rfl T.c_Unlike rfl) Zb))) (Za (Zm (Zz (K:=K) rfl) rfl T.b_isinstance Zp (Za (pv 0) (Za (ZM (v:=.ref (clsAt mg "Empty")) rfl T.c_Empty rfl) Zb))) (Za (Zm (Zz (K:=K) rfl) rfl T.b_isinstance Zp (Za (pv 0) (Za (ZM (v:=.ref (clsAt mg "TooMany")) rfl T.c_TooMany rfl) Zb))) (Za (Zm (Zz (K:=K) rfl) rfl T.b_isinstance Zp (Za (pv 0) (Za (ZM (v:=.ref (clsAt mg "NoTree")) rfl T.c_NoTree rfl) Zb))) Zb))))))
   (Zc (Zr (i:=1) ZaK.nd rfl (Or.inl rfl) (Zl ZdS (pv 1) (Z0 (Za (Zm (Zz (K:=K) rfl) rfl T.b_isinstance Zp (Za (pv 0) (Za (ZM (v:=.ref (clsAt mg "NoTelling")) rfl T.c_NoTelling rfl) Zb))) (Za (Zm (Zz (K:=K) rfl) rfl T.b_isinstance Zp (Za (pv 0) (Za (ZM (v:=.ref (clsAt mg "NoPlace")) rfl T.c_NoPlace rfl) Zb))) (Za (Zm (Zz (K:=K) rfl) rfl T.b_isinstance Zp (Za (pv 0) (Za (ZM (v:=.ref (clsAt mg "NoNumber")) rfl T.c_NoNumber rfl) Zb))) Zb))))))
   (Zc (Zr (i:=1) ZaK.nd rfl (Or.inl rfl) (Zl ZdS (pv 1) (Z0 (Za (Zm (Zz (K:=K) rfl) rfl T.b_isinstance Zp (Za (pv 0) (Za (ZM (v:=.ref (clsAt mg "NoPast")) rfl T.c_NoPast rfl) Zb))) (Za (Zm (Zz (K:=K) rfl) rfl T.b_isinstance Zp (Za (pv 0) (Za (ZM (v:=.ref (clsAt mg "NoText")) rfl T.c_NoText rfl) Zb))) (Za (Zm (Zz (K:=K) rfl) rfl T.b_isinstance Zp (Za (pv 0) (Za (ZM (v:=.ref (clsAt mg "NoLine")) rfl T.c_NoLine rfl) Zb))) Zb))))))
   (Zf (Zq (Zl ZdS (pv 1) (Z0 (Za (Zm (Zz (K:=K) rfl) rfl T.b_isinstance Zp (Za (pv 0) (Za (ZM (v:=.ref (clsAt mg "DipError")) rfl T.c_DipError rfl) Zb))) (Za (Zm (Zz (K:=K) rfl) rfl T.b_isinstance Zp (Za (pv 0) (Za (ZfY (v:=.ty "ValueError") rfl T.b_ValueError ZcR rfl) Zb))) Zb))))))))),?_⟩
 walk_at "rd"
 refine⟨_,tyE he Z.z Z.k0,_,tyE he Z.z Z.k1,_,tyE he Z.z Z.k2,_,tyE he Z.z Z.k3,by decide,λp1 h1=>?_⟩
 have s1:=(Same.refl H).upd (o:=.lst [V.bl (b 0),V.bl (b 1),V.bl (b 2),V.bl (b 3)]) h1
 refine⟨_,tyE (s1 _ _ he) Z.z Z.k4,_,tyE (s1 _ _ he) Z.z Z.k5,_,tyE (s1 _ _ he) Z.z Z.k6,by decide,λp2 h2=>⟨_,((Same.refl _).ZC h2) _ _ Zd,_,Zd,Yd (show _<=100 by simp) (by decide),λp3 h3=>?_⟩⟩
 have s3:=(s1.ZC h2).ZC (o:=.lst ([V.bl (b 0),V.bl (b 1),V.bl (b 2),V.bl (b 3)]++[V.bl (b 4),V.bl (b 5),V.bl (b 6)])) h3
 refine⟨_,tyE (s3 _ _ he) Z.z Z.k7,_,tyE (s3 _ _ he) Z.z Z.k8,_,tyE (s3 _ _ he) Z.z Z.k9,by decide,λp4 h4=>⟨_,((Same.refl _).ZC h4) _ _ Zd,_,Zd,Yd (show _<=100 by simp) (by decide),λp5 h5=>?_⟩⟩
 have s5:=(s3.ZC h4).ZC (o:=.lst ([V.bl (b 0),V.bl (b 1),V.bl (b 2),V.bl (b 3)]++[V.bl (b 4),V.bl (b 5),V.bl (b 6)]++[V.bl (b 7),V.bl (b 8),V.bl (b 9)])) h5
 refine⟨_,tyE (s5 _ _ he) Z.z Z.kd,_,tyE (s5 _ _ he) Z.z Z.kv,by decide,λp6 h6=>⟨_,((Same.refl _).ZC h6) _ _ Zd,_,Zd,Yd (show _<=100 by simp) (by decide),λp7 h7=>k1 p7 _ ((s5.ZC h6).ZC h7) (by rw[Zd];rfl)⟩⟩
theorem ok__law_alone {f:Addr}{fd:FuncData} (F:Fun K "_law_alone" "_law_alone" s__law_alone f fd) (ZbK:Callee P w K mg base "_law_kinds" 1 ["e"] (Zbj K mg)) (T:Txt K mg):FnOk P w K mg base (CXE P w) 2 f fd ["e","at"] (sp__law_alone K mg):=by
 refine F.okX sc__law_alone (λvs H Q E h=>?_) (λcdv A outer s H vs Q E hr h=>?_)
 ·obtain⟨e,C,j,rfl,_⟩:=h;rfl
 obtain⟨e,C,j,rfl,he,Z,k1⟩:=h
 refine⟨_,(Zc (Zv (Zi op_isN (pv 0) ZdO (Zk _)) (Zf (Zq Zd8)) Zn)
   (Zf (Zq (ZaV (Zgi (K:=K) rfl hr) (Zg ZbK (hr.mono (by decide)) rfl Zu (Za (pv 0) Zb)) (Zl ZdS (Zdu ["k","at"] [none,some 1] rfl rfl rfl (Za1 rfl T.b_range (Za Ze Zb)) (λ_ _ _ _ _=>(ZP (i:=0) (show(["k","at"]:List Str).Nodup from by decide +kernel) rfl (Or.inl rfl))) (λ_ _ _ _ _=>Zbv) (λ_ _ _ _ _=>(ZaV ZG (pv 0) (pv 1) (Zk _))) Za2) (Z0 (Za Zd8 (Za Zd8 Zb)))) (Zk _))))),?_⟩
 walk_at "rd"
 refine Zs (λz=>nomatch z) λ_=>⟨e,C,_,rfl,he,Z,λl H1 s1 h1=>⟨by decide,by decide,?_⟩⟩
 refine comp_map (n:=10) (λi=>V.bl (decide (0+(i:Int)=(j:Int)))) (by decide) (λj Hx s hj=>hj) (λHx s=>Yf _) ?_ ?_
 ·rintro i x Hx Hy hj s ⟨rfl,rfl⟩
  walk_at "rd"
  exact CW.next hj rfl s
 ·intro l2 Hx s hl2
  have key:(List.range 10).map (λ(i:Nat)=>V.bl (decide (0+(i:Int)=(j:Int))))++[V.bl true,V.bl true]=(Zgm λk=>decide (k=j)).map V.bl:=by
   have:∀i:Nat,decide (0+(i:Int)=(j:Int))=decide (i=j):=λi=>decide_eq_decide.mpr (by omega)
   simp only[this]
   rfl
  refine⟨by decide,λp3 h3=>⟨l2,rfl,_,((Same.refl _).ZC h3) _ _ Zd,_,Zd,Yd (show _<=100 by simp) (by decide),λp4 h4=>⟨l,rfl,_,Zgj (n:=2) ZjH _ _ (Zgm λk=>decide (k=j)) (Zgm λk=>decide (k=j)) (ZfH (SqL.of ((((s.ZC hl2).ZC h3).ZC h4) _ _ h1))) (ZfH (SqL.of (by rw[Zd];exact congrArg (λz=>some (HO.lst z)) key))),?_⟩⟩⟩
  have:=k1 _ (((((s1.trans s).ZC hl2).ZC h3).ZC (o:=.lst ((List.range 10).map (λ(i:Nat)=>V.bl (decide (0+(i:Int)=(j:Int))))++[V.bl true,V.bl true])) h4))
  simpa using this
theorem log_ok {i:Int} (h:i.natAbs<10 ^ 60):i.natAbs.log2<1920:=by
 by_cases z:i.natAbs=0
 ·rw[z];decide
 ·exact(Nat.log2_lt z).mpr (Yk h (by decide +kernel))
theorem ZfM:(Str.ofString " ")=(⟨#[32]⟩:Str):=by decide +kernel
theorem Zia {α:Type} (f:Int->α) (ns:List Int):(List.range ns.length).map (λj=>f (nth ns j))=ns.map f:=by
 refine List.ext_getElem (by simp) λj h1 h2=>?_
 have hj:j<ns.length:=by simpa using h1
 simp[nth,YQ,hj]
theorem ZfN {ns:List Int} (h:ns≠[]):Txt.join (Str.ofString " ") (ns.map numS)=Zax ns:=by
 unfold Zax
 rw[Yb h,ZfM]
 exact StrLaws.glued_eq_join _ _
theorem Zlb {ns:List Int} (h:ns≠[]):Zax ns≠Str.ofString "-":=by
 intro z
 have z:=congrArg cds z
 unfold Zax at z
 rw[Yb h,Zch,ZdZ]at z
 have z:jl 32 ((ns.map numS).map cds)=[45]:=z
 match ns,h,z with
 |[i],_,z =>
  have z:cds (numS i)=[45]:=z
  cases i with
  |ofNat m =>
   rw[show cds (numS (Int.ofNat m))=dg m from ZeU m]at z
   have:=ZdX m 45 (by rw[z];simp)
   omega
  |negSucc m =>
   rw[ZeV]at z
   simp only[List.cons.injEq,true_and]at z
   exact ZgT _ z
 |i::j::r,_,z =>
  have z:cds (numS i)++32::jl 32 (((j::r).map numS).map cds)=[45]:=z
  have:(32:Nat)∈[45]:=by rw[<-z];simp
  simp at this
theorem Zbw {ns:List Int} (h:Few ns):(Zax ns).length<=10000:=by
 unfold Zax
 by_cases z:ns=[]
 ·rw[Ye z];decide +kernel
 ·rw[Yb z]
  have a:=StrLaws.join_length_le ⟨#[32]⟩ (ns.map numS)
  have b:=StrLaws.sumLen_le (B:=61) (ns.map numS) λy hy=>by
   obtain⟨i,hi,rfl⟩:=YD.mp hy
   exact(Za4 (h.2 i hi)).len
  have c:(⟨#[32]⟩:Str).length=1:=rfl
  have d:=h.1
  rw[Yp,c]at a
  rw[Yp]at b
  omega
theorem ZhB {ns:List Int} (h:ns≠[]):Txt.split (Zax ns) (Str.ofString " ")=ns.map numS:=by
 unfold Zax
 rw[Yb h,ZfM]
 exact Zc1 (by simp[h]) λx hx=>by
  obtain⟨i,_,rfl⟩:=YD.mp hx
  exact ZdY i
theorem Zib {ns:List Int} (h:Few ns):JoinOk (Str.ofString " ") (ns.map numS)=true :=
 joinOk_of (by decide +kernel) (by rw[Yp];have:=h.1;omega) λy hy=>by
  obtain⟨i,hi,rfl⟩:=YD.mp hy
  have:=(Za4 (h.2 i hi)).len;omega
theorem Zd3 {J:It}{H:Hp}{ns:List Int}{Q:VK} (hF:Few ns) (hgo:∀i Hx,Same H Hx->i<ns.length->J.go i Hx) (hstop:∀Hx,Same H Hx->J.stop ns.length Hx) (hy:∀j x Hx Hy,j<ns.length->Same H Hx->J.yld j Hx x Hy->Hy=Hx/\x=V.int (nth ns j))
  (hk:∀l H',Same H H'->H' l=some (.lst ((ns.map numS).map V.str))->Q (.ref l) H'):ZhW J (gName 0) tYes (tCB rStrI (tCons (tVar 0) tNil)) [none] Q H:=by
 refine comp_map (n:=ns.length) (λj=>V.str (numS (nth ns j))) (YH (show _<=1000 by have:=hF.1;omega) (by decide)) hgo hstop ?_ ?_
 ·intro j x Hx Hy' hj s y
  obtain⟨rfl,rfl⟩:=hy j x Hx Hy' hj s y
  have hm:nth ns j∈ns:=by simp[nth,YQ,hj]
  walk_at "rd"
  exact⟨log_ok (hF.2 _ hm),CW.next hj rfl s⟩
 ·intro l Hx sx hl
  refine hk l _ (sx.ZC hl) ?_
  rw[Zd,Zia (λi=>V.str (numS i)),List.map_map];rfl
theorem ZgY {f:Addr}{fd:FuncData} (F:Fun K "row_text" "row_text" ZaA f fd) (T:Txt K mg):FnOk P w K mg base (CXE P w) 1 f fd ["row"] (Zcj K mg):=by
 refine F.okX ZgV (λvs H Q E h=>?_) (λcdv A outer s H vs Q E hr h=>?_)
 ·obtain⟨r,ns,rfl,_⟩:=h;rfl
 obtain⟨r,ns,rfl,hS,⟨hn,hb⟩,k1⟩:=h
 refine⟨_,(Zf (Zq (ZeI (Zjj (pv 0) (λ_=>rfl)) (ZaN PySem.F.plainAttrs_str PySem.F.slot_str_join PySem.F.type_str_join (Zh5 (K:=K) rfl) Zo (Za (Zdu ["number"] [none] rfl rfl rfl (pi_seq (K:=K) rfl (pv 0)) (λ_ _ _ _ _=>(ZP (i:=0) (show(["number"]:List Str).Nodup from by decide +kernel) rfl (Or.inl rfl))) (λ_ _ _ _ _=>Zbv) (λ_ _ _ _ _=>(ZU ZfK rfl T.b_str ZjJ (Za (pv 0) Zb))) Za2) Zb)) (ZM (v:=.str (Str.ofString "-")) rfl T.m_NOTHING ⟨_,rfl⟩)))),?_⟩
 walk_at "rd"
 have fin:ns≠[]->∀l H',Same H H'->H' l=some (.lst ((ns.map numS).map V.str))->∃x_1,V.ref l=V.ref x_1/\∃x,SqL K H' x_1 (List.map V.str x)/\JoinOk (Str.ofString " ") x=true/\Q (V.str (Txt.join (Str.ofString " ") x)) H':=λz l H' s hl=>⟨l,rfl,_,SqL.of hl,Zib ⟨hn,hb⟩,by rw[ZfN z];exact k1 H' s⟩
 by_cases z:ns=[]
 ·subst z
  have k2:Q (V.str (Str.ofString "-")) H:=by have:=k1 H (Same.refl H);rwa [Zax,Ye rfl]at this
  rcases hS with hS|hS
  ·exact⟨false,.inl ⟨_,hS,rfl⟩,Zs (λz=>nomatch z) λ_=>k2⟩
  ·exact⟨false,.inr (.inl ⟨_,hS,rfl⟩),Zs (λz=>nomatch z) λ_=>k2⟩
 ·have hne:(!(ns.map V.int).isEmpty)=true:=by cases ns;exact absurd rfl z;rfl
  rcases hS with hS|hS
  ·refine⟨true,.inl ⟨_,hS,hne.symm⟩,Zs (λ_=>⟨rfl,.inl ⟨⟨_,hS⟩,Zd3 ⟨hn,hb⟩ (λj Hx s hj=>⟨_,_,s.seq hS,Yg (by simpa using hj)⟩) (λHx s=>⟨_,s.seq hS,by simp⟩) ?_ (fin z)⟩⟩) λq=>absurd rfl q⟩
   rintro j v Hx Hy hj s ⟨rfl,hv⟩
   have:=hv _ (s.seq hS)
   rw[Yy,Yg hj]at this
   cases this
   exact⟨rfl,by simp[nth,YQ,hj]⟩
  ·refine⟨true,.inr (.inl ⟨_,hS,hne.symm⟩),Zs (λ_=>⟨rfl,.inr ⟨⟨_,hS⟩,Zd3 ⟨hn,hb⟩ (λj Hx s hj=>⟨_,_,s.seqT hS,Yg (by simpa using hj)⟩) (λHx s=>⟨_,s.seqT hS,by simp⟩) ?_ (fin z)⟩⟩) λq=>absurd rfl q⟩
   rintro j v Hx Hy hj s ⟨rfl,hv⟩
   have:=hv _ (s.seqT hS)
   rw[Yy,Yg hj]at this
   cases this
   exact⟨rfl,by simp[nth,YQ,hj]⟩
theorem ZeX {f:Addr}{fd:FuncData} (F:Fun K "read_number" "read_number" ZV f fd) (T:Txt K mg):FnOk P w K mg base (CXE P w) 1 f fd ["word"] (Zaq K mg):=by
 refine F.okX Zcm (λvs H Q E h=>?_) (λcdv A outer s H vs Q E hr h=>?_)
 ·obtain⟨i,rfl,_⟩:=h;rfl
 obtain⟨i,rfl,hi,k1⟩:=h
 refine⟨_,(Zc (Zr (i:=1) Zcm.nd rfl (Or.inl rfl) (ZaN PySem.F.plainAttrs_str PySem.F.slot_str_removeprefix PySem.F.type_str_removeprefix Zk4 (pv 0) (Za Zo Zb)))
   (Zc (Zv (PW.pt (ZhI (Zi Zji (Zm ZiF rfl T.b_len Yw (Za (pv 1) Zb)) (ZM (v:=.int 60) rfl T.m_MOST_FIGURES ⟨_,rfl⟩) (Zk _)) (Zf0 (Zja (PW.pt (Zhe (ZeH (ZeN PySem.F.plainAttrs_str PySem.F.slot_str_isascii PySem.F.type_str_isascii ZjK (pv 1))) (ZfZ (ZeH (ZeN PySem.F.plainAttrs_str PySem.F.slot_str_isdigit PySem.F.type_str_isdigit ZjL (pv 1)))))))))) (Zf (Zq ZdO)) Zn)
   (Zc (Zv (PW.pt (Zhe (ZeH (ZaN PySem.F.plainAttrs_str PySem.F.slot_str_startswith PySem.F.type_str_startswith ZiG (pv 1) (Za Zo Zb))) (ZfZ (Zi ZeJ (pv 0) Zo (Zk _))))) (Zf (Zq ZdO)) Zn)
   (Zf (Zq (ZU ZiH rfl T.b_int ZdV (Za (pv 0) Zb))))))),?_⟩
 obtain⟨nl,⟨m,nf,n0,nm⟩,nv⟩:=Za4 hi
 walk_at "rd"
 have hfl:(Txt.removeprefix (numS i) (Str.ofString "-")).length<=60:=by rw[ZeA,nf];exact Zgp 59 m nm
 refine⟨rfl,Yd nl (by decide),Yd hfl (by decide),Zs (λz=>absurd z (by omega)) λ_=>⟨rfl,Zs (λ_=>⟨rfl,Zs (λz=>absurd z (by rw[ZiJ nf];simp)) λ_=>⟨rfl,Zs (λz=>Zs (λw=>absurd ?_ w) λ_=>⟨i,nv,by omega,k1⟩) λ_=>⟨i,nv,by omega,k1⟩⟩⟩) λz=>absurd (ZiI nf) z⟩⟩
 have hm:m=0:=by
  by_cases q:m=0
  ·exact q
  ·rw[Zhy nf q]at z;cases z
 rw[n0 hm]
 decide +kernel
theorem ZgZ {f:Addr}{fd:FuncData} (F:Fun K "read_row" "read_row" ZaB f fd) (ZY:Callee P w K mg base "read_number" 1 ["word"] (Zaq K mg)) (T:Txt K mg):FnOk P w K mg base (CXE P w) 2 f fd ["text"] (Zck K mg):=by
 refine F.okX Zed (λvs H Q E h=>?_) (λcdv A outer s H vs Q E hr h=>?_)
 ·obtain⟨ns,rfl,_⟩:=h;rfl
 obtain⟨ns,rfl,⟨hn,hb⟩,k1⟩:=h
 refine⟨_,(Zc (Zv (Zi ZG (pv 0) (ZM (v:=.str (Str.ofString "-")) rfl T.m_NOTHING ⟨_,rfl⟩) (Zk _)) (Zf (Zq (Zal Zb))) Zn)
   (Zc (ZgS (i:=1) ["word"] [none] Zed.nd rfl (Or.inl rfl) rfl rfl rfl (Zf1 (ZaN PySem.F.plainAttrs_str PySem.F.slot_str_split PySem.F.type_str_split ZeT (pv 0) (Za Zo Zb))) (λ_ _ _ _ _=>(ZP (i:=0) (show(["word"]:List Str).Nodup from by decide +kernel) rfl (Or.inl rfl))) (λ_ _ _ _ _=>Zbv) (λ_ _ _ _ _=>(Zg ZY (hr.mono (by decide)) rfl Zu (Za (pv 0) Zb))) Za2)
   (Zc (Zv (PW.pt (ZhI (Zi (ZeS (K:=K) rfl) ZdO (pv 1) (by with_unfolding_all rfl)) (Zf0 (Zi Zji (Zm (Zy (K:=K) rfl) rfl T.b_len Yw (Za (pv 1) Zb)) (ZM (v:=.int 40) rfl T.m_MOST_PLACES ⟨_,rfl⟩) (Zk _))))) (Zf (ZaO rfl rfl T.c_NoText T.x_NoText (Za Zo Zb) Za9)) Zn)
   (Zf (Zq (ZU (ZfG (K:=K) rfl) rfl T.b_tuple ZgL (Za (pv 1) Zb))))))),?_⟩
 walk_at "rd"
 refine Zs (λz=>?_) λz=>?_
 ·have hz:ns=[]:=by
   by_cases q:ns=[]
   ·exact q
   ·exact absurd z (Zlb q)
  subst hz
  exact⟨YG _,λp hp=>k1 p _ ((Same.refl H).upd hp) Zd⟩
 have hz:ns≠[]:=λq=>z (by rw[q];rfl)
 refine⟨rfl,by decide +kernel,Yd (Zbw ⟨hn,hb⟩) (by decide),λp hp=>?_⟩
 rw[ZhB hz]
 have g:=(Same.refl H).upd (o:=.lst ((ns.map numS).map V.str)) hp
 have hp1:=Zd (H:=H) (a:=p) (o:=.lst ((ns.map numS).map V.str))
 generalize upd H p (.lst ((ns.map numS).map V.str))=H1 at g hp1⊢
 refine⟨⟨_,SqL.of hp1⟩,comp_map (n:=ns.length) (λj=>V.int (nth ns j)) (YH (show _<=1000 by omega) (by decide)) (λj Hx s hj=>⟨_,_,SqL.of (s _ _ hp1),Yg (by simpa using hj)⟩) (λHx s=>⟨_,SqL.of (s _ _ hp1),by simp⟩) ?_ ?_⟩
 ·rintro j v Hx Hy hj s ⟨rfl,hv⟩
  have:=hv _ (SqL.of (s _ _ hp1))
  rw[Yy,Yy,Yg hj]at this
  cases this
  walk_at "rd"
  exact⟨_,rfl,hb _ (YK hj),CW.next hj (by simp[nth,YQ,hj]) s⟩
 ·intro l Hx sx hl
  have hl1:(upd Hx l (.lst ((List.range ns.length).map λj=>V.int (nth ns j)))) l=some (.lst (ns.map V.int)):=by rw[Zd,Zia V.int]
  have g1:=(g.trans sx).ZC (o:=.lst ((List.range ns.length).map λj=>V.int (nth ns j))) hl
  refine⟨l,rfl,ns.map V.int,.inl (SqL.of hl1),rfl,ZiC ns,Zs (λz=>absurd z (by rw[in_non];simp)) λ_=>⟨l,rfl,_,.inl (SqL.of hl1),Zs (λz=>absurd z (by rw[Yp];omega)) λ_=>⟨l,rfl,_,.inl ⟨SqL.of hl1,λt ht=>k1 t _ (g1.ZC ht) Zd⟩⟩⟩⟩
theorem Zd4 {f:Addr}{fd:FuncData} (F:Fun K "_law_row_text" "_law_row_text" ZJ f fd) (T:Txt K mg):FnOk P w K mg base (CXE P w) 1 f fd ["row"] (ZF K mg):=by
 refine F.okX Zd2 (λvs H Q E h=>?_) (λcdv A outer s H vs Q E hr h=>?_)
 ·obtain⟨r,ns,rfl,_⟩:=h;rfl
 obtain⟨r,ns,rfl,hS,⟨hn,hb⟩,k1⟩:=h
 refine⟨_,(Zf (Zq (Zl ZbD (ZaN PySem.F.plainAttrs_str PySem.F.slot_str_join PySem.F.type_str_join (Zh5 (K:=K) rfl) Zo (Za (Zdu ["number"] [none] rfl rfl rfl (Zf1 (pv 0)) (λ_ _ _ _ _=>(ZP (i:=0) (show(["number"]:List Str).Nodup from by decide +kernel) rfl (Or.inl rfl))) (λ_ _ _ _ _=>Zbv) (λ_ _ _ _ _=>(ZU ZfK rfl T.b_str ZjJ (Za (pv 0) Zb))) Za2) Zb)) (Zl Zk3 Zo (ZU ZcI rfl T.b_int ZdV (Za (ZaV ZG (Zm (Zy (K:=K) rfl) rfl T.b_len Yw (Za (pv 0) Zb)) Ze (Zk _)) Zb)))))),?_⟩
 walk_at "rd"
 refine⟨rfl,⟨_,hS⟩,Zd3 ⟨hn,hb⟩ (λj Hx s hj=>⟨_,_,s.seq hS,Yg (by simpa using hj)⟩) (λHx s=>⟨_,s.seq hS,by simp⟩) ?_ ?_⟩
 ·rintro j v Hx Hy hj s ⟨rfl,hv⟩
  have:=hv _ (s.seq hS)
  rw[Yy,Yg hj]at this
  cases this
  exact⟨rfl,by simp[nth,YQ,hj]⟩
 ·intro l H' s hl
  have hlen:=Zbw ⟨hn,hb⟩
  refine⟨l,rfl,_,SqL.of hl,Zib ⟨hn,hb⟩,_,.inl (s.seq hS),by split<;>omega,by split<;>omega,by decide +kernel,?_⟩
  rw[Yp]
  by_cases z:ns=[]
  ·subst z
   have e:Txt.join (Str.ofString " ") (List.map numS [])++Txt.mul (Str.ofString "-") 1=Zax []:=by decide +kernel
   refine⟨by decide +kernel,?_⟩
   rw[show(if (([]:List Int).length:Int)=0 then (1:Int)else 0)=1 from rfl,e]
   exact k1 H' s
  ·have h0:¬ ((ns.length:Int)=0):=λq=>z (List.length_eq_zero_iff.mp (by omega))
   rw[Yb h0,ZfN z,show Txt.mul (Str.ofString "-") 0=Str.empty by decide +kernel,Str.append_empty]
   exact⟨Yd (show _<=100000 by have:(Str.empty).length=0:=rfl;omega) (by decide),k1 H' s⟩
theorem Zgs:(Str.ofString " ")=(⟨#[32]⟩:Str):=by decide +kernel
theorem Zic:(Str.ofString "")=Str.empty:=by decide +kernel
theorem ZcK (a b:Str):cds (a++b)=cds a++cds b:=by
 show(a++b).cps.toList=_
 rw[Str.cps_append,Array.toList_append]
theorem Zlc {w r:Str} (h:32∉cds w):Txt.partition (w++⟨#[32]⟩++r) ⟨#[32]⟩=(w,⟨#[32]⟩,r):=by
 generalize hx:w++⟨#[32]⟩++r=x
 have hc:cds x=cds w++32::cds r:=by
  rw[<-hx,ZcK,ZcK]
  simp[cds]
 have h32:(32:Nat)∈x.cps.toList:=by
  show 32∈cds x
  rw[hc];simp
 have hf:=StrLaws.found_one x 32
 rw[YC h32]at hf
 have hs:=StrLaws.partition_sum x ⟨#[32]⟩
 have hh:=PyProof.Rows.partition_head x ⟨#[32]⟩
 have e2:(Txt.partition x ⟨#[32]⟩).2.1=⟨#[32]⟩:=by
  unfold Txt.partition
  cases ho:Builtin.Str.occurrences x ⟨#[32]⟩ 0 x.length 1 with
  |nil=>rw[ho]at hf;cases hf
  |cons i q=>rfl
 have e1:32∉cds (Txt.partition x ⟨#[32]⟩).1:=by
  rcases hh with⟨_,hn⟩|⟨i,ei,_,hn⟩
  ·obtain⟨j,hj,ej⟩:=YY h32
   exfalso
   exact hn j ((StrLaws.subAt_one x 32 j).mpr (show(cds x)[j]?=some 32 from Yt.mpr ⟨hj,ej⟩))
  ·rw[ei]
   intro hm
   have hm:32∈(x.cps.extract 0 i).toList:=hm
   rw[Array.toList_extract]at hm
   obtain⟨j,hj,ej⟩:=YY hm
   have hj2:=hj
   simp at hj
   simp at ej
   exact hn j (by omega) ((StrLaws.subAt_one x 32 j).mpr (show(cds x)[j]?=some 32 from Yt.mpr ⟨by show j<x.cps.toList.length;simp;omega,by simpa using ej⟩))
 have hs2:=congrArg cds hs
 rw[ZcK,ZcK,e2,hc,show cds (⟨#[32]⟩:Str)=[32]from rfl,YO]at hs2
 obtain⟨a1,a2⟩:=Zgn e1 h hs2
 exact Prod.ext (Zez a1) (Prod.ext e2 (Zez a2))
noncomputable def Deed.pieces:Deed->List Str
 |.row ns=>if ns=[]then [Str.ofString "-"]else ns.map numS
 |.ahead i=>[numS i]
 |.behind i=>[numS i]
 |.offA=>["ahead"]
 |.offB=>["behind"]
theorem ZiN (i:Int):0<(cds (numS i)).length:=by
 cases i with
 |ofNat m =>
  rw[show cds (numS (Int.ofNat m))=dg m from ZeU m]
  exact List.length_pos_iff.mpr (ZgT m)
 |negSucc m=>rw[ZeV];simp
theorem Zee (d:Deed):Str.join ⟨#[32]⟩ d.pieces=d.rest:=by
 cases d with
 |row ns =>
  show Str.join ⟨#[32]⟩ (if ns=[]then [Str.ofString "-"]else ns.map numS)=Zax ns
  unfold Zax
  by_cases h:ns=[]
  ·rw[Ye h,Ye h];rfl
  ·rw[Yb h,Yb h]
 |_=>rfl
theorem ZcL (d:Deed):d.pieces≠[]/\∀x∈d.pieces,32∉cds x/\x≠Str.empty:=by
 have num:∀i,32∉cds (numS i)/\numS i≠Str.empty:=λi=>⟨ZdY i,λe=>by
  have:=ZiN i
  rw[e]at this
  exact absurd this (by decide)⟩
 cases d with
 |row ns =>
  show(if ns=[]then [Str.ofString "-"]else ns.map numS)≠[]/\∀x∈(if ns=[]then [Str.ofString "-"]else ns.map numS),_
  by_cases h:ns=[]
  ·rw[Ye h]
   exact⟨by simp,λx hx=>by rw[Yv.mp hx];decide +kernel⟩
  ·rw[Yb h]
   exact⟨by simp[h],λx hx=>by obtain⟨i,_,rfl⟩:=YD.mp hx;exact num i⟩
 |ahead i=>exact⟨by simp[Deed.pieces],λx hx=>by rw[Yv.mp hx];exact num i⟩
 |behind i=>exact⟨by simp[Deed.pieces],λx hx=>by rw[Yv.mp hx];exact num i⟩
 |offA=>exact⟨by simp[Deed.pieces],λx hx=>by rw[Yv.mp hx];decide +kernel⟩
 |offB=>exact⟨by simp[Deed.pieces],λx hx=>by rw[Yv.mp hx];decide +kernel⟩
theorem ZeF (d:Deed):(32∉cds d.word/\d.word≠Str.empty)/\d.word.length<=10:=match d with
 |.row _=>(show(32∉cds (Str.ofString "row")/\Str.ofString "row"≠Str.empty)/\(Str.ofString "row").length<=10 by decide +kernel)
 |.ahead _=>(show(32∉cds (Str.ofString "ahead")/\Str.ofString "ahead"≠Str.empty)/\(Str.ofString "ahead").length<=10 by decide +kernel)
 |.behind _=>(show(32∉cds (Str.ofString "behind")/\Str.ofString "behind"≠Str.empty)/\(Str.ofString "behind").length<=10 by decide +kernel)
 |.offA=>(show(32∉cds (Str.ofString "off")/\Str.ofString "off"≠Str.empty)/\(Str.ofString "off").length<=10 by decide +kernel)
 |.offB=>(show(32∉cds (Str.ofString "off")/\Str.ofString "off"≠Str.empty)/\(Str.ofString "off").length<=10 by decide +kernel)
theorem ZiO (d:Deed):d.line=Str.join ⟨#[32]⟩ (d.word::d.pieces):=by
 have h:=Zee d
 obtain⟨h0,_⟩:=ZcL d
 unfold Deed.line
 rw[<-h]
 cases e:d.pieces with
 |nil=>exact absurd e h0
 |cons p q=>rfl
theorem ZhC (d:Deed):Str.empty∉Txt.split d.line ⟨#[32]⟩:=by
 rw[ZiO,Zc1 (by simp) λx hx=>by
  rcases Yj.mp hx with rfl|hx
  ·exact(ZeF d).1.1
  ·exact((ZcL d).2 x hx).1]
 intro hm
 rcases Yj.mp hm with e|hm
 ·exact(ZeF d).1.2 e.symm
 ·exact((ZcL d).2 _ hm).2 rfl
theorem ZiP (d:Deed):Txt.partition d.line ⟨#[32]⟩=(d.word,⟨#[32]⟩,d.rest):=Zlc (ZeF d).1.1
theorem ZjS (d:Deed):32∈cds d.line:=by
 unfold Deed.line
 rw[ZcK,ZcK];simp[cds]
theorem ZdA (d:Deed) {s:Str} (h:32∉cds s):d.line≠s:=λe=>h (e▸ZjS d)
theorem ZjT {d:Deed} (h:d.Ok):d.rest.length<=10000:=by
 cases d with
 |row ns=>exact Zbw h
 |ahead i=>exact Yd (Za4 h).len (by decide)
 |behind i=>exact Yd (Za4 h).len (by decide)
 |_=>decide +kernel
theorem ZjU {d:Deed} (h:d.Ok):d.line.length<=100000:=by
 have h1:=ZjT h
 have h2:d.word.length<=10:=(ZeF d).2
 unfold Deed.line
 rw[PySem.strLen_append,PySem.strLen_append,show(⟨#[32]⟩:Str).length=1 from rfl]
 omega
theorem ZjV (ns:List Int):Zax ns≠Str.empty:=by
 have h:=Zee (.row ns)
 obtain⟨h0,h1⟩:=ZcL (.row ns)
 intro e
 have h2:Str.join ⟨#[32]⟩ (Deed.pieces (.row ns))=Str.empty:=h.trans e
 cases hp:Deed.pieces (.row ns)with
 |nil=>exact h0 hp
 |cons p q =>
  rw[hp]at h2
  have hz:cds p=[]:=by
   have:=congrArg cds h2
   rw[Zch]at this
   cases q with
   |nil=>exact this
   |cons a b=>exact absurd this (by show cds p++32::_≠[];simp)
  exact(h1 p (by rw[hp];simp)).2 (Zez hz)
theorem Zgt {d:Deed}{ns r:List Int} (hd:d.Ok) (hn:Few ns) (h:d.on ns=some r):Few r:=by
 cases d with
 |row ms=>cases h;exact hd
 |ahead i =>
  simp only[Deed.on]at h
  split at h
  ·cases h
   exact⟨by simp;omega,λx hx=>(Yj.mp hx).elim (λe=>e▸hd) (hn.2 x)⟩
  ·cases h
 |behind i =>
  simp only[Deed.on]at h
  split at h
  ·cases h
   exact⟨by simp;omega,λx hx=>(Ys.mp hx).elim (hn.2 x) λe=>(Yv.mp e)▸hd⟩
  ·cases h
 |offA =>
  simp only[Deed.on]at h
  split at h
  ·cases h
  ·cases h
   exact⟨by simp;have:=hn.1;omega,λx hx=>hn.2 x (List.mem_of_mem_drop hx)⟩
 |offB =>
  simp only[Deed.on]at h
  split at h
  ·cases h
  ·cases h
   exact⟨by simp;have:=hn.1;omega,λx hx=>hn.2 x (List.dropLast_subset _ hx)⟩
theorem ZiQ {H:Hp}{l:Addr}{rs:List (List Int)}{xs:List V} (h:TupsAt H l rs) (e:H l=some (.lst xs)):TupsAt (upd H l (.lst xs.dropLast)) l rs.dropLast:=by
 obtain⟨as,e1,h1,h2⟩:=h
 rw[e]at e1
 cases e1
 refine⟨as.dropLast,by rw[Zd,List.map_dropLast],by simp[h1],λi i1 i2=>?_⟩
 simp at i1 i2
 rw[List.getElem_dropLast,List.getElem_dropLast]
 have:=h2 i (by omega) (by omega)
 rw[Zj (λz=>by rw[z,e]at this;cases this)]
 exact this
theorem ZdB {rs:List (List Int)} (h:0<rs.length):rs[rs.length-1]?=some (Zah rs):=by
 unfold Zah
 rw[List.getLastD_eq_getLast?,List.getLast?_eq_getElem?,Yg (by omega)];rfl
theorem ZfO {H:Hp}{l:Addr}{rs:List (List Int)} (h:TupsAt H l rs) (h0:0<rs.length):∃xs a,H l=some (.lst xs)/\xs.length=rs.length/\atI xs (-1)=some (.ref a)/\xs[xs.length-1]?=some (.ref a)/\H a=some (.tup ((Zah rs).map V.int)):=by
 obtain⟨as,e1,h1,h2⟩:=h
 have e:=ZdB h0
 rw[Yg (by omega)]at e
 have e:=Yq e
 have e9:(as.map V.ref)[(as.map V.ref).length-1]?=some (V.ref (as[rs.length-1]'(by omega))):=by
  have e8:(as.map V.ref).length-1=rs.length-1:=by simp[h1]
  rw[e8,Yy,Yg (by omega)];rfl
 exact⟨_,as[rs.length-1]'(by omega),e1,by simp[h1],ZgO (by rw[List.getLast?_eq_getElem?];exact e9),e9,by rw[<-e];exact h2 _ (by omega) (by omega)⟩
theorem ZjW (d:Deed):d.word∉[Str.ofString "kin",Str.ofString "seek",Str.ofString "holds"]/\d.word∉[Str.ofString "near",Str.ofString "stay"]/\¬ d.word=Str.ofString "low":=match d with
 |.row _=>(show Str.ofString "row"∉[Str.ofString "kin",Str.ofString "seek",Str.ofString "holds"]/\Str.ofString "row"∉[Str.ofString "near",Str.ofString "stay"]/\¬ Str.ofString "row"=Str.ofString "low" by decide +kernel)
 |.ahead _=>(show Str.ofString "ahead"∉[Str.ofString "kin",Str.ofString "seek",Str.ofString "holds"]/\Str.ofString "ahead"∉[Str.ofString "near",Str.ofString "stay"]/\¬ Str.ofString "ahead"=Str.ofString "low" by decide +kernel)
 |.behind _=>(show Str.ofString "behind"∉[Str.ofString "kin",Str.ofString "seek",Str.ofString "holds"]/\Str.ofString "behind"∉[Str.ofString "near",Str.ofString "stay"]/\¬ Str.ofString "behind"=Str.ofString "low" by decide +kernel)
 |.offA=>(show Str.ofString "off"∉[Str.ofString "kin",Str.ofString "seek",Str.ofString "holds"]/\Str.ofString "off"∉[Str.ofString "near",Str.ofString "stay"]/\¬ Str.ofString "off"=Str.ofString "low" by decide +kernel)
 |.offB=>(show Str.ofString "off"∉[Str.ofString "kin",Str.ofString "seek",Str.ofString "holds"]/\Str.ofString "off"∉[Str.ofString "near",Str.ofString "stay"]/\¬ Str.ofString "off"=Str.ofString "low" by decide +kernel)
theorem ok_need_numbers {f:Addr}{fd:FuncData}{dV:Value} (F:FunD K "need_numbers" "need_numbers" s_need_numbers f fd dV) (T:Txt K mg):FnOk P w K mg base (CXE P w) 1 f fd ["row","fewest"] (sp_need_numbers K mg):=by
 refine F.okX sc_need_numbers (λvs H Q E h=>?_) (λcdv A outer s H vs Q E hr h=>?_)
 ·obtain⟨r,ns,k,rfl,_⟩:=h;rfl
 obtain⟨r,ns,k,rfl,hS,hn,h0,h1,k1,k2⟩:=h
 refine⟨_,(Zf (Zv (Zi ZhO (Zm (Zy (K:=K) rfl) rfl T.b_len Yw (Za (pv 0) Zb)) (pv 1) (Zk _)) (Zf (ZaO rfl rfl T.c_Empty T.x_Empty (Za (ZdU (ZbE (by decide) (Zgf (Zm (Zy (K:=K) rfl) rfl T.b_len Yw (Za (pv 0) Zb)) (ZbE (by decide) (Zgf (pv 1) (ZbE (by decide) Zhu)))))) Zb) Za9)) Zn)),?_⟩
 walk_at "rd"
 have eN:(ns.map V.int).length=ns.length:=Yp ..
 exact⟨_,hS,Zs (λz=>⟨_,hS,by omega,by rw[eN];omega,h0,by omega,λy=>⟨by decide,k2 (by rw[eN]at z;exact z)⟩⟩) λz=>k1 (by rw[eN]at z;omega)⟩
theorem Zg0 {f:Addr}{fd:FuncData} (F:Fun K "tell_row" "tell_row" ZaC f fd) (Zc3:Callee P w K mg base "row_text" 1 ["row"] (Zcj K mg)) (T:Txt K mg):FnOk P w K mg base (CXE P w) 2 f fd ["row"] (Zcl K mg):=by
 refine F.okX ZgW (λvs H Q E h=>?_) (λcdv A outer s H vs Q E hr h=>?_)
 ·obtain⟨r,ns,rfl,_⟩:=h;rfl
 obtain⟨r,ns,rfl,h1,h2,k1⟩:=h
 refine⟨_,(Zf (Zq (Zg Zc3 (hr.mono (by decide)) rfl Zu (Za (pv 0) Zb)))),?_⟩
 walk_at "rd"
 exact⟨r,ns,rfl,.inr (SqT.of h1),h2,k1⟩
theorem Zfo {f:Addr}{fd:FuncData} (F:Fun K "need_words" "need_words" Z4 f fd) (T:Txt K mg):FnOk P w K mg base (CXE P w) 1 f fd ["line"] (Zbl K mg):=by
 refine F.okX Zfl (λvs H Q E h=>?_) (λcdv A outer s H vs Q E hr h=>?_)
 ·obtain⟨t,rfl,_⟩:=h;rfl
 obtain⟨t,rfl,h1,h2,k1⟩:=h
 refine⟨_,(Zf (Zv (Zi (ZeS (K:=K) rfl) Zo (ZaN PySem.F.plainAttrs_str PySem.F.slot_str_split PySem.F.type_str_split ZeT (pv 0) (Za Zo Zb)) (by with_unfolding_all rfl)) (Zf (ZaO rfl rfl T.c_NoLine T.x_NoLine (Za Zo Zb) Za9)) Zn)),?_⟩
 walk_at "rd"
 rw[Zgs,Zic]
 refine⟨rfl,rfl,h1,λp zp=>⟨_,.inl (SqL.of Zd),rfl,ZiM _,Zs (λz=>absurd ?_ h2) λ_=>k1 _ ((Same.refl H).upd zp)⟩⟩
 rw[Zla]at z
 exact of_decide_eq_true z
theorem ZdC {f:Addr}{fd:FuncData} (F:Fun K "numbers_behind" "numbers_behind" ZE f fd) (ZY:Callee P w K mg base "read_number" 1 ["word"] (Zaq K mg)) (T:Txt K mg):FnOk P w K mg base (CXE P w) 2 f fd ["rest","many"] (Zar K mg):=by
 refine F.okX Zbb (λvs H Q E h=>?_) (λcdv A outer s H vs Q E hr h=>?_)
 ·obtain⟨i,rfl,_⟩:=h;rfl
 obtain⟨i,rfl,h1,k1⟩:=h
 refine⟨_,(Zc (ZgS (i:=2) ["word"] [none] Zbb.nd rfl (Or.inl rfl) rfl rfl rfl (Zf1 (ZaN PySem.F.plainAttrs_str PySem.F.slot_str_split PySem.F.type_str_split ZeT (pv 0) (Za Zo Zb))) (λ_ _ _ _ _=>(ZP (i:=0) (show(["word"]:List Str).Nodup from by decide +kernel) rfl (Or.inl rfl))) (λ_ _ _ _ _=>Zbv) (λ_ _ _ _ _=>(Zg ZY (hr.mono (by decide)) rfl Zu (Za (pv 0) Zb))) Za2)
   (Zc (Zv (PW.pt (ZhI (Zi ZeJ (Zm (Zy (K:=K) rfl) rfl T.b_len Yw (Za (pv 2) Zb)) (pv 1) (Zk _)) (Zf0 (Zi (ZeS (K:=K) rfl) ZdO (pv 2) (by with_unfolding_all rfl))))) (Zf (ZaO rfl rfl T.c_NoLine T.x_NoLine (Za (ZdU (ZbE (by decide) (Zgf (pv 1) (ZbE (by decide) Zhu)))) Zb) Za9)) Zn)
   (Zf (Zq (pv 2))))),?_⟩
 have es:Txt.split (numS i) ⟨#[32]⟩=[numS i]:=Zc1 (ss:=[numS i]) (by simp) λx hx=>by rw[Yv.mp hx];exact ZdY i
 walk_at "rd"
 rw[Zgs,es]
 refine⟨rfl,rfl,Yd (Za4 h1).len (by decide),λp zp=>?_⟩
 have g:=(Same.refl H).upd (o:=.lst ([numS i].map V.str)) zp
 have hp:=Zd (H:=H) (a:=p) (o:=.lst ([numS i].map V.str))
 generalize upd H p (.lst ([numS i].map V.str))=H1 at g hp⊢
 refine⟨⟨_,SqL.of hp⟩,comp_map (n:=1) (λ_=>V.int i) (by decide) (λj Hx s hj=>⟨_,_,SqL.of (s _ _ hp),Yg (by simpa using hj)⟩) (λHx s=>⟨_,SqL.of (s _ _ hp),by simp⟩) ?_ ?_⟩
 ·rintro j v Hx Hy hj s ⟨rfl,hv⟩
  have:=hv _ (SqL.of (s _ _ hp))
  have ej:j=0:=by omega
  subst ej
  cases this
  walk_at "rd"
  exact⟨i,rfl,h1,CW.next hj rfl s⟩
 ·intro l Hx sx hl
  have hl1:=Zd (H:=Hx) (a:=l) (o:=.lst [V.int i])
  have g1:=(g.trans sx).ZC (o:=.lst [V.int i]) hl
  exact⟨l,rfl,[V.int i],.inl (SqL.of hl1),Zs (λz=>absurd rfl z) λ_=>⟨l,rfl,_,.inl (SqL.of hl1),rfl,rfl,Zs (λz=>nomatch z) λ_=>k1 l _ g1 hl1⟩⟩
theorem Zfp {f:Addr}{fd:FuncData} (F:Fun K "row_behind" "row_behind" Z5 f fd) (Zc4:Callee P w K mg base "read_row" 2 ["text"] (Zck K mg)) (T:Txt K mg):FnOk P w K mg base (CXE P w) 3 f fd ["rest"] (Zbm K mg):=by
 refine F.okX Zfm (λvs H Q E h=>?_) (λcdv A outer s H vs Q E hr h=>?_)
 ·obtain⟨ns,rfl,_⟩:=h;rfl
 obtain⟨ns,rfl,h1,k1⟩:=h
 refine⟨_,(Zc (Zv (Zi ZG (pv 0) Zo (Zk _)) (Zf (ZaO rfl rfl T.c_NoLine T.x_NoLine (Za Zo Zb) Za9)) Zn)
   (Zf (Zq (Zg Zc4 (hr.mono (by decide)) rfl Zao (Za (pv 0) Zb))))),?_⟩
 walk_at "rd"
 rw[Zic]
 exact Zs (λz=>absurd z (ZjV ns)) λ_=>⟨ns,rfl,h1,k1⟩
theorem Zgu {f:Addr}{fd:FuncData} (F:Fun K "need_room" "need_room" Zad f fd) (T:Txt K mg):FnOk P w K mg base (CXE P w) 1 f fd ["row"] (ZbH K mg):=by
 refine F.okX Zgr (λvs H Q E h=>?_) (λcdv A outer s H vs Q E hr h=>?_)
 ·obtain⟨r,ns,rfl,_⟩:=h;rfl
 obtain⟨r,ns,rfl,hS,hn,k1,k2⟩:=h
 refine⟨_,(Zf (Zv (Zi op_ge (Zm (Zy (K:=K) rfl) rfl T.b_len Yw (Za (pv 0) Zb)) (ZM (v:=.int 40) rfl T.m_MOST_PLACES ⟨_,rfl⟩) (Zk _)) (Zf (ZaO rfl rfl T.c_TooMany T.x_TooMany (Za (ZdU (ZbE (by decide) (Zgf (Zm (Zy (K:=K) rfl) rfl T.b_len Yw (Za (pv 0) Zb)) (ZbE (by decide) Zhu)))) Zb) Za9)) Zn)),?_⟩
 have eN:(ns.map V.int).length=ns.length:=Yp ..
 walk_at "rd"
 exact⟨_,.inr (SqT.of hS),Zs (λz=>⟨_,.inr (SqT.of hS),by omega,by rw[eN];omega,λy=>⟨by decide,k2 (by rw[eN]at z;omega)⟩⟩) λz=>k1 (by rw[eN]at z;omega)⟩
theorem ZeY {f:Addr}{fd:FuncData} (F:Fun K "row_by_deed" "row_by_deed" ZW f fd) (ZaR:Zgl P w K mg base "need_numbers" 1 ["row","fewest"] [V.int 1] (sp_need_numbers K mg)) (Zco:Callee P w K mg base "need_room" 1 ["row"] (ZbH K mg)) (ZaG:Callee P w K mg base "numbers_behind" 2 ["rest","many"] (Zar K mg)) (ZbL:Callee P w K mg base "row_behind" 3 ["rest"] (Zbm K mg)) (T:Txt K mg):FnOk P w K mg base (CXE P w) 4 f fd ["row","word","rest"] (Za6 K mg):=by
 refine F.okX Zcn (λvs H Q E h=>?_) (λcdv A outer s H vs Q E hr h=>?_)
 ·obtain⟨r,ns,d,rfl,_⟩:=h;rfl
 obtain⟨r,ns,d,rfl,h1,h2,h3,k1,k2⟩:=h
 refine⟨_,(Zc (Zv (Zi ZG (pv 1) Zo (Zk _)) (Zf (Zq (Zg ZbL (hr.mono (by decide)) rfl Zao (Za (pv 2) Zb)))) Zn)
   (Zc (Zv (Zi (ZeS (K:=K) rfl) (pv 1) (Zal (Za Zo (Za Zo Zb))) (by with_unfolding_all rfl)) (Zc (Zr (i:=3) Zcn.nd rfl (Or.inl rfl) (ZU (ZfG (K:=K) rfl) rfl T.b_tuple ZgL (Za (Zg ZaG (hr.mono (by decide)) rfl Zao (Za (pv 2) (Za Ze Zb))) Zb)))
   (Zc (ZN (Zg Zco (hr.mono (by decide)) rfl Zao (Za (pv 0) Zb)))
   (Zf (Zq (ZeI (Zi ZG (pv 1) Zo (Zk _)) (Zl Zh7 (pv 3) (pv 0)) (Zl Zh7 (pv 0) (pv 3))))))) Zn)
   (Zc (Zv (PW.pt (Zhe (Zi ZG (pv 1) Zo (Zk _)) (ZfZ (Zi (ZeS (K:=K) rfl) (pv 2) (Zal (Za Zo (Za Zo Zb))) (by with_unfolding_all rfl))))) (Zc (ZN (ZiE ZaR (hr.mono (by decide)) rfl Zao (Za (pv 0) Zb)))
   (Zf (Zq (ZeI (Zi ZG (pv 2) Zo (Zk _)) (Zdq (sl_v (K:=K) rfl) (pv 0) (Zey Ze) Zex) (Zdq (sl_v (K:=K) rfl) (pv 0) Zex (Zey (ZcP Zbi Ze))))))) Zn)
   (Zf (ZaO rfl rfl T.c_NoLine T.x_NoLine (Za Zo Zb) Za9))))),?_⟩
 have hn:=h2.1
 walk_at "rd"
 cases d with
 |row ms=>exact Zs (λ_=>⟨ms,rfl,h3,λt H' s ht=>k1 _ t H' rfl s ht⟩) λz=>absurd rfl z
 |ahead i =>
  refine Zs (λz=>absurd z (show ¬ (Str.ofString "ahead"=Str.ofString "row") by decide +kernel)) λ_=>⟨by decide,λp zp=>⟨_,.inr (SqT.of Zd),rfl,rfl,Zs (λ_=>⟨i,rfl,h3,λl H1 s1 hl=>⟨l,rfl,[V.int i],.inl ⟨SqL.of hl,λq zq=>?_⟩⟩⟩) λz=>absurd (show inV (V.str (Str.ofString "ahead")) [V.str (Str.ofString "ahead"),V.str (Str.ofString "behind")]=true by decide +kernel) z⟩⟩
  have s2:=(((Same.refl H).upd zp).trans s1).ZC (o:=.tup [V.int i]) zq
  have hq:=Zd (H:=H1) (a:=q) (o:=.tup [V.int i])
  generalize upd H1 q (.tup [V.int i])=H2 at s2 hq⊢
  refine⟨r,ns,rfl,s2 _ _ h1,by omega,λhl=>Zs (λ_=>⟨_,hq,_,s2 _ _ h1,Yd (show _<=1000 by simp;omega) (by decide),λt H3 s3 ht=>k1 (i::ns) t H3 ?_ (s2.trans s3) ht⟩) λz=>absurd rfl z,λhl=>k2 ?_ _ s2⟩
  ·show(if ns.length<40 then _ else _)=_
   rw[Ye hl]
  ·show(if ns.length<40 then _ else _)=_
   rw[Yb (by omega)]
 |behind i =>
  refine Zs (λz=>absurd z (show ¬ (Str.ofString "behind"=Str.ofString "row") by decide +kernel)) λ_=>⟨by decide,λp zp=>⟨_,.inr (SqT.of Zd),rfl,rfl,Zs (λ_=>⟨i,rfl,h3,λl H1 s1 hl=>⟨l,rfl,[V.int i],.inl ⟨SqL.of hl,λq zq=>?_⟩⟩⟩) λz=>absurd (show inV (V.str (Str.ofString "behind")) [V.str (Str.ofString "ahead"),V.str (Str.ofString "behind")]=true by decide +kernel) z⟩⟩
  have s2:=(((Same.refl H).upd zp).trans s1).ZC (o:=.tup [V.int i]) zq
  have hq:=Zd (H:=H1) (a:=q) (o:=.tup [V.int i])
  generalize upd H1 q (.tup [V.int i])=H2 at s2 hq⊢
  refine⟨r,ns,rfl,s2 _ _ h1,by omega,λhl=>Zs (λz=>absurd z (show ¬ (Str.ofString "behind"=Str.ofString "ahead") by decide +kernel)) λ_=>⟨_,s2 _ _ h1,_,hq,Yd (show _<=1000 by simp;omega) (by decide),λt H3 s3 ht=>k1 (ns++[i]) t H3 ?_ (s2.trans s3) (by rw[ht];simp)⟩,λhl=>k2 ?_ _ s2⟩
  ·show(if ns.length<40 then _ else _)=_
   rw[Ye hl]
  ·show(if ns.length<40 then _ else _)=_
   rw[Yb (by omega)]
 |offA =>
  refine Zs (λz=>absurd z (show ¬ (Str.ofString "off"=Str.ofString "row") by decide +kernel)) λ_=>⟨by decide,λp zp=>⟨_,.inr (SqT.of Zd),rfl,rfl,Zs (λz=>absurd z (show ¬ (inV (V.str (Str.ofString "off")) [V.str (Str.ofString "ahead"),V.str (Str.ofString "behind")]=true) by decide +kernel)) λ_=>Zs (λ_=>⟨by decide,λp1 z1=>⟨_,.inr (SqT.of Zd),rfl,rfl,Zs (λ_=>?_) λz=>absurd (show inV (V.str (Str.ofString "ahead")) [V.str (Str.ofString "ahead"),V.str (Str.ofString "behind")]=true by decide +kernel) z⟩⟩) λz=>absurd rfl z⟩⟩
  have s2:=((Same.refl H).upd (o:=.tup [V.str (Str.ofString "ahead"),V.str (Str.ofString "behind")]) zp).ZC (o:=.tup [V.str (Str.ofString "ahead"),V.str (Str.ofString "behind")]) z1
  generalize upd (upd H p (.tup [V.str (Str.ofString "ahead"),V.str (Str.ofString "behind")])) p1 (.tup [V.str (Str.ofString "ahead"),V.str (Str.ofString "behind")])=H2 at s2⊢
  refine⟨r,ns,1,rfl,.inr (SqT.of (s2 _ _ h1)),by omega,by decide,by decide,λhl=>Zs (λ_=>⟨_,s2 _ _ h1,λt H3 s3 ht=>k1 (ns.drop 1) t H3 ?_ (s2.trans s3) ?_⟩) λz=>absurd rfl z,λhl=>k2 ?_ _ s2⟩
  ·show(if ns.length=0 then _ else _)=_
   rw[Yb (by omega)]
  ·rw[ht]
   congr 2
   cases ns with
   |nil=>rfl
   |cons x q=>unfold Zcb;simp[HT.sIx];exact List.take_of_length_le (by simp)
  ·show(if ns.length=0 then _ else _)=_
   rw[Ye (by omega)]
 |offB =>
  refine Zs (λz=>absurd z (show ¬ (Str.ofString "off"=Str.ofString "row") by decide +kernel)) λ_=>⟨by decide,λp zp=>⟨_,.inr (SqT.of Zd),rfl,rfl,Zs (λz=>absurd z (show ¬ (inV (V.str (Str.ofString "off")) [V.str (Str.ofString "ahead"),V.str (Str.ofString "behind")]=true) by decide +kernel)) λ_=>Zs (λ_=>⟨by decide,λp1 z1=>⟨_,.inr (SqT.of Zd),rfl,rfl,Zs (λ_=>?_) λz=>absurd (show inV (V.str (Str.ofString "behind")) [V.str (Str.ofString "ahead"),V.str (Str.ofString "behind")]=true by decide +kernel) z⟩⟩) λz=>absurd rfl z⟩⟩
  have s2:=((Same.refl H).upd (o:=.tup [V.str (Str.ofString "ahead"),V.str (Str.ofString "behind")]) zp).ZC (o:=.tup [V.str (Str.ofString "ahead"),V.str (Str.ofString "behind")]) z1
  generalize upd (upd H p (.tup [V.str (Str.ofString "ahead"),V.str (Str.ofString "behind")])) p1 (.tup [V.str (Str.ofString "ahead"),V.str (Str.ofString "behind")])=H2 at s2⊢
  refine⟨r,ns,1,rfl,.inr (SqT.of (s2 _ _ h1)),by omega,by decide,by decide,λhl=>Zs (λz=>absurd z (show ¬ (Str.ofString "behind"=Str.ofString "ahead") by decide +kernel)) λ_=>⟨_,s2 _ _ h1,λt H3 s3 ht=>k1 ns.dropLast t H3 ?_ (s2.trans s3) (by rw[ht,ZgU _ (by omega)])⟩,λhl=>k2 ?_ _ s2⟩
  ·show(if ns.length=0 then _ else _)=_
   rw[Yb (by omega)]
  ·show(if ns.length=0 then _ else _)=_
   rw[Ye (by omega)]
theorem Zd5 {f:Addr}{fd:FuncData} (F:Fun K "__init__" "Desk.__init__" ZI f fd) (T:Txt K mg):FnOk P w K mg base (CXE P w) 1 f fd ["self"] (ZaF K mg):=by
 refine F.okX Zd1 (λvs H Q E h=>?_) (λcdv A outer s H vs Q E hr h=>?_)
 ·obtain⟨x,dx,rfl,_⟩:=h;rfl
 obtain⟨x,dx,rfl,h1,k1⟩:=h
 refine⟨_,(Zf (Zk5 (K:=K) rfl T.cl_Desk T.n_Desk_rows (pv 0) (Z0 (Za (Zal Zb) Zb)))),?_⟩
 walk_at "rd"
 refine⟨by decide,λp zp=>⟨by decide,λl zl=>?_⟩⟩
 have g1:=(Same.refl H).upd (o:=.tup []) zp
 have s2:=g1.ZC (o:=.lst [V.ref p]) zl
 have hp:=((Same.refl _).upd (o:=.lst [V.ref p]) zl) _ _ (Zd (H:=H) (a:=p) (o:=.tup []))
 have hl:=Zd (H:=upd H p (.tup [])) (a:=l) (o:=.lst [V.ref p])
 have zlH:=g1.free zl
 generalize upd (upd H p (.tup [])) l (.lst [V.ref p])=H2 at s2 hp hl⊢
 have nx:∀{b:Addr},H b=none->b≠x:=λe z=>by rw[z,h1]at e;cases e
 refine⟨dx,[],s2 _ _ h1,by decide,k1 l _ zlH (s2.ZgN.trans Exc.upd) ⟨dx,_,Zd,rfl,rfl,rfl,[p],?_,rfl,λi i1 i2=>?_⟩⟩
 ·rw[Zj (nx zlH)];exact hl
 ·have:i=0:=by simp at i1;omega
  subst this
  show upd H2 x _ p=_
  rw[Zj (nx zp)];exact hp
theorem Zes {f:Addr}{fd:FuncData} (F:Fun K "go_back" "Desk.go_back" ZQ f fd) (T:Txt K mg):FnOk P w K mg base (CXE P w) 1 f fd ["self"] (ZaQ K mg):=by
 refine F.okX Zer (λvs H Q E h=>?_) (λcdv A outer s H vs Q E hr h=>?_)
 ·obtain⟨x,l,rs,rfl,_⟩:=h;rfl
 obtain⟨x,l,rs,rfl,⟨dx,fs,hx,l1,l2,l3,ht⟩,h2,h3,k1,k2⟩:=h
 refine⟨_,(Zc (Zv (Zi ZG (Zm (Zy (K:=K) rfl) rfl T.b_len Yw (Za (ZeB (K:=K) rfl T.cl_Desk T.n_Desk_rows (pv 0)) Zb)) Ze (Zk _)) (Zf (ZaO rfl rfl T.c_NoPast T.x_NoPast (Za Zo Zb) Za9)) Zn)
   (Zf (ZN (ZeN PySem.F.plainAttrs_list PySem.F.slot_list_pop PySem.F.type_list_pop Zht (ZeB (K:=K) rfl T.cl_Desk T.n_Desk_rows (pv 0)))))),?_⟩
 walk_at "rd"
 obtain⟨xs,a,hl,hxl,ha,hxs,_⟩:=ZfO ht h3
 refine⟨dx,fs,hx,_,l1,l,rfl,xs,.inl (SqL.of hl),Zs (λz=>⟨by decide,k2 (by omega)⟩) λz=>⟨dx,fs,hx,_,l1,ZT hl,l,rfl,xs,hl,_,hxs,k1 (by omega) _ Exc.upd ⟨dx,fs,?_,l1,l2,l3,ZiQ ht hl⟩⟩⟩
 rw[Zj (λz=>by rw[z,hl]at hx;cases hx)];exact hx
theorem Zg1 {f:Addr}{fd:FuncData} (F:Fun K "say" "Desk.say" ZaD f fd) (Zc5:Callee P w K mg base "tell_row" 2 ["row"] (Zcl K mg)) (ZbM:Callee P w K mg base "need_words" 1 ["line"] (Zbl K mg)) (Zbn:Callee P w K mg base "row_by_deed" 4 ["row","word","rest"] (Za6 K mg)) (GM_Desk_go_back:Zba P w K mg base "Desk" "go_back" 1 ["self"] (ZaQ K mg)) (TD_ASKED:TopD w K mg "ASKED" ["show","tree","flat","number"] [("show","tell_row")]) (TD_ASKED_OF_ROWS:TopD w K mg "ASKED_OF_ROWS" ["kin","seek","holds"] []) (TD_ASKED_OF_TREES:TopD w K mg "ASKED_OF_TREES" ["near","stay"] []) (T:Txt K mg):FnOk P w K mg base (CXE P w) 5 f fd ["self","line"] (Zai K mg):=by
 refine F.okX Zaj (λvs H Q E h=>?_) (λcdv A outer s H vs Q E hr h=>?_)
 ·obtain⟨x,l,rs,t,rfl,_⟩:=h;rfl
 obtain⟨x,l,rs,t,rfl,h1,h2,h3,h4,k1⟩:=h
 refine⟨_,(Zc (ZN (Zg ZbM (hr.mono (by decide)) rfl Zao (Za (pv 1) Zb)))
   (Zc (Zr (i:=2) Zaj.nd rfl (Or.inl rfl) (Za3 Zam (ZeB (K:=K) rfl T.cl_Desk T.n_Desk_rows (pv 0)) (ZcP Zbi Ze) (λ_ _=>rfl)))
   (Zc (Zhf (ZaN PySem.F.plainAttrs_str PySem.F.slot_str_partition PySem.F.type_str_partition Zk9 (pv 1) (Za Zo Zb)) (Zjd (n:=3) rfl (Zcd (ZP (i:=3) Zaj.nd rfl (Or.inl rfl)) (Zcd (ZP (i:=4) Zaj.nd rfl (Or.inl rfl)) (Zcd (ZP (i:=5) Zaj.nd rfl (Or.inl rfl)) ZhJ)))))
   (Zc (Zv (Zi (ZeW (mg:=mg) (K:=K) rfl rfl TD_ASKED) (pv 1) (ZeC (mg:=mg) rfl TD_ASKED rfl) (by with_unfolding_all rfl)) (Zc (Zr (i:=6) Zaj.nd rfl (Or.inl rfl) (Za3 (ix_top (mg:=mg) (K:=K) rfl rfl TD_ASKED) (ZeC (mg:=mg) rfl TD_ASKED rfl) (pv 1) (λ_ _=>rfl)))
   (Zf (Zq (ZjQ (ZjP Zc5 (hr.mono (by decide)) Zk8) Zu (pv 6) (Za (pv 2) Zb))))) Zn)
   (Zc (Zv (Zi (ZeW (mg:=mg) (K:=K) rfl rfl TD_ASKED_OF_ROWS) (pv 3) (ZeC (mg:=mg) rfl TD_ASKED_OF_ROWS rfl) (by with_unfolding_all rfl)) (Zc ZcJ
   (Zf ZcJ)) Zn)
   (Zc (Zv (Zi (ZeW (mg:=mg) (K:=K) rfl rfl TD_ASKED_OF_TREES) (pv 3) (ZeC (mg:=mg) rfl TD_ASKED_OF_TREES rfl) (by with_unfolding_all rfl)) (Zc ZcJ
   (Zf ZcJ)) Zn)
   (Zc (Zv (Zi ZG (pv 3) Zo (Zk _)) (Zc ZcJ
   (Zf ZcJ)) Zn)
   (Zc (Zv (Zi ZG (pv 1) Zo (Zk _)) (Zf (ZN (ZiK (mg:=mg) rfl GM_Desk_go_back (hr.mono (by decide)) Zao (pv 0)))) (Zf (ZN (ZaN PySem.F.plainAttrs_list PySem.F.slot_list_append PySem.F.type_list_append Zac (ZeB (K:=K) rfl T.cl_Desk T.n_Desk_rows (pv 0)) (Za (Zg Zbn (hr.mono (by decide)) rfl Zao (Za (pv 2) (Za (pv 3) (Za (pv 5) Zb)))) Zb)))))
   (Zf (Zq Zo)))))))))),?_⟩
 have words:t.length<=100000/\Str.empty∉Txt.split t ⟨#[32]⟩:=by
  rcases k1 with⟨rfl,_⟩|⟨rfl,_⟩|⟨d,rfl,hd,_⟩
  ·decide +kernel
  ·decide +kernel
  ·exact⟨ZjU hd,ZhC d⟩
 refine ZcO (fun σ Hx=>σ=[some (.ref x),some (.str t),none,none,none,none,none,none,none,none,none]/\Same H Hx) (λR hR=>?_) ?_
 ·walk_at "rd"
  exact⟨t,rfl,words.1,words.2,λH' s'=>hR _ _ ⟨rfl,s'⟩⟩
 rintro σ H1 ⟨rfl,s1⟩
 have hD:DeskAt mg H1 x l rs:=by
  obtain⟨dx,fs,a1,a2,a3,a4,a5⟩:=h1
  exact⟨dx,fs,s1 _ _ a1,a2,a3,a4,a5.same s1⟩
 obtain⟨dx,fs,hx,l1,l2,l3,ht⟩:=id hD
 obtain⟨xs,a,hl,hxl,ha,hxs,hta⟩:=ZfO ht h3
 refine ZcO (fun σ Hx=>σ=[some (.ref x),some (.str t),some (.ref a),none,none,none,none,none,none,none,none]/\Hx=H1) (λR hR=>?_) ?_
 ·walk_at "rd"
  exact⟨dx,fs,hx,_,l1,l,rfl,xs,SqL.of hl,_,ha,hR _ _ ⟨rfl,rfl⟩⟩
 rintro σ H2 ⟨rfl,rfl⟩
 refine ZcO (fun σ Hx=>σ=[some (.ref x),some (.str t),some (.ref a),some (.str (Txt.partition t ⟨#[32]⟩).1),some (.str (Txt.partition t ⟨#[32]⟩).2.1),some (.str (Txt.partition t ⟨#[32]⟩).2.2),none,none,none,none,none]/\Same H2 Hx) (λR hR=>?_) ?_
 ·walk_at "rd"
  rw[Zgs]
  exact⟨rfl,rfl,words.1,λp zp=>⟨_,SqT.of Zd,rfl,_,_,rfl,_,_,rfl,_,_,rfl,rfl,hR _ _ ⟨rfl,(Same.refl H2).upd zp⟩⟩⟩
 rintro σ H3 ⟨rfl,s3⟩
 have s13:=s1.trans s3
 have hD3:DeskAt mg H3 x l rs:=⟨dx,fs,s3 _ _ hx,l1,l2,l3,ht.same s3⟩
 have hta3:=s3 _ _ hta
 have hl3:=s3 _ _ hl
 have hx3:=s3 _ _ hx
 have zf:∀H',Exc l H3 H'->Exc l H H':=λH' e=>s13.ZgN.trans e
 rcases k1 with⟨rfl,k1⟩|⟨rfl,k1,k2⟩|⟨d,rfl,hd,k1,k2⟩
 ·walk_at "rd"
  exact Zs (λ_=>⟨_,YS,_,YS,a,_,rfl,hta3,h4,λH' s'=>k1 H' (s13.trans s')⟩) λz=>absurd (by simp) z
 ·have e1:(Txt.partition (Str.ofString "back") ⟨#[32]⟩).1=Str.ofString "back":=by decide +kernel
  rw[e1]
  walk_at "rd"
  refine Zs (λz=>absurd z (by decide +kernel)) λ_=>Zs (λz=>absurd z (by decide +kernel)) λ_=>Zs (λz=>absurd z (by decide +kernel)) λ_=>Zs (λz=>absurd z (by decide +kernel)) λ_=>?_
  exact⟨dx,fs,hx3,l3,x,l,rs,rfl,hD3,h2,h3,λh H' e' hd'=>k1 h H' (zf H' e') hd',λh=>k2 h _ s13⟩
 ·rw[ZiP]
  walk_at "rd"
  have hw:=ZjW d
  refine Zs (λz=>absurd z ?_) λ_=>Zs (λz=>absurd z hw.1) λ_=>Zs (λz=>absurd z hw.2.1) λ_=>Zs (λz=>absurd z hw.2.2) λ_=>Zs (λz=>absurd z (ZdA d (by decide +kernel))) λ_=>?_
  ·simp only[Yj,List.not_mem_nil,or_false,not_or]
   exact⟨ZdA d (by decide +kernel),ZdA d (by decide +kernel),ZdA d (by decide +kernel),ZdA d (by decide +kernel)⟩
  refine⟨dx,fs,hx3,_,l1,ZT hl3,a,Zah rs,d,rfl,hta3,h4,hd,λr' u H' hon s' hu=>?_,λhon H' s'=>k2 hon H' (s13.trans s')⟩
  obtain⟨as,e1,q1,q2⟩:=(ht.same s3).same s'
  refine⟨l,rfl,_,e1,YH (show _<=1000 by rw[Yp];omega) (by decide),k1 r' _ hon (zf _ (s'.ZgN.trans Exc.upd)) ⟨dx,fs,?_,l1,l2,l3,TupsAt.push e1 q1 q2 hu⟩⟩
  rw[Zj (λz=>by rw[z,hl3]at hx3;cases hx3)];exact s' _ _ hx3
theorem Zgv {f:Addr}{fd:FuncData} (F:Fun K "_law_said" "_law_said" Zaf f fd) (GM_Desk_say:Zba P w K mg base "Desk" "say" 5 ["self","line"] (Zai K mg)) (T:Txt K mg):FnOk P w K mg base (CXE P w) 6 f fd ["desk","line"] (ZaW K mg):=by
 refine F.okX Zas (λvs H Q E h=>?_) (λcdv A outer s H vs Q E hr h=>?_)
 ·obtain⟨x,l,rs,t,rfl,_⟩:=h;rfl
 obtain⟨x,l,rs,t,rfl,h1,h2,h3,h4,k1⟩:=h
 refine⟨_,(Zc (Zr (i:=2) Zas.nd rfl (Or.inl rfl) ZdO)
   (Zc (ps_try (j:=3) ⟨rfl,rfl⟩ Zas.nd rfl rfl rfl T.c_DipError T.x_DipError (λEc pl=>(Zf (Zr (i:=2) Zas.nd rfl (Or.inl rfl) (ZiL (mg:=mg) rfl GM_Desk_say (hr.mono (by decide)) passT (pv 0) (Za (pv 1) Zb))))) (λA'=>(Zf (Zr (i:=2) Zas.nd rfl (Or.inl rfl) (pv 3)))))
   (Zf (Zq (pv 2))))),?_⟩
 obtain⟨dx,fs,hx,l1,l2,l3,ht⟩:=id h1
 walk_at "rd"
 rcases k1 with⟨rfl,k1,k2⟩|⟨d,rfl,hd,k1,k2⟩
 ·refine⟨fun σ1 C _ H1=>σ1=[some (.ref x),some (.str (Str.ofString "back")),some .non,none]/\C=.ref (clsAt mg "NoPast")/\rs.length=1/\Same H H1,?_,?_⟩
  ·walk_at "rd"
   exact⟨dx,fs,hx,l2,x,l,rs,_,rfl,h1,h2,h3,h4,.inr (.inl ⟨rfl,k1,λh H' s'=>⟨rfl,h,s'⟩⟩)⟩
  ·rintro σ1 C H1 ⟨rfl,rfl,hl,s1⟩
   refine⟨_,rfl,T.up_NoPast,λe he=>?_⟩
   walk_at "rd"
   exact k2 hl e _ (s1.ZC he) Zd
 ·have up:PySem.W.mroIn K (clsAt mg d.err) (.ref (clsAt mg "DipError"))=some true:=by
   cases d
   ·exact T.up_TooMany
   ·exact T.up_TooMany
   ·exact T.up_TooMany
   ·exact T.up_Empty
   ·exact T.up_Empty
  refine⟨fun σ1 C _ H1=>σ1=[some (.ref x),some (.str d.line),some .non,none]/\C=.ref (clsAt mg d.err)/\d.on (Zah rs)=none/\Same H H1,?_,?_⟩
  ·walk_at "rd"
   exact⟨dx,fs,hx,l2,x,l,rs,_,rfl,h1,h2,h3,h4,.inr (.inr ⟨d,rfl,hd,k1,λh H' s'=>⟨rfl,h,s'⟩⟩)⟩
  ·rintro σ1 C H1 ⟨rfl,rfl,hn,s1⟩
   refine⟨_,rfl,up,λe he=>?_⟩
   walk_at "rd"
   exact k2 hn e _ (s1.ZC he) Zd
theorem Zg2 (ns:List Int):Str.ofString "row "++Zax ns=(Deed.row ns).line:=by
 show _=Str.ofString "row"++⟨#[32]⟩++Zax ns
 rw[show Str.ofString "row "=Str.ofString "row"++⟨#[32]⟩ by decide +kernel]
theorem ZeZ (i:Int):Str.ofString "ahead "++(numS i++Str.empty)=(Deed.ahead i).line:=by
 show _=Str.ofString "ahead"++⟨#[32]⟩++numS i
 rw[Str.append_empty,show Str.ofString "ahead "=Str.ofString "ahead"++⟨#[32]⟩ by decide +kernel]
theorem Zef (i:Int):Str.ofString "behind "++(numS i++Str.empty)=(Deed.behind i).line:=by
 show _=Str.ofString "behind"++⟨#[32]⟩++numS i
 rw[Str.append_empty,show Str.ofString "behind "=Str.ofString "behind"++⟨#[32]⟩ by decide +kernel]
theorem ZfP:Str.ofString "off ahead"=Deed.offA.line:=by decide +kernel
theorem ZfQ:Str.ofString "off behind"=Deed.offB.line:=by decide +kernel
theorem ZiR {ns:List Int} (h:ns≠[]):Zcb (ns.map V.int) (some 1) none=(ns.drop 1).map V.int:=by
 cases ns with
 |nil=>exact absurd rfl h
 |cons x q=>unfold Zcb;simp[HT.sIx];exact List.take_of_length_le (by simp)
theorem ZiS {mg:Str->Option Value}{H H':Hp}{x l:Addr}{rs:List (List Int)} (h:DeskAt mg H x l rs) (e:∀b o,(∀xs:List Int,o≠.lst (xs.map V.int))->H b=some o->H' b=some o) (h0:0<rs.length):DeskAt mg H' x l rs:=by
 obtain⟨dx,fs,h1,h2,h3,h4,as,h5,h6,h7⟩:=h
 refine⟨dx,fs,e _ _ (λ_ z=>nomatch z) h1,h2,h3,h4,as,e _ _ (λxs z=>?_) h5,h6,λi i1 i2=>e _ _ (λ_ z=>nomatch z) (h7 i i1 i2)⟩
 cases as with
 |nil=>simp at h6;omega
 |cons a q=>cases xs<;>simp at z
theorem ZdD {mg:Str->Option Value}{H H':Hp}{x l p:Addr}{rs:List (List Int)} (h:DeskAt mg H x l rs) (P:ZA H p) (e:Exc p H H') (h0:0<rs.length):DeskAt mg H' x l rs :=
 ZiS h (λb o ho z=>e _ _ (λq=>by obtain⟨g,hg,_⟩:=P;rw[q,hg]at z;cases z;exact ho [g] rfl) z) h0
theorem Zbx {mg:Str->Option Value}{H:Hp}{x l a:Addr}{rs:List (List Int)}{o:HO}{xs:List V} (h:DeskAt mg H x l rs) (ha:H a=some (.lst xs)) (n:l≠a):DeskAt mg (upd H a o) x l rs:=by
 obtain⟨dx,fs,h1,h2,h3,h4,as,h5,h6,h7⟩:=h
 refine⟨dx,fs,by rw[Zj (λz=>by rw[z,ha]at h1;cases h1)];exact h1,h2,h3,h4,as,by rw[Zj n];exact h5,h6,λi i1 i2=>?_⟩
 have:=h7 i i1 i2
 rw[Zj (λz=>by rw[z,ha]at this;cases this)];exact this
theorem ZK {mg:Str->Option Value}{H H':Hp}{x l:Addr}{rs:List (List Int)} (h:DeskAt mg H x l rs) (s:Same H H'):DeskAt mg H' x l rs:=by
 obtain⟨dx,fs,h1,h2,h3,h4,h5⟩:=h
 exact⟨dx,fs,s _ _ h1,h2,h3,h4,h5.same s⟩
theorem ZcM {mg:Str->Option Value}{H:Hp}{x l b:Addr}{rs:List (List Int)}{xs:List Int} (h:DeskAt mg H x l rs) (h0:0<rs.length) (hb:H b=some (.lst (xs.map V.int))):b≠l:=by
 obtain⟨dx,fs,_,_,_,_,as,h5,h6,_⟩:=h
 intro z
 rw[z,h5]at hb
 cases as with
 |nil=>simp at h6;omega
 |cons a q=>cases xs<;>simp at hb
theorem Zak {H H':Hp}{a p:Addr}{rs:List (List Int)} (h:Zaz H a rs p) (ha:∀xs,H a=some (.lst xs)->H' a=some (.lst xs)) (e:∀b (xs:List Int),b≠p->b≠a->H b=some (.lst (xs.map V.int))->H' b=some (.lst (xs.map V.int))):Zaz H' a rs p:=by
 obtain⟨as,h1,h2,h3,h4,h5⟩:=h
 exact⟨as,ha _ h1,h2,h3,h4,λi i1 i2=>e _ _ (λz=>h3 (z▸YK i1)) (λz=>h2 (z▸YK i1)) (h5 i i1 i2)⟩
theorem Zaz.rows {H:Hp}{a p:Addr}{rs:List (List Int)} (h:Zaz H a rs p):Rows H a rs:=by
 obtain⟨as,h1,h2,_,h4,h5⟩:=h
 exact⟨as,h1,h2,h4,h5⟩
theorem ZfR {H:Hp}{a:Addr}{rs:List (List Int)}{xs:List V} (h:Rows H a rs) (e:H a=some (.lst xs)):Rows (upd H a (.lst xs.dropLast)) a rs.dropLast:=by
 obtain⟨as,e1,n,h1,h2⟩:=h
 rw[e]at e1
 cases e1
 refine⟨as.dropLast,by rw[Zd,List.map_dropLast],λz=>n (List.dropLast_subset _ z),by simp[h1],λi i1 i2=>?_⟩
 simp at i1 i2
 rw[List.getElem_dropLast,List.getElem_dropLast,Zj (λz=>n (by rw[<-z];exact YK _))]
 exact h2 i (by omega) (by omega)
theorem ZX {H:Hp}{a:Addr}{rs:List (List Int)} (h:Rows H a rs) (h0:0<rs.length):∃xs q,H a=some (.lst xs)/\xs.length=rs.length/\atI xs (-1)=some (.ref q)/\xs[xs.length-1]?=some (.ref q)/\H q=some (.lst ((Zah rs).map V.int)):=by
 obtain⟨as,e1,_,h1,h2⟩:=h
 have e:=ZdB h0
 rw[Yg (by omega)]at e
 have e:=Yq e
 have e9:(as.map V.ref)[(as.map V.ref).length-1]?=some (V.ref (as[rs.length-1]'(by omega))):=by
  have e8:(as.map V.ref).length-1=rs.length-1:=by simp[h1]
  rw[e8,Yy,Yg (by omega)];rfl
 exact⟨_,as[rs.length-1]'(by omega),e1,by simp[h1],ZgO (by rw[List.getLast?_eq_getElem?];exact e9),e9,by rw[<-e];exact h2 _ (by omega) (by omega)⟩
theorem Zld {K:PySem.W.Frag}{mg:Str->Option Value} (T:Txt K mg) (d:Deed):KindsOf K mg (clsAt mg d.err) (λk=>decide (k=d.no)):=by
 cases d
 ·exact Zbk T
 ·exact Zbk T
 ·exact Zbk T
 ·exact Zec T
 ·exact Zec T
theorem Zgw {f : Addr} {fd : FuncData} (F : Fun K "_law_deed" "_law_deed" Zae f fd) (Zh : Callee P w K mg base "_law_take" 1 ["pot", "many"] (sp__law_take K mg)) (ZbN : Callee P w K mg base "_law_row" 2 ["pot", "most"] (sp__law_row K mg)) (Zw : Callee P w K mg base "_law_row_text" 1 ["row"] (ZF K mg)) (T : Txt K mg) : FnOk P w K mg base (CXE P w) 3 f fd ["pot", "row"] (ZbI K mg) := by
  refine F.okX ZD (fun vs H Q E h => ?_) (fun cdv A outer s H vs Q E hr h => ?_)
  · obtain ⟨p, r, ns, rfl, _⟩ := h; rfl
  obtain ⟨p, r, ns, rfl, hP, nrp, hr1, hF, k1⟩ := h
  refine ⟨_, (Zc (Zr (i := 2) ZD.nd rfl (Or.inl rfl) (Zg Zh (hr.mono (by decide)) rfl Zu (Za (pv 0) (Za Ze Zb))))
      (Zc (Zr (i := 3) ZD.nd rfl (Or.inl rfl) (Z0 (Za (Zl Zbh (Zg Zh (hr.mono (by decide)) rfl Zu (Za (pv 0) (Za Ze Zb))) Ze) (Za (Zl Zbh (Zg Zh (hr.mono (by decide)) rfl Zu (Za (pv 0) (Za Ze Zb))) Ze) (Za (Zl Zbh (ZcP Zbi (Zl ZbC Ze Ze)) (Zg Zh (hr.mono (by decide)) rfl Zu (Za (pv 0) (Za Ze Zb)))) Zb)))))
      (Zc (Zr (i := 4) ZD.nd rfl (Or.inl rfl) (Za3 Zam (pv 3) (Zm (Zfz rfl) rfl T.b_max Zjz (Za Ze (Za (Zl Zbh (Zg Zh (hr.mono (by decide)) rfl Zu (Za (pv 0) (Za Ze Zb))) Ze) Zb))) (fun _ _ => rfl)))
      (Zc (Zv (Zi ZG (pv 2) Ze (Zk _)) (Zc (Zr (i := 5) ZD.nd rfl (Or.inl rfl) (Zg ZbN (hr.mono (by decide)) rfl Zu (Za (pv 0) (Za Ze Zb))))
      (Zc (Zr (i := 6) ZD.nd rfl (Or.inl rfl) (Zg Zh (hr.mono (by decide)) rfl Zu (Za (pv 0) (Za Ze Zb))))
      (Zc (Zv (Zi ZG (pv 6) Ze (Zk _)) (Zf (Zr (i := 5) ZD.nd rfl (Or.inl rfl) (Zg ZbN (hr.mono (by decide)) rfl Zu (Za (pv 0) (Za Ze Zb))))) Zn)
      (Zc (Zv (Zi ZG (pv 6) Ze (Zk _)) (Zf (Zr (i := 5) ZD.nd rfl (Or.inl rfl) (ZU (Zhv (K := K) rfl) rfl T.b_list Zk0 (Za (pv 1) Zb)))) Zn)
      (Zf (Zq (Zal (Za (Zl ZbD Zo (Zg Zw (hr.mono (by decide)) rfl Zu (Za (pv 5) Zb))) (Za (pv 5) Zb))))))))) Zn)
      (Zc (Zv (Zi ZhO (pv 2) Ze (Zk _)) (Zc (Zv (Zi ZG (Zm (Zy (K := K) rfl) rfl T.b_len Yw (Za (pv 1) Zb)) Ze (Zk _)) (Zf (Zq (Zal (Za (ZbG (Zdy (by decide) (ZeE (pv 4) ZeD))) (Za Ze Zb))))) Zn)
      (Zf (Zq (Zal (Za (ZbG (Zdy (by decide) (ZeE (pv 4) ZeD))) (Za (Zl ZdS (Z0 (Za (pv 4) Zb)) (pv 1)) Zb)))))) Zn)
      (Zc (Zv (Zi ZhO (pv 2) Ze (Zk _)) (Zc (Zv (Zi ZG (Zm (Zy (K := K) rfl) rfl T.b_len Yw (Za (pv 1) Zb)) Ze (Zk _)) (Zf (Zq (Zal (Za (ZbG (Zdy (by decide) (ZeE (pv 4) ZeD))) (Za Ze Zb))))) Zn)
      (Zf (Zq (Zal (Za (ZbG (Zdy (by decide) (ZeE (pv 4) ZeD))) (Za (Zl ZdS (pv 1) (Z0 (Za (pv 4) Zb))) Zb)))))) Zn)
      (Zc (Zr (i := 7) ZD.nd rfl (Or.inl rfl) (Za3 Zhq (Zal (Za Zo (Za Zo Zb))) (Zl Zbh (pv 2) Ze) (fun _ _ => rfl)))
      (Zc (Zv (Zi (Zgi (K := K) rfl hr) (pv 1) (Z0 Zb) (Zk _)) (Zf (Zq (Zal (Za (pv 7) (Za Ze Zb))))) Zn)
      (Zf (Zq (Zal (Za (pv 7) (Za (Za3 Zhq (Zal (Za (Zdq Zf8 (pv 1) (Zey Ze) Zex) (Za (Zdq Zf8 (pv 1) Zex (Zey (ZcP Zbi Ze))) Zb))) (Zl Zbh (pv 2) Ze) (fun _ _ => rfl)) Zb))))))))))))), ?_⟩
  have hn := hF.1
  have eN : (ns.map V.int).length = ns.length := Yp ..
  have e59 : (10 : Int) ^ Int.toNat 59 = 100000000000000000000000000000000000000000000000000000000000 := by decide
  refine ZcO (fun σ Hx => ∃ way : Int, σ = [some (.ref p), some (.ref r), some (.int way), none, none, none, none, none] ∧ 0 ≤ way ∧ way < 7 ∧ ZA Hx p ∧ Exc p H Hx) (fun R hR => ?_) ?_
  · walk_at "rd"
    exact ⟨p, _, rfl, by decide, by decide, hP, fun d H1 d0 d1 P1 e1 => hR _ _ ⟨d, rfl, d0, d1, P1, e1⟩⟩
  rintro σ H1 ⟨way, rfl, w0, w7, P1, e1⟩
  refine ZcO (fun σ Hx => ∃ (q : Addr) (a b c : Int), σ = [some (.ref p), some (.ref r), some (.int way), some (.ref q), none, none, none, none] ∧ a.natAbs < 10 ^ 60 ∧ b.natAbs < 10 ^ 60 ∧ c.natAbs < 10 ^ 60 ∧ q ≠ p ∧ Hx q = some (.lst [.int a, .int b, .int c]) ∧ ZA Hx p ∧ Exc p H Hx) (fun R hR => ?_) ?_
  · walk_at "rd"
    rw [e59]
    exact ⟨p, _, rfl, by decide, by decide, P1, fun a H2 a0 a1 P2 e2 => ⟨a, rfl, p, _, rfl, by decide, by decide, P2, fun b H3 b0 b1 P3 e3 => ⟨b, rfl, by unfold Zfg; decide, p, _, rfl, by decide, by decide, P3, fun c H4 c0 c1 P4 e4 => ⟨c, rfl, by decide, fun q zq => hR _ _ ⟨q, _, _, _, rfl, by omega, by omega, by omega, P4.ne zq, Zd, P4.upd zq, (((e1.trans e2).trans e3).trans e4).same ((Same.refl H4).upd zq)⟩⟩⟩⟩⟩
  clear e1 P1
  rintro σ H1 ⟨q, a, b, c, rfl, ha, hb, hc, nqp, hq, P1, e1⟩
  refine ZcO (fun σ Hx => ∃ (i : Int), σ = [some (.ref p), some (.ref r), some (.int way), some (.ref q), some (.int i), none, none, none] ∧ i.natAbs < 10 ^ 60 ∧ ZA Hx p ∧ Exc p H Hx) (fun R hR => ?_) ?_
  · walk_at "rd"
    refine ⟨p, _, rfl, by decide, by decide, P1, fun d H2 d0 d1 P2 e2 => ⟨d, rfl, _, SqL.of (e2 _ _ nqp hq), ?_⟩⟩
    obtain ⟨v, hv, y, rfl, hy⟩ := Zgg (xs := [V.int a, V.int b, V.int c]) (i := if d - 3 > 0 then d - 3 else 0) (fun v => ∃ y, v = V.int y ∧ y.natAbs < 10 ^ 60) (by split <;> omega) (by split <;> simp <;> omega) (by
      intro z hz
      simp only [Yj, List.not_mem_nil, or_false] at hz
      rcases hz with rfl | rfl | rfl
      · exact ⟨_, rfl, ha⟩
      · exact ⟨_, rfl, hb⟩
      · exact ⟨_, rfl, hc⟩)
    exact ⟨_, hv, hR _ _ ⟨y, rfl, hy, P2, e1.trans e2⟩⟩
  clear e1 P1 hq
  rintro σ H1 ⟨i, rfl, hi, P1, e1⟩
  have hr2 := e1 _ _ nrp hr1
  have zf : ∀ {b : Addr} {Hx : Hp}, ZA Hx p → Exc p H Hx → Hx b = none → H b = none := fun {b Hx} Px ex z => by
    cases e : H b with
    | none => rfl
    | some o => exact absurd (ex _ _ (Px.ne z) e) (by rw [z]; simp)
  have row : ∀ (l : Addr) (ms : List Int) (Hx : Hp), Few ms → Hx l = some (.lst (ms.map V.int)) → H l = none → ZA Hx p → Exc p H Hx → ∀ Hy, Same Hx Hy → ∀ u, Hy u = none → Q (.ref u) (upd Hy u (.tup [V.str (Str.ofString "row " ++ Zax ms), V.ref l])) := fun l ms Hx hms hl zl Px ex Hy s u zu =>
    k1 u (.row ms) (.ref l) _ (by rw [Zd, Zg2]) hms (.inl ⟨ms, l, rfl, hms, rfl, zl, (s.ZC zu) _ _ hl⟩) (Px.same (s.ZC zu)) (ex.same (s.ZC zu))
  refine ZcO (fun σ Hx => σ = [some (.ref p), some (.ref r), some (.int way), some (.ref q), some (.int i), none, none, none] ∧ ¬ way = 0 ∧ Hx = H1) (fun R hR => ?_) ?_
  · walk_at "rd"
    refine Zs (fun _ => ⟨p, 8, rfl, by decide, by decide, P1, fun f1 ms1 H2 zf1 hl1 hm1 hf1 P2 e2 => ⟨p, _, rfl, by decide, by decide, P2, fun kd H3 kd0 kd1 P3 e3 => ⟨rfl, ?_⟩⟩⟩) fun z => hR _ _ ⟨rfl, z, rfl⟩
    have e13 := (e1.trans e2).trans e3
    have tail : ∀ (f : Addr) (ms : List Int) (Hx : Hp), Few ms → Hx f = some (.lst (ms.map V.int)) → H f = none → ZA Hx p → Exc p H Hx → (kd = 1 → Hx r = some (.lst (ns.map V.int))) → Zf3 (V.int kd) (V.int 1) = true ∧ (if V.int kd = V.int 1 then ∃ x, (SqL K Hx r x ∨ SqT K Hx r x) ∧ ∀ (l : Addr), Hx l = none → ZF K mg [V.ref l] (upd Hx l (.lst x)) (fun y H2 => ∃ x, y = V.str x ∧ (Str.ofString "row ").length + x.length ≤ sizeLine ∧ 0 + 1 + 1 ≤ sizeLine ∧ ∀ (p : Addr), H2 p = none → Q (V.ref p) (upd H2 p (.tup [V.str (Str.ofString "row " ++ x), V.ref l]))) E0
        else ZF K mg [V.ref f] Hx (fun y H2 => ∃ x, y = V.str x ∧ (Str.ofString "row ").length + x.length ≤ sizeLine ∧ 0 + 1 + 1 ≤ sizeLine ∧ ∀ (p : Addr), H2 p = none → Q (V.ref p) (upd H2 p (.tup [V.str (Str.ofString "row " ++ x), V.ref f]))) E0) := by
      intro f ms Hx hms hf zf' Px ex hrx
      refine ⟨rfl, Zs (fun z => ?_) fun z => ⟨f, ms, rfl, SqL.of hf, hms, fun Hy s => ⟨_, rfl, ?_, by decide, fun u zu => row f ms Hx hms hf zf' Px ex Hy s u zu⟩⟩⟩
      · have hrx := hrx (V.int.inj z)
        refine ⟨_, .inl (SqL.of hrx), fun l zl => ⟨l, ns, rfl, SqL.of Zd, hF, fun Hy s => ⟨_, rfl, ?_, by decide, fun u zu => row l ns _ hF Zd (zf Px ex zl) (Px.upd zl) (ex.same ((Same.refl Hx).upd zl)) Hy s u zu⟩⟩⟩
        have := Zbw hF
        exact Yd (show _ ≤ 100000 by have : (Str.ofString "row ").length = 4 := (by decide +kernel); omega) (by decide)
      · have := Zbw hms
        exact Yd (show _ ≤ 100000 by have : (Str.ofString "row ").length = 4 := (by decide +kernel); omega) (by decide)
    refine Zs (fun _ => ⟨p, 40, rfl, by decide, by decide, P3, fun f ms H4 zf2 hl2 hm2 hf2 P4 e4 => tail f ms H4 ⟨by omega, hm2⟩ hf2 (zf P3 e13 zf2) P4 (e13.trans e4) fun _ => e4 _ _ nrp (e3 _ _ nrp (e2 _ _ nrp hr2))⟩) fun _ => tail f1 ms1 H3 ⟨by omega, hm1⟩ (e3 _ _ (P1.ne zf1) hf1) (zf P1 e1 zf1) P3 e13 fun _ => e3 _ _ nrp (e2 _ _ nrp hr2)
  rintro σ H2 ⟨rfl, hw, rfl⟩
  have fin : ∀ (d : Deed) (v : V) (Hx : Hp) (u : Addr) (t : Str), t = d.line → d.Ok → Same H2 Hx → Hx u = none → ((∃ r' q, d.on ns = some r' ∧ Few r' ∧ v = .ref q ∧ H2 q = none ∧ Hx q = some (.lst (r'.map V.int))) ∨ (d.on ns = none ∧ v = .int (d.no : Int))) → Q (.ref u) (upd Hx u (.tup [V.str t, v])) := by
    rintro d v Hx u t rfl hd s zu hv
    refine k1 u d v _ Zd hd ?_ (P1.same (s.ZC zu)) (e1.same (s.ZC zu))
    rcases hv with ⟨r', q, h1, h2, h3, h4, h5⟩ | h
    · exact .inl ⟨r', q, h1, h2, h3, zf P1 e1 h4, ((Same.refl Hx).upd zu) _ _ h5⟩
    · exact .inr h
  have on40 : ∀ {α : Type} {x y : α}, ¬ ((ns.map V.int).length : Int) = 40 → (if ns.length < 40 then x else y) = x := fun h => Ye (by rw [eN] at h; omega)
  have on41 : ∀ {α : Type} {x y : α}, ((ns.map V.int).length : Int) = 40 → (if ns.length < 40 then x else y) = y := fun h => Yb (by rw [eN] at h; omega)
  walk_at "rd"
  refine Zs (fun _ => ⟨_, .inl (SqL.of hr2), Zs (fun z => ⟨hi, by decide, fun u zu => fin (.ahead i) _ _ u _ (ZeZ i) hi (Same.refl _) zu (.inr ⟨on41 z, rfl⟩)⟩) fun z => ⟨hi, by decide, fun q1 z1 => ⟨_, Zd, _, ((Same.refl H2).upd z1) _ _ hr2, Yd (show _ ≤ 1000 by simp; omega) (by decide), fun q2 z2 => ⟨by decide, fun u zu => fin (.ahead i) _ _ u _ (ZeZ i) hi (((Same.refl H2).upd z1).ZC z2) zu (.inl ⟨i :: ns, q2, on40 z, Zgt (d := .ahead i) hi hF (on40 z), rfl, ((Same.refl H2).upd z1).free z2, Zd⟩)⟩⟩⟩⟩) fun w3 => Zs (fun _ => ⟨_, .inl (SqL.of hr2), Zs (fun z => ⟨hi, by decide, fun u zu => fin (.behind i) _ _ u _ (Zef i) hi (Same.refl _) zu (.inr ⟨on41 z, rfl⟩)⟩) fun z => ⟨hi, by decide, fun q1 z1 => ⟨_, ((Same.refl H2).upd z1) _ _ hr2, _, Zd, Yd (show _ ≤ 1000 by simp; omega) (by decide), fun q2 z2 => ⟨by decide, fun u zu => fin (.behind i) _ _ u _ (Zef i) hi (((Same.refl H2).upd z1).ZC z2) zu (.inl ⟨ns ++ [i], q2, on40 z, Zgt (d := .behind i) hi hF (on40 z), rfl, ((Same.refl H2).upd z1).free z2, by rw [Zd]; simp⟩)⟩⟩⟩⟩) fun w5 => ?_
  have hw2 : way = 5 ∨ way = 6 := by omega
  have off : ∀ (d : Deed), (d = .offA ∨ d = .offB) → ns = [] → d.on ns = none := by
    rintro d (rfl | rfl) rfl <;> rfl
  rcases hw2 with rfl | rfl
  · refine ⟨by decide, fun q1 z1 => ⟨_, SqT.of Zd, _, rfl, by decide, fun q2 z2 => ?_⟩⟩
    have s2 := ((Same.refl H2).upd (o := .tup [V.str (Str.ofString "off ahead"), V.str (Str.ofString "off behind")]) z1).ZC (o := .lst []) z2
    have h2 := Zd (H := upd H2 q1 (.tup [V.str (Str.ofString "off ahead"), V.str (Str.ofString "off behind")])) (a := q2) (o := .lst [])
    generalize upd (upd H2 q1 (.tup [V.str (Str.ofString "off ahead"), V.str (Str.ofString "off behind")])) q2 (.lst []) = H3 at s2 h2 ⊢
    refine ⟨_, Zgj (n := 2) (K := K) Zh4 _ _ ns [] (Zds (SqL.of (s2 _ _ hr2))) (Zds (SqL.of h2)), Zs (fun z => ⟨by decide, fun u zu => fin .offA _ _ u _ ZfP trivial s2 zu (.inr ⟨off _ (.inl rfl) (of_decide_eq_true z), rfl⟩)⟩) fun z => ?_⟩
    have nz : ns ≠ [] := fun e => z (YC e)
    have nl : ¬ ns.length = 0 := fun e => nz (List.length_eq_zero_iff.mp e)
    refine ⟨_, SqL.of (s2 _ _ hr2), fun q3 z3 => ⟨_, SqL.of ((s2.ZC z3) _ _ hr2), fun q4 z4 => ⟨by decide, fun q5 z5 => ⟨_, SqT.of Zd, _, rfl, by decide, fun u zu => fin .offA _ _ u _ ZfP trivial (((s2.ZC z3).ZC z4).ZC z5) zu (.inl ⟨ns.drop 1, q3, Yb nl, Zgt (d := .offA) trivial hF (Yb nl), rfl, s2.free z3, ?_⟩)⟩⟩⟩⟩
    have := (((Same.refl _).upd z4).ZC (o := .tup [V.ref q3, V.ref q4]) z5) _ _ (Zd (H := H3) (a := q3) (o := .lst (Zcb (ns.map V.int) (some 1) none)))
    rw [this, ZiR nz]
  · refine ⟨by decide, fun q1 z1 => ⟨_, SqT.of Zd, _, rfl, by decide, fun q2 z2 => ?_⟩⟩
    have s2 := ((Same.refl H2).upd (o := .tup [V.str (Str.ofString "off ahead"), V.str (Str.ofString "off behind")]) z1).ZC (o := .lst []) z2
    have h2 := Zd (H := upd H2 q1 (.tup [V.str (Str.ofString "off ahead"), V.str (Str.ofString "off behind")])) (a := q2) (o := .lst [])
    generalize upd (upd H2 q1 (.tup [V.str (Str.ofString "off ahead"), V.str (Str.ofString "off behind")])) q2 (.lst []) = H3 at s2 h2 ⊢
    refine ⟨_, Zgj (n := 2) (K := K) Zh4 _ _ ns [] (Zds (SqL.of (s2 _ _ hr2))) (Zds (SqL.of h2)), Zs (fun z => ⟨by decide, fun u zu => fin .offB _ _ u _ ZfQ trivial s2 zu (.inr ⟨off _ (.inr rfl) (of_decide_eq_true z), rfl⟩)⟩) fun z => ?_⟩
    have nz : ns ≠ [] := fun e => z (YC e)
    have nl : ¬ ns.length = 0 := fun e => nz (List.length_eq_zero_iff.mp e)
    refine ⟨_, SqL.of (s2 _ _ hr2), fun q3 z3 => ⟨_, SqL.of ((s2.ZC z3) _ _ hr2), fun q4 z4 => ⟨by decide, fun q5 z5 => ⟨_, SqT.of Zd, _, rfl, by decide, fun u zu => fin .offB _ _ u _ ZfQ trivial (((s2.ZC z3).ZC z4).ZC z5) zu (.inl ⟨ns.dropLast, q4, Yb nl, Zgt (d := .offB) trivial hF (Yb nl), rfl, (s2.ZC z3).free z4, ?_⟩)⟩⟩⟩⟩
    have := ((Same.refl _).upd (o := .tup [V.ref q3, V.ref q4]) z5) _ _ (Zd (H := upd H3 q3 (.lst (Zcb (ns.map V.int) (some 1) none))) (a := q4) (o := .lst (Zcb (ns.map V.int) none (some (-1)))))
    rw [this, ZgU _ (by omega)]
theorem Zgx {f:Addr}{fd:FuncData} (F:Fun K "_law_done" "_law_done" Zag f fd) (Zh:Callee P w K mg base "_law_take" 1 ["pot","many"] (sp__law_take K mg)) (ZS:Callee P w K mg base "_law_alone" 2 ["e","at"] (sp__law_alone K mg)) (Zcp:Callee P w K mg base "_law_deed" 3 ["pot","row"] (ZbI K mg)) (Z1:Callee P w K mg base "_law_said" 6 ["desk","line"] (ZaW K mg)) (T:Txt K mg):FnOk P w K mg base (CXE P w) 7 f fd ["desk","pot","pasts"] (ZbJ K mg):=by
 refine F.okX Zat (λvs H Q E h=>?_) (λcdv A outer s H vs Q E hr h=>?_)
 ·obtain⟨x,p,a,l,rs,rfl,_⟩:=h;rfl
 obtain⟨x,p,a,l,rs,rfl,hD,hR,hP,nxp,nlp,nap,nla,h9,h0,hFw,k1⟩:=h
 refine⟨_,(Zc (Zv (Zi ZG (Zg Zh (hr.mono (by decide)) rfl Zu (Za (pv 1) (Za Ze Zb))) Ze (Zk _)) (Zc (Zr (i:=3) Zat.nd rfl (Or.inl rfl) (Zg Z1 (hr.mono (by decide)) rfl Zu (Za (pv 0) (Za Zo Zb))))
   (Zc (Zv (Zi ZG (Zm (Zy (K:=K) rfl) rfl T.b_len Yw (Za (pv 2) Zb)) Ze (Zk _)) (Zf (Zq (Zg ZS (hr.mono (by decide)) rfl Zu (Za (pv 3) (Za Ze Zb))))) Zn)
   (Zc (ZN (ZeN PySem.F.plainAttrs_list PySem.F.slot_list_pop PySem.F.type_list_pop Zht (pv 2)))
   (Zf (Zq (ZaV (ZjI ZG (Zgi (K:=K) rfl hr)) (pv 3) Zo (Zk _))))))) Zn)
   (Zc (Zhf (Zg Zcp (hr.mono (by decide)) rfl Zu (Za (pv 1) (Za (Za3 Zam (pv 2) (ZcP Zbi Ze) (λ_ _=>rfl)) Zb))) (Zjd (n:=2) rfl (Zcd (ZP (i:=4) Zat.nd rfl (Or.inl rfl)) (Zcd (ZP (i:=5) Zat.nd rfl (Or.inl rfl)) ZhJ))))
   (Zc (Zr (i:=3) Zat.nd rfl (Or.inl rfl) (Zg Z1 (hr.mono (by decide)) rfl Zu (Za (pv 0) (Za (pv 4) Zb))))
   (Zc (Zv (ZeH (Zm (Zz (K:=K) rfl) rfl T.b_isinstance Zp (Za (pv 5) (Za (ZfY (v:=.ty "int") rfl T.b_int ZdV rfl) Zb)))) (Zf (Zq (Zjc (Zm (Zz (K:=K) rfl) rfl T.b_isinstance Zp (Za (pv 3) (Za (ZfY (v:=.ty "ValueError") rfl T.b_ValueError ZcR rfl) Zb))) (Zjb (Zg ZS (hr.mono (by decide)) rfl Zu (Za (pv 3) (Za (pv 5) Zb))))))) Zn)
   (Zc (ZN (ZaN PySem.F.plainAttrs_list PySem.F.slot_list_append PySem.F.type_list_append Zac (pv 2) (Za (pv 5) Zb)))
   (Zf (Zq (ZaV (ZjI ZG (Zgi (K:=K) rfl hr)) (pv 3) Zo (Zk _))))))))),?_⟩
 have hFl:Few (Zah rs):=hFw _ (List.mem_of_getElem? (ZdB h0))
 have ex:∀{H1 H2:Hp},Exc p H H1->Exc l H1 H2->∀{o:HO},Ex3 p l a H (upd H2 a o):=λe1 e2 o b u n1 n2 n3 z=>by rw[Zj n3];exact e2 _ _ n2 (e1 _ _ n1 z)
 walk_at "rd"
 refine⟨p,5,rfl,by decide,by decide,hP,λd0 H1 _ _ P1 e1=>⟨rfl,?_⟩⟩
 have hD1:=ZdD hD hP e1 h0
 have hR1:Zaz H1 a rs p:=Zak hR (λxs z=>e1 _ _ nap z) λb xs n1 _ z=>e1 _ _ n1 z
 refine Zs (λ_=>?_) λ_=>?_
 ·refine⟨x,l,rs,_,rfl,hD1,by omega,h0,hFl,.inl ⟨rfl,λh1 H2 e2 hD2=>?_,λh1 e H2 s2 he=>?_⟩⟩
  ·have hR2:Zaz H2 a rs p:=Zak hR1 (λxs z=>e2 _ _ (λq=>nla q.symm) z) λb xs _ _ z=>e2 _ _ (ZcM hD1 h0 z) z
   obtain⟨xs,q,ha2,hxl,hat,hxs,_⟩:=ZX hR2.rows h0
   refine⟨_,.inl (SqL.of ha2),Zs (λz=>absurd z (by omega)) λ_=>⟨ZT ha2,_,ha2,_,hxs,.inl ⟨rfl,?_⟩⟩⟩
   rw[YC rfl]
   exact k1 rs.dropLast _ (Zbx hD2 ha2 nla) (ZfR hR2.rows ha2) (by simp;omega) (by simp;omega) (λr hr=>hFw r (List.dropLast_subset _ hr)) (ex e1 e2)
  ·have hR2:Zaz H2 a rs p:=Zak hR1 (λxs z=>s2 _ _ z) λb xs _ _ z=>s2 _ _ z
   obtain⟨xs,q,ha2,hxl,_⟩:=ZX hR2.rows h0
   exact⟨_,.inl (SqL.of ha2),Zs (λ_=>⟨e,_,7,rfl,he,Zdz T,λH3 s3=>k1 rs H3 (ZK hD1 (s2.trans s3)) (hR2.rows.same s3) (by omega) h0 hFw λb o n1 _ _ z=>(s2.trans s3) _ _ (e1 _ _ n1 z)⟩) λz=>absurd (by omega) z⟩
 ·obtain⟨xs,q,ha1,hxl,hat,hxs,hq1⟩:=ZX hR1.rows h0
  have nqp:q≠p:=by
   obtain⟨as,g1,_,g3,g4,_⟩:=id hR1
   rw[ha1]at g1
   cases g1
   intro z
   refine g3 (z▸?_)
   have:=List.mem_of_getElem? hxs
   obtain⟨b,hb,eb⟩:=YD.mp this
   cases eb
   exact hb
  refine⟨_,SqL.of ha1,_,hat,p,q,Zah rs,rfl,P1,nqp,hq1,hFl,λu d v H2 hu hd hv P2 e2=>⟨u,rfl,_,SqT.of hu,rfl,_,_,rfl,_,_,rfl,rfl,?_⟩⟩
  have hD2:=ZdD hD1 P1 e2 h0
  have hR2:Zaz H2 a rs p:=Zak hR1 (λxs z=>e2 _ _ nap z) λb xs n1 _ z=>e2 _ _ n1 z
  refine⟨x,l,rs,_,rfl,hD2,by omega,h0,hFl,.inr ⟨d,rfl,hd,λr' H3 hon e3 hD3=>?_,λhon e H3 s3 he=>?_⟩⟩
  ·rcases hv with⟨r'',q',ho,hf,rfl,zq,hq⟩|⟨ho,_⟩
   ·rw[hon]at ho
    cases ho
    have hR3:Zaz H3 a rs p:=Zak hR2 (λxs z=>e3 _ _ (λq=>nla q.symm) z) λb xs _ _ z=>e3 _ _ (ZcM hD2 h0 z) z
    have hq3:H3 q'=some (.lst (r'.map V.int)):=e3 _ _ (ZcM hD2 h0 hq) hq
    obtain⟨as,g1,g2,_,g4,g5⟩:=id hR3
    have nqa:q'≠a:=λz=>by rw[z,ha1]at zq;cases zq
    refine⟨false,.inl ⟨_,.lst hq3,by with_unfolding_all rfl⟩,Zs (λz=>nomatch z) λ_=>⟨ZT g1,_,g1,YH (show _<=1000 by rw[Yp];omega) (by decide),.inl ⟨rfl,?_⟩⟩⟩
    rw[YC rfl]
    refine k1 (rs++[r']) _ (Zbx hD3 g1 nla) (Rows.push g1 g2 g4 g5 hq3 nqa) (by simp) (by simp) (λr hr=>?_) (ex (e1.trans e2) e3)
    rcases Ys.mp hr with h|h
    ·exact hFw r h
    ·rw[Yv.mp h];exact hf
   ·rw[hon]at ho;cases ho
  ·rcases hv with⟨r'',q',ho,_⟩|⟨_,rfl⟩
   ·rw[hon]at ho;cases ho
   ·have Z:=Zld T d
    exact⟨true,.inl ⟨_,.int _,by with_unfolding_all rfl⟩,Zs (λ_=>⟨_,tyE he Z.z Z.kv,Zs (λ_=>⟨e,_,d.no,rfl,he,Z,λH4 s4=>k1 rs H4 (ZK hD2 (s3.trans s4)) (hR2.rows.same (s3.trans s4)) (by omega) h0 hFw λb o n1 _ _ z=>(s3.trans s4) _ _ (e2 _ _ n1 (e1 _ _ n1 z))⟩) λz=>absurd rfl z⟩) λz=>absurd rfl z⟩
structure LS (mg:Str->Option Value) (H0 Hx:Hp) (x l y m a:Addr) (rs ps:List (List Int)):Prop where
 d:DeskAt mg Hx x l rs
 o:DeskAt mg Hx y m [[],[3,1,2]]
 r:Rows Hx a ps
 f:∀r∈ps,Few r
 g:∀r∈rs,Few r
 n:0<rs.length
 la:l≠a
 ml:m≠l
 ma:m≠a
 zl:H0 l=none
 za:H0 a=none
 s:Same H0 Hx
theorem LS.same {mg:Str->Option Value}{H0 H H':Hp}{x l y m a:Addr}{rs ps:List (List Int)} (h:LS mg H0 H x l y m a rs ps) (s:Same H H'):LS mg H0 H' x l y m a rs ps :=
 ⟨ZK h.d s,ZK h.o s,h.r.same s,h.f,h.g,h.n,h.la,h.ml,h.ma,h.zl,h.za,h.s.trans s⟩
theorem Zc2 {mg:Str->Option Value}{H H':Hp}{x l:Addr}{rs:List (List Int)} (h:DeskAt mg H x l rs) (e:∀b o,(∀xs:List V,o≠.lst xs)->H b=some o->H' b=some o) (hl:∀xs,H l=some (.lst xs)->H' l=some (.lst xs)):DeskAt mg H' x l rs:=by
 obtain⟨dx,fs,h1,h2,h3,h4,as,h5,h6,h7⟩:=h
 exact⟨dx,fs,e _ _ (λ_ z=>nomatch z) h1,h2,h3,h4,as,hl _ h5,h6,λi i1 i2=>e _ _ (λ_ z=>nomatch z) (h7 i i1 i2)⟩
theorem LS.deed {mg:Str->Option Value}{H0 H H':Hp}{x l y m a:Addr}{rs rs' ps:List (List Int)} (h:LS mg H0 H x l y m a rs ps) (e:Exc l H H') (d:DeskAt mg H' x l rs') (g:∀r∈rs',Few r) (n:0<rs'.length):LS mg H0 H' x l y m a rs' ps:=by
 obtain⟨_,_,_,_,_,_,as,hl,_⟩:=id h.d
 obtain⟨bs,b1,b2,b3,b4⟩:=id h.r
 exact⟨d,Zc2 h.o (λb o ho z=>e _ _ (λq=>by rw[q,hl]at z;cases z;exact ho _ rfl) z) (λxs z=>e _ _ h.ml z),⟨bs,e _ _ (λz=>h.la z.symm) b1,b2,b3,λi i1 i2=>e _ _ (ZcM h.d h.n (b4 i i1 i2)) (b4 i i1 i2)⟩,h.f,g,n,h.la,h.ml,h.ma,h.zl,h.za,h.s.exc h.zl e⟩
theorem LS.pot {mg:Str->Option Value}{H0 H H':Hp}{x l y m a p:Addr}{rs ps:List (List Int)} (h:LS mg H0 H x l y m a rs ps) (X:Zaz H a ps p) (P:ZA H p) (zp:H0 p=none) (n:0<ps.length) (e:Exc p H H'):LS mg H0 H' x l y m a rs ps/\Zaz H' a ps p:=by
 have nap:a≠p:=λz=>by
  obtain⟨as,h1,_,_,h4,_⟩:=X
  obtain⟨g,hg,_⟩:=P
  rw[z,hg]at h1
  cases as with
  |nil=>simp at h4;omega
  |cons b q=>simp at h1
 have X':Zaz H' a ps p:=Zak X (λxs z=>e _ _ nap z) λb xs n1 _ z=>e _ _ n1 z
 exact⟨⟨ZdD h.d P e h.n,ZdD h.o P e (by decide),X'.rows,h.f,h.g,h.n,h.la,h.ml,h.ma,h.zl,h.za,h.s.exc zp e⟩,X'⟩
theorem LS.push {mg:Str->Option Value}{H0 H:Hp}{x l y m a b:Addr}{rs ps:List (List Int)}{ms:List Int}{xs:List V} (h:LS mg H0 H x l y m a rs ps) (ha:H a=some (.lst xs)) (hb:H b=some (.lst (ms.map V.int))) (n:b≠a) (hm:Few ms):LS mg H0 (upd H a (.lst (xs++[V.ref b]))) x l y m a rs (ps++[ms]):=by
 obtain⟨as,h1,h2,h3,h4⟩:=id h.r
 rw[ha]at h1
 cases h1
 refine⟨Zbx h.d ha h.la,Zbx h.o ha h.ma,Rows.push ha h2 h3 h4 hb n,λr hr=>?_,h.g,h.n,h.la,h.ml,h.ma,h.zl,h.za,h.s.exc h.za Exc.upd⟩
 rcases Ys.mp hr with z|z
 ·exact h.f r z
 ·rw[Yv.mp z];exact hm
theorem LS.pop {mg:Str->Option Value}{H0 H:Hp}{x l y m a:Addr}{rs ps:List (List Int)}{xs:List V} (h:LS mg H0 H x l y m a rs ps) (ha:H a=some (.lst xs)):LS mg H0 (upd H a (.lst xs.dropLast)) x l y m a rs ps.dropLast :=
 ⟨Zbx h.d ha h.la,Zbx h.o ha h.ma,ZfR h.r ha,λr hr=>h.f r (List.dropLast_subset _ hr),h.g,h.n,h.la,h.ml,h.ma,h.zl,h.za,h.s.exc h.za Exc.upd⟩
theorem Zby {rs:List (List Int)} (h:∀r∈rs,Few r) (h0:0<rs.length):Few (Zah rs):=h _ (List.mem_of_getElem? (ZdB h0))
theorem ZfS (rs:List (List Int)) (r:List Int):Zah (rs++[r])=r:=by unfold Zah;simp
theorem Zab {mg:Str->Option Value}{H:Hp}{x l:Addr}{rs:List (List Int)} (h:DeskAt mg H x l rs):∃dx fs,H x=some (.ins (clsAt mg "Desk") dx fs)/\fs.lookup (Str.ofString "say")=none:=by
 obtain⟨dx,fs,h1,_,h3,_⟩:=h
 exact⟨dx,fs,h1,h3⟩
theorem Zgy {K:PySem.W.Frag}{mg:Str->Option Value}{H:Hp}{x l:Addr}{rs:List (List Int)}{ms:List Int}{Q:VK}{E:XK} (h:DeskAt mg H x l rs) (n:0<rs.length) (n2:rs.length<=900) (g:∀r∈rs,Few r) (hm:Few ms) (k:∀H',Exc l H H'->DeskAt mg H' x l (rs++[ms])->Q (.str (Str.ofString "ok")) H'):Zai K mg [.ref x,.str (Str.ofString "row "++Zax ms)] H Q E :=
 ⟨x,l,rs,_,rfl,h,by omega,n,Zby g n,.inr (.inr ⟨.row ms,Zg2 ms,hm,λr' H' hon e d=>by cases hon;exact k H' e d,λhon=>nomatch hon⟩)⟩
theorem Ze0 {K:PySem.W.Frag}{mg:Str->Option Value}{H:Hp}{x l:Addr}{rs:List (List Int)}{Q:VK}{E:XK} (h:DeskAt mg H x l rs) (n:0<rs.length) (n2:rs.length<=900) (g:∀r∈rs,Few r) (k:∀H',Same H H'->Q (.str (Zax (Zah rs))) H'):Zai K mg [.ref x,.str (Str.ofString "show")] H Q E :=
 ⟨x,l,rs,_,rfl,h,by omega,n,Zby g n,.inl ⟨rfl,k⟩⟩
theorem Zle (z:Int) (h:z.natAbs<10 ^ 60):Few [z]:=⟨by simp,λx hx=>by rw[Yv.mp hx];exact h⟩
theorem Zg3 {ms:List Int} (h:Few ms):(Str.ofString "row ").length+(Zax ms).length<=sizeLine:=by
 have:=Zbw h
 have h4:(Str.ofString "row ").length=4:=by decide +kernel
 exact Yd (show _<=100000 by omega) (by decide)
theorem ok_law {f:Addr}{fd:FuncData} (F:Fun K "law" "law" s_law f fd) (GI_Desk:Zgq P w K mg base "Desk" 1 ["self"] (ZaF K mg)) (GM_Desk_say:Zba P w K mg base "Desk" "say" 5 ["self","line"] (Zai K mg)) (ZbO:Callee P w K mg base "_law_pot" 1 ["script","k"] (Zci K mg)) (Zh:Callee P w K mg base "_law_take" 1 ["pot","many"] (sp__law_take K mg)) (Zw:Callee P w K mg base "_law_row_text" 1 ["row"] (ZF K mg)) (ZS:Callee P w K mg base "_law_alone" 2 ["e","at"] (sp__law_alone K mg)) (Z1:Callee P w K mg base "_law_said" 6 ["desk","line"] (ZaW K mg)) (Zcq:Callee P w K mg base "_law_done" 7 ["desk","pot","pasts"] (ZbJ K mg)) (T:Txt K mg):FnOk P w K mg base (CXE P w) 8 f fd ["script"] (spLaw K):=by
 refine F.okX sc_law (λvs H Q E h=>?_) (λcdv A outer s H vs Q E hr h=>?_)
 ·obtain⟨a,ns,rfl,_⟩:=h;rfl
 obtain⟨sc,ss,rfl,hsc,hss,k1⟩:=h
 refine⟨_,(Zc (Zr (i:=1) sc_law.nd rfl (Or.inl rfl) (ZfL (mg:=mg) rfl GI_Desk (hr.mono (by decide)) rfl Zu))
   (Zc (Zr (i:=2) sc_law.nd rfl (Or.inl rfl) (ZfL (mg:=mg) rfl GI_Desk (hr.mono (by decide)) rfl Zu))
   (Zc (ZN (Za5 (mg:=mg) rfl GM_Desk_say (hr.mono (by decide)) Zao (pv 2) (Za Zo Zb)))
   (Zc (Zr (i:=3) sc_law.nd rfl (Or.inl rfl) (Z0 (Za (Z0 Zb) Zb)))
   (Zc (Zr (i:=4) sc_law.nd rfl (Or.inr rfl) (Zg ZbO (hr.mono (by decide)) rfl Zu (Za (pv 0) (Za Ze Zb))))
   (Zc (Zv (Zi ZG (Zg Zh (hr.mono (by decide)) rfl Zu (Za (pv 4) (Za Ze Zb))) Ze (Zk _)) (Zc (ZN (ZaN PySem.F.plainAttrs_list PySem.F.slot_list_append PySem.F.type_list_append Zac (pv 3) (Za (Zdu ["place","pot"] [none,some 4] rfl rfl rfl (Za1 rfl T.b_range (Za (Zl ZaP Ze (Zg Zh (hr.mono (by decide)) rfl Zu (Za (pv 4) (Za Ze Zb)))) Zb)) (λ_ _ _ _ _=>(ZP (i:=0) (show(["place","pot"]:List Str).Nodup from by decide +kernel) rfl (Or.inl rfl))) (λ_ _ _ _ _=>Zbv) (λ_ _ _ _ _=>(Zg Zh (hr.mono (by decide)) rfl Zu (Za (pv 1) (Za Ze Zb)))) Za2) Zb)))
   (Zf (Zv (Zi ZeJ (Za5 (mg:=mg) rfl GM_Desk_say (hr.mono (by decide)) Zao (pv 1) (Za (Zl ZbD Zo (Zg Zw (hr.mono (by decide)) rfl Zu (Za (Za3 Zam (pv 3) (ZcP Zbi Ze) (λ_ _=>rfl)) Zb))) Zb)) Zo (Zk _)) (Zf (Zq Zd8)) Zn))) Zn)
   (Zc (ZeP (Zf2 PassesOwn.never rfl (Za1 rfl T.b_range (Za (Zl Z8 Ze (ZU ZcI rfl T.b_int ZdV (Za (ZaV ZG (Zg Zh (hr.mono (by decide)) rfl Zu (Za (pv 4) (Za Ze Zb))) Ze (Zk _)) Zb))) Zb)) (ZP (i:=5) sc_law.nd rfl (Or.inl rfl)) (Zc (ZN (ZaN PySem.F.plainAttrs_list PySem.F.slot_list_append PySem.F.type_list_append Zac (pv 3) (Za (Z0 (Za (Zl ZcW (pv 5) Ze) Zb)) Zb)))
   (Zf (Zv (Zi ZeJ (Za5 (mg:=mg) rfl GM_Desk_say (hr.mono (by decide)) Zu (pv 1) (Za (Zl ZbD Zo (Zg Zw (hr.mono (by decide)) rfl Zu (Za (Za3 Zam (pv 3) (ZcP Zbi Ze) (λ_ _=>rfl)) Zb))) Zb)) Zo (Zk _)) (Zf (Zq Zd8)) Zn)))))
   (Zc (ZeP (Zf2 PassesOwn.never rfl (Za1 rfl T.b_range (Za (Zm (Zfz rfl) rfl T.b_max Zjz (Za Ze (Za (Zm (Zin rfl) rfl T.b_min bt_min (Za (Zm (Zy (K:=K) rfl) rfl T.b_len Yw (Za (pv 0) Zb)) (Za Ze Zb))) Zb))) Zb)) (ZP (i:=6) sc_law.nd rfl (Or.inl rfl)) (Zc (Zv (Zja (ZeH (Zg Zcq (hr.mono (by decide)) rfl Zu (Za (pv 1) (Za (Zg ZbO (hr.mono (by decide)) rfl Zu (Za (pv 0) (Za (pv 6) Zb))) (Za (pv 3) Zb)))))) (Zf (Zq Zd8)) Zn)
   (Zf (Zv (Zi ZeJ (Za5 (mg:=mg) rfl GM_Desk_say (hr.mono (by decide)) Zu (pv 1) (Za Zo Zb)) (Zg Zw (hr.mono (by decide)) rfl Zu (Za (Za3 Zam (pv 3) (ZcP Zbi Ze) (λ_ _=>rfl)) Zb)) (Zk _)) (Zf (Zq Zd8)) Zn)))))
   (Zc (ZeP (Zje PassesOwn.never (Zi Zji (Zm (Zy (K:=K) rfl) rfl T.b_len Yw (Za (pv 3) Zb)) Ze (Zk _)) (Zc (ZN (ZeN PySem.F.plainAttrs_list PySem.F.slot_list_pop PySem.F.type_list_pop Zht (pv 3)))
   (Zf (Zv (PW.pt (ZhI (Zi ZeJ (Za5 (mg:=mg) rfl GM_Desk_say (hr.mono (by decide)) Zu (pv 1) (Za Zo Zb)) Zo (Zk _)) (Zf0 (Zi ZeJ (Za5 (mg:=mg) rfl GM_Desk_say (hr.mono (by decide)) Zu (pv 1) (Za Zo Zb)) (Zg Zw (hr.mono (by decide)) rfl Zu (Za (Za3 Zam (pv 3) (ZcP Zbi Ze) (λ_ _=>rfl)) Zb)) (Zk _))))) (Zf (Zq Zd8)) Zn)))))
   (Zf (Zq (Zjc (Zg ZS (hr.mono (by decide)) rfl Zu (Za (Zg Z1 (hr.mono (by decide)) rfl Zu (Za (pv 1) (Za Zo Zb))) (Za Ze Zb))) (Zjb (ZaV ZG (Za5 (mg:=mg) rfl GM_Desk_say (hr.mono (by decide)) Zao (pv 2) (Za Zo Zb)) Zo (Zk _))))))))))))))),?_⟩
 refine ZcO (fun σ Hx=>∃(x l:Addr),σ=[some (.ref sc),some (.ref x),none,none,none,none,none]/\H l=none/\DeskAt mg Hx x l [[]]/\Same H Hx) (λR hR=>?_) ?_
 ·walk_at "rd"
  intro x dx zx zdx ne
  refine⟨x,dx,rfl,Zd,λl H' zl e d=>⟨rfl,hR _ _ ⟨x,l,rfl,?_,d,?_⟩⟩⟩
  ·exact((Same.refl H).ZC (o:=.own x) zdx |>.free (by rw[Zj (λz=>by rw[z,Zd]at zl;cases zl)]at zl;exact zl))
  ·intro b o hb
   have n1:b≠x:=λz=>by rw[z,zx]at hb;cases hb
   have n2:b≠dx:=λz=>by rw[z,zdx]at hb;cases hb
   exact e _ _ n1 (by rw[Zj n1,Zj n2];exact hb)
 rintro σ H1 ⟨x,l,rfl,zl,hD,s1⟩
 refine ZcO (fun σ Hx=>∃(y m:Addr),σ=[some (.ref sc),some (.ref x),some (.ref y),none,none,none,none]/\H1 m=none/\DeskAt mg Hx y m [[]]/\Same H1 Hx) (λR hR=>?_) ?_
 ·walk_at "rd"
  intro y dy zy zdy ne
  refine⟨y,dy,rfl,Zd,λm H' zm e d=>⟨rfl,hR _ _ ⟨y,m,rfl,?_,d,?_⟩⟩⟩
  ·exact((Same.refl H1).ZC (o:=.own y) zdy |>.free (by rw[Zj (λz=>by rw[z,Zd]at zm;cases zm)]at zm;exact zm))
  ·intro b o hb
   have n1:b≠y:=λz=>by rw[z,zy]at hb;cases hb
   have n2:b≠dy:=λz=>by rw[z,zdy]at hb;cases hb
   exact e _ _ n1 (by rw[Zj n1,Zj n2];exact hb)
 rintro σ H2 ⟨y,m,rfl,zm,hO,s2⟩
 refine ZcO (fun σ Hx=>σ=[some (.ref sc),some (.ref x),some (.ref y),none,none,none,none]/\DeskAt mg Hx x l [[]]/\DeskAt mg Hx y m [[],[3,1,2]]/\Same H1 Hx) (λR hR=>?_) ?_
 ·walk_at "rd"
  obtain⟨dx,fs,c1,c2⟩:=Zab hO
  have nml:m≠l:=λz=>by obtain⟨_,_,_,_,_,_,as,h5,_⟩:=hD;rw[<-z,zm]at h5;cases h5
  refine⟨dx,fs,c1,c2,?_⟩
  rw[show Str.ofString "row 3 1 2"=Str.ofString "row "++Zax [3,1,2] by decide +kernel]
  refine Zgy hO (by decide) (by decide) (λr hr=>by rw[Yv.mp hr];exact⟨by decide,λx hx=>nomatch hx⟩) ⟨by decide,by decide⟩ λH' e d=>hR _ _ ⟨rfl,?_,d,s2.exc zm e⟩
  obtain⟨_,_,_,_,_,_,as,hm,_⟩:=id hO
  exact Zc2 (ZK hD s2) (λb o ho z=>e _ _ (λq=>by rw[q,hm]at z;cases z;exact ho _ rfl) z) (λxs z=>e _ _ (λq=>nml q.symm) z)
 rintro σ H3 ⟨rfl,hD3,hO3,s3⟩
 have nml:m≠l:=λz=>by obtain⟨_,_,_,_,_,_,as,h5,_⟩:=hD;rw[<-z,zm]at h5;cases h5
 refine ZcO (fun σ Hx=>∃(a:Addr),σ=[some (.ref sc),some (.ref x),some (.ref y),some (.ref a),none,none,none]/\LS mg H Hx x l y m a [[]] [[]]) (λR hR=>?_) ?_
 ·walk_at "rd"
  refine⟨by decide,λb zb=>⟨by decide,λa za=>hR _ _ ⟨a,rfl,?_⟩⟩⟩
  have g1:=(Same.refl H3).upd (o:=.lst []) zb
  have g2:=g1.ZC (o:=.lst [V.ref b]) za
  have hb:=((Same.refl _).upd (o:=.lst [V.ref b]) za) _ _ (Zd (H:=H3) (a:=b) (o:=.lst []))
  have ha:=Zd (H:=upd H3 b (.lst [])) (a:=a) (o:=.lst [V.ref b])
  have za3:=g1.free za
  have nba:b≠a:=λz=>by rw[z,Zd]at za;cases za
  generalize upd (upd H3 b (.lst [])) a (.lst [V.ref b])=H4 at g2 hb ha⊢
  have nel:∀{c:Addr}{xs:List V},H3 c=some (.lst xs)->c≠a:=λe z=>by rw[z,za3]at e;cases e
  obtain⟨_,_,_,_,_,_,_,q1,_⟩:=id hD3
  obtain⟨_,_,_,_,_,_,_,q2,_⟩:=id hO3
  have f0:∀r∈([[]]:List (List Int)),Few r:=λr hr=>by rw[Yv.mp hr];exact⟨by decide,λx hx=>nomatch hx⟩
  refine⟨ZK hD3 g2,ZK hO3 g2,⟨[b],ha,by simpa using λz=>nba z.symm,rfl,λi i1 i2=>?_⟩,f0,f0,by decide,nel q1,nml,nel q2,zl,(s1.trans s3).free za3,(s1.trans s3).trans g2⟩
  have:i=0:=by simp at i1;omega
  subst this
  exact hb
 clear hD hO s2 s1 s3 hD3 hO3 zl zm nml H3 H2 H1
 rintro σ H1 ⟨a,rfl,L1⟩
 refine ZcO (fun σ Hx=>∃(p:Addr),σ=[some (.ref sc),some (.ref x),some (.ref y),some (.ref a),some (.ref p),none,none]/\LS mg H Hx x l y m a [[]] [[]]/\Zaz Hx a [[]] p/\ZA Hx p/\H p=none) (λR hR=>?_) ?_
 ·walk_at "rd"
  refine⟨sc,ss,0,rfl,L1.s.seq hsc,by decide,by decide,λp H2 zp s2 P2=>hR _ _ ⟨p,rfl,L1.same s2,?_,P2,L1.s.free zp⟩⟩
  obtain⟨as,h1,h2,h3,h4⟩:=id L1.r
  refine⟨as,s2 _ _ h1,h2,λhp=>?_,h3,λi i1 i2=>s2 _ _ (h4 i i1 i2)⟩
  obtain⟨i,hi,e⟩:=YY hp
  have:=h4 i hi (by omega)
  rw[e,zp]at this;cases this
 rintro σ H2 ⟨p,rfl,L2,X2,P2,zp⟩
 refine ZcO (fun σ Hx=>∃(rs:List (List Int)),σ=[some (.ref sc),some (.ref x),some (.ref y),some (.ref a),some (.ref p),none,none]/\rs.length<=2/\LS mg H Hx x l y m a rs rs/\Zaz Hx a rs p/\ZA Hx p) (λR hR=>?_) ?_
 ·walk_at "rd"
  refine⟨p,2,rfl,by decide,by decide,P2,λd0 H3 _ _ P3 e3=>⟨rfl,?_⟩⟩
  obtain⟨L3,X3⟩:=L2.pot X2 P2 zp (by decide) e3
  refine Zs (λ_=>?_) λ_=>hR _ _ ⟨_,rfl,by decide,L3,X3,P3⟩
  obtain⟨xs0,_,ha3,_⟩:=ZX L3.r (by decide)
  refine⟨ZT ha3,p,2,rfl,by decide,by decide,P3,λc H4 c0 c1 P4 e4=>⟨c,rfl,by omega,by omega,?_⟩⟩
  obtain⟨L4,X4⟩:=L3.pot X3 P3 zp (by decide) e4
  refine ZjG (n:=(39+c).toNat) (λk acc Hz=>∃bs:List Int,acc=bs.map V.int/\bs.length=k/\(∀z∈bs,z.natAbs<10 ^ 60)/\ZA Hz p/\Exc p H4 Hz) (YH (show _<=1000 by omega) (by decide)) ⟨[],rfl,rfl,(λz hz=>nomatch hz),P4,(Same.refl H4).ZgN⟩ (λj acc Hz _ hj=>hj) (λacc Hz _=>Yf _) ?_ ?_
  ·rintro k x2 acc Hw Hw' hk hacc ⟨bs,rfl,hbl,hbz,P5,e5⟩ ⟨rfl,rfl⟩
   walk_at "rd"
   exact⟨p,3,rfl,by decide,by decide,P5,λc H5 c0 c1 P6 e6=>CA.take hk hacc ⟨bs++[c],by simp,by simp[hbl],λz hz=>(Ys.mp hz).elim (hbz z) λq=>by rw[Yv.mp q];omega,P6,e5.trans e6⟩⟩
  ·rintro b acc Hz ⟨bs,rfl,hbl,hbz,P5,e5⟩ _ zb
   obtain⟨L5,X5⟩:=L4.pot X4 P4 zp (by decide) e5
   have hF:Few bs:=⟨by omega,hbz⟩
   have gb:=(Same.refl Hz).upd (o:=.lst (bs.map V.int)) zb
   have hb:=Zd (H:=Hz) (a:=b) (o:=.lst (bs.map V.int))
   have P6:=P5.same gb
   have nbp:b≠p:=P5.ne zb
   have L6:=L5.same gb
   have X6:Zaz (upd Hz b (.lst (bs.map V.int))) a [[]] p:=Zak X5 (λxs z=>gb _ _ z) λ_ _ _ _ z=>gb _ _ z
   have nba:b≠a:=λz=>by obtain⟨as,h1,_⟩:=X5;rw[<-z,zb]at h1;cases h1
   generalize upd Hz b (.lst (bs.map V.int))=H6 at gb hb P6 L6 X6⊢
   obtain⟨as,h1,h2,h3,h4,h5⟩:=id X6
   have nap:a≠p:=λz=>by obtain⟨g,hg,_⟩:=P6;rw[z,hg]at h1;cases as<;>simp at h1 h4
   have L7:=L6.push h1 hb nba hF
   obtain⟨dx,fs,c1,c2⟩:=Zab L7.d
   obtain⟨xs,q,ha7,_,hat,_,hq⟩:=ZX L7.r (by simp)
   have X7:Zaz (upd H6 a (.lst (as.map V.ref++[V.ref b]))) a ([[]]++[bs]) p:=by
    obtain⟨as',k1',k2',k4',k5'⟩:=id L7.r
    refine⟨as',k1',k2',λhp=>?_,k4',k5'⟩
    rw[Zd]at k1'
    have e:=HO.lst.inj (Yq k1')
    have:V.ref p∈as.map V.ref++[V.ref b]:=by rw[e];exact YD.mpr ⟨p,hp,rfl⟩
    rcases Ys.mp this with z|z
    ·obtain⟨c,hc,ec⟩:=YD.mp z
     cases ec
     exact h3 hc
    ·rw[Yv]at z
     exact nbp (V.ref.inj z).symm
   have P7:ZA (upd H6 a (.lst (as.map V.ref++[V.ref b]))) p:=by
    obtain⟨g,hg,hg2⟩:=P6
    exact⟨g,by rw[Zj (λz=>nap z.symm)];exact hg,hg2⟩
   rw[ZfS]at hq
   refine⟨_,h1,YH (show _<=1000 by rw[Yp,h4];simp) (by decide),dx,fs,c1,c2,xs,SqL.of ha7,_,hat,q,bs,rfl,SqL.of hq,hF,λH8 s8=>⟨_,rfl,Zg3 hF,?_⟩⟩
   refine Zgy (ZK L7.d s8) (by decide) (by decide) L7.g hF λH9 e9 d9=>⟨rfl,Zs (λz=>absurd rfl z) λ_=>hR _ _ ⟨_,rfl,by simp,(L7.same s8).deed e9 d9 L7.f (by simp),?_,?_⟩⟩
   ·exact Zak X7 (λxs z=>e9 _ _ (λq=>L7.la q.symm) (s8 _ _ z)) λc ys _ _ z=>e9 _ _ (ZcM (ZK L7.d s8) L7.n (s8 _ _ z)) (s8 _ _ z)
   ·obtain⟨g,hg,hg2⟩:=P7.same s8
    exact⟨g,e9 _ _ (ZcM (xs:=[g]) (ZK L7.d s8) L7.n hg) hg,hg2⟩
 clear L1 L2 X2 P2 H1 H2
 rintro σ H2 ⟨rs,rfl,n2,L2,X2,P2⟩
 refine ZcO (fun σ Hx=>∃(rs:List (List Int)) (v5:Option V),σ=[some (.ref sc),some (.ref x),some (.ref y),some (.ref a),some (.ref p),v5,none]/\rs.length<=200/\LS mg H Hx x l y m a rs rs) (λR hR=>?_) ?_
 ·walk_at "rd"
  refine⟨p,3,rfl,by decide,by decide,P2,λd0 H3 _ _ P3 e3=>⟨rfl,by unfold IntMulOk;split<;>decide,by split<;>decide,by split<;>decide,?_⟩⟩
  obtain⟨L3,X3⟩:=L2.pot X2 P2 zp L2.n e3
  refine ZcH (λi σ Hx=>∃(rs:List (List Int)) (v5:Option V),σ=[some (.ref sc),some (.ref x),some (.ref y),some (.ref a),some (.ref p),v5,none]/\rs.length<=2+i/\LS mg H Hx x l y m a rs rs) ⟨rs,none,rfl,by omega,L3⟩ ?_ ?_
  ·rintro i σ H4 hi ⟨rs,v5,rfl,hl,L4⟩
   have hi2:i<150:=by
    revert hi
    split<;>omega
   obtain⟨xs0,_,ha4,_⟩:=ZX L4.r L4.n
   walk_at "rd"
   refine⟨ZT ha4,by decide,by decide,λb zb=>?_⟩
   have gb:=(Same.refl H4).upd (o:=.lst [V.int ((0+(i:Int)) % 7)]) zb
   have hb:=Zd (H:=H4) (a:=b) (o:=.lst [V.int ((0+(i:Int)) % 7)])
   have nba:b≠a:=λz=>by rw[z,ha4]at zb;cases zb
   have hF:Few [(0+(i:Int)) % 7]:=Zle _ (by omega)
   have L5:=L4.same gb
   have ha5:=gb _ _ ha4
   generalize upd H4 b (.lst [V.int ((0+(i:Int)) % 7)])=H5 at hb L5 ha5⊢
   have L7:=L5.push ha5 (ms:=[(0+(i:Int)) % 7]) hb nba hF
   obtain⟨dx,fs,c1,c2⟩:=Zab L7.d
   obtain⟨xs,q,ha7,_,hat,_,hq⟩:=ZX L7.r (by simp)
   rw[ZfS]at hq
   have hxl0:xs0.length=rs.length:=by
    obtain⟨as,h1,_,h3,_⟩:=L4.r
    rw[ha4]at h1
    cases h1
    simpa using h3
   refine⟨_,ha5,YH (show _<=1000 by omega) (by decide),dx,fs,c1,c2,xs,SqL.of ha7,_,hat,q,_,rfl,SqL.of hq,hF,λH8 s8=>⟨_,rfl,Zg3 hF,?_⟩⟩
   exact Zgy (ZK L7.d s8) L7.n (by omega) L7.g hF λH9 e9 d9=>⟨rfl,Zs (λz=>absurd rfl z) λ_=>⟨_,by simp;omega,(L7.same s8).deed e9 d9 L7.f (by simp)⟩⟩
  ·rintro σ H4 ⟨rs,v5,rfl,hl,L4⟩
   exact hR _ _ ⟨rs,v5,rfl,by revert hl;split<;>omega,L4⟩
 clear L2 X2 P2 H2 n2 rs
 rintro σ H2 ⟨rs,v5,rfl,n2,L2⟩
 refine ZcO (fun σ Hx=>∃(rs:List (List Int)) (v5 v6:Option V),σ=[some (.ref sc),some (.ref x),some (.ref y),some (.ref a),some (.ref p),v5,v6]/\rs.length<=300/\LS mg H Hx x l y m a rs rs) (λR hR=>?_) ?_
 ·walk_at "rd"
  refine⟨_,.inl (L2.s.seq hsc),by split<;>(try split)<;>omega,by split<;>(try split)<;>omega,?_⟩
  refine ZcH (λi σ Hx=>∃(rs:List (List Int)) (v6:Option V),σ=[some (.ref sc),some (.ref x),some (.ref y),some (.ref a),some (.ref p),v5,v6]/\rs.length<=200+i/\LS mg H Hx x l y m a rs rs) ⟨rs,none,rfl,by omega,L2⟩ ?_ ?_
  ·clear L2 n2
   rintro i σ H3 hi ⟨rs,v6,rfl,hl,L3⟩
   have hi2:i<64:=by
    revert hi
    split
    ·split<;>omega
    ·omega
   walk_at "rd"
   refine⟨sc,ss,_,rfl,L3.s.seq hsc,by omega,by omega,λq H4 zq s4 P4=>?_⟩
   have L4:=L3.same s4
   have X4:Zaz H4 a rs q:=by
    obtain⟨as,h1,h2,h3,h4⟩:=id L3.r
    refine⟨as,s4 _ _ h1,h2,λhp=>?_,h3,λi i1 i2=>s4 _ _ (h4 i i1 i2)⟩
    obtain⟨i,hi,e⟩:=YY hp
    have:=h4 i hi (by omega)
    rw[e,zq]at this;cases this
   have ne:∀{b:Addr}{o:HO},H3 b=some o->b≠q:=λe z=>by rw[z,zq]at e;cases e
   obtain⟨_,_,d1,_,_,_,_,d2,_⟩:=id L3.d
   obtain⟨_,_,_,_,_,_,_,o2,_⟩:=id L3.o
   obtain⟨_,r1,_⟩:=id L3.r
   refine⟨x,q,a,l,rs,rfl,L4.d,X4,P4,ne d1,ne d2,ne r1,L4.la,by omega,L4.n,L4.f,λrs' H5 d5 r5 len5 pos5 few5 ex=>⟨true,rfl,Zs (λz=>nomatch z) λ_=>?_⟩⟩
   have zqH:=L3.s.free zq
   obtain⟨gq,hq,_⟩:=id P4
   have L5:LS mg H H5 x l y m a rs' rs':=⟨d5,Zc2 L4.o (λb o ho z=>ex _ _ (λw=>by rw[w,hq]at z;cases z;exact ho _ rfl) (λw=>by rw[w,s4 _ _ d2]at z;cases z;exact ho _ rfl) (λw=>by rw[w,s4 _ _ r1]at z;cases z;exact ho _ rfl) z) (λxs z=>ex _ _ (ne o2) L4.ml L4.ma z),r5,few5,few5,pos5,L4.la,L4.ml,L4.ma,L4.zl,L4.za,λb o hb=>ex _ _ (λw=>by rw[w,zqH]at hb;cases hb) (λw=>by rw[w,L4.zl]at hb;cases hb) (λw=>by rw[w,L4.za]at hb;cases hb) (L4.s _ _ hb)⟩
   obtain⟨dx,fs,c1,c2⟩:=Zab d5
   refine⟨dx,fs,c1,c2,Ze0 d5 pos5 (by omega) few5 λH6 s6=>?_⟩
   obtain⟨xs,q',ha6,_,hat,_,hq'⟩:=ZX (L5.same s6).r pos5
   exact⟨xs,SqL.of ha6,_,hat,q',_,rfl,SqL.of hq',Zby few5 pos5,λH7 s7=>⟨rfl,Zs (λz=>absurd rfl z) λ_=>⟨rs',by omega,(L5.same s6).same s7⟩⟩⟩
  ·rintro σ H4 ⟨rs,v6,rfl,hl,L4⟩
   exact hR _ _ ⟨rs,v5,v6,rfl,by revert hl;split<;>(try split)<;>omega,L4⟩
 clear L2 H2 n2 rs
 rintro σ H2 ⟨rs,v5,v6,rfl,n2,L2⟩
 refine ZcO (fun σ Hx=>∃(rs:List (List Int)),σ=[some (.ref sc),some (.ref x),some (.ref y),some (.ref a),some (.ref p),v5,v6]/\rs.length=1/\LS mg H Hx x l y m a rs rs) (λR hR=>?_) ?_
 ·walk_at "rd"
  refine Zk1 (λk σ Hx=>∃(rs:List (List Int)),σ=[some (.ref sc),some (.ref x),some (.ref y),some (.ref a),some (.ref p),v5,v6]/\rs.length=k+1/\k<=300/\LS mg H Hx x l y m a rs rs) (rs.length-1) ⟨rs,rfl,by have:=L2.n;omega,by omega,L2⟩ ?_
  clear L2 n2
  rintro k σ H3 ⟨rs,rfl,hk,hk3,L3⟩
  obtain⟨xs,q,ha3,hxl,_,hxs,_⟩:=ZX L3.r L3.n
  walk_at "rd"
  refine⟨_,.inl (SqL.of ha3),Zs (λz1=>⟨fun σ' H'=>∃(rs':List (List Int)),σ'=[some (.ref sc),some (.ref x),some (.ref y),some (.ref a),some (.ref p),v5,v6]/\rs'.length=k/\LS mg H H' x l y m a rs' rs',fun σ' H' ⟨rs',e,hl,L⟩=>⟨k-1,by omega,e,rs',by omega,by omega,L⟩,ZT ha3,_,ha3,_,hxs,?_⟩) λz1=>hR _ _ ⟨rs,rfl,by omega,L3⟩⟩
  have L4:=L3.pop ha3
  have hdl:rs.dropLast.length=k:=by simp;omega
  have ha4:=Zd (H:=H3) (a:=a) (o:=.lst xs.dropLast)
  generalize upd H3 a (.lst xs.dropLast)=H4 at L4 ha4⊢
  obtain⟨dx,fs,c1,c2⟩:=Zab L4.d
  refine⟨dx,fs,c1,c2,x,l,rs,_,rfl,L4.d,by omega,L4.n,Zby L4.g L4.n,.inr (.inl ⟨rfl,λh1 H5 e5 d5=>⟨rfl,Zs (λz=>absurd rfl z) λ_=>?_⟩,λh1=>absurd h1 (by omega)⟩)⟩
  have L5:=L4.deed e5 d5 L4.f (by omega)
  obtain⟨dx,fs,c1,c2⟩:=Zab d5
  refine⟨dx,fs,c1,c2,Ze0 d5 (by omega) (by omega) L4.f λH6 s6=>?_⟩
  obtain⟨xs',q',ha6,_,hat,_,hq'⟩:=ZX (L5.same s6).r (by omega)
  exact⟨xs',SqL.of ha6,_,hat,q',_,rfl,SqL.of hq',Zby L4.f (by omega),λH7 s7=>⟨rfl,Zs (λz=>absurd rfl z) λ_=>⟨rs.dropLast,rfl,hdl,(L5.same s6).same s7⟩⟩⟩
 clear L2 H2 n2 rs
 rintro σ H2 ⟨rs,rfl,n2,L2⟩
 walk_at "rd"
 refine⟨x,l,rs,_,rfl,L2.d,by omega,L2.n,Zby L2.g L2.n,.inl ⟨rfl,λh=>absurd h (by omega),λh e H3 s3 he=>⟨e,_,7,rfl,he,Zdz T,λH4 s4=>⟨true,rfl,Zs (λ_=>?_) λz=>absurd rfl z⟩⟩⟩⟩
 have O4:=ZK L2.o (s3.trans s4)
 obtain⟨dy,fs,c1,c2⟩:=Zab O4
 refine⟨dy,fs,c1,c2,Ze0 O4 (by decide) (by decide) (λr hr=>?_) λH5 s5=>⟨rfl,?_⟩⟩
 ·simp only[Yj,List.not_mem_nil,or_false]at hr
  rcases hr with rfl|rfl
  ·exact⟨by decide,λx hx=>nomatch hx⟩
  ·exact⟨by decide,by decide⟩
 ·rw[show Zax (Zah [[],[3,1,2]])=Str.ofString "3 1 2" by decide +kernel,YC rfl]
  exact k1 H5
end
theorem all_mk {l:PySem.W.OpenLaw}{w:World}{K:PySem.W.Frag}{h:Heap}{mg:Str->Option Value}{fa:Addr} (X:K.In h) (G:h.Ns mainGlobals mg) (hfa:mg "law"=some (.ref fa))
  {C_Desk:Addr} (n_Desk:nsIn K mainGlobals "Desk"=some (some (.ref C_Desk))) (pg_Desk:PySem.W.plainGet K C_Desk Str.empty=true) (hd_Desk:PySem.W.hasDictIn K C_Desk=true) (po_Desk:PySem.W.plainOver K C_Desk=true) (sa_Desk:PySem.W.findIn K (.ref C_Desk) "__setattr__"=some (some (.builtin "object.__setattr__"))) (mk_Desk:PySem.W.makesIn K C_Desk=true) (kc_Desk:keepIn K (.ref C_Desk)=true)
  (na_Desk_rows:PySem.W.findIn K (.ref C_Desk) "rows"=some none)
  {Zb8:Tok}{oc3_need_numbers:Value}{od3_need_numbers:Option Addr}{Zet:Nat}{sl3_need_numbers:Array (Option Value)}
  (Zau:nsIn K mainGlobals "need_numbers"=some (some (.ref Zcr))) (Za7:K.lookup Zcr=some ⟨Zi1,Zi2,.func (fnOf "need_numbers" "need_numbers" (defArgs s_need_numbers) (defBody s_need_numbers) (defScope s_need_numbers) (.ref Ze1) Zi3 Zi4 Zi5 Zi6 Zeu Zi7),Zi8⟩) (Za8:codeIn K Zeu "need_numbers"=true) (Z2:keepIn K (.ref Zcr)=true)
  (Zav:K.lookup Ze1=some ⟨oc3_need_numbers,od3_need_numbers,.seq #[.int 1 Zb8] Zet,sl3_need_numbers⟩)
  (Zcs:nsIn K mainGlobals "need_room"=some (some (.ref Zeg))) (Zct:K.lookup Zeg=some ⟨Zlf,Zlg,.func (fnOf "need_room" "need_room" (defArgs Zad) (defBody Zad) (defScope Zad) .none Zlh Zli Zlj Zlk Zgz Zll),Zlm⟩) (Zcu:codeIn K Zgz "need_room"=true) (Zbc:keepIn K (.ref Zeg)=true)
  (Zc6:nsIn K mainGlobals "row_text"=some (some (.ref Ze2))) (Zc7:K.lookup Ze2=some ⟨ZlT,ZlU,.func (fnOf "row_text" "row_text" (defArgs ZaA) (defBody ZaA) (defScope ZaA) .none ZlV ZlW ZlX ZlY Zg4 ZlZ),Zl0⟩) (Zc8:codeIn K Zg4 "row_text"=true) (ZbP:keepIn K (.ref Ze2)=true)
  (Zbo:nsIn K mainGlobals "read_number"=some (some (.ref ZcS))) (Zbp:K.lookup ZcS=some ⟨ZjX,ZjY,.func (fnOf "read_number" "read_number" (defArgs ZV) (defBody ZV) (defScope ZV) .none ZjZ Zj0 Zj1 Zj2 Ze3 Zj3),Zj4⟩) (Zbq:codeIn K Ze3 "read_number"=true) (ZaL:keepIn K (.ref ZcS)=true)
  (Zc9:nsIn K mainGlobals "read_row"=some (some (.ref Ze4))) (Zda:K.lookup Ze4=some ⟨Zl1,Zl2,.func (fnOf "read_row" "read_row" (defArgs ZaB) (defBody ZaB) (defScope ZaB) .none Zl3 Zl4 Zl5 Zl6 Zg5 Zl7),Zl8⟩) (Zdb:codeIn K Zg5 "read_row"=true) (ZbQ:keepIn K (.ref Ze4)=true)
  (ZbR:nsIn K mainGlobals "tell_row"=some (some (.ref ZbS))) (Zdc:K.lookup ZbS=some ⟨Zl9,Zma,.func (fnOf "tell_row" "tell_row" (defArgs ZaC) (defBody ZaC) (defScope ZaC) .none Zmb Zmc Zmd Zme Zg6 Zmf),Zmg⟩) (Zdd:codeIn K Zg6 "tell_row"=true) (ZbT:keepIn K (.ref ZbS)=true)
  (ZbU:nsIn K mainGlobals "need_words"=some (some (.ref ZdE))) (ZbV:K.lookup ZdE=some ⟨Zkj,Zkk,.func (fnOf "need_words" "need_words" (defArgs Z4) (defBody Z4) (defScope Z4) .none Zkl Zkm Zkn Zko Zfq Zkp),Zkq⟩) (ZbW:codeIn K Zfq "need_words"=true) (ZaX:keepIn K (.ref ZdE)=true)
  (ZaH:nsIn K mainGlobals "numbers_behind"=some (some (.ref Zbz))) (ZaI:K.lookup Zbz=some ⟨Zid,Zie,.func (fnOf "numbers_behind" "numbers_behind" (defArgs ZE) (defBody ZE) (defScope ZE) .none Zif Zig Zih Zii ZdF Zij),Zik⟩) (ZaJ:codeIn K ZdF "numbers_behind"=true) (Z7:keepIn K (.ref Zbz)=true)
  (ZbX:nsIn K mainGlobals "row_behind"=some (some (.ref ZdG))) (ZbY:K.lookup ZdG=some ⟨Zkr,Zks,.func (fnOf "row_behind" "row_behind" (defArgs Z5) (defBody Z5) (defScope Z5) .none Zkt Zku Zkv Zkw Zfr Zkx),Zky⟩) (ZbZ:codeIn K Zfr "row_behind"=true) (ZaY:keepIn K (.ref ZdG)=true)
  (Zbr:nsIn K mainGlobals "row_by_deed"=some (some (.ref ZcT))) (Zbs:K.lookup ZcT=some ⟨Zj5,Zj6,.func (fnOf "row_by_deed" "row_by_deed" (defArgs ZW) (defBody ZW) (defScope ZW) .none Zj7 Zj8 Zj9 Zka Ze5 Zkb),Zkc⟩) (Zbt:codeIn K Ze5 "row_by_deed"=true) (ZaM:keepIn K (.ref ZcT)=true)
  {f_Desk___init__:Addr}{od_Desk___init__ an_Desk___init__:Option Addr}{sl_Desk___init__:Array (Option Value)}{oc_Desk___init__ kV_Desk___init__ dc_Desk___init__ pm_Desk___init__ cd_Desk___init__ ct_Desk___init__:Value}
  (a_Desk___init__:PySem.W.findIn K (.ref C_Desk) "__init__"=some (some (.ref f_Desk___init__))) (i_Desk___init__:PySem.W.isFn K (.ref f_Desk___init__)=true) (l_Desk___init__:K.lookup f_Desk___init__=some ⟨oc_Desk___init__,od_Desk___init__,.func (fnOf "__init__" "Desk.__init__" (defArgs ZI) (defBody ZI) (defScope ZI) .none kV_Desk___init__ dc_Desk___init__ pm_Desk___init__ an_Desk___init__ cd_Desk___init__ ct_Desk___init__),sl_Desk___init__⟩) (c_Desk___init__:codeIn K cd_Desk___init__ "Desk.__init__"=true) (k_Desk___init__:keepIn K (.ref f_Desk___init__)=true)
  {f_Desk_say:Addr}{od_Desk_say an_Desk_say:Option Addr}{sl_Desk_say:Array (Option Value)}{oc_Desk_say kV_Desk_say dc_Desk_say pm_Desk_say cd_Desk_say ct_Desk_say:Value}
  (a_Desk_say:PySem.W.findIn K (.ref C_Desk) "say"=some (some (.ref f_Desk_say))) (i_Desk_say:PySem.W.isFn K (.ref f_Desk_say)=true) (l_Desk_say:K.lookup f_Desk_say=some ⟨oc_Desk_say,od_Desk_say,.func (fnOf "say" "Desk.say" (defArgs ZaD) (defBody ZaD) (defScope ZaD) .none kV_Desk_say dc_Desk_say pm_Desk_say an_Desk_say cd_Desk_say ct_Desk_say),sl_Desk_say⟩) (c_Desk_say:codeIn K cd_Desk_say "Desk.say"=true) (k_Desk_say:keepIn K (.ref f_Desk_say)=true)
  {f_Desk_go_back:Addr}{od_Desk_go_back an_Desk_go_back:Option Addr}{sl_Desk_go_back:Array (Option Value)}{oc_Desk_go_back kV_Desk_go_back dc_Desk_go_back pm_Desk_go_back cd_Desk_go_back ct_Desk_go_back:Value}
  (a_Desk_go_back:PySem.W.findIn K (.ref C_Desk) "go_back"=some (some (.ref f_Desk_go_back))) (i_Desk_go_back:PySem.W.isFn K (.ref f_Desk_go_back)=true) (l_Desk_go_back:K.lookup f_Desk_go_back=some ⟨oc_Desk_go_back,od_Desk_go_back,.func (fnOf "go_back" "Desk.go_back" (defArgs ZQ) (defBody ZQ) (defScope ZQ) .none kV_Desk_go_back dc_Desk_go_back pm_Desk_go_back an_Desk_go_back cd_Desk_go_back ct_Desk_go_back),sl_Desk_go_back⟩) (c_Desk_go_back:codeIn K cd_Desk_go_back "Desk.go_back"=true) (k_Desk_go_back:keepIn K (.ref f_Desk_go_back)=true)
  (Zde:nsIn K mainGlobals "_law_pot"=some (some (.ref Ze6))) (Zdf:K.lookup Ze6=some ⟨Zmh,Zmi,.func (fnOf "_law_pot" "_law_pot" (defArgs ZaE) (defBody ZaE) (defScope ZaE) .none Zmj Zmk Zml Zmm Zg7 Zmn),Zmo⟩) (Zdg:codeIn K Zg7 "_law_pot"=true) (Zb0:keepIn K (.ref Ze6)=true)
  (Zcv:nsIn K mainGlobals "_law_take"=some (some (.ref Zeh))) (Zcw:K.lookup Zeh=some ⟨Zln,Zlo,.func (fnOf "_law_take" "_law_take" (defArgs s__law_take) (defBody s__law_take) (defScope s__law_take) .none Zlp Zlq Zlr Zls ZgA Zlt),Zlu⟩) (Zcx:codeIn K ZgA "_law_take"=true) (Zbd:keepIn K (.ref Zeh)=true)
  (Zdh:nsIn K mainGlobals "_law_row"=some (some (.ref Ze7))) (Zdi:K.lookup Ze7=some ⟨Zmp,Zmq,.func (fnOf "_law_row" "_law_row" (defArgs s__law_row) (defBody s__law_row) (defScope s__law_row) .none Zmr Zms Zmt Zmu Zg8 Zmv),Zmw⟩) (Zdj:codeIn K Zg8 "_law_row"=true) (Zb1:keepIn K (.ref Ze7)=true)
  (ZaS:nsIn K mainGlobals "_law_row_text"=some (some (.ref Zb9))) (ZaT:K.lookup Zb9=some ⟨ZiT,ZiU,.func (fnOf "_law_row_text" "_law_row_text" (defArgs ZJ) (defBody ZJ) (defScope ZJ) .none ZiV ZiW ZiX ZiY Zd6 ZiZ),Zi0⟩) (ZaU:codeIn K Zd6 "_law_row_text"=true) (Z9:keepIn K (.ref Zb9)=true)
  (Zb2:nsIn K mainGlobals "_law_kinds"=some (some (.ref ZdH))) (Zb3:K.lookup ZdH=some ⟨Zkz,ZkA,.func (fnOf "_law_kinds" "_law_kinds" (defArgs Z6) (defBody Z6) (defScope Z6) .none ZkB ZkC ZkD ZkE Zfs ZkF),ZkG⟩) (Zb4:codeIn K Zfs "_law_kinds"=true) (ZaZ:keepIn K (.ref ZdH)=true)
  (Zb5:nsIn K mainGlobals "_law_alone"=some (some (.ref ZdI))) (Zb6:K.lookup ZdI=some ⟨ZkH,ZkI,.func (fnOf "_law_alone" "_law_alone" (defArgs s__law_alone) (defBody s__law_alone) (defScope s__law_alone) .none ZkJ ZkK ZkL ZkM Zft ZkN),ZkO⟩) (Zb7:codeIn K Zft "_law_alone"=true) (Za0:keepIn K (.ref ZdI)=true)
  (Zcy:nsIn K mainGlobals "_law_deed"=some (some (.ref Zei))) (Zcz:K.lookup Zei=some ⟨Zlv,Zlw,.func (fnOf "_law_deed" "_law_deed" (defArgs Zae) (defBody Zae) (defScope Zae) .none Zlx Zly Zlz ZlA ZgB ZlB),ZlC⟩) (ZcA:codeIn K ZgB "_law_deed"=true) (Zbe:keepIn K (.ref Zei)=true)
  (ZcB:nsIn K mainGlobals "_law_said"=some (some (.ref Zej))) (ZcC:K.lookup Zej=some ⟨ZlD,ZlE,.func (fnOf "_law_said" "_law_said" (defArgs Zaf) (defBody Zaf) (defScope Zaf) .none ZlF ZlG ZlH ZlI ZgC ZlJ),ZlK⟩) (ZcD:codeIn K ZgC "_law_said"=true) (Zbf:keepIn K (.ref Zej)=true)
  (ZcE:nsIn K mainGlobals "_law_done"=some (some (.ref Zek))) (ZcF:K.lookup Zek=some ⟨ZlL,ZlM,.func (fnOf "_law_done" "_law_done" (defArgs Zag) (defBody Zag) (defScope Zag) .none ZlN ZlO ZlP ZlQ ZgD ZlR),ZlS⟩) (ZcG:codeIn K ZgD "_law_done"=true) (Zbg:keepIn K (.ref Zek)=true)
  (Zkd:nsIn K mainGlobals "law"=some (some (.ref Zmx))) (Zke:K.lookup Zmx=some ⟨ZmE,ZmF,.func (fnOf "law" "law" (defArgs s_law) (defBody s_law) (defScope s_law) .none Zmy Zmz ZmA ZmB Zkf ZmC),ZmG⟩) (Zkg:codeIn K Zkf "law"=true) (Zkh:keepIn K (.ref Zmx)=true)
  {C_DipError:Addr} (n_DipError:nsIn K mainGlobals "DipError"=some (some (.ref C_DipError))) (x_DipError:PySem.W.excIn K C_DipError bmV newV=true) (d_DipError:PySem.W.hasDictIn K C_DipError=true) (y_DipError:PySem.W.typeIn K (.ref C_DipError)=some (.type "type"))
  {C_Unlike:Addr} (n_Unlike:nsIn K mainGlobals "Unlike"=some (some (.ref C_Unlike))) (x_Unlike:PySem.W.excIn K C_Unlike bmV newV=true) (d_Unlike:PySem.W.hasDictIn K C_Unlike=true) (y_Unlike:PySem.W.typeIn K (.ref C_Unlike)=some (.type "type"))
  {C_Empty:Addr} (n_Empty:nsIn K mainGlobals "Empty"=some (some (.ref C_Empty))) (x_Empty:PySem.W.excIn K C_Empty bmV newV=true) (d_Empty:PySem.W.hasDictIn K C_Empty=true) (y_Empty:PySem.W.typeIn K (.ref C_Empty)=some (.type "type"))
  {C_TooMany:Addr} (n_TooMany:nsIn K mainGlobals "TooMany"=some (some (.ref C_TooMany))) (x_TooMany:PySem.W.excIn K C_TooMany bmV newV=true) (d_TooMany:PySem.W.hasDictIn K C_TooMany=true) (y_TooMany:PySem.W.typeIn K (.ref C_TooMany)=some (.type "type"))
  {C_NoTree:Addr} (n_NoTree:nsIn K mainGlobals "NoTree"=some (some (.ref C_NoTree))) (x_NoTree:PySem.W.excIn K C_NoTree bmV newV=true) (d_NoTree:PySem.W.hasDictIn K C_NoTree=true) (y_NoTree:PySem.W.typeIn K (.ref C_NoTree)=some (.type "type"))
  {C_NoTelling:Addr} (n_NoTelling:nsIn K mainGlobals "NoTelling"=some (some (.ref C_NoTelling))) (x_NoTelling:PySem.W.excIn K C_NoTelling bmV newV=true) (d_NoTelling:PySem.W.hasDictIn K C_NoTelling=true) (y_NoTelling:PySem.W.typeIn K (.ref C_NoTelling)=some (.type "type"))
  {C_NoPlace:Addr} (n_NoPlace:nsIn K mainGlobals "NoPlace"=some (some (.ref C_NoPlace))) (x_NoPlace:PySem.W.excIn K C_NoPlace bmV newV=true) (d_NoPlace:PySem.W.hasDictIn K C_NoPlace=true) (y_NoPlace:PySem.W.typeIn K (.ref C_NoPlace)=some (.type "type"))
  {C_NoNumber:Addr} (n_NoNumber:nsIn K mainGlobals "NoNumber"=some (some (.ref C_NoNumber))) (x_NoNumber:PySem.W.excIn K C_NoNumber bmV newV=true) (d_NoNumber:PySem.W.hasDictIn K C_NoNumber=true) (y_NoNumber:PySem.W.typeIn K (.ref C_NoNumber)=some (.type "type"))
  {C_NoPast:Addr} (n_NoPast:nsIn K mainGlobals "NoPast"=some (some (.ref C_NoPast))) (x_NoPast:PySem.W.excIn K C_NoPast bmV newV=true) (d_NoPast:PySem.W.hasDictIn K C_NoPast=true) (y_NoPast:PySem.W.typeIn K (.ref C_NoPast)=some (.type "type"))
  {C_NoText:Addr} (n_NoText:nsIn K mainGlobals "NoText"=some (some (.ref C_NoText))) (x_NoText:PySem.W.excIn K C_NoText bmV newV=true) (d_NoText:PySem.W.hasDictIn K C_NoText=true) (y_NoText:PySem.W.typeIn K (.ref C_NoText)=some (.type "type"))
  {C_NoLine:Addr} (n_NoLine:nsIn K mainGlobals "NoLine"=some (some (.ref C_NoLine))) (x_NoLine:PySem.W.excIn K C_NoLine bmV newV=true) (d_NoLine:PySem.W.hasDictIn K C_NoLine=true) (y_NoLine:PySem.W.typeIn K (.ref C_NoLine)=some (.type "type"))
  (z1_TooMany:PySem.W.hasDictIn K C_TooMany=true) (z2_TooMany:PySem.W.findIn K (.ref C_TooMany) "__getattribute__"=some (some (.builtin "BaseException.__getattribute__"))) (z3_TooMany:PySem.W.findIn K (.ref C_TooMany) "__getattr__"=some none) (z4_TooMany:PySem.W.findIn K (.ref C_TooMany) "__class__"=some (some (.builtin "object.__class__"))) (z5_TooMany:PySem.W.specialIn K (.builtin "object.__class__") "__get__"=some (some (.builtin "getset_descriptor.__get__"))) (z6_TooMany:PySem.W.takesIn K (.builtin "object.__class__")=some true) (z7_TooMany:PySem.W.mroIn K C_TooMany (.type "object")=some true) (z8_TooMany:PySem.W.mroIn K C_TooMany (.type "BaseException")=some true)
  (u_TooMany:PySem.W.mroIn K C_TooMany (.ref C_DipError)=some true)
  (i_TooMany_DipError:PySem.W.subIn K (.ref C_TooMany) (.ref C_DipError)=some true) (ne_TooMany_DipError:C_TooMany≠C_DipError)
  (i_TooMany_Unlike:PySem.W.subIn K (.ref C_TooMany) (.ref C_Unlike)=some false) (ne_TooMany_Unlike:C_TooMany≠C_Unlike)
  (i_TooMany_Empty:PySem.W.subIn K (.ref C_TooMany) (.ref C_Empty)=some false) (ne_TooMany_Empty:C_TooMany≠C_Empty)
  (i_TooMany_NoTree:PySem.W.subIn K (.ref C_TooMany) (.ref C_NoTree)=some false) (ne_TooMany_NoTree:C_TooMany≠C_NoTree)
  (i_TooMany_NoTelling:PySem.W.subIn K (.ref C_TooMany) (.ref C_NoTelling)=some false) (ne_TooMany_NoTelling:C_TooMany≠C_NoTelling)
  (i_TooMany_NoPlace:PySem.W.subIn K (.ref C_TooMany) (.ref C_NoPlace)=some false) (ne_TooMany_NoPlace:C_TooMany≠C_NoPlace)
  (i_TooMany_NoNumber:PySem.W.subIn K (.ref C_TooMany) (.ref C_NoNumber)=some false) (ne_TooMany_NoNumber:C_TooMany≠C_NoNumber)
  (i_TooMany_NoPast:PySem.W.subIn K (.ref C_TooMany) (.ref C_NoPast)=some false) (ne_TooMany_NoPast:C_TooMany≠C_NoPast)
  (i_TooMany_NoText:PySem.W.subIn K (.ref C_TooMany) (.ref C_NoText)=some false) (ne_TooMany_NoText:C_TooMany≠C_NoText)
  (i_TooMany_NoLine:PySem.W.subIn K (.ref C_TooMany) (.ref C_NoLine)=some false) (ne_TooMany_NoLine:C_TooMany≠C_NoLine)
  (i_TooMany_V:PySem.W.subIn K (.ref C_TooMany) (.type "ValueError")=some true)
  (z1_Empty:PySem.W.hasDictIn K C_Empty=true) (z2_Empty:PySem.W.findIn K (.ref C_Empty) "__getattribute__"=some (some (.builtin "BaseException.__getattribute__"))) (z3_Empty:PySem.W.findIn K (.ref C_Empty) "__getattr__"=some none) (z4_Empty:PySem.W.findIn K (.ref C_Empty) "__class__"=some (some (.builtin "object.__class__"))) (z5_Empty:PySem.W.specialIn K (.builtin "object.__class__") "__get__"=some (some (.builtin "getset_descriptor.__get__"))) (z6_Empty:PySem.W.takesIn K (.builtin "object.__class__")=some true) (z7_Empty:PySem.W.mroIn K C_Empty (.type "object")=some true) (z8_Empty:PySem.W.mroIn K C_Empty (.type "BaseException")=some true)
  (u_Empty:PySem.W.mroIn K C_Empty (.ref C_DipError)=some true)
  (i_Empty_DipError:PySem.W.subIn K (.ref C_Empty) (.ref C_DipError)=some true) (ne_Empty_DipError:C_Empty≠C_DipError)
  (i_Empty_Unlike:PySem.W.subIn K (.ref C_Empty) (.ref C_Unlike)=some false) (ne_Empty_Unlike:C_Empty≠C_Unlike)
  (i_Empty_TooMany:PySem.W.subIn K (.ref C_Empty) (.ref C_TooMany)=some false) (ne_Empty_TooMany:C_Empty≠C_TooMany)
  (i_Empty_NoTree:PySem.W.subIn K (.ref C_Empty) (.ref C_NoTree)=some false) (ne_Empty_NoTree:C_Empty≠C_NoTree)
  (i_Empty_NoTelling:PySem.W.subIn K (.ref C_Empty) (.ref C_NoTelling)=some false) (ne_Empty_NoTelling:C_Empty≠C_NoTelling)
  (i_Empty_NoPlace:PySem.W.subIn K (.ref C_Empty) (.ref C_NoPlace)=some false) (ne_Empty_NoPlace:C_Empty≠C_NoPlace)
  (i_Empty_NoNumber:PySem.W.subIn K (.ref C_Empty) (.ref C_NoNumber)=some false) (ne_Empty_NoNumber:C_Empty≠C_NoNumber)
  (i_Empty_NoPast:PySem.W.subIn K (.ref C_Empty) (.ref C_NoPast)=some false) (ne_Empty_NoPast:C_Empty≠C_NoPast)
  (i_Empty_NoText:PySem.W.subIn K (.ref C_Empty) (.ref C_NoText)=some false) (ne_Empty_NoText:C_Empty≠C_NoText)
  (i_Empty_NoLine:PySem.W.subIn K (.ref C_Empty) (.ref C_NoLine)=some false) (ne_Empty_NoLine:C_Empty≠C_NoLine)
  (i_Empty_V:PySem.W.subIn K (.ref C_Empty) (.type "ValueError")=some true)
  (z1_NoPast:PySem.W.hasDictIn K C_NoPast=true) (z2_NoPast:PySem.W.findIn K (.ref C_NoPast) "__getattribute__"=some (some (.builtin "BaseException.__getattribute__"))) (z3_NoPast:PySem.W.findIn K (.ref C_NoPast) "__getattr__"=some none) (z4_NoPast:PySem.W.findIn K (.ref C_NoPast) "__class__"=some (some (.builtin "object.__class__"))) (z5_NoPast:PySem.W.specialIn K (.builtin "object.__class__") "__get__"=some (some (.builtin "getset_descriptor.__get__"))) (z6_NoPast:PySem.W.takesIn K (.builtin "object.__class__")=some true) (z7_NoPast:PySem.W.mroIn K C_NoPast (.type "object")=some true) (z8_NoPast:PySem.W.mroIn K C_NoPast (.type "BaseException")=some true)
  (u_NoPast:PySem.W.mroIn K C_NoPast (.ref C_DipError)=some true)
  (i_NoPast_DipError:PySem.W.subIn K (.ref C_NoPast) (.ref C_DipError)=some true) (ne_NoPast_DipError:C_NoPast≠C_DipError)
  (i_NoPast_Unlike:PySem.W.subIn K (.ref C_NoPast) (.ref C_Unlike)=some false) (ne_NoPast_Unlike:C_NoPast≠C_Unlike)
  (i_NoPast_Empty:PySem.W.subIn K (.ref C_NoPast) (.ref C_Empty)=some false) (ne_NoPast_Empty:C_NoPast≠C_Empty)
  (i_NoPast_TooMany:PySem.W.subIn K (.ref C_NoPast) (.ref C_TooMany)=some false) (ne_NoPast_TooMany:C_NoPast≠C_TooMany)
  (i_NoPast_NoTree:PySem.W.subIn K (.ref C_NoPast) (.ref C_NoTree)=some false) (ne_NoPast_NoTree:C_NoPast≠C_NoTree)
  (i_NoPast_NoTelling:PySem.W.subIn K (.ref C_NoPast) (.ref C_NoTelling)=some false) (ne_NoPast_NoTelling:C_NoPast≠C_NoTelling)
  (i_NoPast_NoPlace:PySem.W.subIn K (.ref C_NoPast) (.ref C_NoPlace)=some false) (ne_NoPast_NoPlace:C_NoPast≠C_NoPlace)
  (i_NoPast_NoNumber:PySem.W.subIn K (.ref C_NoPast) (.ref C_NoNumber)=some false) (ne_NoPast_NoNumber:C_NoPast≠C_NoNumber)
  (i_NoPast_NoText:PySem.W.subIn K (.ref C_NoPast) (.ref C_NoText)=some false) (ne_NoPast_NoText:C_NoPast≠C_NoText)
  (i_NoPast_NoLine:PySem.W.subIn K (.ref C_NoPast) (.ref C_NoLine)=some false) (ne_NoPast_NoLine:C_NoPast≠C_NoLine)
  (i_NoPast_V:PySem.W.subIn K (.ref C_NoPast) (.type "ValueError")=some true)
  (b_ValueError:nsIn K mainGlobals "ValueError"=some none)
  (b_int:nsIn K mainGlobals "int"=some none)
  (b_isinstance:nsIn K mainGlobals "isinstance"=some none)
  (b_len:nsIn K mainGlobals "len"=some none)
  (b_list:nsIn K mainGlobals "list"=some none)
  (b_max:nsIn K mainGlobals "max"=some none)
  (b_min:nsIn K mainGlobals "min"=some none)
  (b_range:nsIn K mainGlobals "range"=some none)
  (b_str:nsIn K mainGlobals "str"=some none)
  (b_tuple:nsIn K mainGlobals "tuple"=some none)
  {t_MOST_PLACES:Tok} (m_MOST_PLACES:nsIn K mainGlobals "MOST_PLACES"=some (some (.int 40 t_MOST_PLACES)))
  {t_MOST_HELD:Tok} (m_MOST_HELD:nsIn K mainGlobals "MOST_HELD"=some (some (.int 6 t_MOST_HELD)))
  {t_MOST_HOLDING:Tok} (m_MOST_HOLDING:nsIn K mainGlobals "MOST_HOLDING"=some (some (.int 16 t_MOST_HOLDING)))
  {t_NOTHING:Tok} (m_NOTHING:nsIn K mainGlobals "NOTHING"=some (some (.str (Str.ofString "-") t_NOTHING)))
  {t_MOST_FIGURES:Tok} (m_MOST_FIGURES:nsIn K mainGlobals "MOST_FIGURES"=some (some (.int 60 t_MOST_FIGURES)))
  {D_ASKED:Addr}{es_ASKED:Array DictEntry}{k_ASKED:Nat} (tn_ASKED:nsIn K mainGlobals "ASKED"=some (some (.ref D_ASKED))) (tl_ASKED:K.lookup D_ASKED=some ⟨.type "dict",none,.dict es_ASKED k_ASKED,#[]⟩) (tk_ASKED:PySem.W.KeysLit w.params es_ASKED.toList) (ts_ASKED:(D_ASKED==sysModules)=false) (tm_ASKED:es_ASKED.toList.map (λd=>keyS d.key)=(["show","tree","flat","number"]:List Str).map some)
  (tg_ASKED_0:nsIn K D_ASKED "show"=some (some (.ref ZbS)))
  {D_ASKED_OF_ROWS:Addr}{es_ASKED_OF_ROWS:Array DictEntry}{k_ASKED_OF_ROWS:Nat} (tn_ASKED_OF_ROWS:nsIn K mainGlobals "ASKED_OF_ROWS"=some (some (.ref D_ASKED_OF_ROWS))) (tl_ASKED_OF_ROWS:K.lookup D_ASKED_OF_ROWS=some ⟨.type "dict",none,.dict es_ASKED_OF_ROWS k_ASKED_OF_ROWS,#[]⟩) (tk_ASKED_OF_ROWS:PySem.W.KeysLit w.params es_ASKED_OF_ROWS.toList) (ts_ASKED_OF_ROWS:(D_ASKED_OF_ROWS==sysModules)=false) (tm_ASKED_OF_ROWS:es_ASKED_OF_ROWS.toList.map (λd=>keyS d.key)=(["kin","seek","holds"]:List Str).map some)
  {D_ASKED_OF_TREES:Addr}{es_ASKED_OF_TREES:Array DictEntry}{k_ASKED_OF_TREES:Nat} (tn_ASKED_OF_TREES:nsIn K mainGlobals "ASKED_OF_TREES"=some (some (.ref D_ASKED_OF_TREES))) (tl_ASKED_OF_TREES:K.lookup D_ASKED_OF_TREES=some ⟨.type "dict",none,.dict es_ASKED_OF_TREES k_ASKED_OF_TREES,#[]⟩) (tk_ASKED_OF_TREES:PySem.W.KeysLit w.params es_ASKED_OF_TREES.toList) (ts_ASKED_OF_TREES:(D_ASKED_OF_TREES==sysModules)=false) (tm_ASKED_OF_TREES:es_ASKED_OF_TREES.toList.map (λd=>keyS d.key)=(["near","stay"]:List Str).map some)
  : ∃fd:FuncData,(∀(s:Shared) (v:Value),BindsTo s fd ⟨[v],[]⟩ [("script",v)])/\∀base:Heap,K.In base->base.Ns mainGlobals mg->FnOk l.prog w K mg base (CXE l.prog w) 8 fa fd ["script"] (spLaw K):=by
 have e:=hfa.symm.trans (mg_of X G Zkd)
 cases e
 have q_DipError:clsAt mg "DipError"=C_DipError:=by unfold clsAt;rw[mg_of X G n_DipError]
 have q_Unlike:clsAt mg "Unlike"=C_Unlike:=by unfold clsAt;rw[mg_of X G n_Unlike]
 have q_Empty:clsAt mg "Empty"=C_Empty:=by unfold clsAt;rw[mg_of X G n_Empty]
 have q_TooMany:clsAt mg "TooMany"=C_TooMany:=by unfold clsAt;rw[mg_of X G n_TooMany]
 have q_NoTree:clsAt mg "NoTree"=C_NoTree:=by unfold clsAt;rw[mg_of X G n_NoTree]
 have q_NoTelling:clsAt mg "NoTelling"=C_NoTelling:=by unfold clsAt;rw[mg_of X G n_NoTelling]
 have q_NoPlace:clsAt mg "NoPlace"=C_NoPlace:=by unfold clsAt;rw[mg_of X G n_NoPlace]
 have q_NoNumber:clsAt mg "NoNumber"=C_NoNumber:=by unfold clsAt;rw[mg_of X G n_NoNumber]
 have q_NoPast:clsAt mg "NoPast"=C_NoPast:=by unfold clsAt;rw[mg_of X G n_NoPast]
 have q_NoText:clsAt mg "NoText"=C_NoText:=by unfold clsAt;rw[mg_of X G n_NoText]
 have q_NoLine:clsAt mg "NoLine"=C_NoLine:=by unfold clsAt;rw[mg_of X G n_NoLine]
 have q_Desk:clsAt mg "Desk"=C_Desk:=by unfold clsAt;rw[mg_of X G n_Desk]
 have q_MOST_PLACES:tokAt mg "MOST_PLACES"=t_MOST_PLACES:=by unfold tokAt;rw[mg_of X G m_MOST_PLACES]
 have q_MOST_HELD:tokAt mg "MOST_HELD"=t_MOST_HELD:=by unfold tokAt;rw[mg_of X G m_MOST_HELD]
 have q_MOST_HOLDING:tokAt mg "MOST_HOLDING"=t_MOST_HOLDING:=by unfold tokAt;rw[mg_of X G m_MOST_HOLDING]
 have q_NOTHING:tokS mg "NOTHING"=t_NOTHING:=by unfold tokS;rw[mg_of X G m_NOTHING]
 have q_MOST_FIGURES:tokAt mg "MOST_FIGURES"=t_MOST_FIGURES:=by unfold tokAt;rw[mg_of X G m_MOST_FIGURES]
 have T:Txt K mg:={
  b_ValueError:=mg_none_of X G b_ValueError
  b_int:=mg_none_of X G b_int
  b_isinstance:=mg_none_of X G b_isinstance
  b_len:=mg_none_of X G b_len
  b_list:=mg_none_of X G b_list
  b_max:=mg_none_of X G b_max
  b_min:=mg_none_of X G b_min
  b_range:=mg_none_of X G b_range
  b_str:=mg_none_of X G b_str
  b_tuple:=mg_none_of X G b_tuple
  c_DipError:=by rw[q_DipError];exact mg_of X G n_DipError
  x_DipError:=by rw[q_DipError];exact x_DipError
  c_Unlike:=by rw[q_Unlike];exact mg_of X G n_Unlike
  x_Unlike:=by rw[q_Unlike];exact x_Unlike
  c_Empty:=by rw[q_Empty];exact mg_of X G n_Empty
  x_Empty:=by rw[q_Empty];exact x_Empty
  c_TooMany:=by rw[q_TooMany];exact mg_of X G n_TooMany
  x_TooMany:=by rw[q_TooMany];exact x_TooMany
  c_NoTree:=by rw[q_NoTree];exact mg_of X G n_NoTree
  x_NoTree:=by rw[q_NoTree];exact x_NoTree
  c_NoTelling:=by rw[q_NoTelling];exact mg_of X G n_NoTelling
  x_NoTelling:=by rw[q_NoTelling];exact x_NoTelling
  c_NoPlace:=by rw[q_NoPlace];exact mg_of X G n_NoPlace
  x_NoPlace:=by rw[q_NoPlace];exact x_NoPlace
  c_NoNumber:=by rw[q_NoNumber];exact mg_of X G n_NoNumber
  x_NoNumber:=by rw[q_NoNumber];exact x_NoNumber
  c_NoPast:=by rw[q_NoPast];exact mg_of X G n_NoPast
  x_NoPast:=by rw[q_NoPast];exact x_NoPast
  c_NoText:=by rw[q_NoText];exact mg_of X G n_NoText
  x_NoText:=by rw[q_NoText];exact x_NoText
  c_NoLine:=by rw[q_NoLine];exact mg_of X G n_NoLine
  x_NoLine:=by rw[q_NoLine];exact x_NoLine
  ex_TooMany:=by rw[q_TooMany];exact⟨z1_TooMany,z2_TooMany,z3_TooMany,z4_TooMany,z5_TooMany,z6_TooMany,z7_TooMany,z8_TooMany⟩
  up_TooMany:=by rw[q_TooMany,q_DipError];exact u_TooMany
  is_TooMany_DipError:=by rw[q_TooMany,q_DipError];exact Zt ne_TooMany_DipError d_DipError y_DipError i_TooMany_DipError
  is_TooMany_Unlike:=by rw[q_TooMany,q_Unlike];exact Zt ne_TooMany_Unlike d_Unlike y_Unlike i_TooMany_Unlike
  is_TooMany_Empty:=by rw[q_TooMany,q_Empty];exact Zt ne_TooMany_Empty d_Empty y_Empty i_TooMany_Empty
  is_TooMany_TooMany:=by rw[q_TooMany];exact ZeR
  is_TooMany_NoTree:=by rw[q_TooMany,q_NoTree];exact Zt ne_TooMany_NoTree d_NoTree y_NoTree i_TooMany_NoTree
  is_TooMany_NoTelling:=by rw[q_TooMany,q_NoTelling];exact Zt ne_TooMany_NoTelling d_NoTelling y_NoTelling i_TooMany_NoTelling
  is_TooMany_NoPlace:=by rw[q_TooMany,q_NoPlace];exact Zt ne_TooMany_NoPlace d_NoPlace y_NoPlace i_TooMany_NoPlace
  is_TooMany_NoNumber:=by rw[q_TooMany,q_NoNumber];exact Zt ne_TooMany_NoNumber d_NoNumber y_NoNumber i_TooMany_NoNumber
  is_TooMany_NoPast:=by rw[q_TooMany,q_NoPast];exact Zt ne_TooMany_NoPast d_NoPast y_NoPast i_TooMany_NoPast
  is_TooMany_NoText:=by rw[q_TooMany,q_NoText];exact Zt ne_TooMany_NoText d_NoText y_NoText i_TooMany_NoText
  is_TooMany_NoLine:=by rw[q_TooMany,q_NoLine];exact Zt ne_TooMany_NoLine d_NoLine y_NoLine i_TooMany_NoLine
  is_TooMany_V:=by rw[q_TooMany];exact ZjC i_TooMany_V
  ex_Empty:=by rw[q_Empty];exact⟨z1_Empty,z2_Empty,z3_Empty,z4_Empty,z5_Empty,z6_Empty,z7_Empty,z8_Empty⟩
  up_Empty:=by rw[q_Empty,q_DipError];exact u_Empty
  is_Empty_DipError:=by rw[q_Empty,q_DipError];exact Zt ne_Empty_DipError d_DipError y_DipError i_Empty_DipError
  is_Empty_Unlike:=by rw[q_Empty,q_Unlike];exact Zt ne_Empty_Unlike d_Unlike y_Unlike i_Empty_Unlike
  is_Empty_Empty:=by rw[q_Empty];exact ZeR
  is_Empty_TooMany:=by rw[q_Empty,q_TooMany];exact Zt ne_Empty_TooMany d_TooMany y_TooMany i_Empty_TooMany
  is_Empty_NoTree:=by rw[q_Empty,q_NoTree];exact Zt ne_Empty_NoTree d_NoTree y_NoTree i_Empty_NoTree
  is_Empty_NoTelling:=by rw[q_Empty,q_NoTelling];exact Zt ne_Empty_NoTelling d_NoTelling y_NoTelling i_Empty_NoTelling
  is_Empty_NoPlace:=by rw[q_Empty,q_NoPlace];exact Zt ne_Empty_NoPlace d_NoPlace y_NoPlace i_Empty_NoPlace
  is_Empty_NoNumber:=by rw[q_Empty,q_NoNumber];exact Zt ne_Empty_NoNumber d_NoNumber y_NoNumber i_Empty_NoNumber
  is_Empty_NoPast:=by rw[q_Empty,q_NoPast];exact Zt ne_Empty_NoPast d_NoPast y_NoPast i_Empty_NoPast
  is_Empty_NoText:=by rw[q_Empty,q_NoText];exact Zt ne_Empty_NoText d_NoText y_NoText i_Empty_NoText
  is_Empty_NoLine:=by rw[q_Empty,q_NoLine];exact Zt ne_Empty_NoLine d_NoLine y_NoLine i_Empty_NoLine
  is_Empty_V:=by rw[q_Empty];exact ZjC i_Empty_V
  ex_NoPast:=by rw[q_NoPast];exact⟨z1_NoPast,z2_NoPast,z3_NoPast,z4_NoPast,z5_NoPast,z6_NoPast,z7_NoPast,z8_NoPast⟩
  up_NoPast:=by rw[q_NoPast,q_DipError];exact u_NoPast
  is_NoPast_DipError:=by rw[q_NoPast,q_DipError];exact Zt ne_NoPast_DipError d_DipError y_DipError i_NoPast_DipError
  is_NoPast_Unlike:=by rw[q_NoPast,q_Unlike];exact Zt ne_NoPast_Unlike d_Unlike y_Unlike i_NoPast_Unlike
  is_NoPast_Empty:=by rw[q_NoPast,q_Empty];exact Zt ne_NoPast_Empty d_Empty y_Empty i_NoPast_Empty
  is_NoPast_TooMany:=by rw[q_NoPast,q_TooMany];exact Zt ne_NoPast_TooMany d_TooMany y_TooMany i_NoPast_TooMany
  is_NoPast_NoTree:=by rw[q_NoPast,q_NoTree];exact Zt ne_NoPast_NoTree d_NoTree y_NoTree i_NoPast_NoTree
  is_NoPast_NoTelling:=by rw[q_NoPast,q_NoTelling];exact Zt ne_NoPast_NoTelling d_NoTelling y_NoTelling i_NoPast_NoTelling
  is_NoPast_NoPlace:=by rw[q_NoPast,q_NoPlace];exact Zt ne_NoPast_NoPlace d_NoPlace y_NoPlace i_NoPast_NoPlace
  is_NoPast_NoNumber:=by rw[q_NoPast,q_NoNumber];exact Zt ne_NoPast_NoNumber d_NoNumber y_NoNumber i_NoPast_NoNumber
  is_NoPast_NoPast:=by rw[q_NoPast];exact ZeR
  is_NoPast_NoText:=by rw[q_NoPast,q_NoText];exact Zt ne_NoPast_NoText d_NoText y_NoText i_NoPast_NoText
  is_NoPast_NoLine:=by rw[q_NoPast,q_NoLine];exact Zt ne_NoPast_NoLine d_NoLine y_NoLine i_NoPast_NoLine
  is_NoPast_V:=by rw[q_NoPast];exact ZjC i_NoPast_V
  c_Desk:=by rw[q_Desk];exact mg_of X G n_Desk
  cl_Desk:=by rw[q_Desk];exact⟨pg_Desk,hd_Desk,po_Desk,sa_Desk⟩
  n_Desk_rows:=by rw[q_Desk];exact na_Desk_rows
  m_MOST_PLACES:=by rw[q_MOST_PLACES];exact mg_of X G m_MOST_PLACES
  m_MOST_HELD:=by rw[q_MOST_HELD];exact mg_of X G m_MOST_HELD
  m_MOST_HOLDING:=by rw[q_MOST_HOLDING];exact mg_of X G m_MOST_HOLDING
  m_NOTHING:=by rw[q_NOTHING];exact mg_of X G m_NOTHING
  m_MOST_FIGURES:=by rw[q_MOST_FIGURES];exact mg_of X G m_MOST_FIGURES
 }
 have TD_ASKED:TopD w K mg "ASKED" ["show","tree","flat","number"] [("show","tell_row")]:=⟨⟨D_ASKED,es_ASKED,k_ASKED,mg_of X G tn_ASKED,tl_ASKED,tk_ASKED,ts_ASKED,Zd0 tm_ASKED,λp hp=>by
   rcases Yj.mp hp with rfl|hp
   ·rw[show clsAt mg "tell_row"=ZbS by unfold clsAt;rw[mg_of X G ZbR]];exact PySem.W.find_K tl_ASKED tg_ASKED_0
   cases hp⟩⟩
 have TD_ASKED_OF_ROWS:TopD w K mg "ASKED_OF_ROWS" ["kin","seek","holds"] []:=⟨⟨D_ASKED_OF_ROWS,es_ASKED_OF_ROWS,k_ASKED_OF_ROWS,mg_of X G tn_ASKED_OF_ROWS,tl_ASKED_OF_ROWS,tk_ASKED_OF_ROWS,ts_ASKED_OF_ROWS,Zd0 tm_ASKED_OF_ROWS,λp hp=>by
   cases hp⟩⟩
 have TD_ASKED_OF_TREES:TopD w K mg "ASKED_OF_TREES" ["near","stay"] []:=⟨⟨D_ASKED_OF_TREES,es_ASKED_OF_TREES,k_ASKED_OF_TREES,mg_of X G tn_ASKED_OF_TREES,tl_ASKED_OF_TREES,tk_ASKED_OF_TREES,ts_ASKED_OF_TREES,Zd0 tm_ASKED_OF_TREES,λp hp=>by
   cases hp⟩⟩
 have Zaw:=Zk2 (st:=s_need_numbers) Za7 Za8 Z2
 have Ze8:=Zaw.binds (ps:=["row","fewest"]) (ds:=[]) Zav λ_ _ _ _ _ _ us hl=>by obtain⟨x0,u0,rfl,h0⟩:=le1 (show us.length=2 by simpa using hl);obtain⟨x1,u1,rfl,h1⟩:=le1 h0;obtain rfl:=le0 h1;exact⟨_,rfl,rfl⟩
 have Zev:=Zaw.binds (ps:=["row","fewest"]) (ds:=[.int 1 Zb8]) Zav λ_ _ _ _ _ _ us hl=>by obtain⟨x0,u0,rfl,h0⟩:=le1 (show us.length=1 from Nat.succ.inj (YB.symm.trans hl));obtain rfl:=le0 h0;exact⟨_,rfl,rfl⟩
 have Zel:=ZH (st:=Zad) Zct Zcu Zbc
 have Zg9:=Zel.binds (ps:=["row"]) λ_ _ _ _ _ _ us hl=>by obtain⟨x0,u0,rfl,h0⟩:=le1 hl;obtain rfl:=le0 h0;exact rfl
 have Ze9:=ZH (st:=ZaA) Zc7 Zc8 ZbP
 have ZhD:=Ze9.binds (ps:=["row"]) λ_ _ _ _ _ _ us hl=>by obtain⟨x0,u0,rfl,h0⟩:=le1 hl;obtain rfl:=le0 h0;exact rfl
 have ZcU:=ZH (st:=ZV) Zbp Zbq ZaL
 have Zfu:=ZcU.binds (ps:=["word"]) λ_ _ _ _ _ _ us hl=>by obtain⟨x0,u0,rfl,h0⟩:=le1 hl;obtain rfl:=le0 h0;exact rfl
 have Zfa:=ZH (st:=ZaB) Zda Zdb ZbQ
 have ZhE:=Zfa.binds (ps:=["text"]) λ_ _ _ _ _ _ us hl=>by obtain⟨x0,u0,rfl,h0⟩:=le1 hl;obtain rfl:=le0 h0;exact rfl
 have Zfb:=ZH (st:=ZaC) Zdc Zdd ZbT
 have ZhF:=Zfb.binds (ps:=["row"]) λ_ _ _ _ _ _ us hl=>by obtain⟨x0,u0,rfl,h0⟩:=le1 hl;obtain rfl:=le0 h0;exact rfl
 have ZdJ:=ZH (st:=Z4) ZbV ZbW ZaX
 have ZgE:=ZdJ.binds (ps:=["line"]) λ_ _ _ _ _ _ us hl=>by obtain⟨x0,u0,rfl,h0⟩:=le1 hl;obtain rfl:=le0 h0;exact rfl
 have ZbA:=ZH (st:=ZE) ZaI ZaJ Z7
 have Zd7:=ZbA.binds (ps:=["rest","many"]) λ_ _ _ _ _ _ us hl=>by obtain⟨x0,u0,rfl,h0⟩:=le1 hl;obtain⟨x1,u1,rfl,h1⟩:=le1 h0;obtain rfl:=le0 h1;exact rfl
 have ZdK:=ZH (st:=Z5) ZbY ZbZ ZaY
 have ZgF:=ZdK.binds (ps:=["rest"]) λ_ _ _ _ _ _ us hl=>by obtain⟨x0,u0,rfl,h0⟩:=le1 hl;obtain rfl:=le0 h0;exact rfl
 have ZcV:=ZH (st:=ZW) Zbs Zbt ZaM
 have Zfv:=ZcV.binds (ps:=["row","word","rest"]) λ_ _ _ _ _ _ us hl=>by obtain⟨x0,u0,rfl,h0⟩:=le1 hl;obtain⟨x1,u1,rfl,h1⟩:=le1 h0;obtain⟨x2,u2,rfl,h2⟩:=le1 h1;obtain rfl:=le0 h2;exact rfl
 have F_Desk___init__:=ZH (st:=ZI) l_Desk___init__ c_Desk___init__ k_Desk___init__
 have B_Desk___init__:=F_Desk___init__.binds (ps:=["self"]) λ_ _ _ _ _ _ us hl=>by obtain⟨x0,u0,rfl,h0⟩:=le1 hl;obtain rfl:=le0 h0;exact rfl
 have F_Desk_say:=ZH (st:=ZaD) l_Desk_say c_Desk_say k_Desk_say
 have B_Desk_say:=F_Desk_say.binds (ps:=["self","line"]) λ_ _ _ _ _ _ us hl=>by obtain⟨x0,u0,rfl,h0⟩:=le1 hl;obtain⟨x1,u1,rfl,h1⟩:=le1 h0;obtain rfl:=le0 h1;exact rfl
 have F_Desk_go_back:=ZH (st:=ZQ) l_Desk_go_back c_Desk_go_back k_Desk_go_back
 have B_Desk_go_back:=F_Desk_go_back.binds (ps:=["self"]) λ_ _ _ _ _ _ us hl=>by obtain⟨x0,u0,rfl,h0⟩:=le1 hl;obtain rfl:=le0 h0;exact rfl
 have Zfc:=ZH (st:=ZaE) Zdf Zdg Zb0
 have ZhG:=Zfc.binds (ps:=["script","k"]) λ_ _ _ _ _ _ us hl=>by obtain⟨x0,u0,rfl,h0⟩:=le1 hl;obtain⟨x1,u1,rfl,h1⟩:=le1 h0;obtain rfl:=le0 h1;exact rfl
 have Zem:=ZH (st:=s__law_take) Zcw Zcx Zbd
 have Zha:=Zem.binds (ps:=["pot","many"]) λ_ _ _ _ _ _ us hl=>by obtain⟨x0,u0,rfl,h0⟩:=le1 hl;obtain⟨x1,u1,rfl,h1⟩:=le1 h0;obtain rfl:=le0 h1;exact rfl
 have Zfd:=ZH (st:=s__law_row) Zdi Zdj Zb1
 have ZhH:=Zfd.binds (ps:=["pot","most"]) λ_ _ _ _ _ _ us hl=>by obtain⟨x0,u0,rfl,h0⟩:=le1 hl;obtain⟨x1,u1,rfl,h1⟩:=le1 h0;obtain rfl:=le0 h1;exact rfl
 have Zca:=ZH (st:=ZJ) ZaT ZaU Z9
 have Zew:=Zca.binds (ps:=["row"]) λ_ _ _ _ _ _ us hl=>by obtain⟨x0,u0,rfl,h0⟩:=le1 hl;obtain rfl:=le0 h0;exact rfl
 have ZdL:=ZH (st:=Z6) Zb3 Zb4 ZaZ
 have ZgG:=ZdL.binds (ps:=["e"]) λ_ _ _ _ _ _ us hl=>by obtain⟨x0,u0,rfl,h0⟩:=le1 hl;obtain rfl:=le0 h0;exact rfl
 have ZdM:=ZH (st:=s__law_alone) Zb6 Zb7 Za0
 have ZgH:=ZdM.binds (ps:=["e","at"]) λ_ _ _ _ _ _ us hl=>by obtain⟨x0,u0,rfl,h0⟩:=le1 hl;obtain⟨x1,u1,rfl,h1⟩:=le1 h0;obtain rfl:=le0 h1;exact rfl
 have Zen:=ZH (st:=Zae) Zcz ZcA Zbe
 have Zhb:=Zen.binds (ps:=["pot","row"]) λ_ _ _ _ _ _ us hl=>by obtain⟨x0,u0,rfl,h0⟩:=le1 hl;obtain⟨x1,u1,rfl,h1⟩:=le1 h0;obtain rfl:=le0 h1;exact rfl
 have Zeo:=ZH (st:=Zaf) ZcC ZcD Zbf
 have Zhc:=Zeo.binds (ps:=["desk","line"]) λ_ _ _ _ _ _ us hl=>by obtain⟨x0,u0,rfl,h0⟩:=le1 hl;obtain⟨x1,u1,rfl,h1⟩:=le1 h0;obtain rfl:=le0 h1;exact rfl
 have Zep:=ZH (st:=Zag) ZcF ZcG Zbg
 have Zhd:=Zep.binds (ps:=["desk","pot","pasts"]) λ_ _ _ _ _ _ us hl=>by obtain⟨x0,u0,rfl,h0⟩:=le1 hl;obtain⟨x1,u1,rfl,h1⟩:=le1 h0;obtain⟨x2,u2,rfl,h2⟩:=le1 h1;obtain rfl:=le0 h2;exact rfl
 have ZmD:=ZH (st:=s_law) Zke Zkg Zkh
 refine⟨fnOf "law" "law" (defArgs s_law) (defBody s_law) (defScope s_law) .none Zmy Zmz ZmA ZmB Zkf ZmC,λs v=>.of_eq rfl,λbase _ _=>?_⟩
 have GI_Desk:Zgq l.prog w K mg base "Desk" 1 ["self"] (ZaF K mg):=⟨_,_,by rw[q_Desk];exact⟨mk_Desk,a_Desk___init__,i_Desk___init__,kc_Desk⟩,by rw[q_Desk];exact mg_of X G n_Desk,B_Desk___init__,Zd5 F_Desk___init__ T⟩
 have Zc3:Callee l.prog w K mg base "row_text" 1 ["row"] (Zcj K mg):=⟨_,_,mg_of X G Zc6,ZbP,ZhD,ZgY Ze9 T⟩
 have Zc5:Callee l.prog w K mg base "tell_row" 2 ["row"] (Zcl K mg):=⟨_,_,mg_of X G ZbR,ZbT,ZhF,Zg0 Zfb Zc3 T⟩
 have ZbM:Callee l.prog w K mg base "need_words" 1 ["line"] (Zbl K mg):=⟨_,_,mg_of X G ZbU,ZaX,ZgE,Zfo ZdJ T⟩
 have Zki:Callee l.prog w K mg base "need_numbers" 1 ["row","fewest"] (sp_need_numbers K mg):=⟨_,_,mg_of X G Zau,Z2,Ze8,ok_need_numbers Zaw T⟩
 have ZaR:Zgl l.prog w K mg base "need_numbers" 1 ["row","fewest"] [V.int 1] (sp_need_numbers K mg):=⟨_,_,_,mg_of X G Zau,Z2,Zev,.cons ⟨_,rfl⟩ .nil,ok_need_numbers Zaw T⟩
 have Zco:Callee l.prog w K mg base "need_room" 1 ["row"] (ZbH K mg):=⟨_,_,mg_of X G Zcs,Zbc,Zg9,Zgu Zel T⟩
 have ZY:Callee l.prog w K mg base "read_number" 1 ["word"] (Zaq K mg):=⟨_,_,mg_of X G Zbo,ZaL,Zfu,ZeX ZcU T⟩
 have ZaG:Callee l.prog w K mg base "numbers_behind" 2 ["rest","many"] (Zar K mg):=⟨_,_,mg_of X G ZaH,Z7,Zd7,ZdC ZbA ZY T⟩
 have Zc4:Callee l.prog w K mg base "read_row" 2 ["text"] (Zck K mg):=⟨_,_,mg_of X G Zc9,ZbQ,ZhE,ZgZ Zfa ZY T⟩
 have ZbL:Callee l.prog w K mg base "row_behind" 3 ["rest"] (Zbm K mg):=⟨_,_,mg_of X G ZbX,ZaY,ZgF,Zfp ZdK Zc4 T⟩
 have Zbn:Callee l.prog w K mg base "row_by_deed" 4 ["row","word","rest"] (Za6 K mg):=⟨_,_,mg_of X G Zbr,ZaM,Zfv,ZeY ZcV ZaR Zco ZaG ZbL T⟩
 have GM_Desk_go_back:Zba l.prog w K mg base "Desk" "go_back" 1 ["self"] (ZaQ K mg):=⟨_,_,T.cl_Desk,by rw[q_Desk];exact⟨a_Desk_go_back,i_Desk_go_back,k_Desk_go_back⟩,B_Desk_go_back,Zes F_Desk_go_back T⟩
 have GM_Desk_say:Zba l.prog w K mg base "Desk" "say" 5 ["self","line"] (Zai K mg):=⟨_,_,T.cl_Desk,by rw[q_Desk];exact⟨a_Desk_say,i_Desk_say,k_Desk_say⟩,B_Desk_say,Zg1 F_Desk_say Zc5 ZbM Zbn GM_Desk_go_back TD_ASKED TD_ASKED_OF_ROWS TD_ASKED_OF_TREES T⟩
 have ZbO:Callee l.prog w K mg base "_law_pot" 1 ["script","k"] (Zci K mg):=⟨_,_,mg_of X G Zde,Zb0,ZhG,ZgX Zfc T⟩
 have Zh:Callee l.prog w K mg base "_law_take" 1 ["pot","many"] (sp__law_take K mg):=⟨_,_,mg_of X G Zcv,Zbd,Zha,ok__law_take Zem T⟩
 have Zw:Callee l.prog w K mg base "_law_row_text" 1 ["row"] (ZF K mg):=⟨_,_,mg_of X G ZaS,Z9,Zew,Zd4 Zca T⟩
 have ZbK:Callee l.prog w K mg base "_law_kinds" 1 ["e"] (Zbj K mg):=⟨_,_,mg_of X G Zb2,ZaZ,ZgG,Zfn ZdL T⟩
 have ZS:Callee l.prog w K mg base "_law_alone" 2 ["e","at"] (sp__law_alone K mg):=⟨_,_,mg_of X G Zb5,Za0,ZgH,ok__law_alone ZdM ZbK T⟩
 have Z1:Callee l.prog w K mg base "_law_said" 6 ["desk","line"] (ZaW K mg):=⟨_,_,mg_of X G ZcB,Zbf,Zhc,Zgv Zeo GM_Desk_say T⟩
 have ZbN:Callee l.prog w K mg base "_law_row" 2 ["pot","most"] (sp__law_row K mg):=⟨_,_,mg_of X G Zdh,Zb1,ZhH,ok__law_row Zfd Zh T⟩
 have Zcp:Callee l.prog w K mg base "_law_deed" 3 ["pot","row"] (ZbI K mg):=⟨_,_,mg_of X G Zcy,Zbe,Zhb,Zgw Zen Zh ZbN Zw T⟩
 have Zcq:Callee l.prog w K mg base "_law_done" 7 ["desk","pot","pasts"] (ZbJ K mg):=⟨_,_,mg_of X G ZcE,Zbg,Zhd,Zgx Zep Zh ZS Zcp Z1 T⟩
 exact ok_law ZmD GI_Desk GM_Desk_say ZbO Zh Zw ZS Z1 Zcq T
theorem walk {l:PySem.W.OpenLaw}{q:Program}{loose:List Str}{XP:(Str->Option Value)->Heap->Prop}{YP:World->Heap->Prop}{d:DefRec}{K:Params->PySem.W.Frag} (hn:l.most=some 63) (hdf:d.params.defaults=[])
  (hY:∀(w:World) (h:Heap),YP w h->(K w.params).In h)
  (F:∀(w:World) (mg:Str->Option Value) (fa:Addr) (h:Heap),(K w.params).In h->h.Ns mainGlobals mg->mg d.name=some (.ref fa) ->
   ∃fd:FuncData,(∀(s:Shared) (u:Value),BindsTo s fd ⟨[u],[]⟩ [("script",u)])/\∀base:Heap,(K w.params).In base->base.Ns mainGlobals mg->FnOk l.prog w (K w.params) mg base (CXE l.prog w) 8 fa fd ["script"] (spLaw (K w.params))) :
  PySem.W.WalkO q loose XP YP l.row.toRowW d [] (λf vs=>PySem.call f vs) :=
 L2.ZkW (n:=63) (k:=8) (x:="script") (CX:=λw=>CXE l.prog w) (sp:=λw=>spLaw (K w.params)) hn (by decide) hdf ⟨rfl,by decide,by decide⟩ hY F (λ_ _ a ns hl _ hS=>⟨a,ns,rfl,hS,hl,λ_=>rfl⟩) λ_ _ _ _ _ ⟨_,_,_,_,_,_,_,z⟩=>z
end K81
def PySem.W.Fast.tw4218444383784684121:Unit:=()
def PySem.W.Fast.tw9885818863447162404:Unit:=()
def PySem.W.Fast.tw2503154697588816616:Unit:=()
def PySem.W.Fast.tw4348105445024225851:Unit:=()
def PySem.W.Fast.tw5956854600508921805:Unit:=()
def PySem.W.Fast.tw5230302408407007431:Unit:=()
def PySem.W.Fast.tw13420326422553015197:Unit:=()
def PySem.W.Fast.tw6718387114982993830:Unit:=()
def PySem.W.Fast.tw804893803431865131:Unit:=()
def PySem.W.Fast.tw12467527970682976164:Unit:=()
def PySem.W.Fast.tw17810623072279056799:Unit:=()
def PySem.W.Fast.tw3298345179055590608:Unit:=()
def PySem.W.Fast.tw855140000805176119:Unit:=()
def PySem.W.Fast.tw13985187734968486945:Unit:=()
def PySem.W.Fast.tw7192044085820752470:Unit:=()
def PySem.W.Fast.tw8547254612739298833:Unit:=()
def PySem.W.Fast.tw11656473144981549773:Unit:=()
def PySem.W.Fast.tw10014160646698288539:Unit:=()
def PySem.W.Fast.tw5340170737401969552:Unit:=()
def PySem.W.Fast.tw17033231719531279967:Unit:=()
def PySem.W.Fast.tw2245016947035644421:Unit:=()
def PySem.W.Fast.tw641356804596765505:Unit:=()
def PySem.W.Fast.tw10489246455539719002:Unit:=()
def PySem.W.Fast.tw1108404932129784702:Unit:=()
def PySem.W.Fast.tw17407349995476953126:Unit:=()
def PySem.W.Fast.tw14150757986935368642:Unit:=()
def PySem.W.Fast.tw5349275353369574528:Unit:=()
def PySem.W.Fast.tw8744338834081607751:Unit:=()
def PySem.W.Fast.tw13021442907690388463:Unit:=()
def PySem.W.Fast.tw16912170124902744361:Unit:=()
def PySem.W.Fast.tw16451025803153383886:Unit:=()
def PySem.W.Fast.tw17101748163265915599:Unit:=()
def PySem.W.Fast.tw2265823238734174384:Unit:=()
def PySem.W.Fast.tw1733837934546571878:Unit:=()
def PySem.W.Fast.tw2318519188732359477:Unit:=()
def PySem.W.Fast.tw9061495426734371755:Unit:=()
def PySem.W.Fast.tw16008047333643611847:Unit:=()
def PySem.W.Fast.tw8742458509040838943:Unit:=()
def PySem.W.Fast.tw14424378891821637434:Unit:=()
def PySem.W.Fast.tw12712773725208648714:Unit:=()
def PySem.W.Fast.tw2750116910555580184:Unit:=()
def PySem.W.Fast.tw6175688071942076631:Unit:=()
def PySem.W.Fast.tw9992127688275540662:Unit:=()
def PySem.W.Fast.tw15549928993659790942:Unit:=()
def PySem.W.Fast.tw5197905941377926421:Unit:=()
def PySem.W.Fast.tw13100941574930915368:Unit:=()
def PySem.W.Fast.tw16175768621415087962:Unit:=()
def PySem.W.Fast.tw5782934589125449420:Unit:=()
def PySem.W.Fast.tw4492952925983100140:Unit:=()
def PySem.W.Fast.tw352655069391522164:Unit:=()
def PySem.W.Fast.tw457780415179360864:Unit:=()
def PySem.W.Fast.tw15996465545600133421:Unit:=()
def PySem.W.Fast.tw13350320251552380274:Unit:=()
def PySem.W.Fast.tw16831996231119678626:Unit:=()
def PySem.W.Fast.tw16133169727245813323:Unit:=()
def PySem.W.Fast.tw16277638222743065645:Unit:=()
def PySem.W.Fast.tw5239571570933576744:Unit:=()
def PySem.W.Fast.tw7643100355723876700:Unit:=()
def PySem.W.Fast.tw15508691130046697542:Unit:=()
def PySem.W.Fast.tw7845029655017737858:Unit:=()
def PySem.W.Fast.tw14918096837415845295:Unit:=()
def PySem.W.Fast.tw9954653751712502967:Unit:=()
def PySem.W.Fast.tw8008948702471087754:Unit:=()
def PySem.W.Fast.tw17151513639464357968:Unit:=()
def PySem.W.Fast.tw12966669580973050712:Unit:=()
def PySem.W.Fast.tw12242302747885781330:Unit:=()
def PySem.W.Fast.tw12771132597351899203:Unit:=()
def PySem.W.Fast.tw7965899712017726679:Unit:=()
def PySem.W.Fast.tw6894019815067370721:Unit:=()
def PySem.W.Fast.tw14129651512708891324:Unit:=()
def PySem.W.Fast.tw1211843689546859426:Unit:=()
def PySem.W.Fast.tw10034351506527540376:Unit:=()
def PySem.W.Fast.tw8364625448902989202:Unit:=()
def PySem.W.Fast.tw5726315180669645519:Unit:=()
def PySem.W.Fast.tw3141297794733953847:Unit:=()
def PySem.W.Fast.tw13443975626764226992:Unit:=()
def PySem.W.Fast.tw13503849879269967017:Unit:=()
def PySem.W.Fast.tw5976056923387657428:Unit:=()
def PySem.W.Fast.tw15321075127622708588:Unit:=()
def PySem.W.Fast.tw469060543208517214:Unit:=()
def PySem.W.Fast.tw13445102967107220710:Unit:=()
def PySem.W.Fast.tw648448111977165600:Unit:=()
def PySem.W.Fast.tw6029973793807496082:Unit:=()
def PySem.W.Fast.tw4117749974760754884:Unit:=()
def PySem.W.Fast.tw13095243805518106305:Unit:=()
def PySem.W.Fast.tw8482597535966181016:Unit:=()
def PySem.W.Fast.tw14184491540996149704:Unit:=()
def PySem.W.Fast.tw17674986449996195646:Unit:=()
def PySem.W.Fast.tw12862518151257751672:Unit:=()
def PySem.W.Fast.tw10237248084512237372:Unit:=()
def PySem.W.Fast.tw5420491014006780888:Unit:=()
def PySem.W.Fast.tw7918221592804387150:Unit:=()
def PySem.W.Fast.tw387854611216597974:Unit:=()
def PySem.W.Fast.tw1776910188928838213:Unit:=()
def PySem.W.Fast.tw11832680116130775718:Unit:=()
def PySem.W.Fast.tw4816748493489669499:Unit:=()
def PySem.W.Fast.tw7448124241289345581:Unit:=()
def PySem.W.Fast.tw12348258299500272470:Unit:=()
def PySem.W.Fast.tw10532784352126774066:Unit:=()
def PySem.W.Fast.tw1314384695515316269:Unit:=()
def PySem.W.Fast.tw14828132380436448372:Unit:=()
def PySem.W.Fast.tw9405700409814043057:Unit:=()
def PySem.W.Fast.tw5645489920481332571:Unit:=()
def PySem.W.Fast.tw14739713439405212413:Unit:=()
def PySem.W.Fast.tw15006973224735074084:Unit:=()
def PySem.W.Fast.tw2524501467058540849:Unit:=()
def PySem.W.Fast.tw17728671996730965510:Unit:=()
def PySem.W.Fast.tw5339291860876827780:Unit:=()
def PySem.W.Fast.tw10988980669531734840:Unit:=()
def PySem.W.Fast.tw8072301479468044901:Unit:=()
def PySem.W.Fast.tw9918962057002189079:Unit:=()
def PySem.W.Fast.tw7494195868619487602:Unit:=()
def PySem.W.Fast.tw9199715995886203408:Unit:=()
def PySem.W.Fast.tw7720687545316427064:Unit:=()
def PySem.W.Fast.tw17478574510184018279:Unit:=()
def PySem.W.Fast.tw16412370852253318169:Unit:=()
def PySem.W.Fast.tw8331050610269183376:Unit:=()
def PySem.W.Fast.tw7278387445792457108:Unit:=()
def PySem.W.Fast.tw3299503995428205357:Unit:=()
def PySem.W.Fast.tw16334209481468715069:Unit:=()
def PySem.W.Fast.tw259877439880396093:Unit:=()
def PySem.W.Fast.tw11913781217982357374:Unit:=()
def PySem.W.Fast.tw4823419146442965825:Unit:=()
def PySem.W.Fast.tw3753109735598122767:Unit:=()
def PySem.W.Fast.tw9616422559676041689:Unit:=()
def PySem.W.Fast.tw3638228403197828701:Unit:=()
def PySem.W.Fast.tw8502002569224634270:Unit:=()
def PySem.W.Fast.tw8452754876756430110:Unit:=()
def PySem.W.Fast.tw13645989216706804375:Unit:=()
def PySem.W.Fast.tw12432777051967937196:Unit:=()
def PySem.W.Fast.tw13016146700061519103:Unit:=()
def PySem.W.Fast.tw12400686014878950914:Unit:=()
def PySem.W.Fast.tw5932047608919048449:Unit:=()
def PySem.W.Fast.tw11212685522489674580:Unit:=()
def PySem.W.Fast.tw8832655983610072506:Unit:=()
def PySem.W.Fast.tw17240767501349893991:Unit:=()
def PySem.W.Fast.tw3153154358791113420:Unit:=()
def PySem.W.Fast.tw4228785667952075372:Unit:=()
def PySem.W.Fast.tw8003882325657186461:Unit:=()
def PySem.W.Fast.tw16465562147435051132:Unit:=()
def PySem.W.Fast.tw4354478856257402027:Unit:=()
def PySem.W.Fast.tw9952021579319552383:Unit:=()
def PySem.W.Fast.tw13197060801583289444:Unit:=()
def PySem.W.Fast.tw15870673320423390542:Unit:=()
def PySem.W.Fast.tw18070708706851619028:Unit:=()
def PySem.W.Fast.tw5396284674355946268:Unit:=()
def PySem.W.Fast.tw2324923233205602683:Unit:=()
def PySem.W.Fast.tw16499651693412625375:Unit:=()
def PySem.W.Fast.tw9154738938028100501:Unit:=()
def PySem.W.Fast.tw11274903357793896885:Unit:=()
def PySem.W.Fast.tw4281192091159404249:Unit:=()
def PySem.W.Fast.tw9179022620027263298:Unit:=()
def PySem.W.Fast.tw1233234012318296640:Unit:=()
def PySem.W.Fast.tw1923712374164943196:Unit:=()
def PySem.W.Fast.tw3030079190889387612:Unit:=()
def PySem.W.Fast.tw8383938053417549582:Unit:=()
def PySem.W.Fast.tw8018902575556951323:Unit:=()
def PySem.W.Fast.tw13332500402210924011:Unit:=()
def PySem.W.Fast.tw12983087885956697782:Unit:=()
def PySem.W.Fast.tw14107006921259441212:Unit:=()
def PySem.W.Fast.tw12267776017012674756:Unit:=()
def PySem.W.Fast.tw15918749933360557348:Unit:=()
def PySem.W.Fast.tw3563570840136902120:Unit:=()
def PySem.W.Fast.tw7199581572700228443:Unit:=()
def PySem.W.Fast.tw9060861012873989485:Unit:=()
def PySem.W.Fast.tw583894989569471692:Unit:=()
def PySem.W.Fast.tw7680292257058225436:Unit:=()
def PySem.W.Fast.tw13792376088089178345:Unit:=()
def PySem.W.Fast.tw10896917125763201027:Unit:=()
def PySem.W.Fast.tw9216371398195516536:Unit:=()
def PySem.W.Fast.tw2583278507957930941:Unit:=()
def PySem.W.Fast.tw15737114690283264221:Unit:=()
def PySem.W.Fast.tw3112501452116723683:Unit:=()
def PySem.W.Fast.tw12955336838114338538:Unit:=()
def PySem.W.Fast.tw1461165925277501377:Unit:=()
def PySem.W.Fast.tw1024356348850905322:Unit:=()
def PySem.W.Fast.tw17972045901327736738:Unit:=()
def PySem.W.Fast.tw5512432096479867320:Unit:=()
def PySem.W.Fast.tw16382650057715445752:Unit:=()
def PySem.W.Fast.tw8952484438466928292:Unit:=()
def PySem.W.Fast.tw8288799575209919528:Unit:=()
def PySem.W.Fast.tw2705097776490605365:Unit:=()
def PySem.W.Fast.tw6370357594661173258:Unit:=()
def PySem.W.Fast.tw17761019008432040458:Unit:=()
def PySem.W.Fast.tw8479627842865648901:Unit:=()
def PySem.W.Fast.tw9497372455956575188:Unit:=()
def PySem.W.Fast.tw6883621932899566673:Unit:=()
def PySem.W.Fast.tw12721287869098890146:Unit:=()
def PySem.W.Fast.tw10571206702229133466:Unit:=()
def PySem.W.Fast.tw9512079155646715555:Unit:=()
def PySem.W.Fast.tw8963720335224019885:Unit:=()
def PySem.W.Fast.tw6234232646973993672:Unit:=()
def PySem.W.Fast.tw9987214863511467637:Unit:=()
def PySem.W.Fast.tw13402008990352069585:Unit:=()
def PySem.W.Fast.tw2542591161820641350:Unit:=()
def PySem.W.Fast.tw9425775362364681528:Unit:=()
def PySem.W.Fast.tw11896532708077487873:Unit:=()
def PySem.W.Fast.tw6103041631573158653:Unit:=()
def PySem.W.Fast.tw13367574587382008168:Unit:=()
def PySem.W.Fast.tw2719390068994881224:Unit:=()
def PySem.W.Fast.tw6140766487974267337:Unit:=()
def PySem.W.Fast.tw11021293398609173598:Unit:=()
def PySem.W.Fast.tw8322979461421859570:Unit:=()
def PySem.W.Fast.tw7728239582851353371:Unit:=()
def PySem.W.Fast.tw4573499400515455844:Unit:=()
def PySem.W.Fast.tw14960507358962207173:Unit:=()
def PySem.W.Fast.tw17427811730519025511:Unit:=()
def PySem.W.Fast.tw6855377977844732077:Unit:=()
def PySem.W.Fast.tw13532903269664119363:Unit:=()
def PySem.W.Fast.tw10246026166387090922:Unit:=()
def PySem.W.Fast.tw13921090409742399693:Unit:=()
def PySem.W.Fast.tw1412553818706965495:Unit:=()
def PySem.W.Fast.tw3174689554878647043:Unit:=()
open PySem PySem.W PyProof.Rows
set_option maxRecDepth 100000 in
set_option maxHeartbeats 0 in
theorem PySem.Challenge.cw_dipkin_k81_desk_keeps_a_row_holds : PySem.Challenge.rw_dipkin_k81_desk_keeps_a_row.Holds := by
 w_on;o_law;k_head;(case hw=>w_witness2)
 k_fill
 refine K81.walk (l:=PySem.Challenge.rw_dipkin_k81_desk_keeps_a_row) rfl rfl (λw h Y=>PySem.W.km_in_of Y) ?F
 case F =>
  intro w mg fa h KX G hmg
  refine' K81.all_mk KX G hmg ?n_Desk ?pg_Desk ?hd_Desk ?po_Desk ?sa_Desk ?mk_Desk ?kc_Desk ?na_Desk_rows ?Zau ?Za7 ?Za8 ?Z2 ?Zav ?Zcs ?Zct ?Zcu ?Zbc ?Zc6 ?Zc7 ?Zc8 ?ZbP ?Zbo ?Zbp ?Zbq ?ZaL ?Zc9 ?Zda ?Zdb ?ZbQ ?ZbR ?Zdc ?Zdd ?ZbT ?ZbU ?ZbV ?ZbW ?ZaX ?ZaH ?ZaI ?ZaJ ?Z7 ?ZbX ?ZbY ?ZbZ ?ZaY ?Zbr ?Zbs ?Zbt ?ZaM ?a_Desk___init__ ?i_Desk___init__ ?l_Desk___init__ ?c_Desk___init__ ?k_Desk___init__ ?a_Desk_say ?i_Desk_say ?l_Desk_say ?c_Desk_say ?k_Desk_say ?a_Desk_go_back ?i_Desk_go_back ?l_Desk_go_back ?c_Desk_go_back ?k_Desk_go_back ?Zde ?Zdf ?Zdg ?Zb0 ?Zcv ?Zcw ?Zcx ?Zbd ?Zdh ?Zdi ?Zdj ?Zb1 ?ZaS ?ZaT ?ZaU ?Z9 ?Zb2 ?Zb3 ?Zb4 ?ZaZ ?Zb5 ?Zb6 ?Zb7 ?Za0 ?Zcy ?Zcz ?ZcA ?Zbe ?ZcB ?ZcC ?ZcD ?Zbf ?ZcE ?ZcF ?ZcG ?Zbg ?Zkd ?Zke ?Zkg ?Zkh ?n_DipError ?x_DipError ?d_DipError ?y_DipError ?n_Unlike ?x_Unlike ?d_Unlike ?y_Unlike ?n_Empty ?x_Empty ?d_Empty ?y_Empty ?n_TooMany ?x_TooMany ?d_TooMany ?y_TooMany ?n_NoTree ?x_NoTree ?d_NoTree ?y_NoTree ?n_NoTelling ?x_NoTelling ?d_NoTelling ?y_NoTelling ?n_NoPlace ?x_NoPlace ?d_NoPlace ?y_NoPlace ?n_NoNumber ?x_NoNumber ?d_NoNumber ?y_NoNumber ?n_NoPast ?x_NoPast ?d_NoPast ?y_NoPast ?n_NoText ?x_NoText ?d_NoText ?y_NoText ?n_NoLine ?x_NoLine ?d_NoLine ?y_NoLine ?z1_TooMany ?z2_TooMany ?z3_TooMany ?z4_TooMany ?z5_TooMany ?z6_TooMany ?z7_TooMany ?z8_TooMany ?u_TooMany ?i_TooMany_DipError ?ne_TooMany_DipError ?i_TooMany_Unlike ?ne_TooMany_Unlike ?i_TooMany_Empty ?ne_TooMany_Empty ?i_TooMany_NoTree ?ne_TooMany_NoTree ?i_TooMany_NoTelling ?ne_TooMany_NoTelling ?i_TooMany_NoPlace ?ne_TooMany_NoPlace ?i_TooMany_NoNumber ?ne_TooMany_NoNumber ?i_TooMany_NoPast ?ne_TooMany_NoPast ?i_TooMany_NoText ?ne_TooMany_NoText ?i_TooMany_NoLine ?ne_TooMany_NoLine ?i_TooMany_V ?z1_Empty ?z2_Empty ?z3_Empty ?z4_Empty ?z5_Empty ?z6_Empty ?z7_Empty ?z8_Empty ?u_Empty ?i_Empty_DipError ?ne_Empty_DipError ?i_Empty_Unlike ?ne_Empty_Unlike ?i_Empty_TooMany ?ne_Empty_TooMany ?i_Empty_NoTree ?ne_Empty_NoTree ?i_Empty_NoTelling ?ne_Empty_NoTelling ?i_Empty_NoPlace ?ne_Empty_NoPlace ?i_Empty_NoNumber ?ne_Empty_NoNumber ?i_Empty_NoPast ?ne_Empty_NoPast ?i_Empty_NoText ?ne_Empty_NoText ?i_Empty_NoLine ?ne_Empty_NoLine ?i_Empty_V ?z1_NoPast ?z2_NoPast ?z3_NoPast ?z4_NoPast ?z5_NoPast ?z6_NoPast ?z7_NoPast ?z8_NoPast ?u_NoPast ?i_NoPast_DipError ?ne_NoPast_DipError ?i_NoPast_Unlike ?ne_NoPast_Unlike ?i_NoPast_Empty ?ne_NoPast_Empty ?i_NoPast_TooMany ?ne_NoPast_TooMany ?i_NoPast_NoTree ?ne_NoPast_NoTree ?i_NoPast_NoTelling ?ne_NoPast_NoTelling ?i_NoPast_NoPlace ?ne_NoPast_NoPlace ?i_NoPast_NoNumber ?ne_NoPast_NoNumber ?i_NoPast_NoText ?ne_NoPast_NoText ?i_NoPast_NoLine ?ne_NoPast_NoLine ?i_NoPast_V ?b_ValueError ?b_int ?b_isinstance ?b_len ?b_list ?b_max ?b_min ?b_range ?b_str ?b_tuple ?m_MOST_PLACES ?m_MOST_HELD ?m_MOST_HOLDING ?m_NOTHING ?m_MOST_FIGURES ?tn_ASKED ?tl_ASKED ?tk_ASKED ?ts_ASKED ?tm_ASKED ?tg_ASKED_0 ?tn_ASKED_OF_ROWS ?tl_ASKED_OF_ROWS ?tk_ASKED_OF_ROWS ?ts_ASKED_OF_ROWS ?tm_ASKED_OF_ROWS ?tn_ASKED_OF_TREES ?tl_ASKED_OF_TREES ?tk_ASKED_OF_TREES ?ts_ASKED_OF_TREES ?tm_ASKED_OF_TREES
  (case n_Desk|pg_Desk|hd_Desk|po_Desk|sa_Desk|mk_Desk|kc_Desk|na_Desk_rows|Zau|Za7|Za8|Z2|Zav|Zcs|Zct|Zcu|Zbc|Zc6|Zc7|Zc8|ZbP|Zbo|Zbp|Zbq|ZaL|Zc9|Zda|Zdb|ZbQ|ZbR|Zdc|Zdd|ZbT|ZbU|ZbV|ZbW|ZaX|ZaH|ZaI|ZaJ|Z7|ZbX|ZbY|ZbZ|ZaY|Zbr|Zbs|Zbt|ZaM|a_Desk___init__|i_Desk___init__|l_Desk___init__|c_Desk___init__|k_Desk___init__|a_Desk_say|i_Desk_say|l_Desk_say|c_Desk_say|k_Desk_say|a_Desk_go_back|i_Desk_go_back|l_Desk_go_back|c_Desk_go_back|k_Desk_go_back|Zde|Zdf|Zdg|Zb0|Zcv|Zcw|Zcx|Zbd|Zdh|Zdi|Zdj|Zb1|ZaS|ZaT|ZaU|Z9|Zb2|Zb3|Zb4|ZaZ|Zb5|Zb6|Zb7|Za0|Zcy|Zcz|ZcA|Zbe|ZcB|ZcC|ZcD|Zbf|ZcE|ZcF|ZcG|Zbg|Zkd|Zke|Zkg|Zkh|n_DipError=>k_is)
  (case x_DipError=>k_exc)
  (case d_DipError|y_DipError|n_Unlike=>k_is)
  (case x_Unlike=>k_exc)
  (case d_Unlike|y_Unlike|n_Empty=>k_is)
  (case x_Empty=>k_exc)
  (case d_Empty|y_Empty|n_TooMany=>k_is)
  (case x_TooMany=>k_exc)
  (case d_TooMany|y_TooMany|n_NoTree=>k_is)
  (case x_NoTree=>k_exc)
  (case d_NoTree|y_NoTree|n_NoTelling=>k_is)
  (case x_NoTelling=>k_exc)
  (case d_NoTelling|y_NoTelling|n_NoPlace=>k_is)
  (case x_NoPlace=>k_exc)
  (case d_NoPlace|y_NoPlace|n_NoNumber=>k_is)
  (case x_NoNumber=>k_exc)
  (case d_NoNumber|y_NoNumber|n_NoPast=>k_is)
  (case x_NoPast=>k_exc)
  (case d_NoPast|y_NoPast|n_NoText=>k_is)
  (case x_NoText=>k_exc)
  (case d_NoText|y_NoText|n_NoLine=>k_is)
  (case x_NoLine=>k_exc)
  (case d_NoLine|y_NoLine|z1_TooMany|z2_TooMany|z3_TooMany|z4_TooMany|z5_TooMany|z6_TooMany|z7_TooMany|z8_TooMany|u_TooMany|i_TooMany_DipError=>k_is)
  (case ne_TooMany_DipError=>decide)
  (case i_TooMany_Unlike=>k_is)
  (case ne_TooMany_Unlike=>decide)
  (case i_TooMany_Empty=>k_is)
  (case ne_TooMany_Empty=>decide)
  (case i_TooMany_NoTree=>k_is)
  (case ne_TooMany_NoTree=>decide)
  (case i_TooMany_NoTelling=>k_is)
  (case ne_TooMany_NoTelling=>decide)
  (case i_TooMany_NoPlace=>k_is)
  (case ne_TooMany_NoPlace=>decide)
  (case i_TooMany_NoNumber=>k_is)
  (case ne_TooMany_NoNumber=>decide)
  (case i_TooMany_NoPast=>k_is)
  (case ne_TooMany_NoPast=>decide)
  (case i_TooMany_NoText=>k_is)
  (case ne_TooMany_NoText=>decide)
  (case i_TooMany_NoLine=>k_is)
  (case ne_TooMany_NoLine=>decide)
  (case i_TooMany_V|z1_Empty|z2_Empty|z3_Empty|z4_Empty|z5_Empty|z6_Empty|z7_Empty|z8_Empty|u_Empty|i_Empty_DipError=>k_is)
  (case ne_Empty_DipError=>decide)
  (case i_Empty_Unlike=>k_is)
  (case ne_Empty_Unlike=>decide)
  (case i_Empty_TooMany=>k_is)
  (case ne_Empty_TooMany=>decide)
  (case i_Empty_NoTree=>k_is)
  (case ne_Empty_NoTree=>decide)
  (case i_Empty_NoTelling=>k_is)
  (case ne_Empty_NoTelling=>decide)
  (case i_Empty_NoPlace=>k_is)
  (case ne_Empty_NoPlace=>decide)
  (case i_Empty_NoNumber=>k_is)
  (case ne_Empty_NoNumber=>decide)
  (case i_Empty_NoPast=>k_is)
  (case ne_Empty_NoPast=>decide)
  (case i_Empty_NoText=>k_is)
  (case ne_Empty_NoText=>decide)
  (case i_Empty_NoLine=>k_is)
  (case ne_Empty_NoLine=>decide)
  (case i_Empty_V|z1_NoPast|z2_NoPast|z3_NoPast|z4_NoPast|z5_NoPast|z6_NoPast|z7_NoPast|z8_NoPast|u_NoPast|i_NoPast_DipError=>k_is)
  (case ne_NoPast_DipError=>decide)
  (case i_NoPast_Unlike=>k_is)
  (case ne_NoPast_Unlike=>decide)
  (case i_NoPast_Empty=>k_is)
  (case ne_NoPast_Empty=>decide)
  (case i_NoPast_TooMany=>k_is)
  (case ne_NoPast_TooMany=>decide)
  (case i_NoPast_NoTree=>k_is)
  (case ne_NoPast_NoTree=>decide)
  (case i_NoPast_NoTelling=>k_is)
  (case ne_NoPast_NoTelling=>decide)
  (case i_NoPast_NoPlace=>k_is)
  (case ne_NoPast_NoPlace=>decide)
  (case i_NoPast_NoNumber=>k_is)
  (case ne_NoPast_NoNumber=>decide)
  (case i_NoPast_NoText=>k_is)
  (case ne_NoPast_NoText=>decide)
  (case i_NoPast_NoLine=>k_is)
  (case ne_NoPast_NoLine=>decide)
  (case i_NoPast_V|b_ValueError|b_int|b_isinstance|b_len|b_list|b_max|b_min|b_range|b_str|b_tuple|m_MOST_PLACES|m_MOST_HELD|m_MOST_HOLDING|m_NOTHING|m_MOST_FIGURES|tn_ASKED|tl_ASKED=>k_is)
  (case tk_ASKED=>k_keys)
  (case ts_ASKED=>decide)
  (case tm_ASKED=>kernel_rfl)
  (case tg_ASKED_0|tn_ASKED_OF_ROWS|tl_ASKED_OF_ROWS=>k_is)
  (case tk_ASKED_OF_ROWS=>k_keys)
  (case ts_ASKED_OF_ROWS=>decide)
  (case tm_ASKED_OF_ROWS=>kernel_rfl)
  (case tn_ASKED_OF_TREES|tl_ASKED_OF_TREES=>k_is)
  (case tk_ASKED_OF_TREES=>k_keys)
  (case ts_ASKED_OF_TREES=>decide)
  (case tm_ASKED_OF_TREES=>kernel_rfl)
