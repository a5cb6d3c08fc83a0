import PyProof.Rows.All
import Wide.All
import OpenK.AllK
import Wide.FinOn
import Lean
import PyProof.EqAt
import PyProof.EqKinds
import PyProof.TupleCall
import PyProof.MeetsSeq
import PyProof.NeKinds
import PyProof.TupleOfSeq
import PyProof.ListRange
import PyProof.TupleOfGen
import PyProof.ZipIter
import KE.KRevIter
import PyProof.StrWalks
import PyProof.StrBlock2
import PyProof.MeetsStr
import PyProof.StrCalls2
import PyProof.StrLawsIn
import KE.KIntText
import PyProof.StrLawsTight
import PyProof.StrLawsChain
import PyProof.StrLawsAffix
import PyProof.Rows.StrItems
import PyProof.Rows.ReprOcc
import KE.KDictSum
import PyProof.Rows.SeqMore
import KE.KDictList
import KE.KStateDown
import PyProof.StrBlockI
import PySem.Challenge.RW_dipkin_k10_what_tells_no_tree
set_option Elab.async false
set_option linter.all false
set_option maxRecDepth 100000
set_option maxHeartbeats 4000000
set_option genSizeOfSpec false
local macro_rules | `(tactic| omega) => `(tactic| first | lia | omega (config := {}))
section
open PySem PySem.Spec PyProof.Rows
noncomputable abbrev Ya:=@wpAny_bind
noncomputable abbrev Yb:=@if_neg
noncomputable abbrev Yc:=@if_pos
noncomputable abbrev Yd:=@Nat.le_refl
noncomputable abbrev Ye:=@wpAny_pure
noncomputable abbrev Yf:=@List.getElem?_eq_getElem
noncomputable abbrev Yg:=@Nat.le_trans
noncomputable abbrev Yh:=@Heap.lt_size
noncomputable abbrev Yi:=@List.length_map
noncomputable abbrev Yj:=@List.getD_eq_getElem?_getD
noncomputable abbrev Yk:=@PySem.boot_len
noncomputable abbrev Yl:=@List.size_toArray
noncomputable abbrev Ym:=@Heap.get?_push_of_some
noncomputable abbrev Yn:=@Nat.zero_le
noncomputable abbrev Yo:=@Nat.ne_of_lt
noncomputable abbrev Yp:=@List.mem_append_right
noncomputable abbrev Yq:=@List.mem_cons
noncomputable abbrev Yr:=@List.length_append
noncomputable abbrev Ys:=@List.getElem?_eq_some_iff
noncomputable abbrev Yt:=@List.mem_append
noncomputable abbrev Yu:=@Nat.lt_of_lt_of_le
noncomputable abbrev Yv:=@Bool.false_ne_true
noncomputable abbrev Yw:=@Heap.get?_push_size
noncomputable abbrev Yx:=@Option.some.inj
noncomputable abbrev Yy:=@Nat.lt_of_le_of_lt
noncomputable abbrev Yz:=@Nat.lt_irrefl
noncomputable abbrev YA:=@List.mem_range
noncomputable abbrev YB:=@decide_eq_false
noncomputable abbrev YC:=@List.mem_append_left
noncomputable abbrev YD:=@List.getElem?_map
noncomputable abbrev YE:=@List.length_cons
noncomputable abbrev YF:=@List.range_succ
noncomputable abbrev YG:=@List.mem_map
noncomputable abbrev YH:=@Nat.lt_succ_of_lt
noncomputable abbrev YI:=@wpAny_mono
noncomputable abbrev YJ:=@Int.toNat_natCast
noncomputable abbrev YK:=@decide_eq_true
noncomputable abbrev YL:=@List.map_append
noncomputable abbrev YM:=@Int.eq_ofNat_of_zero_le
noncomputable abbrev YN:=@List.map_map
noncomputable abbrev YO:=@Array.length_toList
noncomputable abbrev YQ:=@List.map_cons
noncomputable abbrev YR:=@List.take_add_one
noncomputable abbrev YS:=@List.mem_filter
noncomputable abbrev YT:=@Nat.le_of_lt
noncomputable abbrev YU:=@List.mem_cons_of_mem
noncomputable abbrev YV:=@List.append_assoc
noncomputable abbrev YW:=@List.mem_cons_self
noncomputable abbrev YX:=@List.length_take
noncomputable abbrev YY:=@List.mem_singleton
noncomputable abbrev YZ:=@List.pairwise_cons
noncomputable abbrev Y0:=@List.getElem?_append_right
noncomputable abbrev Y1:=@List.length_drop
noncomputable abbrev Y2:=@List.getElem_mem
noncomputable abbrev Y3:=@Nat.le_succ
noncomputable abbrev Y4:=@List.getElem?_append_left
noncomputable abbrev Y5:=@Nat.le_of_eq
noncomputable abbrev Y6:=@List.length_range
noncomputable abbrev Y7:=@List.take_append_drop
noncomputable abbrev Y8:=@of_decide_eq_true
end
namespace L2
open PySem PySem.Spec PyProof.Rows
noncomputable abbrev Key:=Sum Int Str
noncomputable def keyIs:Key->Value->Bool
 |.inl k,v=>Value.isInt k v
 |.inr x,v=>Value.isStrOf x v
noncomputable def keyH (w:World):Key->Int
 |.inl k=>hashInt k
 |.inr x=>hashStr w x
theorem Zaa:∀{k:Key}{v:Value},keyIs k v=true->(∃i t,k=Sum.inl i/\v=Value.int i t)\/(∃x t,k=Sum.inr x/\v=Value.str x t)
 |.inl i,v,h=>by
  obtain⟨t,e⟩:=Value.isInt_shape (k:=i) (v:=v) h
  exact .inl ⟨i,t,rfl,e⟩
 |.inr x,v,h=>by
  obtain⟨t,e⟩:=Value.isStrOf_shape (x:=x) (v:=v) h
  exact .inr ⟨x,t,rfl,e⟩
theorem key_ll (a b:Int):decide ((Sum.inl a:Key)=Sum.inl b)=(a==b):=by
 by_cases e:a=b
 ·subst e;simp
 ·have h:¬ (Sum.inl a:Key)=Sum.inl b:=λq=>e (Sum.inl.inj q)
  rw[YB h]
  exact(beq_eq_false_iff_ne.mpr e).symm
theorem key_rr (a b:Str):decide ((Sum.inr a:Key)=Sum.inr b)=decide (a=b):=by
 by_cases e:a=b
 ·subst e;simp
 ·have h:¬ (Sum.inr a:Key)=Sum.inr b:=λq=>e (Sum.inr.inj q)
  rw[YB h,YB e]
theorem key_lr (a:Int) (b:Str):decide ((Sum.inl a:Key)=Sum.inr b)=false:=YB (λq=>nomatch q)
theorem key_rl (a:Str) (b:Int):decide ((Sum.inr a:Key)=Sum.inl b)=false:=YB (λq=>nomatch q)
noncomputable def Zmq (prog:Program) (w:World):PySem.KeyKind prog w Key where
 is:=keyIs
 hash:=keyH w
 inj:=λv a b ha hb=>by
  rcases Zaa ha with⟨i,t,rfl,rfl⟩|⟨x,t,rfl,rfl⟩
  ·rcases Zaa hb with⟨j,u,rfl,e⟩|⟨y,u,rfl,e⟩
   ·injection e with e1 _;rw[e1]
   ·exact nomatch e
  ·rcases Zaa hb with⟨j,u,rfl,e⟩|⟨y,u,rfl,e⟩
   ·exact nomatch e
   ·injection e with e1 _;rw[e1]
 byValue:=λk v h=>by
  rcases Zaa h with⟨i,t,rfl,rfl⟩|⟨x,t,rfl,rfl⟩<;>rfl
 pyHash:=λhv h=>by
  rcases Zaa hv with⟨i,t,rfl,rfl⟩|⟨x,t,rfl,rfl⟩
  ·exact wpAny_pyHash_int h
  ·exact wpAny_pyHash_str h
 eqBool:=λhu hv h=>by
  rcases Zaa hu with⟨i,t,rfl,rfl⟩|⟨x,t,rfl,rfl⟩
  ·rcases Zaa hv with⟨j,u,rfl,rfl⟩|⟨y,u,rfl,rfl⟩
   ·rw[key_ll]at h;exact wpAny_eqBool_int h
   ·rw[key_lr]at h;exact SeqAt.EqAt.int_str i t y u _ _ _ _ h
  ·rcases Zaa hv with⟨j,u,rfl,rfl⟩|⟨y,u,rfl,rfl⟩
   ·rw[key_rl]at h;exact SeqAt.EqAt.str_int x t j u _ _ _ _ h
   ·rw[key_rr]at h;exact wpAny_eqBool_str h
 «strs»:=λk x t v h=>by
  rcases Zaa h with⟨i,u,rfl,e⟩|⟨y,u,rfl,e⟩
  ·exact nomatch e
  ·injection e with e1 _
   subst e1
   cases v<;>rfl
inductive V where
 |non|bl (b:Bool)|int (i:Int)|str (x:Str)|byt (b:Array UInt8)|flt (b:UInt64)|ref (a:Addr)|ty (n:String)
 deriving DecidableEq
noncomputable def RelV:V->Value->Prop
 |.non,u=>u=Value.none
 |.bl b,u=>u=Value.bool b
 |.int i,u=>∃t,u=Value.int i t
 |.str x,u=>∃t,u=Value.str x t
 |.byt b,u=>∃t,u=Value.bytes b t
 |.flt b,u=>∃t,u=Value.float b t
 |.ref a,u=>u=Value.ref a
 |.ty n,u=>u=Value.type n
noncomputable abbrev Vals:List V->List Value->Prop:=Paired RelV
theorem Vals.length {xs:List V}{us:List Value} (r:Vals xs us):xs.length=us.length:=Paired.length r
theorem Vals.get:∀{xs:List V}{us:List Value}{i:Nat}{x:V},Vals xs us->xs[i]?=some x->∃u,us[i]?=some u/\RelV x u
 |_,_,_,_,.nil,e=>by simp at e
 |_,_,0,_,.cons r _,e=>by simp at e;subst e;exact⟨_,rfl,r⟩
 |_,_,i+1,x,.cons _ t,e=>by
  obtain⟨u,h1,h2⟩:=Vals.get (i:=i) (x:=x) t (by simpa using e)
  exact⟨u,by simpa using h1,h2⟩
theorem Vals.set {x:V}{u:Value} (r:RelV x u):∀{xs:List V}{us:List Value} (i:Nat),Vals xs us->Vals (xs.set i x) (us.set i u)
 |_,_,_,.nil=>.nil
 |_,_,0,.cons _ t=>.cons r t
 |_,_,i+1,.cons q t=>.cons q (Vals.set r i t)
theorem Vals.append:∀{xs ys:List V}{us ws:List Value},Vals xs us->Vals ys ws->Vals (xs++ys) (us++ws)
 |_,_,_,_,.nil,s=>s
 |_,_,_,_,.cons r t,s=>.cons r (Vals.append t s)
theorem Vals.take:∀{xs:List V}{us:List Value} (n:Nat),Vals xs us->Vals (xs.take n) (us.take n)
 |_,_,0,_=>.nil
 |_,_,_+1,.nil=>.nil
 |_,_,n+1,.cons r t=>.cons r (Vals.take n t)
theorem Vals.drop:∀{xs:List V}{us:List Value} (n:Nat),Vals xs us->Vals (xs.drop n) (us.drop n)
 |_,_,0,r=>r
 |_,_,_+1,.nil=>.nil
 |_,_,n+1,.cons _ t=>Vals.drop n t
noncomputable def RelO:Option V->Option Value->Prop
 |some v,some u=>RelV v u
 |none,none=>True
 |_,_=>False
noncomputable def KV {κ:Type}:List (κ×V)->List (κ×Value)->Prop:=Paired λ(p:κ×V) (q:κ×Value)=>p.1=q.1/\RelV p.2 q.2
noncomputable def kV:Key->V
 |.inl i=>.int i
 |.inr x=>.str x
inductive HO where
 |lst (xs:List V)
 |tup (xs:List V)
 |dK (kvs:List (Key×V))|dT (kvs:List (List Key×V))
 |set (S:Int->Bool) (n:Nat)
 |ins (C dx:Addr) (fs:List (Str×V))
 |own (x:Addr)
 |xd (fs:List (Str×V))
 |met (f x:Addr)
 |rng (lo hi:Int)
 |frz (o:Obj) (u:HO)
 |tbl (ps:Array Value)
 |ext (φ:Heap->Prop)
noncomputable abbrev Hp:=Addr->Option HO
noncomputable def upd (H:Hp) (a:Addr) (o:HO):Hp:=λb=>if b=a then some o else H b
theorem Zd {H:Hp}{a:Addr}{o:HO}:upd H a o a=some o:=by unfold upd;rw[Yc rfl]
theorem Zm {H:Hp}{a b:Addr}{o:HO} (h:b≠a):upd H a o b=H b:=by unfold upd;rw[Yb h]
theorem Zs {H:Hp}{a b:Addr}{o:HO} (h:H a=some o) (h':H b=none):a≠b:=by
 intro e;subst e;rw[h]at h';cases h'
section
variable (P:Program) (w:World)
noncomputable def ZaD (H:Hp) (h:Heap) (a:Addr):HO->Prop
 |.lst xs=>xs.length<=sizeLine/\∃(its:List Value) (n:Nat),Vals xs its/\h.get? a=some {cls:=.type "list",data:=.seq its.toArray n}
 |.tup xs=>xs.length<=sizeLine/\∃its:List Value,Vals xs its/\IsTup h a its.toArray
 |.dK kvs=>kvs.length<=sizeLine/\(a==sysModules)=false/\∃vs,KV kvs vs/\h.DictOf (Zmq P w) a vs
 |.dT kvs=>kvs.length<=sizeLine/\(a==sysModules)=false/\∃xs:List (List Key×Addr×Value),
   Paired (λ(p:List Key×V) (q:List Key×Addr×Value)=>p.1=q.1/\H q.2.1=some (.tup (p.1.map kV))/\RelV p.2 q.2.2) kvs xs /\
   ∃o es ep,h.get? a=some o/\o.ExactDict/\o.data=.dict es ep/\es.toList=xs.map (entryOfKey (tupleKind (Zmq P w)))/\(xs.map (·.1)).Nodup
 |.set S n=>h.SetOf (intKind P w) a S n
 |.ins C dx fs=>H dx=some (.own a)/\fs.length<=1000/\dx≠a/\h.get? a=some (PySem.W.instObj C dx) /\
   ∃mA,h.Ns1 dx mA/\(∀f,RelO (fs.lookup f) (mA f))/\PySem.Within mA (fs.map (·.1))
 |.own _=>∃o,h.get? a=some o
 |.xd fs=>∃mA,h.Ns1 a mA/\∀f,RelO (fs.lookup f) (mA f)
 |.rng lo hi=>∃t u v,h.get? a=some {cls:=.type "range",data:=.fields #[.int lo t,.int hi u,.int 1 v]}
 |.frz o u=>h.get? a=some o/\ZaD H h a u
 |.tbl ps=>∃ts:Array Value,h.get? a=some {cls:=.none,data:=.fields ts}/\TriplesOk ts.toList/\∀pos cv,codeAmong pos ts.toList=some cv->∃c oc vs q t t',cv=.ref c/\H c=some (.frz oc (.own a))/\oc.data=.fields vs/\ps[0]?=some (.str q t)/\vs[1]?=some (.str q t')
 |.met f x=>h.get? a=some (PySem.W.methodObj (.ref f) (.ref x))
 |.ext φ=>φ h/\(∃o,h.get? a=some o)/\∀h1 h2:Heap,φ h1->(∀o,h1.get? a=some o->h2.get? a=some o)->φ h2
noncomputable def HOk (H:Hp) (h:Heap):Prop:=∀a o,H a=some o->ZaD P w H h a o
end
section
variable {P:Program}{w:World}{H H':Hp}{h h':Heap}{a:Addr}{o:HO}
theorem ZaD.lt (x:ZaD P w H h a o):a<h.objs.size:=by
 cases o with
 |lst xs=>obtain⟨_,_,_,_,e⟩:=x;exact Yh e
 |tup xs=>obtain⟨_,_,_,p⟩:=x;exact p.lt
 |dK kvs=>obtain⟨_,_,_,_,o,_,_,e,_⟩:=x;exact Yh e
 |dT kvs=>obtain⟨_,_,_,_,o,_,_,e,_⟩:=x;exact Yh e
 |set S n=>obtain⟨o,_,_,_,e,_⟩:=x;exact Yh e
 |ins C dx fs=>obtain⟨_,_,_,e,_⟩:=x;exact Yh e
 |own y=>obtain⟨_,e⟩:=x;exact Yh e
 |xd fs=>obtain⟨_,⟨_,_,_,e,_⟩,_⟩:=x;exact Yh e
 |rng lo hi=>obtain⟨_,_,_,e⟩:=x;exact Yh e
 |frz ob u=>obtain⟨e,_⟩:=x;exact Yh e
 |tbl ps=>obtain⟨_,e,_⟩:=x;exact Yh e
 |met f y=>exact Yh (show h.get? a=some _ from x)
 |ext φ=>obtain⟨_,⟨_,e⟩,_⟩:=x;exact Yh e
theorem Paired.mapP {α β:Type}{F G:α->β->Prop}:∀{l₁:List α}{l₂:List β},Paired F l₁ l₂->(∀a b,F a b->G a b)->Paired G l₁ l₂
 |_,_,.nil,_=>.nil
 |_,_,.cons r t,f=>.cons (f _ _ r) (Paired.mapP t f)
theorem ZaD.ZhQ (x:ZaD P w H h a o) (k:∀b u,(b=a\/H b=some (.own a))->h.get? b=some u->h'.get? b=some u)
  (ho:∀b,H b=some (.own a)->H' b=some (.own a)) (ht:∀b xs,H b=some (.tup xs)->H' b=some (.tup xs)) (hz:∀b o u,H b=some (.frz o u)->H' b=some (.frz o u)):ZaD P w H' h' a o:=by
 induction o with
 |lst xs=>obtain⟨z,its,n,r,e⟩:=x;exact⟨z,its,n,r,k _ _ (.inl rfl) e⟩
 |tup xs=>obtain⟨z,its,r,ob,e,c⟩:=x;exact⟨z,its,r,ob,k _ _ (.inl rfl) e,c⟩
 |dK kvs=>obtain⟨z,y,vs,r,ob,es,ep,e,c⟩:=x;exact⟨z,y,vs,r,ob,es,ep,k _ _ (.inl rfl) e,c⟩
 |dT kvs =>
  obtain⟨z,y,xs,r,ob,es,ep,e,c⟩:=x
  exact⟨z,y,xs,Paired.mapP r λp q z=>⟨z.1,ht _ _ z.2.1,z.2.2⟩,ob,es,ep,k _ _ (.inl rfl) e,c⟩
 |set S n=>obtain⟨ob,es,ep,t,e,c⟩:=x;exact⟨ob,es,ep,t,k _ _ (.inl rfl) e,c⟩
 |ins C dx fs =>
  obtain⟨d,z,ne,e,mA,⟨od,es,ep,e2,c⟩,r⟩:=x
  exact⟨ho _ d,z,ne,k _ _ (.inl rfl) e,mA,⟨od,es,ep,k _ _ (.inr d) e2,c⟩,r⟩
 |own y=>obtain⟨ob,e⟩:=x;exact⟨ob,k _ _ (.inl rfl) e⟩
 |xd fs=>obtain⟨mA,⟨od,es,ep,e,c⟩,r⟩:=x;exact⟨mA,⟨od,es,ep,k _ _ (.inl rfl) e,c⟩,r⟩
 |rng lo hi=>obtain⟨t,u,v,e⟩:=x;exact⟨t,u,v,k _ _ (.inl rfl) e⟩
 |frz ob u ih=>obtain⟨e,q⟩:=x;exact⟨k _ _ (.inl rfl) e,ih q⟩
 |tbl ps =>
  obtain⟨ts,e,t3,z⟩:=x
  refine⟨ts,k a _ (.inl rfl) e,t3,λpos cv hc=>?_⟩
  obtain⟨c,oc,vs,q,t,t',e1,e2,r⟩:=z pos cv hc
  exact⟨c,oc,vs,q,t,t',e1,hz _ _ _ e2,r⟩
 |met f y =>
  have e:h.get? a=some (PySem.W.methodObj (.ref f) (.ref y)):=x
  show h'.get? a=some (PySem.W.methodObj (.ref f) (.ref y))
  exact k a _ (.inl rfl) e
 |ext φ=>obtain⟨p,⟨o,e⟩,st⟩:=x;exact⟨st _ _ p λo q=>k _ _ (.inl rfl) q,⟨o,k _ _ (.inl rfl) e⟩,st⟩
theorem HOk.lt (x:HOk P w H h) (e:H a=some o):a<h.objs.size:=(x a o e).lt
theorem HOk.fresh (x:HOk P w H h) (e:h.objs.size<=a):H a=none:=by
 cases q:H a with
 |none=>rfl
 |some u=>exact absurd (Yu (x.lt q) e) (Yz _)
theorem HOk.kept (x:HOk P w H h) (k:∀b u,h.get? b=some u->h'.get? b=some u):HOk P w H h':=λa o e =>
 (x a o e).ZhQ (λb u _ q=>k b u q) (λ_ q=>q) (λ_ _ q=>q) λ_ _ _ q=>q
theorem HOk.laid (x:HOk P w H h) (k:∀b u,h.get? b=some u->h'.get? b=some u) (hp:h.objs.size<=a) (new:ZaD P w (upd H a o) h' a o):HOk P w (upd H a o) h':=λb u e=>by
 have hn:=x.fresh hp
 by_cases hb:b=a
 ·subst hb;rw[Zd]at e;cases e;exact new
 ·rw[Zm hb]at e
  exact(x b u e).ZhQ (λc v _ q=>k c v q) (λc q=>by rw[Zm (Zs q hn)];exact q) (λc xs q=>by rw[Zm (Zs q hn)];exact q) λc o u q=>by rw[Zm (Zs q hn)];exact q
end
noncomputable def Rd (H:Hp) (a:Addr) (u:HO):Prop:=H a=some u\/∃o,H a=some (.frz o u)
theorem Rd.ok {P:Program}{w:World}{H:Hp}{h:Heap}{a:Addr}{u:HO} (r:Rd H a u) (x:HOk P w H h):ZaD P w H h a u:=by
 rcases r with r|⟨o,r⟩
 ·exact x a u r
 ·obtain⟨_,q⟩:=x a _ r
  exact q
noncomputable def Mut:Option HO->Prop
 |some (.lst _)=>True
 |some (.dK _)=>True
 |some (.dT _)=>True
 |some (.set _ _)=>True
 |some (.ins _ _ _)=>True
 |some (.ext _)=>True
 |_=>False
section
variable {P:Program}{w:World}{H:Hp}{h h':Heap}{x e:Addr}{o':HO}
theorem HOk.write (ok:HOk P w H h) (mu:Mut (H x)) (he:e=x\/H e=some (.own x)) (k:∀b u,b≠e->h.get? b=some u->h'.get? b=some u) (heo:∃u,h'.get? e=some u)
  (new:ZaD P w (upd H x o') h' x o'):HOk P w (upd H x o') h':=λb u q=>by
 have nown:∀c y,H c=some (.own y)->c≠x:=λc y r z=>by subst z;rw[r]at mu;exact mu
 have ntup:∀c xs,H c=some (.tup xs)->c≠x:=λc xs r z=>by subst z;rw[r]at mu;exact mu
 have nfrz:∀c o u,H c=some (.frz o u)->c≠x:=λc o u r z=>by subst z;rw[r]at mu;exact mu
 by_cases hb:b=x
 ·subst hb;rw[Zd]at q;cases q;exact new
 ·rw[Zm hb]at q
  by_cases hbe:b=e
  ·have q':H b=some (.own x):=by
    rcases he with z|z
    ·exact absurd (hbe.trans z) hb
    ·rw[hbe];exact z
   rw[q]at q';cases q'
   obtain⟨v,hv⟩:=heo
   exact⟨v,by rw[hbe];exact hv⟩
  ·refine(ok b u q).ZhQ (λc v hc r=>k c v ?_ r) (λc r=>by rw[Zm (nown c b r)];exact r) (λc xs r=>by rw[Zm (ntup c xs r)];exact r) λc o u r=>by rw[Zm (nfrz c o u r)];exact r
   rcases hc with rfl|hc
   ·exact hbe
   ·rintro rfl
    rcases he with z|z
    ·exact nown c b hc z
    ·rw[hc]at z;cases z;exact hb rfl
end
structure Un (fs ex:List Addr) (H H':Hp) (h h':Heap):Prop where
 keep:∀b o,h.get? b=some o->H b=none->b∉fs->b∉ex->h'.get? b=some o
 slot:∀b o,h.get? b=some o->H b=none->b∈fs->b∉ex->∃sl,h'.get? b=some {o with slots:=sl}
 free:∀b o,h.get? b=some o->H b=none->b∉ex->H' b=none
 there:∀b o,h.get? b=some o->b∉ex->∃o',h'.get? b=some o'
 tups:∀b xs,H b=some (.tup xs)->H' b=some (.tup xs)
 frzs:∀b o u,H b=some (.frz o u)->H' b=some (.frz o u)
 tbls:∀b ps,H b=some (.tbl ps)->∃more,H' b=some (.tbl (ps++more))
section
variable {fs fs' ex ex':List Addr}{H H1 H2:Hp}{h h1 h2 h':Heap}{a x e:Addr}{o:HO}
theorem Un.any (u:Un fs ex H H1 h h1) {b:Addr}{ob:Obj} (q:h.get? b=some ob) (n:H b=none) (hx:b∉ex):∃sl,h1.get? b=some {ob with slots:=sl}:=by
 by_cases hb:b∈fs
 ·exact u.slot b ob q n hb hx
 ·exact⟨ob.slots,u.keep b ob q n hb hx⟩
theorem Un.kept (k:∀b u,h.get? b=some u->h'.get? b=some u):Un fs ex H H h h' :=
 ⟨λb ob q _ _ _=>k b ob q,λb ob q _ _ _=>⟨ob.slots,k b ob q⟩,λ_ _ _ n _=>n,λb ob q _=>⟨ob,k b ob q⟩,λ_ _ q=>q,λ_ _ _ q=>q,λ_ ps q=>⟨#[],by rw[q];simp⟩⟩
theorem Un.refl:Un fs ex H H h h:=Un.kept λ_ _ q=>q
theorem Un.laid (k:∀b u,h.get? b=some u->h'.get? b=some u) (hp:h.objs.size<=a) (hn:H a=none):Un fs ex H (upd H a o) h h' where
 keep:=λb u q _ _ _=>k b u q
 slot:=λb u q _ _ _=>⟨u.slots,k b u q⟩
 free:=λb u q n _=>by rw[Zm (Yo (Yu (Yh q) hp))];exact n
 there:=λb u q _=>⟨u,k b u q⟩
 tups:=λb xs q=>by rw[Zm (Zs q hn)];exact q
 frzs:=λb u xs q=>by rw[Zm (Zs q hn)];exact q
 tbls:=λb ps q=>⟨#[],by rw[Zm (Zs q hn),q];simp⟩
theorem Un.write (mu:Mut (H x)) (he:e=x\/H e=some (.own x)) (k:∀b u,b≠e->h.get? b=some u->h'.get? b=some u) (heo:∃u,h'.get? e=some u):Un fs ex H (upd H x o) h h':=by
 have hx:∀b,H b=none->b≠x:=λb n z=>by subst z;rw[n]at mu;exact mu
 have hb:∀b,H b=none->b≠e:=λb n z=>by
  subst z
  rcases he with r|r
  ·exact hx b n r
  ·rw[n]at r;cases r
 have hm:∀b u,H b=some u->¬ Mut (some u)->b≠x:=λb u q nm z=>by subst z;rw[q]at mu;exact nm mu
 refine⟨λb u q n _ _=>k b u (hb b n) q,λb u q n _ _=>⟨u.slots,k b u (hb b n) q⟩,λb u q n _=>by rw[Zm (hx b n)];exact n,λb u q _=>?_,
  λb xs q=>by rw[Zm (hm b _ q λz=>z)];exact q,λb u xs q=>by rw[Zm (hm b _ q λz=>z)];exact q,λb ps q=>⟨#[],by rw[Zm (hm b _ q λz=>z),q];simp⟩⟩
 by_cases hbe:b=e
 ·subst hbe;exact heo
 ·exact⟨u,k b u hbe q⟩
end
noncomputable def trk (h:Heap) (H:Hp):List Addr:=(List.range h.objs.size).filter λa=>(H a).isSome
noncomputable def ZjG (h:Heap) (H:Hp):Heap:=PySem.W.hideAll h (trk h H)
theorem Znn (h:Heap) (H:Hp):(ZjG h H).objs.size=h.objs.size:=PySem.W.hideAll_size _ _
theorem ZoD {h:Heap}{H:Hp}{b:Addr}{o:Obj} (e:h.get? b=some o) (n:H b=none):(ZjG h H).get? b=some o :=
 PySem.W.hideAll_get _ e λhm=>by
  have q:(H b).isSome=true:=(YS.mp hm).2
  rw[n]at q;simp at q
theorem ZqL {h:Heap}{H:Hp}{b:Addr}{o:Obj} (e:(ZjG h H).get? b=some o):h.get? b=some o/\H b=none:=by
 have e':h.get? b=some o:=PySem.W.of_hideAll (trk h H) e
 refine⟨e',?_⟩
 cases q:H b with
 |none=>rfl
 |some x =>
  have hm:b∈trk h H:=YS.mpr ⟨YA.mpr (Yh e'),by simp[q]⟩
  have z:(ZjG h H).get? b=none:=PySem.W.hideAll_none (trk h H) hm
  rw[z]at e;cases e
noncomputable def ZqM (g h:Heap) (L:Addr):List (Addr×Obj):=(List.range h.objs.size).filterMap λa=>if a=L\/(g.get? a).isSome=true then none else (h.get? a).map λo=>(a,o)
noncomputable def rest (g h:Heap) (L d:Addr):List (Addr×Obj):=(ZqM g h L).filter λp=>decide (p.1≠d)
structure Mod (K:PySem.W.Frag) (mg:Str->Option Value) (base:Heap):Prop where
 kin:K.In base
 glob:base.Ns mainGlobals mg
 blt:∃mb,base.Ns builtinsNs mb/\∀x:Str,x≠"__name__"->mb x=bootBuiltins x
 nolimit:base.NoLimit
structure Cx where
 prog:Program
 w:World
 K:PySem.W.Frag
 mg:Str->Option Value
 base:Heap
 A:Around
 N:List Str
 s₀:Shared
 H₀:Hp
 env:Env
 outer:List Env
 stack:List Env
 ex:List Addr
 fn:Str->Bool
 calm:Bool
 pn:List (Addr×Obj)
 xe:Value->Shared->Prop
noncomputable def frs (l:List Env):List Addr:=l.filterMap (·.frame)
noncomputable abbrev Cx.fs (X:Cx):List Addr:=frs X.outer
noncomputable def Vis (sc:Scope) (x:Str):Prop:=sc.names.lookup x=some .local\/sc.names.lookup x=some .cell\/sc.names.lookup x=some .free
noncomputable def Loc (sc:Scope) (x:Str):Prop:=sc.names.lookup x=some .local\/sc.names.lookup x=some .cell
noncomputable def Look (env:Env) (h:Heap) (m:Str->Option Value) (x:Str) (u:Value):Prop :=
 (env.kindOf x=some .local/\m x=some u)\/((env.kindOf x=some .cell\/env.kindOf x=some .free)/\∃c,env.cells.lookup x=some c/\h.IsCell c (some u))
structure Cx.Ok (X:Cx):Prop where
 mod:Mod X.K X.mg X.base
 kind:X.env.scope.kind=.function
 glob:X.env.globals=mainGlobals
 blt:X.env.builtins=builtinsNs
 above:X.s₀.heap.objs.size<=X.env.locals
 inj:∀x y c,X.env.cells.lookup x=some c->X.env.cells.lookup y=some c->x=y
 has:∀x,(X.env.kindOf x=some .cell\/X.env.kindOf x=some .free)->∃c,X.env.cells.lookup x=some c
 cab:∀x c,X.fn x=true->X.env.cells.lookup x=some c->X.s₀.heap.objs.size<=c
 hd:X.calm=true->X.A.handled=none
 frames:X.A.frames=some X.stack
 stk:X.stack=X.outer\/(X.stack=X.env::X.outer/\X.env.frame=some X.env.locals)
 exf:∀b∈X.ex,b≠X.env.locals/\∀x c,X.env.cells.lookup x=some c->c≠b
 bs:∀b o,X.base.get? b=some o->X.s₀.heap.get? b=some o/\X.H₀ b=none
 bsz:X.base.objs.size<=X.s₀.heap.objs.size
 noex:∀b o,X.base.get? b=some o->b∉X.ex
 exfs:∀b∈X.ex,b∉X.fs
 funs:X.s₀.heap.FunFrames X.base X.outer
 frf:∀b∈X.fs,X.H₀ b=none
structure Inv (X:Cx) (pins:List (Addr×Obj)) (σ:List (Option V)) (H:Hp) (s:Shared):Prop where
 ok:X.Ok
 os:s.os=X.s₀.os
 bare:AllBare s.gens
 base:Un X.fs X.ex X.H₀ H X.s₀.heap s.heap
 loc:∃m,s.heap.Ns X.env.locals m/\∀(i:Nat) (x:Str) (v:V),X.N[i]?=some x->σ[i]?=some (some v)->Vis X.env.scope x->∃u,RelV v u/\Look X.env s.heap m x u
 cell:∀x c,X.env.cells.lookup x=some c->∃v,s.heap.IsCell c v
 free:H X.env.locals=none
 freeC:∀x c,X.env.cells.lookup x=some c->H c=none
 pin:∀p∈X.pn++pins,s.heap.get? p.1=some p.2/\H p.1=none/\p.1≠X.env.locals/\p.1∉X.fs/\∀v,p.2.data≠.cell v
 hok:HOk X.prog X.w H s.heap
 len:σ.length=X.N.length
section
variable {X:Cx}{pins:List (Addr×Obj)}{σ:List (Option V)}{H H':Hp}{s:Shared}{h':Heap}
theorem Cx.Ok.nofr (ok:X.Ok) {b:Addr}{o:Obj} (e:X.base.get? b=some o):b∉X.fs:=λhb=>by
 have:=(ok.funs.mem hb).1
 rw[e]at this;cases this
theorem Inv.bs (I:Inv X pins σ H s):∀b o,X.base.get? b=some o->s.heap.get? b=some o/\H b=none:=λb o e =>
 ⟨I.base.keep b o (I.ok.bs b o e).1 (I.ok.bs b o e).2 (I.ok.nofr e) (I.ok.noex b o e),I.base.free b o (I.ok.bs b o e).1 (I.ok.bs b o e).2 (I.ok.noex b o e)⟩
theorem Inv.bk (I:Inv X pins σ H s):∀b o,X.base.get? b=some o->s.heap.get? b=some o:=λb o e=>(I.bs b o e).1
theorem Inv.mod (I:Inv X pins σ H s):Mod X.K X.mg X.base:=I.ok.mod
theorem Inv.kIn (I:Inv X pins σ H s):X.K.In s.heap:=I.ok.mod.kin.keeps I.bk
theorem Inv.lt (I:Inv X pins σ H s):X.env.locals<s.heap.objs.size:=let ⟨_,hn,_⟩:=I.loc;hn.lt
theorem Inv.sz (I:Inv X pins σ H s):X.s₀.heap.objs.size<=s.heap.objs.size:=Yg I.ok.above (YT I.lt)
theorem Inv.nofs (I:Inv X pins σ H s) {a:Addr} (h:s.heap.objs.size<=a):a∉X.fs:=λhb=>by
 obtain⟨_,o,ho,_⟩:=I.ok.funs.mem hb
 exact absurd (Yu (Yh ho) (Yg I.sz h)) (Yz _)
theorem Inv.cne (I:Inv X pins σ H s):∀x c,X.env.cells.lookup x=some c->c≠X.env.locals:=λx c e z=>by
 obtain⟨v,o,ho,hd⟩:=I.cell x c e
 obtain⟨m,⟨o',es,ep,ho',hd',_⟩,_⟩:=I.loc
 rw[z,ho']at ho;cases ho;rw[hd']at hd;cases hd
theorem Inv.funs (I:Inv X pins σ H s):s.heap.FunFrames X.base X.outer:=by
 have all:∀(l:List Env),(∀b∈frs l,b∈X.fs)->X.s₀.heap.FunFrames X.base l->s.heap.FunFrames X.base l:=by
  intro l
  induction l with
  |nil=>intro _ _;trivial
  |cons env r ih =>
   intro hs hl
   obtain⟨hk,⟨L,o,hf,hn,ho,hd⟩,hr⟩:=hl
   have hL:L∈X.fs:=hs L (by unfold frs;rw[List.filterMap_cons,hf];exact YW)
   obtain⟨sl,e⟩:=I.base.slot L o ho (I.ok.frf L hL) hL λz=>I.ok.exfs L z hL
   exact⟨hk,⟨L,_,hf,hn,e,hd⟩,ih (λb hb=>hs b (by unfold frs;rw[List.filterMap_cons,hf];exact YU _ hb)) hr⟩
 exact all X.outer (λ_ hb=>hb) I.ok.funs
theorem Inv.stack (I:Inv X pins σ H s):s.heap.FunFrames X.base X.stack:=by
 rcases I.ok.stk with e|⟨e,hf⟩
 ·rw[e];exact I.funs
 ·rw[e]
  obtain⟨m,hn,_⟩:=I.loc
  refine .cons (by rw[I.ok.kind];decide) hf hn ?_ I.funs
  exact Heap.get?_none_of_le (Yg I.ok.bsz I.ok.above)
theorem Inv.ZgI (I:Inv X pins σ H s):∀b∈frs X.stack,b∈X.env.locals::X.fs:=λb hb=>by
 rcases I.ok.stk with e|⟨e,hf⟩
 ·rw[e]at hb;exact YU _ hb
 ·rw[e]at hb
  unfold frs at hb
  rw[List.filterMap_cons,hf]at hb
  exact hb
theorem Inv.ZjH (I:Inv X pins σ H s):∀b∈frs X.stack,H b=none:=λb hb=>by
 rcases Yq.mp (I.ZgI b hb)with e|hb
 ·rw[e];exact I.free
 ·obtain⟨_,o,ho,_⟩:=I.ok.funs.mem hb
  exact I.base.free b o ho (I.ok.frf b hb) λz=>I.ok.exfs b z hb
theorem Inv.step {g':Array GenState}{t':Nat}{d':Drawn}{ch:List Addr} (I:Inv X pins σ H s)
  (hch:∀b∈ch,(b∈X.ex\/X.s₀.heap.objs.size<=b)/\b≠X.env.locals/\(∀x c,X.env.cells.lookup x=some c->c≠b)/\∀p∈X.pn++pins,p.1≠b)
  (keep:∀b o,b≠X.env.locals->b∉X.fs->b∉ch->s.heap.get? b=some o->H b=none->h'.get? b=some o)
  (slot:∀b o,b≠X.env.locals->b∈X.fs->b∉ch->s.heap.get? b=some o->H b=none->∃sl,h'.get? b=some {o with slots:=sl}) (free:∀b o,b∉ch->s.heap.get? b=some o->H b=none->H' b=none)
  (there:∀b o,b∉ch->s.heap.get? b=some o->∃o',h'.get? b=some o')
  (tups:∀b xs,H b=some (.tup xs)->H' b=some (.tup xs)) (frzs:∀b o u,H b=some (.frz o u)->H' b=some (.frz o u)) (tbls:∀b ps,H b=some (.tbl ps)->∃more,H' b=some (.tbl (ps++more)))
  (ns:∀m,s.heap.Ns X.env.locals m->h'.Ns X.env.locals m) (hok:HOk X.prog X.w H' h') (hg:AllBare g') :
  Inv X pins σ H' {s with heap:=h',gens:=g',drawn:=d',toks:=t'}:=by
 have neL:∀b o,X.s₀.heap.get? b=some o->b≠X.env.locals:=λb o e=>Yo (Yu (Yh e) I.ok.above)
 have neC:∀b o,X.s₀.heap.get? b=some o->b∉X.ex->b∉ch:=λb o e hx hb=>by
  rcases(hch b hb).1 with z|z
  ·exact hx z
  ·exact absurd (Yu (Yh e) z) (Yz _)
 have cellK:∀x c,X.env.cells.lookup x=some c->∀v,s.heap.IsCell c v->h'.IsCell c v:=λx c e v ⟨o,ho,hd⟩=>by
  have nch:c∉ch:=λz=>(hch c z).2.2.1 x c e rfl
  by_cases hc:c∈X.fs
  ·obtain⟨sl,q⟩:=slot c o (I.cne x c e) hc nch ho (I.freeC x c e)
   exact⟨_,q,hd⟩
  ·exact⟨o,keep c o (I.cne x c e) hc nch ho (I.freeC x c e),hd⟩
 refine⟨I.ok,I.os,hg,⟨λb o e n hb hx=>?_,λb o e n hb hx=>?_,λb o e n hx=>?_,λb o e hx=>?_,λb xs e=>tups b xs (I.base.tups b xs e),λb o xs e=>frzs b o xs (I.base.frzs b o xs e),λb ps e=>?_⟩,?_,λx c e=>?_,?_,λx c e=>?_,λp hp=>?_,hok,I.len⟩
 ·exact keep b o (neL b o e) hb (neC b o e hx) (I.base.keep b o e n hb hx) (I.base.free b o e n hx)
 ·obtain⟨sl,e1⟩:=I.base.slot b o e n hb hx
  obtain⟨sl',e2⟩:=slot b _ (neL b o e) hb (neC b o e hx) e1 (I.base.free b o e n hx)
  exact⟨sl',e2⟩
 ·obtain⟨o',e1⟩:=I.base.there b o e hx
  exact free b o' (neC b o e hx) e1 (I.base.free b o e n hx)
 ·obtain⟨o',e1⟩:=I.base.there b o e hx
  exact there b o' (neC b o e hx) e1
 ·obtain⟨m1,e1⟩:=I.base.tbls b ps e
  obtain⟨m2,e2⟩:=tbls b _ e1
  exact⟨m1++m2,by rw[e2,Array.append_assoc]⟩
 ·obtain⟨m,hn,hl⟩:=I.loc
  refine⟨m,ns m hn,λi x v e1 e2 e3=>?_⟩
  obtain⟨u,r,l⟩:=hl i x v e1 e2 e3
  refine⟨u,r,?_⟩
  rcases l with l|⟨k,c,e,z⟩
  ·exact .inl l
  ·exact .inr ⟨k,c,e,cellK x c e _ z⟩
 ·obtain⟨v,z⟩:=I.cell x c e
  exact⟨v,cellK x c e v z⟩
 ·obtain⟨m,⟨o,_,_,ho,_⟩,_⟩:=I.loc
  exact free _ o (λz=>(hch _ z).2.1 rfl) ho I.free
 ·obtain⟨v,o,ho,hd⟩:=I.cell x c e
  exact free c o (λz=>(hch c z).2.2.1 x c e rfl) ho (I.freeC x c e)
 ·obtain⟨e,n,ne,nf,d⟩:=I.pin p hp
  have nch:p.1∉ch:=λz=>(hch p.1 z).2.2.2 p hp rfl
  exact⟨keep p.1 p.2 ne nf nch e n,free p.1 p.2 nch e n,ne,nf,d⟩
theorem Inv.un {t':Nat} (I:Inv X pins σ H s) (u:Un X.fs [] H H' s.heap h') (hok:HOk X.prog X.w H' h'):Inv X pins σ H' {s with heap:=h',toks:=t'}:=by
 obtain⟨m,⟨o,es,ep,ho,r⟩,_⟩:=id I.loc
 obtain⟨sl,hL⟩:=u.any ho I.free (by simp)
 exact I.step (g':=s.gens) (d':=s.drawn) (ch:=[]) (λ_ z=>nomatch z) (λb o _ hb _ e n=>u.keep b o e n hb (by simp)) (λb o _ hb _ e n=>u.slot b o e n hb (by simp)) (λb o _ e n=>u.free b o e n (by simp)) (λb o _ e=>u.there b o e (by simp)) u.tups u.frzs u.tbls (λm' hm=>by
  obtain⟨o',es',ep',ho',r'⟩:=hm
  rw[ho]at ho';cases ho'
  exact⟨_,es',ep',hL,r'⟩) hok I.bare
theorem Inv.call {g':Array GenState}{t':Nat}{d':Drawn}{ch:List Addr} (I:Inv X pins σ H s) (u:Un (frs X.stack) ch H H' s.heap h') (hok:HOk X.prog X.w H' h') (hg:AllBare g')
  (hch:∀b∈ch,(b∈X.ex\/X.s₀.heap.objs.size<=b)/\b≠X.env.locals/\(∀x c,X.env.cells.lookup x=some c->c≠b)/\∀p∈X.pn++pins,p.1≠b) :
  Inv X pins σ H' {s with heap:=h',gens:=g',drawn:=d',toks:=t'}:=by
 obtain⟨m,⟨o,es,ep,ho,r⟩,_⟩:=id I.loc
 obtain⟨sl,hL⟩:=u.any ho I.free λz=>(hch _ z).2.1 rfl
 exact I.step (ch:=ch) hch (λb o hL hb hc e n=>u.keep b o e n (λz=>(Yq.mp (I.ZgI b z)).elim hL hb) hc) (λb o _ _ hc e n=>u.any e n hc) (λb o hc e n=>u.free b o e n hc) (λb o hc e=>u.there b o e hc) u.tups u.frzs u.tbls (λm' hm=>by
  obtain⟨o',es',ep',ho',r'⟩:=hm
  rw[ho]at ho';cases ho'
  exact⟨_,es',ep',hL,r'⟩) hok hg
theorem Inv.turned {t':Nat}{it:Addr} (I:Inv X pins σ H s) (k:∀b o,b≠it->s.heap.get? b=some o->h'.get? b=some o) (hn:H it=none) (hL:it≠X.env.locals)
  (h1:it∈X.ex\/X.s₀.heap.objs.size<=it) (h2:∀x c,X.env.cells.lookup x=some c->c≠it) (h3:∀p∈X.pn++pins,p.1≠it):Inv X pins σ H {s with heap:=h',toks:=t'}:=by
 have nit:∀b u,H b=some u->b≠it:=λb u e z=>by rw[z,hn]at e;cases e
 refine I.step (g':=s.gens) (d':=s.drawn) (ch:=[it]) (λb hb=>?_) (λb o _ _ hc e _=>k b o (λz=>hc (by simp[z])) e) (λb o _ _ hc e _=>⟨o.slots,k b o (λz=>hc (by simp[z])) e⟩) (λ_ _ _ _ n=>n)
  (λb o hc e=>⟨o,k b o (λz=>hc (by simp[z])) e⟩) (λ_ _ e=>e) (λ_ _ _ e=>e) (λb ps e=>⟨#[],by rw[e];simp⟩) (λm hm=>?_) (λb u e=>?_) I.bare
 ·have e:b=it:=by simpa using hb
  subst e
  exact⟨h1,hL,h2,h3⟩
 ·obtain⟨o,es,ep,ho,r⟩:=hm
  exact⟨o,es,ep,k _ o (Ne.symm hL) ho,r⟩
 ·refine(I.hok b u e).ZhQ (λc v hc q=>k c v ?_ q) (λ_ q=>q) (λ_ _ q=>q) λ_ _ _ q=>q
  rcases hc with z|z
  ·rw[z];exact nit b u e
  ·exact nit c _ z
theorem Inv.tok (I:Inv X pins σ H s) (t:Nat):Inv X pins σ H {s with toks:=t}:=I.un (h':=s.heap) (t':=t) Un.refl I.hok
theorem Inv.kept {t':Nat} (I:Inv X pins σ H s) (k:∀b u,s.heap.get? b=some u->h'.get? b=some u):Inv X pins σ H {s with heap:=h',toks:=t'}:=I.un (Un.kept k) (I.hok.kept k)
theorem Inv.laid {a:Addr}{o:HO}{t':Nat} (I:Inv X pins σ H s) (k:∀b u,s.heap.get? b=some u->h'.get? b=some u) (hp:s.heap.objs.size<=a) (new:ZaD X.prog X.w (upd H a o) h' a o) :
  Inv X pins σ (upd H a o) {s with heap:=h',toks:=t'}:=I.un (Un.laid k hp (I.hok.fresh hp)) (I.hok.laid k hp new)
theorem Inv.write {x e:Addr}{o:HO}{t':Nat} (I:Inv X pins σ H s) (mu:Mut (H x)) (he:e=x\/H e=some (.own x)) (k:∀b u,b≠e->s.heap.get? b=some u->h'.get? b=some u) (heo:∃u,h'.get? e=some u)
  (new:ZaD X.prog X.w (upd H x o) h' x o):Inv X pins σ (upd H x o) {s with heap:=h',toks:=t'}:=I.un (Un.write mu he k heo) (I.hok.write mu he k heo new)
theorem Inv.weak {σ':List (Option V)} (I:Inv X pins σ H s) (hl:σ'.length=σ.length) (w:∀(i:Nat) v,σ'[i]?=some (some v)->σ[i]?=some (some v)):Inv X pins σ' H s :=
 ⟨I.ok,I.os,I.bare,I.base,let ⟨m,hn,hl'⟩:=I.loc;⟨m,hn,λi x v e1 e2 e3=>hl' i x v e1 (w i v e2) e3⟩,I.cell,I.free,I.freeC,I.pin,I.hok,hl.trans I.len⟩
theorem Inv.Zf0 {pins':List (Addr×Obj)} (I:Inv X pins σ H s) (h:∀p∈pins',s.heap.get? p.1=some p.2/\H p.1=none/\p.1≠X.env.locals/\p.1∉X.fs/\∀v,p.2.data≠.cell v):Inv X pins' σ H s :=
 ⟨I.ok,I.os,I.bare,I.base,I.loc,I.cell,I.free,I.freeC,λp hp=>(Yt.mp hp).elim (λz=>I.pin p (YC _ z)) (h p),I.hok,I.len⟩
theorem ZhR {N:List Str} (hN:N.Nodup) {i j:Nat}{x:Str} (a:N[i]?=some x) (b:N[j]?=some x):i=j:=by
 obtain⟨h1,e1⟩:=Ys.mp a
 obtain⟨h2,e2⟩:=Ys.mp b
 exact(List.getElem_inj hN).mp (e1.trans e2.symm)
theorem Zno {M:Model}{A:Around}{E:Value->Shared->Prop}{i:Nat}{x:Str}{v:V}{u:Value}{Q:Unit->Shared->Prop} (I:Inv X pins σ H s) (hN:X.N.Nodup) (hi:X.N[i]?=some x) (hx:Loc X.env.scope x) (r:RelV v u)
  (h:∀s',Inv X pins (σ.set i (some v)) H s'->(∃a,Heap.SameBut a s.heap s'.heap/\(a=X.env.locals\/X.env.cells.lookup x=some a))->Q () s') (hf:X.fn x=true\/X.env.scope.names.lookup x=some .local:=by first|exact .inl rfl|exact .inr rfl|assumption):wpAny M A (storeName X.env x u) Q E s:=by
 obtain⟨m,hn,hl⟩:=id I.loc
 have hcls:(X.env.scope.kind==.class||(X.env.scope.kind==.module&&X.env.locals != X.env.globals))=false:=by rw[I.ok.kind];rfl
 have hiσ:i < σ.length:=by rw[I.len];exact(Ys.mp hi).1
 have cne:=I.cne
 have tracked:∀{a:Addr}{h':Heap},(∃o,s.heap.get? a=some o/\H a=none)->Heap.SameBut a s.heap h'->HOk X.prog X.w H h':=λ{a h'} ha hs b ob e=>by
  obtain⟨_,_,hfree⟩:=ha
  refine(I.hok b ob e).ZhQ (λc w' hc q=>(hs.2 c ?_).trans q) (λ_ q=>q) (λ_ _ q=>q) λ_ _ _ q=>q
  rintro rfl
  rcases hc with rfl|hc
  ·rw[hfree]at e;cases e
  ·rw[hfree]at hc;cases hc
 rcases hx with hk|hk
 ·refine wpAny_storeName_local hk hn (λh' hn' hs=>?_) hcls
  obtain⟨oL,_,_,hoL,_⟩:=id hn
  refine h _ ⟨I.ok,I.os,I.bare,⟨λb o e n hb hx=>?_,λb o e n hb hx=>?_,I.base.free,λb o e hx=>?_,I.base.tups,I.base.frzs,I.base.tbls⟩,⟨_,hn',λj y v' e1 e2 e3=>?_⟩,λy c e=>?_,I.free,I.freeC,λp hp=>?_,tracked ⟨oL,hoL,I.free⟩ hs,by simpa using I.len⟩ ⟨_,hs,.inl rfl⟩
  ·exact(hs.2 b (Yo (Yu (Yh e) I.ok.above))).trans (I.base.keep b o e n hb hx)
  ·obtain⟨sl,e1⟩:=I.base.slot b o e n hb hx
   exact⟨sl,(hs.2 b (Yo (Yu (Yh e) I.ok.above))).trans e1⟩
  ·obtain⟨o',e1⟩:=I.base.there b o e hx
   exact⟨o',(hs.2 b (Yo (Yu (Yh e) I.ok.above))).trans e1⟩
  ·by_cases hj:j=i
   ·subst hj
    rw[hi]at e1;cases e1
    rw[List.getElem?_set_self hiσ]at e2
    cases e2
    exact⟨u,r,.inl ⟨hk,by simp⟩⟩
   ·rw[List.getElem?_set_ne (Ne.symm hj)]at e2
    obtain⟨u',r',q⟩:=hl j y v' e1 e2 e3
    refine⟨u',r',?_⟩
    rcases q with⟨k,e⟩|⟨k,c,e,z⟩
    ·refine .inl ⟨k,?_⟩
     have:y≠x:=λe=>hj (ZhR hN e1 (e▸hi))
     simp[this,e]
    ·exact .inr ⟨k,c,e,z.sameBut hs (cne y c e)⟩
  ·obtain⟨w',z⟩:=I.cell y c e
   exact⟨w',z.sameBut hs (cne y c e)⟩
  ·obtain⟨e,n,ne,nf,d⟩:=I.pin p hp
   exact⟨(hs.2 p.1 ne).trans e,n,ne,nf,d⟩
 ·have hfn:X.fn x=true:=by
   rcases hf with z|z
   ·exact z
   ·rw[z]at hk;cases hk
  obtain⟨c,hc⟩:=I.ok.has x (.inl hk)
  obtain⟨w',z⟩:=I.cell x c hc
  refine wpAny_storeName_cell I.ok.kind hk hc z (λh' hc' hs=>?_)
  obtain⟨oc,hoc,hocd⟩:=id z
  refine h {s with heap:=h'} ⟨I.ok,I.os,I.bare,⟨λb o e n hb hx=>?_,λb o e n hb hx=>?_,I.base.free,λb o e hx=>?_,I.base.tups,I.base.frzs,I.base.tbls⟩,⟨m,hn.sameBut hs (Ne.symm (cne x c hc)),λj y v' e1 e2 e3=>?_⟩,λy c' e=>?_,I.free,I.freeC,λp hp=>?_,tracked ⟨oc,hoc,I.freeC x c hc⟩ hs,by simpa using I.len⟩ ⟨c,hs,.inr hc⟩
  ·exact(hs.2 b (Yo (Yu (Yh e) (I.ok.cab x c hfn hc)))).trans (I.base.keep b o e n hb hx)
  ·obtain⟨sl,e1⟩:=I.base.slot b o e n hb hx
   exact⟨sl,(hs.2 b (Yo (Yu (Yh e) (I.ok.cab x c hfn hc)))).trans e1⟩
  ·obtain⟨o',e1⟩:=I.base.there b o e hx
   exact⟨o',(hs.2 b (Yo (Yu (Yh e) (I.ok.cab x c hfn hc)))).trans e1⟩
  ·by_cases hj:j=i
   ·subst hj
    rw[hi]at e1;cases e1
    rw[List.getElem?_set_self hiσ]at e2
    cases e2
    exact⟨u,r,.inr ⟨.inl hk,c,hc,hc'⟩⟩
   ·rw[List.getElem?_set_ne (Ne.symm hj)]at e2
    obtain⟨u',r',q⟩:=hl j y v' e1 e2 e3
    refine⟨u',r',?_⟩
    rcases q with q|⟨k,c',e,z'⟩
    ·exact .inl q
    ·refine .inr ⟨k,c',e,z'.sameBut hs ?_⟩
     rintro rfl
     exact hj (ZhR hN e1 (I.ok.inj _ _ _ e hc▸hi))
  ·by_cases hcc:c'=c
   ·subst hcc;exact⟨_,hc'⟩
   ·obtain⟨w2,z2⟩:=I.cell y c' e
    exact⟨w2,z2.sameBut hs hcc⟩
  ·obtain⟨e,n,ne,nf,d⟩:=I.pin p hp
   refine⟨(hs.2 p.1 ?_).trans e,n,ne,nf,d⟩
   intro q
   rw[q,hoc]at e
   have q':oc=p.2:=Yx e
   exact d w' (by rw[<-q'];exact hocd)
theorem Zew {M:Model}{A:Around}{E:Value->Shared->Prop}{i:Nat}{x:Str}{v:V}{u:Value}{Q:Unit->Shared->Prop} (I:Inv X pins σ H s) (hN:X.N.Nodup) (hi:X.N[i]?=some x) (hx:Loc X.env.scope x) (r:RelV v u)
  (h:∀s',Inv X pins (σ.set i (some v)) H s'->Q () s') (hf:X.fn x=true\/X.env.scope.names.lookup x=some .local:=by first|exact .inl rfl|exact .inr rfl|assumption):wpAny M A (storeName X.env x u) Q E s :=
 Zno I hN hi hx r (λs' I' _=>h s' I') hf
theorem Inv.call' {s':Shared}{ch:List Addr} (I:Inv X pins σ H s) (ho:s'.os=s.os) (u:Un (frs X.stack) ch H H' s.heap s'.heap) (hok:HOk X.prog X.w H' s'.heap) (hg:AllBare s'.gens)
  (hch:∀b∈ch,(b∈X.ex\/X.s₀.heap.objs.size<=b)/\b≠X.env.locals/\(∀x c,X.env.cells.lookup x=some c->c≠b)/\∀p∈X.pn++pins,p.1≠b):Inv X pins σ H' s':=by
 obtain⟨h',g',d',t',o'⟩:=s'
 have e:o'=s.os:=ho
 subst e
 exact I.call (g':=g') (t':=t') (d':=d') u hok hg hch
end
noncomputable abbrev XK:=Value->Option Addr->Hp->Prop
noncomputable abbrev St:=List (Option V)
noncomputable abbrev VK:=V->Hp->Prop
noncomputable abbrev TE:=St->Hp->VK->Prop
noncomputable abbrev TT:=St->Hp->(Bool->Hp->Prop)->Prop
noncomputable abbrev TA:=St->Hp->(List V->Hp->Prop)->Prop
structure Ends where
 nx:St->Hp->Prop
 rt:VK
 bk:St->Hp->Prop:=λ_ _=>False
 ct:St->Hp->Prop:=λ_ _=>False
noncomputable abbrev TS:=Ends->St->Hp->Prop
noncomputable def EP (X:Cx) (pins:List (Addr×Obj)) (σ:St) (Q:VK) (u:Value) (s':Shared):Prop:=∃v H',Inv X pins σ H' s'/\RelV v u/\Q v H'
noncomputable def TP (X:Cx) (pins:List (Addr×Obj)) (σ:St) (Q:Bool->Hp->Prop) (b:Bool) (s':Shared):Prop:=∃H',Inv X pins σ H' s'/\Q b H'
noncomputable def AP (X:Cx) (pins:List (Addr×Obj)) (σ:St) (Q:List V->Hp->Prop) (us:List Value) (s':Shared):Prop:=∃vs H',Inv X pins σ H' s'/\Vals vs us/\Q vs H'
noncomputable def SP (X:Cx) (pins:List (Addr×Obj)) (D:Ends) (f:Flow) (s':Shared):Prop :=
 match f with
 |.next=>∃σ' H',Inv X pins σ' H' s'/\D.nx σ' H'
 |.brk=>∃σ' H',Inv X pins σ' H' s'/\D.bk σ' H'
 |.cont=>∃σ' H',Inv X pins σ' H' s'/\D.ct σ' H'
 |.ret u=>∃v σ' H',Inv X pins σ' H' s'/\RelV v u/\D.rt v H'
noncomputable def PE (X:Cx) (e:Expr) (t:TE):Prop :=
 ∀(pins:List (Addr×Obj)) (s:Shared) (σ:St) (H:Hp) (Q:VK),Inv X pins σ H s->t σ H Q->wpAny (model X.prog X.w) X.A (eval e X.env) (EP X pins σ Q) X.xe s
noncomputable def PT (X:Cx) (e:Expr) (t:TT):Prop :=
 ∀(pins:List (Addr×Obj)) (s:Shared) (σ:St) (H:Hp) (Q:Bool->Hp->Prop),Inv X pins σ H s->t σ H Q->wpAny (model X.prog X.w) X.A (isTrue e X.env (eval e X.env)) (TP X pins σ Q) X.xe s
noncomputable def PW (X:Cx) (e:Expr) (t:TT):Prop :=
 ∀(whole:Sem Value) (pins:List (Addr×Obj)) (s:Shared) (σ:St) (H:Hp) (Q:Bool->Hp->Prop),Inv X pins σ H s->t σ H Q->wpAny (model X.prog X.w) X.A (isTrue e X.env whole) (TP X pins σ Q) X.xe s
theorem PW.pt {X:Cx}{e:Expr}{t:TT} (h:PW X e t):PT X e t:=h _
noncomputable def PA (X:Cx) (es:List Expr) (t:TA):Prop :=
 ∀(pos:Pos) (pins:List (Addr×Obj)) (s:Shared) (σ:St) (H:Hp) (Q:List V->Hp->Prop),Inv X pins σ H s->t σ H Q->wpAny (model X.prog X.w) X.A (spliced (backTo pos (starEach es X.env))) (AP X pins σ Q) X.xe s
noncomputable def PS (X:Cx) (st:Stmt) (t:TS):Prop :=
 ∀(pins:List (Addr×Obj)) (s:Shared) (σ:St) (H:Hp) (D:Ends),Inv X pins σ H s->t D σ H->wpAny (model X.prog X.w) X.A (exec st X.env) (SP X pins D) X.xe s
noncomputable def PSs (X:Cx) (st:List Stmt) (t:TS):Prop :=
 ∀(pins:List (Addr×Obj)) (s:Shared) (σ:St) (H:Hp) (D:Ends),Inv X pins σ H s->t D σ H->wpAny (model X.prog X.w) X.A (execs st X.env) (SP X pins D) X.xe s
theorem thn {α:Type}{t:Sem α}{Q Q':α->Shared->Prop}{M:Model}{A:Around}{E:Value->Shared->Prop}{s:Shared} (h:wpAny M A t Q E s) (hQ:∀a s,Q a s->Q' a s):wpAny M A t Q' E s:=YI h hQ λ_ _ x=>x
section
variable {X:Cx}
noncomputable def tVar (i:Nat):TE:=fun σ H Q=>∃v,σ[i]?=some (some v)/\Q v H
noncomputable def tC (v:V):TE:=λ_ H Q=>Q v H
theorem pe_var {i:Nat}{x:Str}{pos:Pos} (hN:X.N[i]?=some x) (hv:Vis X.env.scope x) (hd:(x==("__debug__":Str))=false:=by decide) (hcd:(x==("__classdict__":Str))=false:=by decide):PE X (.Name x pos) (tVar i):=by
 intro pins s σ H Q I h
 obtain⟨v,e,h⟩:=h
 obtain⟨m,hn,hl⟩:=I.loc
 obtain⟨u,r,l⟩:=hl i x v hN e hv
 have fin:EP X pins σ Q u s:=⟨v,H,I,r,h⟩
 rcases l with⟨hk,hm⟩|⟨hk,c,hc,hcell⟩
 ·exact wpAny_Name (wpAny_loadName_local I.ok.kind hk hn hm fin) hd
 ·rcases hk with hk|hk
  ·exact wpAny_Name (wpAny_loadName_cell I.ok.kind hk hc hcell fin) hd
  ·exact wpAny_Name (wpAny_loadName_free I.ok.kind hk hc hcell fin hcd) hd
theorem Ze {i j pos}:PE X (.Constant (.int i) j pos) (tC (.int i)):=λ_ _ _ H _ I h=>wpAny_Constant_int ⟨.int i,H,I.tok _,⟨_,rfl⟩,h⟩
theorem Zdo {b j pos}:PE X (.Constant (.bool b) j pos) (tC (.bl b)):=λ_ _ _ H _ I h=>Constant_bool ⟨.bl b,H,I,rfl,h⟩
theorem ZoE {j pos}:PE X (.Constant .none j pos) (tC .non):=λ_ _ _ H _ I h=>Constant_none ⟨.non,H,I,rfl,h⟩
theorem Z7 {x j pos}:PE X (.Constant (.str x) j pos) (tC (.str x)):=λ_ _ _ H _ I h=>Calls.Constant_str ⟨.str x,H,I.tok _,⟨_,rfl⟩,h⟩
noncomputable def Gl (X:Cx) (x:Str):Prop:=X.env.kindOf x=some .globalImplicit
theorem Zf1 {E:Value->Shared->Prop}{pins:List (Addr×Obj)}{s:Shared}{σ:St}{H:Hp}{x:Str}{u:Value}{pos:Pos}{Q:Value->Shared->Prop} (I:Inv X pins σ H s) (hg:Gl X x) (hm:X.mg x=some u) (h:Q u s)
  (hd:(x==("__debug__":Str))=false:=by decide):wpAny (model X.prog X.w) X.A (eval (.Name x pos) X.env) Q E s :=
 Calls.Name_function_global I.ok.kind hg (Calls.loadGlobal_global (by rw[I.ok.glob];exact I.mod.glob.keeps I.bk) hm h) hd
theorem Zc7 {E:Value->Shared->Prop}{pins:List (Addr×Obj)}{s:Shared}{σ:St}{H:Hp}{x:Str}{u:Value}{pos:Pos}{Q:Value->Shared->Prop} (I:Inv X pins σ H s) (hg:Gl X x) (hm:X.mg x=none) (hv:bootBuiltins x=some u) (h:Q u s)
  (hn:x≠"__name__":=by decide) (hd:(x==("__debug__":Str))=false:=by decide):wpAny (model X.prog X.w) X.A (eval (.Name x pos) X.env) Q E s:=by
 obtain⟨mb,h1,h2⟩:=I.mod.blt
 exact Calls.Name_function_global I.ok.kind hg (Calls.loadGlobal_builtin (by rw[I.ok.glob];exact I.mod.glob.keeps I.bk) hm (by rw[I.ok.blt];exact h1.keeps I.bk) ((h2 x hn).trans hv) h) hd
theorem Zaq {x:Str}{v:V}{u:Value}{pos:Pos} (hg:Gl X x) (hm:X.mg x=some u) (r:RelV v u) (hd:(x==("__debug__":Str))=false:=by decide):PE X (.Name x pos) (tC v) :=
 λ_ _ _ H _ I h=>Zf1 I hg hm ⟨v,H,I,r,h⟩ hd
theorem ZhJ {x:Str}{v:V}{u:Value}{pos:Pos} (hg:Gl X x) (hm:X.mg x=none) (hv:bootBuiltins x=some u) (r:RelV v u) (hn:x≠"__name__":=by decide) (hd:(x==("__debug__":Str))=false:=by decide):PE X (.Name x pos) (tC v) :=
 λ_ _ _ H _ I h=>Zc7 I hg hm hv ⟨v,H,I,r,h⟩ hn hd
variable {a b:Expr}{ta tb:TE}{pos:Pos}
noncomputable def tB (t:TE):TT:=fun σ H Q=>t σ H λx H1=>∃c,x=.bl c/\Q c H1
theorem ZdI {e:Expr}{t:TE} (h:PE X e t) (he:∀whole,isTrue e X.env whole=(do let v <-whole;standAt e.pos;holding [v] (truthy v)):=by intro _;rfl):PT X e (tB t):=by
 intro pins s σ H Q I hw
 refine isTrue_plain (thn (h pins s σ H _ I hw) λv s1 ⟨x,H1,I1,r1,q1⟩=>?_) (he _)
 obtain⟨d,rfl,q⟩:=q1
 cases r1
 exact wpAny_truthy_bool ⟨H1,I1,q⟩
variable {tA tB':TT}{rest:List Expr}
noncomputable def tAnd (t u:TT):TT:=fun σ H Q=>t σ H λc H1=>if c=true then u σ H1 Q else Q false H1
noncomputable def tOr (t u:TT):TT:=fun σ H Q=>t σ H λc H1=>if c=true then Q true H1 else u σ H1 Q
noncomputable def tNot (t:TT):TT:=fun σ H Q=>t σ H λc H1=>Q (!c) H1
theorem ZhK (ha:PT X a tA):PW X (.BoolOp .And [a] pos) tA:=by
 intro wh pins s σ H Q I h
 refine isTrue_and (thn (ha pins s σ H Q I h) λc s1 e=>?_)
 cases c with
 |true=>exact isTrue_and_nil e
 |false=>exact e
theorem ZhS (ha:PT X a tA):PW X (.BoolOp .Or [a] pos) tA:=by
 intro wh pins s σ H Q I h
 refine isTrue_or (thn (ha pins s σ H Q I h) λc s1 e=>?_)
 cases c with
 |false=>exact isTrue_or_nil e
 |true=>exact e
theorem ZhT (ha:PT X a tA) (hb:PW X (.BoolOp .And (b::rest) pos) tB'):PW X (.BoolOp .And (a::b::rest) pos) (tAnd tA tB'):=by
 intro wh pins s σ H Q I h
 refine isTrue_and (thn (ha pins s σ H _ I h) λc s1 ⟨H1,I1,q1⟩=>?_)
 cases c with
 |true=>exact hb wh pins s1 σ H1 Q I1 q1
 |false=>exact⟨H1,I1,q1⟩
theorem ZkB (ha:PT X a tA) (hb:PW X (.BoolOp .Or (b::rest) pos) tB'):PW X (.BoolOp .Or (a::b::rest) pos) (tOr tA tB'):=by
 intro wh pins s σ H Q I h
 refine isTrue_or (thn (ha pins s σ H _ I h) λc s1 ⟨H1,I1,q1⟩=>?_)
 cases c with
 |true=>exact⟨H1,I1,q1⟩
 |false=>exact hb wh pins s1 σ H1 Q I1 q1
theorem Zex (ha:PT X a tA):PT X (.UnaryOp .Not a pos) (tNot tA):=by
 intro pins s σ H Q I h
 exact isTrue_not (ha pins s σ H (λc H1=>Q (!c) H1) I h)
noncomputable def ZoF (ta tb:TE):TE:=fun σ H Q=>ta σ H λx H1=>∃c,x=.bl c/\if c=true then tb σ H1 Q else Q (.bl false) H1
theorem ZoG {op}{t:TE} (h:PE X a t):PE X (.BoolOp op [a] pos) t:=λpins s σ H Q I hw=>BoolOp_one (h pins s σ H Q I hw)
theorem ZoH (ha:PE X a ta) (hb:PE X (.BoolOp .And (b::rest) pos) tb):PE X (.BoolOp .And (a::b::rest) pos) (ZoF ta tb):=by
 intro pins s σ H Q I h
 refine BoolOp_and (thn (ha pins s σ H _ I h) λv s1 ⟨x,H1,I1,r1,q1⟩=>?_)
 obtain⟨c,rfl,q1⟩:=q1
 cases r1
 refine wpAny_truthy_bool ?_
 cases c with
 |true=>exact hb pins s1 σ H1 Q I1 q1
 |false=>exact⟨.bl false,H1,I1,rfl,q1⟩
noncomputable def tIf (t:TT) (ta tb:TE):TE:=fun σ H Q=>t σ H λc H1=>if c=true then ta σ H1 Q else tb σ H1 Q
theorem ZoI {c:Expr} (hc:PT X c tA) (ha:PE X a ta) (hb:PE X b tb):PE X (.IfExp c a b pos) (tIf tA ta tb):=by
 intro pins s σ H Q I h
 refine wpAny_IfExp (thn (hc pins s σ H _ I h) λd s1 ⟨H1,I1,q1⟩=>?_)
 cases d with
 |true=>exact ha pins s1 σ H1 Q I1 q1
 |false=>exact hb pins s1 σ H1 Q I1 q1
end
noncomputable def SqL (K:PySem.W.Frag) (H:Hp) (a:Addr) (xs:List V):Prop :=
 Rd H a (.lst xs) \/
  ∃(o:Obj) (its:Array Value) (n:Nat),K.lookup a=some o/\o.cls=.type "list"/\o.dict=none/\o.data=.seq its n/\its.size<=sizeLine/\Vals xs its.toList
noncomputable def SqT (K:PySem.W.Frag) (H:Hp) (a:Addr) (xs:List V):Prop :=
 Rd H a (.tup xs) \/
  ∃(o:Obj) (its:Array Value) (n:Nat),K.lookup a=some o/\o.cls=.type "tuple"/\o.data=.seq its n/\its.size<=sizeLine/\Vals xs its.toList
noncomputable def absV:Value->Option V
 |.none=>some .non
 |.bool b=>some (.bl b)
 |.int i _=>some (.int i)
 |.str x _=>some (.str x)
 |.bytes b _=>some (.byt b)
 |.float b _=>some (.flt b)
 |.ref a=>some (.ref a)
 |.type n=>some (.ty n)
 |_=>none
theorem RelV.abs {x:V}{u:Value} (r:RelV x u):absV u=some x:=by
 cases x with
 |non=>cases r;rfl
 |bl _=>cases r;rfl
 |int _=>obtain⟨t,rfl⟩:=r;rfl
 |str _=>obtain⟨t,rfl⟩:=r;rfl
 |byt _=>obtain⟨t,rfl⟩:=r;rfl
 |flt _=>obtain⟨t,rfl⟩:=r;rfl
 |ref _=>cases r;rfl
 |ty _=>cases r;rfl
theorem RelV.inj {x y:V}{u:Value} (r:RelV x u) (q:RelV y u):x=y:=Yx (r.abs.symm.trans q.abs)
theorem Vals.inj:∀{xs ys:List V}{us:List Value},Vals xs us->Vals ys us->xs=ys
 |_,_,_,.nil,.nil=>rfl
 |_,_,_,.cons r t,.cons r' t'=>by rw[r.inj r',Vals.inj t t']
section
variable {X:Cx}{pins:List (Addr×Obj)}{σ:St}{H:Hp}{s:Shared}{a:Addr}{xs ys:List V}
theorem SqL.of {K:PySem.W.Frag} (h:H a=some (.lst xs)):SqL K H a xs:=.inl (.inl h)
theorem SqT.of {K:PySem.W.Frag} (h:H a=some (.tup xs)):SqT K H a xs:=.inl (.inl h)
theorem Inv.list (I:Inv X pins σ H s) (h:SqL X.K H a xs):∃its:List Value,Vals xs its/\PlainL s.heap a its.toArray/\xs.length<=sizeLine:=by
 rcases h with h|⟨o,its,n,hk,hc,hd,hs,hz,r⟩
 ·obtain⟨z,its,n,r,e⟩:=h.ok I.hok
  exact⟨its,r,⟨_,n,e,rfl,rfl,rfl⟩,z⟩
 ·refine⟨its.toList,r,⟨o,n,I.kIn a o hk,hc,hd,by simpa using hs⟩,?_⟩
  have e:=r.length
  simp only[YO]at e
  omega
theorem Inv.tuple (I:Inv X pins σ H s) (h:SqT X.K H a xs):∃its:List Value,Vals xs its/\IsTup s.heap a its.toArray/\xs.length<=sizeLine:=by
 rcases h with h|⟨o,its,n,hk,hc,hs,hz,r⟩
 ·obtain⟨z,its,r,p⟩:=h.ok I.hok
  exact⟨its,r,p,z⟩
 ·refine⟨its.toList,r,⟨o,I.kIn a o hk,hc,n,by simpa using hs⟩,?_⟩
  have e:=r.length
  simp only[YO]at e
  omega
theorem Inv.Zey (I:Inv X pins σ H s) (h:SqL X.K H a xs) (h':SqL X.K H a ys):xs=ys:=by
 obtain⟨its,r,⟨o,n,e,_,_,d⟩,_⟩:=I.list h
 obtain⟨its',r',⟨o',n',e',_,_,d'⟩,_⟩:=I.list h'
 rw[e]at e';cases e'
 rw[d]at d'
 injection d' with d1 _
 have:its=its':=by simpa using congrArg Array.toList d1
 subst this
 exact r.inj r'
theorem Inv.ZgJ (I:Inv X pins σ H s) (h:SqT X.K H a xs) (h':SqT X.K H a ys):xs=ys:=by
 obtain⟨its,r,⟨o,e,_,n,d⟩,_⟩:=I.tuple h
 obtain⟨its',r',⟨o',e',_,n',d'⟩,_⟩:=I.tuple h'
 rw[e]at e';cases e'
 rw[d]at d'
 injection d' with d1 _
 have:its=its':=by simpa using congrArg Array.toList d1
 subst this
 exact r.inj r'
end
noncomputable abbrev Cx.ZiL (X:Cx) (E:Value->Shared->Prop):Cx:={X with xe:=E}
noncomputable abbrev Cx.nox (X:Cx):Cx:=X.ZiL λ_ _=>False
theorem Cx.Ok.ZiL {X:Cx} (ok:X.Ok) (E:Value->Shared->Prop):(X.ZiL E).Ok :=
 ⟨ok.mod,ok.kind,ok.glob,ok.blt,ok.above,ok.inj,ok.has,ok.cab,ok.hd,ok.frames,ok.stk,ok.exf,ok.bs,ok.bsz,ok.noex,ok.exfs,ok.funs,ok.frf⟩
theorem Cx.Ok.Zez {X:Cx}{E:Value->Shared->Prop} (ok:(X.ZiL E).Ok):X.Ok :=
 ⟨ok.mod,ok.kind,ok.glob,ok.blt,ok.above,ok.inj,ok.has,ok.cab,ok.hd,ok.frames,ok.stk,ok.exf,ok.bs,ok.bsz,ok.noex,ok.exfs,ok.funs,ok.frf⟩
section
variable {X:Cx}{pins:List (Addr×Obj)}{σ:St}{H:Hp}{s:Shared}{E:Value->Shared->Prop}
theorem Inv.ZiL (I:Inv X pins σ H s) (E:Value->Shared->Prop):Inv (X.ZiL E) pins σ H s:=⟨I.ok.ZiL E,I.os,I.bare,I.base,I.loc,I.cell,I.free,I.freeC,I.pin,I.hok,I.len⟩
theorem Inv.Zez (I:Inv (X.ZiL E) pins σ H s):Inv X pins σ H s:=⟨I.ok.Zez,I.os,I.bare,I.base,I.loc,I.cell,I.free,I.freeC,I.pin,I.hok,I.len⟩
theorem SP.Zez {D:Ends}{f:Flow}{s':Shared} (h:SP (X.ZiL E) pins D f s'):SP X pins D f s':=by
 cases f with
 |next=>obtain⟨σ',H',I,q⟩:=h;exact⟨σ',H',I.Zez,q⟩
 |brk=>obtain⟨σ',H',I,q⟩:=h;exact⟨σ',H',I.Zez,q⟩
 |cont=>obtain⟨σ',H',I,q⟩:=h;exact⟨σ',H',I.Zez,q⟩
 |ret u=>obtain⟨v,σ',H',I,r,q⟩:=h;exact⟨v,σ',H',I.Zez,r,q⟩
end
section
variable {X:Cx}{st:Stmt}{rest:List Stmt}{t u:TS}{e:Expr}{te:TE}{pos:Pos}
noncomputable def ZoJ:TS:=λD σ H=>D.nx σ H
noncomputable def tSeq (t u:TS):TS:=λD σ H=>t {D with nx:=u D} σ H
theorem Zw:PSs X [] ZoJ:=λ_ _ σ H _ I h=>wpAny_execs_nil ⟨σ,H,I,h⟩
theorem Zc (h1:PS X st t) (h2:PSs X rest u):PSs X (st::rest) (tSeq t u):=by
 intro pins s σ H D I h
 refine wpAny_execs_cons (thn (h1 pins s σ H {D with nx:=u D} I h) λf s1 q=>?_)
 cases f with
 |next =>
  obtain⟨σ',H',I',q⟩:=q
  exact h2 pins s1 σ' H' D I' q
 |ret v=>exact q
 |brk=>exact q
 |cont=>exact q
theorem Zf (h1:PS X st t):PSs X [st] t:=by
 intro pins s σ H D I h
 refine wpAny_execs_cons (thn (h1 pins s σ H D I h) λf s1 q=>?_)
 cases f with
 |next=>exact wpAny_execs_nil q
 |ret v=>exact q
 |brk=>exact q
 |cont=>exact q
theorem Inv.quiet {pins:List (Addr×Obj)}{σ:St}{H:Hp}{s:Shared} (I:Inv X pins σ H s):interactive X.env=false:=by simp[interactive,I.ok.kind]
noncomputable def ZoK (te:TE):TS:=λD σ H=>te σ H λ_ H1=>D.nx σ H1
theorem ZU (he:PE X e te) (hs:swapsWith e none pos.line X.env=pure false:=by rfl):PS X (.Expr e pos) (ZoK te):=by
 intro pins s σ H D I h
 exact wpAny_Expr_any (thn (he pins s σ H _ I h) λv s1 ⟨x,H1,I1,r1,q1⟩=>⟨σ,H1,I1,q1⟩) I.quiet hs
noncomputable def tRet (te:TE):TS:=λD σ H=>te σ H D.rt
theorem Zt (he:PE X e te):PS X (.Return (some e) pos) (tRet te):=by
 intro pins s σ H D I h
 exact wpAny_Return_some (thn (he pins s σ H _ I h) λv s1 ⟨x,H1,I1,r1,q1⟩=>⟨x,σ,H1,I1,r1,q1⟩)
noncomputable def tIfS (c:TT) (t u:TS):TS:=λD σ H=>c σ H λb H1=>if b=true then t D σ H1 else u D σ H1
theorem ZE {c:Expr}{a b:List Stmt}{tc:TT} (hc:PT X c tc) (ha:PSs X a t) (hb:PSs X b u):PS X (.If c a b pos) (tIfS tc t u):=by
 intro pins s σ H D I h
 refine wpAny_If (thn (hc pins s σ H _ I h) λd s1 ⟨H1,I1,q1⟩=>?_)
 cases d with
 |true=>exact ha pins s1 σ H1 D I1 q1
 |false=>exact hb pins s1 σ H1 D I1 q1
end
noncomputable abbrev TG:=V->St->Hp->(St->Hp->Prop)->Prop
noncomputable abbrev TGs:=List V->St->Hp->(St->Hp->Prop)->Prop
noncomputable def PG (X:Cx) (target:Expr) (t:TG):Prop :=
 ∀(pins:List (Addr×Obj)) (s:Shared) (σ:St) (H:Hp) (v:V) (u:Value) (Q:St->Hp->Prop),Inv X pins σ H s->RelV v u->t v σ H Q ->
  wpAny (model X.prog X.w) X.A (assign target X.env u) (λ_ s'=>∃σ' H',Inv X pins σ' H' s'/\Q σ' H') X.xe s
noncomputable def PGs (X:Cx) (ts:List Expr) (t:TGs):Prop :=
 ∀(pins:List (Addr×Obj)) (s:Shared) (σ:St) (H:Hp) (vs:List V) (us:List Value) (Q:St->Hp->Prop),Inv X pins σ H s->Vals vs us->t vs σ H Q ->
  wpAny (model X.prog X.w) X.A (assignInOrder ((assignEach ts X.env).map (·.2)) us) (λ_ s'=>∃σ' H',Inv X pins σ' H' s'/\Q σ' H') X.xe s
noncomputable abbrev TSet:=V->V->V->Hp->(Hp->Prop)->Prop
noncomputable def PSet (X:Cx) (t:TSet):Prop :=
 ∀(pins:List (Addr×Obj)) (s:Shared) (σ:St) (H:Hp) (o i v:V) (ov iv u:Value) (Q:Hp->Prop),Inv X pins σ H s->RelV o ov->RelV i iv->RelV v u->t o i v H Q ->
  wpAny (model X.prog X.w) X.A (setItem ov iv u) (λ_ s'=>∃H',Inv X pins σ H' s'/\Q H') X.xe s
noncomputable abbrev TIp:=V->V->Hp->VK->Prop
noncomputable def PIp (X:Cx) (op:Operator) (t:TIp):Prop :=
 ∀(pins:List (Addr×Obj)) (s:Shared) (σ:St) (H:Hp) (x y:V) (v u:Value) (Q:VK),Inv X pins σ H s->RelV x v->RelV y u->t x y H Q ->
  wpAny (model X.prog X.w) X.A (inplaceOp op v u) (EP X pins σ Q) X.xe s
section
variable {X:Cx}{pos:Pos}
noncomputable def Zhj (i:Nat):TG:=λv σ H Q=>Q (σ.set i (some v)) H
theorem Zr {i:Nat}{x:Str} (hN:X.N.Nodup) (hi:X.N[i]?=some x) (hx:Loc X.env.scope x) (hf:X.fn x=true\/X.env.scope.names.lookup x=some .local:=by first|exact .inl rfl|exact .inr rfl|assumption):PG X (.Name x pos) (Zhj i):=by
 intro pins s σ H v u Q I r h
 exact wpAny_assign_Name (Zew I hN hi hx r (λs' I'=>⟨_,H,I',h⟩) hf)
noncomputable def gNil:TGs:=λvs σ H Q=>vs=[]/\Q σ H
noncomputable def Zmr (t:TG) (u:TGs):TGs:=λvs σ H Q=>∃v r,vs=v::r/\t v σ H fun σ' H'=>u r σ' H' Q
theorem Ze7:PGs X [] gNil:=by
 intro pins s σ H vs us Q I r h
 obtain⟨e,h⟩:=h
 subst e
 cases r
 exact assignInOrder_nil ⟨σ,H,I,h⟩
theorem Zat {e:Expr}{es:List Expr}{t:TG}{u:TGs} (h1:PG X e t) (h2:PGs X es u)
  (hs:(assignEach (e::es) X.env).map (·.2)=assign e X.env::(assignEach es X.env).map (·.2):=by rfl):PGs X (e::es) (Zmr t u):=by
 intro pins s σ H vs us Q I r h
 obtain⟨v,vr,e1,h⟩:=h
 subst e1
 cases r with
 |cons r rr =>
  rw[hs]
  refine assignInOrder_cons (thn (h1 pins s σ H _ _ _ I r h) λ_ s1 ⟨σ1,H1,I1,q1⟩=>?_)
  exact h2 pins s1 σ1 H1 _ _ Q I1 rr q1
noncomputable def gTup (K:PySem.W.Frag) (n:Nat) (t:TGs):TG:=λv σ H Q=>∃a xs,v=.ref a/\SqT K H a xs/\xs.length=n/\t xs σ H Q
theorem ZhU {es:List Expr}{k:Nat}{t:TGs}{n:Nat} (hc:X.calm=true) (h:PGs X es t)
  (hn:(assignEach es X.env).length=n:=by rfl) (hst:(assignEach es X.env).findIdx? (·.1)=none:=by rfl):PG X (.Tuple es k pos) (gTup X.K n t):=by
 intro pins s σ H v u Q I r hw
 obtain⟨a,xs,e1,hq,hl,hw⟩:=hw
 subst e1
 cases r
 obtain⟨its,rv,ht,hz⟩:=I.tuple hq
 refine assign_Tuple_tuple (I.ok.hd hc) ht (by simp[hn,<-hl,rv.length]) hst λh' hx=>?_
 have I1:Inv X pins σ H {s with heap:=h'}:=I.kept (t':=s.toks) λb o e=>hx b o (Yo (Yh e)) e
 exact h pins _ σ H xs _ Q I1 (by simpa using rv) hw
noncomputable def gSub (to ti:TE) (t:TSet):TG:=λv σ H Q=>to σ H λo H1=>ti σ H1 λi H2=>t o i v H2 λH3=>Q σ H3
theorem ZhV {o i:Expr}{to ti:TE}{t:TSet} (ho:PE X o to) (hi:PE X i ti) (hs:PSet X t)
  (ha:∀v,assign (.Subscript o i pos) X.env v=(do
   let ov <-holding [v] (eval o X.env)
   let iv <-holding [v,ov] (eval i X.env)
   standAt pos
   holding [v,ov,iv] (setItem ov iv v)
   release [v,ov,iv] []):=by intro _;rfl):PG X (.Subscript o i pos) (gSub to ti t):=by
 intro pins s σ H v u Q I r h
 rw[ha]
 refine Ya (wpAny_holding (thn (ho pins s σ H _ I h) λov s1 ⟨x,H1,I1,r1,q1⟩=>?_))
 refine Ya (wpAny_holding (thn (hi pins s1 σ H1 _ I1 q1) λiv s2 ⟨y,H2,I2,r2,q2⟩=>?_))
 refine Ya (wpAny_standAt (Ya (wpAny_holding (thn (hs pins s2 σ H2 x y v ov iv u _ I2 r1 r2 r q2) λ_ s3 ⟨H3,I3,q3⟩=>?_))))
 exact wpAny_release ⟨σ,H3,I3,q3⟩
noncomputable def tAsg (te:TE) (g:TG):TS:=λD σ H=>te σ H λx H1=>g x σ H1 D.nx
theorem Zfx {tg e:Expr}{te:TE}{g:TG} (he:PE X e te) (hg:PG X tg g) (hs:swapsWithSole [tg] e pos.line X.env=pure false:=by rfl) (hw:swappedStores [tg] e X.env=pure none:=by rfl)
  (h1:(assignEach [tg] X.env).map (·.2)=[assign tg X.env]:=by rfl):PS X (.Assign [tg] e pos) (tAsg te g):=by
 intro pins s σ H D I h
 refine wpAny_Assign_stores (thn (he pins s σ H _ I h) λv s1 ⟨x,H1,I1,r1,q1⟩=>?_) hs hw
 rw[h1]
 exact thn (hg pins s1 σ H1 x v _ I1 r1 q1) λ_ s2 q=>q
theorem Zk {i:Nat}{x:Str}{e:Expr}{te:TE}{pos':Pos} (hN:X.N.Nodup) (hi:X.N[i]?=some x) (hx:Loc X.env.scope x) (he:PE X e te) (hs:swapsWith e (some (.Name x pos')) pos.line X.env=pure false:=by rfl) (hf:X.fn x=true\/X.env.scope.names.lookup x=some .local:=by first|exact .inl rfl|exact .inr rfl|assumption) :
  PS X (.Assign [.Name x pos'] e pos) (tAsg te (Zhj i)):=by
 intro pins s σ H D I h
 refine wpAny_Assign_Name (thn (he pins s σ H _ I h) λv s1 ⟨y,H1,I1,r1,q1⟩=>?_) hs
 exact Zew I1 hN hi hx r1 (λs2 I2=>⟨_,H1,I2,q1⟩) hf
noncomputable def tAug (i:Nat) (te:TE) (ti:TIp):TS:=λD σ H=>∃x,σ[i]?=some (some x)/\te σ H λy H1=>ti x y H1 λz H2=>D.nx (σ.set i (some z)) H2
theorem ZoL {i:Nat}{x:Str}{e:Expr}{te:TE}{op:Operator}{ti:TIp}{pos':Pos} (hN:X.N.Nodup) (hi:X.N[i]?=some x) (hx:Loc X.env.scope x) (he:PE X e te) (ho:PIp X op ti) (hf:X.fn x=true\/X.env.scope.names.lookup x=some .local:=by first|exact .inl rfl|exact .inr rfl|assumption) :
  PS X (.AugAssign (.Name x pos') op e pos) (tAug i te ti):=by
 intro pins s σ H D I h
 obtain⟨v,e1,h⟩:=h
 obtain⟨m,hn,hl⟩:=I.loc
 have vis:Vis X.env.scope x:=by rcases hx with k|k;exact .inl k;exact .inr (.inl k)
 obtain⟨u,r,l⟩:=hl i x v hi e1 vis
 refine wpAny_AugAssign_Name ?_
 have go:wpAny (model X.prog X.w) X.A (eval e X.env) (λw s₂=>wpAny (model X.prog X.w) X.A (inplaceOp op u w) (λr s₃=>wpAny (model X.prog X.w) X.A (storeName X.env x r) (λ_=>SP X pins D .next) X.xe s₃) X.xe s₂) X.xe s:=by
  refine thn (he pins s σ H _ I h) λw s1 ⟨y,H1,I1,r1,q1⟩=>?_
  refine thn (ho pins s1 σ H1 v y u w _ I1 r r1 q1) λz s2 ⟨zv,H2,I2,r2,q2⟩=>?_
  exact Zew I2 hN hi hx r2 (λs3 I3=>⟨_,H2,I3,q2⟩) hf
 rcases l with⟨hk,hm⟩|⟨hk,c,hc,hcell⟩
 ·exact wpAny_loadName_local I.ok.kind hk hn hm go
 ·rcases hk with hk|hk
  ·exact wpAny_loadName_cell I.ok.kind hk hc hcell go
  ·rcases hx with k|k
   ·have:X.env.scope.names.lookup x=some .free:=hk
    rw[k]at this;cases this
   ·have:X.env.scope.names.lookup x=some .free:=hk
    rw[k]at this;cases this
noncomputable def ZoM (to ti te:TE) (tget:V->V->Hp->VK->Prop) (tip:TIp) (tset:TSet):TS:=λD σ H=>to σ H λo H1=>ti σ H1 λi H2=>tget o i H2 λx H3=>te σ H3 λy H4=>tip x y H4 λz H5=>tset o i z H5 λH6=>D.nx σ H6
noncomputable def PGet (X:Cx) (t:V->V->Hp->VK->Prop):Prop :=
 ∀(pins:List (Addr×Obj)) (s:Shared) (σ:St) (H:Hp) (o i:V) (ov iv:Value) (Q:VK),Inv X pins σ H s->RelV o ov->RelV i iv->t o i H Q ->
  wpAny (model X.prog X.w) X.A (getItem ov iv) (EP X pins σ Q) X.xe s
theorem ZqN {o i e:Expr}{to ti te:TE}{tget:V->V->Hp->VK->Prop}{tip:TIp}{tset:TSet}{op:Operator}{tpos:Pos} (ho:PE X o to) (hi:PE X i ti) (hg:PGet X tget) (he:PE X e te) (hp:PIp X op tip) (hs:PSet X tset)
  (ha:∀ov iv new,augStore i ov iv new=(do holding [new,ov,iv] (setItem ov iv new);release [new,ov,iv] [];pure .next):=by intros;rfl):PS X (.AugAssign (.Subscript o i tpos) op e pos) (ZoM to ti te tget tip tset):=by
 intro pins s σ H D I h
 refine wpAny_AugAssign_SubscriptAny (thn (ho pins s σ H _ I h) λov s1 ⟨x1,H1,I1,r1,q1⟩=>?_) ha
 refine thn (hi pins s1 σ H1 _ I1 q1) λiv s2 ⟨x2,H2,I2,r2,q2⟩=>?_
 refine thn (hg pins s2 σ H2 x1 x2 ov iv _ I2 r1 r2 q2) λold s3 ⟨x3,H3,I3,r3,q3⟩=>?_
 refine thn (he pins s3 σ H3 _ I3 q3) λv s4 ⟨x4,H4,I4,r4,q4⟩=>?_
 refine thn (hp pins s4 σ H4 x3 x4 old v _ I4 r3 r4 q4) λnew s5 ⟨x5,H5,I5,r5,q5⟩=>?_
 exact thn (hs pins s5 σ H5 x1 x2 x5 ov iv new _ I5 r1 r2 r5 q5) λ_ s6 ⟨H6,I6,q6⟩=>⟨σ,H6,I6,q6⟩
noncomputable def ipI (f:Int->Int->Int):TIp:=λx y H Q=>∃i j,x=.int i/\y=.int j/\Q (.int (f i j)) H
theorem ZoN:PIp X .Add (ipI λi j=>i+j):=by
 intro pins s σ H x y v u Q I r1 r2 h
 obtain⟨i,j,e1,e2,q⟩:=h
 subst e1;subst e2
 obtain⟨t,rfl⟩:=r1
 obtain⟨t',rfl⟩:=r2
 exact iadd_int ⟨.int _,H,I.tok _,⟨_,rfl⟩,q⟩
theorem ip_sub:PIp X .Sub (ipI λi j=>i-j):=by
 intro pins s σ H x y v u Q I r1 r2 h
 obtain⟨i,j,e1,e2,q⟩:=h
 subst e1;subst e2
 obtain⟨t,rfl⟩:=r1
 obtain⟨t',rfl⟩:=r2
 exact isub_int ⟨.int _,H,I.tok _,⟨_,rfl⟩,q⟩
end
section
variable {X:Cx}{pos:Pos}
noncomputable def Zly (c:TT) (tb:TS):TS:=λD σ H=>∃W:Nat->St->Hp->Prop,(∃m,W m σ H)/\∀m σ H,W m σ H ->
 c σ H λb H1=>if b=true then ∃N:St->Hp->Prop,(∀σ' H',N σ' H'->∃m',m'<m/\W m' σ' H')/\tb {D with nx:=N,ct:=N,bk:=D.nx} σ H1 else D.nx σ H1
theorem ZkC {c:Expr}{body:List Stmt}{tc:TT}{tb:TS} (hp:PassesOwn (model X.prog X.w) X.A X.env X.xe) (hc:PT X c tc) (hb:PSs X body tb):PS X (.While c body [] pos) (Zly tc tb):=by
 intro pins s σ H D I h
 obtain⟨W,⟨m0,w0⟩,turn⟩:=h
 refine wpAny_While (codeAny_whileLoop (λn s'=>∃σ' H',Inv X pins σ' H' s'/\W n σ' H') ?_ m0 ⟨σ,H,I,w0⟩)
 rintro n s1 ⟨σ1,H1,I1,w1⟩
 refine wpAny_passesOwn hp (thn (hc pins s1 σ1 H1 _ I1 (turn n σ1 H1 w1)) λb s2 ⟨H2,I2,q2⟩=>?_)
 cases b with
 |true =>
  obtain⟨N,hN,q2⟩:=q2
  rw[Yc rfl]
  refine wpAny_passesOwn hp (thn (hb pins s2 σ1 H2 _ I2 q2) λf s3 q3=>?_)
  cases f with
  |next =>
   obtain⟨σ3,H3,I3,n3⟩:=q3
   obtain⟨m',hm,w3⟩:=hN σ3 H3 n3
   exact⟨m',hm,σ3,H3,I3,w3⟩
  |cont =>
   obtain⟨σ3,H3,I3,n3⟩:=q3
   obtain⟨m',hm,w3⟩:=hN σ3 H3 n3
   exact⟨m',hm,σ3,H3,I3,w3⟩
  |brk=>exact q3
  |ret v=>exact q3
 |false =>
  rw[Yb Yv]
  exact wpAny_execs_nil ⟨σ1,H2,I2,q2⟩
end
structure It where
 go:Nat->Hp->Prop
 yld:Nat->Hp->V->Hp->Prop
 stop:Nat->Hp->Prop
noncomputable def FpOk (X:Cx) (pins:List (Addr×Obj)) (H:Hp) (b:Addr):Prop :=
 H b=none/\b≠X.env.locals/\b∉X.fs/\(b∈X.ex\/X.s₀.heap.objs.size<=b)/\(∀x c,X.env.cells.lookup x=some c->c≠b)/\∀p∈X.pn++pins,p.1≠b
theorem Inv.Znp {X:Cx}{pins:List (Addr×Obj)}{σ:St}{H H':Hp}{s:Shared}{b:Addr} (I:Inv X pins σ H s) (hb:s.heap.objs.size<=b) (hn:H' b=none):FpOk X pins H' b:=by
 refine⟨hn,Nat.ne_of_gt (Yu I.lt hb),I.nofs hb,.inr (Yg I.sz hb),λx c e z=>?_,λp hp z=>?_⟩
 ·obtain⟨v,q⟩:=I.cell x c e
  exact absurd (Yu q.lt (by rw[z];exact hb)) (Yz _)
 ·exact absurd (Yu (Yh (I.pin p hp).1) (by rw[z];exact hb)) (Yz _)
structure Turn (P:Program) (w:World) (K:PySem.W.Frag) (tg:Expr) (J:It) (fp:List Addr) (it:Addr) (tn:Nat->Heap->Prop):Prop where
 mem:it∈fp
 obj:∀i h,tn i h->∀b∈fp,∃o,h.get? b=some o/\∀v,o.data≠.cell v
 keep:∀i h h',tn i h->(∀b∈fp,∀o,h.get? b=some o->h'.get? b=some o)->tn i h'
 item:∀(X:Cx),X.prog=P->X.w=w->X.K=K->X.calm=true->∀(i:Nat) (pins:List (Addr×Obj)) (s:Shared) (σ:St) (H:Hp) (E:Value->Shared->Prop),Inv X pins σ H s->(∀b∈fp,FpOk X pins H b)->tn i s.heap->J.go i H ->
  wpAny (model P w) X.A (pyNext (.ref it)) (λr s1=>∃u,r=some u /\
   wpAny (model P w) X.A (letOwnedTupleGo tg (.ref it) u) (λ_ s2=>∃x H',Inv X pins σ H' s2/\RelV x u/\J.yld i H x H'/\tn (i+1) s2.heap/\∀b∈fp,H' b=none) E s1) E s
 done:∀(X:Cx),X.prog=P->X.w=w->X.K=K->X.calm=true->∀(i:Nat) (pins:List (Addr×Obj)) (s:Shared) (σ:St) (H:Hp) (E:Value->Shared->Prop),Inv X pins σ H s->(∀b∈fp,FpOk X pins H b)->tn i s.heap->J.stop i H ->
  wpAny (model P w) X.A (pyNext (.ref it)) (λr s1=>r=none/\Inv X pins σ H s1) E s
 self:∀(A:Around) (i:Nat) (s:Shared) (Q:Value->Shared->Prop) (E:Value->Shared->Prop),tn i s.heap->Q (.ref it) s->wpAny (model P w) A (pyIter (.ref it)) Q E s
noncomputable abbrev TI:=St->Hp->(It->Hp->Prop)->Prop
noncomputable def PIE (X:Cx) (pins:List (Addr×Obj)) (σ:St) (tg:Expr) (R:It->Hp->Prop) (itv:Value) (s2:Shared):Prop :=
 ∃(it:Addr) (fp:List Addr) (tn:Nat->Heap->Prop) (J:It) (H':Hp),itv=.ref it/\Inv X pins σ H' s2/\Turn X.prog X.w X.K tg J fp it tn/\tn 0 s2.heap/\(∀b∈fp,FpOk X pins H' b)/\R J H'
noncomputable def PI (X:Cx) (tg iter:Expr) (wi:TI):Prop :=
 ∀(pins:List (Addr×Obj)) (s:Shared) (σ:St) (H:Hp) (R:It->Hp->Prop),Inv X pins σ H s->wi σ H R ->
  wpAny (model X.prog X.w) X.A (eval iter X.env) (λv s1=>wpAny (model X.prog X.w) X.A (pyIter v) (PIE X pins σ tg R) X.xe s1) X.xe s
theorem Zms {M : Model} {A : Around} {E : Value → Shared → Prop} {s : Shared} {tg : Expr} {it : Addr} {u : Value} {o : Obj} {n : String} {vs : Array Value} {Q : Unit → Shared → Prop} (ho : s.heap.get? it = some o) (hc : o.cls = .type n) (hd : o.data = .fields vs)
    (hn : ["enumerate", "zip", "dict_itemiterator", "dict_reverseitemiterator", "odict_iterator", "itertools.zip_longest", "itertools.pairwise"].contains n = false) (hQ : Q () s) : wpAny M A (letOwnedTupleGo tg (.ref it) u) Q E s := by
  unfold letOwnedTupleGo
  cases tg <;> first
    | exact Ye hQ
    | (cases u <;> first
        | exact Ye hQ
        | (refine Ya (wpAny_load ho ?_)
           rw [hc, hd]
           show wpAny M A (if (["enumerate", "zip", "dict_itemiterator", "dict_reverseitemiterator", "odict_iterator", "itertools.zip_longest", "itertools.pairwise"].contains n && vs[0]? == some (rawInt _)) = true then _ else _) Q E s
           rw [Yb (by intro h; rw [hn, Bool.false_and] at h; cases h)]
           exact Ye hQ))
noncomputable def Itl (K:PySem.W.Frag) (a:Addr):It :=
 ⟨λi H=>∃xs x,SqL K H a xs/\xs[i]?=some x,λi H x H'=>H'=H/\∀xs,SqL K H a xs->xs[i]?=some x,λi H=>∃xs,SqL K H a xs/\xs.length<=i⟩
noncomputable def Itt (K:PySem.W.Frag) (a:Addr):It :=
 ⟨λi H=>∃xs x,SqT K H a xs/\xs[i]?=some x,λi H x H'=>H'=H/\∀xs,SqT K H a xs->xs[i]?=some x,λi H=>∃xs,SqT K H a xs/\xs.length<=i⟩
noncomputable def Itr (lo:Int) (n:Nat):It:=⟨λi _=>i<n,λi H x H'=>H'=H/\x=.int (lo+i),λi _=>n<=i⟩
theorem Znq {P:Program}{w:World}{K:PySem.W.Frag}{tg:Expr} (a it:Addr):Turn P w K tg (Itl K a) [it] it (λi h=>h.IsListIter it a i) where
 mem:=by simp
 obj:=λi h st b hb=>by
  have e:b=it:=by simpa using hb
  subst e
  obtain⟨o,e,c,d⟩:=st
  exact⟨o,e,λv z=>by rw[d]at z;cases z⟩
 keep:=λi h h' st k=>st.at λo e=>k it (by simp) o e
 item:=by
  intro X hP hw hK hc i pins s σ H E I hf st hg
  subst hP hw hK
  obtain⟨xs,x,hq,hx⟩:=hg
  obtain⟨its,rv,p,hz⟩:=I.list hq
  obtain⟨u,hu,ru⟩:=rv.get hx
  obtain⟨f0,f1,f2,f3,f4,f5⟩:=hf it (by simp)
  refine wpAny_pyNext_list_item st p.isList (x:=u) (by simpa using hu) λh' st' sb=>?_
  have I1:Inv X pins σ H {s with heap:=h'}:=I.turned (t':=s.toks) (λb o hb e=>(sb.2 b hb).trans e) f0 f1 f3 f4 f5
  obtain⟨o,e,c,d⟩:=id st'
  exact⟨u,rfl,Zms (s:={s with heap:=h'}) e c d (by decide) ⟨x,H,I1,ru,⟨rfl,λys hy=>by rw[I.Zey hy hq];exact hx⟩,st',λb hb=>(hf b hb).1⟩⟩
 done:=by
  intro X hP hw hK hc i pins s σ H E I hf st hg
  subst hP hw hK
  obtain⟨xs,hq,hx⟩:=hg
  obtain⟨its,rv,p,hz⟩:=I.list hq
  obtain⟨f0,f1,f2,f3,f4,f5⟩:=hf it (by simp)
  have hl:=rv.length
  exact wpAny_pyNext_list_end (I.ok.hd hc) st p.isList (by simp;omega) λh' eb=>⟨rfl,I.turned (t':=s.toks) (λb o hb e=>eb b o hb e) f0 f1 f3 f4 f5⟩
 self:=λ_ _ _ _ _ st h=>wpAny_pyIter_listiter st h
theorem Zlz {P:Program}{w:World}{K:PySem.W.Frag}{tg:Expr} (a it:Addr):Turn P w K tg (Itt K a) [it] it (λi h=>h.IsTupleIter it a i) where
 mem:=by simp
 obj:=λi h st b hb=>by
  have e:b=it:=by simpa using hb
  subst e
  obtain⟨o,e,c,d⟩:=st
  exact⟨o,e,λv z=>by rw[d]at z;cases z⟩
 keep:=λi h h' st k=>st.at λo e=>k it (by simp) o e
 item:=by
  intro X hP hw hK hc i pins s σ H E I hf st hg
  subst hP hw hK
  obtain⟨xs,x,hq,hx⟩:=hg
  obtain⟨its,rv,p,hz⟩:=I.tuple hq
  obtain⟨u,hu,ru⟩:=rv.get hx
  obtain⟨f0,f1,f2,f3,f4,f5⟩:=hf it (by simp)
  refine wpAny_pyNext_tuple_item st (show s.heap.IsTuple a its.toArray from p) (x:=u) (by simpa using hu) λh' st' sb=>?_
  have I1:Inv X pins σ H {s with heap:=h'}:=I.turned (t':=s.toks) (λb o hb e=>(sb.2 b hb).trans e) f0 f1 f3 f4 f5
  obtain⟨o,e,c,d⟩:=id st'
  exact⟨u,rfl,Zms (s:={s with heap:=h'}) e c d (by decide) ⟨x,H,I1,ru,⟨rfl,λys hy=>by rw[I.ZgJ hy hq];exact hx⟩,st',λb hb=>(hf b hb).1⟩⟩
 done:=by
  intro X hP hw hK hc i pins s σ H E I hf st hg
  subst hP hw hK
  obtain⟨xs,hq,hx⟩:=hg
  obtain⟨its,rv,p,hz⟩:=I.tuple hq
  obtain⟨f0,f1,f2,f3,f4,f5⟩:=hf it (by simp)
  have hl:=rv.length
  exact wpAny_pyNext_tuple_end (I.ok.hd hc) st (show s.heap.IsTuple a its.toArray from p) (by simp;omega) λh' eb=>⟨rfl,I.turned (t':=s.toks) (λb o hb e=>eb b o hb e) f0 f1 f3 f4 f5⟩
 self:=λ_ _ _ _ _ st h=>wpAny_pyIter_tupleiter st h
theorem ZlA {P:Program}{w:World}{K:PySem.W.Frag}{tg:Expr} (it:Addr) (lo:Int) (n:Nat):Turn P w K tg (Itr lo n) [it] it (λi h=>IsRangeIter h it (lo+(i:Nat)*1) ((n:Int)-(i:Nat)) 1) where
 mem:=by simp
 obj:=λi h st b hb=>by
  have e:b=it:=by simpa using hb
  subst e
  exact⟨_,st,λv z=>by
   have z':Data.fields _=Data.cell v:=z
   cases z'⟩
 keep:=λi h h' st k=>k it (by simp) _ st
 item:=by
  intro X hP hw hK hc i pins s σ H E I hf st hg
  subst hP hw hK
  obtain⟨f0,f1,f2,f3,f4,f5⟩:=hf it (by simp)
  have W:=Walks.range (prog:=X.prog) (w:=X.w) (I.ok.hd hc) it lo 1 n
  refine W.item i s _ _ hg st λv h' tk hv st' kk=>?_
  obtain⟨t,rfl⟩:=hv
  have I1:Inv X pins σ H {s with heap:=h',toks:=tk}:=I.turned (λb o hb e=>kk b o (by simpa using hb) e) f0 f1 f3 f4 f5
  refine⟨_,rfl,Zms (s:={s with heap:=h',toks:=tk}) (n:="range_iterator") st' rfl rfl (by decide) ⟨.int (lo+i),H,I1,⟨t,?_⟩,⟨rfl,rfl⟩,st',λb hb=>(hf b hb).1⟩⟩
  rw[Int.mul_one]
 done:=by
  intro X hP hw hK hc i pins s σ H E I hf st hg
  subst hP hw hK
  obtain⟨f0,f1,f2,f3,f4,f5⟩:=hf it (by simp)
  exact wpAny_pyNext_range_end (I.ok.hd hc) st (by have:n<=i:=hg;omega) λh' eb=>⟨rfl,I.turned (t':=s.toks) (λb o hb e=>eb b o hb e) f0 f1 f3 f4 f5⟩
 self:=λ_ _ _ _ _ st h=>wpAny_pyIter_rangeiter st h
section
variable {X:Cx}{tg:Expr}
noncomputable def ZoO (K:PySem.W.Frag) (tl:TE):TI:=fun σ H R=>tl σ H λx H1=>∃a,x=.ref a/\(∃xs,SqL K H1 a xs)/\R (Itl K a) H1
noncomputable def iTup (K:PySem.W.Frag) (tl:TE):TI:=fun σ H R=>tl σ H λx H1=>∃a,x=.ref a/\(∃xs,SqT K H1 a xs)/\R (Itt K a) H1
theorem Zf2 {l:Expr}{tl:TE} (hl:PE X l tl):PI X tg l (ZoO X.K tl):=by
 intro pins s σ H R I h
 refine thn (hl pins s σ H _ I h) λv s1 ⟨x,H1,I1,r1,q1⟩=>?_
 obtain⟨a,e,⟨xs,hq⟩,q⟩:=q1
 subst e
 cases r1
 obtain⟨its,rv,p,hz⟩:=I1.list hq
 refine wpAny_pyIter_list p.isList ?_
 refine⟨s1.heap.objs.size,[s1.heap.objs.size],_,_,H1,rfl,I1.kept (t':=s1.toks) λb o e=>Ym _ e,Znq a _,⟨_,Yw _ rfl,rfl,rfl⟩,λb hb=>?_,q⟩
 have e:b=s1.heap.objs.size:=by simpa using hb
 subst e
 exact I1.Znp (Yd _) (I1.hok.fresh (Yd _))
theorem ZoP {l:Expr}{tl:TE} (hl:PE X l tl):PI X tg l (iTup X.K tl):=by
 intro pins s σ H R I h
 refine thn (hl pins s σ H _ I h) λv s1 ⟨x,H1,I1,r1,q1⟩=>?_
 obtain⟨a,e,⟨xs,hq⟩,q⟩:=q1
 subst e
 cases r1
 obtain⟨its,rv,p,hz⟩:=I1.tuple hq
 refine wpAny_pyIter_tuple (show s1.heap.IsTuple a its.toArray from p) ?_
 refine⟨s1.heap.objs.size,[s1.heap.objs.size],_,_,H1,rfl,I1.kept (t':=s1.toks) λb o e=>Ym _ e,Zlz a _,⟨_,Yw _ rfl,rfl,rfl⟩,λb hb=>?_,q⟩
 have e:b=s1.heap.objs.size:=by simpa using hb
 subst e
 exact I1.Znp (Yd _) (I1.hok.fresh (Yd _))
theorem ZkD {pins:List (Addr×Obj)}{σ:St}{H:Hp}{s:Shared}{R:It->Hp->Prop}{E:Value->Shared->Prop}{lo hi:Int}{t u v:Tok}{tk:Nat} (I:Inv X pins σ H s) (h1:-(2 ^ 62)<=lo) (h2:lo<2 ^ 62) (h3:-(2 ^ 62)<=hi) (h4:hi<2 ^ 62)
  (q:R (Itr lo (hi-lo).toNat) H):wpAny (model X.prog X.w) X.A (pyIter (.ref s.heap.objs.size)) (PIE X pins σ tg R) E {s with heap:=s.heap.push {cls:=.type "range",data:=.fields #[.int lo t,.int hi u,.int 1 v]},toks:=tk}:=by
 refine wpAny_pyIter_range (IsRange.new ..) (small_one h1 h2 h3 h4) ?_
 have I1:Inv X pins σ H {s with heap:=s.heap.push {cls:=.type "range",data:=.fields #[.int lo t,.int hi u,.int 1 v]},toks:=tk}:=I.kept λb o e=>Ym _ e
 refine⟨(s.heap.push {cls:=.type "range",data:=.fields #[.int lo t,.int hi u,.int 1 v]}).objs.size,[(s.heap.push {cls:=.type "range",data:=.fields #[.int lo t,.int hi u,.int 1 v]}).objs.size],_,_,H,rfl,
  I1.kept (t':=tk) λb o e=>Ym _ e,ZlA _ lo (hi-lo).toNat,?_,λb hb=>?_,q⟩
 ·have e1:lo+((0:Nat):Int)*1=lo:=by simp
  have e2:(((hi-lo).toNat:Nat):Int)-((0:Nat):Int)=Builtin.Range.rangeSize lo hi 1:=by rw[rangeSize_one];split<;>omega
  show IsRangeIter _ _ (lo+((0:Nat):Int)*1) ((((hi-lo).toNat:Nat):Int)-((0:Nat):Int)) 1
  rw[e1,e2]
  exact Yw _ rfl
 ·have e:b=(s.heap.push {cls:=.type "range",data:=.fields #[.int lo t,.int hi u,.int 1 v]}).objs.size:=by simpa using hb
  subst e
  exact I1.Znp (Yd _) (I1.hok.fresh (Yd _))
noncomputable def ZoQ (ta:TA):TI:=fun σ H R=>ta σ H λvs H1=>∃j:Int,vs=[.int j]/\-(2 ^ 62)<=j/\j<2 ^ 62/\R (Itr 0 j.toNat) H1
noncomputable def ZoR (ta:TA):TI:=fun σ H R=>ta σ H λvs H1=>∃i j:Int,vs=[.int i,.int j]/\(-(2 ^ 62)<=i/\i<2 ^ 62/\-(2 ^ 62)<=j/\j<2 ^ 62)/\R (Itr i (j-i).toNat) H1
theorem ZF {a:Expr}{ta:TA}{p pos:Pos} (hg:Gl X "range") (hm:X.mg "range"=none) (ha:PA X [a] ta) (hs:starEach [a] X.env=[(false,eval a X.env)]:=by rfl):PI X tg (.Call (.Name "range" p) [a] [] pos) (ZoQ ta):=by
 intro pins s σ H R I h
 refine Call_ (Zc7 I hg hm boot_range (PyProof.Rows.callWith_type1 (thn (ha pos pins s σ H _ I h) λus s1 ⟨vs,H1,I1,r1,q1⟩=>?_) hs rfl))
 obtain⟨j,e,q1,q2,q⟩:=q1
 subst e
 cases r1 with
 |cons r rr =>
  cases rr
  obtain⟨t,rfl⟩:=r
  exact call_range_1 (ZkD I1 (by omega) (by omega) q1 q2 (by simpa using q))
theorem Znr {a b:Expr}{ta:TA}{p pos:Pos} (hg:Gl X "range") (hm:X.mg "range"=none) (ha:PA X [a,b] ta) (hs:starEach [a,b] X.env=[(false,eval a X.env),(false,eval b X.env)]:=by rfl) (hs2:starEach [b] X.env=[(false,eval b X.env)]:=by rfl) :
  PI X tg (.Call (.Name "range" p) [a,b] [] pos) (ZoR ta):=by
 intro pins s σ H R I h
 refine Call_ (Zc7 I hg hm boot_range (PyProof.Rows.callWith_type1 (thn (ha pos pins s σ H _ I h) λus s1 ⟨vs,H1,I1,r1,q1⟩=>?_) (by rw[hs,hs2]) (by rw[hs2];rfl)))
 obtain⟨i,j,e,⟨q1,q2,q3,q4⟩,q⟩:=q1
 subst e
 cases r1 with
 |cons r rr =>
  cases rr with
  |cons r' rr =>
   cases rr
   obtain⟨t,rfl⟩:=r
   obtain⟨t',rfl⟩:=r'
   exact call_range_2 (ZkD I1 q1 q2 q3 q4 q)
noncomputable def tFor (wi:TI) (g:TG) (tb:TS):TS:=λD σ H=>wi σ H λJ H1=>∃W:Nat->Nat->St->Hp->Prop,(∃m,W 0 m σ H1)/\∀i m σ H,W i m σ H ->
 (J.stop i H/\D.nx σ H)\/(J.go i H/\∃N:St->Hp->Prop,(∀σ' H',N σ' H'->∃m',m'<m/\W (i+1) m' σ' H')/\∀x H',J.yld i H x H'->g x σ H' fun σ2 H2=>tb {D with nx:=N,ct:=N,bk:=D.nx} σ2 H2)
noncomputable def ZeA (fp:List Addr) (h:Heap):List (Addr×Obj):=fp.filterMap λb=>(h.get? b).map λo=>(b,o)
theorem ZdJ {fp:List Addr}{h:Heap}{b:Addr}{o:Obj} (hb:b∈fp) (e:h.get? b=some o):(b,o)∈ZeA fp h:=List.mem_filterMap.mpr ⟨b,hb,by rw[e];rfl⟩
theorem Zja {fp:List Addr}{h:Heap}{p:Addr×Obj} (hp:p∈ZeA fp h):p.1∈fp/\h.get? p.1=some p.2:=by
 obtain⟨b,hb,e⟩:=List.mem_filterMap.mp hp
 cases q:h.get? b with
 |none=>rw[q]at e;cases e
 |some o =>
  rw[q]at e
  have e':(b,o)=p:=Yx e
  subst e'
  exact⟨hb,q⟩
theorem Inv.pinned {pins:List (Addr×Obj)}{σ:St}{H:Hp}{s:Shared}{fp:List Addr} (I:Inv X pins σ H s) (hf:∀b∈fp,FpOk X pins H b) (ho:∀b∈fp,∃o,s.heap.get? b=some o/\∀v,o.data≠.cell v):Inv X (pins++ZeA fp s.heap) σ H s :=
 I.Zf0 λp hp=>(Yt.mp hp).elim (λz=>I.pin p (Yp _ z)) λz=>by
  obtain⟨hb,e⟩:=Zja z
  obtain⟨f0,f1,f2,_⟩:=hf p.1 hb
  obtain⟨o,e',d⟩:=ho p.1 hb
  rw[e]at e';cases e'
  exact⟨e,f0,f1,f2,d⟩
theorem Inv.ZeB {pins pl:List (Addr×Obj)}{σ:St}{H:Hp}{s:Shared} (I:Inv X (pins++pl) σ H s):Inv X pins σ H s:=I.Zf0 λp hp=>I.pin p (Yp _ (YC _ hp))
theorem Za4 {iter:Expr}{body:List Stmt}{wi:TI}{g:TG}{tb:TS}{pos:Pos} (hp:PassesOwn (model X.prog X.w) X.A X.env X.xe) (hc:X.calm=true) (hi:PI X tg iter wi) (hg:PG X tg g) (hb:PSs X body tb)
  (hs:∀x,foldedSetIterable iter X.env x=pure x:=by intro _;rfl):PS X (.For tg iter body [] pos) (tFor wi g tb):=by
 intro pins s σ H D I h
 refine wpAny_For (thn (hi pins s σ H _ I h) λv s1 h1=>thn h1 λitv s2 h2=>?_) hs
 obtain⟨it,fp,tn,J,H2,e,I2,T,st2,f2,W,⟨m0,w0⟩,turn⟩:=h2
 subst e
 -- what stays true of the iterator's objects through the loop
 have stat:∀{H':Hp},(∀b∈fp,H' b=none)->∀b∈fp,FpOk X pins H' b:=λhn b hb=>⟨hn b hb,(f2 b hb).2⟩
 refine codeAny_forLoop_any (λn s'=>∃i σ' H',Inv X pins σ' H' s'/\tn i s'.heap/\(∀b∈fp,H' b=none)/\W i n σ' H') ?_ m0 ⟨0,σ,H2,I2,st2,λb hb=>(f2 b hb).1,w0⟩
 rintro n s3 ⟨i,σ3,H3,I3,st3,fr3,w3⟩
 rcases turn i n σ3 H3 w3 with⟨stop,qn⟩|⟨go,N,hN,step⟩
 ·refine wpAny_passesOwn hp (thn (T.done X rfl rfl rfl hc i pins s3 σ3 H3 X.xe I3 (stat fr3) st3 stop) λr s4 ⟨hr,I4⟩=>?_)
  subst hr
  exact wpAny_execs_nil ⟨σ3,H3,I4,qn⟩
 ·refine wpAny_passesOwn hp (thn (T.item X rfl rfl rfl hc i pins s3 σ3 H3 X.xe I3 (stat fr3) st3 go) λr s4 ⟨u,hr,h4⟩=>?_)
  subst hr
  refine wpAny_passesOwn hp (thn h4 λ_ s5 ⟨x,H5,I5,r5,y5,st5,fr5⟩=>?_)
  have I5':=I5.pinned (stat fr5) (T.obj _ _ st5)
  refine wpAny_passesOwn hp (thn (hg _ s5 σ3 H5 x u _ I5' r5 (step x H5 y5)) λ_ s6 ⟨σ6,H6,I6,q6⟩=>?_)
  refine wpAny_passesOwn hp (thn (hb _ s6 σ6 H6 _ I6 q6) λf s7 q7=>?_)
  have again:∀{σ7:St}{H7:Hp},Inv X (pins++ZeA fp s5.heap) σ7 H7 s7->N σ7 H7->∃m,m<n/\∃i σ' H',Inv X pins σ' H' s7/\tn i s7.heap/\(∀b∈fp,H' b=none)/\W i m σ' H':=λ{σ7 H7} I7 n7=>by
   obtain⟨m',hm,w7⟩:=hN σ7 H7 n7
   refine⟨m',hm,i+1,σ7,H7,I7.ZeB,T.keep _ _ _ st5 λb hb o e=>(I7.pin (b,o) (Yp _ (Yp _ (ZdJ hb e)))).1,λb hb=>?_,w7⟩
   obtain⟨o,e,d⟩:=T.obj _ _ st5 b hb
   exact(I7.pin (b,o) (Yp _ (Yp _ (ZdJ hb e)))).2.1
  cases f with
  |next=>obtain⟨σ7,H7,I7,n7⟩:=q7;exact again I7 n7
  |cont=>obtain⟨σ7,H7,I7,n7⟩:=q7;exact again I7 n7
  |brk=>obtain⟨σ7,H7,I7,q7⟩:=q7;exact⟨σ7,H7,I7.ZeB,q7⟩
  |ret v=>obtain⟨x7,σ7,H7,I7,r7,q7⟩:=q7;exact⟨x7,σ7,H7,I7.ZeB,r7,q7⟩
end
theorem Zay {lo:Int}{n:Nat}{g:TG}{tb:TS}{D:Ends}{σ:St}{H:Hp} (Pv:Nat->St->Hp->Prop) (h0:Pv 0 σ H)
  (hs:∀i σ H,i<n->Pv i σ H->g (.int (lo+i)) σ H fun σ2 H2=>tb {D with nx:=Pv (i+1),ct:=Pv (i+1),bk:=D.nx} σ2 H2) (hd:∀σ H,Pv n σ H->D.nx σ H) :
  ∃W:Nat->Nat->St->Hp->Prop,(∃m,W 0 m σ H)/\∀i m σ H,W i m σ H ->
   ((Itr lo n).stop i H/\D.nx σ H)\/((Itr lo n).go i H/\∃N:St->Hp->Prop,(∀σ' H',N σ' H'->∃m',m'<m/\W (i+1) m' σ' H')/\∀x H',(Itr lo n).yld i H x H'->g x σ H' fun σ2 H2=>tb {D with nx:=N,ct:=N,bk:=D.nx} σ2 H2):=by
 refine⟨λi m σ H=>m=n-i/\i<=n/\Pv i σ H,⟨n,by simp,Yn _,h0⟩,?_⟩
 rintro i m σ H ⟨rfl,hi,p⟩
 by_cases hlt:i<n
 ·refine .inr ⟨hlt,Pv (i+1),fun σ' H' p'=>⟨n-(i+1),by omega,rfl,hlt,p'⟩,λx H' y=>?_⟩
  obtain⟨e,y⟩:=y
  subst e y
  exact hs i σ _ hlt p
 ·have e:i=n:=by omega
  subst e
  exact .inl ⟨Yd _,hd σ H p⟩
noncomputable abbrev R2:=V->V->Hp->VK->Prop
noncomputable def OpR (X:Cx) (f:Value->Value->Sem Value) (r:R2):Prop :=
 ∀(pins:List (Addr×Obj)) (s:Shared) (σ:St) (H:Hp) (x y:V) (v u:Value) (Q:VK),Inv X pins σ H s->RelV x v->RelV y u->r x y H Q ->
  wpAny (model X.prog X.w) X.A (f v u) (EP X pins σ Q) X.xe s
noncomputable def UnR (X:Cx) (f:Value->Sem Value) (r:V->Hp->VK->Prop):Prop :=
 ∀(pins:List (Addr×Obj)) (s:Shared) (σ:St) (H:Hp) (x:V) (v:Value) (Q:VK),Inv X pins σ H s->RelV x v->r x H Q ->
  wpAny (model X.prog X.w) X.A (f v) (EP X pins σ Q) X.xe s
noncomputable def Zbs (X:Cx) (f:Value) (r:List V->Hp->VK->Prop):Prop :=
 ∀(pins:List (Addr×Obj)) (s:Shared) (σ:St) (H:Hp) (xs:List V) (us:List Value) (Q:VK),Inv X pins σ H s->Vals xs us->r xs H Q ->
  wpAny (model X.prog X.w) X.A (call f us) (EP X pins σ Q) X.xe s
noncomputable def tOp (r:R2) (ta tb:TE):TE:=fun σ H Q=>ta σ H λx H1=>tb σ H1 λy H2=>r x y H2 Q
noncomputable def tUn (r:V->Hp->VK->Prop) (ta:TE):TE:=fun σ H Q=>ta σ H λx H1=>r x H1 Q
noncomputable def rI (C:Int->Int->Prop) (g:Int->Int->V):R2:=λx y H Q=>∃i j,x=.int i/\y=.int j/\C i j/\Q (g i j) H
noncomputable def rI0 (g:Int->Int->V):R2:=λx y H Q=>∃i j,x=.int i/\y=.int j/\Q (g i j) H
noncomputable def rU (g:Int->V):V->Hp->VK->Prop:=λx H Q=>∃i,x=.int i/\Q (g i) H
section
variable {X:Cx}{a b c:Expr}{ta tb tc:TE}{pos:Pos}
theorem binT (ha:PE X a ta) (hb:PE X b tb) {pins:List (Addr×Obj)}{s:Shared}{σ:St}{H:Hp}{R:V->V->Hp->Prop} (I:Inv X pins σ H s)
  (h:ta σ H λx H1=>tb σ H1 λy H2=>R x y H2) {Q:Value->Shared->Prop}{f:Value->Value->Sem Value}
  (hf:∀v u s2 x y H2,Inv X pins σ H2 s2->RelV x v->RelV y u->R x y H2->wpAny (model X.prog X.w) X.A (f v u) Q X.xe s2) :
  wpAny (model X.prog X.w) X.A (eval a X.env) (λv s₁=>wpAny (model X.prog X.w) X.A (eval b X.env) (λu s₂=>wpAny (model X.prog X.w) X.A (f v u) Q X.xe s₂) X.xe s₁) X.xe s:=by
 refine thn (ha pins s σ H _ I h) λv s1 ⟨x,H1,I1,r1,q1⟩=>?_
 refine thn (hb pins s1 σ H1 _ I1 q1) λu s2 ⟨y,H2,I2,r2,q2⟩=>?_
 exact hf v u s2 x y H2 I2 r1 r2 q2
theorem Zl {op:Operator}{r:R2} (ho:OpR X (binaryOp op) r) (ha:PE X a ta) (hb:PE X b tb):PE X (.BinOp a op b pos) (tOp r ta tb):=by
 intro pins s σ H Q I h
 exact wpAny_BinOp (binT ha hb I h λv u s2 x y H2 I2 rx ry q=>ho pins s2 σ H2 x y v u Q I2 rx ry q)
theorem Zhk {op:UnaryOp}{r:V->Hp->VK->Prop} (ho:UnR X (unaryOp op) r) (ha:PE X a ta):PE X (.UnaryOp op a pos) (tUn r ta):=by
 intro pins s σ H Q I h
 exact UnaryOp_ (thn (ha pins s σ H _ I h) λv s1 ⟨x,H1,I1,r1,q1⟩=>ho pins s1 σ H1 x v Q I1 r1 q1)
theorem opI {f:Value->Value->Sem Value}{C:Int->Int->Prop}{g:Int->Int->Int}
  (rule:∀(i j:Int) (t u:Tok) (s:Shared) (Q:Value->Shared->Prop) (E:Value->Shared->Prop),C i j->Q (.int (g i j) s.toks) {s with toks:=s.toks+1}->wpAny (model X.prog X.w) X.A (f (.int i t) (.int j u)) Q E s) :
  OpR X f (rI C λi j=>.int (g i j)):=by
 intro pins s σ H x y v u Q I rx ry h
 obtain⟨i,j,rfl,rfl,hc,q⟩:=h
 obtain⟨t,rfl⟩:=rx
 obtain⟨t',rfl⟩:=ry
 exact rule i j t t' s _ _ hc ⟨.int (g i j),H,I.tok _,⟨_,rfl⟩,q⟩
theorem opI0 {f:Value->Value->Sem Value}{g:Int->Int->Int}
  (rule:∀(i j:Int) (t u:Tok) (s:Shared) (Q:Value->Shared->Prop) (E:Value->Shared->Prop),Q (.int (g i j) s.toks) {s with toks:=s.toks+1}->wpAny (model X.prog X.w) X.A (f (.int i t) (.int j u)) Q E s) :
  OpR X f (rI0 λi j=>.int (g i j)):=by
 intro pins s σ H x y v u Q I rx ry h
 obtain⟨i,j,rfl,rfl,q⟩:=h
 obtain⟨t,rfl⟩:=rx
 obtain⟨t',rfl⟩:=ry
 exact rule i j t t' s _ _ ⟨.int (g i j),H,I.tok _,⟨_,rfl⟩,q⟩
theorem opB0 {f:Value->Value->Sem Value}{g:Int->Int->Bool}
  (rule:∀(i j:Int) (t u:Tok) (s:Shared) (Q:Value->Shared->Prop) (E:Value->Shared->Prop),Q (.bool (g i j)) s->wpAny (model X.prog X.w) X.A (f (.int i t) (.int j u)) Q E s) :
  OpR X f (rI0 λi j=>.bl (g i j)):=by
 intro pins s σ H x y v u Q I rx ry h
 obtain⟨i,j,rfl,rfl,q⟩:=h
 obtain⟨t,rfl⟩:=rx
 obtain⟨t',rfl⟩:=ry
 exact rule i j t t' s _ _ ⟨.bl (g i j),H,I,rfl,q⟩
noncomputable def CDiv (i j:Int):Prop:=0<j/\j<1073741824
noncomputable def ZiM (i j:Int):Prop:=0<=j/\j<=1000000/\i.natAbs<2 ^ 64
theorem ZY:OpR X (binaryOp .Add) (rI0 λi j=>.int (i+j)):=opI0 λ_ _ _ _ _ _ _ q=>add_int q
theorem Zar:OpR X (binaryOp .Sub) (rI0 λi j=>.int (i-j)):=opI0 λ_ _ _ _ _ _ _ q=>sub_int q
theorem ZjI:OpR X (binaryOp .FloorDiv) (rI CDiv λi j=>.int (i / j)):=opI λi j _ _ _ _ _ hc q=>by
 have h1:(0:Int)<j:=hc.1
 have h2:j<1073741824:=hc.2
 exact floordiv_int (by omega) (by rw[Int.fdiv_eq_ediv_of_nonneg i (by omega)];exact q) (.inl (PyProof.noPylong_small (by omega)))
theorem ZgK:OpR X (binaryOp .Mod) (rI (λ_ j=>0<j) λi j=>.int (i % j)):=opI λi j _ _ _ _ _ hc q=>by
 have h1:(0:Int)<j:=hc
 exact mod_int' (by omega) (by rw[Int.fmod_eq_emod_of_nonneg i (by omega)];exact q)
theorem Zc8:OpR X (binaryOp .Pow) (rI ZiM λi j=>.int (i ^ j.toNat)):=opI λ_ _ _ _ _ _ _ hc q=>pow_int_small hc.1 hc.2.1 hc.2.2 q
theorem unI {f:Value->Sem Value}{g:Int->Int}
  (rule:∀(i:Int) (t:Tok) (s:Shared) (Q:Value->Shared->Prop) (E:Value->Shared->Prop),Q (.int (g i) s.toks) {s with toks:=s.toks+1}->wpAny (model X.prog X.w) X.A (f (.int i t)) Q E s) :
  UnR X f (rU λi=>.int (g i)):=by
 intro pins s σ H x v Q I rx h
 obtain⟨i,rfl,q⟩:=h
 obtain⟨t,rfl⟩:=rx
 exact rule i t s _ _ ⟨.int (g i),H,I.tok _,⟨_,rfl⟩,q⟩
theorem ZeC:UnR X (unaryOp .USub) (rU λi=>.int (-i)):=unI λ_ _ _ _ _ q=>neg_int q
end
noncomputable def ZkE:V->V->Bool
 |.non,.non=>true|.non,.int _=>true|.int _,.non=>true|.non,.bl _=>true|.bl _,.non=>true|.non,.str _=>true|.str _,.non=>true
 |.int _,.int _=>true|.bl _,.bl _=>true|.str _,.str _=>true|.byt _,.byt _=>true
 |.int _,.str _=>true|.str _,.int _=>true|.bl _,.str _=>true|.str _,.bl _=>true
 |_,_=>false
noncomputable def rEq:R2:=λx y H Q=>ZkE x y=true/\Q (.bl (decide (x=y))) H
noncomputable def rNe:R2:=λx y H Q=>ZkE x y=true/\Q (.bl (!decide (x=y))) H
theorem Zmt {i j:Int}:decide (V.int i=V.int j)=(i==j):=by
 rw[Bool.eq_iff_iff]
 simp
theorem ZoS {i j:Bool}:decide (V.bl i=V.bl j)=(i==j):=by
 rw[Bool.eq_iff_iff]
 simp
theorem Zmu {i j:Str}:decide (V.str i=V.str j)=(i==j):=by
 rw[Bool.eq_iff_iff]
 simp
theorem Zmv {i j:Array UInt8}:decide (V.byt i=V.byt j)=(i.toList==j.toList):=by
 rw[Bool.eq_iff_iff]
 cases i
 cases j
 simp
section
variable {X:Cx}{a b c:Expr}{ta tb tc:TE}{pos:Pos}
theorem ZD {pins:List (Addr×Obj)}{σ:St}{H:Hp}{s:Shared}{Q:VK}{k k':Bool} (I:Inv X pins σ H s) (q:Q (.bl k) H) (e:k=k'):EP X pins σ Q (.bool k') s:=by
 subst e
 exact⟨.bl k,H,I,rfl,q⟩
theorem ZaE:OpR X (compareOp .Eq) rEq:=by
 intro pins s σ H x y v u Q I rx ry h
 obtain⟨hs,q⟩:=h
 cases x with
 |non =>
  cases rx
  cases y with
  |non=>cases ry;exact PySem.EqNone.eq_none_none (ZD I q (by simp))
  |bl j=>cases ry;exact PySem.EqNone.eq_none_bool (ZD I q (by simp))
  |int j=>obtain⟨t',rfl⟩:=ry;exact PySem.EqNone.eq_none_int (ZD I q (by simp))
  |str j=>obtain⟨t',rfl⟩:=ry;exact PySem.EqNone.eq_none_str (ZD I q (by simp))
  |_=>exact absurd (show false=true from hs) Yv
 |bl i =>
  cases rx
  cases y with
  |non=>cases ry;exact PySem.EqNone.eq_bool_none (ZD I q (by simp))
  |bl j=>cases ry;exact eq_bool (ZD I q ZoS)
  |str j=>obtain⟨t',rfl⟩:=ry;exact PySem.EqMixed.eq_bool_str (ZD I q (by simp))
  |_=>exact absurd (show false=true from hs) Yv
 |int i =>
  obtain⟨t,rfl⟩:=rx
  cases y with
  |non=>cases ry;exact PySem.EqNone.eq_int_none (ZD I q (by simp))
  |int j=>obtain⟨t',rfl⟩:=ry;exact eq_int (ZD I q Zmt)
  |str j=>obtain⟨t',rfl⟩:=ry;exact PySem.EqMixed.eq_int_str (ZD I q (by simp))
  |_=>exact absurd (show false=true from hs) Yv
 |str i =>
  obtain⟨t,rfl⟩:=rx
  cases y with
  |non=>cases ry;exact PySem.EqNone.eq_str_none (ZD I q (by simp))
  |bl j=>cases ry;exact PySem.EqMixed.eq_str_bool (ZD I q (by simp))
  |int j=>obtain⟨t',rfl⟩:=ry;exact PySem.EqMixed.eq_str_int (ZD I q (by simp))
  |str j=>obtain⟨t',rfl⟩:=ry;exact eq_str (ZD I q Zmu)
  |_=>exact absurd (show false=true from hs) Yv
 |byt i =>
  obtain⟨t,rfl⟩:=rx
  cases y with
  |byt j=>obtain⟨t',rfl⟩:=ry;exact PySem.W.eq_bytes (ZD I q Zmv)
  |_=>exact absurd (show false=true from hs) Yv
 |_=>cases y<;>exact absurd (show false=true from hs) Yv
theorem op_ne:OpR X (compareOp .NotEq) rNe:=by
 intro pins s σ H x y v u Q I rx ry h
 obtain⟨hs,q⟩:=h
 cases x with
 |non =>
  cases rx
  cases y with
  |non=>cases ry;exact PySem.EqNone.ne_none_none (ZD I q (by simp))
  |bl j=>cases ry;exact PySem.EqNone.ne_none_bool (ZD I q (by simp))
  |int j=>obtain⟨t',rfl⟩:=ry;exact PySem.EqNone.ne_none_int (ZD I q (by simp))
  |str j=>obtain⟨t',rfl⟩:=ry;exact PySem.EqNone.ne_none_str (ZD I q (by simp))
  |_=>exact absurd (show false=true from hs) Yv
 |bl i =>
  cases rx
  cases y with
  |non=>cases ry;exact PySem.EqNone.ne_bool_none (ZD I q (by simp))
  |bl j=>cases ry;exact ne_bool (ZD I q (congrArg not ZoS))
  |str j=>obtain⟨t',rfl⟩:=ry;exact PySem.EqMixed.ne_bool_str (ZD I q (by simp))
  |_=>exact absurd (show false=true from hs) Yv
 |int i =>
  obtain⟨t,rfl⟩:=rx
  cases y with
  |non=>cases ry;exact PySem.EqNone.ne_int_none (ZD I q (by simp))
  |int j=>obtain⟨t',rfl⟩:=ry;exact ne_int (ZD I q (congrArg not Zmt))
  |str j=>obtain⟨t',rfl⟩:=ry;exact PySem.EqMixed.ne_int_str (ZD I q (by simp))
  |_=>exact absurd (show false=true from hs) Yv
 |str i =>
  obtain⟨t,rfl⟩:=rx
  cases y with
  |non=>cases ry;exact PySem.EqNone.ne_str_none (ZD I q (by simp))
  |bl j=>cases ry;exact PySem.EqMixed.ne_str_bool (ZD I q (by simp))
  |int j=>obtain⟨t',rfl⟩:=ry;exact PySem.EqMixed.ne_str_int (ZD I q (by simp))
  |str j=>obtain⟨t',rfl⟩:=ry;exact ne_str (ZD I q (congrArg not Zmu))
  |_=>exact absurd (show false=true from hs) Yv
 |byt i =>
  obtain⟨t,rfl⟩:=rx
  cases y with
  |byt j=>obtain⟨t',rfl⟩:=ry;exact PySem.W.ne_bytes (ZD I q (congrArg not Zmv))
  |_=>exact absurd (show false=true from hs) Yv
 |_=>cases y<;>exact absurd (show false=true from hs) Yv
theorem Zep:OpR X (compareOp .Lt) (rI0 λi j=>.bl (decide (i<j))):=opB0 λ_ _ _ _ _ _ _ q=>lt_int q
theorem Zf3:OpR X (compareOp .LtE) (rI0 λi j=>.bl (decide (i<=j))):=opB0 λ_ _ _ _ _ _ _ q=>le_int q
theorem ZeD:OpR X (compareOp .Gt) (rI0 λi j=>.bl (decide (j<i))):=opB0 λ_ _ _ _ _ _ _ q=>gt_int q
theorem op_ge:OpR X (compareOp .GtE) (rI0 λi j=>.bl (decide (j<=i))):=opB0 λ_ _ _ _ _ _ _ q=>ge_int q
theorem op_isN:OpR X (compareOp .Is) (λx y H Q=>y=.non/\Q (.bl (decide (x=.non))) H):=by
 intro pins s σ H x y v u Q I rx ry h
 obtain⟨rfl,q⟩:=h
 cases ry
 refine is_none_gen (ZD I q ?_)
 cases x<;>first
  |(cases rx;rfl)
  |(obtain⟨t,rfl⟩:=rx;rfl)
theorem Zp (b:Expr) {op:CmpOp} (h:op≠.In:=by decide) (h2:op≠.NotIn:=by decide):behindInMarks op b=false:=by
 have e1:(op==CmpOp.In)=false:=by cases op<;>first|rfl|exact absurd rfl h
 have e2:(op==CmpOp.NotIn)=false:=by cases op<;>first|rfl|exact absurd rfl h2
 cases b<;>simp[behindInMarks,e1,e2]
theorem Zbt {op:CmpOp}{r:R2} (ho:OpR X (compareOp op) r) (ha:PE X a ta) (hb:PE X b tb) (hm:behindInMarks op b=false):PE X (.Compare a [op] [b] pos) (tOp r ta tb):=by
 intro pins s σ H Q I h
 exact wpAny_Compare1 (binT ha hb I h λv u s2 x y H2 I2 rx ry q=>ho pins s2 σ H2 x y v u Q I2 rx ry q) hm
noncomputable def Zmw (t:TE):TT:=fun σ H Q=>t σ H λx H'=>∃k,x=.bl k/\Q k H'
theorem Zn {op:CmpOp}{r:R2} (ho:OpR X (compareOp op) r) (ha:PE X a ta) (hb:PE X b tb) (hm:behindInMarks op b=false):PT X (.Compare a [op] [b] pos) (Zmw (tOp r ta tb)):=by
 intro pins s σ H Q I h
 refine wpAny_isTrue_Compare1 (thn (ha pins s σ H _ I h) λv s1 ⟨x,H1,I1,r1,q1⟩=>thn (hb pins s1 σ H1 _ I1 q1) λu s2 ⟨y,H2,I2,r2,q2⟩ =>
  thn (ho pins s2 σ H2 x y v u _ I2 r1 r2 q2) λc s3 ⟨z,H3,I3,r3,k,e,q3⟩=>?_) hm
 subst e
 cases r3
 exact wpAny_truthy_bool ⟨H3,I3,q3⟩
noncomputable def ZjJ (r r':R2) (ta tb tc:TE):TE:=fun σ H Q=>ta σ H λx H1=>tb σ H1 λy H2=>r x y H2 λz H3=>∃k,z=.bl k /\
 (if k=true then tc σ H3 λw' H4=>r' y w' H4 Q else Q (.bl false) H3)
theorem ZkF {op op':CmpOp}{r r':R2} (ho:OpR X (compareOp op) r) (ho':OpR X (compareOp op') r') (ha:PE X a ta) (hb:PE X b tb) (hc:PE X c tc)
  (hm:lastMarks [op,op'] [b,c]=false:=by with_unfolding_all rfl):PE X (.Compare a [op,op'] [b,c] pos) (ZjJ r r' ta tb tc):=by
 intro pins s σ H Q I h
 refine Compare_chain (thn (ha pins s σ H _ I h) λv s1 ⟨x,H1,I1,r1,q1⟩=>chain_link (thn (hb pins s1 σ H1 _ I1 q1) λu s2 ⟨y,H2,I2,r2,q2⟩ =>
  thn (ho pins s2 σ H2 x y v u _ I2 r1 r2 q2) λd s3 ⟨z,H3,I3,r3,k,e,q3⟩=>?_)) hm
 subst e
 cases r3
 refine wpAny_truthy_bool ?_
 cases k with
 |false=>exact ite_ff ⟨.bl false,H3,I3,rfl,q3⟩
 |true=>exact ite_tt (chain_last (thn (hc pins s3 σ H3 _ I3 q3) λw' s4 ⟨z',H4,I4,r4,q4⟩=>ho' pins s4 σ H4 y z' u w' Q I4 r2 r4 q4))
theorem ZkG {op op':CmpOp}{r r':R2} (ho:OpR X (compareOp op) r) (ho':OpR X (compareOp op') r') (ha:PE X a ta) (hb:PE X b tb) (hc:PE X c tc)
  (hm:lastMarks [op,op'] [b,c]=false:=by with_unfolding_all rfl):PT X (.Compare a [op,op'] [b,c] pos) (Zmw (ZjJ r r' ta tb tc)):=by
 intro pins s σ H Q I h
 refine isTrue_chain (thn (ha pins s σ H _ I h) λv s1 ⟨x,H1,I1,r1,q1⟩=>test_link (thn (hb pins s1 σ H1 _ I1 q1) λu s2 ⟨y,H2,I2,r2,q2⟩ =>
  thn (ho pins s2 σ H2 x y v u _ I2 r1 r2 q2) λd s3 ⟨z,H3,I3,r3,k,e,q3⟩=>?_)) hm
 subst e
 cases r3
 refine wpAny_truthy_bool ?_
 cases k with
 |false =>
  obtain⟨k',e',q'⟩:=q3
  cases e'
  exact ite_ff ⟨H3,I3,q'⟩
 |true =>
  refine ite_tt (test_last (thn (hc pins s3 σ H3 _ I3 q3) λw' s4 ⟨z',H4,I4,r4,q4⟩=>thn (ho' pins s4 σ H4 y z' u w' _ I4 r2 r4 q4) λd' s5 ⟨z2,H5,I5,r5,k2,e2,q5⟩=>?_))
  subst e2
  cases r5
  exact wpAny_truthy_bool ⟨H5,I5,q5⟩
theorem Zfy:(sizeLine:Nat)<2 ^ 63:=by rw[sizeLine_eq];decide
theorem Zah:OpR X (binaryOp .Add) (λx y H Q=>∃i j,x=.str i/\y=.str j/\i.length+j.length<=sizeLine/\Q (.str (i++j)) H):=by
 intro pins s σ H x y v u Q I rx ry h
 obtain⟨i,j,rfl,rfl,hz,q⟩:=h
 obtain⟨t,rfl⟩:=rx
 obtain⟨t',rfl⟩:=ry
 exact add_str (λt' tk=>⟨.str (i++j),H,I.tok _,⟨_,rfl⟩,q⟩) hz
theorem vals1 {x:V}{us:List Value} (r:Vals [x] us):∃u,us=[u]/\RelV x u:=by
 cases r with
 |cons r1 r2=>cases r2;exact⟨_,rfl,r1⟩
theorem vals2 {x y:V}{us:List Value} (r:Vals [x,y] us):∃u w',us=[u,w']/\RelV x u/\RelV y w':=by
 cases r with
 |cons r1 r2 =>
  cases r2 with
  |cons r3 r4=>cases r4;exact⟨_,_,rfl,r1,r3⟩
theorem Zjb (hc:X.calm=true):Zbs X (.builtin "max") (λxs H Q=>∃i j,xs=[.int i,.int j]/\Q (.int (if j>i then j else i)) H):=by
 intro pins s σ H xs us Q I r h
 obtain⟨i,j,rfl,q⟩:=h
 obtain⟨u,w',rfl,⟨t,rfl⟩,⟨t',rfl⟩⟩:=vals2 r
 refine max_two_ints (I.ok.hd hc) λh' tk k=>⟨_,H,I.kept k,?_,q⟩
 by_cases hj:j>i
 ·rw[Yc hj,Yc hj];exact⟨_,rfl⟩
 ·rw[Yb hj,Yb hj];exact⟨_,rfl⟩
theorem Zns (hc:X.calm=true):Zbs X (.builtin "min") (λxs H Q=>∃i j,xs=[.int i,.int j]/\Q (.int (if j<i then j else i)) H):=by
 intro pins s σ H xs us Q I r h
 obtain⟨i,j,rfl,q⟩:=h
 obtain⟨u,w',rfl,⟨t,rfl⟩,⟨t',rfl⟩⟩:=vals2 r
 refine min_two_ints (I.ok.hd hc) λh' tk k=>⟨_,H,I.kept k,?_,q⟩
 by_cases hj:j<i
 ·rw[Yc hj,Yc hj];exact⟨_,rfl⟩
 ·rw[Yb hj,Yb hj];exact⟨_,rfl⟩
theorem Znt:Zbs X (.type "int") (λxs H Q=>(∃i,xs=[.int i]/\Q (.int i) H)\/∃k,xs=[.bl k]/\Q (.int (if k then 1 else 0)) H):=by
 intro pins s σ H xs us Q I r h
 rcases h with⟨i,rfl,q⟩|⟨k,rfl,q⟩
 ·obtain⟨u,rfl,t,rfl⟩:=vals1 r
  exact call_int_int ⟨.int i,H,I,⟨_,rfl⟩,q⟩
 ·obtain⟨u,rfl,r1⟩:=vals1 r
  cases r1
  exact call_int_bool ⟨.int (if k then 1 else 0),H,I.tok _,⟨_,rfl⟩,q⟩
end
structure ObjM (h:Heap) (x dx C:Addr) (mA:Str->Option Value):Prop where
 obj:h.get? x=some (PySem.W.instObj C dx)
 ns:h.Ns1 dx mA
 ne:dx≠x
theorem Znu {h:Heap}{dx:Addr}{mA:Str->Option Value} (n:h.Ns1 dx mA):∃od,h.get? dx=some od/\∀name,PySem.W.lookIn name od=some (mA name):=by
 obtain⟨o,es,ep,ho,hd,hk,_,hm⟩:=n
 refine⟨o,ho,λname=>?_⟩
 have e:=hm name
 unfold nsFind findBy at e
 rw[<-Array.find?_toList]at e
 unfold PySem.W.lookIn
 rw[hd]
 dsimp only
 split
 ·rename_i y q
  rw[q]at e
  exact congrArg some e
 ·rename_i q
  rw[q]at e
  have a:es.toList.any (·.refKey)=false:=by
   rw[List.any_eq_false]
   intro y hy
   obtain⟨z,t,hkey⟩:=hk y (Array.mem_toList_iff.mp hy)
   simp[DictEntry.refKey,hkey]
  have a':¬ es.toList.any (·.refKey)=true:=by rw[a];exact Yv
  rw[Yb a']
  exact congrArg some e
theorem ObjM.look {h:Heap}{x dx C:Addr}{mA:Str->Option Value} (I:ObjM h x dx C mA):∃od,PySem.W.InstAt h x (PySem.W.instObj C dx) C (some od)/\∀name,PySem.W.lookIn name od=some (mA name) :=
 let ⟨od,ho,hl⟩:=Znu I.ns
 ⟨od,⟨I.obj,rfl,rfl,ho⟩,hl⟩
noncomputable def putF (f:Str) (v:V):List (Str×V)->List (Str×V)
 |[]=>[(f,v)]
 |(g,x)::r=>if g=f then (g,v)::r else (g,x)::putF f v r
section
variable {P:Program}{w:World}{H H':Hp}{h h':Heap}{a C dx:Addr}{fs fs':List (Str×V)}
theorem ZqO (hok:HOk P w H h) (e:H a=some (.ins C dx fs)):∃mA,ObjM h a dx C mA/\(∀f,RelO (fs.lookup f) (mA f))/\PySem.Within mA (fs.map (·.1))/\fs.length<=1000/\H dx=some (.own a):=by
 obtain⟨d,z,ne,ob,mA,n,r,q⟩:=(show ZaD P w H h a (.ins C dx fs)from hok a _ e)
 exact⟨mA,⟨ob,n,ne⟩,r,q,z,d⟩
end
structure Cls (K:PySem.W.Frag) (C:Addr):Prop where
 pg:PySem.W.plainGet K C Str.empty=true
 hd:PySem.W.hasDictIn K C=true
 po:PySem.W.plainOver K C=true
 sa:PySem.W.findIn K (.ref C) "__setattr__"=some (some (.builtin "object.__setattr__"))
theorem Cls.get {K:PySem.W.Frag}{C:Addr} (c:Cls K C) (f:Str):PySem.W.plainGet K C f=true:=c.pg
section
variable {X:Cx}{pins:List (Addr×Obj)}{σ:St}{H:Hp}{s:Shared}{A:Around}{E:Value->Shared->Prop}{Q:Value->Shared->Prop}{c:Value}{b:Bool}
inductive TyOf (K:PySem.W.Frag) (H:Hp):V->Value->Prop where
 |non:TyOf K H .non (.type "NoneType")
 |bl (x:Bool):TyOf K H (.bl x) (.type "bool")
 |int (i:Int):TyOf K H (.int i) (.type "int")
 |str (x:Str):TyOf K H (.str x) (.type "str")
 |flt (x:UInt64):TyOf K H (.flt x) (.type "float")
 |lst {a:Addr}{xs:List V} (e:H a=some (.lst xs)):TyOf K H (.ref a) (.type "list")
 |frz {a:Addr}{o:Obj}{xs:List V} (e:H a=some (.frz o (.lst xs))):TyOf K H (.ref a) (.type "list")
 |tup {a:Addr}{xs:List V} (e:H a=some (.tup xs)):TyOf K H (.ref a) (.type "tuple")
 |dK {a:Addr}{kvs:List (Key×V)} (e:H a=some (.dK kvs)):TyOf K H (.ref a) (.type "dict")
 |dT {a:Addr}{kvs:List (List Key×V)} (e:H a=some (.dT kvs)):TyOf K H (.ref a) (.type "dict")
 |ins {a C dx:Addr}{fs:List (Str×V)} (e:H a=some (.ins C dx fs)) (cl:Cls K C) (ha:PySem.W.findIn K (.ref C) "__class__"=some (some (.builtin "object.__class__")))
   (hn:PySem.W.specialIn K (.builtin "object.__class__") "__get__"=some (some (.builtin "getset_descriptor.__get__"))) (htk:PySem.W.takesIn K (.builtin "object.__class__")=some true)
   (hm:PySem.W.mroIn K C (.type "object")=some true):TyOf K H (.ref a) (.ref C)
theorem Znv {x:V}{u t:Value} (I:Inv X pins σ H s) (rx:RelV x u) (ty:TyOf X.K H x t) (e:PySem.W.kitOne X.K t c=some b) (h:∀tk,Q (.bool b) {s with toks:=tk}) :
  wpAny (model X.prog X.w) A (call (.builtin "isinstance") [u,c]) Q E s:=by
 cases ty with
 |non=>cases(show u=Value.none from rx);exact PySem.W.kia_one PySem.W.kitx_none I.kIn True.intro e (λz=>nomatch z) h
 |bl y=>cases(show u=Value.bool y from rx);exact PySem.W.kia_one PySem.W.kitx_bool I.kIn True.intro e (λz=>nomatch z) h
 |int i=>obtain⟨t,q⟩:=(show ∃t,u=Value.int i t from rx);cases q;exact PySem.W.kia_one PySem.W.kitx_int I.kIn True.intro e (λz=>nomatch z) h
 |str y=>obtain⟨t,q⟩:=(show ∃t,u=Value.str y t from rx);cases q;exact PySem.W.kia_one PySem.W.kitx_str I.kIn True.intro e (λz=>nomatch z) h
 |flt y=>obtain⟨t,q⟩:=(show ∃t,u=Value.float y t from rx);cases q;exact PySem.W.kia_one PySem.W.kitx_float I.kIn True.intro e (λz=>nomatch z) h
 |@lst a xs ea =>
  cases(show u=Value.ref a from rx)
  obtain⟨_,_,n,_,h1⟩:=(show ZaD X.prog X.w H s.heap a (.lst xs)from I.hok a _ ea)
  exact PySem.W.kia_one PySem.W.kitx_list I.kIn ⟨_,h1,rfl⟩ e (λz=>nomatch z) h
 |@frz a ob xs ea =>
  cases(show u=Value.ref a from rx)
  obtain⟨_,_,_,n,_,h1⟩:=(show ZaD X.prog X.w H s.heap a (.frz ob (.lst xs))from I.hok a _ ea)
  exact PySem.W.kia_one PySem.W.kitx_list I.kIn ⟨_,h1,rfl⟩ e (λz=>nomatch z) h
 |@tup a xs ea =>
  cases(show u=Value.ref a from rx)
  obtain⟨_,_,_,p⟩:=(show ZaD X.prog X.w H s.heap a (.tup xs)from I.hok a _ ea)
  obtain⟨o,h1,h2,_⟩:=p
  exact PySem.W.kia_one PySem.W.kitx_tuple I.kIn ⟨o,h1,h2⟩ e (λz=>nomatch z) h
 |@dK a kvs ea =>
  cases(show u=Value.ref a from rx)
  obtain⟨_,_,vs,_,p⟩:=(show ZaD X.prog X.w H s.heap a (.dK kvs)from I.hok a _ ea)
  obtain⟨o,es,ep,h1,h2,_⟩:=p
  exact PySem.W.kia_one PySem.W.kitx_dict I.kIn ⟨o,h1,h2.1⟩ e (λz=>nomatch z) h
 |@dT a kvs ea =>
  cases(show u=Value.ref a from rx)
  obtain⟨_,_,xs,_,o,es,ep,h1,h2,_⟩:=(show ZaD X.prog X.w H s.heap a (.dT kvs)from I.hok a _ ea)
  exact PySem.W.kia_one PySem.W.kitx_dict I.kIn ⟨o,h1,h2.1⟩ e (λz=>nomatch z) h
 |@ins a C dx fs ea cl ha hn htk hm =>
  cases(show u=Value.ref a from rx)
  obtain⟨mA,O,_⟩:=ZqO I.hok ea
  obtain⟨od,J,_⟩:=O.look
  exact PySem.W.kia_one (PySem.W.kitx_own (cl.get _) cl.hd ha hn htk hm) I.kIn J e (λz=>nomatch z) h
end
structure Room (k:Nat) (A:Around):Prop where
 hd:A.handled=none
 dp:A.depth+3*k+5<recursionLimit
 un:A.units+16*k+200<cLine
theorem Room.mono {j k:Nat}{A:Around} (r:Room k A) (h:j<=k):Room j A:=⟨r.hd,by have:=r.dp;omega,by have:=r.un;omega⟩
theorem Room.deeper {k:Nat}{A:Around} (r:Room (k+1) A) (env:Env):Room k (A.deeper env) :=
 ⟨r.hd,by have:=r.dp;show A.depth+1+3*k+5 < _;omega,by have:=r.un;show A.units+3+16*k+200 < _;omega⟩
theorem Room.depth {k:Nat}{A:Around} (r:Room k A):A.depth<recursionLimit:=by have:=r.dp;omega
noncomputable def tNil:TA:=λ_ H Q=>Q [] H
noncomputable def Zmx (ta:TE) (tr:TA):TA:=fun σ H Q=>ta σ H λx H1=>tr σ H1 λxs H2=>Q (x::xs) H2
section
variable {X:Cx}{e:Expr}{es:List Expr}{te:TE}{t:TA}{pos:Pos}
theorem Zb:PA X [] tNil:=λ_ _ _ _ H Q I h=>Calls.spliced_nil ⟨[],H,I,.nil,h⟩
theorem Za (ha:PE X e te) (hr:PA X es t) (hs:starEach (e::es) X.env=(false,eval e X.env)::starEach es X.env:=by rfl):PA X (e::es) (Zmx te t):=by
 intro pos pins s σ H Q I h
 rw[hs]
 show wpAny _ _ (spliced ((false,eval e X.env)::backTo pos (starEach es X.env))) _ _ s
 refine Calls.spliced_cons (thn (ha pins s σ H _ I h) λu s1 ⟨x,H1,I1,r1,q1⟩=>?_)
 exact thn (hr pos pins s1 σ H1 _ I1 q1) λus s2 ⟨xs,H2,I2,r2,q2⟩=>⟨x::xs,H2,I2,.cons r1 r2,q2⟩
noncomputable def tTup (t:TA):TE:=fun σ H Q=>t σ H λxs H1=>xs.length<=sizeLine/\∀p,H1 p=none->Q (.ref p) (upd H1 p (.tup xs))
noncomputable def tLst (t:TA):TE:=fun σ H Q=>t σ H λxs H1=>xs.length<=sizeLine/\∀p,H1 p=none->Q (.ref p) (upd H1 p (.lst xs))
theorem ZhW {x1} (h:PA X es t):PE X (.Tuple es x1 pos) (tTup t):=by
 intro pins s σ H Q I hq
 refine wpAny_Tuple_spliced (thn (h pos pins s σ H _ I hq) λus s1 ⟨xs,H1,I1,r,z,q⟩=>⟨by rw[<-r.length];exact z,?_⟩)
 have hf:H1 s1.heap.objs.size=none:=I1.hok.fresh (Yd _)
 refine⟨.ref s1.heap.objs.size,upd H1 s1.heap.objs.size (.tup xs),I1.laid (t':=s1.toks) (λb u e=>Ym _ e) (Yd _) ?_,rfl,q _ hf⟩
 exact⟨z,us,r,⟨_,Yw _ rfl,rfl,_,rfl⟩⟩
theorem ZJ (h:PA X es t):PE X (.List es pos) (tLst t):=by
 intro pins s σ H Q I hq
 refine wpAny_List_spliced (thn (h pos pins s σ H _ I hq) λus s1 ⟨xs,H1,I1,r,z,q⟩=>⟨by rw[<-r.length];exact z,?_⟩)
 have hf:H1 s1.heap.objs.size=none:=I1.hok.fresh (Yd _)
 refine⟨.ref s1.heap.objs.size,upd H1 s1.heap.objs.size (.lst xs),I1.laid (t':=s1.toks) (λb u e=>Ym _ e) (Yd _) ?_,rfl,q _ hf⟩
 exact⟨z,us,0,r,Yw _ rfl⟩
end
noncomputable abbrev Sp:=List V->Hp->VK->XK->Prop
noncomputable abbrev CXT:=List Env->Hp->Shared->XK->Value->Shared->Prop
structure Env0 (P:Program) (w:World) (K:PySem.W.Frag) (mg:Str->Option Value) (base:Heap) (A:Around) (outer:List Env) (s:Shared) (H:Hp):Prop where
 frames:A.frames=some outer
 mod:Mod K mg base
 bs:∀b o,base.get? b=some o->s.heap.get? b=some o/\H b=none
 bsz:base.objs.size<=s.heap.objs.size
 funs:s.heap.FunFrames base outer
 frf:∀b∈frs outer,H b=none
 hok:HOk P w H s.heap
 bare:AllBare s.gens
noncomputable def CE (outer:List Env) (P:Program) (w:World) (H:Hp) (s:Shared) (Q:VK) (u:Value) (s':Shared):Prop :=
 ∃v H',s'.os=s.os/\AllBare s'.gens/\Un (frs outer) [] H H' s.heap s'.heap/\HOk P w H' s'.heap/\RelV v u/\Q v H'
noncomputable def CR (CX:CXT) (outer:List Env) (P:Program) (w:World) (H:Hp) (s:Shared) (Q:VK) (E:XK) (r:Result) (s':Shared):Prop :=
 match r with
 |.ok (.ret u)=>CE outer P w H s Q u s'
 |.ok _=>False
 |.error e=>CX outer H s E e s'
structure FnOk (P:Program) (w:World) (K:PySem.W.Frag) (mg:Str->Option Value) (base:Heap) (CX:CXT) (k:Nat) (f:Addr) (fd:FuncData) (ps:List Str) (sp:Sp):Prop where
 len:∀vs H Q E,sp vs H Q E->vs.length=ps.length
 run:∀(A:Around) (outer:List Env) (s:Shared) (H:Hp) (args:Args) (us:List Value) (vs:List V) (Q:VK) (E:XK),Room k A->Env0 P w K mg base A outer s H->BindsTo s fd args (ps.zip us)->Vals vs us->sp vs H Q E ->
  codeAny (model P w) A (.call (.ref f) args) (CR CX outer P w H s Q E) s
section
variable {X:Cx}{pins:List (Addr×Obj)}{σ:St}{H:Hp}{s s':Shared}
theorem Inv.env0 (I:Inv X pins σ H s):Env0 X.prog X.w X.K X.mg X.base X.A X.stack s H :=
 ⟨I.ok.frames,I.ok.mod,I.bs,Yg I.ok.bsz I.sz,I.stack,I.ZjH,I.hok,I.bare⟩
theorem Inv.after {Q:VK}{u:Value} (I:Inv X pins σ H s) (h:CE X.stack X.prog X.w H s Q u s'):EP X pins σ Q u s':=by
 obtain⟨v,H',os,bare,un,hok,r,q⟩:=h
 obtain⟨hh,g,d,t,os'⟩:=s'
 obtain rfl:os'=s.os:=os
 exact⟨v,H',I.call (h':=hh) (g':=g) (d':=d) (t':=t) (ch:=[]) un hok bare (λb z=>absurd z (by simp)),r,q⟩
end
noncomputable def Zmy (sp:Sp) (dvs:List V) (E:XK) (t:TA):TE:=fun σ H Q=>t σ H λvs H1=>sp (vs++dvs) H1 Q E
noncomputable def Binds (K:PySem.W.Frag) (fd:FuncData) (ps:List Str) (ds:List Value):Prop :=
 ∀(s:Shared) (us:List Value),K.In s.heap->(us++ds).length=ps.length->BindsTo s fd ⟨us,[]⟩ (ps.zip (us++ds))
theorem Binds.all {K:PySem.W.Frag}{fd:FuncData}{ps:List Str} (h:∀us:List Value,us.length=ps.length->bindArgs fd ⟨us,[]⟩=pure (ps.zip us)):Binds K fd ps []:=λs us _ hl=>by
 rw[List.append_nil]at hl⊢
 exact .of_eq (h us hl)
noncomputable def Passes (CX:CXT) (X:Cx) (E:XK):Prop:=∀(pins:List (Addr×Obj)) (σ:St) (H:Hp) (s:Shared) (e:Value) (s':Shared),Inv X pins σ H s->CX X.stack H s E e s'->X.xe e s'
section
variable {X:Cx}{CX:CXT}{k:Nat}{f C:Addr}{fd:FuncData}{ps:List Str}{sp:Sp}{dvs:List V}{ds:List Value}{E:XK}{x m:Str}{p pos apos:Pos}{e o:Expr}{es:List Expr}{ta:TE}{t:TA}
theorem ZoT {pins:List (Addr×Obj)}{σ:St}{H:Hp}{s:Shared}{Q:VK}{us:List Value}{vs:List V} (F:FnOk X.prog X.w X.K X.mg X.base CX k f fd ps sp) (hr:Room k X.A) (hb:Binds X.K fd ps ds) (hd:Vals dvs ds) (hx:Passes CX X E)
  (I:Inv X pins σ H s) (r:Vals vs us) (h:sp (vs++dvs) H Q E):wpAny (model X.prog X.w) X.A (call (.ref f) us) (EP X pins σ Q) X.xe s:=by
 have r2:Vals (vs++dvs) (us++ds):=r.append hd
 have hl:(us++ds).length=ps.length:=by rw[<-r2.length];exact F.len _ _ _ _ h
 refine wpAny_call (codeAny_mono (F.run X.A X.stack s H ⟨us,[]⟩ (us++ds) (vs++dvs) Q E hr I.env0 (hb s us I.kIn hl) r2 h) λr s' hq=>?_)
 cases r with
 |error e=>exact hx pins σ H s e s' I hq
 |ok fl =>
  cases fl with
  |ret u=>exact I.after hq
  |next=>exact False.elim hq
  |brk=>exact False.elim hq
  |cont=>exact False.elim hq
theorem ZqP (F:FnOk X.prog X.w X.K X.mg X.base CX k f fd ps sp) (hr:Room k X.A) (hg:Gl X x) (hm:X.mg x=some (.ref f)) (hk:PySem.W.keepIn X.K (.ref f)=true) (hb:Binds X.K fd ps ds) (hd:Vals dvs ds) (hx:Passes CX X E)
  (ha:PA X (e::es) t) (hdb:(x==("__debug__":Str))=false:=by decide) (he:starEach (e::es) X.env=(false,eval e X.env)::starEach es X.env:=by rfl) (hpl:(backTo pos (starEach es X.env)).any (·.1)=false:=by rfl) :
  PE X (.Call (.Name x p) (e::es) [] pos) (Zmy sp dvs E t):=by
 intro pins s σ H Q I h
 refine wpAny_Call_Name_kw (Zf1 I hg hm ?_ hdb)
 refine PySem.W.callWith_K (h₀:=X.base) I.ok.mod.kin hk (thn (ha pos pins s σ H _ I h) λus s1 ⟨vs,H1,I1,r,q⟩=>⟨I1.kIn,?_⟩) he hpl
 exact ZoT F hr hb hd hx I1 r q
end
noncomputable def PK (X:Cx) (kws:List Keyword) (t:TA):Prop :=
 ∀(pos:Pos) (pins:List (Addr×Obj)) (s:Shared) (σ:St) (H:Hp) (Q:List V->Hp->Prop),Inv X pins σ H s->t σ H Q->wpAny (model X.prog X.w) X.A (evalAll ((backToKw pos (keywordEach kws X.env)).map (·.2))) (AP X pins σ Q) X.xe s
section
variable {X:Cx}{CX:CXT}{k:Nat}{f C:Addr}{fd:FuncData}{ps ks:List Str}{sp:Sp}{E:XK}{x m:Str}{p pos apos kpos:Pos}{e o:Expr}{es:List Expr}{kws:List Keyword}{te ta:TE}{t tk:TA}{nm:Option Str}
theorem ZoU:PK X [] tNil:=λ_ _ _ _ H Q I h=>wpAny_evalAll_nil ⟨[],H,I,.nil,h⟩
theorem Zmz (ha:PE X e te) (hr:PK X kws t):PK X (⟨nm,e,kpos⟩::kws) (Zmx te t):=by
 intro pos pins s σ H Q I h
 show wpAny _ _ (evalAll ((do let v <-eval e X.env;standAt pos;pure v)::(backToKw pos (keywordEach kws X.env)).map (·.2))) _ _ s
 refine wpAny_evalAll_cons (Ya (thn (ha pins s σ H _ I h) λu s1 ⟨x,H1,I1,r1,q1⟩=>Ya (wpAny_standAt (Ye ?_))))
 exact thn (hr pos pins s1 σ H1 _ I1 q1) λus s2 ⟨xs,H2,I2,r2,q2⟩=>⟨x::xs,H2,I2,.cons r1 r2,q2⟩
variable {g:List Value->List Value->List Value}{gV:List V->List V->List V}
end
structure FnScope (N P:List Str) (sc:Scope):Prop where
 kind:sc.kind=.function
 co:sc.isCoroutine=false
 gen:sc.isGenerator=false
 nd:N.Nodup
 pre:N.take P.length=P
 par:∀x∈P,sc.names.lookup x=some .local\/sc.names.lookup x=some .cell
 nofree:∀y∈sc.names,y.2≠.free
theorem Zjc {kindOf:Str->Option NameKind}{x:Str}:∀{binds:List (Str×Value)}{m:Str->Option Value},(∀v,(x,v)∉binds)->bindL kindOf binds m x=m x
 |[],_,_=>rfl
 |(n,v)::r,m,h=>by
  unfold bindL
  rw[Zjc λw hw=>h w (YU _ hw)]
  split
  ·have:x≠n:=by rintro rfl;exact h v YW
   simp[this]
  ·rfl
theorem Zjd {kindOf:Str->Option NameKind}{x:Str}:∀{binds:List (Str×Value)}{m:Str->Option Value},(∀v,(x,v)∉binds)->bindC kindOf binds m x=m x
 |[],_,_=>rfl
 |(n,v)::r,m,h=>by
  unfold bindC
  rw[Zjd λw hw=>h w (YU _ hw)]
  split
  ·rfl
  ·have:x≠n:=by rintro rfl;exact h v YW
   simp[this]
theorem Zje {kindOf:Str->Option NameKind}{x:Str}{v:Value}:∀{P:List Str}{vs:List Value}{i:Nat}{m:Str->Option Value},P.Nodup->P[i]?=some x->vs[i]?=some v->kindOf x=some .local ->
  bindL kindOf (P.zip vs) m x=some v
 |[],_,_,_,_,h,_,_=>by simp at h
 |_::_,[],_,_,_,_,h,_=>by simp at h
 |p::P,w::vs,0,m,nd,h1,h2,hk=>by
  simp at h1 h2;subst h1;subst h2
  show bindL kindOf ((p,w)::P.zip vs) m p=_
  unfold bindL
  rw[Zjc λv hv=>(List.nodup_cons.mp nd).1 (List.of_mem_zip hv).1,Yc hk]
  simp
 |p::P,w::vs,i+1,m,nd,h1,h2,hk=>by
  show bindL kindOf ((p,w)::P.zip vs) m x=_
  unfold bindL
  exact Zje (i:=i) (List.nodup_cons.mp nd).2 (by simpa using h1) (by simpa using h2) hk
theorem Zjf {kindOf:Str->Option NameKind}{x:Str}{v:Value}:∀{P:List Str}{vs:List Value}{i:Nat}{m:Str->Option Value},P.Nodup->P[i]?=some x->vs[i]?=some v->kindOf x≠some .local ->
  bindC kindOf (P.zip vs) m x=some v
 |[],_,_,_,_,h,_,_=>by simp at h
 |_::_,[],_,_,_,_,h,_=>by simp at h
 |p::P,w::vs,0,m,nd,h1,h2,hk=>by
  simp at h1 h2;subst h1;subst h2
  show bindC kindOf ((p,w)::P.zip vs) m p=_
  unfold bindC
  rw[Zjd λv hv=>(List.nodup_cons.mp nd).1 (List.of_mem_zip hv).1,Yb hk]
  simp
 |p::P,w::vs,i+1,m,nd,h1,h2,hk=>by
  show bindC kindOf ((p,w)::P.zip vs) m x=_
  unfold bindC
  exact Zjf (i:=i) (List.nodup_cons.mp nd).2 (by simpa using h1) (by simpa using h2) hk
noncomputable def start (N:List Str) (vs:List V):St:=vs.map some++List.replicate (N.length-vs.length) none
noncomputable def ZhA (CX:CXT) (P:Program) (w:World) (K:PySem.W.Frag) (mg:Str->Option Value) (base:Heap) (N:List Str) (qual:Str) (scope:Scope) (f:Addr) (cd:Value) (A:Around) (outer:List Env) (s:Shared) (H:Hp) (E:XK):Cx where
 prog:=P
 w:=w
 K:=K
 mg:=mg
 base:=base
 A:=A.deeper (envOfC qual scope s.heap.objs.size f cd)
 N:=N
 s₀:=s
 H₀:=H
 env:=envOfC qual scope s.heap.objs.size f cd
 outer:=outer
 stack:=envOfC qual scope s.heap.objs.size f cd::outer
 ex:=[]
 calm:=true
 fn:=λ_=>true
 pn:=[]
 xe:=λe s'=>wpAny (model P w) (A.deeper (envOfC qual scope s.heap.objs.size f cd)) (leaving (envOfC qual scope s.heap.objs.size f cd) e) (λ_ s''=>CX outer H s E e s'') (λe' s''=>CX outer H s E e' s'') s'
theorem ZkH {sc:Scope}{n:Nat}{x:Str} (h:sc.names.lookup x=some .cell):∃c,(cellsFrom n sc.names []).lookup x=some c:=by
 have q:=PySem.W.cellsFrom_some sc.names n [] (.inl h)
 exact Option.isSome_iff_exists.mp q
theorem Znw {CX:CXT}{P:Program}{w:World}{K:PySem.W.Frag}{mg:Str->Option Value}{base:Heap}{N ps:List Str}{qual:Str}{scope:Scope}{f:Addr}{cd:Value}{A:Around}{outer:List Env}{s s1:Shared}{H:Hp}{E:XK}{us:List Value}{vs:List V}
  (S:FnScope N ps scope) (hd:A.handled=none) (e0:Env0 P w K mg base A outer s H) (hl:vs.length=ps.length) (r:Vals vs us)
  (x:InCallC s s.heap.objs.size (bindL (envOfC qual scope s.heap.objs.size f cd).kindOf (ps.zip us) λ_=>none) (cellsFrom (s.heap.objs.size+1) scope.names []) (bindC (envOfC qual scope s.heap.objs.size f cd).kindOf (ps.zip us) λ_=>none) s1) :
  Inv (ZhA CX P w K mg base N qual scope f cd A outer s H E) [] (start N vs) H s1:=by
 have hpl:ps.length<=N.length:=by have:=congrArg List.length S.pre;rw[YX]at this;omega
 obtain⟨h1,tk,rfl,hk⟩:=x.done
 have noA:∀b:Addr,b∉(ZhA CX P w K mg base N qual scope f cd A outer s H E).ex:=λb z=>absurd (show b∈([]:List Addr)from z) (by simp)
 refine⟨⟨e0.mod,S.kind,rfl,rfl,Yd _,λy z c h1 h2=>?_,λy hy=>?_,λy c _ h=>?_,λ_=>hd,Around.frames_deeper e0.frames,.inr ⟨rfl,rfl⟩,λb z=>absurd z (noA b),e0.bs,e0.bsz,λb _ _=>noA b,λb z=>absurd z (noA b),e0.funs,e0.frf⟩,
  rfl,e0.bare,Un.kept hk,⟨_,x.toInCall.ns,λi y v h1 h2 h3=>?_⟩,λy c h=>⟨_,x.cell y c h⟩,e0.hok.fresh (Yd _),λy c h=>?_,λp hp=>absurd (show p∈([]:List (Addr×Obj))from hp) (by simp),e0.hok.kept hk,?_⟩
 ·exact name_of_addr x.apart (PySem.mem_of_lookup h1) (PySem.mem_of_lookup h2)
 ·have hy:scope.names.lookup y=some .cell\/scope.names.lookup y=some .free:=hy
  rcases hy with hy|hy
  ·exact ZkH hy
  ·exact absurd rfl (S.nofree _ (PySem.mem_of_lookup hy))
 ·exact YT (x.above y c (PySem.mem_of_lookup h))
 ·have hi:i<vs.length:=by
   unfold start at h2
   by_cases hi:i<vs.length
   ·exact hi
   ·rw[Y0 (by simpa using hi)]at h2
    rw[List.getElem?_replicate]at h2
    split at h2<;>cases h2
  have ha:vs[i]?=some v:=by
   unfold start at h2
   rw[Y4 (by simpa using hi),YD]at h2
   cases e:vs[i]? with
   |none=>rw[e]at h2;cases h2
   |some a=>rw[e]at h2;cases h2;rfl
  obtain⟨u,hu,rv⟩:=r.get ha
  have hp:ps[i]?=some y:=by
   rw[<-S.pre,List.getElem?_take_of_lt (by omega)];exact h1
  have ndP:ps.Nodup:=by rw[<-S.pre];exact S.nd.sublist (List.take_sublist _ _)
  refine⟨u,rv,?_⟩
  rcases S.par y (List.mem_of_getElem? hp)with k|k
  ·exact .inl ⟨k,Zje ndP hp hu k⟩
  ·obtain⟨c,e⟩:=ZkH (n:=s.heap.objs.size+1) k
   refine .inr ⟨.inl k,c,e,?_⟩
   have q:=x.cell y c e
   rw[Zjf ndP hp hu (by show scope.names.lookup y≠_;rw[k];decide)]at q
   exact q
 ·exact e0.hok.fresh (YT (x.above y c (PySem.mem_of_lookup h)))
 ·unfold start
  show _=N.length
  rw[Yr,Yi,List.length_replicate]
  omega
theorem fn_of {CX:CXT}{P:Program}{w:World}{K:PySem.W.Frag}{mg:Str->Option Value}{base:Heap}{k:Nat}{f:Addr}{name qual:Str}{params:Arguments}{body:List Stmt}{scope:Scope}{dV kV doc pm cdv ct oc:Value}{an od:Option Addr}
  {osl:Array (Option Value)}{N ps:List Str}{sp:Sp} (lk:K.lookup f=some ⟨oc,od,.func (PySem.W.fnOf name qual params body scope dV kV doc pm an cdv ct),osl⟩) (hcd:PySem.W.codeIn K cdv qual=true) (S:FnScope N ps scope)
  (len:∀vs H Q E,sp vs H Q E->vs.length=ps.length)
  (hbody:∀(A:Around) (outer:List Env) (s:Shared) (H:Hp) (vs:List V) (Q:VK) (E:XK),Room k (A.deeper (envOfC qual scope s.heap.objs.size f cdv))->sp vs H Q E ->
   ∃t,PSs (ZhA CX P w K mg base N qual scope f cdv A outer s H E) body t/\t {nx:=λ_ H'=>Q .non H',rt:=Q} (start N vs) H) :
  FnOk P w K mg base CX (k+1) f (PySem.W.fnOf name qual params body scope dV kV doc pm an cdv ct) ps sp:=by
 refine⟨len,λA outer s H args us vs Q E hr e0 hb r hsp=>?_⟩
 have hl:=len _ _ _ _ hsp
 have KX:K.In s.heap:=e0.mod.kin.keeps λb o e=>(e0.bs b o e).1
 have lim:s.heap.NoLimit:=e0.mod.nolimit.keeps λb o e=>(e0.bs b o e).1
 have hkind:∀y∈ps.zip us,scope.names.lookup y.1=some .local\/(scope.names.lookup y.1=some .cell/\((cellsFrom (s.heap.objs.size+1) scope.names []).lookup y.1).isSome=true):=λ⟨n,v⟩ hy=>by
  rcases S.par n (List.of_mem_zip hy).1 with q|q
  ·exact .inl q
  ·exact .inr ⟨q,PySem.W.cellsFrom_some _ _ _ (.inl q)⟩
 refine codeAny_call_function hr.depth (KX _ _ lk) rfl S.co S.gen rfl (PySem.W.codeRec_of KX hcd) (hb _ _ _ _ ?_)
 refine wpAny_newFunctionEnv_cells S.kind hkind λenv he s1 x=>?_
 subst he
 refine⟨lim.keeps x.toInCall.keep,codeAny_func ?_⟩
 obtain⟨t,ht,hq⟩:=hbody A outer s H vs Q E (hr.deeper _) hsp
 have I:Inv (ZhA CX P w K mg base N qual scope f cdv A outer s H E) [] (start N vs) H s1:=Znw S hr.hd e0 hl r x
 refine YI (ht [] s1 (start N vs) H _ I hq) (λfl s' hs=>?_) λe s' hs=>hs
 have fin:∀{σ':St}{H':Hp}{v:V}{u:Value},Inv (ZhA CX P w K mg base N qual scope f cdv A outer s H E) [] σ' H' s'->RelV v u->Q v H'->CE outer P w H s Q u s' :=
  λ{σ' H' v u} J rv q=>⟨v,H',J.os,J.bare,J.base,J.hok,rv,q⟩
 cases fl with
 |ret u =>
  obtain⟨v,σ',H',J,rv,q⟩:=hs
  exact fin J rv q
 |next =>
  obtain⟨σ',H',J,q⟩:=hs
  exact fin (v:=V.non) (u:=Value.none) J rfl q
 |brk =>
  obtain⟨_,_,_,q⟩:=hs
  exact False.elim q
 |cont =>
  obtain⟨_,_,_,q⟩:=hs
  exact False.elim q
section
variable {X:Cx}{x:Str}{p pos:Pos}{e:Expr}{es:List Expr}{t:TA}{id T:String}{r:List V->Hp->VK->Prop}
noncomputable def tCB (r:List V->Hp->VK->Prop) (t:TA):TE:=fun σ H Q=>t σ H λvs H1=>r vs H1 Q
theorem Zg (hc:Zbs X (.builtin id) r) (hg:Gl X x) (hm:X.mg x=none) (hv:bootBuiltins x=some (.builtin id)) (ha:PA X (e::es) t) (hn:x≠"__name__":=by decide) (hdb:(x==("__debug__":Str))=false:=by decide)
  (he:starEach (e::es) X.env=(false,eval e X.env)::starEach es X.env:=by rfl) (hpl:(backTo pos (starEach es X.env)).any (·.1)=false:=by rfl):PE X (.Call (.Name x p) (e::es) [] pos) (tCB r t):=by
 intro pins s σ H Q I h
 refine wpAny_Call_Name_kw (Zc7 I hg hm hv ?_ hn hdb)
 exact PyProof.Rows.callWith_builtin1 (thn (ha pos pins s σ H _ I h) λus s1 ⟨vs,H1,I1,r1,q1⟩=>hc pins s1 σ H1 vs us Q I1 r1 q1) he hpl
theorem ZK (hc:Zbs X (.type T) r) (hg:Gl X x) (hm:X.mg x=none) (hv:bootBuiltins x=some (.type T)) (ha:PA X (e::es) t) (hn:x≠"__name__":=by decide) (hdb:(x==("__debug__":Str))=false:=by decide)
  (he:starEach (e::es) X.env=(false,eval e X.env)::starEach es X.env:=by rfl) (hpl:(backTo pos (starEach es X.env)).any (·.1)=false:=by rfl):PE X (.Call (.Name x p) (e::es) [] pos) (tCB r t):=by
 intro pins s σ H Q I h
 refine wpAny_Call_Name_kw (Zc7 I hg hm hv ?_ hn hdb)
 exact PyProof.Rows.callWith_type1 (thn (ha pos pins s σ H _ I h) λus s1 ⟨vs,H1,I1,r1,q1⟩=>hc pins s1 σ H1 vs us Q I1 r1 q1) he hpl
end
end L2
namespace HT
open PySem PyProof.Rows
section
open PySem.SeqAt
open PySem.AutoSeq1 (wpAny_loadPart')
open PySem.MeetsSeq PySem.MeetsSeq2 PySem.MeetsSeq3
end
section
variable {prog:Program}{w:World}{A:Around}{E:Value->Shared->Prop}{s:Shared}
noncomputable def sIx (n d:Nat):Option Int->Nat
 |none=>d
 |some v=>if v<0 then (v+(n:Int)).toNat else min v.toNat n
theorem ZqQ (n d k:Nat):sIx n d (some (k:Int))=min k n:=by
 show(if (k:Int)<0 then ((k:Int)+(n:Int)).toNat else min (k:Int).toNat n)=min k n
 rw[Yb (by omega),YJ]
theorem sIx_le (n d:Nat) (hd:d<=n) (o:Option Int):sIx n d o<=n:=by
 cases o with
 |none=>exact hd
 |some v =>
  show(if v<0 then (v+(n:Int)).toNat else min v.toNat n)<=n
  by_cases hv:v<0
  ·rw[Yc hv];omega
  ·rw[Yb hv];exact Nat.min_le_right _ _
theorem ZmA (v:Int) (n d:Nat):(if v<0 then max (v+(n:Int)) 0 else min v (n:Int))=((sIx n d (some v):Nat):Int):=by
 show(if v<0 then max (v+(n:Int)) 0 else min v (n:Int))=(((if v<0 then (v+(n:Int)).toNat else min v.toNat n):Nat):Int)
 by_cases hv:v<0
 ·simp only[Yc hv];omega
 ·simp only[Yb hv];omega
theorem ZlB (lo hi:Option Int) (n:Nat):Builtin.Slice.sliceAdjust lo hi 1 (n:Int)=(((sIx n 0 lo:Nat):Int),((sIx n n hi:Nat):Int)):=by
 have h1:¬ ((1:Int)<0):=by omega
 unfold Builtin.Slice.sliceAdjust
 simp only[h1,if_false]
 refine Prod.ext ?_ ?_
 ·cases lo with
  |none=>rfl
  |some v=>exact ZmA v n 0
 ·cases hi with
  |none=>rfl
  |some v=>exact ZmA v n n
theorem ZlC (i j:Nat):Builtin.Slice.slicePlaces (i:Int) (j:Int) 1=j-i:=by
 unfold Builtin.Slice.slicePlaces
 have h1:(1:Int)>0:=by omega
 simp only[h1,if_true,Int.ediv_one]
 split<;>omega
theorem ZhX {v:Value}{o:Option Int}{Q:Option Int->Shared->Prop} (p:IsPart v o) (h:Q o s):wpAny (model prog w) A (Builtin.Slice.slicePartIndex v) Q E s:=by
 cases p with
 |none=>exact slicePart_none h
 |int i t=>exact slicePart_int h
theorem ZgL {sl:Addr}{vl vu:Value}{lo hi:Option Int}{n:Nat}{Q:Int×Int×Nat->Shared->Prop} (hs:s.heap.IsSliceOf sl vl vu .none) (pl:IsPart vl lo) (pu:IsPart vu hi)
  (h:Q (((sIx n 0 lo:Nat):Int),1,sIx n n hi-sIx n 0 lo) s):wpAny (model prog w) A (Builtin.Slice.sliceApplied (.ref sl) (pure (n:Int))) Q E s:=by
 obtain⟨os,hos,hcs,hds⟩:=id hs
 unfold Builtin.Slice.sliceApplied Builtin.Slice.sliceFields
 refine Ya (Ya (wpAny_field hos hds (x:=vl) rfl (Ya (wpAny_field hos hds (x:=vu) rfl (Ya (wpAny_field hos hds (x:=.none) rfl (Ye ?_)))))))
 refine Ya (slicePart_none ?_)
 show wpAny _ _ (if ((1:Int)==0)=true then _ else _) _ _ s
 rw[Yb (by decide)]
 refine Ya (ZhX pl (Ya (ZhX pu (Ya (Ye ?_)))))
 show wpAny _ _ (match Builtin.Slice.sliceAdjust lo hi 1 (n:Int)with|(lo,hi)=>pure (lo,(1:Int),Builtin.Slice.slicePlaces lo hi 1)) _ _ s
 rw[ZlB lo hi n]
 show wpAny _ _ (pure (((sIx n 0 lo:Nat):Int),(1:Int),Builtin.Slice.slicePlaces ((sIx n 0 lo:Nat):Int) ((sIx n n hi:Nat):Int) 1)) _ _ s
 rw[ZlC]
 exact Ye h
theorem ZoV (xs:Array Value) (i k:Nat):((List.range k).filterMap λ(m:Nat)=>xs[((i:Int)+(m:Int)*1).toNat]?).toArray=((xs.toList.drop i).take k).toArray:=by
 have e:(λ(m:Nat)=>xs[((i:Int)+(m:Int)*1).toNat]?)=λm=>xs[i+m]?:=by
  funext m
  have:((i:Int)+(m:Int)*1).toNat=i+m:=by omega
  rw[this]
 rw[e]
 have:=pick_run xs i k
 rw[List.filterMap_map]at this
 have e2:((λx=>xs[x]?) ∘ λx=>i+x)=λm=>xs[i+m]?:=rfl
 rw[e2]at this
 rw[this]
theorem Zf4 {t sl:Addr}{items:Array Value}{vl vu:Value}{lo hi:Option Int}{Q:Value->Shared->Prop} (ht:IsTup s.heap t items) (hs:s.heap.IsSliceOf sl vl vu .none) (pl:IsPart vl lo) (pu:IsPart vu hi)
  (hw:¬ (sIx items.size 0 lo=0/\sIx items.size items.size hi=items.size))
  (h:Q (.ref s.heap.objs.size) {s with heap:=s.heap.push {cls:=.type "tuple",data:=.seq ((items.toList.drop (sIx items.size 0 lo)).take (sIx items.size items.size hi-sIx items.size 0 lo)).toArray}})
  (hsz:items.size<=sizeLine):wpAny (model prog w) A (getItem (.ref t) (.ref sl)) Q E s:=by
 have htake:sizeOk (.seq ((items.toList.drop (sIx items.size 0 lo)).take (sIx items.size items.size hi-sIx items.size 0 lo)).toArray):=by
  show((items.toList.drop (sIx items.size 0 lo)).take (sIx items.size items.size hi-sIx items.size 0 lo)).toArray.size<=sizeLine
  rw[Yl,YX,Y1,YO]
  omega
 have hj:sIx items.size items.size hi<=items.size:=sIx_le _ _ (Yd _) hi
 obtain⟨os,hos,hcs,hds⟩:=id hs
 have hTs:s.TypeIs (.ref sl) "slice":=⟨os,hos,hcs⟩
 unfold getItem
 try with_reducible refine wpAny_holding ?_
 first|refine Ya (Ye ?_)|skip
 refine Ya (wpAny_sequenceKey ht.typeIs (by decide) ?_)
 refine Ya (wpAny_callSpecial?_slot (name:=Str.ofString "__getitem__") ht.typeIs PyProof.Rows.slot_tuple_getitem
  (wpAny_call_entry PyProof.Rows.slot_tuple_getitem ht.typeIs entry_tuple_getitem ?_ (args_tuple_getitem _ _)))
 show wpAny _ _ (Builtin.Tuple.tupleItemsOf (.ref t) >>= _) _ _ s
 refine Ya (tupleItemsOf_ ht ?_)
 refine Ya (wpAny_typeOf hTs ?_)
 rw[Yc (by decide)]
 refine Ya (ZgL hs pl pu ?_)
 have hno:¬ ((((sIx items.size 0 lo:Nat):Int)==0&&(1:Int)==1&&(sIx items.size items.size hi-sIx items.size 0 lo)==items.size)=true):=by
  intro q
  rw[Bool.and_eq_true,Bool.and_eq_true]at q
  have q1:((sIx items.size 0 lo:Nat):Int)=0:=eq_of_beq q.1.1
  have q2:sIx items.size items.size hi-sIx items.size 0 lo=items.size:=eq_of_beq q.2
  exact hw ⟨by omega,by omega⟩
 show wpAny _ _ (if (((sIx items.size 0 lo:Nat):Int)==0&&(1:Int)==1&&(sIx items.size items.size hi-sIx items.size 0 lo)==items.size)=true then _ else _) _ _ s
 rw[Yb hno,ZoV]
 first
  |exact Ya (m:=Builtin.Tuple.tupleExact _) (wpAny_newObj_type (Ye ⟨_,rfl,Ye h⟩) htake)
  |exact Ya (m:=Builtin.Tuple.tupleExact _) (wpAny_newObj_type (Ya (Ye (Ye ⟨_,rfl,Ye h⟩))) htake)
  |exact Ya (Ya (m:=Builtin.Tuple.tupleExact _) (wpAny_newObj_type (Ye (Ye ⟨_,rfl,Ye h⟩)) htake))
  |exact Ya (Ya (m:=Builtin.Tuple.tupleExact _) (wpAny_newObj_type (Ye ⟨_,rfl,Ye h⟩) htake))
end
end HT
namespace L2
open PySem PySem.Spec PyProof.Rows
noncomputable abbrev TO:=St->Hp->(Option Int->Hp->Prop)->Prop
noncomputable def PO (X:Cx) (e:Option Expr) (t:TO):Prop :=
 ∀(pins:List (Addr×Obj)) (s:Shared) (σ:St) (H:Hp) (Q:Option Int->Hp->Prop),Inv X pins σ H s->t σ H Q ->
  wpAny (model X.prog X.w) X.A (evalPart e X.env) (λu s'=>∃o H',Inv X pins σ H' s'/\IsPart u o/\Q o H') X.xe s
noncomputable def ZjK:TO:=λ_ H Q=>Q none H
noncomputable def ZoW (t:TE):TO:=fun σ H Q=>t σ H λx H1=>∃i,x=.int i/\Q (some i) H1
theorem intsAre_of {ns:List Int}:∀{us:List Value},Vals (ns.map V.int) us->IntsAre us ns:=by
 induction ns with
 |nil=>intro us r;rw[List.map_nil]at r;cases r;exact .nil
 |cons n ns ih =>
  intro us r
  rw[YQ]at r
  cases r with
  |cons r1 r2 =>
   obtain⟨t,e⟩:=r1
   subst e
   exact .cons n t (ih r2)
section
variable {X:Cx}{e:Expr}{te:TE}{lo hi:Option Expr}{tl th:TO}{pos p2:Pos}
theorem ZaO:PO X none ZjK:=by
 intro pins s σ H Q I h
 rw[evalPart_none]
 exact Ye ⟨none,H,I,.none,h⟩
theorem ZaP (h:PE X e te):PO X (some e) (ZoW te):=by
 intro pins s σ H Q I hw
 rw[evalPart_some]
 refine thn (h pins s σ H _ I hw) λu s1 ⟨x,H1,I1,r1,q1⟩=>?_
 obtain⟨i,rfl,q⟩:=q1
 obtain⟨t,rfl⟩:=r1
 exact⟨some i,H1,I1,.int i t,q⟩
noncomputable def SlR (X:Cx) (r:V->Option Int->Option Int->Hp->VK->Prop):Prop :=
 ∀(pins:List (Addr×Obj)) (s:Shared) (σ:St) (H:Hp) (x:V) (v vl vu:Value) (lo hi:Option Int) (sl:Addr) (Q:VK),Inv X pins σ H s->RelV x v->s.heap.IsSliceOf sl vl vu .none->IsPart vl lo->IsPart vu hi->r x lo hi H Q ->
  ∃T id,typeLookup (.type T) "__getitem__"=pure (some (.builtin id))/\s.TypeIs v T/\wpAny (model X.prog X.w) X.A (getItem v (.ref sl)) (EP X pins σ Q) X.xe s
noncomputable def tSl (r:V->Option Int->Option Int->Hp->VK->Prop) (te:TE) (tl th:TO):TE:=fun σ H Q=>te σ H λx H1=>tl σ H1 λl H2=>th σ H2 λu H3=>r x l u H3 Q
theorem Zal {r:V->Option Int->Option Int->Hp->VK->Prop} (hr:SlR X r) (he:PE X e te) (hl:PO X lo tl) (hu:PO X hi th):PE X (.Subscript e (.Slice lo hi none p2) pos) (tSl r te tl th):=by
 intro pins s σ H Q I h
 refine Subscript_ (thn (he pins s σ H _ I h) λv s1 ⟨x,H1,I1,r1,q1⟩=>?_)
 refine wpAny_Slice (thn (hl pins s1 σ H1 _ I1 q1) λvl s2 ⟨l,H2,I2,pl,q2⟩=>thn (hu pins s2 σ H2 _ I2 q2) λvu s3 ⟨u,H3,I3,pu,q3⟩=>?_)
 rw[evalPart_none]
 refine Ye ?_
 have I4:Inv X pins σ H3 {s3 with heap:=s3.heap.push {cls:=.type "slice",data:=.fields #[vl,vu,.none]}}:=I3.kept (t':=s3.toks) λb ob q=>Ym _ q
 obtain⟨T,id,hT,ht,hg⟩:=hr pins {s3 with heap:=s3.heap.push {cls:=.type "slice",data:=.fields #[vl,vu,.none]}} σ H3 x v vl vu l u s3.heap.objs.size Q I4 r1 (Heap.IsSliceOf.new ..) pl pu q3
 show wpAny (model X.prog X.w) X.A (subscriptTail e (.Slice lo hi none p2) v (.ref s3.heap.objs.size)) (EP X pins σ Q) X.xe {s3 with heap:=s3.heap.push {cls:=.type "slice",data:=.fields #[vl,vu,.none]}}
 exact tail_any (ops:=[.ref s3.heap.objs.size,v]) ht hT hg (by with_unfolding_all rfl)
noncomputable def ZiN (xs:List V) (lo hi:Option Int):List V:=(xs.drop (HT.sIx xs.length 0 lo)).take (HT.sIx xs.length xs.length hi-HT.sIx xs.length 0 lo)
theorem Zhl (xs:List V) (lo hi:Option Int):(ZiN xs lo hi).length<=xs.length:=by
 unfold ZiN
 rw[YX,Y1]
 omega
noncomputable def rSlT (K:PySem.W.Frag):V->Option Int->Option Int->Hp->VK->Prop:=λx lo hi H Q=>∃a xs,x=.ref a/\SqT K H a xs /\
 ¬ (HT.sIx xs.length 0 lo=0/\HT.sIx xs.length xs.length hi=xs.length)/\∀p,H p=none->Q (.ref p) (upd H p (.tup (ZiN xs lo hi)))
theorem sl_tup:SlR X (rSlT X.K):=by
 intro pins s σ H x v vl vu lo hi sl Q I rx hs pl pu h
 obtain⟨a,xs,rfl,hx,hw,q⟩:=h
 cases rx
 obtain⟨its,r,ht,hz⟩:=I.tuple hx
 have hlen:its.toArray.size=xs.length:=by rw[Yl];exact r.length.symm
 refine⟨"tuple",_,PyProof.Rows.slot_tuple_getitem.lookup,ht.typeIs,?_⟩
 refine HT.Zf4 ht hs pl pu (by rw[hlen];exact hw) ?_ (by rw[hlen];exact hz)
 rw[hlen]
 refine⟨.ref s.heap.objs.size,_,I.laid (t':=s.toks) (o:=.tup (ZiN xs lo hi)) (λb ob q=>Ym _ q) (Yd _) ?_,rfl,q _ (I.hok.fresh (Yd _))⟩
 exact⟨Yg (Zhl xs lo hi) hz,_,(r.drop (HT.sIx xs.length 0 lo)).take (HT.sIx xs.length xs.length hi-HT.sIx xs.length 0 lo),IsTup.new _ _⟩
end
noncomputable def ixN (n:Nat) (i:Int):Option Nat:=if 0<=i then (if i<n then some i.toNat else none)else if -(n:Int)<=i then some (i+n).toNat else none
noncomputable def atI {α:Type} (xs:List α) (i:Int):Option α:=(ixN xs.length i).bind λj=>xs[j]?
theorem ZmB {n:Nat}{i:Int}{j:Nat} (h:ixN n i=some j):seqIndex? i n=some j/\j<n/\-(n:Int)<=i/\i<n:=by
 unfold ixN at h
 by_cases h0:0<=i
 ·rw[Yc h0]at h
  by_cases h1:i<n
  ·rw[Yc h1]at h
   have e:i.toNat=j:=Yx h
   exact⟨by rw[seqIndex_of h0 h1,e],by omega,by omega,h1⟩
  ·rw[Yb h1]at h;cases h
 ·rw[Yb h0]at h
  by_cases h1:-(n:Int)<=i
  ·rw[Yc h1]at h
   have e:(i+n).toNat=j:=Yx h
   exact⟨by rw[seqIndex_neg (by omega) h1,e],by omega,h1,by omega⟩
  ·rw[Yb h1]at h;cases h
theorem ZhL {α:Type}{xs:List α}{i:Int}{v:α} (h:atI xs i=some v):∃j,seqIndex? i xs.length=some j/\xs[j]?=some v/\j<xs.length/\-(xs.length:Int)<=i/\i<xs.length:=by
 unfold atI at h
 cases e:ixN xs.length i with
 |none=>rw[e]at h;cases h
 |some j =>
  rw[e]at h
  obtain⟨h1,h2,h3,h4⟩:=ZmB e
  exact⟨j,h1,h,h2,h3,h4⟩
noncomputable def ZqR (b:Expr):Prop:=∀o i,subscripted b false o i=operate [o,i] (getItem o i)
noncomputable def IxR (X:Cx) (r:R2):Prop :=
 ∀(value slice:Expr) (pins:List (Addr×Obj)) (s:Shared) (σ:St) (H:Hp) (x y:V) (v u:Value) (Q:VK),Inv X pins σ H s->RelV x v->RelV y u->r x y H Q ->
  subscripted slice false v u=operate [v,u] (getItem v u)->wpAny (model X.prog X.w) X.A (subscriptTail value slice v u) (EP X pins σ Q) X.xe s
noncomputable def MtR (X:Cx) (id:String) (r:V->List V->Hp->VK->Prop):Prop :=
 ∀(pins:List (Addr×Obj)) (s:Shared) (σ:St) (H:Hp) (x:V) (xs:List V) (v:Value) (us:List Value) (Q:VK),Inv X pins σ H s->RelV x v->Vals xs us->r x xs H Q ->
  wpAny (model X.prog X.w) X.A (call (.builtin id) (v::us)) (EP X pins σ Q) X.xe s
section
variable {X:Cx}{a b:Expr}{ta tb:TE}{pos:Pos}
theorem IxR.or {r r':R2} (h:IxR X r) (h':IxR X r'):IxR X (λx y H Q=>r x y H Q\/r' x y H Q):=by
 intro value slice pins s σ H x y v u Q I rx ry q hs
 rcases q with q|q
 ·exact h value slice pins s σ H x y v u Q I rx ry q hs
 ·exact h' value slice pins s σ H x y v u Q I rx ry q hs
theorem ZZ {r:R2} (hr:IxR X r) (ha:PE X a ta) (hb:PE X b tb) (hs:ZqR b):PE X (.Subscript a b pos) (tOp r ta tb):=by
 intro pins s σ H Q I h
 exact Subscript_ (binT ha hb I h λv u s2 x y H2 I2 rx ry q=>hr a b pins s2 σ H2 x y v u Q I2 rx ry q (hs _ _))
noncomputable def ZiO (K:PySem.W.Frag):R2:=λx y H Q=>∃p xs i v,x=.ref p/\y=.int i/\SqL K H p xs/\atI xs i=some v/\Q v H
noncomputable def rIxT (K:PySem.W.Frag):R2:=λx y H Q=>∃p xs i v,x=.ref p/\y=.int i/\SqT K H p xs/\atI xs i=some v/\Q v H
noncomputable def ZlD:R2:=λx y H Q=>∃z i c,x=.str z/\y=.int i/\z.length<=sizeLine/\atI z.cps.toList i=some c/\Q (.str ⟨#[c]⟩) H
theorem ZQ:IxR X (ZiO X.K):=by
 intro value slice pins s σ H x y v u Q I rx ry h hs
 obtain⟨p,xs,i,z,rfl,rfl,hq,he,q⟩:=h
 cases rx
 obtain⟨t,rfl⟩:=ry
 obtain⟨its,r,pl,hz⟩:=I.list hq
 obtain⟨j,h1,h2,h3,h4,h5⟩:=ZhL he
 obtain⟨w,ew,rw'⟩:=r.get h2
 have hl:=r.length
 have hn:=Zfy
 have fin:EP X pins σ Q w s:=⟨z,H,I,rw',q⟩
 by_cases h0:0<=i
 ·have hj:i.toNat=j:=by
   rw[seqIndex_of h0 h5]at h1
   exact Yx h1
  exact item_listR pl.isList h0 (by omega) (by rw[hj];simpa using ew) fin hs
 ·have hj:(i+(its.toArray.size:Int)).toNat=j:=by
   rw[seqIndex_neg (by omega) h4]at h1
   rw[Yl,<-hl]
   exact Yx h1
  exact subscriptTail_builtinR (x:=w) pl.isList.typeIs slot_list_getitem.lookup
   (wpAny_getItem_list_neg (Q:=λr s'=>r=w/\EP X pins σ Q r s') pl.isList (by omega) (by rw[Yl]<;>omega) (by omega) (by rw[hj];simpa using ew) ⟨rfl,fin⟩) hs
theorem ZdK:IxR X (rIxT X.K):=by
 intro value slice pins s σ H x y v u Q I rx ry h hs
 obtain⟨p,xs,i,z,rfl,rfl,hq,he,q⟩:=h
 cases rx
 obtain⟨t,rfl⟩:=ry
 obtain⟨its,r,pl,hz⟩:=I.tuple hq
 obtain⟨j,h1,h2,h3,h4,h5⟩:=ZhL he
 obtain⟨w,ew,rw'⟩:=r.get h2
 have hl:=r.length
 have hn:=Zfy
 have fin:EP X pins σ Q w s:=⟨z,H,I,rw',q⟩
 exact subscriptTail_builtinR (x:=w) pl.typeIs slot_tuple_getitem.lookup
  (getItem_tuple (j:=j) (Q:=λr s'=>r=w/\EP X pins σ Q r s') pl (by omega) (by omega) (by rw[Yl,<-hl];exact h1) (by simpa using ew) ⟨rfl,fin⟩) hs
theorem ZoX:IxR X ZlD:=by
 intro value slice pins s σ H x y v u Q I rx ry h hs
 obtain⟨z,i,c,rfl,rfl,hz,he,q⟩:=h
 obtain⟨t,rfl⟩:=rx
 obtain⟨t',rfl⟩:=ry
 obtain⟨j,h1,h2,h3,h4,h5⟩:=ZhL he
 have hl:z.cps.toList.length=z.length:=by simp[Str.length]
 rw[hl]at h1 h4 h5
 have hn:=Zfy
 exact tail_any (typeIs_str s z t) slot_str_getitem.lookup (getItem_str (c:=c) (by
  have e1:decide (i < -(2 ^ 63:Int))=false:=YB (by omega)
  have e2:decide (i ≥ 2 ^ 63)=false:=YB (by omega)
  rw[e1,e2,Bool.or_false]) (by rw[h1];simpa using h2) ⟨.str ⟨#[c]⟩,H,I.tok _,⟨_,rfl⟩,q⟩) hs
theorem ZlE (its:List Value) (n j:Nat) (u:Value):Obj.mapSeq (·.setIfInBounds j u) {cls:=.type "list",data:=.seq its.toArray n}={cls:=.type "list",data:=.seq (its.set j u).toArray n}:=by
 simp[Obj.mapSeq]
theorem Inv.lst {pins:List (Addr×Obj)}{σ:St}{H:Hp}{s:Shared}{p:Addr}{xs:List V} (I:Inv X pins σ H s) (h:H p=some (.lst xs)) :
  ∃(its:List Value) (n:Nat),Vals xs its/\s.heap.get? p=some {cls:=.type "list",data:=.seq its.toArray n}/\xs.length<=sizeLine:=by
 obtain⟨z,its,n,r,e⟩:=I.hok p _ h
 exact⟨its,n,r,e,z⟩
theorem Inv.lstUpd {pins:List (Addr×Obj)}{σ:St}{H:Hp}{s:Shared}{p:Addr}{xs ys:List V}{its its':List Value}{n n':Nat}{f:Obj->Obj} (I:Inv X pins σ H s) (h:H p=some (.lst xs))
  (ho:s.heap.get? p=some {cls:=.type "list",data:=.seq its.toArray n}) (hf:f {cls:=.type "list",data:=.seq its.toArray n}={cls:=.type "list",data:=.seq its'.toArray n'}) (r:Vals ys its') (hz:ys.length<=sizeLine) (t:Nat) :
  Inv X pins σ (upd H p (.lst ys)) {s with heap:=s.heap.update p f,toks:=t}:=by
 have e:(s.heap.update p f).get? p=some {cls:=.type "list",data:=.seq its'.toArray n'}:=by
  rw[Heap.get?_update_self f ho (by rw[hf]<;>rfl),hf]
 refine I.write (x:=p) (e:=p) (by rw[h];trivial) (.inl rfl) (λb u hb q=>(Heap.get?_update_other _ _ (Ne.symm hb)).trans q) ⟨_,e⟩ ?_
 exact⟨hz,its',n',r,e⟩
noncomputable def ZoY:V->V->V->Hp->(Hp->Prop)->Prop:=λo i v H Q=>∃p xs k j,o=.ref p/\i=.int k/\H p=some (.lst xs)/\ixN xs.length k=some j/\Q (upd H p (.lst (xs.set j v)))
theorem set_list:PSet X ZoY:=by
 intro pins s σ H o i v ov iv u Q I ro ri rv h
 obtain⟨p,xs,k,j,rfl,rfl,hp,hj,q⟩:=h
 cases ro
 obtain⟨t,rfl⟩:=ri
 obtain⟨its,n,r,ho,hz⟩:=I.lst hp
 obtain⟨h1,h2,h3,h4⟩:=ZmB hj
 have hl:=r.length
 have hn:=Zfy
 have I':Inv X pins σ (upd H p (.lst (xs.set j v))) {s with heap:=s.heap.update p (Obj.mapSeq (·.setIfInBounds j u))} :=
  I.lstUpd hp ho (ZlE its n j u) (r.set rv j) (by rw[List.length_set];exact hz) s.toks
 by_cases h0:0<=k
 ·have hk:k.toNat=j:=by
   rw[seqIndex_of h0 h4]at h1
   exact Yx h1
  exact PySem.W.ki_setAt ho h0 (by omega) (by rw[Yl,<-hl];exact h4) (by rw[hk];exact⟨_,I',q⟩)
 ·have hk:(k+(its.toArray.size:Int)).toNat=j:=by
   rw[seqIndex_neg (by omega) h3]at h1
   rw[Yl,<-hl]
   exact Yx h1
  exact PySem.W.ki_setBack ho (by omega) (by rw[Yl,<-hl];exact h3) (by omega) (by rw[hk];exact⟨_,I',q⟩)
theorem ZjL (lo hi:Option Int) (n:Nat):(sliceBounds lo hi none n).1=((HT.sIx n 0 lo:Nat):Int)/\(sliceBounds lo hi none n).2.1=((HT.sIx n n hi:Nat):Int)/\(sliceBounds lo hi none n).2.2=1:=by
 refine⟨?_,?_,rfl⟩
 ·cases lo with
  |none=>simp[sliceBounds,HT.sIx]
  |some i =>
   simp only[sliceBounds,HT.sIx,Option.getD_none,show(1:Int)>0 by decide,if_true]
   by_cases h:i<0
   ·simp only[h,if_true]<;>omega
   ·simp only[h,if_false]<;>omega
 ·cases hi with
  |none=>simp[sliceBounds,HT.sIx]
  |some i =>
   simp only[sliceBounds,HT.sIx,Option.getD_none,show(1:Int)>0 by decide,if_true]
   by_cases h:i<0
   ·simp only[h,if_true]<;>omega
   ·simp only[h,if_false]<;>omega
theorem ZiP (its:List Value) (lo hi:Option Int):slicePick its.toArray lo hi none=((its.drop (HT.sIx its.length 0 lo)).take (HT.sIx its.length its.length hi-HT.sIx its.length 0 lo)).toArray:=by
 obtain⟨h1,h2,h3⟩:=ZjL lo hi its.toArray.size
 unfold slicePick
 rw[h1,h2,h3]
 simp only[sliceRange_one,pick_run,Yl]<;>rfl
noncomputable def rSlL (K:PySem.W.Frag):V->Option Int->Option Int->Hp->VK->Prop:=λx lo hi H Q=>∃a xs,x=.ref a/\SqL K H a xs/\∀p,H p=none->Q (.ref p) (upd H p (.lst (ZiN xs lo hi)))
theorem ZhM:SlR X (rSlL X.K):=by
 intro pins s σ H x v vl vu lo hi sl Q I rx hs pl pu h
 obtain⟨a,xs,rfl,hx,q⟩:=h
 cases rx
 obtain⟨its,r,ht,hz⟩:=I.list hx
 have hlen:=r.length
 refine⟨"list",_,slot_list_getitem.lookup,ht.isList.typeIs,?_⟩
 refine wpAny_getItem_list_slice ht.isList hs pl pu .none (by simp) ?_ (by rw[Yl]<;>omega)
 rw[ZiP,<-hlen]
 refine⟨.ref s.heap.objs.size,_,I.laid (t':=s.toks) (o:=.lst (ZiN xs lo hi)) (λb ob q=>Ym _ q) (Yd _) ?_,rfl,q _ (I.hok.fresh (Yd _))⟩
 exact⟨Yg (Zhl xs lo hi) hz,_,0,(r.drop (HT.sIx xs.length 0 lo)).take (HT.sIx xs.length xs.length hi-HT.sIx xs.length 0 lo),Yw _ rfl⟩
noncomputable def flatV:V->Bool
 |.non=>true
 |.bl _=>true
 |.int _=>true
 |.str _=>true
 |_=>false
noncomputable def eqV:V->V->Bool
 |.non,.non=>true
 |.bl a,.bl b=>a==b
 |.bl a,.int b=>(if a then 1 else 0)==b
 |.int a,.bl b=>a==(if b then 1 else 0)
 |.int a,.int b=>a==b
 |.str a,.str b=>a==b
 |_,_=>false
theorem ZoZ {A:Around}{s:Shared}{y x:V}{u v:Value} (ry:RelV y u) (rx:RelV x v) (fy:flatV y=true) (fx:flatV x=true):SeqAt.EqAt A s u v (eqV y x):=by
 cases y with
 |non =>
  cases ry
  cases x with
  |non=>cases rx;exact SeqAt.EqAt.same _
  |bl b=>cases rx;exact SeqAt.EqAt.none_bool b
  |int b=>obtain⟨t,rfl⟩:=rx;exact SeqAt.EqAt.none_int b t
  |str b=>obtain⟨t,rfl⟩:=rx;exact SeqAt.EqAt.none_str b t
  |_=>exact absurd (show false=true from fx) Yv
 |bl a =>
  cases ry
  cases x with
  |non=>cases rx;exact SeqAt.EqAt.bool_none a
  |bl b=>cases rx;exact SeqAt.EqAt.bool_bool a b
  |int b=>obtain⟨t,rfl⟩:=rx;exact SeqAt.EqAt.bool_int a b t
  |str b=>obtain⟨t,rfl⟩:=rx;exact SeqAt.EqAt.bool_str a b t
  |_=>exact absurd (show false=true from fx) Yv
 |int a =>
  obtain⟨t',rfl⟩:=ry
  cases x with
  |non=>cases rx;exact SeqAt.EqAt.int_none a t'
  |bl b=>cases rx;exact SeqAt.EqAt.int_bool a t' b
  |int b=>obtain⟨t,rfl⟩:=rx;exact SeqAt.EqAt.int_int a t' b t
  |str b=>obtain⟨t,rfl⟩:=rx;exact SeqAt.EqAt.int_str a t' b t
  |_=>exact absurd (show false=true from fx) Yv
 |str a =>
  obtain⟨t',rfl⟩:=ry
  cases x with
  |non=>cases rx;exact SeqAt.EqAt.str_none a t'
  |bl b=>cases rx;exact SeqAt.EqAt.str_bool a t' b
  |int b=>obtain⟨t,rfl⟩:=rx;exact SeqAt.EqAt.str_int a t' b t
  |str b=>obtain⟨t,rfl⟩:=rx;exact SeqAt.EqAt.str_str a t' b t
  |_=>exact absurd (show false=true from fx) Yv
 |_=>exact absurd (show false=true from fy) Yv
noncomputable def eqU (x:V) (u:Value):Bool:=match u with
 |.none=>eqV .non x
 |.bool b=>eqV (.bl b) x
 |.int i _=>eqV (.int i) x
 |.str z _=>eqV (.str z) x
 |_=>false
theorem Zo0 {x y:V}{u:Value} (r:RelV y u) (f:flatV y=true):eqU x u=eqV y x:=by
 cases y with
 |non=>cases r;rfl
 |bl b=>cases r;rfl
 |int i=>obtain⟨t,rfl⟩:=r;rfl
 |str z=>obtain⟨t,rfl⟩:=r;rfl
 |_=>exact absurd (show false=true from f) Yv
theorem ZjM {x:V}:∀{xs:List V}{us:List Value},Vals xs us->xs.all flatV=true->us.any (eqU x)=xs.any λy=>eqV y x
 |_,_,.nil,_=>rfl
 |y::xs,u::us,.cons r t,f=>by
  rw[List.all_cons,Bool.and_eq_true]at f
  rw[List.any_cons,List.any_cons,Zo0 r f.1,ZjM t f.2]
theorem ZhY {A:Around}{s:Shared}{x:V}{v:Value} (rx:RelV x v) (fx:flatV x=true):∀{xs:List V}{us:List Value},Vals xs us->xs.all flatV=true->∀u∈us,SeqAt.EqAt A s u v (eqU x u)
 |_,_,.nil,_=>λu hu=>by cases hu
 |y::xs,u::us,.cons r t,f=>λu' hu=>by
  rw[List.all_cons,Bool.and_eq_true]at f
  rcases Yq.mp hu with rfl|hu
  ·rw[Zo0 r f.1];exact ZoZ r rx f.1 fx
  ·exact ZhY rx fx t f.2 u' hu
noncomputable def inV (x:V) (xs:List V):Bool:=xs.any λy=>eqV y x
noncomputable def rIn (K:PySem.W.Frag) (neg:Bool):R2:=λx y H Q=>∃p xs,y=.ref p/\(SqL K H p xs\/SqT K H p xs)/\flatV x=true/\xs.all flatV=true/\Q (.bl (if neg then !inV x xs else inV x xs)) H
theorem ZjN:OpR X (compareOp .NotIn) (rIn X.K true):=by
 intro pins s σ H x y v u Q I rx ry h
 obtain⟨p,xs,rfl,hq,fx,fs,q⟩:=h
 cases ry
 rcases hq with hq|hq
 ·obtain⟨its,r,pl,hz⟩:=I.list hq
  refine SeqAt.notIn_listAt (eqU x) pl.isList (λw hw=>ZhY rx fx r fs w (by simpa using hw)) ⟨.bl _,H,I,rfl,?_⟩
  rw[show its.toArray.any (eqU x)=its.any (eqU x) by simp,ZjM r fs]
  exact q
 ·obtain⟨its,r,pl,hz⟩:=I.tuple hq
  refine SeqAt.notIn_tupleAt (eqU x) pl (λw hw=>ZhY rx fx r fs w (by simpa using hw)) ⟨.bl _,H,I,rfl,?_⟩
  rw[show its.toArray.any (eqU x)=its.any (eqU x) by simp,ZjM r fs]
  exact q
theorem ZjO:OpR X (compareOp .NotIn) (λx y H Q=>∃i j,x=.str i/\y=.str j/\Q (.bl (!(!(Builtin.Str.occurrences j i 0 j.length 1).isEmpty))) H):=by
 intro pins s σ H x y v u Q I rx ry h
 obtain⟨i,j,rfl,rfl,q⟩:=h
 obtain⟨t,rfl⟩:=rx
 obtain⟨t',rfl⟩:=ry
 exact notIn_str ⟨.bl _,H,I,rfl,q⟩
theorem ZjP:Zbs X (.builtin "len") (λxs H Q=>∃p ys,xs=[.ref p]/\(SqL X.K H p ys\/SqT X.K H p ys)/\Q (.int ys.length) H):=by
 intro pins s σ H xs us Q I r h
 obtain⟨p,ys,rfl,hq,q⟩:=h
 obtain⟨u,rfl,rx⟩:=vals1 r
 cases rx
 have hn:=Zfy
 rcases hq with hq|hq
 ·obtain⟨its,r',pl,hz⟩:=I.list hq
  have hlen:=r'.length
  exact Calls.call_len_list pl.isList (by simp only[Yl]<;>omega) ⟨.int ys.length,H,I.tok _,⟨s.toks+1,by rw[Yl,hlen]⟩,q⟩
 ·obtain⟨its,r',pl,hz⟩:=I.tuple hq
  have hlen:=r'.length
  exact len_tuple pl (by simp only[Yl]<;>omega) ⟨.int ys.length,H,I.tok _,⟨s.toks+1,by rw[Yl,hlen]⟩,q⟩
theorem ZjQ:Zbs X (.type "list") (λxs H Q=>∃p ys,xs=[.ref p]/\(SqL X.K H p ys\/SqT X.K H p ys)/\∀l,H l=none->Q (.ref l) (upd H l (.lst ys))):=by
 intro pins s σ H xs us Q I r h
 obtain⟨p,ys,rfl,hq,q⟩:=h
 obtain⟨u,rfl,rx⟩:=vals1 r
 cases rx
 have fin:∀(its:List Value),Vals ys its->ys.length<=sizeLine->∀(h':Heap) (c':Nat),(∀b o',s.heap.get? b=some o'->h'.get? b=some o') ->
   h'.get? s.heap.objs.size=some {cls:=.type "list",dict:=none,data:=.seq its.toArray c',slots:=#[]}->EP X pins σ Q (.ref s.heap.objs.size) {s with heap:=h'}:=λits r' hz h' c' kp e =>
  ⟨.ref s.heap.objs.size,_,I.laid (t':=s.toks) kp (Yd _) (show ZaD X.prog X.w _ h' _ (.lst ys)from⟨hz,its,c',r',e⟩),rfl,q _ (I.hok.fresh (Yd _))⟩
 rcases hq with hq|hq
 ·obtain⟨its,r',pl,hz⟩:=I.list hq
  have hlen:=r'.length
  obtain⟨o,ho,hc,n,hd⟩:=pl.isList
  exact call_list_seq p (.inl rfl) ho hc hd (λh' c' kp e=>fin its r' hz h' c' kp e) (by simp only[Yl]<;>omega)
 ·obtain⟨its,r',pl,hz⟩:=I.tuple hq
  have hlen:=r'.length
  obtain⟨o,ho,hc,n,hd⟩:=pl
  exact call_list_seq p (.inr rfl) ho hc hd (λh' c' kp e=>fin its r' hz h' c' kp e) (by simp only[Yl]<;>omega)
theorem ZiQ:Zbs X (.type "tuple") (λxs H Q=>∃p ys,xs=[.ref p]/\((SqL X.K H p ys/\∀l,H l=none->Q (.ref l) (upd H l (.tup ys)))\/(SqT X.K H p ys/\Q (.ref p) H))):=by
 intro pins s σ H xs us Q I r h
 obtain⟨p,ys,rfl,h⟩:=h
 obtain⟨u,rfl,rx⟩:=vals1 r
 cases rx
 rcases h with⟨hq,q⟩|⟨hq,q⟩
 ·obtain⟨its,r',pl,hz⟩:=I.list hq
  have hlen:=r'.length
  refine call_tuple_list pl.isList (λh' kp=>?_) (by simp only[Yl]<;>omega)
  have I1:Inv X pins σ H {s with heap:=h'}:=I.kept (t':=s.toks) kp
  have I2:Inv X pins σ (upd H h'.objs.size (.tup ys)) {s with heap:=h'.push {cls:=.type "tuple",data:=.seq its.toArray}} :=
   I1.laid (t':=s.toks) (λb o e=>Ym _ e) (Yd _) (show ZaD X.prog X.w _ _ _ (.tup ys)from⟨hz,its,r',IsTup.new _ _⟩)
  exact⟨.ref h'.objs.size,_,I2,rfl,q _ (I1.hok.fresh (Yd _))⟩
 ·obtain⟨its,r',pl,hz⟩:=I.tuple hq
  exact call_tuple_same pl ⟨.ref p,H,I,rfl,q⟩
noncomputable def tyV (K:PySem.W.Frag) (T:String) (x:V) (H:Hp):Prop:=match x with
 |.str _=>T="str"
 |.int _=>T="int"
 |.ref p=>(T="list"/\∃xs,SqL K H p xs)\/(T="tuple"/\∃o,K.lookup p=some o/\o.cls=.type "tuple"/\o.dict=none) \/
   (T="dict"/\((∃kvs,H p=some (.dK kvs))\/∃kvs,H p=some (.dT kvs)))\/(T="set"/\∃S n,H p=some (.set S n))
 |_=>False
theorem tyV_is {pins:List (Addr×Obj)}{σ:St}{H:Hp}{s:Shared}{T:String}{x:V}{v:Value} (I:Inv X pins σ H s) (r:RelV x v) (ty:tyV X.K T x H) :
  s.TypeIs v T/\∀a,v=.ref a->∃ob,s.heap.get? a=some ob/\ob.dict=none:=by
 cases x with
 |str z =>
  obtain⟨t,rfl⟩:=r
  cases(show T="str" from ty)
  exact⟨typeIs_str s z t,λ_ e=>nomatch e⟩
 |int i =>
  obtain⟨t,rfl⟩:=r
  cases(show T="int" from ty)
  exact⟨typeIs_int s i t,λ_ e=>nomatch e⟩
 |ref p =>
  cases r
  rcases ty with⟨rfl,xs,hq⟩|⟨rfl,o,hk,hc,hd⟩|⟨rfl,hk⟩|⟨rfl,S,n,hk⟩
  ·obtain⟨its,_,pl,_⟩:=I.list hq
   refine⟨pl.isList.typeIs,λa e=>?_⟩
   cases e
   obtain⟨o,n,e,c,hd,_⟩:=pl
   exact⟨o,e,hd⟩
  ·refine⟨⟨o,I.kIn p o hk,hc⟩,λa e=>?_⟩
   cases e
   exact⟨o,I.kIn _ o hk,hd⟩
  ·have z:∃o,s.heap.get? p=some o/\o.ExactDict:=by
    rcases hk with⟨kvs,hk⟩|⟨kvs,hk⟩
    ·obtain⟨_,_,_,_,o,_,_,e,ex,_⟩:=I.hok p _ hk
     exact⟨o,e,ex⟩
    ·obtain⟨_,_,_,_,o,_,_,e,ex,_⟩:=I.hok p _ hk
     exact⟨o,e,ex⟩
   obtain⟨o,e,ex⟩:=z
   refine⟨⟨o,e,ex.1⟩,λa e2=>?_⟩
   cases e2
   exact⟨o,e,ex.2.1⟩
  ·obtain⟨o,_,_,_,e,ex,_⟩:=I.hok p _ hk
   refine⟨⟨o,e,ex.1⟩,λa e2=>?_⟩
   cases e2
   exact⟨o,e,ex.2.1⟩
 |_=>exact False.elim ty
noncomputable def tBM (K:PySem.W.Frag) (T:String) (r:V->List V->Hp->VK->Prop) (to:TE) (t:TA):TE:=fun σ H Q=>to σ H λx H1=>tyV K T x H1/\t σ H1 λxs H2=>r x xs H2 Q
variable {o e:Expr}{es:List Expr}{to:TE}{t:TA}{name:Str}{apos cpos:Pos}{T id:String}{r:V->List V->Hp->VK->Prop}
theorem Zcc (pa:PlainAttrs T) (slot:Slot T name id) (hty:typeOf (.builtin id)=pure (.type "method_descriptor")) (hm:MtR X id r) (ho:PE X o to) (ha:PA X (e::es) t)
  (hbase:attributeBase o name X.env (eval o X.env)=eval o X.env:=by rfl)
  (hfew:((backTo cpos (starEach (e::es) X.env)).all (λx=>!x.1)&&(backToKw cpos (keywordEach [] X.env)).all (λx=>x.1.isSome)
   && decide ((e::es).length+([]:List Keyword).length+(if ([]:List Keyword).isEmpty then 0 else 1)<30))=true:=by rfl)
  (hline:(apos.endLine==cpos.line)=true:=by rfl) (hs:starEach (e::es) X.env=(false,eval e X.env)::starEach es X.env:=by rfl) (hplain:(backTo cpos (starEach es X.env)).any (·.1)=false:=by rfl) :
  PE X (.Call (.Attribute o name apos) (e::es) [] cpos) (tBM X.K T r to t):=by
 intro pins s σ H Q I h
 refine wpAny_Call_method_late hbase hfew hline rfl (thn (ho pins s σ H _ I h) λv s1 ⟨x,H1,I1,r1,ty,q1⟩=>?_)
 obtain⟨h1,h2⟩:=tyV_is I1 r1 ty
 refine⟨T,id,pa,slot,hty,h1,h2,?_⟩
 have hA:=ha cpos pins s1 σ H1 _ I1 q1
 rw[hs]at hA⊢
 refine Calls.callWith_builtin (by show(false||(backTo cpos (starEach es X.env)).any (·.1))=false;rw[hplain]<;>rfl) (Calls.evalArgs_plain ?_)
 exact thn hA λus s2 ⟨vs,H2,I2,r2,q2⟩=>hm pins s2 σ H2 x vs v us Q I2 r1 r2 q2
end
noncomputable def MtM (X:Cx) (id:String) (r:V->List V->Hp->VK->Prop):Prop :=
 ∀(pins:List (Addr×Obj)) (s:Shared) (σ:St) (H:Hp) (x:V) (xs:List V) (v:Value) (us:List Value) (Q:VK),Inv X pins σ H s->RelV x v->Vals xs us->r x xs H Q ->
  wpAny (model X.prog X.w) X.A (call (.builtin id) (v::us)) (EP X pins σ Q) X.xe s
theorem Vals.one:∀{x:V}{us:List Value},Vals [x] us->∃u,us=[u]/\RelV x u
 |_,_,.cons r .nil=>⟨_,rfl,r⟩
theorem Vals.two:∀{x y:V}{us:List Value},Vals [x,y] us->∃u v,us=[u,v]/\RelV x u/\RelV y v
 |_,_,_,.cons r (.cons q .nil)=>⟨_,_,rfl,r,q⟩
theorem Vals.rep {xs:List V}{us:List Value} (h:Vals xs us):∀k:Nat,Vals (List.replicate k xs).flatten (List.replicate k us).flatten
 |0=>.nil
 |k+1=>by
  rw[List.replicate_succ,List.replicate_succ,List.flatten_cons,List.flatten_cons]
  exact Vals.append h (Vals.rep h k)
theorem foldl_rep (its:List Value):∀(k:Nat) (acc:List Value),
  List.foldl (λx1 x2=>x1++x2) acc.toArray (List.replicate k its.toArray)=(acc++(List.replicate k its).flatten).toArray
 |0,acc=>by simp
 |k+1,acc=>by
  have e:acc.toArray++its.toArray=(acc++its).toArray:=by simp
  have e2:(acc++its)++(List.replicate k its).flatten=acc++(List.replicate (k+1) its).flatten:=by
   rw[List.replicate_succ,List.flatten_cons,YV]
  rw[<-e2,<-foldl_rep its k (acc++its),<-e,List.replicate_succ,List.foldl_cons]
section
variable {X:Cx}{pins:List (Addr×Obj)}{σ:St}{H:Hp}{s:Shared}{l b:Addr}{xs ys zs:List V}
theorem Inv.lset {its its':List Value}{n:Nat}{f:Array Value->Array Value}{t':Nat} (I:Inv X pins σ H s) (hH:H l=some (.lst xs))
  (e:s.heap.get? l=some {cls:=.type "list",data:=.seq its.toArray n}) (hf:f its.toArray=its'.toArray) (hv:Vals ys its') (hz:ys.length<=sizeLine) :
  Inv X pins σ (upd H l (.lst ys)) {s with heap:=s.heap.update l (Obj.mapSeq f),toks:=t'}:=by
 have q:=PySem.IsL.update e f
 rw[hf]at q
 refine I.write (x:=l) (e:=l) (by rw[hH];exact trivial) (.inl rfl) (λb' u hb hu=>(Heap.get?_update_other s.heap (Obj.mapSeq f) (Ne.symm hb)).trans hu) ⟨_,q⟩ ?_
 exact⟨hz,its',_,hv,q⟩
theorem Inv.lnew {its:List Value}{t':Nat} (I:Inv X pins σ H s) (hv:Vals ys its) (hz:ys.length<=sizeLine) :
  Inv X pins σ (upd H s.heap.objs.size (.lst ys)) {s with heap:=s.heap.push {cls:=.type "list",data:=.seq its.toArray},toks:=t'} :=
 I.laid (λ_ _ q=>Ym _ q) (Yd _) ⟨hz,its,0,hv,Yw _ rfl⟩
theorem Inv.fresh (I:Inv X pins σ H s):H s.heap.objs.size=none:=I.hok.fresh (Yd _)
theorem Inv.ZkI (I:Inv X pins σ H s) (hH:H l=some (.lst xs)):xs.length<=sizeLine/\∃(its:List Value) (n:Nat),Vals xs its/\xs.length=its.length/\s.heap.get? l=some {cls:=.type "list",data:=.seq its.toArray n}:=by
 obtain⟨z,its,n,r,e⟩:=I.hok l _ hH
 exact⟨z,its,n,r,r.length,e⟩
theorem ZhZ {n:Nat} (h:n<=sizeLine):Builtin.List.listTooLong n=false:=by
 unfold Builtin.List.listTooLong
 exact YB (by omega)
end
section
variable {X:Cx}
noncomputable def ZjR:V->List V->Hp->VK->Prop:=λx vs H Q=>∃l xs y,x=.ref l/\vs=[y]/\H l=some (.lst xs)/\xs.length<sizeLine/\Q .non (upd H l (.lst (xs++[y])))
theorem Zam:MtM X "list.append" ZjR:=by
 intro pins s σ H x vs v us Q I rx rv h
 obtain⟨l,xs,y,rfl,rfl,hH,hz,q⟩:=h
 cases rx
 obtain⟨u,rfl,ru⟩:=rv.one
 obtain⟨z,its,n,r,hl,e⟩:=I.ZkI hH
 refine call_meets F.slot_list_append ⟨_,e,rfl⟩ F.entry_list_append (F.args_list_append_2 _ _) (PySem.list_append l its.toArray n u (by rw[Yl];omega)) ⟨e,?_⟩
 refine⟨.non,_,I.lset (its':=its++[u]) hH e (by simp) (r.append (.cons ru .nil)) ?_,rfl,q⟩
 rw[Yr,List.length_singleton]
 omega
noncomputable def rCat:R2:=λx y H Q=>∃l b xs zs,x=.ref l/\y=.ref b/\H l=some (.lst xs)/\H b=some (.lst zs)/\xs.length+zs.length<=sizeLine/\∀p,H p=none->Q (.ref p) (upd H p (.lst (xs++zs)))
theorem Zh0:OpR X (binaryOp .Add) rCat:=by
 intro pins s σ H x y v u Q I rx ry h
 obtain⟨l,b,xs,zs,rfl,rfl,hH,hB,hz,q⟩:=h
 cases rx
 cases ry
 obtain⟨z,its,n,r,hl,e⟩:=I.ZkI hH
 obtain⟨z2,its2,n2,r2,hl2,e2⟩:=I.ZkI hB
 refine PySem.P.add_list e e2 ?_ (by rw[Yl,Yl];omega)
 have ea:its.toArray++its2.toArray=(its++its2).toArray:=by simp
 rw[ea]
 exact⟨.ref _,_,I.lnew (t':=s.toks) (r.append r2) (by rw[Yr];omega),rfl,q _ I.fresh⟩
noncomputable def rRep:R2:=λx y H Q=>∃l k xs,x=.ref l/\y=.int k/\H l=some (.lst xs)/\-(2 ^ 63)<=k/\k<2 ^ 63/\xs.length*k.toNat<=sizeLine /\
 ∀p,H p=none->Q (.ref p) (upd H p (.lst (List.replicate k.toNat xs).flatten))
theorem len_rep {α:Type} (xs:List α) (k:Nat):(List.replicate k xs).flatten.length=k*xs.length:=by
 induction k with
 |zero=>simp
 |succ k ih=>rw[List.replicate_succ,List.flatten_cons,Yr,ih,Nat.succ_mul,Nat.add_comm]
theorem ZjS:OpR X (binaryOp .Mult) rRep:=by
 intro pins s σ H x y v u Q I rx ry h
 obtain⟨l,k,xs,rfl,rfl,hH,h1,h2,hz,q⟩:=h
 cases rx
 obtain⟨t,rfl⟩:=ry
 obtain⟨z,its,n,r,hl,e⟩:=I.ZkI hH
 have hlen:its.toArray.size*k.toNat<=sizeLine:=by rw[Yl,<-hl];exact hz
 have hcap:¬ its.toArray.size*k.toNat>(2 ^ 63-1) / 8:=by
  have:(sizeLine:Nat)<=(2 ^ 63-1) / 8:=by decide
  omega
 have hfit:¬ (!Builtin.List.listFitsIndex k)=true:=by
  rw[fitsIndex_both h1 h2]
  exact Yv
 have hlong:¬ Builtin.List.listTooLong (its.toArray.size*k.toNat)=true:=by
  rw[ZhZ hlen]
  exact Yv
 have hnew:List.foldl (λx1 x2=>x1++x2) #[] (List.replicate (if its.toArray.isEmpty=true then 0 else k.toNat) its.toArray)=(List.replicate k.toNat its).flatten.toArray:=by
  have f0:∀m:Nat,List.foldl (λx1 x2=>x1++x2) #[] (List.replicate m its.toArray)=(List.replicate m its).flatten.toArray:=λm=>by
   have:=foldl_rep its m []
   rw[List.nil_append]at this
   exact this
  rw[f0]
  cases its with
  |nil=>simp
  |cons a r'=>rw[Yb (by simp)]
 refine wpAny_binaryOp_repeat_ref (T:="list") (U:="int") (by decide) ⟨_,e,rfl⟩ (λs'=>typeIs_int s' k t) noFill_list_mul F.fills_int_mul F.slot_int_rmul repeat_list F.slot_int_index.lookup
  (call_meets F.slot_int_rmul (typeIs_int s k t) F.entry_int_rmul (F.args_int_rmul_2 _ _) (int___rmul___int_list k t l its.toArray n)
   ⟨e,rfl,⟨_,e,rfl⟩,call_meets F.slot_list_mul ⟨_,e,rfl⟩ F.entry_list_mul (F.args_list_mul_2 _ _) (AutoListH.list___mul___list_int_3 l its.toArray n k t hfit hcap hlong) ⟨e,?_⟩⟩)
 rw[hnew]
 exact⟨.ref _,_,I.lnew (t':=s.toks) (r.rep k.toNat) (by rw[len_rep,Nat.mul_comm];exact hz),rfl,q _ I.fresh⟩
end
section
variable {prog:Program}{w:World}{A:Around}{E:Value->Shared->Prop}{s:Shared}
theorem Znx (its its2 : List Value) (a c : Nat) : its.toArray.extract 0 a ++ its2.toArray ++ its.toArray.extract c its.toArray.size = (its.take a ++ its2 ++ its.drop c).toArray := by
  apply Array.toList_inj.mp
  first
    | (simp
       exact List.take_of_length_le (by simp))
    | simp [List.take_of_length_le]
    | simp
end
end L2
namespace Att
open PySem PySem.W PySem.Calls PyProof.Rows
theorem ZhB {P:Params}{h:Heap}:∀(ns:List Int) (vs:List Value),WellAll P h vs (ns.map WData.int)->IntsAre vs ns:=by
 intro ns
 induction ns with
 |nil =>
  intro vs w
  rw[List.map_nil]at w
  cases w
  exact .nil
 |cons n ns ih =>
  intro vs w
  rw[YQ]at w
  cases w with
  |cons a b =>
   cases a
   exact .cons _ _ (ih _ b)
theorem Zny {l:OpenLaw}{n:Nat} (hn:l.most=some n) {P:Params}{h:Heap}{args:List WData}{vals:List Value}
  (hpre:l.row.toRowW.claim.pre args=true) (hwl:WellAll P h vals args) :
  ∃a vs ns,vals=[Value.ref a]/\args=[WData.list (ns.map WData.int)]/\h.get? a=some {cls:=.type "list",data:=.seq vs.toArray}/\IntsAre vs ns/\ns.length<=n:=by
 have hsh:WShape.hasAll [] args [.list .int]=true:=(pre_splitW hpre).1
 have hc:l.pre.holds [] {args:=args}=true:=(pre_splitW hpre).2
 obtain⟨d,r,rfl,h1,h2⟩:=hasAllW_cons hsh
 obtain rfl:=hasAllW_nil h2
 obtain⟨xs,rfl,h3⟩:=hasW_list h1
 obtain⟨ns,rfl⟩:=items_int h3
 have hlen:ns.length<=n:=by
  unfold OpenLaw.pre at hc
  have h4:(WTm.not (.lt (.lit (.int (n:Int))) (.len (.arg 0)))).holds [] {args:=[.list (ns.map .int)]}=true:=by
   have h4:=(holds_andW hc).1
   rw[hn]at h4
   exact h4
  have h5:=condW_of h4 (w_not (w_lt w_lit (w_len_list (w_arg rfl))))
  rw[Yi]at h5
  refine Nat.le_of_not_lt λq=>?_
  have q':(n:Int)<((ns.length:Nat):Int):=by omega
  first
   |(rw[YK q']at h5;exact absurd h5 (by decide))
   |(simp at h5;omega)
 cases hwl with
 |cons w1 w2 =>
  cases w2
  cases w1 with
  |list ho hall=>exact⟨_,_,ns,rfl,rfl,ho,ZhB ns _ hall,hlen⟩
theorem Znz (l:OpenLaw) (args:List WData):l.row.toRowW.claim.post args (.bool true) args=true :=
 postW_of (r:=l.row.toRowW) (X:=(true==true))
  (show WShape.has [] (.bool true) .bool=true by first|rfl|decide|simp[WShape.has,WShape.arms,WShape.armsAll])
  (show(WTm.eq .res (.lit (.bool true))).value [] {args:=args,res:=some (.bool true),after:=args}=some (.bool (true==true))from w_eq_bool (w_res rfl) w_lit) rfl
theorem ZkJ {l:OpenLaw}{n:Nat}{q:Program}{loose:List Str}{XP:(Str->Option Value)->Heap->Prop}{YP:World->Heap->Prop}{d:DefRec}
  (hn:l.most=some n) (hdf:d.params.defaults=[])
  (call:∀(w:World) (s₀ s₁:Shared) (mg mb:Str->Option Value) (fa:Addr) (o:Obj) (pm cd doc:Value) (a:Addr) (vs:List Value) (ns:List Int),
   Ground q loose [] XP w s₀ mg mb s₁.heap->YP w s₁.heap ->
   s₁.heap.get? fa=some o->o.data=.func (docDef d.name d.params d.body d.scope pm cd doc)->s₁.heap.CodeRec cd d.name->mg d.name=some (.ref fa) ->
   s₁.heap.get? a=some {cls:=.type "list",data:=.seq vs.toArray}->IntsAre vs ns->ns.length<=n->s₁.gens=#[] ->
   codeAny (model l.prog w) callerA (.call (.ref fa) ⟨[.ref a],[]⟩) (λr s'=>r=.ok (.ret (.bool true))/\OldK s₁.heap s'.heap/\s'.os=s₁.os/\AllBare s'.gens) s₁) :
  WalkO q loose XP YP l.row.toRowW d [] (λf vs=>PySem.call f vs):=by
 intro w s₀ s₁ mg mb G Y fa o pm cd doc dV kV ho hd hcd hD hmg hg args vals as hpre hlay hrd hwl hlo
 obtain rfl:dV=.none:=Dflts.none hD hdf
 obtain rfl:kV=.none:=Dflts.noKw hD
 obtain⟨a,vs,ns,rfl,rfl,hobj,hints,hlen⟩:=Zny hn hpre hwl
 refine enter_call (codeAny_mono (call w s₀ s₁ mg mb fa o pm cd doc a vs ns G Y ho (fd_plain hd) hcd hmg hobj hints hlen hg) λr s' hq=>?_)
 obtain⟨rfl,h2,h3,h4⟩:=hq
 exact⟨.inl ⟨.bool true,.bool true,[],rfl,λ_=>rfl,.bool true,Znz l _,λ_=>⟨List.Pairwise.nil,λ_ hm=>(nomatch hm)⟩⟩,h2,h3,h4⟩
end Att
namespace L2
open PySem PySem.Spec PyProof.Rows
theorem Zjg:∀{vs:List Value}{ns:List Int},IntsAre vs ns->Vals (ns.map V.int) vs
 |_,_,.nil=>.nil
 |_,_,.cons n t h=>.cons ⟨t,rfl⟩ (Zjg h)
noncomputable def Only (H:Hp):Prop:=∀b,H b=none\/∃o xs,H b=some (.frz o (.lst xs))
theorem Zo1 {P:Program}{w:World}{K:PySem.W.Frag}{mg mb:Str->Option Value}{CX:CXT}{k:Nat}{fa a:Addr}{fd:FuncData}{x:Str}{sp:Sp}{s₁:Shared}{vs:List Value}{ns:List Int}
  (KX:K.In s₁.heap) (hns:s₁.heap.Ns mainGlobals mg) (hb:s₁.heap.Ns builtinsNs mb) (hbb:∀x:Str,x≠"__name__"->mb x=bootBuiltins x) (hlim:s₁.heap.NoLimit) (hg:s₁.gens=#[])
  (ha:s₁.heap.get? a=some {cls:=.type "list",data:=.seq vs.toArray}) (hi:IntsAre vs ns) (hl:ns.length<=sizeLine) (hr:Room k callerA)
  (F:∀base:Heap,K.In base->base.Ns mainGlobals mg->FnOk P w K mg base CX k fa fd [x] sp) (hbind:∀(s:Shared) (u:Value),BindsTo s fd ⟨[u],[]⟩ [(x,u)])
  (hsp:∀H:Hp,Only H->SqL K H a (ns.map V.int)->sp [.ref a] H (λv _=>v=.bl true) λ_ _ _=>False)
  (hCX:∀H e s',CX [] H s₁ (λ_ _ _=>False) e s'->False) :
  codeAny (model P w) callerA (.call (.ref fa) ⟨[.ref a],[]⟩) (λr s'=>r=.ok (.ret (.bool true))/\OldK s₁.heap s'.heap/\s'.os=s₁.os/\AllBare s'.gens) s₁:=by
 have rv:=Zjg hi
 have lenV:=hi.length
 -- from an abstract heap in which nothing but the script may be tracked
 have core:∀H:Hp,Only H->SqL K H a (ns.map V.int)->HOk P w H s₁.heap->(∀b,H b≠none->b=a)->(H a≠none->K.lookup a=none) ->
   codeAny (model P w) callerA (.call (.ref fa) ⟨[.ref a],[]⟩) (λr s'=>r=.ok (.ret (.bool true))/\OldK s₁.heap s'.heap/\s'.os=s₁.os/\AllBare s'.gens) s₁:=by
  intro H hO hS hok hA hK
  have base_of:∀{b:Addr}{o:Obj},s₁.heap.get? b=some o->H b=none->(ZjG s₁.heap H).get? b=some o:=λe n=>ZoD e n
  have noA:∀{b:Addr}{o:Obj}{es:Array DictEntry}{ep:Nat},s₁.heap.get? b=some o->o.data=.dict es ep->H b=none:=λ{b o es ep} e d=>by
   cases q:H b with
   |none=>rfl
   |some u =>
    have e':b=a:=hA b (by rw[q];simp)
    subst e'
    rw[ha]at e;cases e
    have d':Data.seq vs.toArray _=Data.dict es ep:=d
    cases d'
  have nsK:∀{b:Addr}{m:Str->Option Value},s₁.heap.Ns b m->(ZjG s₁.heap H).Ns b m:=λ{b m} ⟨o,es,ep,e,d,r⟩=>⟨o,es,ep,base_of e (noA e d),d,r⟩
  have hKb:K.In (ZjG s₁.heap H):=λb o e=>base_of (KX b o e) (by
   cases q:H b with
   |none=>rfl
   |some u =>
    have e':b=a:=hA b (by rw[q];simp)
    subst e'
    rw[hK (by rw[q];simp)]at e;cases e)
  have hM:Mod K mg (ZjG s₁.heap H):=⟨hKb,nsK hns,⟨mb,nsK hb,hbb⟩,let ⟨mc,h1,h2⟩:=hlim;⟨mc,nsK h1,h2⟩⟩
  have e0:Env0 P w K mg (ZjG s₁.heap H) callerA [] s₁ H:=⟨rfl,hM,λb o e=>ZqL e,Y5 (Znn _ _),trivial,λb hb=>absurd (show b∈([]:List Addr)from hb) (by simp),hok,.of_eq hg⟩
  refine codeAny_mono ((F _ hKb (nsK hns)).run callerA [] s₁ H ⟨[.ref a],[]⟩ [.ref a] [.ref a] _ _ hr e0 (hbind s₁ (.ref a)) (.cons rfl .nil) (hsp H hO hS)) λr s' h=>?_
  cases r with
  |error e=>exact(hCX H e s' h).elim
  |ok fl =>
   cases fl with
   |next=>exact False.elim h
   |brk=>exact False.elim h
   |cont=>exact False.elim h
   |ret u =>
    obtain⟨v,H',os,bare,un,hok',r',q⟩:=h
    have q':v=.bl true:=q
    subst q'
    obtain rfl:u=Value.bool true:=r'
    refine⟨rfl,OldK.of_keep λb o e=>?_,os,bare⟩
    cases q:H b with
    |none=>exact un.keep b o e q (by intro z;exact absurd (show b∈([]:List Addr)from z) (by simp)) (by simp)
    |some u =>
     rcases hO b with z|⟨ob,xs,z⟩
     ·rw[q]at z;cases z
     ·have z2:=un.frzs b ob _ z
      obtain⟨e1,_⟩:=hok b _ z
      obtain⟨e2,_⟩:=hok' b _ z2
      rw[e]at e1;cases e1
      exact e2
 cases hk:K.lookup a with
 |some o =>
  -- the script is one of the module's own objects
  have e:=KX a o hk
  rw[ha]at e
  cases e
  refine core (λ_=>none) (λ_=>.inl rfl) (.inr ⟨_,vs.toArray,_,hk,rfl,rfl,rfl,by rw[Yl,lenV];exact hl,by simpa using rv⟩) (λb u z=>by have z':(none:Option HO)=some u:=z;cases z') (λb z=>absurd rfl z) λz=>absurd rfl z
 |none =>
  refine core (λb=>if b=a then some (.frz {cls:=.type "list",data:=.seq vs.toArray} (.lst (ns.map V.int)))else none) (λb=>?_) (.inl (.inr ⟨{cls:=.type "list",data:=.seq vs.toArray},Yc rfl⟩)) (λb u z=>?_) (λb z=>?_) λ_=>hk
  ·by_cases hb:b=a
   ·exact .inr ⟨_,_,Yc hb⟩
   ·exact .inl (Yb hb)
  ·by_cases hb:b=a
   ·have z':=(Yc hb).symm.trans z
    cases z'
    subst hb
    exact⟨ha,by rw[Yi];exact hl,vs,_,rv,ha⟩
   ·have z':=(Yb hb).symm.trans z
    cases z'
  ·by_cases hb:b=a
   ·exact hb
   ·exact absurd (Yb hb) z
theorem ZqS {l:PySem.W.OpenLaw}{n k:Nat}{q:Program}{loose:List Str}{XP:(Str->Option Value)->Heap->Prop}{YP:World->Heap->Prop}{d:DefRec}{K:Params->PySem.W.Frag}{CX:World->CXT}{sp:World->Sp}{x:Str}
  (hn:l.most=some n) (hn2:n<=sizeLine) (hdf:d.params.defaults=[]) (hr:Room k callerA)
  (hY:∀(w:World) (h:Heap),YP w h->(K w.params).In h)
  (F:∀(w:World) (mg:Str->Option Value) (fa:Addr) (h:Heap),(K w.params).In h->h.Ns mainGlobals mg->mg d.name=some (.ref fa) ->
   ∃fd:FuncData,(∀(s:Shared) (u:Value),BindsTo s fd ⟨[u],[]⟩ [(x,u)]) /\
    ∀base:Heap,(K w.params).In base->base.Ns mainGlobals mg->FnOk l.prog w (K w.params) mg base (CX w) k fa fd [x] (sp w))
  (hsp:∀(w:World) (H:Hp) (a:Addr) (ns:List Int),ns.length<=n->Only H->SqL (K w.params) H a (ns.map V.int)->sp w [.ref a] H (λv _=>v=.bl true) λ_ _ _=>False)
  (hCX:∀(w:World) (H:Hp) (s:Shared) (e:Value) (s':Shared),CX w [] H s (λ_ _ _=>False) e s'->False) :
  PySem.W.WalkO q loose XP YP l.row.toRowW d [] (λf vs=>PySem.call f vs):=by
 refine Att.ZkJ hn hdf λw s₀ s₁ mg mb fa o pm cd doc a vs ns G Y ho hd hcd hmg hobj hints hlen hg=>?_
 have KX:=hY w _ Y
 obtain⟨fd,hb,hF⟩:=F w mg fa _ KX G.T.g hmg
 exact Zo1 KX G.T.g G.T.b G.T.builtins G.T.nolimit hg hobj hints (Yg hlen hn2) hr hF hb (λH hO hS=>hsp w H a ns hlen hO hS) λH e s'=>hCX w H s₁ e s'
noncomputable def defArgs (s:Stmt):Arguments:=match s with
 |.FunctionDef _ a _ _ _ _ _ _ _ _=>a
 |_=>{posonlyargs:=[],args:=[],vararg:=none,kwonlyargs:=[],kw_defaults:=[],kwarg:=none,defaults:=[]}
noncomputable def defBody (s:Stmt):List Stmt:=match s with
 |.FunctionDef _ _ b _ _ _ _ _ _ _=>b
 |_=>[]
noncomputable def defScope (s:Stmt):Scope:=match s with
 |.FunctionDef _ _ _ _ _ _ sc _ _ _=>sc
 |_=>{kind:=.function,names:=[],isGenerator:=false,isCoroutine:=false}
noncomputable abbrev E0:XK:=λ_ _ _=>False
structure Fun (K:PySem.W.Frag) (x qual:Str) (st:Stmt) (f:Addr) (fd:FuncData):Prop where
 ex:∃(oc:Value) (od:Option Addr) (kV doc pm:Value) (an:Option Addr) (cdv ct:Value) (osl:Array (Option Value)),
  fd=PySem.W.fnOf x qual (defArgs st) (defBody st) (defScope st) .none kV doc pm an cdv ct/\K.lookup f=some ⟨oc,od,.func fd,osl⟩/\PySem.W.codeIn K cdv qual=true
 kp:PySem.W.keepIn K (.ref f)=true
section
variable {P:Program}{w:World}{K:PySem.W.Frag}{mg:Str->Option Value}{base:Heap}
theorem Fun.binds {x qual:Str}{st:Stmt}{f:Addr}{fd:FuncData}{ps:List Str} (F:Fun K x qual st f fd)
  (h:∀(kV doc pm:Value) (an:Option Addr) (cdv ct:Value) (us:List Value),us.length=ps.length->bindArgs (PySem.W.fnOf x qual (defArgs st) (defBody st) (defScope st) .none kV doc pm an cdv ct) ⟨us,[]⟩=pure (ps.zip us)):Binds K fd ps []:=by
 obtain⟨oc,od,kV,doc,pm,an,cdv,ct,osl,rfl,lk,hcd⟩:=F.ex
 exact .all (h kV doc pm an cdv ct)
theorem Zz {x qual:Str}{st:Stmt}{f:Addr}{oc:Value}{od an:Option Addr}{osl:Array (Option Value)}{kV doc pm cdv ct:Value} (l:K.lookup f=some ⟨oc,od,.func (PySem.W.fnOf x qual (defArgs st) (defBody st) (defScope st) .none kV doc pm an cdv ct),osl⟩)
  (c:PySem.W.codeIn K cdv qual=true) (k:PySem.W.keepIn K (.ref f)=true):Fun K x qual st f (PySem.W.fnOf x qual (defArgs st) (defBody st) (defScope st) .none kV doc pm an cdv ct):=⟨⟨oc,od,kV,doc,pm,an,cdv,ct,osl,rfl,l,c⟩,k⟩
end
section
variable {X:Cx}
theorem pv (i:Nat) {x:Str}{pos:Pos} (hN:X.N[i]?=some x:=by rfl) (hv:Vis X.env.scope x:=by first|exact Or.inl rfl|exact Or.inr (Or.inl rfl)|exact Or.inr (Or.inr rfl)) (hd:(x==("__debug__":Str))=false:=by decide)
  (hcd:(x==("__classdict__":Str))=false:=by decide):PE X (.Name x pos) (tVar i):=pe_var hN hv hd hcd
end
theorem ZR {c A B:Prop} [Decidable c] (h1:c->A) (h2:¬ c->B):if c then A else B:=by
 by_cases h:c
 ·rw[Yc h]
  exact h1 h
 ·rw[Yb h]
  exact h2 h
noncomputable def Zh (H H':Hp):Prop:=∀b o,H b=some o->H' b=some o
theorem Zh.refl (H:Hp):Zh H H:=λ_ _ h=>h
theorem Zh.trans {H H1 H2:Hp} (a:Zh H H1) (b:Zh H1 H2):Zh H H2:=λc o h=>b c o (a c o h)
theorem Zh.free {H H':Hp} (e:Zh H H') {l:Addr} (h:H' l=Option.none):H l=Option.none:=by
 cases q:H l with
 |none=>rfl
 |some o =>
  rw[e l o q]at h
  cases h
theorem Zh.seq {K:PySem.W.Frag}{H H':Hp}{a:Addr}{xs:List V} (e:Zh H H') (h:SqL K H a xs):SqL K H' a xs:=by
 rcases h with(h|⟨o,h⟩)|h
 ·exact .inl (.inl (e _ _ h))
 ·exact .inl (.inr ⟨o,e _ _ h⟩)
 ·exact .inr h
theorem Zfz {env:Env}:∀(names:List (Str×NameKind)) (cs0:List (Str×Addr)),(∀y∈names,y.2=.free->∃c,env.cells.lookup y.1=some c) ->
  ∃cl,(forIn names cs0 (λ(x:Str×NameKind) r=>(do
   match x with
   |(name,kind)=>if (kind==NameKind.free)=true then do let a <-cellOf env name;pure (ForInStep.yield ((name,a)::r))else pure (ForInStep.yield r)):_->_->Sem (ForInStep (List (Str×Addr)))))=pure cl /\
   (∀p∈cl,p∈cs0\/env.cells.lookup p.1=some p.2)/\(∀p∈cs0,p∈cl)/\(∀y∈names,y.2=.free->∃c,(y.1,c)∈cl)
 |[],cs0,_=>⟨cs0,rfl,λp h=>.inl h,λp h=>h,λy h=>by cases h⟩
 |(n,k)::r,cs0,h=>by
  by_cases hk:k=.free
  ·subst hk
   obtain⟨c,hc⟩:=h (n,.free) (.head _) rfl
   obtain⟨cl,e,h1,h2,h3⟩:=Zfz r ((n,c)::cs0) λy hy=>h y (.tail _ hy)
   refine⟨cl,?_,λp hp=>?_,λp hp=>h2 p (.tail _ hp),λy hy hf=>?_⟩
   ·rw[List.forIn_cons]
    have e1:cellOf env n=pure c:=by unfold cellOf;rw[hc]
    simp only[beq_self_eq_true,if_true,e1,pure_bind]
    exact e
   ·rcases h1 p hp with q|q
    ·rcases Yq.mp q with q|q
     ·subst q;exact .inr hc
     ·exact .inl q
    ·exact .inr q
   ·rcases Yq.mp hy with q|q
    ·subst q;exact⟨c,h2 _ (.head _)⟩
    ·exact h3 y q hf
  ·obtain⟨cl,e,h1,h2,h3⟩:=Zfz r cs0 λy hy=>h y (.tail _ hy)
   refine⟨cl,?_,h1,h2,λy hy hf=>?_⟩
   ·rw[List.forIn_cons]
    have e1:(k==NameKind.free)=false:=by cases k<;>first|rfl|exact absurd rfl hk
    simp only[e1,Bool.false_eq_true,if_false,pure_bind]
    exact e
   ·rcases Yq.mp hy with q|q
    ·subst q;exact absurd hf hk
    ·exact h3 y q hf
theorem Zbg {env:Env}:∀{names:List (Str×NameKind)}{x:Str}{k:NameKind},(names.map λ(n,k)=>if (k==NameKind.free&&env.scope.kind==.function&&env.kindOf n==some .cell)then (n,NameKind.cell)else (n,k)).lookup x=some k ->
  ∃k',names.lookup x=some k'/\(k=k'\/(k'=.free/\k=.cell))
 |[],_,_,h=>by simp at h
 |(n,k0)::r,x,k,h=>by
  by_cases hx:x=n
  ·subst hx
   refine⟨k0,by simp,?_⟩
   simp only[YQ]at h
   split at h
   ·rename_i hc
    simp only[Bool.and_eq_true,beq_iff_eq]at hc
    simp only[List.lookup_cons_self,Option.some.injEq]at h
    exact .inr ⟨hc.1.1,h.symm⟩
   ·simp only[List.lookup_cons_self,Option.some.injEq]at h
    exact .inl h.symm
  ·have hb:(x==n)=false:=by simpa using hx
   simp only[YQ]at h
   have e2:∀k1,((n,k1)::r).lookup x=r.lookup x:=λk1=>by simp[List.lookup_cons,hb]
   split at h<;>(simp only[List.lookup_cons,hb]at h;obtain⟨k',h1,h2⟩:=Zbg h;exact⟨k',by rw[e2];exact h1,h2⟩)
noncomputable def Zo2 (X:Cx) (Nc:List Str) (scope:Scope) (cl:List (Str×Addr)) (C:Addr) (s2:Shared) (H2:Hp) (fp:List Addr):Cx where
 prog:=X.prog
 w:=X.w
 K:=X.K
 mg:=X.mg
 base:=X.base
 A:=X.A
 N:=Nc
 s₀:=s2
 H₀:=H2
 env:=compEnvC scope cl C X.env
 outer:=X.stack
 stack:=X.stack
 ex:=fp
 fn:=λ_=>false
 calm:=X.calm
 pn:=[]
 xe:=λ_ _=>False
noncomputable def Zdp (js:List (Option Nat)) (σ:St):St:=js.map λj=>match j with
 |none=>none
 |some i=>(σ[i]?).join
noncomputable def Zbu (N Nc:List Str) (scope:Scope):List (Option Nat)->Nat->Bool
 |[],i=>i==Nc.length
 |none::r,i=>Zbu N Nc scope r (i+1)
 |some j::r,i=>(match Nc[i]?,N[j]? with
  |some x,some y=>x==y&&scope.names.lookup x==some .free
  |_,_=>false)&&Zbu N Nc scope r (i+1)
theorem ZfA {N Nc:List Str}{scope:Scope}:∀{js:List (Option Nat)}{i:Nat},Zbu N Nc scope js i=true->i+js.length=Nc.length
 |[],i,h=>by simpa[Zbu]using h
 |none::r,i,h=>by
  have:=ZfA (js:=r) (i:=i+1) (by simpa[Zbu]using h)
  simp only[YE];omega
 |some j::r,i,h=>by
  simp only[Zbu,Bool.and_eq_true]at h
  have:=ZfA (js:=r) (i:=i+1) h.2
  simp only[YE];omega
theorem ZgM {N Nc:List Str}{scope:Scope}:∀{js:List (Option Nat)}{i k j:Nat},Zbu N Nc scope js i=true->js[k]?=some (some j)->∃x,Nc[i+k]?=some x/\N[j]?=some x/\scope.names.lookup x=some .free
 |[],i,k,j,h,e=>by simp at e
 |none::r,i,0,j,h,e=>by simp at e
 |none::r,i,k+1,j,h,e=>by
  obtain⟨x,h1,h2,h3⟩:=ZgM (js:=r) (i:=i+1) (k:=k) (j:=j) (by simpa[Zbu]using h) (by simpa using e)
  exact⟨x,by rw[<-h1];congr 1;omega,h2,h3⟩
 |some j0::r,i,0,j,h,e=>by
  simp only[Zbu,Bool.and_eq_true]at h
  simp only[List.getElem?_cons_zero,Option.some.injEq]at e
  subst e
  cases e1:Nc[i]? with
  |none=>rw[e1]at h;simp at h
  |some x =>
   cases e2:N[j0]? with
   |none=>rw[e1,e2]at h;simp at h
   |some y =>
    rw[e1,e2]at h
    simp only[Bool.and_eq_true,beq_iff_eq]at h
    exact⟨x,by simpa using e1,by rw[h.1.1],h.1.2⟩
 |some j0::r,i,k+1,j,h,e=>by
  simp only[Zbu,Bool.and_eq_true]at h
  obtain⟨x,h1,h2,h3⟩:=ZgM (js:=r) (i:=i+1) (k:=k) (j:=j) h.2 (by simpa using e)
  exact⟨x,by rw[<-h1];congr 1;omega,h2,h3⟩
section
variable {X:Cx}
theorem lookup_mem {names:List (Str×NameKind)}{x:Str}{k:NameKind} (h:names.lookup x=some k):(x,k)∈names:=PySem.mem_of_lookup h
theorem ZeE {prog:Program}{w:World}{A:Around}{R:Result->Shared->Prop}{s:Shared}{elt target iter:Expr}{ifs:List Expr}{scope:Scope}{pos:Pos}{it acc:Value}{env:Env} (I:Nat->Shared->Prop)
  (turn:∀n s,I n s->wpAny (model prog w) A (pyNext it) (λr s₁=>match r with
   |none=>R (.ok .next) s₁
   |some v=>wpAny (model prog w) A (letOwnedTupleGo target it v) (λ_ s₁=>wpAny (model prog w) A (assign target env v) (λ_ s₂ =>
     wpAny (model prog w) A (forIn ifs true λc r=>if r=true then do let ok <-isTrue c env (eval c env);pure (ForInStep.yield ok)else pure (ForInStep.yield r)) (λok s₃ =>
      if ok=true then wpAny (model prog w) A (eval elt env) (λx s₄ =>
       wpAny (model prog w) A (call (.builtin "list.append") [acc,x]) (λ_ s₅=>∃m,m<n/\I m s₅) (λ_ _=>False) s₄) (λ_ _=>False) s₃
      else ∃m,m<n/\I m s₃) (λ_ _=>False) s₂) (λ_ _=>False) s₁) (λ_ _=>False) s₁) (λ_ _=>False) s)
  (n:Nat) (h:I n s) :
  codeAny (model prog w) A (.compLoop (.ListComp elt [⟨target,iter,ifs,0⟩] scope pos) 0 it acc env) R s:=by
 refine codeAny_loop rfl I (λn s hI=>?_) n h
 show wpAny _ A ((compTurn (.ListComp elt [⟨target,iter,ifs,0⟩] scope pos) 0 it acc env).onRaise (λx=>do noteFrame x env;theTreesLotGoes x)) _ _ s
 refine wpAny_noted ?_
 rw[compTurn_list]
 refine Ya (wpAny_standAt (Ya (YI (turn n s hI) (λr s₁ h₁=>?_) λ_ _ h'=>h'.elim)))
 cases r with
 |none=>exact Ye h₁
 |some v =>
  refine Ya (YI h₁ (λ_ s₁' h₁=>?_) λ_ _ h'=>h'.elim)
  refine Ya (YI h₁ (λ_ s₂ h₂=>Ya (YI h₂ (λok s₃ h₃=>?_) λ_ _ h'=>h'.elim)) λ_ _ h'=>h'.elim)
  cases ok with
  |false=>exact Ye ⟨rfl,h₃⟩
  |true =>
   exact Ya (Ya (YI h₃ (λx s₄ h₄=>Ya (YI h₄ (λ_ s₅ h₅=>Ye (Ye ⟨rfl,h₅⟩)) λ_ _ h'=>h'.elim)) λ_ _ h'=>h'.elim))
noncomputable def ZnA (X:Cx) (ifs:List Expr) (t:TT):Prop :=
 ∀(pins:List (Addr×Obj)) (s:Shared) (σ:St) (H:Hp) (Q:Bool->Hp->Prop),Inv X pins σ H s->t σ H Q ->
  wpAny (model X.prog X.w) X.A (forIn ifs true λc r=>if r=true then do let ok <-isTrue c X.env (eval c X.env);pure (ForInStep.yield ok)else pure (ForInStep.yield r)) (TP X pins σ Q) X.xe s
noncomputable def tYes:TT:=λ_ H Q=>Q true H
theorem Za9:ZnA X [] tYes:=λpins s σ H Q I h=>wpAny_tests_nil ⟨H,I,h⟩
theorem ZeF {c:Expr}{t:TT} (h:PT X c t):ZnA X [c] t:=λpins s σ H Q I hq=>wpAny_tests_one (h pins s σ H Q I hq)
noncomputable def Zc9 (L:List Nat) (σ σ':St):Prop:=σ'.length=σ.length/\∀k,k∉L->σ'[k]?=σ[k]?
noncomputable def Zjh (g:TG) (L:List Nat):Prop:=∀v σ H (Q Q':St->Hp->Prop),(∀σ' H',Zc9 L σ σ'->Q σ' H'->Q' σ' H')->g v σ H Q->g v σ H Q'
noncomputable def ZjT (g:TGs) (L:List Nat):Prop:=∀v σ H (Q Q':St->Hp->Prop),(∀σ' H',Zc9 L σ σ'->Q σ' H'->Q' σ' H')->g v σ H Q->g v σ H Q'
theorem Zc9.refl {L:List Nat}{σ:St}:Zc9 L σ σ:=⟨rfl,λ_ _=>rfl⟩
theorem Zc9.trans {L L':List Nat}{a b c:St} (x:Zc9 L a b) (y:Zc9 L' b c):Zc9 (L++L') a c :=
 ⟨y.1.trans x.1,λk hk=>(y.2 k λz=>hk (Yp _ z)).trans (x.2 k λz=>hk (YC _ z))⟩
theorem ZG {i:Nat}:Zjh (Zhj i) [i]:=λv σ H Q Q' hq h=>hq _ _ ⟨by simp,λk hk=>by
 rw[List.getElem?_set_ne]
 intro z;subst z;exact hk (by simp)⟩ h
theorem ZkK:ZjT gNil []:=λv σ H Q Q' hq h=>⟨h.1,hq _ _ Zc9.refl h.2⟩
theorem Ze8 {t:TG}{u:TGs}{L L':List Nat} (h1:Zjh t L) (h2:ZjT u L'):ZjT (Zmr t u) (L++L'):=λv σ H Q Q' hq h=>by
 obtain⟨x,r,e,h⟩:=h
 exact⟨x,r,e,h1 _ _ _ _ _ (fun σ' H' k1 q=>h2 _ _ _ _ _ (fun σ2 H2 k2 q2=>hq _ _ (k1.trans k2) q2) q) h⟩
theorem ZkL {K:PySem.W.Frag}{n:Nat}{t:TGs}{L:List Nat} (h:ZjT t L):Zjh (gTup K n t) L:=λv σ H Q Q' hq q=>by
 obtain⟨a,xs,e1,e2,e3,q⟩:=q
 exact⟨a,xs,e1,e2,e3,h _ _ _ _ _ hq q⟩
noncomputable def ZmC (wi:TI) (g:TG) (tt:TT) (te:TE) (js:List (Option Nat)):TE:=fun σ H Q=>wi σ H λJ H1=>∃W:Nat->Nat->List V->Hp->Prop,(∃m,W 0 m [] H1)/\∀i m acc H,W i m acc H ->
 (J.stop i H/\acc.length<=sizeLine/\∀p,H p=none->Q (.ref p) (upd H p (.lst acc))) \/
 (J.go i H/\acc.length<sizeLine/\∀x H',J.yld i H x H'->g x (Zdp js σ) H' fun σ2 H2=>tt σ2 H2 λb H3=>if b=true then te σ2 H3 λv H4=>∃m',m'<m/\W (i+1) m' (acc++[v]) H4 else ∃m',m'<m/\W (i+1) m' acc H3)
theorem ZjU {C:Addr}{h:Heap}:Heap.SameBut C h h:=by
 first|exact Heap.SameBut.refl|exact⟨rfl,λ_ _=>rfl⟩
end
end L2
namespace L2
open PySem PySem.Spec PyProof.Rows PySem.W PySem.Builtin.ObjectAttr PySem.Builtin.Getset_descriptor
noncomputable def ZkM (x C:Addr) (h:Heap):Prop:=∃o,h.get? x=some o/\o.cls=.ref C
structure ExK (K:Frag) (C:Addr):Prop where
 dk:hasDictIn K C=true
 ga:findIn K (.ref C) "__getattribute__"=some (some (.builtin "BaseException.__getattribute__"))
 gt:findIn K (.ref C) "__getattr__"=some none
 cl:findIn K (.ref C) "__class__"=some (some (.builtin "object.__class__"))
 gg:specialIn K (.builtin "object.__class__") "__get__"=some (some (.builtin "getset_descriptor.__get__"))
 tk:takesIn K (.builtin "object.__class__")=some true
 mo:mroIn K C (.type "object")=some true
 mb:mroIn K C (.type "BaseException")=some true
section
variable {K:Frag}{x C:Addr}
theorem ZkM.type {M:Model}{h:Heap} (I:ZkM x C h):Looks M h (typeOf (.ref x)) (.ref C):=by
 obtain⟨o,e,c⟩:=I
 exact c▸(Looks.ld e).andThen .now
theorem Zo3 {M:Model}{h:Heap} (X:K.In h) (Z:ExK K C):Looks M h (find (.ref x) (.ref C) "__class__") (.bind (.builtin "getset_descriptor.__get__") (.builtin "object.__class__")):=by
 have L3:=looks_takesIn (M:=M) X Z.tk
 exact(looks_findIn (M:=M) X Z.cl).andThen ((looks_specialIn X Z.gg).andThen
  ((show Looks M h (dataDescriptor? (some (.builtin "object.__class__")) (some (.builtin "getset_descriptor.__get__"))) (some (.builtin "getset_descriptor.__get__",.builtin "object.__class__"))from L3.andThen .now).andThen (Looks.tag .now)))
theorem ZqT {prog:Program}{w:World}{A:Around}{R:Result->Shared->Prop}{s:Shared}{tp:Value} (X:K.In s.heap) (I:ZkM x C s.heap) (Z:ExK K C) (hR:R (.ok (.ret (.ref C))) s) :
  codeAny (model prog w) A (.call (.builtin "getset_descriptor.__get__") ⟨[.builtin "object.__class__",.ref x,tp],[]⟩) R s:=by
 obtain⟨hp,gn,dw,tk,os⟩:=s
 have L0:=I.type (M:=model prog w)
 have L1:=looks_mroIn (M:=model prog w) X Z.mo
 refine codeAny_call_builtin KF.slot_gs.plain KF.entry_gs (KF.slot_gs.check _ _ _ _ _ _ _ _ KF.type_class (KF.args_gs _ _ _) ?_)
 unfold Builtin.«getset_descriptor.__get__» descrGet;rw[dga_obj];refine Ya (Ye ?_)
 unfold descrGetter descrCheckInstance descrNameAndClass isInstance;simp only[KF.owner_class]
 repeat lk
 refine⟨Code.quiet_builtin _ (by decide +kernel),codeAny_builtin KF.entry_class ?_⟩;unfold Builtin.«object.__class__» shownTypeOf
 repeat lk
 exact hR
theorem ZnB {prog:Program}{w:World}{A:Around}{E:Value->Shared->Prop}{s:Shared}{tk:Tok}{Q:Fin->Shared->Prop} (X:K.In s.heap) (I:ZkM x C s.heap) (Z:ExK K C) (hQ:Q (.done (.ret (.ref C))) s) :
  wpAny (model prog w) A (Builtin.«object.__getattribute__» ⟨[.ref x,.str "__class__" tk],[]⟩) Q E s:=by
 obtain⟨hp,gn,dw,t,os⟩:=s
 have L0:=I.type (M:=model prog w)
 have L2:=Zo3 (M:=model prog w) (x:=x) X Z
 unfold Builtin.«object.__getattribute__»
 refine Ya (Ye (Ya (Ye (Ya (L0.at (Ya (L2.at ?_)))))))
 show wpAny _ _ (holding _ (call _ _) >>= ret) _ _ _
 exact Ya (wpAny_holding (wpAny_call (ZqT (s:=⟨hp,gn,dw,t,os⟩) X I Z (Ye hQ))))
theorem ZnC {M:Model}{A:Around}{E:Value->Shared->Prop}{s:Shared}{nameV:Value}{Q:Unit->Shared->Prop} (X:K.In s.heap) (I:ZkM x C s.heap) (Z:ExK K C) (hq:Q () s) :
  wpAny M A (checkBuiltinCall "BaseException.__getattribute__" ⟨[.ref x,nameV],[]⟩) Q E s:=by
 obtain⟨hp,gn,dw,t,os⟩:=s
 have hk:builtinKind "BaseException.__getattribute__"=some .slot:=by decide +kernel
 have hsplit:splitId "BaseException.__getattribute__"=some ("BaseException","__getattribute__"):=by decide +kernel
 have L0:=I.type (M:=M)
 have L1:=looks_mroIn (M:=M) X Z.mb
 have ha:=F.args_bexc_ga (.ref x) nameV
 simp only[checkBuiltinCall,hk,hsplit]
 refine Ya ?_
 unfold isInstance
 refine Ya (L0.at (L1.at ?_))
 repeat (first|assumption|wp_step)
theorem ZnD {prog:Program}{w:World}{A:Around}{E:Value->Shared->Prop}{s:Shared}{Q:Option Value->Shared->Prop} (X:K.In s.heap) (I:ZkM x C s.heap) (Z:ExK K C) (hQ:Q (some (.ref C)) {s with toks:=s.toks+1}) :
  wpAny (model prog w) A (getAttr? (.ref x) "__class__") Q E s:=by
 obtain⟨hp,gn,dw,tk,os⟩:=s
 have L0:=I.type (M:=model prog w)
 have L1:=looks_findIn (M:=model prog w) X Z.ga
 have L3:=looks_findIn (M:=model prog w) X Z.gt
 have hb:=(F.attrBase_ValueError.ga).bind (.ref x)
 unfold getAttr? getAttrBy? getAttrBy;refine Ya (wpAny_mkText (Ya (wpAny_attempt (wpAny_holding (Ya (L0.at (Ya (L1.at ?_))))))))
 show wpAny _ _ (getAttrByItsOwn _ _ _ _ _ _) _ _ _
 unfold getAttrByItsOwn hookBefore
 refine Ya (L3.at ?_)
 refine Ya (wpAny_attempt (wpAny_holding ?_))
 unfold callGetattribute
 show wpAny _ _ (boundAndCalled _ _ _) _ _ _
 unfold boundAndCalled
 rw[hb]
 refine Ya (Ye ?_)
 refine wpAny_call ?_
 refine codeAny_call_builtin F.attrBase_ValueError.ga.plain F.entry_bexc_ga (ZnC (s:=⟨hp,gn,dw,tk+1,os⟩) X I Z (ZnB (s:=⟨hp,gn,dw,tk+1,os⟩) X I Z ?_))
 exact handed_on rfl (Ye hQ)
theorem ZqU (Z:ExK K C):KitX K (.ref x) (.ref C) (ZkM x C) where
 ty:=λ_ _ _ I=>I.type
 it:=λ_ _ X _=>by
  obtain⟨cdD,hcD,_⟩:=any_some Z.dk
  unfold clsIn at hcD
  split at hcD
  ·rename_i c' d' cd' sl' ho
   intro A' Q' E' s' k q
   unfold isType loadHead;exact Ya (wpAny_loadPart (k _ _ (X _ _ ho)) (Ye q))
  ·cases hcD
 ne:=λh tp dd its n sl X htp=>by
  obtain⟨cdD,hcD,_⟩:=any_some Z.dk
  refine Bool.eq_false_iff.mpr λq=>?_
  have e:C=tp:=Value.ref.inj (beq_iff_eq.mp q);subst e
  unfold clsIn at hcD
  split at hcD
  ·rename_i c' d' cd' sl' ho
   have z:=(X _ _ ho).symm.trans htp;cases z
  ·cases hcD
 ca:=λX I k=>ZnD X I Z k
end
noncomputable def ZkN (e C:Addr):HO:=.ext (ZkM e C)
noncomputable def tyIs (K:Frag) (H:Hp) (x:V) (c:Value) (b:Bool):Prop :=
 (∃t,TyOf K H x t/\kitOne K t c=some b)\/∃e C,x=.ref e/\H e=some (ZkN e C)/\ExK K C/\kitOne K (.ref C) c=some b
noncomputable def cOf:V->Option Value
 |.ref a=>some (.ref a)
 |.ty n=>some (.type n)
 |_=>none
section
variable {X:Cx}
noncomputable def rIsi (K:Frag):List V->Hp->VK->Prop:=λxs H Q=>∃x v c b,xs=[x,v]/\cOf v=some c/\tyIs K H x c b/\Q (.bl b) H
theorem Zo4:Zbs X (.builtin "isinstance") (rIsi X.K):=by
 intro pins s σ H xs us Q I r h
 obtain⟨x,v,c,b,rfl,hc,ht,q⟩:=h
 obtain⟨u,u2,rfl,ru,ru2⟩:=r.two
 have e2:u2=c:=by
  cases v with
  |ref a=>have:=(show u2=Value.ref a from ru2);cases hc;exact this
  |ty n=>have:=(show u2=Value.type n from ru2);cases hc;exact this
  |_=>cases hc
 subst e2
 have fin:∀tk,EP X pins σ Q (.bool b) {s with toks:=tk}:=λtk=>⟨.bl b,H,I.tok tk,rfl,q⟩
 rcases ht with⟨t,ty,e⟩|⟨e,C,rfl,hH,Z,e1⟩
 ·exact Znv I ru ty e fin
 ·cases(show u=Value.ref e from ru)
  obtain⟨p,_,_⟩:=(show ZaD X.prog X.w H s.heap e (ZkN e C)from I.hok e _ hH)
  exact kia_one (ZqU Z) I.kIn p e1 (λz=>nomatch z) fin
end
end L2
namespace L2
open PySem PySem.Spec PyProof.Rows
theorem ZaD.has {P:Program}{w:World}{H:Hp}{h:Heap}{a:Addr}{o:HO} (x:ZaD P w H h a o):∃u,h.get? a=some u:=by
 induction o with
 |lst xs=>obtain⟨_,_,_,_,e⟩:=x;exact⟨_,e⟩
 |tup xs=>obtain⟨_,_,_,o,e,_⟩:=x;exact⟨_,e⟩
 |dK kvs=>obtain⟨_,_,_,_,o,_,_,e,_⟩:=x;exact⟨_,e⟩
 |dT kvs=>obtain⟨_,_,_,_,o,_,_,e,_⟩:=x;exact⟨_,e⟩
 |set S n=>obtain⟨o,_,_,_,e,_⟩:=x;exact⟨_,e⟩
 |ins C dx fs=>obtain⟨_,_,_,e,_⟩:=x;exact⟨_,e⟩
 |own y=>exact x
 |xd fs=>obtain⟨_,⟨_,_,_,e,_⟩,_⟩:=x;exact⟨_,e⟩
 |rng lo hi=>obtain⟨_,_,_,e⟩:=x;exact⟨_,e⟩
 |frz ob u _=>obtain⟨e,_⟩:=x;exact⟨_,e⟩
 |tbl ps=>obtain⟨_,e,_⟩:=x;exact⟨_,e⟩
 |met f y=>exact⟨_,x⟩
 |ext φ=>obtain⟨_,e,_⟩:=x;exact e
structure Fly (P:Program) (w:World) (outer:List Env) (H:Hp) (s:Shared) (H':Hp) (B:Heap) (e:Addr) (C a0:Value) (s':Shared):Prop where
 os:s'.os=s.os
 bare:AllBare s'.gens
 fly:Heap.FlyingW B outer e C a0 s'.heap
 hok:HOk P w H' B
 keep:∀b o,s.heap.get? b=some o->H b=none->b∉frs outer->B.get? b=some o
 slot:∀b o,s.heap.get? b=some o->b∈frs outer->(∀vs,o.data≠.fields vs)->∃sl,s'.heap.get? b=some {o with slots:=sl}
 free:∀b o,s.heap.get? b=some o->H b=none->H' b=none
 there:∀b o,s.heap.get? b=some o->b∉frs outer->∃o',B.get? b=some o'
 tups:∀b xs,H b=some (.tup xs)->H' b=some (.tup xs)
 frzs:∀b o u,H b=some (.frz o u)->H' b=some (.frz o u)
 tbls:∀b ps,H b=some (.tbl ps)->∃more,H' b=some (.tbl (ps++more))
noncomputable def CXE (P:Program) (w:World):CXT:=λouter H s E ev s'=>∃e C a0 H' B,ev=.ref e/\Fly P w outer H s H' B e C a0 s'/\E C none H'
theorem Zy {P:Program}{w:World}{X:Cx}:Passes (CXE P w) X E0:=λ_ _ _ _ _ _ _ ⟨_,_,_,_,_,_,_,z⟩=>z.elim
section
variable {P:Program}{w:World}{K:PySem.W.Frag}{mg:Str->Option Value}{base:Heap}{N:List Str}{qual:Str}{scope:Scope}{f:Addr}{cd:Value}{A:Around}{outer:List Env}{s:Shared}{H:Hp}{E:XK}
theorem ZjV {pins:List (Addr×Obj)}{σ:St}{H1:Hp}{s1:Shared}{h':Heap}{e:Addr}{C:Value}{vs:List Value} (I:Inv (ZhA (CXE P w) P w K mg base N qual scope f cd A outer s H E) pins σ H1 s1)
  (hx:Heap.MadeExcOf s1.heap h' e C vs) (hE:E C none H1):(ZhA (CXE P w) P w K mg base N qual scope f cd A outer s H E).xe (.ref e) {s1 with heap:=h'}:=by
 let env:=envOfC qual scope s.heap.objs.size f cd
 let B:=PySem.W.hideAll s1.heap (frs (env::outer))
 have hin:∀en∈(env::outer),∀b,en.frame=some b->b∈frs (env::outer):=λen he b hb=>List.mem_filterMap.mpr ⟨en,he,hb⟩
 have st:s1.heap.FunFrames base (env::outer):=I.stack
 have loc:∀b,b∈frs (env::outer)->b=s.heap.objs.size\/b∈frs outer:=λb hb=>Yq.mp (I.ZgI b hb)
 have old:∀b o,s.heap.get? b=some o->b∉frs outer->b∉frs (env::outer):=λb o q nb hb=>by
  rcases loc b hb with z|z
  ·exact absurd (Yh q) (by rw[z];exact Yz _)
  ·exact nb z
 have un:Un (frs outer) [] H H1 s.heap s1.heap:=I.base
 have hokB:HOk P w H1 B:=λa o q=>by
  have nf:∀b o,H1 b=some o->b∉frs (env::outer):=λb o z hb=>by
   have:=I.ZjH b hb
   rw[this]at z;cases z
  refine(I.hok a o q).ZhQ (λb u hb z=>?_) (λ_ z=>z) (λ_ _ z=>z) λ_ _ _ z=>z
  rcases hb with hb|hb
  ·rw[hb]at z⊢;exact PySem.W.hideAll_get _ z (nf a o q)
  ·exact PySem.W.hideAll_get _ z (nf b _ hb)
 refine wpAny_leaves_madeW (base:=B) (h:=s1.heap) (env:=env) (outer:=outer) (L:=s.heap.objs.size) I.ok.frames rfl (λb o q=>PySem.W.of_hideAll _ q) (PySem.W.funFrames_hide st hin) hx λh2 t x1 x2 x3 x4=>?_
 refine⟨e,C,.ref t,H1,B,rfl,⟨I.os,I.bare,x1,hokB,λb o q n nb=>?_,λb o q hb hd=>?_,λb o q n=>un.free b o q n (by simp),λb o q nb=>?_,un.tups,un.frzs,un.tbls⟩,hE⟩
 ·exact PySem.W.hideAll_get _ (un.keep b o q n nb (by simp)) (old b o q nb)
 ·obtain⟨sl,z⟩:=un.slot b o q (I.ok.frf b hb) hb (by simp)
  obtain⟨sl2,z2⟩:=x4 b _ (hx.keeps _ _ z) hd
  exact⟨sl2,z2⟩
 ·obtain⟨o',z⟩:=un.there b o q (by simp)
  exact⟨o',PySem.W.hideAll_get _ z (old b o q nb)⟩
theorem ZdL:Passes (CXE P w) (ZhA (CXE P w) P w K mg base N qual scope f cd A outer s H E) E:=by
 intro pins σ H1 s1 ev s2 I h
 obtain⟨e,C,a0,H',B,rfl,F,hE⟩:=h
 let env:=envOfC qual scope s.heap.objs.size f cd
 have un:Un (frs outer) [] H H1 s.heap s1.heap:=I.base
 have loc:∀b,b∈frs (env::outer)->b=s.heap.objs.size\/b∈frs outer:=λb hb=>Yq.mp (I.ZgI b hb)
 have old:∀b o,s.heap.get? b=some o->b∉frs outer->b∉frs (env::outer):=λb o q nb hb=>by
  rcases loc b hb with z|z
  ·exact absurd (Yh q) (by rw[z];exact Yz _)
  ·exact nb z
 refine wpAny_leaves_onW (env:=env) (outer:=outer) (L:=s.heap.objs.size) I.ok.frames rfl F.fly λh2 x1 x2=>?_
 refine⟨e,C,a0,H',B,rfl,⟨F.os.trans I.os,F.bare,x1,F.hok,λb o q n nb=>F.keep b o (un.keep b o q n nb (by simp)) (un.free b o q n (by simp)) (old b o q nb),λb o q hb hd=>?_,λb o q n=>?_,λb o q nb=>?_,λb xs z=>F.tups b xs (un.tups b xs z),λb o u z=>F.frzs b o u (un.frzs b o u z),λb ps z=>?_⟩,hE⟩
 ·obtain⟨sl,z⟩:=un.slot b o q (I.ok.frf b hb) hb (by simp)
  obtain⟨en,he,hf⟩:=List.mem_filterMap.mp hb
  obtain⟨sl2,z2⟩:=F.slot b _ z (List.mem_filterMap.mpr ⟨en,.tail _ he,hf⟩) hd
  obtain⟨sl3,z3⟩:=x2 b _ z2 hd
  exact⟨sl3,z3⟩
 ·by_cases hb:b∈frs outer
  ·have h1:H1 b=none:=un.free b o q n (by simp)
   obtain⟨sl,z⟩:=un.slot b o q n hb (by simp)
   exact F.free b _ z h1
  ·exact F.free b o (un.keep b o q n hb (by simp)) (un.free b o q n (by simp))
 ·obtain⟨o',z⟩:=un.there b o q (by simp)
  exact F.there b o' z (old b o q nb)
 ·obtain⟨m1,z1⟩:=un.tbls b ps z
  obtain⟨m2,z2⟩:=F.tbls b _ z1
  exact⟨m1++m2,by rw[<-Array.append_assoc];exact z2⟩
end
abbrev bmV:List Value:=[.type "ValueError",.type "Exception",.type "BaseException",.type "object"]
abbrev newV:String:="ValueError.__new__"
theorem Zo5 {K:PySem.W.Frag}{h:Heap}{mg:Str->Option Value}{x:Str}{C:Addr} (X:K.In h) (hm:mg x=some (.ref C)) (q:PySem.W.excIn K C bmV newV=true):OwnCls x C bmV newV mg h:=by
 refine⟨hm,?_⟩
 unfold PySem.W.excIn at q;split at q
 ·rename_i dd cd sl ho
  split at q
  ·rename_i C' bm k0 k1 k2 k3 n k5 hmm hs
   simp only[Bool.and_eq_true,beq_iff_eq,Bool.not_eq_true']at q;obtain⟨⟨⟨⟨⟨rfl,rfl⟩,hdel⟩,ht⟩,hok⟩,hni⟩:=q
   obtain⟨nm,bs,mro,ns,qn,hd,sn,sub,ab,col,del⟩:=cd;dsimp only at hmm hdel hok hni;subst hmm hdel
   have hsl:sl=#[k0,k1,k2,k3,some (.builtin newV),k5]:=by obtain⟨l⟩:=sl;simp only at hs;rw[hs]
   subst hsl;exact⟨bm,ns,nm,qn,bs,hd,sn,sub,ab,col,dd,k0,k1,k2,k3,k5,_,X _ _ ho,.of_isNs (PySem.W.isNs_of_in X hok),PySem.W.nsMap_none_of_in X hok hni,PySem.W.tail_of_in X ht⟩
  ·cases q
 ·cases q
section
variable {X:Cx}
noncomputable def ZlF (C:Addr) (E:XK) (t:TA):TS:=λ_ σ H=>t σ H λvs H1=>vs.length<=sizeLine/\E (.ref C) none H1
theorem Zdq {x:Str}{C:Addr}{np cpos pos:Pos}{e0:Expr}{es:List Expr}{t:TA}{E:XK} (hc:X.calm=true) (hg:Gl X x) (hm:X.mg x=some (.ref C)) (q:PySem.W.excIn X.K C bmV newV=true) (ha:PA X (e0::es) t)
  (hx:∀pins σ H s h' e vs,Inv X pins σ H s->Heap.MadeExcOf s.heap h' e (.ref C) vs->E (.ref C) none H->X.xe (.ref e) {s with heap:=h'})
  (he:starEach (e0::es) X.env=(false,eval e0 X.env)::starEach es X.env:=by rfl) (hpl:(backTo cpos (starEach es X.env)).any (·.1)=false:=by rfl) (hd:(x==("__debug__":Str))=false:=by decide) :
  PS X (.Raise (some (.Call (.Name x np) (e0::es) [] cpos)) none pos) (ZlF C E t):=by
 intro pins s σ H D I h
 obtain⟨tl,Nn,nm,qn,bs,hdct,sn,sub,ab,col,dd,k0,k1,k2,k3,k5,mN,hC,hN,hni,T⟩:=(Zo5 (x:=x) I.mod.kin hm q).obj
 refine wpAny_Raise_call_subT (C:=C) (nm:=nm) (q:=qn) (N:=Nn) (bs:=bs) (bm:=tl) (hdct:=hdct) (sn:=sn) (sub:=sub) (ab:=ab) (col:=col) (dd:=dd) (k0:=k0) (k1:=k1) (k2:=k2) (k3:=k3) (k5:=k5)
  PySem.F.excBase_ValueError (mN:=mN) (T.hasType PySem.F.excBase_ValueError.hasBase) (I.ok.hd hc) (by rw[he];show(false||(backTo cpos (starEach es X.env)).any (·.1))=false;rw[hpl];rfl) hni (Zf1 I hg hm ⟨rfl,?_⟩ hd)
 have h2:=ha cpos pins s σ H _ I h
 rw[he]at h2⊢
 exact Calls.evalArgs_plain (thn h2 λus s2 ⟨vs,H2,I2,r,z,q2⟩=>⟨rfl,by rw[<-r.length];exact z,I2.bk _ _ hC,hN.keeps I2.bk,T.keeps I2.bk,λh' e hm'=>hx pins σ H2 s2 h' e us I2 hm' q2⟩)
end
noncomputable def Cx.tries (X:Cx) (Ec:St->XK) (pl:List (Addr×Obj)):Cx:={X with pn:=X.pn++pl,xe:=λev s'=>∃σ H s,Inv X pl σ H s/\CXE X.prog X.w X.stack H s (Ec σ) ev s'}
noncomputable def Cx.Zfq (X:Cx) (A':Around):Cx:={X with A:=A',calm:=false,xe:=λ_ _=>False}
section
variable {X:Cx}
theorem Inv.tries {pins:List (Addr×Obj)}{σ:St}{H:Hp}{s:Shared} (I:Inv X pins σ H s) (Ec:St->XK):Inv (X.tries Ec pins) [] σ H s :=
 ⟨⟨I.ok.mod,I.ok.kind,I.ok.glob,I.ok.blt,I.ok.above,I.ok.inj,I.ok.has,I.ok.cab,I.ok.hd,I.ok.frames,I.ok.stk,I.ok.exf,I.ok.bs,I.ok.bsz,I.ok.noex,I.ok.exfs,I.ok.funs,I.ok.frf⟩,I.os,I.bare,I.base,I.loc,I.cell,I.free,I.freeC,
  λp hp=>I.pin p (by simpa[Cx.tries]using hp),I.hok,I.len⟩
theorem Inv.Zf5 {pins pl:List (Addr×Obj)}{σ:St}{H:Hp}{s:Shared}{Ec:St->XK} (I:Inv (X.tries Ec pl) pins σ H s):Inv X pl σ H s :=
 ⟨⟨I.ok.mod,I.ok.kind,I.ok.glob,I.ok.blt,I.ok.above,I.ok.inj,I.ok.has,I.ok.cab,I.ok.hd,I.ok.frames,I.ok.stk,I.ok.exf,I.ok.bs,I.ok.bsz,I.ok.noex,I.ok.exfs,I.ok.funs,I.ok.frf⟩,I.os,I.bare,I.base,I.loc,I.cell,I.free,I.freeC,
  λp hp=>I.pin p (YC _ (by simpa[Cx.tries]using hp)),I.hok,I.len⟩
theorem Inv.Zfq {pins:List (Addr×Obj)}{σ:St}{H:Hp}{s:Shared}{A':Around} (I:Inv X pins σ H s) (hA:A'.frames=X.A.frames):Inv (X.Zfq A') pins σ H s :=
 ⟨⟨I.ok.mod,I.ok.kind,I.ok.glob,I.ok.blt,I.ok.above,I.ok.inj,I.ok.has,I.ok.cab,(λz=>nomatch z),hA.trans I.ok.frames,I.ok.stk,I.ok.exf,I.ok.bs,I.ok.bsz,I.ok.noex,I.ok.exfs,I.ok.funs,I.ok.frf⟩,I.os,I.bare,I.base,I.loc,I.cell,I.free,I.freeC,I.pin,I.hok,I.len⟩
theorem Inv.ZqV {pins:List (Addr×Obj)}{σ:St}{H:Hp}{s:Shared}{A':Around} (ok:X.Ok) (I:Inv (X.Zfq A') pins σ H s):Inv X pins σ H s :=
 ⟨ok,I.os,I.bare,I.base,I.loc,I.cell,I.free,I.freeC,I.pin,I.hok,I.len⟩
noncomputable def ZjW (sp:Sp) (E:St->XK) (t:TA):TE:=fun σ H Q=>t σ H λvs H1=>sp vs H1 Q (E σ)
theorem Zo6 {f:Addr}{fd:FuncData}{ps:List Str}{sp:Sp}{k:Nat}{x:Str}{p pos:Pos}{e:Expr}{es:List Expr}{t:TA}{E:St->XK} (F:FnOk X.prog X.w X.K X.mg X.base (CXE X.prog X.w) k f fd ps sp) (hr:Room k X.A) (hg:Gl X x) (hm:X.mg x=some (.ref f)) (hk:PySem.W.keepIn X.K (.ref f)=true) (hb:Binds X.K fd ps [])
  (hx:∀pins σ H s ev s',Inv X pins σ H s->CXE X.prog X.w X.stack H s (E σ) ev s'->X.xe ev s') (ha:PA X (e::es) t)
  (hdb:(x==("__debug__":Str))=false:=by decide) (he:starEach (e::es) X.env=(false,eval e X.env)::starEach es X.env:=by rfl) (hpl:(backTo pos (starEach es X.env)).any (·.1)=false:=by rfl) :
  PE X (.Call (.Name x p) (e::es) [] pos) (ZjW sp E t):=by
 intro pins s σ H Q I h
 refine wpAny_Call_Name_kw (Zf1 I hg hm ?_ hdb)
 refine PySem.W.callWith_K (h₀:=X.base) I.ok.mod.kin hk (thn (ha pos pins s σ H _ I h) λus s1 ⟨vs,H1,I1,r,q⟩=>⟨I1.kIn,?_⟩) he hpl
 have hl:us.length=ps.length:=by rw[<-r.length];exact F.len _ _ _ _ q
 have hbb:=hb s1 us I1.kIn (by simpa using hl)
 rw[List.append_nil]at hbb
 refine wpAny_call (codeAny_mono (F.run X.A X.stack s1 H1 ⟨us,[]⟩ us vs Q (E σ) hr I1.env0 hbb r q) λr s' hq=>?_)
 cases r with
 |error ev=>exact hx pins σ H1 s1 ev s' I1 hq
 |ok fl =>
  cases fl with
  |ret u=>exact I1.after hq
  |next=>exact False.elim hq
  |brk=>exact False.elim hq
  |cont=>exact False.elim hq
theorem Zji {Ec:St->XK}{pl:List (Addr×Obj)}:∀pins σ H s ev s',Inv (X.tries Ec pl) pins σ H s->CXE X.prog X.w X.stack H s (Ec σ) ev s'->(X.tries Ec pl).xe ev s':=λpins σ H s ev s' I h=>⟨σ,H,s,I.Zf5,h⟩
theorem ZiR {M:Model}{A:Around}{E:Value->Shared->Prop}{C D:Addr}{nm' q':Str}{N':Addr}{bs' bm':List Value}{hdct':Bool}{sn':List Str}{sub':List Value}{ab':Bool}{col':Option Bool}{dd':Option Addr}{k0' k1' k2' k3' k5':Option Value}{newId':String}
  {h:Heap}{g:Array GenState}{d:Drawn}{t:Nat}{os:OsState}{e:Addr}{oe:Obj}{Q:Bool->Shared->Prop}
  (LC:PySem.W.Looks M h (isSubtype (.ref C) (.ref D)) true) (hD:h.get? D=some (excClassObj nm' q' D N' bs' bm' hdct' sn' sub' ab' col' dd' k0' k1' k2' k3' k5' newId'))
  (he:h.get? e=some oe) (hcls:oe.cls=.ref C) (hbase:bm'.contains (.type "BaseException")=true)
  (hq:Q true ⟨h,g,d,t,os⟩):wpAny M A (excMatches (.ref e) (.ref D)) Q E ⟨h,g,d,t,os⟩:=by
 have hcB:(Value.ref D::bm').contains (.type "BaseException")=true:=by rw[List.contains_cons,hbase,Bool.or_true]
 have f:=tc_notTuple
 unfold excMatches
 repeat (first|(with_reducible refine wpAny_loadPart_at he ?_;rw[hcls])|with_reducible refine wpAny_loadPart_at hD ?_|(with_reducible refine wpAny_isSubtype_exc hD ?_;rw[hcB])|(with_reducible refine LC.at ?_)|wp_step)
 exact hq
theorem Fly.land {pins:List (Addr×Obj)}{σ:St}{H1 H':Hp}{s1 s2:Shared}{B h5:Heap}{e C:Addr}{a0:Value} (I:Inv X pins σ H1 s1) (F:Fly X.prog X.w X.stack H1 s1 H' B e (.ref C) a0 s2)
  (fl:Heap.FlyingW B X.stack e (.ref C) a0 h5) (sm:s2.heap.UpToSlots h5):H' e=none/\Inv X pins σ (upd H' e (ZkN e C)) {s2 with heap:=h5}:=by
 obtain⟨oe,vs,hoe,hoc,hod,_⟩:=fl.first
 have nB:B.get? e=none:=fl.2.1
 have trk:∀b o,H' b=some o->b≠e:=λb o q z=>by
  obtain⟨u,hu⟩:=(F.hok b o q).has
  rw[z,nB]at hu;cases hu
 have hHe:H' e=none:=by
  cases q:H' e with
  |none=>rfl
  |some o=>exact absurd rfl (trk e o q)
 have nfr:e∉frs X.stack:=λhb=>by
  obtain⟨_,o,ho,hd⟩:=fl.2.2.1.mem hb
  rw[hoe]at ho;cases ho
  exact hd _ hod
 have frd:∀b o,s1.heap.get? b=some o->b∈frs X.stack->∀vs,o.data≠.fields vs:=λb o q hb=>by
  obtain⟨_,o',ho,hd⟩:=I.stack.mem hb
  rw[q]at ho;cases ho
  exact hd
 refine⟨hHe,I.call' (s':={s2 with heap:=h5}) (ch:=[]) F.os ⟨λb o q n nb _=>fl.1 b o (F.keep b o q n nb),λb o q n hb _=>?_,λb o q n _=>?_,λb o q _=>?_,λb xs q=>?_,λb o u q=>?_,λb ps q=>?_⟩ (λa o q=>?_) F.bare λb z=>absurd z (by simp)⟩
 ·obtain⟨sl,z⟩:=F.slot b o q hb (frd b o q hb)
  obtain⟨sl2,z2⟩:=sm b _ z (frd b o q hb)
  exact⟨sl2,z2⟩
 ·rw[Zm]
  ·exact F.free b o q n
  ·intro z
   by_cases hb:b∈frs X.stack
   ·exact nfr (z▸hb)
   ·have:=F.keep b o q n hb
    rw[z,nB]at this;cases this
 ·by_cases hb:b∈frs X.stack
  ·obtain⟨sl,z⟩:=F.slot b o q hb (frd b o q hb)
   obtain⟨sl2,z2⟩:=sm b _ z (frd b o q hb)
   exact⟨_,z2⟩
  ·obtain⟨o',z⟩:=F.there b o q hb
   exact⟨o',fl.1 b o' z⟩
 ·have z:=F.tups b xs q;rw[Zm (trk b _ z)];exact z
 ·have z:=F.frzs b o u q;rw[Zm (trk b _ z)];exact z
 ·obtain⟨m,z⟩:=F.tbls b ps q
  exact⟨m,by rw[Zm (trk b _ z)];exact z⟩
 ·by_cases ha:a=e
  ·subst ha
   rw[Zd]at q;cases q
   exact⟨⟨oe,hoe,hoc⟩,⟨oe,hoe⟩,λh1 h2 ⟨o,z1,z2⟩ k=>⟨o,k o z1,z2⟩⟩
  ·rw[Zm ha]at q
   exact(F.hok a o q).ZhQ (λb u _ z=>fl.1 b u z) (λb z=>by rw[Zm (trk b _ z)];exact z) (λb xs z=>by rw[Zm (trk b _ z)];exact z) λb o u z=>by rw[Zm (trk b _ z)];exact z
theorem Inv.forget {pins:List (Addr×Obj)}{σ:St}{H:Hp}{s:Shared}{h':Heap}{j:Nat}{n:Str}{m:Str->Option Value}{u:Option Value} (I:Inv X pins σ H s) (hj:X.N[j]?=some n) (hN:X.N.Nodup)
  (hl:∀(i:Nat) (x:Str) (v:V),X.N[i]?=some x->σ[i]?=some (some v)->Vis X.env.scope x->∃u,RelV v u/\Look X.env s.heap m x u)
  (hn:h'.Ns X.env.locals (λx=>if x=n then u else m x)) (hs:Heap.SameBut X.env.locals s.heap h'):Inv X pins (σ.set j none) H {s with heap:=h'}:=by
 have same:∀b o,b≠X.env.locals->s.heap.get? b=some o->h'.get? b=some o:=λb o hb e=>hs.extBut b o hb e
 have old:∀b o,X.s₀.heap.get? b=some o->b≠X.env.locals:=λb o e=>Yo (Yu (Yh e) I.ok.above)
 have trk:∀b o,H b=some o->b≠X.env.locals:=λb o e z=>by rw[z,I.free]at e;cases e
 refine⟨I.ok,I.os,I.bare,⟨λb o e n hb hx=>same _ _ (old b o e) (I.base.keep b o e n hb hx),λb o e n hb hx=>?_,I.base.free,λb o e hx=>?_,I.base.tups,I.base.frzs,I.base.tbls⟩,⟨_,hn,λi x v e1 e2 e3=>?_⟩,λx c e=>?_,I.free,I.freeC,λp hp=>?_,λa o e=>?_,by rw[List.length_set];exact I.len⟩
 ·obtain⟨sl,z⟩:=I.base.slot b o e n hb hx
  exact⟨sl,same _ _ (old b o e) z⟩
 ·obtain⟨o',z⟩:=I.base.there b o e hx
  exact⟨o',same _ _ (old b o e) z⟩
 ·have hij:i≠j:=λz=>by
   subst z
   rw[List.getElem?_set]at e2
   split at e2
   ·split at e2<;>cases e2
   ·rename_i hh;exact hh rfl
  rw[List.getElem?_set_ne (Ne.symm hij)]at e2
  obtain⟨w,r,l⟩:=hl i x v e1 e2 e3
  refine⟨w,r,?_⟩
  have hxn:x≠n:=λz=>by subst z;exact hij (ZhR hN e1 hj)
  rcases l with⟨l1,l2⟩|⟨l1,c,l2,l3⟩
  ·exact .inl ⟨l1,by show(if x=n then u else m x)=_;rw[Yb hxn];exact l2⟩
  ·obtain⟨oc,z1,z2⟩:=l3
   exact .inr ⟨l1,c,l2,oc,same _ _ (I.cne x c l2) z1,z2⟩
 ·obtain⟨v,oc,z1,z2⟩:=I.cell x c e
  exact⟨v,oc,same _ _ (I.cne x c e) z1,z2⟩
 ·obtain⟨z1,z2,z3,z4,z5⟩:=I.pin p hp
  exact⟨same _ _ z3 z1,z2,z3,z4,z5⟩
 ·refine(I.hok a o e).ZhQ (λb u hb z=>same b u ?_ z) (λ_ z=>z) (λ_ _ z=>z) λ_ _ _ z=>z
  rcases hb with hb|hb
  ·rw[hb];exact trk a o e
  ·exact trk b _ hb
noncomputable def tTry (K:PySem.W.Frag) (D:Addr) (tb:(St->XK)->TS) (ts:TS) (j:Nat):TS:=λDe σ H=>∃Ec:St->XK,tb Ec De σ H/\∀σ1 C H1,Ec σ1 C none H1->∃C',C=.ref C'/\PySem.W.mroIn K C' (.ref D)=some true /\
 ∀e,H1 e=none->ts {nx:=fun σ2 H2=>De.nx (σ2.set j none) H2,rt:=λ_ _=>False} (σ1.set j (some (.ref e))) (upd H1 e (ZkN e C'))
theorem ps_try {body:List Stmt}{n x:Str}{np hpos pos:Pos}{b0:Stmt}{Zfq:List Stmt}{D:Addr}{tb:(St->XK)->TS}{ts:TS}{j:Nat}
  (hst:X.stack=X.env::X.outer/\X.env.frame=some X.env.locals) (hN:X.N.Nodup) (hj:X.N[j]?=some n) (hn:X.env.scope.names.lookup n=some .local)
  (hg:Gl X x) (hm:X.mg x=some (.ref D)) (qD:PySem.W.excIn X.K D bmV newV=true) (hb:∀Ec pl,PSs (X.tries Ec pl) body (tb Ec)) (hs:∀A',PSs (X.Zfq A') (b0::Zfq) ts)
  (hd:(x==("__debug__":Str))=false:=by decide) :
  PS X (.Try body [.ExceptHandler (some (.Name x np)) (some n) (b0::Zfq) hpos] [] [] pos) (tTry X.K D tb ts j):=by
 intro pins s σ H De I h
 obtain⟨Ec,hb1,hx⟩:=h
 refine wpAny_Try_except (YI (hb Ec pins [] s σ H De (I.tries Ec) hb1) (λfl s1 q=>?_) λev s1 q=>?_)
 ·cases fl with
  |next=>obtain⟨σ',H',I',q⟩:=q;exact wpAny_execs_nil ⟨σ',H',I'.Zf5,q⟩
  |brk=>obtain⟨σ',H',I',q⟩:=q;exact⟨σ',H',I'.Zf5,q⟩
  |cont=>obtain⟨σ',H',I',q⟩:=q;exact⟨σ',H',I'.Zf5,q⟩
  |ret u=>obtain⟨v,σ',H',I',r,q⟩:=q;exact⟨v,σ',H',I'.Zf5,r,q⟩
 ·obtain⟨σ1,H1,s0,I1,e,C,a0,H',B,rfl,F,hE⟩:=q
  obtain⟨C',rfl,hup,hx⟩:=hx σ1 C H' hE
  refine wpAny_looks_onW (by rw[I.ok.frames,hst.1]) hst.2 (hst.1▸F.fly) λh4 held sm4=>?_
  refine wpAny_landsW held λh5 fl5 sm5=>?_
  have fl5':Heap.FlyingW B X.stack e (.ref C') a0 h5:=by rw[hst.1];exact fl5
  obtain⟨hHe,I5⟩:=F.land I1 fl5' (sm4.trans sm5)
  refine wpAny_handleBy_cons (codeAny_handlers_test ?_) (by intro q;cases q)
  have I5s:=I5.Zfq (A':=X.A.mark (some (.ref e))) rfl
  refine Zf1 (X:=X.Zfq (X.A.mark (some (.ref e)))) I5s hg hm ?_ hd
  obtain⟨tl,Nn,nm,qn,bs,hdct,sn,sub,ab,col,dd,k0,k1,k2,k3,k5,mN,hC,_,_,T⟩:=(Zo5 (x:=x) I5.kIn hm qD).obj
  obtain⟨oe,hoe,hoc⟩:=fl5.there
  refine ZiR (PySem.W.looks_mroIn I5.kIn hup) hC hoe hoc (T.hasType PySem.F.excBase_ValueError.hasBase) ?_
  refine codeAny_handlers_suite_as ?_
  refine lands_againW fl5 λh6 fl6 sm6=>?_
  obtain⟨_,I6⟩:=F.land I1 (h5:=h6) (by rw[hst.1];exact fl6) ((sm4.trans sm5).trans sm6)
  refine Zew I6 hN hj (Or.inl hn) (v:=.ref e) rfl (λs7 I7=>?_) (.inr hn)
  refine YI (hs _ pins s7 _ _ _ (I7.Zfq rfl) (hx e hHe)) (λfl s8 q=>?_) λ_ _ z=>z.elim
  cases fl with
  |brk=>obtain⟨_,_,_,q⟩:=q;exact q.elim
  |cont=>obtain⟨_,_,_,q⟩:=q;exact q.elim
  |ret u=>obtain⟨_,_,_,_,_,q⟩:=q;exact q.elim
  |next =>
   obtain⟨σ8,H8,I8,q8⟩:=q
   have I8':=I8.ZqV I.ok
   refine Ya (wpAny_bindName (Zew I8' hN hj (Or.inl hn) (v:=.non) (u:=.none) rfl (λs9 I9=>?_) (.inr hn)))
   unfold unbindBehindTheSuite
   refine wpAny_onRaise ?_
   obtain⟨m9,hn9,hl9⟩:=I9.loc
   have hlen:j < σ8.length:=by
    have e1:=I8'.len
    have e2:=(Ys.mp hj).1
    omega
   obtain⟨u9,r9,l9⟩:=hl9 j n .non hj (by rw[List.getElem?_set_self hlen]) (Or.inl hn)
   have hm9:m9 n=some u9:=by
    rcases l9 with⟨_,z⟩|⟨z,_⟩
    ·exact z
    ·rcases z with z|z
     ·rw[show X.env.kindOf n=some .local from hn]at z;cases z
     ·rw[show X.env.kindOf n=some .local from hn]at z;cases z
   refine wpAny_unbindName_local hn hn9 hm9 (by rw[I.ok.kind];rfl) λh' u hns hsb=>?_
   have J:=I9.forget hj hN hl9 hns hsb
   rw[List.set_set]at J
   exact⟨_,_,J,q8⟩
end
section
variable {P:Program}{w:World}{K:PySem.W.Frag}{mg:Str->Option Value}{base:Heap}
theorem Fun.okX {x qual:Str}{st:Stmt}{f:Addr}{fd:FuncData}{N ps:List Str}{k:Nat}{sp:Sp} (F:Fun K x qual st f fd) (S:FnScope N ps (defScope st)) (len:∀vs H Q E,sp vs H Q E->vs.length=ps.length)
  (hbody:∀(cdv:Value) (A:Around) (outer:List Env) (s:Shared) (H:Hp) (vs:List V) (Q:VK) (E:XK),Room k (A.deeper (envOfC qual (defScope st) s.heap.objs.size f cdv))->sp vs H Q E ->
   ∃t,PSs (ZhA (CXE P w) P w K mg base N qual (defScope st) f cdv A outer s H E) (defBody st) t/\t {nx:=λ_ H'=>Q .non H',rt:=Q} (start N vs) H):FnOk P w K mg base (CXE P w) (k+1) f fd ps sp:=by
 obtain⟨oc,od,kV,doc,pm,an,cdv,ct,osl,rfl,lk,hcd⟩:=F.ex
 exact fn_of lk hcd S len λA outer s H vs Q E hr hsp=>hbody cdv A outer s H vs Q E hr hsp
end
end L2
namespace L2
open PySem PySem.Spec PyProof.Rows PySem.W
theorem Zf6:∀{ns:List Int}{us:List Value},Vals (ns.map V.int) us->∃xs:Array (Int×Tok),us.toArray=intItems xs/\xs.toList.map (·.1)=ns
 |[],_,.nil=>⟨#[],by simp[intItems],rfl⟩
 |n::ns,_,.cons (b:=u) r t=>by
  obtain⟨tk,rfl⟩:=(show ∃t,u=Value.int n t from r)
  obtain⟨xs,e1,e2⟩:=Zf6 t
  refine⟨#[(n,tk)]++xs,?_,by simp[e2]⟩
  have:∀(l:List Value),(Value.int n tk::l).toArray=#[Value.int n tk]++l.toArray:=λl=>by simp
  rw[this,e1]
  simp[intItems]
section
variable {X:Cx}
theorem Zbc:OpR X (binaryOp .Mult) (rI IntMulOk λi j=>.int (i*j)):=opI λ_ _ _ _ _ _ _ hc q=>mul_int q hc
noncomputable def rSum (K:Frag):List V->Hp->VK->Prop:=λxs H Q=>∃(p:Addr) (ns:List Int),xs=[.ref p]/\SqL K H p (ns.map V.int)/\Q (.int ns.sum) H
theorem Zo7 (hc:X.calm=true):Zbs X (.builtin "sum") (rSum X.K):=by
 intro pins s σ H xs us Q I r h
 obtain⟨p,ns,rfl,hp,q⟩:=h
 obtain⟨u,rfl,ru⟩:=r.one
 cases(show u=Value.ref p from ru)
 obtain⟨its,rv,pl,hz⟩:=I.list hp
 obtain⟨ys,e1,e2⟩:=Zf6 rv
 refine sum_intListG (xs:=ys) (I.ok.hd hc) (e1▸pl.isList) λh' tk t' k=>⟨.int ns.sum,H,I.kept k,⟨t',?_⟩,q⟩
 congr 1
 rw[preSum_eq,<-e2,List.take_of_length_le (by simp)]
noncomputable def PJ (X:Cx) (es:List (Sem Value)) (t:St->Hp->(Hp->Prop)->Prop):Prop :=
 ∀(out:Str) (pins:List (Addr×Obj)) (s:Shared) (σ:St) (H:Hp) (Q:Hp->Prop),out.length+2000*es.length<=100000->Inv X pins σ H s->t σ H Q ->
  wpAny (model X.prog X.w) X.A (joinParts out es) (λu s'=>∃y tk H',u=.str y tk/\Inv X pins σ H' s'/\Q H') X.xe s
theorem ZjX:PJ X [] (λ_ H Q=>Q H):=λout pins s σ H Q hl I h =>
 joinParts_nil ⟨out,_,H,rfl,I.tok _,h⟩ (by simp at hl;exact Yg hl (by decide))
theorem ZdM {x:Str}{j:Nat}{pos:Pos}{es:List (Sem Value)}{t:St->Hp->(Hp->Prop)->Prop} (hx:x.length<=2000) (h:PJ X es t):PJ X (eval (.Constant (.str x) j pos) X.env::es) t:=by
 intro out pins s σ H Q hl I hq
 have hl':(out++x).length+2000*es.length<=100000:=by rw[PySem.strLen_append];simp at hl;omega
 refine joinParts_cons (Calls.Constant_str ⟨Yg (Yg (Nat.le_add_right _ _) hl') (by decide),?_⟩)
 exact h _ pins _ σ H Q hl' (I.tok _) hq
theorem ZnE {i:Int} (h0:0<=i) (h1:i<10 ^ 18):i.natAbs.log2<1920:=by
 by_cases hz:i.natAbs=0
 ·rw[hz];decide
 ·have h3:i.natAbs<2 ^ 60:=by
   have:(2:Nat) ^ 60=1152921504606846976:=by decide
   have h2:(10:Int) ^ 18=1000000000000000000:=by decide
   omega
  exact Yu ((Nat.log2_lt hz).mpr h3) (by decide)
theorem ZjY {e:Expr}{pos:Pos}{es:List (Sem Value)}{te:TE}{t:St->Hp->(Hp->Prop)->Prop} (he:PE X e te) (h:PJ X es t):PJ X (eval (.FormattedValue e (-1) none pos) X.env::es) (fun σ H Q=>te σ H λx H1=>∃i:Int,x=.int i/\(0<=i/\i<10 ^ 18)/\t σ H1 Q):=by
 intro out pins s σ H Q hl I hq
 refine joinParts_cons (FormattedValue_plain (thn (he pins s σ H _ I hq) λu s1 ⟨x,H1,I1,r1,i,ex,⟨h0,h1⟩,q⟩=>?_))
 subst ex
 obtain⟨tk,rfl⟩:=(show ∃t,u=Value.int i t from r1)
 refine wpAny_formatField_int (ZnE h0 h1) ?_
 have hx:(Str.ofString (toString i)).length<=18:=toString_length_le h0 (by decide) h1
 have hl':(out++Str.ofString (toString i)).length+2000*es.length<=100000:=by rw[PySem.strLen_append];simp at hl;omega
 refine⟨Yg (Yg (Nat.le_add_right _ _) hl') (by decide),?_⟩
 exact h _ pins _ σ H1 Q hl' (I1.tok _) q
theorem ZkO (env:Env):∀l:List Expr,(evalEach l env).length=l.length
 |[]=>rfl
 |e::r=>by
  have:evalEach (e::r) env=eval e env::evalEach r env:=rfl
  rw[this,YE,YE,ZkO env r]
theorem Ze9 {e1 e2:Expr}{rest:List Expr}{pos:Pos}{t:St->Hp->(Hp->Prop)->Prop} (h:PJ X (eval e1 X.env::eval e2 X.env::evalEach rest X.env) t) (hn:rest.length<=20:=by decide) :
  PE X (.JoinedStr (e1::e2::rest) pos) (fun σ H Q=>t σ H λH1=>∀y,Q (.str y) H1):=by
 intro pins s σ H Q I hq
 have hle:=ZkO X.env rest
 refine JoinedStr_many (thn (h Str.empty pins s σ H _ (by simp only[YE,hle];show 0+_<=_;omega) I hq) λu s' ⟨y,tk,H',e,I',q⟩=>?_)
 subst e
 exact⟨.str y,H',I',⟨tk,rfl⟩,q y⟩
end
noncomputable def clsAt (mg:Str->Option Value) (x:Str):Addr:=match mg x with
 |some (.ref C)=>C
 |_=>0
noncomputable def tokAt (mg:Str->Option Value) (x:Str):Tok:=match mg x with
 |some (.int _ t)=>t
 |_=>default
noncomputable def Callee (P:Program) (w:World) (K:Frag) (mg:Str->Option Value) (base:Heap) (x:Str) (k:Nat) (ps:List Str) (sp:Sp):Prop :=
 ∃f fd,mg x=some (.ref f)/\keepIn K (.ref f)=true/\Binds K fd ps []/\FnOk P w K mg base (CXE P w) k f fd ps sp
section
variable {X:Cx}
theorem Zbh {st:Stmt}{t:TS} (h:PS X.nox st t):PS X st t:=λpins s σ H D I hw =>
 YI (h pins s σ H D (I.ZiL _) hw) (λ_ _ q=>q.Zez) λ_ _ z=>False.elim z
theorem Zi {x:Str}{k:Nat}{ps:List Str}{sp:Sp}{E:XK}{e:Expr}{es:List Expr}{t:TA}{p pos:Pos} (C:Callee X.prog X.w X.K X.mg X.base x k ps sp) (hr:Room k X.A) (hg:Gl X x) (hx:Passes (CXE X.prog X.w) X E)
  (ha:PA X (e::es) t) (hdb:(x==("__debug__":Str))=false:=by decide) (he:starEach (e::es) X.env=(false,eval e X.env)::starEach es X.env:=by rfl) (hpl:(backTo pos (starEach es X.env)).any (·.1)=false:=by rfl) :
  PE X (.Call (.Name x p) (e::es) [] pos) (Zmy sp [] E t):=by
 obtain⟨f,fd,hm,hk,hb,F⟩:=C
 exact ZqP F hr hg hm hk hb .nil hx ha hdb he hpl
theorem ZcD {x:Str}{k:Nat}{ps:List Str}{sp:Sp}{E:St->XK}{e:Expr}{es:List Expr}{t:TA}{p pos:Pos} (C:Callee X.prog X.w X.K X.mg X.base x k ps sp) (hr:Room k X.A) (hg:Gl X x)
  (hx:∀pins σ H s ev s',Inv X pins σ H s->CXE X.prog X.w X.stack H s (E σ) ev s'->X.xe ev s')
  (ha:PA X (e::es) t) (hdb:(x==("__debug__":Str))=false:=by decide) (he:starEach (e::es) X.env=(false,eval e X.env)::starEach es X.env:=by rfl) (hpl:(backTo pos (starEach es X.env)).any (·.1)=false:=by rfl) :
  PE X (.Call (.Name x p) (e::es) [] pos) (ZjW sp E t):=by
 obtain⟨f,fd,hm,hk,hb,F⟩:=C
 exact Zo6 F hr hg hm hk hb hx ha hdb he hpl
theorem Zfa {P:Program}{w:World}{K:Frag}{mg:Str->Option Value}{base:Heap}{N:List Str}{qual:Str}{scope:Scope}{f:Addr}{cd:Value}{A:Around}{outer:List Env}{s0:Shared}{H0:Hp}{E:XK}{C:Addr} :
  ∀pins σ H s h' e vs,Inv (ZhA (CXE P w) P w K mg base N qual scope f cd A outer s0 H0 E) pins σ H s->Heap.MadeExcOf s.heap h' e (.ref C) vs->E (.ref C) none H->(ZhA (CXE P w) P w K mg base N qual scope f cd A outer s0 H0 E).xe (.ref e) {s with heap:=h'} :=
 λ_ _ _ _ _ _ _ I hx hE=>ZjV I hx hE
end
theorem ZlG:bootBuiltins "max"=some (.builtin "max"):=by decide +kernel
theorem Zo8:bootBuiltins "min"=some (.builtin "min"):=by decide +kernel
theorem ZjZ:bootBuiltins "sum"=some (.builtin "sum"):=by decide +kernel
theorem Zu:bootBuiltins "isinstance"=some (.builtin "isinstance"):=by decide +kernel
theorem ZmD:bootBuiltins "list"=some (.type "list"):=by decide +kernel
theorem Zau:bootBuiltins "tuple"=some (.type "tuple"):=by decide +kernel
theorem Zj0:bootBuiltins "int"=some (.type "int"):=by decide +kernel
theorem Zfr:bootBuiltins "ValueError"=some (.type "ValueError"):=by decide +kernel
section
variable {X:Cx}{pins:List (Addr×Obj)}{σ:St}{H:Hp}{s:Shared}{h':Heap}
theorem Inv.ZmE {t':Nat}{fp:List Addr} (I:Inv X pins σ H s) (k:∀b o,b∉fp->s.heap.get? b=some o->h'.get? b=some o) (hf:∀b∈fp,FpOk X pins H b):Inv X pins σ H {s with heap:=h',toks:=t'}:=by
 have nit:∀b u,H b=some u->b∉fp:=λb u e z=>by rw[(hf b z).1]at e;cases e
 refine I.step (g':=s.gens) (d':=s.drawn) (ch:=fp) (λb hb=>?_) (λb o _ _ hc e _=>k b o hc e) (λb o _ _ hc e _=>⟨o.slots,k b o hc e⟩) (λ_ _ _ _ n=>n)
  (λb o hc e=>⟨o,k b o hc e⟩) (λ_ _ e=>e) (λ_ _ _ e=>e) (λb ps e=>⟨#[],by rw[e];simp⟩) (λm hm=>?_) (λb u e=>?_) I.bare
 ·obtain⟨_,f1,_,f3,f4,f5⟩:=hf b hb
  exact⟨f3,f1,f4,f5⟩
 ·obtain⟨o,es,ep,ho,r⟩:=hm
  exact⟨o,es,ep,k _ o (λz=>(hf _ z).2.1 rfl) ho,r⟩
 ·refine(I.hok b u e).ZhQ (λc v hc q=>k c v ?_ q) (λ_ q=>q) (λ_ _ q=>q) λ_ _ _ q=>q
  rcases hc with z|z
  ·rw[z];exact nit b u e
  ·exact nit c _ z
end
theorem cxK {CX:CXT}{P:Program}{w:World}{K:Frag}{mg:Str->Option Value}{base:Heap}{N:List Str}{qual:Str}{scope:Scope}{f:Addr}{cd:Value}{A:Around}{outer:List Env}{s:Shared}{H:Hp}{E:XK} :
  (ZhA CX P w K mg base N qual scope f cd A outer s H E).K=K:=rfl
theorem Zh.upd {H H1:Hp}{p:Addr}{o:HO} (h:H p=none) (e:Zh H H1):Zh H (upd H1 p o):=λb u z=>by
 rw[Zm (Zs z h)];exact e b u z
theorem Zh.ZC {H H1:Hp}{p:Addr}{o:HO} (e:Zh H H1) (h:H1 p=none):Zh H (L2.upd H1 p o):=e.upd (e.free h)
theorem ZmF {X:Cx}{K:Frag}{es:List Expr}{pos:Pos}{k:Nat}{t:TGs}{n:Nat} (hK:X.K=K) (hc:X.calm=true) (h:PGs X es t)
  (hn:(assignEach es X.env).length=n:=by rfl) (hst:(assignEach es X.env).findIdx? (·.1)=none:=by rfl):PG X (.Tuple es k pos) (gTup K n t):=hK▸ZhU hc h hn hst
noncomputable def LoopR (J:It) (g:TG) (tb:TS) (D:Ends) (σ:St) (H1:Hp):Prop:=∃W:Nat->Nat->St->Hp->Prop,(∃m,W 0 m σ H1)/\∀i m σ H,W i m σ H ->
 (J.stop i H/\D.nx σ H)\/(J.go i H/\∃N:St->Hp->Prop,(∀σ' H',N σ' H'->∃m',m'<m/\W (i+1) m' σ' H')/\∀x H',J.yld i H x H'->g x σ H' fun σ2 H2=>tb {D with nx:=N,ct:=N,bk:=D.nx} σ2 H2)
theorem ZmG {wi:TI}{g:TG}{tb:TS}{D:Ends}{σ:St}{H:Hp}:tFor wi g tb D σ H=wi σ H λJ H1=>LoopR J g tb D σ H1:=rfl
noncomputable def Zo9 (c:TT) (tb:TS) (D:Ends) (σ:St) (H:Hp):Prop:=Zly c tb D σ H
theorem Zjj {c:TT}{tb:TS}{D:Ends}{σ:St}{H:Hp}:Zly c tb D σ H=Zo9 c tb D σ H:=rfl
noncomputable def ZkP (J:It) (g:TG) (tt:TT) (te:TE) (σ0:St) (Q:VK) (H1:Hp):Prop:=∃W:Nat->Nat->List V->Hp->Prop,(∃m,W 0 m [] H1)/\∀i m acc H,W i m acc H ->
 (J.stop i H/\acc.length<=sizeLine/\∀p,H p=none->Q (.ref p) (upd H p (.lst acc))) \/
 (J.go i H/\acc.length<sizeLine/\∀x H',J.yld i H x H'->g x σ0 H' fun σ2 H2=>tt σ2 H2 λb H3=>if b=true then te σ2 H3 λv H4=>∃m',m'<m/\W (i+1) m' (acc++[v]) H4 else ∃m',m'<m/\W (i+1) m' acc H3)
theorem ZkQ {wi:TI}{g:TG}{tt:TT}{te:TE}{js:List (Option Nat)}{σ:St}{H:Hp}{Q:VK}:ZmC wi g tt te js σ H Q=wi σ H λJ H1=>ZkP J g tt te (Zdp js σ) Q H1:=rfl
noncomputable def CW (n:Nat) (vals:Nat->V) (H1:Hp) (i m:Nat) (acc:List V) (H:Hp):Prop:=m=n-i/\i<=n/\acc=(List.range i).map vals/\Zh H1 H
theorem CW.next {n:Nat}{vals:Nat->V}{H1 H:Hp}{i:Nat}{v:V} (hi:i<n) (hv:v=vals i) (s:Zh H1 H):∃m',m'<n-i/\CW n vals H1 (i+1) m' ((List.range i).map vals++[v]) H :=
 ⟨n-(i+1),by omega,rfl,hi,by rw[YF,YL,hv];rfl,s⟩
theorem comp_map {J:It}{n:Nat}{H1:Hp}{g:TG}{tt:TT}{te:TE}{σ0:St}{Q:VK} (vals:Nat->V) (hn:n<sizeLine) (hgo:∀i H,Zh H1 H->i<n->J.go i H) (hstop:∀H,Zh H1 H->J.stop n H)
  (hb:∀i x H H',i<n->Zh H1 H->J.yld i H x H'->g x σ0 H' fun σ2 H2=>tt σ2 H2 λb H3=>if b=true then te σ2 H3 λv H4=>∃m',m'<n-i/\CW n vals H1 (i+1) m' ((List.range i).map vals++[v]) H4 else ∃m',m'<n-i/\CW n vals H1 (i+1) m' ((List.range i).map vals) H3)
  (hk:∀l H',Zh H1 H'->H' l=none->Q (.ref l) (upd H' l (.lst ((List.range n).map vals)))) :
  ZkP J g tt te σ0 Q H1:=by
 refine⟨CW n vals H1,⟨n,rfl,Yn _,rfl,Zh.refl _⟩,?_⟩
 rintro i m acc H ⟨rfl,hi,rfl,s⟩
 by_cases h:i<n
 ·refine .inr ⟨hgo i H s h,by simpa using Nat.lt_trans h hn,λx H' y=>hb i x H H' h s y⟩
 ·have e:i=n:=by omega
  subst e
  exact .inl ⟨hstop H s,by simpa using YT hn,λp hp=>hk p H s hp⟩
theorem Zh1 {α:Type}{xs:List α}{i:Int}{j:Nat} (h:i=(j:Int)) (hj:j<xs.length):atI xs i=some xs[j]:=by
 subst h
 unfold atI ixN
 rw[Yc (by omega),Yc (by omega)]
 simp
theorem ZmH {α:Type}{xs:List α}{i:Int} (C:α->Prop) (h0:0<=i) (h1:i<xs.length) (h:∀x∈xs,C x):∃v,atI xs i=some v/\C v:=by
 obtain⟨j,rfl⟩:=YM h0
 have hj:j<xs.length:=by omega
 exact⟨xs[j],Zh1 rfl hj,h _ (Y2 hj)⟩
theorem mul_r {a b:Int} (h1:-(2 ^ 64)<b) (h2:b<2 ^ 64):IntMulOk a b:=IntMulOk.of_right (intBits_le_64 h1 h2)
theorem Zhm {a b:Int} (h1:-(2 ^ 64)<a) (h2:a<2 ^ 64):IntMulOk a b:=IntMulOk.of_left (intBits_le_64 h1 h2)
theorem Zj1 {a b:Int} (ha:Builtin.Int.intBits a<=2 ^ 20) (hb:Builtin.Int.intBits b<=2 ^ 20):IntMulOk a b:=IntMulOk.of_bits ha hb
theorem cp18:ZiM 10 18:=by unfold ZiM;decide
theorem cp9:ZiM 10 9:=by unfold ZiM;decide
theorem cp59:ZiM 10 59:=by unfold ZiM;decide
noncomputable def Exc (p:Addr) (H H':Hp):Prop:=∀b o,b≠p->H b=some o->H' b=some o
theorem Zh.exc {H H1 H2:Hp}{p:Addr} (s:Zh H H1) (h:H p=none) (e:Exc p H1 H2):Zh H H2:=λb o z=>e b o (Zs z h) (s b o z)
theorem Zh.ZmI {H H':Hp}{p:Addr} (s:Zh H H'):Exc p H H':=λb o _ z=>s b o z
theorem Exc.upd {H:Hp}{p:Addr}{o:HO}:Exc p H (L2.upd H p o):=λb u n z=>by rw[Zm n];exact z
theorem range_getD {α β:Type} (xs:List α) (d:α) (f:α->β) (n:Nat) (h:n=xs.length):(List.range n).map (λj=>f (xs.getD j d))=xs.map f:=by
 subst h
 refine List.ext_getElem (by simp) λj h1 h2=>?_
 have hj:j<xs.length:=by simpa using h1
 simp[Yj,hj]
theorem Zab {K:Frag}{H:Hp}{p:Addr}{xs:List V} (h:H p=some (.lst xs)):tyV K "list" (.ref p) H:=.inl ⟨rfl,_,SqL.of h⟩
theorem ZmJ {i j:Int}:ZkE (.int i) (.int j)=true:=rfl
theorem ZmK {i j:Bool}:ZkE (.bl i) (.bl j)=true:=rfl
theorem ZmL {i j:Str}:ZkE (.str i) (.str j)=true:=rfl
theorem ZmM:ZkE .non .non=true:=rfl
theorem ZmN {i:Int}:ZkE .non (.int i)=true:=rfl
theorem ZmO {i:Int}:ZkE (.int i) .non=true:=rfl
section
variable {X:Cx}
noncomputable def rLen (K:Frag):List V->Hp->VK->Prop:=λxs H Q=>∃p ys,xs=[.ref p]/\(SqL K H p ys\/SqT K H p ys)/\Q (.int ys.length) H
theorem Zo {K:Frag} (hK:X.K=K):Zbs X (.builtin "len") (rLen K):=by subst hK;exact ZjP
noncomputable def rLof (K:Frag):List V->Hp->VK->Prop:=λxs H Q=>∃p ys,xs=[.ref p]/\(SqL K H p ys\/SqT K H p ys)/\∀l,H l=none->Q (.ref l) (upd H l (.lst ys))
theorem ZlH {K:Frag} (hK:X.K=K):Zbs X (.type "list") (rLof K):=by subst hK;exact ZjQ
noncomputable def rTof (K:Frag):List V->Hp->VK->Prop:=λxs H Q=>∃p ys,xs=[.ref p]/\((SqL K H p ys/\∀l,H l=none->Q (.ref l) (upd H l (.tup ys)))\/(SqT K H p ys/\Q (.ref p) H))
theorem Zaz {K:Frag} (hK:X.K=K):Zbs X (.type "tuple") (rTof K):=by subst hK;exact ZiQ
theorem ZP {K:Frag} (hK:X.K=K):Zbs X (.builtin "isinstance") (rIsi K):=by subst hK;exact Zo4
end
theorem tyE {K:Frag}{H:Hp}{e C:Addr}{c:Value}{b:Bool} (he:H e=some (ZkN e C)) (Z:ExK K C) (k:kitOne K (.ref C) c=some b):tyIs K H (.ref e) c b:=.inr ⟨e,C,rfl,he,Z,k⟩
theorem ZkR {K:Frag}{t:Value}:kitOne K t t=some true:=by unfold kitOne;simp
theorem Zb6 {K:Frag}{A C:Addr}{b:Bool} (ne:A≠C) (h1:hasDictIn K C=true) (h2:typeIn K (.ref C)=some (.type "type")) (h3:subIn K (.ref A) (.ref C)=some b):kitOne K (.ref A) (.ref C)=some b:=by
 obtain⟨cd,hc,_⟩:=any_some h1
 unfold kitOne
 rw[Yb (by intro z;exact ne (Value.ref.inj (beq_iff_eq.mp z)))]
 unfold kitCls
 dsimp only
 rw[Yc (by rw[hc,h2];rfl)]
 exact h3
theorem kit_V {K:Frag}{A:Addr}{b:Bool} (h:subIn K (.ref A) (.type "ValueError")=some b):kitOne K (.ref A) (.type "ValueError")=some b:=by
 unfold kitOne
 rw[Yb (by intro z;cases beq_iff_eq.mp z)]
 unfold kitCls
 dsimp only
 rw[Yc (by decide +kernel)]
 exact h
theorem ZmP {a:Addr}{x:Value}:(cOf (.ref a)=some x)=(.ref a=x):=by simp[cOf]
theorem Zpa {n:String}{x:Value}:(cOf (.ty n)=some x)=(.type n=x):=by simp[cOf]
theorem Zpb {α:Type}{xs:List α}{z:α} (h:xs.getLast?=some z):atI xs (-1)=some z:=by
 unfold atI ixN
 cases xs with
 |nil=>cases h
 |cons x r =>
  have hl:(x::r).length=r.length+1:=by simp
  rw[hl,Yb (by omega),Yc (by omega)]
  have e:(-1+((r.length+1:Nat):Int)).toNat=r.length:=by omega
  rw[List.getLast?_eq_getElem?]at h
  show(x::r)[(-1+((r.length+1:Nat):Int)).toNat]?=_
  rw[e]
  simpa using h
noncomputable def Rows (H:Hp) (l:Addr) (rs:List (List Int)):Prop:=∃as:List Addr,H l=some (.lst (as.map V.ref))/\l∉as/\as.length=rs.length/\∀i (h1:i<as.length) (h2:i<rs.length),H as[i]=some (.lst (rs[i].map V.int))
inductive EqD (K:Frag) (H:Hp):Nat->V->V->Bool->Prop
 |flat {n:Nat}{x y:V} (fx:flatV x=true) (fy:flatV y=true):EqD K H n x y (eqV x y)
 |lst {n:Nat}{a b:Addr}{xs ys:List V} (e:Nat->Bool) (hx:SqL K H a xs) (hy:SqL K H b ys) (hl:xs.length=ys.length) (h:∀j x y,xs[j]?=some x->ys[j]?=some y->EqD K H n x y (e j)):EqD K H (n+1) (.ref a) (.ref b) ((List.range xs.length).all e)
 |len {n:Nat}{a b:Addr}{xs ys:List V} (hx:SqL K H a xs) (hy:SqL K H b ys) (hl:xs.length≠ys.length):EqD K H (n+1) (.ref a) (.ref b) false
 |tup {n:Nat}{a b:Addr}{xs ys:List V} (e:Nat->Bool) (hx:SqT K H a xs) (hy:SqT K H b ys) (h:∀j x y,xs[j]?=some x->ys[j]?=some y->EqD K H n x y (e j)):EqD K H (n+1) (.ref a) (.ref b) ((List.range (min xs.length ys.length)).all e&&xs.length==ys.length)
theorem Zpc {x:V} (h:flatV x=true):eqV x x=true:=by
 cases x<;>first
  |rfl
  |(simp[eqV];done)
  |cases h
section
variable {X:Cx}{pins:List (Addr×Obj)}{σ:St}{H:Hp}{s:Shared}
theorem ZkS (I:Inv X pins σ H s) {n:Nat}{x y:V}{b:Bool} (h:EqD X.K H n x y b):x=y->b=true:=by
 induction h with
 |flat fx fy=>rintro rfl;exact Zpc fx
 |lst e hx hy hl h ih =>
  intro z
  cases z
  have:=I.Zey hx hy
  subst this
  refine List.all_eq_true.mpr λj hj=>?_
  have hj':=YA.mp hj
  exact ih j _ _ (Yf hj') (Yf hj') rfl
 |len hx hy hl =>
  intro z
  cases z
  have:=I.Zey hx hy
  subst this
  exact absurd rfl hl
 |tup e hx hy h ih =>
  intro z
  cases z
  have:=I.ZgJ hx hy
  subst this
  rw[Nat.min_self]
  have:(List.range _).all e=true:=List.all_eq_true.mpr λj hj=>by
   have hj':=YA.mp hj
   exact ih j _ _ (Yf hj') (Yf hj') rfl
  rw[this];simp
theorem Zj2 (I:Inv X pins σ H s) {n:Nat}{x y:V}{b:Bool} (h:EqD X.K H n x y b):∀(A:Around) (u v:Value),A.units+n<cLine->RelV x u->RelV y v->SeqAt.EqAt A s u v b:=by
 induction h with
 |flat fx fy=>intro A u v _ ru rv;exact ZoZ ru rv fx fy
 |@lst n a b xs ys e hx hy hl h ih =>
  intro A u v hu ru rv
  have hb:=ZkS I (.lst e hx hy hl h)
  cases ru
  cases rv
  by_cases hab:a=b
  ·subst hab
   rw[hb rfl];exact SeqAt.EqAt.same _
  ·obtain⟨is1,r1,p1,_⟩:=I.list hx
   obtain⟨is2,r2,p2,_⟩:=I.list hy
   have e1:=r1.length
   have e2:=r2.length
   have key:=SeqAt.RcAt.lists (A:=A) (s:=s) (e:=e) p1.isList p2.isList (by simp;omega) (by omega) λj h1 h2=>by
    have h1':j<xs.length:=by simpa[e1]using h1
    have h2':j<ys.length:=by simpa[e2]using h2
    obtain⟨u,hu1,ru⟩:=r1.get (Yf h1')
    obtain⟨v,hv1,rv⟩:=r2.get (Yf h2')
    have eu:is1.toArray[j]=u:=by simpa using(Ys.mp hu1).2
    have ev:is2.toArray[j]=v:=by simpa using(Ys.mp hv1).2
    rw[eu,ev]
    exact ih j _ _ (Yf h1') (Yf h2') A.in1 u v (by show A.units+1+n<cLine;omega) ru rv
   have e3:is1.toArray.size=xs.length:=by simp[e1]
   rw[e3]at key
   exact SeqAt.EqAt.of_refs hab key
 |@len n a b xs ys hx hy hl =>
  intro A u v hu ru rv
  cases ru
  cases rv
  have hab:a≠b:=λz=>by subst z;exact hl (congrArg List.length (I.Zey hx hy))
  obtain⟨is1,r1,p1,_⟩:=I.list hx
  obtain⟨is2,r2,p2,_⟩:=I.list hy
  have e1:=r1.length
  have e2:=r2.length
  exact SeqAt.EqAt.of_refs hab (SeqAt.RcAt.lists_lengths p1.isList p2.isList (by simp;omega) (by omega))
 |@tup n a b xs ys e hx hy h ih =>
  intro A u v hu ru rv
  have hb:=ZkS I (.tup e hx hy h)
  cases ru
  cases rv
  by_cases hab:a=b
  ·subst hab
   rw[hb rfl];exact SeqAt.EqAt.same _
  ·obtain⟨is1,r1,p1,_⟩:=I.tuple hx
   obtain⟨is2,r2,p2,_⟩:=I.tuple hy
   have e1:=r1.length
   have e2:=r2.length
   have key:=SeqAt.RcAt.tuples (A:=A) (s:=s) (e:=e) p1 p2 (by omega) λj h1 h2=>by
    have h1':j<xs.length:=by simpa[e1]using h1
    have h2':j<ys.length:=by simpa[e2]using h2
    obtain⟨u,hu1,ru⟩:=r1.get (Yf h1')
    obtain⟨v,hv1,rv⟩:=r2.get (Yf h2')
    have eu:is1.toArray[j]=u:=by simpa using(Ys.mp hu1).2
    have ev:is2.toArray[j]=v:=by simpa using(Ys.mp hv1).2
    rw[eu,ev]
    exact ih j _ _ (Yf h1') (Yf h2') A.in1 u v (by show A.units+1+n<cLine;omega) ru rv
   have e3:is1.toArray.size=xs.length:=by simp[e1]
   have e4:is2.toArray.size=ys.length:=by simp[e2]
   rw[e3,e4]at key
   exact SeqAt.EqAt.of_refs hab key
end
noncomputable def rEqD (K:Frag) (neg:Bool):R2:=λx y H Q=>∃a b k,x=.ref a/\y=.ref b/\EqD K H 3 x y k/\Q (.bl (if neg then !k else k)) H
section
variable {X:Cx}
theorem Zj3 {K:Frag} (hK:X.K=K) {k:Nat} (hr:Room k X.A):OpR X (compareOp .Eq) (rEqD K false):=by
 subst hK
 have hu0:=hr.un
 intro pins s σ H x y v u Q I rx ry h
 obtain⟨a,b,k,rfl,rfl,h,q⟩:=h
 cases rx
 cases ry
 cases h with
 |flat fx fy=>cases fx
 |@lst n _ _ xs ys e hx hy hl h =>
  obtain⟨is1,r1,p1,_⟩:=I.list hx
  obtain⟨is2,r2,p2,_⟩:=I.list hy
  have e1:=r1.length
  have e2:=r2.length
  have e3:is1.toArray.size=xs.length:=by simp[e1]
  refine SeqAt.eq_listAt (e:=e) p1.isList p2.isList (by simp;omega) (by omega) (λj h1 h2=>?_) ⟨.bl _,H,I,rfl,by rw[e3];exact q⟩
  have h1':j<xs.length:=by simpa[e1]using h1
  have h2':j<ys.length:=by simpa[e2]using h2
  obtain⟨u,hu1,ru⟩:=r1.get (Yf h1')
  obtain⟨v,hv1,rv⟩:=r2.get (Yf h2')
  have eu:is1.toArray[j]=u:=by simpa using(Ys.mp hu1).2
  have ev:is2.toArray[j]=v:=by simpa using(Ys.mp hv1).2
  rw[eu,ev]
  exact Zj2 I (h j _ _ (Yf h1') (Yf h2')) X.A.in1 u v (by show X.A.units+1+2<cLine;omega) ru rv
 |@len n _ _ xs ys hx hy hl =>
  obtain⟨is1,r1,p1,_⟩:=I.list hx
  obtain⟨is2,r2,p2,_⟩:=I.list hy
  have e1:=r1.length
  have e2:=r2.length
  exact SeqAt.eq_list_lengthsAt p1.isList p2.isList (by simp;omega) (by omega) ⟨.bl _,H,I,rfl,q⟩
 |@tup n _ _ xs ys e hx hy h =>
  obtain⟨is1,r1,p1,_⟩:=I.tuple hx
  obtain⟨is2,r2,p2,_⟩:=I.tuple hy
  have e1:=r1.length
  have e2:=r2.length
  have e3:is1.toArray.size=xs.length:=by simp[e1]
  have e4:is2.toArray.size=ys.length:=by simp[e2]
  refine SeqAt.eq_tupleAt (e:=e) p1 p2 (by omega) (λj h1 h2=>?_) ⟨.bl _,H,I,rfl,by rw[e3,e4];exact q⟩
  have h1':j<xs.length:=by simpa[e1]using h1
  have h2':j<ys.length:=by simpa[e2]using h2
  obtain⟨u,hu1,ru⟩:=r1.get (Yf h1')
  obtain⟨v,hv1,rv⟩:=r2.get (Yf h2')
  have eu:is1.toArray[j]=u:=by simpa using(Ys.mp hu1).2
  have ev:is2.toArray[j]=v:=by simpa using(Ys.mp hv1).2
  rw[eu,ev]
  exact Zj2 I (h j _ _ (Yf h1') (Yf h2')) X.A.in1 u v (by show X.A.units+1+2<cLine;omega) ru rv
theorem Zpd {K:Frag} (hK:X.K=K) {k:Nat} (hr:Room k X.A):OpR X (compareOp .NotEq) (rEqD K true):=by
 subst hK
 have hu0:=hr.un
 intro pins s σ H x y v u Q I rx ry h
 obtain⟨a,b,k,rfl,rfl,h,q⟩:=h
 cases rx
 cases ry
 cases h with
 |flat fx fy=>cases fx
 |@lst n _ _ xs ys e hx hy hl h =>
  obtain⟨is1,r1,p1,_⟩:=I.list hx
  obtain⟨is2,r2,p2,_⟩:=I.list hy
  have e1:=r1.length
  have e2:=r2.length
  have e3:is1.toArray.size=xs.length:=by simp[e1]
  refine SeqAt.RcNeAt.lists (e:=e) p1.isList p2.isList (by simp;omega) (by omega) (λj h1 h2=>?_) _ _ _ _ ⟨.bl _,H,I,rfl,by rw[e3];exact q⟩
  have h1':j<xs.length:=by simpa[e1]using h1
  have h2':j<ys.length:=by simpa[e2]using h2
  obtain⟨u,hu1,ru⟩:=r1.get (Yf h1')
  obtain⟨v,hv1,rv⟩:=r2.get (Yf h2')
  have eu:is1.toArray[j]=u:=by simpa using(Ys.mp hu1).2
  have ev:is2.toArray[j]=v:=by simpa using(Ys.mp hv1).2
  rw[eu,ev]
  exact Zj2 I (h j _ _ (Yf h1') (Yf h2')) X.A.in1 u v (by show X.A.units+1+2<cLine;omega) ru rv
 |@len n _ _ xs ys hx hy hl =>
  obtain⟨is1,r1,p1,_⟩:=I.list hx
  obtain⟨is2,r2,p2,_⟩:=I.list hy
  have e1:=r1.length
  have e2:=r2.length
  exact SeqAt.RcNeAt.lists_lengths p1.isList p2.isList (by simp;omega) (by omega) _ _ _ _ ⟨.bl _,H,I,rfl,q⟩
 |@tup n _ _ xs ys e hx hy h =>
  obtain⟨is1,r1,p1,_⟩:=I.tuple hx
  obtain⟨is2,r2,p2,_⟩:=I.tuple hy
  have e1:=r1.length
  have e2:=r2.length
  have e3:is1.toArray.size=xs.length:=by simp[e1]
  have e4:is2.toArray.size=ys.length:=by simp[e2]
  refine SeqAt.RcNeAt.tuples (e:=e) p1 p2 (by omega) (λj h1 h2=>?_) _ _ _ _ ⟨.bl _,H,I,rfl,by rw[e3,e4];exact q⟩
  have h1':j<xs.length:=by simpa[e1]using h1
  have h2':j<ys.length:=by simpa[e2]using h2
  obtain⟨u,hu1,ru⟩:=r1.get (Yf h1')
  obtain⟨v,hv1,rv⟩:=r2.get (Yf h2')
  have eu:is1.toArray[j]=u:=by simpa using(Ys.mp hu1).2
  have ev:is2.toArray[j]=v:=by simpa using(Ys.mp hv1).2
  rw[eu,ev]
  exact Zj2 I (h j _ _ (Yf h1') (Yf h2')) X.A.in1 u v (by show X.A.units+1+2<cLine;omega) ru rv
end
noncomputable def IsI (v:V) (i:Int):Prop:=v=.int i
noncomputable def IsL (K:Frag) (H:Hp) {α:Type} (P:V->α->Prop) (v:V) (as:List α):Prop:=∃a xs,v=.ref a/\SqL K H a xs/\xs.length=as.length/\∀(j:Nat) (x:V) (y:α),xs[j]?=some x->as[j]?=some y->P x y
noncomputable def IsT (K:Frag) (H:Hp) {α:Type} (P:V->α->Prop) (v:V) (as:List α):Prop:=∃a xs,v=.ref a/\SqT K H a xs/\xs.length=as.length/\∀(j:Nat) (x:V) (y:α),xs[j]?=some x->as[j]?=some y->P x y
noncomputable def EqP (K:Frag) (H:Hp) (n:Nat) {α:Type} [DecidableEq α] (P:V->α->Prop):Prop:=∀x y a b,P x a->P y b->EqD K H n x y (decide (a=b))
theorem Zf7 {K:Frag}{H:Hp}{n:Nat}:EqP K H n IsI:=by
 rintro x y a b rfl rfl
 have:=EqD.flat (K:=K) (H:=H) (n:=n) (x:=.int a) (y:=.int b) rfl rfl
 have e:eqV (.int a) (.int b)=decide (a=b):=by simp[eqV,Bool.beq_eq_decide_eq]
 rw[<-e];exact this
theorem all_eq {α:Type} [DecidableEq α] (as bs:List α) (h:as.length=bs.length):(List.range as.length).all (λj=>decide (as[j]?=bs[j]?))=decide (as=bs):=by
 rw[Bool.eq_iff_iff,List.all_eq_true,decide_eq_true_iff]
 constructor
 ·intro q
  refine List.ext_getElem? λj=>?_
  by_cases hj:j<as.length
  ·simpa using q j (YA.mpr hj)
  ·rw[List.getElem?_eq_none (by omega),List.getElem?_eq_none (by omega)]
 ·rintro rfl j _;simp
theorem ZhN {K:Frag}{H:Hp}{n:Nat}{α:Type} [DecidableEq α] {P:V->α->Prop} (h:EqP K H n P):EqP K H (n+1) (IsL K H P):=by
 rintro x y as bs ⟨a,xs,rfl,hx,lx,px⟩ ⟨b,ys,rfl,hy,ly,py⟩
 by_cases hl:as.length=bs.length
 ·rw[<-all_eq as bs hl,<-lx]
  refine .lst _ hx hy (by omega) λj x y h1 h2=>?_
  have j1:=(Ys.mp h1).1
  have j2:=(Ys.mp h2).1
  have ha:as[j]?=some as[j]:=Yf (by omega)
  have hb:bs[j]?=some bs[j]:=Yf (by omega)
  have:=h x y _ _ (px j _ _ h1 ha) (py j _ _ h2 hb)
  rw[ha,hb]
  simpa using this
 ·have e:decide (as=bs)=false:=by simp;intro z;exact hl (congrArg List.length z)
  rw[e]
  exact .len hx hy (by omega)
theorem ZmQ {K:Frag}{H:Hp}{n:Nat}{α:Type} [DecidableEq α] {P:V->α->Prop} (h:EqP K H n P):EqP K H (n+1) (IsT K H P):=by
 rintro x y as bs ⟨a,xs,rfl,hx,lx,px⟩ ⟨b,ys,rfl,hy,ly,py⟩
 have key:=EqD.tup (K:=K) (H:=H) (n:=n) (λj=>decide (as[j]?=bs[j]?)) hx hy λj x y h1 h2=>by
  have j1:=(Ys.mp h1).1
  have j2:=(Ys.mp h2).1
  have ha:as[j]?=some as[j]:=Yf (by omega)
  have hb:bs[j]?=some bs[j]:=Yf (by omega)
  have:=h x y _ _ (px j _ _ h1 ha) (py j _ _ h2 hb)
  rw[ha,hb]
  simpa using this
 have e:((List.range (min xs.length ys.length)).all (λj=>decide (as[j]?=bs[j]?))&&xs.length==ys.length)=decide (as=bs):=by
  rw[lx,ly]
  by_cases hl:as.length=bs.length
  ·rw[<-hl,Nat.min_self,all_eq as bs hl];simp
  ·have e:decide (as=bs)=false:=by simp;intro z;exact hl (congrArg List.length z)
   rw[e]
   simp[hl]
 rw[e]at key
 exact key
theorem Zdr {K:Frag}{H:Hp}{a:Addr}{ns:List Int} (h:SqL K H a (ns.map V.int)):IsL K H IsI (.ref a) ns:=⟨a,_,rfl,h,by simp,λj x y h1 h2=>by
 rw[YD,h2]at h1
 exact(Yx h1).symm⟩
theorem Zf8 {K:Frag}{H:Hp}{a:Addr}{ns:List Int} (h:SqT K H a (ns.map V.int)):IsT K H IsI (.ref a) ns:=⟨a,_,rfl,h,by simp,λj x y h1 h2=>by
 rw[YD,h2]at h1
 exact(Yx h1).symm⟩
section
variable {X:Cx}
theorem ZqW {g:Nat->V}{P:Nat->Value->Prop} (hP:∀i v,P i v->RelV (g i) v):∀(n:Nat) (us:List Value),us.length=n->(∀(j:Nat) (v:Value),us[j]?=some v->P j v)->Vals ((List.range n).map g) us:=by
 intro n
 induction n with
 |zero =>
  intro us hl _
  cases us with
  |nil=>exact .nil
  |cons _ _=>cases hl
 |succ n ih =>
  intro us hl h
  have hne:us≠[]:=λz=>by rw[z]at hl;cases hl
  rw[YF,YL,<-List.dropLast_concat_getLast hne]
  have hl2:us.dropLast.length=n:=by rw[List.length_dropLast,hl];rfl
  refine(ih us.dropLast hl2 λj v hj=>?_).append (.cons ?_ .nil)
  ·have hj2:=(Ys.mp hj).1
   refine h j v ?_
   rw[List.getElem?_dropLast]at hj
   split at hj
   ·exact hj
   ·cases hj
  ·refine hP n _ (h n _ ?_)
   rw[List.getLast_eq_getElem]
   rw[Ys]
   refine⟨by omega,?_⟩
   congr 1
   omega
noncomputable def rAll (K:Frag):List V->Hp->VK->Prop:=λxs H Q=>∃(p:Addr) (bs:List Bool),xs=[.ref p]/\SqL K H p (bs.map V.bl)/\Q (.bl (bs.all id)) H
theorem all_ix (bs:List Bool):(List.range bs.length).all (λi=>bs.getD i false)=bs.all id:=by
 rw[Bool.eq_iff_iff,List.all_eq_true,List.all_eq_true]
 constructor
 ·intro h x hx
  obtain⟨j,hj,rfl⟩:=List.getElem_of_mem hx
  have:=h j (YA.mpr hj)
  simpa[Yj,hj]using this
 ·intro h j hj
  have hj':=YA.mp hj
  have:=h _ (Y2 hj')
  simpa[Yj,hj']using this
theorem ZkT {prog:Program}{w:World}{A:Around}{bs:List Bool}{its:List Value} (r:Vals (bs.map V.bl) its):TruthOf prog w A (λi v=>its.toArray[i]?=some v) (λi=>bs.getD i false):=by
 intro i v s Q E hv hq
 have hv':its[i]?=some v:=by simpa using hv
 have hl:=r.length
 have hi:i<bs.length:=by
  have:=(Ys.mp hv').1
  rw[Yi]at hl;omega
 obtain⟨u,hu,ru⟩:=r.get (i:=i) (x:=V.bl bs[i]) (by rw[YD,Yf hi];rfl)
 rw[hv']at hu
 cases hu
 cases ru
 refine wpAny_truthy_bool ?_
 simpa[Yj,hi]using hq
theorem Zh2 {K:Frag} (hK:X.K=K) (hc:X.calm=true):Zbs X (.builtin "all") (rAll K):=by
 subst hK
 intro pins s σ H xs us Q I r h
 obtain⟨p,bs,rfl,hp,q⟩:=h
 obtain⟨u,rfl,ru⟩:=r.one
 cases(show u=Value.ref p from ru)
 obtain⟨its,r',pl,hz⟩:=I.list hp
 have hl:=r'.length
 refine call_all_walk (wpAny_pyIter_list pl.isList ?_)
 have hne:p≠s.heap.objs.size:=by obtain⟨o,e,_⟩:=pl.isList;exact Yo (Yh e)
 refine⟨s.heap.objs.size,_,_,_,_,_,λi=>bs.getD i false,rfl,Walks.list (A:=X.A.in1) (show X.A.in1.handled=none from I.ok.hd hc) _ p hne its.toArray,⟨⟨_,Yw _ rfl,rfl,rfl⟩,pl.isList.push _⟩,ZkT r',λh' tk kp=>?_⟩
 have e1:its.toArray.size=bs.length:=by rw[Yl];rw[Yi]at hl;omega
 rw[e1,all_ix]
 exact⟨.bl _,H,I.kept (t':=tk) λb o e=>kp b o (by simp;exact Yo (Yh e)) (Ym _ e),rfl,q⟩
noncomputable def rIxQ (K:Frag):R2:=λx y H Q=>∃p xs i v,x=.ref p/\y=.int i/\(SqL K H p xs\/SqT K H p xs)/\atI xs i=some v/\Q v H
theorem ix_q {K:Frag} (hK:X.K=K):IxR X (rIxQ K):=by
 subst hK
 intro value slice pins s σ H x y v u Q I rx ry h hs
 refine(ZQ.or ZdK) (value:=value) (slice:=slice) pins s σ H x y v u Q I rx ry ?_ hs
 obtain⟨p,xs,i,v,rfl,rfl,hq,ha,q⟩:=h
 rcases hq with hq|hq
 ·exact .inl ⟨p,xs,i,v,rfl,rfl,hq,ha,q⟩
 ·exact .inr ⟨p,xs,i,v,rfl,rfl,hq,ha,q⟩
theorem ZlI:bootBuiltins "all"=some (.builtin "all"):=by decide +kernel
end
noncomputable def nth (ns:List Int) (i:Nat):Int:=ns.getD i 0
theorem Zbi {ns:List Int}{i:Nat} (h:i<ns.length):atI (ns.map V.int) (i:Int)=some (V.int (nth ns i)):=by
 rw[Zh1 rfl (by simpa using h)]
 simp[nth,Yj,h]
noncomputable def WI (N:Nat) (Pv:Nat->St->Hp->Prop) (m:Nat) (σ:St) (H:Hp):Prop:=∃i,m=N-i/\i<=N/\Pv i σ H
theorem WI.next {N:Nat}{Pv:Nat->St->Hp->Prop}{i:Nat}:∀σ' H',(i+1<=N/\Pv (i+1) σ' H')->∃m',m'<N-i/\WI N Pv m' σ' H':=fun σ' H' h=>⟨N-(i+1),by omega,i+1,rfl,h.1,h.2⟩
theorem ZmR {c:TT}{tb:TS}{D:Ends}{σ:St}{H:Hp} (N:Nat) (Pv:Nat->St->Hp->Prop) (h0:Pv 0 σ H)
  (hs:∀i σ H,i<=N->Pv i σ H->c σ H λb H1=>if b=true then ∃Nx:St->Hp->Prop,(∀σ' H',Nx σ' H'->∃m',m'<N-i/\WI N Pv m' σ' H')/\tb {D with nx:=Nx,ct:=Nx,bk:=D.nx} σ H1 else D.nx σ H1):Zo9 c tb D σ H:=by
 refine⟨WI N Pv,⟨N,0,rfl,Yn _,h0⟩,?_⟩
 rintro m σ H ⟨i,rfl,hi,p⟩
 exact hs i σ H hi p
theorem Zh.ZlJ {K:Frag}{H H':Hp}{a:Addr}{xs:List V} (e:Zh H H') (h:SqT K H a xs):SqT K H' a xs:=by
 rcases h with(h|⟨o,h⟩)|h
 ·exact .inl (.inl (e _ _ h))
 ·exact .inl (.inr ⟨o,e _ _ h⟩)
 ·exact .inr h
theorem Zh.q {K:Frag}{H H':Hp}{a:Addr}{xs:List V} (e:Zh H H') (h:SqL K H a xs\/SqT K H a xs):SqL K H' a xs\/SqT K H' a xs:=h.imp e.seq e.ZlJ
theorem Exc.trans {p:Addr}{H H1 H2:Hp} (a:Exc p H H1) (b:Exc p H1 H2):Exc p H H2:=λc o n z=>b c o n (a c o n z)
theorem Exc.free {p q:Addr}{H H':Hp} (e:Exc p H H') (n:q≠p) (h:H' q=none):H q=none:=by
 cases z:H q with
 |none=>rfl
 |some o=>rw[e q o n z]at h;cases h
theorem Exc.ZnF {p q:Addr}{H H':Hp}{o:HO} (e:Exc p H H') (h:H q=none):Exc p H (L2.upd H' q o):=λb u n z=>by
 rw[Zm (Zs z h)];exact e b u n z
theorem Exc.same {p:Addr}{H H1 H2:Hp} (a:Exc p H H1) (s:Zh H1 H2):Exc p H H2:=a.trans s.ZmI
noncomputable def CA (n:Nat) (Pv:Nat->List V->Hp->Prop) (i m:Nat) (acc:List V) (H:Hp):Prop:=m=n-i/\i<=n/\acc.length<=i/\Pv i acc H
theorem CA.take {n:Nat}{Pv:Nat->List V->Hp->Prop}{i:Nat}{acc:List V}{v:V}{H:Hp} (hi:i<n) (hl:acc.length<=i) (h:Pv (i+1) (acc++[v]) H):∃m',m'<n-i/\CA n Pv (i+1) m' (acc++[v]) H:=⟨n-(i+1),by omega,rfl,hi,by simp;omega,h⟩
theorem ZkU {J:It}{n:Nat}{H1:Hp}{g:TG}{tt:TT}{te:TE}{σ0:St}{Q:VK} (Pv:Nat->List V->Hp->Prop) (hn:n<sizeLine) (h0:Pv 0 [] H1) (hgo:∀i acc H,Pv i acc H->i<n->J.go i H) (hstop:∀acc H,Pv n acc H->J.stop n H)
  (hb:∀i x acc H H',i<n->acc.length<=i->Pv i acc H->J.yld i H x H'->g x σ0 H' fun σ2 H2=>tt σ2 H2 λb H3=>if b=true then te σ2 H3 λv H4=>∃m',m'<n-i/\CA n Pv (i+1) m' (acc++[v]) H4 else ∃m',m'<n-i/\CA n Pv (i+1) m' acc H3)
  (hk:∀l acc H',Pv n acc H'->acc.length<=n->H' l=none->Q (.ref l) (upd H' l (.lst acc))):ZkP J g tt te σ0 Q H1:=by
 refine⟨CA n Pv,⟨n,rfl,Yn _,Yd _,h0⟩,?_⟩
 rintro i m acc H ⟨rfl,hi,hl,p⟩
 by_cases h:i<n
 ·exact .inr ⟨hgo i acc H p h,by omega,λx H' y=>hb i x acc H H' h hl p y⟩
 ·have e:i=n:=by omega
  subst e
  exact .inl ⟨hstop acc H p,by omega,λq hq=>hk q acc H p hl hq⟩
section
variable {X:Cx}
noncomputable def Zj4:V->List V->Hp->VK->Prop:=λx vs H Q=>∃l xs i y,x=.ref l/\vs=[.int i,y]/\H l=some (.lst xs)/\0<=i/\i<2 ^ 62/\xs.length<sizeLine/\Q .non (upd H l (.lst (xs.take i.toNat++y::xs.drop i.toNat)))
theorem Vals.Zpe:∀{xs:List V}{us:List Value} (k:Nat),Vals xs us->Vals (xs.take k) (us.take k)
 |_,_,0,_=>by simp;exact .nil
 |_,_,_+1,.nil=>.nil
 |_,_,k+1,.cons r h=>.cons r (Vals.Zpe k h)
theorem Vals.dropN:∀{xs:List V}{us:List Value} (k:Nat),Vals xs us->Vals (xs.drop k) (us.drop k)
 |_,_,0,h=>by simpa using h
 |_,_,_+1,.nil=>.nil
 |_,_,k+1,.cons _ h=>Vals.dropN k h
theorem Zjk:MtM X "list.insert" Zj4:=by
 intro pins s σ H x vs v us Q I rx rv h
 obtain⟨l,xs,i,y,rfl,rfl,hH,h1,h2,hz,q⟩:=h
 cases rx
 obtain⟨u,u2,rfl,ru,ru2⟩:=rv.two
 obtain⟨t,rfl⟩:=ru
 obtain⟨z,its,n,r,hl,e⟩:=I.ZkI hH
 have hf:¬ (!Builtin.List.listFitsIndex i)=true:=by
  unfold Builtin.List.listFitsIndex
  have a1:decide (-(2 ^ 63:Int)<=i)=true:=YK (by omega)
  have a2:decide (i<(2 ^ 63:Int))=true:=YK (by omega)
  rw[a1,a2];decide
 refine call_meets F.slot_list_insert ⟨_,e,rfl⟩ F.entry_list_insert (F.args_list_insert_3 _ _ _) (AutoListH.list_insert_list_int_val_1 l its.toArray n i t u2 hf (by rw[Yl];omega)) ⟨e,?_⟩
 refine⟨.non,_,I.lset (its':=its.take i.toNat++u2::its.drop i.toNat) (ys:=xs.take i.toNat++y::xs.drop i.toNat) hH e ?_ ((r.Zpe _).append (.cons ru2 (r.dropN _))) ?_,rfl,q⟩
 ·show((its.toArray.extract 0 (if i<0 then (i+((its.toArray.size:Nat):Int)).toNat else min i.toNat its.toArray.size)).push u2++its.toArray.extract (if i<0 then (i+((its.toArray.size:Nat):Int)).toNat else min i.toNat its.toArray.size))=_
  rw[Yb (by omega)]
  have e1:its.take (min i.toNat its.length)=its.take i.toNat:=by
   by_cases hh:i.toNat<=its.length
   ·rw[Nat.min_eq_left hh]
   ·rw[Nat.min_eq_right (by omega),List.take_of_length_le (by omega),List.take_of_length_le (by omega)]
  have e2:its.drop (min i.toNat its.length)=its.drop i.toNat:=by
   by_cases hh:i.toNat<=its.length
   ·rw[Nat.min_eq_left hh]
   ·rw[Nat.min_eq_right (by omega),List.drop_of_length_le (by omega),List.drop_of_length_le (by omega)]
  apply Array.ext'
  simp[e1,e2]
  exact List.take_of_length_le (by rw[Y1];omega)
 ·rw[Yr,YE,YX,Y1];omega
noncomputable def ZlK (K:Frag):V->List V->Hp->VK->Prop:=λx vs H Q=>∃(l:Addr) (ns:List Int) (k:Int),x=.ref l/\vs=[.int k]/\SqL K H l (ns.map V.int)/\ns.length<=100000/\k∈ns/\Q (.int (ns.idxOf k:Nat)) H
theorem Zpf {K:Frag} (hK:X.K=K):MtM X "list.index" (ZlK K):=by
 subst hK
 intro pins s σ H x vs v us Q I rx rv h
 obtain⟨l,ns,k,rfl,rfl,hH,hz,hk,q⟩:=h
 cases rx
 obtain⟨u,rfl,ru⟩:=rv.one
 obtain⟨t,rfl⟩:=ru
 obtain⟨its,r,pl,_⟩:=I.list hH
 have hi:IntsAre its ns:=intsAre_of r
 have hlen:=r.length
 rw[Yi]at hlen
 obtain⟨⟨cls,dd,data,sl⟩,ho,hc,n,hd⟩:=pl.isList
 simp only at hc hd
 subst hc hd
 have hj:ns.idxOf k<ns.length:=List.idxOf_lt_length_iff.mpr hk
 refine call_meets F.slot_list_index ⟨_,ho,rfl⟩ F.entry_list_index (F.args_list_index_2 _ _)
  (SeqAt.list_indexAt l its.toArray n dd sl (.int k t) (isInt k) (ns.idxOf k) (by rw[Yl];omega) (by omega) ?_ ?_) ⟨ho,λy hy=>(eq_isInt k t hi y (by simpa using hy)).at _ _,⟨.int _,H,I.tok _,⟨_,rfl⟩,q⟩⟩
 ·show isInt k its[ns.idxOf k]=true
  rw[isInt_at k hi _ (by omega) hj]
  simpa using List.getElem_idxOf hj
 ·intro j hjs hlt
  show isInt k its[j]=false
  rw[isInt_at k hi j (by simpa using hjs) (by omega)]
  exact ne_of_lt_idxOf hlt _
end
noncomputable def Zpg:List V->Hp->VK->Prop:=λxs H Q=>∃k,xs=[.bl k]/\Q (.int (if k=true then 1 else 0)) H
theorem Zfb {X:Cx}:Zbs X (.type "int") Zpg:=λpins s σ H xs us Q I r h=>Znt pins s σ H xs us Q I r (.inr h)
noncomputable def IsB (v:V) (b:Bool):Prop:=v=.bl b
theorem Zph {K:Frag}{H:Hp}{n:Nat}:EqP K H n IsB:=by
 rintro x y a b rfl rfl
 have:=EqD.flat (K:=K) (H:=H) (n:=n) (x:=.bl a) (y:=.bl b) rfl rfl
 have e:eqV (.bl a) (.bl b)=decide (a=b):=by cases a<;>cases b<;>rfl
 rw[<-e];exact this
theorem Zjl {K:Frag}{H:Hp}{a:Addr}{bs:List Bool} (h:SqL K H a (bs.map V.bl)):IsL K H IsB (.ref a) bs:=⟨a,_,rfl,h,by simp,λj x y h1 h2=>by
 rw[YD,h2]at h1
 exact(Yx h1).symm⟩
noncomputable def Zv (H:Hp) (p:Addr):Prop:=∃x:Int,H p=some (.lst [.int x])/\0<=x
theorem Zv.ne {H:Hp}{p q:Addr} (P:Zv H p) (h:H q=none):q≠p:=by
 obtain⟨x,e,_⟩:=P
 exact(Zs e h).symm
theorem Zv.same {H H':Hp}{p:Addr} (P:Zv H p) (s:Zh H H'):Zv H' p:=by
 obtain⟨x,e,r⟩:=P
 exact⟨x,s _ _ e,r⟩
theorem Zv.upd {H:Hp}{p q:Addr}{o:HO} (P:Zv H p) (h:H q=none):Zv (L2.upd H q o) p:=P.same ((Zh.refl H).upd h)
theorem Zv.ZnF {H:Hp}{p q:Addr}{o:HO} (P:Zv H p) (h:q≠p):Zv (L2.upd H q o) p:=by
 obtain⟨x,e,r⟩:=P
 exact⟨x,by rw[Zm h.symm];exact e,r⟩
theorem cp60:ZiM 10 60:=by unfold ZiM;decide
theorem qm1:IntMulOk (10 ^ Int.toNat 60) (10 ^ Int.toNat 60):=Zj1 (by decide +kernel) (by decide +kernel)
theorem qm2:IntMulOk (10 ^ Int.toNat 60*10 ^ Int.toNat 60) (10 ^ Int.toNat 60):=Zj1 (by decide +kernel) (by decide +kernel)
theorem qm3:IntMulOk (10 ^ Int.toNat 60*10 ^ Int.toNat 60*10 ^ Int.toNat 60) (10 ^ Int.toNat 60):=Zj1 (by decide +kernel) (by decide +kernel)
theorem qm4:(0:Int)<10 ^ Int.toNat 60*10 ^ Int.toNat 60*10 ^ Int.toNat 60*10 ^ Int.toNat 60:=by decide +kernel
end L2
namespace L2
noncomputable def ZS (f:Nat->Int) (p q:Nat):Prop:=q<p/\f q<=f p/\∀r,q<r->r<p->f p<f r
noncomputable def ZX (f:Nat->Int) (n p r:Nat):Prop:=p<r/\r<n/\f r<f p/\∀s,p<s->s<r->f p<=f s
noncomputable def ZbK (f:Nat->Int) (p:Nat):Prop:=∀q,q<p->f p<f q
noncomputable def Zbv (f:Nat->Int) (n p:Nat):Prop:=∀r,p<r->r<n->f p<=f r
noncomputable def ZN (f:Nat->Int) (n p:Nat) (e:Int):Prop :=
 (ZbK f p/\Zbv f n p/\e=-1)\/(∃q,ZS f p q/\Zbv f n p/\e=q)\/(∃r,ZbK f p/\ZX f n p r/\e=r) \/
 ∃q r,ZS f p q/\ZX f n p r/\e=if f q<=f r then (r:Int)else q
theorem ZkV {P:Nat->Prop} [DecidablePred P] (i:Nat):∀d r,r+d=i->P r->∃t,r<=t/\t<=i/\P t/\∀s,t<s->s<=i->¬ P s:=by
 intro d
 induction d with
 |zero=>intro r e h;exact⟨r,Yd _,by omega,h,λs h1 h2=>by omega⟩
 |succ d ih =>
  intro r e h
  by_cases hx:∃t,r<t/\t<=i/\P t
  ·obtain⟨t,h1,h2,h3⟩:=hx
   -- step to r+1 by cases
   by_cases h4:P (r+1)
   ·obtain⟨u,u1,u2,u3,u4⟩:=ih (r+1) (by omega) h4
    exact⟨u,by omega,u2,u3,u4⟩
   ·-- go on from the next one
    have gen:∀k t,t+k=i->r<t->P t->∃u,r<=u/\u<=i/\P u/\∀s,u<s->s<=i->¬ P s:=by
     intro k
     induction k with
     |zero=>intro t e h1 h3;exact⟨t,by omega,by omega,h3,λs h1 h2=>by omega⟩
     |succ k ihk =>
      intro t e h1 h3
      by_cases hy:∃s,t<s/\s<=i/\P s
      ·-- the last one of the rest
       have key:∀m,m<=i->(∃s,t<s/\s<=m/\P s)->∃u,t<u/\u<=m/\P u/\∀s,u<s->s<=m->¬ P s:=by
        intro m
        induction m with
        |zero=>rintro _ ⟨s,h5,h6,_⟩;omega
        |succ m ihm =>
         rintro hm ⟨s,h5,h6,h7⟩
         by_cases hp:P (m+1)
         ·exact⟨m+1,by omega,Yd _,hp,λs h1 h2=>by omega⟩
         ·have hs:s<=m:=by
           rcases Nat.lt_or_ge m s with z|z
           ·have:s=m+1:=by omega
            rw[this]at h7;exact absurd h7 hp
           ·exact z
          obtain⟨u,u1,u2,u3,u4⟩:=ihm (by omega) ⟨s,h5,hs,h7⟩
          refine⟨u,u1,by omega,u3,λs' h1 h2=>?_⟩
          by_cases e:s'=m+1
          ·rw[e];exact hp
          ·exact u4 s' h1 (by omega)
       obtain⟨u,u1,u2,u3,u4⟩:=key i (Yd _) hy
       exact⟨u,by omega,u2,u3,u4⟩
      ·exact⟨t,by omega,by omega,h3,λs h1 h2 h5=>hy ⟨s,h1,h2,h5⟩⟩
    exact gen (i-t) t (by omega) h1 h3
  ·exact⟨r,Yd _,by omega,h,λs h1 h2 h3=>hx ⟨s,h1,h2,h3⟩⟩
theorem ZlL {P:Nat->Prop} [DecidablePred P] {n r:Nat} (hr:r<n) (h:P r):∃t,r<=t/\t<n/\P t/\∀s,t<s->s<n->¬ P s:=by
 obtain⟨t,h1,h2,h3,h4⟩:=ZkV (P:=P) (n-1) (n-1-r) r (by omega) h
 exact⟨t,h1,by omega,h3,λs a b=>h4 s a (by omega)⟩
noncomputable def Zcr (f:Nat->Int) (i:Nat) (sp:List Nat):Prop:=sp.Pairwise (· < ·)/\∀q,q∈sp↔q<i/\∀r,q<r->r<i->f q<=f r
theorem Zfc (f:Nat->Int) (p:Nat):ZbK f p\/∃q,ZS f p q:=by
 by_cases h:∃q,q<p/\f q<=f p
 ·obtain⟨q,h1,h2⟩:=h
  obtain⟨t,_,t2,t3,t4⟩:=ZlL (P:=λq=>f q<=f p) h1 h2
  exact .inr ⟨t,t2,t3,λr a b=>by have:=t4 r a b;omega⟩
 ·exact .inl λq hq=>by
   have:¬ (f q<=f p):=λz=>h ⟨q,hq,z⟩
   omega
theorem ZnG {f:Nat->Int}{i p q:Nat} (hp:p<i) (ho:∀r,p<r->r<i->f p<=f r) (h:ZS f p q):(∀r,q<r->r<i->f q<=f r)/\∀s,q<s->s<p->¬ ∀r,s<r->r<i->f s<=f r:=by
 obtain⟨h1,h2,h3⟩:=h
 refine⟨λr a b=>?_,λs a b z=>?_⟩
 ·rcases Nat.lt_trichotomy r p with c|c|c
  ·have:=h3 r a c;omega
  ·rw[c];exact h2
  ·have:=ho r c b;omega
 ·have:=z p b hp
  have:=h3 s a b
  omega
theorem ZdN {f:Nat->Int}{i:Nat}{A B:List Nat} (hs:Zcr f i (A++B)) (hA:∀q∈A,f q<=f i) (hB:∀q∈B,f i<f q) :
  Zcr f (i+1) (A++[i])/\ZN f (i+1) i (match A.getLast? with|some q=>(q:Int)|none=>-1)/\∀p e,p<i->ZN f i p e->ZN f (i+1) p (if B.head?=some p then (i:Int)else e):=by
 obtain⟨hso,hm⟩:=hs
 have hAB:=List.pairwise_append.mp hso
 have noNx:Zbv f (i+1) i:=λr a b=>by omega
 refine⟨⟨?_,λq=>?_⟩,?_,λp e hp he=>?_⟩
 ·refine List.pairwise_append.mpr ⟨hAB.1,List.pairwise_singleton _ _,λa ha b hb=>?_⟩
  have:b=i:=by simpa using hb
  rw[this]
  exact((hm a).mp (YC _ ha)).1
 ·rw[Yt,YY]
  constructor
  ·rintro(h|h)
   ·obtain⟨h1,h2⟩:=(hm q).mp (YC _ h)
    refine⟨by omega,λr a b=>?_⟩
    by_cases e:r=i
    ·rw[e];exact hA q h
    ·exact h2 r a (by omega)
   ·subst h;exact⟨by omega,λr a b=>by omega⟩
  ·rintro⟨h1,h2⟩
   by_cases e:q=i
   ·exact .inr e
   ·have hq:q∈A++B:=(hm q).mpr ⟨by omega,λr a b=>h2 r a (by omega)⟩
    rcases Yt.mp hq with h|h
    ·exact .inl h
    ·have:=hB q h
     have:=h2 i (by omega) (by omega)
     omega
 ·-- the elder of i
  rcases Zfc f i with h|⟨q,h⟩
  ·have hA0:A=[]:=by
    cases A with
    |nil=>rfl
    |cons a r =>
     have h1:=((hm a).mp (by simp)).1
     have:=hA a (by simp)
     have:=h a h1
     omega
   rw[hA0]
   exact .inl ⟨h,noNx,rfl⟩
  ·have ho:∀r,q<r->r<i->f q<=f r:=λr a b=>by have:=h.2.2 r a b;have:=h.2.1;omega
   have hqA:q∈A:=by
    rcases Yt.mp ((hm q).mpr ⟨h.1,ho⟩)with z|z
    ·exact z
    ·have:=hB q z;have:=h.2.1;omega
   have hlast:A.getLast?=some q:=by
    have hne:A≠[]:=λz=>by rw[z]at hqA;cases hqA
    rw[List.getLast?_eq_some_getLast hne]
    congr 1
    have hl:A.getLast hne∈A:=List.getLast_mem hne
    -- q<=last,and last is not past q
    by_cases e:A.getLast hne=q
    ·exact e
    ·exfalso
     have hlt:q<A.getLast hne:=by
      have hd:=List.dropLast_concat_getLast hne
      have hq2:q∈A.dropLast:=by
       rw[<-hd]at hqA
       rcases Yt.mp hqA with z|z
       ·exact z
       ·exact absurd (by simpa using z) (Ne.symm e)
      have hp2:=hAB.1
      rw[<-hd]at hp2
      exact(List.pairwise_append.mp hp2).2.2 q hq2 _ (by simp)
     have h1:=((hm (A.getLast hne)).mp (YC _ hl)).1
     have:=h.2.2 _ hlt h1
     have:=hA _ hl
     omega
   rw[hlast]
   exact .inr (.inl ⟨q,h,noNx,rfl⟩)
 ·-- the elder of an earlier place
  have nxt:∀r,ZX f i p r->ZX f (i+1) p r:=λr ⟨a,b,c,d⟩=>⟨a,by omega,c,d⟩
  by_cases hop:Zbv f i p
  ·have hmem:p∈A++B:=(hm p).mpr ⟨hp,hop⟩
   by_cases hlt:f i<f p
   ·have hnx:ZX f (i+1) p i:=⟨hp,by omega,hlt,λs a b=>hop s a b⟩
    have hpB:p∈B:=by
     rcases Yt.mp hmem with z|z
     ·have:=hA p z;omega
     ·exact z
    obtain⟨b0,Br,rfl⟩:∃b0 Br,B=b0::Br:=by
     cases B with
     |nil=>cases hpB
     |cons b0 Br=>exact⟨b0,Br,rfl⟩
    have hhead:(b0::Br).head?=some b0:=rfl
    rw[hhead]
    rcases Zfc f p with hn|⟨q,hq⟩
    ·-- nothing ahead: p is the first of all
     have e0:b0=p:=by
      by_cases z:b0=p
      ·exact z
      ·exfalso
       have hpr:p∈Br:=by
        rcases Yq.mp hpB with y|y
        ·exact absurd y.symm z
        ·exact y
       have hlt2:b0<p:=(YZ.mp hAB.2.1).1 p hpr
       have:=((hm b0).mp (by simp)).2 p hlt2 hp
       have:=hn b0 hlt2
       omega
     rw[Yc (by rw[e0])]
     exact .inr (.inr (.inl ⟨i,hn,hnx,rfl⟩))
    ·obtain⟨hq1,hq2⟩:=ZnG hp hop hq
     have hqm:q∈A++b0::Br:=(hm q).mpr ⟨Nat.lt_trans hq.1 hp,hq1⟩
     by_cases hqi:f q<=f i
     ·-- q is kept: p is the first of B
      have e0:b0=p:=by
       by_cases z:b0=p
       ·exact z
       ·exfalso
        have hpr:p∈Br:=by
         rcases Yq.mp hpB with y|y
         ·exact absurd y.symm z
         ·exact y
        have hlt2:b0<p:=(YZ.mp hAB.2.1).1 p hpr
        have hb0:=(hm b0).mp (by simp)
        have hqA:q∈A:=by
         rcases Yt.mp hqm with y|y
         ·exact y
         ·have:=hB q y;omega
        have hqb:q<b0:=hAB.2.2 q hqA b0 (by simp)
        exact hq2 b0 hqb hlt2 hb0.2
      rw[Yc (by rw[e0])]
      refine .inr (.inr (.inr ⟨q,i,hq,hnx,?_⟩))
      rw[Yc hqi]
     ·-- q goes,too: the elder stays
      have hqB:q∈b0::Br:=by
       rcases Yt.mp hqm with y|y
       ·exact absurd (hA q y) hqi
       ·exact y
      have hne:b0≠p:=by
       intro z
       subst z
       rcases Yq.mp hqB with y|y
       ·have:=hq.1;omega
       ·have:=(YZ.mp hAB.2.1).1 q y
        have:=hq.1;omega
      rw[Yb (by intro z;exact hne (Yx z))]
      have ee:e=q:=by
       rcases he with⟨h1,_,_⟩|⟨q',h1,_,h3⟩|⟨r,h1,_,_⟩|⟨q',r,_,h2,_⟩
       ·have:=h1 q hq.1;have:=hq.2.1;omega
       ·have:q'=q:=by
         rcases Nat.lt_trichotomy q' q with y|y|y
         ·have:=h1.2.2 q y hq.1;have:=hq.2.1;omega
         ·exact y
         ·have:=hq.2.2 q' y h1.1;have:=h1.2.1;omega
        rw[h3,this]
       ·have:=h1 q hq.1;have:=hq.2.1;omega
       ·have:=hop r h2.1 h2.2.1;have:=h2.2.2.1;omega
      refine .inr (.inr (.inr ⟨q,i,hq,hnx,?_⟩))
      rw[Yb hqi,ee]
   ·-- still open: not of B
    have hnn:Zbv f (i+1) p:=λr a b=>by
     by_cases z:r=i
     ·rw[z];omega
     ·exact hop r a (by omega)
    have hne:B.head?≠some p:=λz=>by
     have:p∈B:=List.mem_of_head? z
     have:=hB p this
     omega
    rw[Yb hne]
    rcases he with⟨h1,_,h3⟩|⟨q,h1,_,h3⟩|⟨r,_,h2,_⟩|⟨q,r,_,h2,_⟩
    ·exact .inl ⟨h1,hnn,h3⟩
    ·exact .inr (.inl ⟨q,h1,hnn,h3⟩)
    ·have:=hop r h2.1 h2.2.1;have:=h2.2.2.1;omega
    ·have:=hop r h2.1 h2.2.1;have:=h2.2.2.1;omega
  ·-- shut already
   have hne:B.head?≠some p:=λz=>hop ((hm p).mp (Yp _ (List.mem_of_head? z))).2
   rw[Yb hne]
   rcases he with⟨_,h2,_⟩|⟨q,_,h2,_⟩|⟨r,h1,h2,h3⟩|⟨q,r,h1,h2,h3⟩
   ·exact absurd h2 hop
   ·exact absurd h2 hop
   ·exact .inr (.inr (.inl ⟨r,h1,nxt r h2,h3⟩))
   ·exact .inr (.inr (.inr ⟨q,r,h1,nxt r h2,h3⟩))
end L2
namespace L2
open PySem PySem.Spec PyProof.Rows PySem.W
theorem Zh3 {α β:Type}{f g:α->Option β}:∀{l:List α},(∀x∈l,f x=g x)->l.filterMap f=l.filterMap g
 |[],_=>rfl
 |x::r,h=>by rw[List.filterMap_cons,List.filterMap_cons,h x (YW ..),Zh3 λy hy=>h y (YU _ hy)]
theorem ZnH (its:List Value) (k:Nat) (hk:k<=its.length) (start:Nat):(its.zipIdx start).filterMap (λxk=>if (decide (((start+k:Nat):Int)<=(xk.2:Int))&&decide ((xk.2:Int)<((start+its.length:Nat):Int))&&(((xk.2:Int)-((start+k:Nat):Int)) % 1==0))=true then none else some xk.1)=its.take k:=by
 induction its generalizing k start with
 |nil=>simp
 |cons x r ih =>
  rw[List.zipIdx_cons,List.filterMap_cons]
  cases k with
  |zero =>
   have h1:(decide (((start+0:Nat):Int)<=(start:Int))&&decide ((start:Int)<((start+(x::r).length:Nat):Int))&&(((start:Int)-((start+0:Nat):Int)) % 1==0))=true:=by
    simp;omega
   simp only[h1,if_true]
   have:=ih 0 (by omega) (start+1)
   rw[List.take_zero]at this⊢
   rw[<-this]
   refine Zh3 λxk hxk=>?_
   have hm:=List.mem_zipIdx hxk
   have e1:(decide (((start+0:Nat):Int)<=(xk.2:Int)))=(decide (((start+1+0:Nat):Int)<=(xk.2:Int))):=by
    rw[decide_eq_decide];omega
   have e2:((start+(x::r).length:Nat):Int)=((start+1+r.length:Nat):Int):=by simp;omega
   have e3:(((xk.2:Int)-((start+0:Nat):Int)) % 1==0)=(((xk.2:Int)-((start+1+0:Nat):Int)) % 1==0):=by simp[Int.emod_one]
   rw[e1,e2,e3]
  |succ k =>
   have h1:(decide (((start+(k+1):Nat):Int)<=(start:Int))&&decide ((start:Int)<((start+(x::r).length:Nat):Int))&&(((start:Int)-((start+(k+1):Nat):Int)) % 1==0))=false:=by
    have:decide (((start+(k+1):Nat):Int)<=(start:Int))=false:=YB (by omega)
    rw[this];rfl
   simp only[h1,Bool.false_eq_true,if_false]
   rw[List.take_succ_cons]
   congr 1
   have:=ih k (by simpa using hk) (start+1)
   rw[<-this]
   refine Zh3 λxk hxk=>?_
   have e1:((start+(k+1):Nat):Int)=((start+1+k:Nat):Int):=by omega
   have e2:((start+(x::r).length:Nat):Int)=((start+1+r.length:Nat):Int):=by simp;omega
   rw[e1,e2]
section
variable {X:Cx}{e st:Expr}{te ts:TE}{pos pos1 p2:Pos}
noncomputable def Zpi (te ts:TE):TS:=λD σ H=>te σ H λx H1=>ts σ H1 λz H2=>∃(l:Addr) (xs:List V) (k:Nat),x=.ref l/\z=.int k/\H2 l=some (.lst xs)/\k<=xs.length/\D.nx σ (upd H2 l (.lst (xs.take k)))
theorem ZlM (he:PE X e te) (hs:PE X st ts):PS X (.Delete [.Subscript e (.Slice (some st) none none p2) pos1] pos) (Zpi te ts):=by
 intro pins s σ H D I h
 refine wpAny_Delete (wpAny_deleteEach_cons ?_)
 show wpAny _ _ (eval e X.env >>= λov=>holding [ov] (eval (.Slice (some st) none none p2) X.env) >>= λiv=>(do standAt pos1;holding [ov,iv] (delItem ov iv);release [ov,iv] [])) _ _ _
 refine Ya (thn (he pins s σ H _ I h) λv s1 ⟨x,H1,I1,r1,q1⟩=>?_)
 refine Ya (wpAny_holding ?_)
 refine wpAny_Slice ?_
 rw[evalPart_some]
 refine thn (hs pins s1 σ H1 _ I1 q1) λvs s2 ⟨z,H2,I2,r2,l,xs,k,e1,e2,hx,hk,q⟩=>?_
 subst e1 e2
 obtain⟨tk,rfl⟩:=r2
 cases r1
 rw[evalPart_none]
 refine Ye ?_
 refine Ye ?_
 have I4:Inv X pins σ H2 {s2 with heap:=s2.heap.push {cls:=.type "slice",data:=.fields #[.int k tk,.none,.none]}}:=I2.kept (t':=s2.toks) λb ob q=>Ym _ q
 have hsl:({s2 with heap:=s2.heap.push {cls:=.type "slice",data:=.fields #[.int k tk,.none,.none]}}:Shared).heap.get? s2.heap.objs.size=some {cls:=.type "slice",data:=.fields #[.int k tk,.none,.none]}:=Yw _ rfl
 obtain⟨z,its,n,r,hlen,hob⟩:=I4.ZkI hx
 generalize ({s2 with heap:=s2.heap.push {cls:=.type "slice",data:=.fields #[.int k tk,.none,.none]}}:Shared)=s4 at I4 hsl hob⊢
 have hT:s4.TypeIs (.ref l) "list":=⟨_,hob,rfl⟩
 have hTs:s4.TypeIs (.ref s2.heap.objs.size) "slice":=⟨_,hsl,rfl⟩
 refine Ya (wpAny_standAt (Ya (wpAny_holding ?_)))
 refine wpAny_delItem_slot hT (by decide) F.slot_list_delitem (wpAny_call_entry F.slot_list_delitem hT F.entry_list_delitem ?_ (F.args_list_delitem_2 _ _))
 show wpAny _ _ (Builtin.List.listSubscript? (.ref s2.heap.objs.size) >>= _) _ _ s4
 refine Ya ?_;unfold Builtin.List.listSubscript?;refine Ya (wpAny_specialOf hTs slice_no_index ?_)
 simp only[Option.isNone_none,if_true];refine Ye ?_
 show wpAny _ _ (typeOf (.ref s2.heap.objs.size) >>= _) _ _ s4
 refine Ya (wpAny_typeOf hTs ?_);rw[Yb (by decide),listSliceParts_eq]
 refine Ya (Ya (wpAny_field hsl rfl (x:=.none) rfl (Ya (wpAny_listPart (k:=none) .none ?_))));rw[Yb (show ¬ ((rawPart none==rawInt 0)=true)from Yv)]
 refine Ya (wpAny_field hsl rfl (x:=.int k tk) rfl (Ya (wpAny_listPart (.int (k:Int) tk) ?_)))
 refine Ya (wpAny_field hsl rfl (x:=.none) rfl (Ya (wpAny_listPart (k:=none) .none (Ye ?_))))
 refine Ya (m:=Builtin.List.listItems (.ref l)) ?_;unfold Builtin.List.listItems
 refine Ya (wpAny_seqItems hob rfl (Ye ?_));refine Ya (wpAny_of_eq (sliceIndices_raw (some (k:Int)) none none its.toArray.size (by simp)) (Ya (wpAny_rule ?_)))
 have hb:sliceBounds (some (k:Int)) none none its.toArray.size=((k:Int),((its.length:Nat):Int),1):=by
  unfold sliceBounds
  simp
  omega
 rw[hb]
 have hf:∀f:Array Value->Array Value,(∀ys:Array Value,f ys=(ys.toList.zipIdx.filterMap λxk=>if (decide ((k:Int)<=(xk.2:Int))&&decide ((xk.2:Int)<((its.length:Nat):Int))&&(((xk.2:Int)-(k:Int)) % 1==0))=true then none else some xk.1).toArray)->f its.toArray=(its.take k).toArray:=λf h=>by
  rw[h]
  congr 1
  have:=ZnH its k (by omega) 0
  simpa using this
 refine Ya (m:=updateSeq l _) ?_
 refine wpAny_updateSeq (n:=n) hob rfl ?_ (by rw[Yl];omega) ?_
 ·refine Ya (wpAny_letGo (Ye ⟨_,rfl,?_⟩))
  refine wpAny_release (wpAny_deleteEach_nil ⟨σ,_,I4.lset hx hob (hf _ λys=>rfl) (r.Zpe k) ?_,q⟩)
  rw[YX];omega
 ·rw[Yl]
  refine Yg (List.length_filterMap_le _ _) ?_
  rw[List.length_zipIdx]
  show its.length<=sizeLine+1
  omega
end
theorem ZS.unique {f:Nat->Int}{p q q':Nat} (h:ZS f p q) (k:ZS f p q'):q=q':=by
 rcases Nat.lt_trichotomy q q' with z|z|z
 ·have:=h.2.2 q' z k.1;have:=k.2.1;omega
 ·exact z
 ·have:=k.2.2 q z h.1;have:=h.2.1;omega
theorem ZX.unique {f:Nat->Int}{n p r r':Nat} (h:ZX f n p r) (k:ZX f n p r'):r=r':=by
 rcases Nat.lt_trichotomy r r' with z|z|z
 ·have:=k.2.2.2 r h.1 z;have:=h.2.2.1;omega
 ·exact z
 ·have:=h.2.2.2 r' k.1 z;have:=k.2.2.1;omega
theorem ZS.no {f:Nat->Int}{p q:Nat} (h:ZS f p q) (k:ZbK f p):False:=by have:=k q h.1;have:=h.2.1;omega
theorem ZX.no {f:Nat->Int}{n p r:Nat} (h:ZX f n p r) (k:Zbv f n p):False:=by have:=k r h.1 h.2.1;have:=h.2.2.1;omega
theorem ZN.unique {f:Nat->Int}{n p:Nat}{e e':Int} (h:ZN f n p e) (k:ZN f n p e'):e=e':=by
 rcases h with⟨h1,h2,h3⟩|⟨q,h1,h2,h3⟩|⟨r,h1,h2,h3⟩|⟨q,r,h1,h2,h3⟩ <;>
 rcases k with⟨k1,k2,k3⟩|⟨q',k1,k2,k3⟩|⟨r',k1,k2,k3⟩|⟨q',r',k1,k2,k3⟩
 ·rw[h3,k3]
 ·exact(k1.no h1).elim
 ·exact(k2.no h2).elim
 ·exact(k1.no h1).elim
 ·exact(h1.no k1).elim
 ·rw[h3,k3,h1.unique k1]
 ·exact(h1.no k1).elim
 ·exact(k2.no h2).elim
 ·exact(h2.no k2).elim
 ·exact(k1.no h1).elim
 ·rw[h3,k3,h2.unique k2]
 ·exact(k1.no h1).elim
 ·exact(h1.no k1).elim
 ·exact(h2.no k2).elim
 ·exact(h1.no k1).elim
 ·rw[h3,k3,h1.unique k1,h2.unique k2]
noncomputable def Z4 (ns:List Int) (es:List Int):Prop:=es.length=ns.length/\∀p,p<ns.length->ZN (nth ns) ns.length p (es.getD p 0)
theorem Z4.unique {ns es es':List Int} (h:Z4 ns es) (k:Z4 ns es'):es=es':=by
 refine List.ext_getElem (by rw[h.1,k.1]) λj h1 h2=>?_
 have hj:j<ns.length:=by rw[<-h.1];exact h1
 have:=(h.2 j hj).unique (k.2 j hj)
 simpa[Yj,h1,h2]using this
theorem ZkW {f:Nat->Int}{n p:Nat} (hp:p<n):ZN f n p
  (match ((List.range p).filter λq=>decide (f q<=f p)).getLast?,((List.range (n-(p+1))).filter λj=>decide (f (p+1+j)<f p)).head? with
   |none,none=>-1
   |none,some j=>((p+1+j:Nat):Int)
   |some q,none=>q
   |some q,some j=>if f q<=f (p+1+j)then ((p+1+j:Nat):Int)else q):=by
 have hA:(((List.range p).filter λq=>decide (f q<=f p)).getLast?=none/\ZbK f p)\/∃q,((List.range p).filter λq=>decide (f q<=f p)).getLast?=some q/\ZS f p q:=by
  induction p with
  |zero=>exact .inl ⟨rfl,λq hq=>by omega⟩
  |succ p _ =>
   generalize p+1=P
   have key:∀m,m<=P->(((List.range m).filter λq=>decide (f q<=f P)).getLast?=none/\∀q,q<m->f P<f q)\/∃q,((List.range m).filter λq=>decide (f q<=f P)).getLast?=some q/\q<m/\f q<=f P/\∀r,q<r->r<m->f P<f r:=by
    intro m
    induction m with
    |zero=>intro _;exact .inl ⟨rfl,λq hq=>by omega⟩
    |succ m ih =>
     intro hm
     rw[YF,List.filter_append]
     by_cases hle:f m<=f P
     ·refine .inr ⟨m,?_,by omega,hle,λr r1 r2=>by omega⟩
      simp[hle]
     ·have e:List.filter (λq=>decide (f q<=f P)) [m]=[]:=by simp[hle]
      rw[e,List.append_nil]
      rcases ih (by omega)with⟨i1,i2⟩|⟨q,i1,i2,i3,i4⟩
      ·refine .inl ⟨i1,λq hq=>?_⟩
       by_cases z:q=m
       ·rw[z];omega
       ·exact i2 q (by omega)
      ·refine .inr ⟨q,i1,by omega,i3,λr r1 r2=>?_⟩
       by_cases z:r=m
       ·rw[z];omega
       ·exact i4 r r1 (by omega)
   rcases key P (Yd _)with⟨i1,i2⟩|⟨q,i1,i2,i3,i4⟩
   ·exact .inl ⟨i1,i2⟩
   ·exact .inr ⟨q,i1,i2,i3,i4⟩
 have hB:(((List.range (n-(p+1))).filter λj=>decide (f (p+1+j)<f p)).head?=none/\Zbv f n p)\/∃j,((List.range (n-(p+1))).filter λj=>decide (f (p+1+j)<f p)).head?=some j/\ZX f n p (p+1+j):=by
  have key:∀m,(((List.range m).filter λj=>decide (f (p+1+j)<f p)).head?=none/\∀j,j<m->f p<=f (p+1+j))\/∃j,((List.range m).filter λj=>decide (f (p+1+j)<f p)).head?=some j/\j<m/\f (p+1+j)<f p/\∀i,i<j->f p<=f (p+1+i):=by
   intro m
   induction m with
   |zero=>exact .inl ⟨rfl,λq hq=>by omega⟩
   |succ m ih =>
    rw[YF,List.filter_append]
    rcases ih with⟨i1,i2⟩|⟨j,i1,i2,i3,i4⟩
    ·have e0:List.filter (λj=>decide (f (p+1+j)<f p)) (List.range m)=[]:=List.head?_eq_none_iff.mp i1
     rw[e0,List.nil_append]
     by_cases hlt:f (p+1+m)<f p
     ·refine .inr ⟨m,by simp[hlt],by omega,hlt,λi hi=>i2 i hi⟩
     ·refine .inl ⟨by simp[hlt],λj hj=>?_⟩
      by_cases z:j=m
      ·rw[z];omega
      ·exact i2 j (by omega)
    ·refine .inr ⟨j,?_,by omega,i3,i4⟩
     rw[List.head?_append,i1];rfl
  rcases key (n-(p+1))with⟨i1,i2⟩|⟨j,i1,i2,i3,i4⟩
  ·refine .inl ⟨i1,λr r1 r2=>?_⟩
   have:=i2 (r-(p+1)) (by omega)
   have e:p+1+(r-(p+1))=r:=by omega
   rw[e]at this;exact this
  ·refine .inr ⟨j,i1,by omega,by omega,i3,λs s1 s2=>?_⟩
   have:=i4 (s-(p+1)) (by omega)
   have e:p+1+(s-(p+1))=s:=by omega
   rw[e]at this;exact this
 rcases hA with⟨a1,a2⟩|⟨q,a1,a2⟩<;>rcases hB with⟨b1,b2⟩|⟨j,b1,b2⟩<;>rw[a1,b1]
 ·exact .inl ⟨a2,b2,rfl⟩
 ·exact .inr (.inr (.inl ⟨_,a2,b2,rfl⟩))
 ·exact .inr (.inl ⟨_,a2,b2,rfl⟩)
 ·exact .inr (.inr (.inr ⟨_,_,a2,b2,rfl⟩))
end L2
namespace L2
noncomputable def Over (f:Nat->Int) (o p:Nat):Prop:=(o<p/\∀r,o<r->r<=p->f o<=f r)\/(p<o/\∀r,p<=r->r<o->f o<f r)
theorem Over.irrefl {f:Nat->Int}{p:Nat}:¬ Over f p p:=by rintro(⟨h,_⟩|⟨h,_⟩)<;>omega
theorem Over.trans {f:Nat->Int}{o e p:Nat} (h:Over f o e) (k:Over f e p):Over f o p:=by
 rcases h with⟨h1,h2⟩|⟨h1,h2⟩<;>rcases k with⟨k1,k2⟩|⟨k1,k2⟩
 ·refine .inl ⟨by omega,λr r1 r2=>?_⟩
  by_cases z:r<=e
  ·exact h2 r r1 z
  ·have:=k2 r (by omega) r2;have:=h2 e h1 (Yd _);omega
 ·have he:=h2 e h1 (Yd _)
  rcases Nat.lt_trichotomy o p with z|z|z
  ·exact .inl ⟨z,λr r1 r2=>h2 r r1 (by omega)⟩
  ·have:=k2 p (Yd _) k1;subst z;omega
  ·exact .inr ⟨z,λr r1 r2=>by have:=k2 r r1 (by omega);omega⟩
 ·have he:=h2 e (Yd _) h1
  rcases Nat.lt_trichotomy o p with z|z|z
  ·exact .inl ⟨z,λr r1 r2=>by have:=k2 r (by omega) r2;omega⟩
  ·have:=k2 p k1 (Yd _);subst z;omega
  ·exact .inr ⟨z,λr r1 r2=>h2 r (by omega) r2⟩
 ·refine .inr ⟨by omega,λr r1 r2=>?_⟩
  by_cases z:r<e
  ·have:=k2 r r1 z;have:=h2 e (Yd _) h1;omega
  ·exact h2 r (by omega) r2
theorem ZfB {f:Nat->Int}{n p:Nat}{e:Int} (hp:p<n) (h:ZN f n p e):e=-1\/∃q:Nat,e=q/\q<n/\Over f q p:=by
 have pv:∀q,ZS f p q->Over f q p:=λq h=>.inl ⟨h.1,λr r1 r2=>by
  by_cases z:r=p
  ·rw[z];exact h.2.1
  ·have:=h.2.2 r r1 (by omega);have:=h.2.1;omega⟩
 have nx:∀q,ZX f n p q->Over f q p:=λq h=>.inr ⟨h.1,λr r1 r2=>by
  by_cases z:r=p
  ·rw[z];exact h.2.2.1
  ·have:=h.2.2.2 r (by omega) r2;have:=h.2.2.1;omega⟩
 rcases h with⟨_,_,h⟩|⟨q,h1,_,h⟩|⟨r,_,h1,h⟩|⟨q,r,h1,h2,h⟩
 ·exact .inl h
 ·exact .inr ⟨q,h,by have:=h1.1;omega,pv q h1⟩
 ·exact .inr ⟨r,h,h1.2.1,nx r h1⟩
 ·by_cases z:f q<=f r
  ·rw[Yc z]at h;exact .inr ⟨r,h,h2.2.1,nx r h2⟩
  ·rw[Yb z]at h;exact .inr ⟨q,h,by have:=h1.1;omega,pv q h1⟩
theorem Zjm {f:Nat->Int}{n p o:Nat}{e:Int} (hp:p<n) (ho:o<n) (h:ZN f n p e) (hO:Over f o p):∃q:Nat,e=q/\q<n/\(o=q\/Over f o q):=by
 rcases hO with⟨o1,o2⟩|⟨o1,o2⟩
 ·have op:=o2 p o1 (Yd _)
  have pv:∀q,ZS f p q->o=q\/(o<q/\Over f o q/\f o<=f q):=λq h=>by
   rcases Nat.lt_trichotomy o q with z|z|z
   ·have:=h.1;exact .inr ⟨z,.inl ⟨z,λr r1 r2=>o2 r r1 (by omega)⟩,o2 q z (by omega)⟩
   ·exact .inl z
   ·have:=h.2.2 o z o1;omega
  rcases h with⟨h1,_,h⟩|⟨q,h1,_,h⟩|⟨r,h1,_,h⟩|⟨q,r,h1,h2,h⟩
  ·have:=h1 o o1;omega
  ·refine⟨q,h,by have:=h1.1;omega,?_⟩
   rcases pv q h1 with z|z
   ·exact .inl z
   ·exact .inr z.2.1
  ·have:=h1 o o1;omega
  ·by_cases z:f q<=f r
   ·rw[Yc z]at h
    refine⟨r,h,h2.2.1,.inr (.inl ⟨by have:=h2.1;omega,λs s1 s2=>?_⟩)⟩
    by_cases sp:s<=p
    ·exact o2 s s1 sp
    ·by_cases sr:s=r
     ·rw[sr]
      rcases pv q h1 with y|y
      ·rw[y];exact z
      ·have:=y.2.2;omega
     ·have:=h2.2.2.2 s (by omega) (by omega);omega
   ·rw[Yb z]at h
    refine⟨q,h,by have:=h1.1;omega,?_⟩
    rcases pv q h1 with z|z
    ·exact .inl z
    ·exact .inr z.2.1
 ·have op:=o2 p (Yd _) o1
  have nx:∀r,ZX f n p r->o=r\/(r<o/\Over f o r/\f o<f r):=λr h=>by
   rcases Nat.lt_trichotomy o r with z|z|z
   ·have:=h.2.2.2 o o1 z;omega
   ·exact .inl z
   ·have:=h.1;exact .inr ⟨z,.inr ⟨z,λs s1 s2=>o2 s (by omega) s2⟩,o2 r (by omega) z⟩
  rcases h with⟨_,h1,h⟩|⟨q,_,h1,h⟩|⟨r,_,h1,h⟩|⟨q,r,h1,h2,h⟩
  ·have:=h1 o o1 ho;omega
  ·have:=h1 o o1 ho;omega
  ·refine⟨r,h,h1.2.1,?_⟩
   rcases nx r h1 with z|z
   ·exact .inl z
   ·exact .inr z.2.1
  ·by_cases z:f q<=f r
   ·rw[Yc z]at h
    refine⟨r,h,h2.2.1,?_⟩
    rcases nx r h2 with z|z
    ·exact .inl z
    ·exact .inr z.2.1
   ·rw[Yb z]at h
    refine⟨q,h,by have:=h1.1;omega,.inr (.inr ⟨by have:=h1.1;omega,λs s1 s2=>?_⟩)⟩
    by_cases sp:p<=s
    ·exact o2 s sp s2
    ·by_cases sq:s=q
     ·rw[sq]
      rcases nx r h2 with y|y
      ·rw[y];omega
      ·have:=y.2.2;omega
     ·have:=h1.2.2 s (by omega) (by omega);omega
theorem ZkX {f:Nat->Int}{n p o q:Nat} (hp:p<n) (ho:o<n) (h:ZN f n p (q:Int)):Over f o p↔o=q\/Over f o q:=by
 refine⟨λk=>?_,λk=>?_⟩
 ·obtain⟨q',e,_,z⟩:=Zjm hp ho h k
  have:q'=q:=by omega
  rw[this]at z;exact z
 ·rcases ZfB hp h with z|⟨q',e,_,z⟩
  ·omega
  ·have:q'=q:=by omega
   rw[this]at z
   rcases k with k|k
   ·rw[k];exact z
   ·exact k.trans z
theorem Zjn {f:Nat->Int}{n p o:Nat} (hp:p<n) (ho:o<n) (h:ZN f n p (-1)):¬ Over f o p:=λk=>by
 obtain⟨q',e,_,z⟩:=Zjm hp ho h k
 omega
theorem Zh4 {P Q:Nat->Bool}:∀n,(∀o,o<n->P o=Q o)->(List.range n).countP P=(List.range n).countP Q
 |0,_=>rfl
 |n+1,h=>by
  rw[YF,List.countP_append,List.countP_append,Zh4 n (λo ho=>h o (by omega))]
  simp[List.countP_cons,h n (by omega)]
theorem ZdO {P Q:Nat->Bool}{e:Nat}:∀n,e<n->(∀o,o<n->(P o=true↔o=e\/Q o=true))->Q e=false->(List.range n).countP P=(List.range n).countP Q+1
 |0,h,_,_=>by omega
 |n+1,h,hi,hq=>by
  rw[YF,List.countP_append,List.countP_append]
  by_cases z:e=n
  ·have e1:(List.range n).countP P=(List.range n).countP Q:=Zh4 n λo ho=>by
    have:=hi o (by omega)
    cases hP:P o<;>cases hQ:Q o<;>simp[hP,hQ]at this<;>first|rfl|omega
   have hPn:P n=true:=(hi n (by omega)).mpr (.inl z.symm)
   rw[z]at hq
   rw[e1];simp[List.countP_cons,hPn,hq]
  ·rw[ZdO n (by omega) (λo ho=>hi o (by omega)) hq]
   have:=hi n (by omega)
   have hn:P n=Q n:=by
    cases hP:P n<;>cases hQ:Q n<;>simp[hP,hQ]at this<;>first|rfl|omega
   simp[List.countP_cons,hn];omega
theorem Zpj {P:Nat->Bool}{e n:Nat} (he:e<n) (h:P e=false):(List.range n).countP P<n:=by
 have h1:=ZdO (P:=λo=>decide (o=e)||P o) (Q:=P) n he (λo _=>by simp) h
 have h2:=List.countP_le_length (p:=λo=>decide (o=e)||P o) (l:=List.range n)
 rw[h1,Y6]at h2
 omega
noncomputable def Za5 (T:List Int):Nat->Int->List Nat
 |0,_=>[]
 |k+1,at_=>if 0<=at_/\at_<T.length then at_.toNat::Za5 T k (nth T at_.toNat)else []
open Classical in
noncomputable def dep (f:Nat->Int) (n p:Nat):Nat:=(List.range n).countP λo=>decide (Over f o p)
theorem Zpk {f:Nat->Int}{n p:Nat} (hp:p<n):dep f n p<n:=by
 classical
 exact Zpj hp (by simpa using Over.irrefl)
theorem ZnI {f:Nat->Int}{n p q:Nat} (hp:p<n) (h:ZN f n p (q:Int)):dep f n p=dep f n q+1:=by
 classical
 have hq:q<n:=by
  rcases ZfB hp h with z|⟨q',e,z,_⟩<;>omega
 exact ZdO n hq (λo ho=>by simpa using ZkX hp ho h) (by simpa using Over.irrefl)
theorem ZqX {f:Nat->Int}{n p:Nat} (hp:p<n) (h:ZN f n p (-1)):dep f n p=0:=by
 classical
 unfold dep
 rw[List.countP_eq_zero]
 intro o ho
 simpa using Zjn hp (by simpa using ho) h
theorem Zh5 {P Q:Nat->Bool}:∀n,(∀o,o<n->P o=true->Q o=true)->(List.range n).countP P<=(List.range n).countP Q
 |0,_=>Yd _
 |n+1,h=>by
  rw[YF,List.countP_append,List.countP_append]
  have:=Zh5 n (λo ho=>h o (by omega))
  have hn:=h n (by omega)
  cases hP:P n<;>cases hQ:Q n<;>simp[List.countP_cons,hP,hQ]at hn⊢<;>omega
theorem Zpl {f:Nat->Int}{n p q:Nat} (hp:p<n) (hq:q<n) (h:Over f q p):dep f n q<dep f n p:=by
 classical
 have h1:=ZdO (P:=λo=>decide (o=q)||decide (Over f o q)) (Q:=λo=>decide (Over f o q)) (e:=q) n hq (λo _=>by simp) (by simpa using Over.irrefl)
 have h2:=Zh5 (P:=λo=>decide (o=q)||decide (Over f o q)) (Q:=λo=>decide (Over f o p)) n (λo _ ho=>by
  simp at ho⊢
  rcases ho with z|z
  ·rw[z];exact h
  ·exact z.trans h)
 rw[h1]at h2
 exact h2
theorem Zh6 {ns T:List Int} (hT:Z4 ns T):∀k p,p<ns.length->dep (nth ns) ns.length p<=k->(∀o,o∈Za5 T k (nth T p)↔o<ns.length/\Over (nth ns) o p)/\(Za5 T k (nth T p)).length=dep (nth ns) ns.length p
 |k,p,hp,hk=>by
  have hE:ZN (nth ns) ns.length p (nth T p):=hT.2 p hp
  rcases ZfB hp hE with z|⟨q,e,hq,hO⟩
  ·have e0:Za5 T k (nth T p)=[]:=by
    cases k with
    |zero=>rfl
    |succ k=>rw[Za5,Yb (by omega)]
   rw[e0]
   rw[z]at hE
   exact⟨λo=>⟨λh=>by simp at h,λh=>absurd h.2 (Zjn hp h.1 hE)⟩,by rw[ZqX hp hE];rfl⟩
  ·rw[e]at hE
   have hd:=ZnI hp hE
   obtain⟨k',rfl⟩:∃k',k=k'+1:=⟨k-1,by omega⟩
   have ih:=Zh6 hT k' q hq (by omega)
   have eT:((q:Nat):Int).toNat=q:=by omega
   rw[Za5,e,Yc ⟨by omega,by rw[hT.1];omega⟩,eT]
   refine⟨λo=>?_,by simp[ih.2,hd]⟩
   rw[Yq,ih.1 o]
   refine⟨λh=>?_,λh=>?_⟩
   ·rcases h with h|h
    ·rw[h];exact⟨hq,hO⟩
    ·exact⟨h.1,h.2.trans hO⟩
   ·rcases(ZkX hp h.1 hE).mp h.2 with z|z
    ·exact .inl z
    ·exact .inr ⟨h.1,z⟩
noncomputable def ZfC (T:List Int):List Int:=(List.range T.length).map λp=>((Za5 T T.length (nth T p)).length:Int)
theorem Zf9 (T:List Int):(ZfC T).length=T.length:=by simp[ZfC]
theorem ZkY {T:List Int}{p:Nat} (h:p<T.length):nth (ZfC T) p=(Za5 T T.length (nth T p)).length:=by
 simp[nth,ZfC,Yj,h]
theorem ZnJ {ns T:List Int} (hT:Z4 ns T):Z4 (ZfC T) T:=by
 have eL:T.length=ns.length:=hT.1
 have hd:∀p,p<ns.length->nth (ZfC T) p=(dep (nth ns) ns.length p:Int):=λp hp=>by
  rw[ZkY (by omega),eL,(Zh6 hT ns.length p hp (YT (Zpk hp))).2]
 refine⟨(Zf9 T).symm,λp hp=>?_⟩
 rw[Zf9,eL]at hp⊢
 have lt:∀q p,q<ns.length->p<ns.length->Over (nth ns) q p->nth (ZfC T) q<nth (ZfC T) p:=λq p hq hp h=>by
  rw[hd q hq,hd p hp]
  have:=Zpl hp hq h;omega
 generalize nth (ZfC T)=g at lt
 clear hd
 have pv:∀q,ZS (nth ns) p q->ZS g p q:=λq h=>by
  refine⟨h.1,Int.le_of_lt (lt q p (by have:=h.1;omega) hp (.inl ⟨h.1,λr r1 r2=>?_⟩)),λr r1 r2=>lt p r hp (by omega) (.inr ⟨r2,λs s1 s2=>h.2.2 s (by omega) s2⟩)⟩
  by_cases z:r=p
  ·rw[z];exact h.2.1
  ·have:=h.2.2 r r1 (by omega);have:=h.2.1;omega
 have nx:∀r,ZX (nth ns) ns.length p r->ZX g ns.length p r:=λq h=>by
  refine⟨h.1,h.2.1,lt q p h.2.1 hp (.inr ⟨h.1,λr r1 r2=>?_⟩),λs s1 s2=>Int.le_of_lt (lt p s hp (by have:=h.2.1;omega) (.inl ⟨s1,λr r1 r2=>h.2.2.2 r r1 (by omega)⟩))⟩
  by_cases z:r=p
  ·rw[z];exact h.2.2.1
  ·have:=h.2.2.2 r (by omega) r2;have:=h.2.2.1;omega
 have np:ZbK (nth ns) p->ZbK g p:=λh q hq=>lt p q hp (by omega) (.inr ⟨hq,λr r1 r2=>h r r2⟩)
 have nn:Zbv (nth ns) ns.length p->Zbv g ns.length p:=λh r r1 r2=>Int.le_of_lt (lt p r hp r2 (.inl ⟨r1,λs s1 s2=>h s s1 (by omega)⟩))
 have hE:ZN (nth ns) ns.length p (T.getD p 0):=hT.2 p hp
 rcases hE with⟨h1,h2,h⟩|⟨q,h1,h2,h⟩|⟨r,h1,h2,h⟩|⟨q,r,h1,h2,h⟩
 ·exact .inl ⟨np h1,nn h2,h⟩
 ·exact .inr (.inl ⟨q,pv q h1,nn h2,h⟩)
 ·exact .inr (.inr (.inl ⟨r,np h1,nx r h2,h⟩))
 ·refine .inr (.inr (.inr ⟨q,r,pv q h1,nx r h2,?_⟩))
  rw[h]
  have hq:q<ns.length:=by have:=h1.1;omega
  by_cases z:nth ns q<=nth ns r
  ·have:=lt q r hq h2.2.1 (.inl ⟨by have:=h1.1;have:=h2.1;omega,λs s1 s2=>by
    by_cases y:s=r
    ·rw[y];exact z
    ·by_cases y2:s=p
     ·rw[y2];exact h1.2.1
     ·have:=h1.2.1
      by_cases y3:s<p
      ·have:=h1.2.2 s s1 y3;omega
      ·have:=h2.2.2.2 s (by omega) (by omega);omega⟩)
   rw[Yc z,Yc (by omega)]
  ·have:=lt r q h2.2.1 hq (.inr ⟨by have:=h1.1;have:=h2.1;omega,λs s1 s2=>by
    have:=h1.2.1;have:=h2.2.2.1
    by_cases y:s=q
    ·rw[y];omega
    ·by_cases y2:s=p
     ·rw[y2];omega
     ·by_cases y3:s<p
      ·have:=h1.2.2 s (by omega) y3;omega
      ·have:=h2.2.2.2 s (by omega) (by omega);omega⟩)
   rw[Yb z,Yb (by omega)]
theorem ZnK (T:List Int):(∃ns,Z4 ns T)↔Z4 (ZfC T) T:=⟨λ⟨_,h⟩=>ZnJ h,λh=>⟨_,h⟩⟩
end L2
namespace L2
open PySem PySem.Spec PyProof.Rows PySem.W
noncomputable def Zds (es:List Int) (A B:List Nat) (i:Nat):List Int:=match A.getLast? with
 |some q=>(match B.head? with|some b=>es.set b i|none=>es).set i (q:Int)
 |none=>match B.head? with|some b=>es.set b i|none=>es
noncomputable def Zq (l:List Nat):List V:=l.map λq=>V.int (q:Nat)
theorem Zga (l:List Int) (a p:Nat) (v:Int) (h:p<l.length):(l.set a v).getD p 0=if a=p then v else l.getD p 0:=by
 rw[Yj,Yj]
 by_cases e:a=p
 ·subst e;rw[Yc rfl,List.getElem?_set_self h];rfl
 ·rw[Yb e,List.getElem?_set_ne e]
theorem Zgb (es:List Int) (A B:List Nat) (i:Nat):(Zds es A B i).length=es.length:=by
 unfold Zds
 cases A.getLast?<;>cases B.head?<;>simp
theorem Zfd (es:List Int) (A B:List Nat) (i p:Nat) (hp:p<es.length) (hb:∀b,B.head?=some b->b≠i):(Zds es A B i).getD p 0=if p=i then (match A.getLast? with|some q=>(q:Int)|none=>es.getD i 0)else if B.head?=some p then (i:Int)else es.getD p 0:=by
 unfold Zds
 cases hA:A.getLast? with
 |none =>
  cases hB:B.head? with
  |none =>
   by_cases e:p=i
   ·rw[Yc e,e]
   ·rw[Yb e,Yb (by simp)]
  |some b =>
   show(es.set b i).getD p 0=_
   rw[Zga _ _ _ _ hp]
   by_cases e:p=i
   ·rw[Yc e,Yb (by rw[e];exact hb b hB),e]
   ·rw[Yb e]
    by_cases e2:b=p
    ·rw[Yc e2,Yc (by rw[e2])]
    ·rw[Yb e2,Yb (by intro z;exact e2 (Yx z))]
 |some q =>
  cases hB:B.head? with
  |none =>
   show(es.set i q).getD p 0=_
   rw[Zga _ _ _ _ hp]
   by_cases e:p=i
   ·rw[Yc e,Yc e.symm]
   ·rw[Yb e,Yb (λz=>e z.symm),Yb (by simp)]
  |some b =>
   show((es.set b i).set i q).getD p 0=_
   rw[Zga _ _ _ _ (by simpa using hp),Zga _ _ _ _ hp]
   by_cases e:p=i
   ·rw[Yc e,Yc e.symm]
   ·rw[Yb e,Yb (λz=>e z.symm)]
    by_cases e2:b=p
    ·rw[Yc e2,Yc (by rw[e2])]
    ·rw[Yb e2,Yb (by intro z;exact e2 (Yx z))]
theorem ZlN:∀(l:List Nat) (i lo:Nat),l.Pairwise (· < ·)->(∀q∈l,lo<=q/\q<i)->l.length+lo<=i\/l=[]
 |[],_,_,_,_=>.inr rfl
 |q::r,i,lo,h,hq=>by
  have h1:=hq q (by simp)
  have hr:=YZ.mp h
  rcases ZlN r i (q+1) hr.2 (λx hx=>⟨hr.1 x hx,(hq x (by simp[hx])).2⟩)with z|z
  ·left;simp;omega
  ·left;rw[z];simp;omega
theorem ZL (l:List Nat):(Zq l).length=l.length:=by simp[Zq]
theorem Zdt (a b:List Nat):Zq (a++b)=Zq a++Zq b:=by simp[Zq]
theorem Zh7 {l:List Nat}{j q:Nat} (h:l[j]?=some q):atI (Zq l) (j:Int)=some (V.int (q:Nat)):=by
 have hj:=(Ys.mp h).1
 have e:=(Ys.mp h).2
 rw[Zh1 rfl (by rw[ZL];exact hj)]
 simp[Zq,e]
theorem Zgc {n j:Nat} (h:j<n):ixN n (j:Int)=some j:=by
 unfold ixN
 rw[Yc (by omega),Yc (by omega)];simp
section
variable {X:Cx}
noncomputable def ZlO (ta:TA):TE:=fun σ H Q=>ta σ H λvs H1=>∃i j:Int,vs=[.int i,.int j]/\-(2 ^ 62)<=i/\i<2 ^ 62/\-(2 ^ 62)<=j/\j<2 ^ 62/\∀p,H1 p=none->Q (.ref p) (upd H1 p (.rng i j))
theorem ZnL {a b:Expr}{ta:TA}{p pos:Pos} (hg:Gl X "range") (hm:X.mg "range"=none) (ha:PA X [a,b] ta) (hs:starEach [a,b] X.env=[(false,eval a X.env),(false,eval b X.env)]:=by rfl) (hs2:starEach [b] X.env=[(false,eval b X.env)]:=by rfl):PE X (.Call (.Name "range" p) [a,b] [] pos) (ZlO ta):=by
 intro pins s σ H Q I h
 refine wpAny_Call_Name_kw (Zc7 I hg hm boot_range (PyProof.Rows.callWith_type1 (thn (ha pos pins s σ H _ I h) λus s1 ⟨vs,H1,I1,r1,q1⟩=>?_) (by rw[hs,hs2]) (by rw[hs2];rfl)))
 obtain⟨i,j,e,q1,q2,q3,q4,q⟩:=q1
 subst e
 cases r1 with
 |cons r rr =>
  cases rr with
  |cons r' rr =>
   cases rr
   obtain⟨t,rfl⟩:=r
   obtain⟨t',rfl⟩:=r'
   refine call_range_2 ⟨.ref s1.heap.objs.size,_,I1.laid (λb o e=>Ym _ e) (Yd _) ?_,rfl,q _ (I1.hok.fresh (Yd _))⟩
   exact⟨_,_,_,Yw _ rfl⟩
noncomputable def ZlP:List V->Hp->VK->Prop:=λxs H Q=>∃p i j,xs=[.ref p]/\H p=some (.rng i j)/\-(2 ^ 62)<=i/\i<2 ^ 62/\-(2 ^ 62)<=j/\j<2 ^ 62/\j-i<=1000/\∀l,H l=none->Q (.ref l) (upd H l (.lst ((List.range (j-i).toNat).map λ(k:Nat)=>V.int (i+(k:Int)))))
theorem Zh8 (hc:X.calm=true):Zbs X (.type "list") ZlP:=by
 intro pins s σ H xs us Q I r h
 obtain⟨p,i,j,rfl,hp,h0,h1,h2,h3,h4,q⟩:=h
 obtain⟨u,rfl,ru⟩:=r.one
 cases(show u=Value.ref p from ru)
 obtain⟨t,u,v,hob⟩:=(show ∃t u v,s.heap.get? p=some {cls:=.type "range",data:=.fields #[.int i t,.int j u,.int 1 v]}from I.hok p _ hp)
 refine call_list_range (n:=(j-i).toNat) (I.ok.hd hc) hob (small_one (by omega) (by omega) (by omega) (by omega)) (by rw[rangeSize_one];split<;>omega) (by omega) λh' tk acc' c' kp hn hacc=>?_
 have hv:Vals ((List.range (j-i).toNat).map λ(k:Nat)=>V.int (i+(k:Int))) acc'.toList:=by
  exact ZqW (g:=λ(k:Nat)=>V.int (i+(k:Int))) (P:=λ(k:Nat) v=>∃t,v=.int (i+(k:Int)*1) t) (λk v h=>by obtain⟨t,e⟩:=h;exact⟨t,by rw[e];simp⟩) _ _ (by rw[YO];exact hacc.1) λk v hk=>hacc.2 k v (by simpa using hk)
 refine⟨.ref s.heap.objs.size,_,I.laid kp (Yd _) ?_,rfl,q _ (I.hok.fresh (Yd _))⟩
 exact⟨by rw[Yi,Y6];exact Yg (show(j-i).toNat<=1000 by omega) (by decide),_,c',hv,hn⟩
end
noncomputable def Zgd (T:List Int) (p:Nat):List Int:=(Za5 T T.length (nth T p)).map λq=>((q:Nat):Int)
noncomputable def Zh9 (T:List Int):Prop:=T.length<=40/\∃ns,Z4 ns T
theorem ZkZ (T:List Int):∀k a,(Za5 T k a).length<=k
 |0,_=>by simp[Za5]
 |k+1,a=>by
  rw[Za5]
  split
  ·have:=ZkZ T k (nth T a.toNat);simp;omega
  ·simp
noncomputable def Za3 (T:List Int):Nat->Int->Int
 |0,a=>a
 |j+1,a=>if 0<=a/\a<T.length then Za3 T j (nth T a.toNat)else a
theorem Zjo (T:List Int):∀j a,0<=Za3 T j a->Za3 T j a<T.length->(Za5 T j a).length=j->Za5 T (j+1) a=Za5 T j a++[(Za3 T j a).toNat]/\Za3 T (j+1) a=nth T (Za3 T j a).toNat
 |0,a,h0,h1,_=>by
  have h0':0<=a:=h0
  have h1':a<T.length:=h1
  constructor
  ·simp[Za5,Za3,h0',h1']
  ·simp[Za3,h0',h1']
 |j+1,a,h0,h1,hl=>by
  rw[Za5]at hl
  by_cases z:0<=a/\a<T.length
  ·rw[Yc z]at hl
   have e1:Za3 T (j+1) a=Za3 T j (nth T a.toNat):=by rw[Za3,Yc z]
   rw[e1]at h0 h1
   have ih:=Zjo T j (nth T a.toNat) h0 h1 (by simpa using hl)
   constructor
   ·rw[Za5,Yc z,ih.1,Za5.eq_def T (j+1) a]
    simp only[Yc z,e1];simp
   ·rw[Za3,Yc z,ih.2,e1]
  ·rw[Yb z]at hl;simp at hl
theorem Zjp (T:List Int):∀j k a,j<=k->(Za5 T j a).length=j->¬ (0<=Za3 T j a/\Za3 T j a<T.length)->Za5 T k a=Za5 T j a
 |0,k,a,_,_,h=>by
  have h':¬ (0<=a/\a<T.length):=h
  cases k with
  |zero=>rfl
  |succ k=>rw[show Za5 T 0 a=[]from rfl,Za5,Yb h']
 |j+1,k,a,hk,hl,h=>by
  rw[Za5]at hl
  by_cases z:0<=a/\a<T.length
  ·rw[Yc z]at hl
   rw[Za3,Yc z]at h
   obtain⟨k',rfl⟩:∃k',k=k'+1:=⟨k-1,by omega⟩
   rw[Za5,Yc z,Zjp T j k' _ (by omega) (by simpa using hl) h,Za5,Yc z]
  ·rw[Yb z]at hl;simp at hl
section
variable {X:Cx}
theorem ZnM {K:Frag} (hK:X.K=K):OpR X (compareOp .NotIn) (rIn K true):=hK▸ZjN
end
theorem ZnN (xs:List Int):(xs.map V.int).all flatV=true:=by
 induction xs with
 |nil=>rfl
 |cons x r ih=>rw[YQ,List.all_cons,ih];rfl
theorem ZqY (x:Int) (xs:List Int):inV (.int x) (xs.map V.int)=decide (x∈xs):=by
 induction xs with
 |nil=>rfl
 |cons y r ih =>
  have:inV (.int x) ((y::r).map V.int)=(decide (y=x)||inV (.int x) (r.map V.int)):=rfl
  rw[this,ih]
  by_cases z:y=x
  ·simp[z]
  ·have:¬ x=y:=λh=>z h.symm
   simp[z,this]
section
variable {prog:Program}{w:World}{A:Around}{E:Value->Shared->Prop}{s:Shared}
theorem Zk0 {a c n:Nat} (hac:a<=c) (han:a<=n):sliceBounds (some (a:Int)) (some (c:Int)) none n=((a:Int),((min c n:Nat):Int),1):=by
 simp only[sliceBounds,Option.getD_none]
 have h1:¬ ((a:Int)<0):=by omega
 have h2:¬ ((c:Int)<0):=by omega
 simp only[h1,h2,if_false,show(1:Int)>0 by decide,if_true]
 congr 1
 ·omega
 ·congr 1;omega
set_option maxRecDepth 100000 in
theorem Zia {l b sl : Addr} {items new : Array Value} {n n2 : Nat} {vl vu : Value} {a c : Nat} {Q : Unit → Shared → Prop}
    (e : s.heap.get? l = some { cls := .type "list", data := .seq items n }) (e2 : s.heap.get? b = some { cls := .type "list", data := .seq new n2 }) (hne : l ≠ b)
    (hs : s.heap.IsSliceOf sl vl vu .none) (pl : IsPart vl (some (a : Int))) (pu : IsPart vu (some (c : Int))) (hac : a ≤ c) (han : a ≤ items.size)
    (hsz : items.size + new.size ≤ sizeLine) (h : Q () { s with heap := s.heap.update l (Obj.mapSeq fun xs => xs.extract 0 a ++ new ++ xs.extract (min c items.size) xs.size) }) :
    wpAny (model prog w) A (setItem (.ref l) (.ref sl) (.ref b)) Q E s := by
  have hl : s.heap.IsList l items := PySem.IsL.isList e
  have hb : s.heap.IsList b new := PySem.IsL.isList e2
  obtain ⟨os, hos, hcs, hds⟩ := id hs
  have hTs : s.TypeIs (.ref sl) "slice" := ⟨os, hos, hcs⟩
  have hstep : ¬ ((rawPart none == rawInt 0) = true) := Yv
  have hsame : Builtin.List.listSameRef (.ref l) (.ref b) = false := by
    unfold Builtin.List.listSameRef
    exact beq_eq_false_iff_ne.mpr hne
  have hmax : (max (a : Int) ((min c items.size : Nat) : Int)).toNat = min c items.size := by omega
  have hz' : ((fun xs : Array Value => xs.extract 0 a ++ new ++ xs.extract (min c items.size) xs.size) items).size ≤ sizeLine + 1 := by
    simp only [Array.size_append, Array.size_extract]
    omega
  unfold setItem
  try with_reducible refine wpAny_holding ?_
  first | refine Ya (Ye ?_) | skip
  refine Ya (wpAny_sequenceKey hl.typeIs (by decide) ?_)
  refine Ya (wpAny_callSpecial?_slot (name := Str.ofString "__setitem__") hl.typeIs slot_list_setitem
    (wpAny_call_entry slot_list_setitem hl.typeIs entry_list_setitem ?_ (args_list_setitem _ _ _)))
  show wpAny _ _ (Builtin.List.listSubscript? (.ref sl) >>= _) _ _ s
  refine Ya ?_
  unfold Builtin.List.listSubscript?
  refine Ya (wpAny_specialOf hTs slice_no_index ?_)
  simp only [Option.isNone_none, if_true]
  refine Ye ?_
  show wpAny _ _ (typeOf (.ref sl) >>= _) _ _ s
  refine Ya (wpAny_typeOf hTs ?_)
  first
    | rw [Yb (by decide)]
    | refine PySem.W.KFB.if_not (by decide) ?_
  rw [listSliceParts_eq]
  refine Ya (Ya (wpAny_field hos hds (x := .none) rfl (Ya (wpAny_listPart .none ?_))))
  rw [Yb hstep]
  refine Ya (wpAny_field hos hds (x := vl) rfl (Ya (wpAny_listPart pl ?_)))
  refine Ya (wpAny_field hos hds (x := vu) rfl (Ya (wpAny_listPart pu (Ye ?_))))
  first
    | simp only [hsame, Bool.false_eq_true, if_false]
    | refine PySem.W.KFB.if_not hsame ?_
    | (dsimp only
       rw [Yb (by rw [hsame]; exact Yv)])
  refine Ya (m := Builtin.List.listAllItems (.ref b) "must assign iterable to extended slice") ?_
  unfold Builtin.List.listAllItems
  refine Ya (wpAny_typeOf hb.typeIs ?_)
  first
    | refine PySem.W.KFB.if_so (by decide) ?_
    | rw [Yc (by decide)]
    | simp only [beq_self_eq_true, Bool.true_or, if_true]
  unfold Builtin.List.listItems
  refine Ya (wpAny_seqItems e2 rfl (Ye ?_))
  refine Ya (Ya (wpAny_seqItems e rfl (Ye ?_)))
  refine Ya (wpAny_of_eq ((sliceIndices_raw (some (a : Int)) (some (c : Int)) none items.size (by simp)).trans (congrArg (pure : Int × Int × Int → Sem (Int × Int × Int)) (Zk0 hac han))) ?_)
  show wpAny _ _ (if ((1 : Int) == 1) = true then _ else _) _ _ s
  rw [Yc (by decide)]
  refine Ya (wpAny_rule ?_)
  first
    | simp only [ZhZ hsz, Bool.false_eq_true, if_false]
    | refine PySem.W.KFB.if_not (ZhZ hsz) ?_
  first | refine Ya (Ye ?_) | skip
  show wpAny _ _ (updateSeq l (fun xs => xs.extract 0 ((a : Int)).toNat ++ new ++ xs.extract (max (a : Int) ((min c items.size : Nat) : Int)).toNat xs.size) >>= _) _ _ s
  rw [hmax, YJ]
  refine Ya (wpAny_updateSeq (hz := Yg (Nat.le_add_right _ _) hsz) (_hz' := hz') e rfl ?_)
  refine Ya (wpAny_letGo ?_)
  first
    | exact Ya (Ye (Ye ⟨.none, rfl, Ye h⟩))
    | exact Ye ⟨.none, rfl, Ye h⟩
end
section
variable {X:Cx}
theorem ZlQ {pins:List (Addr×Obj)}{s:Shared}{σ:St}{H:Hp}{l b sl:Addr}{xs ys:List V}{a c:Int}{vl vu:Value}{Q:Unit->Shared->Prop} (I:Inv X pins σ H s)
  (hH:H l=some (.lst xs)) (hB:H b=some (.lst ys)) (hne:l≠b) (hs:s.heap.IsSliceOf sl vl vu .none) (ra:RelV (.int a) vl) (rc:RelV (.int c) vu) (h0:0<=a) (hac:a<=c) (hc:a<=xs.length)
  (hz:xs.length+ys.length<=sizeLine) (h:∀s',Inv X pins σ (upd H l (.lst (xs.take a.toNat++ys++xs.drop c.toNat))) s'->Q () s') :
  wpAny (model X.prog X.w) X.A (setItem (.ref l) (.ref sl) (.ref b)) Q X.xe s:=by
 obtain⟨ta,rfl⟩:=ra
 obtain⟨tc,rfl⟩:=rc
 obtain⟨z,its,n,r,hl,e⟩:=I.ZkI hH
 obtain⟨z2,its2,n2,r2,hl2,e2⟩:=I.ZkI hB
 obtain⟨a',rfl⟩:=YM h0
 obtain⟨c',rfl⟩:=YM (Int.le_trans h0 hac)
 simp only[YJ]at h
 have hdr:its.drop c'=its.drop (min c' its.toArray.size):=by
  rw[Yl]
  by_cases q:c'<=its.length
  ·rw[Nat.min_eq_left q]
  ·rw[Nat.min_eq_right (by omega),List.drop_eq_nil_of_le (by omega),List.drop_eq_nil_of_le (Yd _)]
 refine Zia (a:=a') (c:=c') e e2 hne hs (.int _ _) (.int _ _) (by omega) (by rw[Yl];omega) (by rw[Yl,Yl];omega) (h _ ?_)
 refine I.lset (its':=its.take a'++its2++its.drop c') (t':=s.toks) hH e ?_ (Vals.append (Vals.append (r.take _) r2) (r.drop _)) ?_
 ·rw[hdr];exact Znx its its2 a' _
 ·rw[Yr,Yr,YX,Y1]
  omega
noncomputable def ZlR (to tl tu:TE):TG:=λv σ H Q=>to σ H λx H1=>tl σ H1 λy H2=>tu σ H2 λz H3=>∃(l b:Addr) (xs ys:List V) (a c:Int),x=.ref l/\v=.ref b/\y=.int a/\z=.int c/\H3 l=some (.lst xs)/\H3 b=some (.lst ys)/\l≠b/\0<=a/\a<=c/\a<=xs.length/\xs.length+ys.length<=sizeLine/\Q σ (upd H3 l (.lst (xs.take a.toNat++ys++xs.drop c.toNat)))
theorem Zk1 {o lo hi:Expr}{to tl tu:TE}{pos p2:Pos} (ho:PE X o to) (hl:PE X lo tl) (hu:PE X hi tu)
  (ha:∀v,assign (.Subscript o (.Slice (some lo) (some hi) none p2) pos) X.env v=(do
   let ov <-holding [v] (eval o X.env)
   let iv <-holding [v,ov] (eval (.Slice (some lo) (some hi) none p2) X.env)
   standAt pos
   holding [v,ov,iv] (setItem ov iv v)
   release [iv,v,ov] []):=by intro _;rfl):PG X (.Subscript o (.Slice (some lo) (some hi) none p2) pos) (ZlR to tl tu):=by
 intro pins s σ H v u Q I r h
 rw[ha]
 refine Ya (wpAny_holding (thn (ho pins s σ H _ I h) λov s1 ⟨x,H1,I1,r1,q1⟩=>?_))
 refine Ya (wpAny_holding ?_)
 refine wpAny_Slice ?_
 rw[evalPart_some]
 refine thn (hl pins s1 σ H1 _ I1 q1) λvl s2 ⟨y,H2,I2,r2,q2⟩=>?_
 rw[evalPart_some]
 refine thn (hu pins s2 σ H2 _ I2 q2) λvu s3 ⟨z,H3,I3,r3,q3⟩=>?_
 rw[evalPart_none]
 refine Ye ?_
 obtain⟨l,b,xs,ys,a,c,rfl,rfl,rfl,rfl,hx,hb,hne,h0,h1,h2,h3,q⟩:=q3
 cases r1
 cases r
 have I4:Inv X pins σ H3 {s3 with heap:=s3.heap.push {cls:=.type "slice",data:=.fields #[vl,vu,.none]}}:=I3.kept (t':=s3.toks) λb ob q=>Ym _ q
 refine Ya (wpAny_standAt (Ya (wpAny_holding ?_)))
 exact ZlQ I4 hx hb hne (Heap.IsSliceOf.new ..) r2 r3 h0 h1 h2 h3 λs' I'=>wpAny_release ⟨σ,_,I',q⟩
end
theorem Zcd {a b:TS}{D:Ends}{σ:St}{H:Hp} (Mid:St->Hp->Prop) (h1:∀R:St->Hp->Prop,(∀σ' H',Mid σ' H'->R σ' H')->a {D with nx:=R} σ H) (h2:∀σ' H',Mid σ' H'->b D σ' H'):tSeq a b D σ H:=h1 _ h2
theorem Zpm (xs:List V) (j:Nat):ZiN xs none (some (j:Int))=xs.take j:=by
 have h:¬ ((j:Int)<0):=by omega
 unfold ZiN HT.sIx
 simp only[Yb h,List.drop_zero,Nat.sub_zero]
 rw[List.take_eq_take_iff]
 omega
theorem ZgN (xs:List V) (j:Nat):ZiN xs (some (j:Int)) none=xs.drop j:=by
 have h:¬ ((j:Int)<0):=by omega
 unfold ZiN HT.sIx
 simp only[Yb h,YJ]
 by_cases z:j<=xs.length
 ·rw[Nat.min_eq_left z]
  exact List.take_of_length_le (by rw[Y1];omega)
 ·rw[Nat.min_eq_right (by omega),Nat.sub_self,List.take_zero,List.drop_eq_nil_of_le (show xs.length<=j by omega)]
end L2
namespace L2
open PySem PySem.Spec PyProof.Rows
structure CellsOf (cl:List (Str×Addr)) (n0:Nat) (cs:List (Str×Addr)) (h0 h:Heap) (done:List (Str×NameKind)):Prop where
 old:∀b o,h0.get? b=some o->h.get? b=some o
 sz:n0<=h.objs.size
 mem:∀p∈cs,p∈cl\/(n0<=p.2/\p.2<h.objs.size/\h.IsCell p.2 none)
 inj:∀p∈cs,∀q∈cs,n0<=p.2->p.2=q.2->p.1=q.1
 own:∀y∈done,y.2=.cell->∃c,cs.lookup y.1=some c/\n0<=c
 oth:∀x,(∀y∈done,y.2=.cell->y.1≠x)->cs.lookup x=cl.lookup x
theorem ZgO {M:Model}{A:Around}{E:Value->Shared->Prop}{cl:List (Str×Addr)}{n0:Nat}{h0:Heap} (hcl:∀p∈cl,p.2<n0):∀(names:List (Str×NameKind)) (cs:List (Str×Addr)) (done:List (Str×NameKind)) (s:Shared),CellsOf cl n0 cs h0 s.heap done ->
  wpAny M A (forIn names cs λ(x:Str×NameKind) (r:List (Str×Addr))=>(match x with
   |(name,kind)=>if (kind==NameKind.cell)=true then do
     let a <-alloc {cls:=.type "cell",data:=.cell none}
     pure (ForInStep.yield ((name,a)::r))
    else pure (ForInStep.yield r):Sem (ForInStep (List (Str×Addr))))) (λcs' s'=>∃h',s'={s with heap:=h'}/\CellsOf cl n0 cs' h0 h' (done++names)) E s
 |[],cs,done,s,I=>by
  rw[List.forIn_nil,List.append_nil]
  exact Ye ⟨s.heap,rfl,I⟩
 |(n,k)::r,cs,done,s,I=>by
  rw[List.forIn_cons]
  by_cases hk:k=.cell
  ·subst hk
   simp only[beq_self_eq_true,if_true]
   refine Ya (Ya (wpAny_alloc (Ye ?_)))
   have hget:(s.heap.push {cls:=.type "cell",data:=.cell none}).get? s.heap.objs.size=some {cls:=.type "cell",data:=.cell none}:=Yw _ rfl
   have I':CellsOf cl n0 ((n,s.heap.objs.size)::cs) h0 (s.heap.push {cls:=.type "cell",data:=.cell none}) (done++[(n,.cell)]):=by
    refine⟨λb o e=>Ym _ (I.old b o e),by rw[Heap.size_push];exact Nat.le_succ_of_le I.sz,λp hp=>?_,λp hp q hq hn e=>?_,λy hy hc=>?_,λx hx=>?_⟩
    ·rcases Yq.mp hp with z|z
     ·subst z
      exact .inr ⟨I.sz,by rw[Heap.size_push];exact Nat.lt_succ_self _,_,hget,rfl⟩
     ·rcases I.mem p z with w|⟨w1,w2,o,w3,w4⟩
      ·exact .inl w
      ·exact .inr ⟨w1,by rw[Heap.size_push];exact YH w2,o,Ym _ w3,w4⟩
    ·have lt:∀p∈cs,p.2<s.heap.objs.size:=λp hp=>by
      rcases I.mem p hp with w|w
      ·exact Yu (hcl p w) I.sz
      ·exact w.2.1
     rcases Yq.mp hp with z|z<;>rcases Yq.mp hq with z'|z'
     ·rw[z,z']
     ·subst z;exact absurd (show s.heap.objs.size<s.heap.objs.size from(show s.heap.objs.size=q.2 from e)▸lt q z') (Yz _)
     ·subst z';exact absurd (show s.heap.objs.size<s.heap.objs.size from(show p.2=s.heap.objs.size from e)▸lt p z) (Yz _)
     ·exact I.inj p z q z' hn e
    ·rcases Yt.mp hy with z|z
     ·obtain⟨c,e1,e2⟩:=I.own y z hc
      by_cases hx:y.1=n
      ·exact⟨s.heap.objs.size,by rw[hx];simp,I.sz⟩
      ·have hb:(y.1==n)=false:=by simpa using hx
       exact⟨c,by simp only[List.lookup_cons,hb];exact e1,e2⟩
     ·have:y=(n,.cell):=by simpa using z
      subst this
      exact⟨s.heap.objs.size,by simp,I.sz⟩
    ·have hxn:n≠x:=hx (n,.cell) (by simp) rfl
     have hb:(x==n)=false:=by simpa using hxn.symm
     simp only[List.lookup_cons,hb]
     exact I.oth x λy hy=>hx y (YC _ hy)
   refine thn (ZgO hcl r _ _ {s with heap:=s.heap.push {cls:=.type "cell",data:=.cell none}} I') λcs' s' ⟨h',e1,e2⟩=>⟨h',e1,?_⟩
   rw[YV]at e2
   exact e2
  ·have e1:(k==NameKind.cell)=false:=by cases k<;>first|rfl|exact absurd rfl hk
   simp only[e1,Bool.false_eq_true,if_false]
   refine Ya (Ye ?_)
   have I':CellsOf cl n0 cs h0 s.heap (done++[(n,k)]):=by
    refine⟨I.old,I.sz,I.mem,I.inj,λy hy hc=>?_,λx hx=>I.oth x λy hy=>hx y (YC _ hy)⟩
    rcases Yt.mp hy with z|z
    ·exact I.own y z hc
    ·have:y=(n,k):=by simpa using z
     subst this
     exact absurd hc hk
   refine thn (ZgO hcl r _ _ s I') λcs' s' ⟨h',e1,e2⟩=>⟨h',e1,?_⟩
   rw[YV]at e2
   exact e2
theorem ZlS {M:Model}{A:Around}{E:Value->Shared->Prop}{s:Shared}{scope:Scope}{globals:Addr}{cl:List (Str×Addr)}{qual:Str}{around:Env}{Q:Env->Shared->Prop} (hcl:∀p∈cl,p.2<s.heap.objs.size)
  (h:∀cs h',CellsOf cl (s.heap.objs.size+1) cs (s.heap.push {cls:=.type "dict",data:=.dict #[]}) h' scope.names->Q {scope:=scope,locals:=s.heap.objs.size,globals:=globals,cells:=cs,qual:=qual,func:=none,code:=around.code,frame:=around.frame,builtins:=around.builtins} {s with heap:=h'}) :
  wpAny M A (newFunctionEnv scope globals cl [] qual none .none (some around)) Q E s:=by
 unfold newFunctionEnv
 refine Ya (wpAny_alloc ?_)
 refine Ya (thn (ZgO (cl:=cl) (n0:=s.heap.objs.size+1) (h0:=s.heap.push {cls:=.type "dict",data:=.dict #[]}) (λp hp=>YH (hcl p hp)) scope.names cl [] {s with heap:=s.heap.push {cls:=.type "dict",data:=.dict #[]}} ⟨λb o e=>e,by rw[Heap.size_push];exact Yd _,λp hp=>.inl hp,λp hp q hq hn e=>absurd (hcl p hp) (Nat.not_lt_of_le (Nat.le_of_succ_le hn)),λy hy=>(nomatch hy),λx hx=>rfl⟩) λcs s' ⟨h',e1,e2⟩=>?_)
 subst e1
 rw[List.nil_append]at e2
 exact Ya (Ye (Ye (h cs h' e2)))
noncomputable def Zbw (around scope:Scope):Bool :=
 scope.kind==.function&&around.kind==.function&&scope.names.all λy=>match y.2 with
  |.local=>scope.names.lookup y.1==some .local
  |.cell=>scope.names.lookup y.1==some .cell
  |.free=>(scope.names.lookup y.1==some .free)&&(around.names.lookup y.1==some .cell||around.names.lookup y.1==some .free)
  |_=>true
theorem Zge {a s:Scope} (h:Zbw a s=true):s.kind=.function:=by
 simp only[Zbw,Bool.and_eq_true,beq_iff_eq]at h;exact h.1.1
theorem ZfD {a s:Scope} (h:Zbw a s=true) {y:Str×NameKind} (hy:y∈s.names):(match y.2 with
  |.local=>s.names.lookup y.1==some .local
  |.cell=>s.names.lookup y.1==some .cell
  |.free=>(s.names.lookup y.1==some .free)&&(a.names.lookup y.1==some .cell||a.names.lookup y.1==some .free)
  |_=>true)=true:=by
 simp only[Zbw,Bool.and_eq_true]at h
 exact List.all_eq_true.mp h.2 y hy
theorem ZiS {a s:Scope} (h:Zbw a s=true):∀y∈s.names,y.2=.local->s.names.lookup y.1=some .local:=λy hy e=>by
 have q:=ZfD h hy
 rw[e]at q
 exact beq_iff_eq.mp q
theorem Zj5 {a s:Scope} (h:Zbw a s=true):∀y∈s.names,y.2=.cell->s.names.lookup y.1=some .cell:=λy hy e=>by
 have q:=ZfD h hy
 rw[e]at q
 exact beq_iff_eq.mp q
theorem ZdP {a s:Scope} (h:Zbw a s=true):∀y∈s.names,y.2=.free->s.names.lookup y.1=some .free/\(a.names.lookup y.1=some .cell\/a.names.lookup y.1=some .free):=λy hy e=>by
 have q:=ZfD h hy
 rw[e]at q
 simp only[Bool.and_eq_true,Bool.or_eq_true,beq_iff_eq]at q
 exact q
noncomputable def ZaQ (X:Cx) (Nc:List Str) (scope:Scope) (cs:List (Str×Addr)) (C:Addr) (s2:Shared) (H2:Hp) (fp:List Addr):Cx :=
 {Zo2 X Nc scope cs C s2 H2 fp with fn:=λx=>scope.names.lookup x==some .cell}
theorem Zk2 {env:Env}{scope:Scope} (h:∀y∈scope.names,y.2=.free->∃c,env.cells.lookup y.1=some c) :
  ∃cl,closureFor scope env=pure cl/\(∀p∈cl,env.cells.lookup p.1=some p.2)/\(∀y∈scope.names,y.2=.free->∃c,cl.lookup y.1=some c/\env.cells.lookup y.1=some c):=by
 obtain⟨cl,e,h1,h2,h3⟩:=Zfz (env:=env) scope.names [] h
 have up:∀p∈cl,env.cells.lookup p.1=some p.2:=λp q=>by
  rcases h1 _ q with z|z
  ·cases z
  ·exact z
 refine⟨cl,?_,up,λy hy hf=>?_⟩
 ·unfold closureFor
  simp only[bind_pure_comp]at e⊢
  rw[e]
  exact pure_bind _ _
 ·obtain⟨c,hc⟩:=h3 y hy hf
  cases q:cl.lookup y.1 with
  |none=>exact absurd (List.lookup_eq_none_iff.mp q _ hc) (by simp)
  |some c'=>exact⟨c',rfl,up _ (PySem.mem_of_lookup q)⟩
section
variable {X:Cx}
theorem Zk3 {pins:List (Addr×Obj)}{σ:St}{H2:Hp}{s2:Shared}{Nc:List Str}{js:List (Option Nat)}{scope:Scope}{cs:List (Str×Addr)}{fp:List Addr}{h1:Heap}{tk:Nat}{D C:Addr}{oD:Obj}{m:Str->Option Value}
  (I:Inv X pins σ H2 s2) (hok:Zbw X.env.scope scope=true) (htk:Zbu X.N Nc scope js 0=true) (up:∀x c,cs.lookup x=some c->X.env.cells.lookup x=some c\/(C<c/\h1.IsCell c none)) (hinj:∀x y c,cs.lookup x=some c->cs.lookup y=some c->x=y) (hown:∀y∈scope.names,y.2=.cell->∃c,cs.lookup y.1=some c/\C<c) (hfr:∀y∈scope.names,y.2=.free->∃c,cs.lookup y.1=some c/\X.env.cells.lookup y.1=some c)
  (hfp:∀b∈fp,FpOk X pins H2 b) (hfl:∀b∈fp,b<s2.heap.objs.size) (hD:D=s2.heap.objs.size) (hC:C=s2.heap.objs.size+1) (old:∀b o,s2.heap.get? b=some o->h1.get? b=some o) (hns:h1.Ns C m) (hoD:h1.get? D=some oD) (hdD:∀v,oD.data≠.cell v) :
  Inv (ZaQ X Nc scope cs C s2 H2 fp) [(D,oD)] (Zdp js σ) H2 {s2 with heap:=h1,toks:=tk}:=by
 have leC:s2.heap.objs.size<=C:=by rw[hC];exact Y3 _
 have leD:s2.heap.objs.size<=D:=Y5 hD.symm
 have kf:∀x,((compEnvC scope cs C X.env).kindOf x=some .cell\/(compEnvC scope cs C X.env).kindOf x=some .free)->∃c,cs.lookup x=some c:=λx hx=>by
  have:∃k,(compEnvC scope cs C X.env).kindOf x=some k/\(k=.cell\/k=.free):=hx.elim (λq=>⟨_,q,.inl rfl⟩) λq=>⟨_,q,.inr rfl⟩
  obtain⟨k,e,hk⟩:=this
  obtain⟨k',h1,h2⟩:=Zbg (show(scope.names.map _).lookup x=some k from e)
  have hm:=lookup_mem h1
  have:k'=.free\/k'=.cell:=by
   rcases h2 with q|q
   ·subst q
    exact hk.symm
   ·exact .inl q.1
  rcases this with z|z
  ·subst z
   obtain⟨c,q,_⟩:=hfr _ hm rfl
   exact⟨c,q⟩
  ·subst z
   obtain⟨c,q,_⟩:=hown _ hm rfl
   exact⟨c,q⟩
 have nC:∀c x,X.env.cells.lookup x=some c->c<s2.heap.objs.size:=λc x e=>by
  obtain⟨v,q⟩:=I.cell x c e
  exact q.lt
 have noB:∀b,b∈fp->b∉frs X.stack:=λb hb q=>by
  rcases Yq.mp (I.ZgI b q)with z|z
  ·exact(hfp b hb).2.1 z
  ·exact(hfp b hb).2.2.1 z
 have okX:(ZaQ X Nc scope cs C s2 H2 fp).Ok:=by
  refine⟨I.ok.mod,(show scope.kind=.function from Zge hok),I.ok.glob,I.ok.blt,?_,λx y c e1 e2=>hinj x y c e1 e2,λx hx=>?_,(λx c e1 e2=>?_),I.ok.hd,I.ok.frames,.inl rfl,λb hb=>⟨?_,λx c e=>(up _ _ e).elim (λz=>(hfp b hb).2.2.2.2.1 x c z) λz=>Nat.ne_of_gt (Nat.lt_trans (Yu (hfl b hb) leC) z.1)⟩,I.bs,Yg I.ok.bsz I.sz,λb o e hb=>?_,λb hb=>noB b hb,I.stack,I.ZjH⟩
  ·show s2.heap.objs.size<=C;exact leC
  ·exact kf x hx
  ·have hm:=lookup_mem (beq_iff_eq.mp (show(scope.names.lookup x==some NameKind.cell)=true from e1))
   obtain⟨c',q1,q2⟩:=hown _ hm rfl
   have:c=c':=Yx ((show cs.lookup x=some c from e2).symm.trans q1)
   rw[this]
   exact Yg leC (YT q2)
  ·exact Yo (Yu (hfl b hb) leC)
  ·rcases(hfp b hb).2.2.2.1 with q|q
   ·exact I.ok.noex b o e q
   ·exact absurd (Yu (Yh e) (Yg I.ok.bsz q)) (Yz _)
 refine⟨okX,rfl,I.bare,Un.kept old,⟨m,hns,λi x v e1 e2 e3=>?_⟩,λx c e=>?_,I.hok.fresh leC,λx c e=>(up _ _ e).elim (λz=>I.freeC x c z) λz=>I.hok.fresh (Yg leC (YT z.1)),λp hp=>?_,I.hok.kept old,?_⟩
 ·have e2':(Zdp js σ)[i]?=some (some v):=e2
  unfold Zdp at e2'
  rw[YD]at e2'
  cases q:js[i]? with
  |none=>rw[q]at e2';cases e2'
  |some j0 =>
   cases j0 with
   |none=>rw[q]at e2';cases e2'
   |some j =>
    rw[q]at e2'
    simp only[Option.map_some,Option.some.injEq]at e2'
    have e4:σ[j]?=some (some v):=by
     cases z:σ[j]? with
     |none=>rw[z]at e2';cases e2'
     |some o=>rw[z]at e2';simp only[Option.join_some]at e2';rw[e2']
    obtain⟨y,y1,y2,y3⟩:=ZgM htk q
    rw[Nat.zero_add]at y1
    have:x=y:=Yx ((show Nc[i]?=some x from e1).symm.trans y1)
    subst this
    have hm:=lookup_mem y3
    obtain⟨c,c1,c2⟩:=hfr _ hm rfl
    have hk:=(ZdP hok _ hm rfl).2
    obtain⟨m0,hn0,hl0⟩:=I.loc
    obtain⟨u,r,l⟩:=hl0 j x v y2 e4 (hk.elim (λz=>.inr (.inl z)) λz=>.inr (.inr z))
    refine⟨u,r,.inr ⟨?_,c,c1,?_⟩⟩
    ·rcases e3 with z|z|z
     ·obtain⟨k',w1,w2⟩:=Zbg (show(scope.names.map _).lookup x=some NameKind.local from z)
      rw[y3]at w1;cases w1
      rcases w2 with w|w
      ·cases w
      ·cases w.2
     ·exact .inl z
     ·exact .inr z
    ·rcases l with⟨lk,_⟩|⟨_,c',c3,c4⟩
     ·rcases hk with z|z
      ·rw[show X.env.kindOf x=some .cell from z]at lk;cases lk
      ·rw[show X.env.kindOf x=some .free from z]at lk;cases lk
     ·rw[c2]at c3;cases c3
      obtain⟨oc,w1,w2⟩:=c4
      exact⟨oc,old _ _ w1,w2⟩
 ·rcases up _ _ e with z|z
  ·obtain⟨v,oc,w1,w2⟩:=I.cell x c z
   exact⟨v,oc,old _ _ w1,w2⟩
  ·exact⟨_,z.2⟩
 ·have:p=(D,oD):=by
   have hp':p∈([]++[(D,oD)]:List (Addr×Obj)):=hp
   simpa using hp'
  subst this
  refine⟨hoD,I.hok.fresh leD,(by show D≠C;rw[hD,hC];exact Yo (Nat.lt_succ_self _)),λhb=>?_,hdD⟩
  have hb':D∈frs X.stack:=hb
  obtain⟨_,o,ho,_⟩:=I.stack.mem hb'
  exact absurd (Yu (Yh ho) leD) (Yz _)
 ·have:=ZfA htk
  show(Zdp js σ).length=Nc.length
  unfold Zdp;rw[Yi];omega
theorem Zjq {pins:List (Addr×Obj)}{σ:St}{H:Hp}{s:Shared}{tg elt iter:Expr}{ifs:List Expr}{scope:Scope}{pos:Pos}{wi:TI}{g:TG}{tt:TT}{te:TE}{Nc:List Str}{js:List (Option Nat)}{use:Option (Value->Sem Unit)}{Q:VK}{QQ:Value->Shared->Prop}
  (hc:X.calm=true) (hok:Zbw X.env.scope scope=true) (htk:Zbu X.N Nc scope js 0=true) (hi:PI X tg iter wi)
  (hg:∀cl C s2 H2 fp,PG (ZaQ X Nc scope cl C s2 H2 fp) tg g) (ht:∀cl C s2 H2 fp,ZnA (ZaQ X Nc scope cl C s2 H2 fp) ifs tt) (he:∀cl C s2 H2 fp,PE (ZaQ X Nc scope cl C s2 H2 fp) elt te)
  (hs:∀x,foldedSetIterable iter X.env x=pure x) {L:List Nat} (ho:Zjh g L) (hL:(L.all λk=>js[k]?==some none)=true) (I:Inv X pins σ H s) (h:ZmC wi g tt te js σ H Q)
  (fin:∀(D C:Addr) (H' H2:Hp) (s2 s':Shared) (xs:List V) (m:Str->Option Value),Inv X pins σ H2 s2->H' C=none->C=D+1->D=s2.heap.objs.size->s'.heap.Ns C m->(∀h',Heap.SameBut C s'.heap h'->Inv X pins σ (upd H' D (.lst xs)) {s' with heap:=h'})->Q (.ref D) (upd H' D (.lst xs)) ->
   compPost (model X.prog X.w) X.A X.xe use QQ (.ref D) C (.ok .next) s') :
  wpAny (model X.prog X.w) X.A (comprehension (.ListComp elt [⟨tg,iter,ifs,0⟩] scope pos) scope X.env (firstIterPos [⟨tg,iter,ifs,0⟩] pos) (newList []) false (eval iter X.env) use) QQ X.xe s:=by
 have hcells:∀y∈scope.names,y.2=.free->∃c,X.env.cells.lookup y.1=some c:=λy hy hf=>I.ok.has y.1 (ZdP hok y hy hf).2
 obtain⟨cl,hcl,upM,hfr0⟩:=Zk2 hcells
 have hk:=Zge hok
 refine wpAny_comprehension_free (use:=use) rfl hs hcl hk (ZiS hok) (thn (hi pins s σ H _ I h) λv s1 h1=>thn h1 λitv s2 h2=>?_)
 obtain⟨it,fp,tn,J,H2,e,I2,T,st2,f2,W,⟨m0,w0⟩,turn⟩:=h2
 subst e
 have clt:∀p∈cl,p.2<s2.heap.objs.size:=λp hp=>by
  obtain⟨v,q⟩:=I2.cell p.1 p.2 (upM p hp)
  exact q.lt
 refine wpAny_newObj_type (ZlS (λp hp=>?_) λcs h₁ CO=>?_)
 ·show p.2<(s2.heap.push _).objs.size
  rw[Heap.size_push];exact YH (clt p hp)
 dsimp only at CO⊢
 generalize hH2:s2.heap.push {cls:=.type "list",dict:=none,data:=.seq ([]:List Value).toArray}=HH at CO⊢
 have hC:HH.objs.size=s2.heap.objs.size+1:=by rw[<-hH2,Heap.size_push]
 have hcl':∀p∈cl,p.2<HH.objs.size:=λp hp=>by rw[hC];exact YH (clt p hp)
 have hns₁:h₁.Ns HH.objs.size (λ_=>none):=⟨_,#[],_,CO.old _ _ (Yw _ rfl),rfl,λe he=>absurd he (by simp),λn=>rfl⟩
 have up:∀x c,cs.lookup x=some c->X.env.cells.lookup x=some c\/(HH.objs.size<c/\h₁.IsCell c none):=λx c e=>by
  rcases CO.mem _ (PySem.mem_of_lookup e)with z|z
  ·exact .inl (upM _ z)
  ·exact .inr ⟨z.1,z.2.2⟩
 have hinj:∀x y c,cs.lookup x=some c->cs.lookup y=some c->x=y:=λx y c e1 e2=>by
  have m1:=PySem.mem_of_lookup e1
  have m2:=PySem.mem_of_lookup e2
  rcases CO.mem _ m1 with z|z
  ·rcases CO.mem _ m2 with z'|z'
   ·exact I2.ok.inj x y c (upM _ z) (upM _ z')
   ·exact absurd (hcl' _ z) (Nat.not_lt_of_le (Nat.le_of_succ_le z'.1))
  ·exact CO.inj _ m1 _ m2 z.1 rfl
 have hfr:∀y∈scope.names,y.2=.free->∃c,cs.lookup y.1=some c/\X.env.cells.lookup y.1=some c:=λy hy hf=>by
  obtain⟨c,q1,q2⟩:=hfr0 y hy hf
  refine⟨c,?_,q2⟩
  rw[CO.oth y.1 λy' hy' hc' z=>?_]
  ·exact q1
  ·have w1:=Zj5 hok y' hy' hc'
   have w2:=(ZdP hok y hy hf).1
   rw[z,w2]at w1;cases w1
 have hfl:∀b∈fp,b<s2.heap.objs.size:=λb hb=>by
  obtain⟨o,ho,_⟩:=T.obj 0 _ st2 b hb
  exact Yh ho
 have hDC:s2.heap.objs.size≠HH.objs.size:=by rw[hC];exact Yo (Nat.lt_succ_self _)
 have old:∀b o,s2.heap.get? b=some o->h₁.get? b=some o:=λb o e=>CO.old b o (Ym _ (hH2▸Ym _ e))
 have hacc:h₁.get? s2.heap.objs.size=some {cls:=.type "list",dict:=none,data:=.seq ([]:List Value).toArray}:=CO.old _ _ (Ym _ (hH2▸Yw _ rfl))
 have I4:=Zk3 (Nc:=Nc) (js:=js) (tk:=s2.toks) I2 hok htk up hinj (λy hy hc=>CO.own y hy hc) hfr f2 hfl rfl hC old hns₁ hacc (by intro v z;cases z)
 have st4:tn 0 h₁:=T.keep _ _ _ st2 λb _ o e=>old b o e
 generalize hXc:ZaQ X Nc scope cs HH.objs.size s2 H2 fp=Xc at I4
 have hXA:Xc.A=X.A:=by rw[<-hXc];rfl
 have hXe:Xc.env=compEnvC scope cs HH.objs.size X.env:=by rw[<-hXc];rfl
 have hXp:Xc.prog=X.prog:=by rw[<-hXc];rfl
 have hXw:Xc.w=X.w:=by rw[<-hXc];rfl
 have hXx:Xc.xe=λ_ _=>False:=by rw[<-hXc];rfl
 have hXk:Xc.K=X.K:=by rw[<-hXc];rfl
 have hXcalm:Xc.calm=true:=by rw[<-hXc];exact hc
 have fpok:∀{pl:List (Addr×Obj)}{H':Hp},(∀p∈pl,s2.heap.objs.size<=p.1)->(∀b∈fp,H' b=none)->∀b∈fp,FpOk Xc pl H' b:=λ{pl H'} hpl hn b hb=>by
  have k1:b≠HH.objs.size:=Yo (by rw[hC];exact YH (hfl b hb))
  have k2:b∉frs X.stack:=λq=>by
   rcases Yq.mp (I2.ZgI b q)with z|z
   ·exact(f2 b hb).2.1 z
   ·exact(f2 b hb).2.2.1 z
  rw[<-hXc]
  refine⟨hn b hb,k1,k2,.inl hb,λx c e=>(up _ _ e).elim (λz=>(f2 b hb).2.2.2.2.1 x c z) λz=>Nat.ne_of_gt (Nat.lt_trans (by rw[hC];exact YH (hfl b hb)) z.1),λp hp=>?_⟩
  have hp':p∈pl:=by simpa[ZaQ,Zo2]using hp
  exact Nat.ne_of_gt (Yu (hfl b hb) (hpl p hp'))
 have gX:PG Xc tg g:=hXc▸hg cs HH.objs.size s2 H2 fp
 have tX:ZnA Xc ifs tt:=hXc▸ht cs HH.objs.size s2 H2 fp
 have eX:PE Xc elt te:=hXc▸he cs HH.objs.size s2 H2 fp
 have hs0:Xc.s₀=s2:=by rw[<-hXc];rfl
 have hh0:Xc.H₀=H2:=by rw[<-hXc];rfl
 have hfs:Xc.fs=frs X.stack:=by rw[<-hXc];rfl
 have hex:Xc.ex=fp:=by rw[<-hXc];rfl
 have loop:codeAny (model X.prog X.w) X.A (.compLoop (.ListComp elt [⟨tg,iter,ifs,0⟩] scope pos) 0 (.ref it) (.ref s2.heap.objs.size) (compEnvC scope cs HH.objs.size X.env)) (compPost (model X.prog X.w) X.A X.xe use QQ (.ref s2.heap.objs.size) HH.objs.size)
   {s2 with heap:=h₁,toks:=s2.toks}:=by
  refine ZeE (λn s'=>∃i acc its nn H',Inv Xc [(s2.heap.objs.size,{cls:=.type "list",dict:=none,data:=.seq (its:List Value).toArray nn})] (Zdp js σ) H' s'/\Vals acc its/\acc.length<=sizeLine/\tn i s'.heap/\(∀b∈fp,H' b=none)/\W i n acc H') ?_ m0
   ⟨0,[],[],0,H2,I4,.nil,Yn _,st4,λb hb=>(f2 b hb).1,w0⟩
  rintro n s3 ⟨i,acc,its,nn,H3,I3,va,hlen,st3,fr3,w3⟩
  have pg:∀p∈([(s2.heap.objs.size,{cls:=.type "list",dict:=none,data:=.seq its.toArray nn})]:List (Addr×Obj)),s2.heap.objs.size<=p.1:=λp hp=>by
   simp only[Yq,List.not_mem_nil,or_false]at hp
   subst hp;exact Yd _
  rcases turn i n acc H3 w3 with⟨stop,hl,qn⟩|⟨go,hl,step⟩
  ·have q:=T.done Xc hXp hXw hXk hXcalm i _ s3 (Zdp js σ) H3 (λ_ _=>False) I3 (fpok pg fr3) st3 stop
   rw[hXA]at q
   refine thn q λr s4 ⟨hr,I5⟩=>?_
   subst hr
   have hpin:=I5.pin _ (Yp _ (.head _))
   obtain⟨m5,hn5,_⟩:=I5.loc
   rw[hXe]at hn5
   refine fin _ _ H3 H2 s2 s4 acc m5 I2 (by have:=I5.free;rw[hXe]at this;exact this) hC rfl hn5 (λh' hsb=>?_) (qn _ hpin.2.1)
   have same:∀b o,b≠HH.objs.size->s4.heap.get? b=some o->h'.get? b=some o:=λb o hb e=>hsb.extBut b o hb e
   have un:=I5.base
   rw[hfs,hex,hh0,hs0]at un
   have lt:∀b o,s2.heap.get? b=some o->b<s2.heap.objs.size:=λb o e=>Yh e
   have neC:∀b o,s2.heap.get? b=some o->b≠HH.objs.size:=λb o e=>Yo (by rw[hC];exact YH (lt b o e))
   have neD:∀b o,s2.heap.get? b=some o->b≠s2.heap.objs.size:=λb o e=>Yo (lt b o e)
   have trkC:∀b o,H3 b=some o->b≠HH.objs.size:=λb o e z=>by
    have:=I5.free;rw[hXe]at this;rw[z,show H3 HH.objs.size=none from this]at e;cases e
   refine I2.call' (s':={s4 with heap:=h'}) (ch:=fp) (I5.os.trans (by rw[hs0])) ⟨λb o e n hb hx=>same _ _ (neC b o e) (un.keep b o e n hb hx),λb o e n hb hx=>?_,λb o e n hx=>by rw[Zm (neD b o e)];exact un.free b o e n hx,λb o e hx=>?_,λb xs e=>?_,λb o u e=>?_,λb ps e=>?_⟩ (λa o e=>?_) I5.bare λb hb=>⟨(f2 b hb).2.2.2.1,(f2 b hb).2.1,(f2 b hb).2.2.2.2.1,(f2 b hb).2.2.2.2.2⟩
   ·obtain⟨sl,z⟩:=un.slot b o e n hb hx
    exact⟨sl,same _ _ (neC b o e) z⟩
   ·obtain⟨o',z⟩:=un.there b o e hx
    exact⟨o',same _ _ (neC b o e) z⟩
   ·rw[Zm (Yo (I2.hok.lt e))];exact un.tups b xs e
   ·rw[Zm (Yo (I2.hok.lt e))];exact un.frzs b o u e
   ·obtain⟨more,z⟩:=un.tbls b ps e
    exact⟨more,by rw[Zm (Yo (I2.hok.lt e))];exact z⟩
   ·by_cases ha:a=s2.heap.objs.size
    ·subst ha
     rw[Zd]at e;cases e
     exact⟨hl,its,nn,va,same _ _ hDC hpin.1⟩
    ·rw[Zm ha]at e
     have q:=I5.hok a o e
     rw[hXp,hXw]at q
     refine q.ZhQ (λb u hb z=>same b u ?_ z) (λb z=>by rw[Zm];exact z;intro y;subst y;rw[hpin.2.1]at z;cases z) (λb xs z=>by rw[Zm];exact z;intro y;subst y;rw[hpin.2.1]at z;cases z) λb o u z=>by rw[Zm];exact z;intro y;subst y;rw[hpin.2.1]at z;cases z
     rcases hb with hb|hb
     ·subst hb;exact trkC _ _ e
     ·exact trkC _ _ hb
  ·have q:=T.item Xc hXp hXw hXk hXcalm i _ s3 (Zdp js σ) H3 (λ_ _=>False) I3 (fpok pg fr3) st3 go
   rw[hXA]at q
   refine thn q λr s4 ⟨u,hr,h4⟩=>?_
   subst hr
   refine thn h4 λ_ s5 ⟨x,H5,I5,r5,y5,st5,fr5⟩=>?_
   have I5':=I5.pinned (fpok pg fr5) (T.obj _ _ st5)
   have again:∀{σ7:St}{H7:Hp}{s7:Shared}{acc7:List V}{its7:List Value}{n7:Nat}{m:Nat},Inv Xc ([(s2.heap.objs.size,{cls:=.type "list",dict:=none,data:=.seq its7.toArray n7})]++ZeA fp s5.heap) σ7 H7 s7->Vals acc7 its7->acc7.length<=sizeLine->W (i+1) m acc7 H7->σ7.length=(Zdp js σ).length->(∀(k:Nat) v,(Zdp js σ)[k]?=some (some v)->σ7[k]?=some (some v)) ->
     ∃i acc its nn H',Inv Xc [(s2.heap.objs.size,{cls:=.type "list",dict:=none,data:=.seq (its:List Value).toArray nn})] (Zdp js σ) H' s7/\Vals acc its/\acc.length<=sizeLine/\tn i s7.heap/\(∀b∈fp,H' b=none)/\W i m acc H':=λ{σ7 H7 s7 acc7 its7 n7 m} I7 v7 l7 w7 hl7 hw7=>by
    refine⟨i+1,acc7,its7,n7,H7,(I7.weak hl7.symm hw7).ZeB,v7,l7,T.keep _ _ _ st5 λb hb o e=>(I7.pin (b,o) (Yp _ (Yp _ (ZdJ hb e)))).1,λb hb=>?_,w7⟩
    obtain⟨o,e,d⟩:=T.obj _ _ st5 b hb
    exact(I7.pin (b,o) (Yp _ (Yp _ (ZdJ hb e)))).2.1
   have keep:∀{σ6:St},Zc9 L (Zdp js σ) σ6->σ6.length=(Zdp js σ).length/\∀(k:Nat) v,(Zdp js σ)[k]?=some (some v)->σ6[k]?=some (some v):=λ{σ6} hk=>⟨hk.1,λk v e=>by
    rw[hk.2 k]
    ·exact e
    ·intro z
     have q:=List.all_eq_true.mp hL k z
     simp only[beq_iff_eq]at q
     unfold Zdp at e
     rw[YD,q]at e
     cases e⟩
   have q6:=gX _ s5 (Zdp js σ) H5 x u _ I5' r5 (ho _ _ _ _ _ (fun σ' H' kk z=>And.intro kk z) (step x H5 y5))
   rw[hXe,hXA,hXp,hXw,hXx]at q6
   refine thn q6 λ_ s6 ⟨σ6,H6,I6,k6,q6⟩=>?_
   obtain⟨kl,kv⟩:=keep k6
   have q7:=tX _ s6 σ6 H6 _ I6 q6
   rw[hXe,hXA,hXp,hXw,hXx]at q7
   refine thn q7 λb s7 ⟨H7,I7,q7⟩=>?_
   cases b with
   |false =>
    obtain⟨m',hm,w7⟩:=q7
    exact⟨m',hm,again I7 va hlen w7 kl kv⟩
   |true =>
    have q8:=eX _ s7 σ6 H7 _ I7 q7
    rw[hXe,hXA,hXp,hXw,hXx]at q8
    refine thn q8 λy s8 ⟨v8,H8,I8,r8,m',hm,w8⟩=>?_
    have pinD:=I8.pin _ (Yp _ (YC _ (.head _)))
    have hnf:∀p∈ZeA fp s5.heap,p.1≠s2.heap.objs.size:=λp hp=>by
     obtain⟨z,_⟩:=Zja hp
     exact Yo (hfl _ z)
    have va':=va.length
    refine call_meets F.slot_list_append ⟨_,pinD.1,rfl⟩ F.entry_list_append (F.args_list_append_2 _ _) (PySem.list_append s2.heap.objs.size its.toArray nn y (by rw[Yl];omega)) ⟨pinD.1,?_⟩
    have e9:=PySem.IsL.update pinD.1 (λa=>a.push y)
    have e9':its.toArray.push y=(its++[y]).toArray:=by simp
    dsimp only at e9
    rw[e9']at e9
    have I8':Inv Xc (ZeA fp s5.heap) σ6 H8 s8:=I8.Zf0 λp hp=>I8.pin p (Yp _ (Yp _ hp))
    have hXpn:Xc.pn=[]:=by rw[<-hXc];rfl
    have hXs:s2.heap.objs.size∉frs X.stack:=by rw[<-hfs];exact pinD.2.2.2.1
    have I9:=I8'.turned (t':=s8.toks) (it:=s2.heap.objs.size) (h':=s8.heap.update s2.heap.objs.size (Obj.mapSeq λa=>a.push y)) (λb o hb e=>(Heap.get?_update_other s8.heap _ (Ne.symm hb)).trans e) pinD.2.1 pinD.2.2.1
     (.inr (by rw[hs0];exact Yd _)) (λx c e=>by
      rw[hXe]at e
      intro z
      rcases up _ _ e with y|y
      ·obtain⟨v,q⟩:=I2.cell x c y
       exact absurd q.lt (by rw[z];exact Yz _)
      ·have:=y.1
       rw[z,hC]at this
       exact absurd this (Nat.not_lt_of_le (Y3 _))) (λp hp=>by rw[hXpn,List.nil_append]at hp;exact hnf p hp)
    have I10:=I9.Zf0 (pins':=[(s2.heap.objs.size,{cls:=.type "list",dict:=none,data:=.seq (its++[y]).toArray _})]++ZeA fp s5.heap) λp hp=>by
     rcases Yt.mp hp with z|z
     ·simp only[Yq,List.not_mem_nil,or_false]at z
      subst z
      exact⟨e9,pinD.2.1,pinD.2.2.1,pinD.2.2.2.1,by intro v z;cases z⟩
     ·exact I9.pin p (Yp _ z)
    exact⟨m',hm,again I10 (va.append (.cons r8 .nil)) (by rw[Yr,List.length_singleton];omega) w8 kl kv⟩
 exact codeAny_compStart_list loop (T.self _ 0 _ _ _ st4 loop)
theorem Zav {tg elt iter:Expr}{ifs:List Expr}{scope:Scope}{pos:Pos}{wi:TI}{g:TG}{tt:TT}{te:TE} (Nc:List Str) (js:List (Option Nat)) {L:List Nat}
  (hc:X.calm=true) (hok:Zbw X.env.scope scope=true) (htk:Zbu X.N Nc scope js 0=true) (hi:PI X tg iter wi)
  (hg:∀cl C s2 H2 fp,PG (ZaQ X Nc scope cl C s2 H2 fp) tg g) (ht:∀cl C s2 H2 fp,ZnA (ZaQ X Nc scope cl C s2 H2 fp) ifs tt) (he:∀cl C s2 H2 fp,PE (ZaQ X Nc scope cl C s2 H2 fp) elt te)
  (ho:Zjh g L) (hL:(L.all λk=>js[k]?==some none)=true:=by rfl) (hs:∀x,foldedSetIterable iter X.env x=pure x:=by intro _;rfl):PE X (.ListComp elt [⟨tg,iter,ifs,0⟩] scope pos) (ZmC wi g tt te js):=by
 intro pins s σ H Q I h
 rw[eval_ListComp]
 exact Zjq (use:=none) hc hok htk hi hg ht he hs ho hL I h λD C H' H2 s2 s' xs m I2 hHC e1 e2 hn hI q=>⟨m,hn,λh' hsb=>⟨.ref D,_,hI h' hsb,rfl,q⟩⟩
theorem Zib {i:Nat}{x:Str}{pos' spos:Pos}{tg elt iter:Expr}{ifs:List Expr}{scope:Scope}{pos:Pos}{wi:TI}{g:TG}{tt:TT}{te:TE} (Nc:List Str) (js:List (Option Nat)) {L:List Nat}
  (hN:X.N.Nodup) (hxi:X.N[i]?=some x) (hx:Loc X.env.scope x)
  (hc:X.calm=true) (hok:Zbw X.env.scope scope=true) (htk:Zbu X.N Nc scope js 0=true) (hi:PI X tg iter wi)
  (hg:∀cl C s2 H2 fp,PG (ZaQ X Nc scope cl C s2 H2 fp) tg g) (ht:∀cl C s2 H2 fp,ZnA (ZaQ X Nc scope cl C s2 H2 fp) ifs tt) (he:∀cl C s2 H2 fp,PE (ZaQ X Nc scope cl C s2 H2 fp) elt te)
  (ho:Zjh g L) (hL:(L.all λk=>js[k]?==some none)=true:=by rfl) (hs:∀x,foldedSetIterable iter X.env x=pure x:=by intro _;rfl)
  (hsw:swapsWith (.ListComp elt [⟨tg,iter,ifs,0⟩] scope pos) (some (.Name x pos')) spos.line X.env=pure true:=by rfl)
  (hf:X.fn x=true\/X.env.scope.names.lookup x=some .local:=by first|exact .inl rfl|exact .inr rfl|assumption) :
  PS X (.Assign [.Name x pos'] (.ListComp elt [⟨tg,iter,ifs,0⟩] scope pos) spos) (tAsg (ZmC wi g tt te js) (Zhj i)):=by
 intro pins s σ H D I h
 rw[exec_Assign_Name_used _ _ _ _ hsw]
 refine Ya (wpAny_standAt (Ya ?_))
 show wpAny _ _ (comprehension _ _ _ _ _ _ _ _ >>= _) _ _ _
 refine Ya (thn (Q:=λ_ s'=>∃σ' H',Inv X pins σ' H' s'/\D.nx σ' H') (Zjq (Q:=λv H1=>Zhj i v σ H1 D.nx) (use:=some (assign (.Name x pos') X.env)) hc hok htk hi hg ht he hs ho hL I h ?_) λ_ s' ⟨σ',H',I',q⟩=>Ye (Ye ⟨σ',H',I',q⟩))
 intro D' C H' H2 s2 s' xs m I2 hHC e1 e2 hn hI q
 obtain⟨oC,es,ep,hoC,hdC,hrest⟩:=id hn
 have leC:s2.heap.objs.size<=C:=by rw[e1,e2];exact Y3 _
 have ltC:s2.heap.objs.size<C:=by rw[e1,e2];exact Nat.lt_succ_self _
 have neDC:C≠D':=by rw[e2];exact Nat.ne_of_gt ltC
 have fresh:s2.heap.get? C=none:=by
  cases e:s2.heap.get? C with
  |none=>rfl
  |some o=>exact absurd (Yu (Yh e) leC) (Yz _)
 have neL:C≠X.env.locals:=Nat.ne_of_gt (Yu I2.lt leC)
 have nfs:C∉X.fs:=I2.nofs leC
 have ncl:∀x c,X.env.cells.lookup x=some c->c≠C:=λx c e z=>by
  obtain⟨v,q⟩:=I2.cell x c e
  exact absurd (Yu q.lt leC) (by rw[z];exact Yz _)
 have npn:∀p∈X.pn++pins,p.1≠C:=λp hp z=>by
  have:=(I2.pin p hp).1
  rw[z,fresh]at this;cases this
 have hH:(upd H' D' (HO.lst xs)) C=none:=by rw[Zm neDC];exact hHC
 have I0:=hI s'.heap ZjU
 have I1:Inv X (pins++[(C,oC)]) σ (upd H' D' (.lst xs)) s':=I0.Zf0 λp hp=>by
  rcases Yt.mp hp with z|z
  ·exact I0.pin p (Yp _ z)
  ·simp only[Yq,List.not_mem_nil,or_false]at z
   subst z
   exact⟨hoC,hH,neL,nfs,λv z=>by rw[hdC]at z;cases z⟩
 show wpAny _ _ _ _ _ _
 refine thn (Zr (X:=X) (i:=i) hN hxi hx hf (pins++[(C,oC)]) s' σ _ (.ref D') (.ref D') _ I1 rfl q) λ_ s3 ⟨σ3,H3,I3,q3⟩=>?_
 have pC:=I3.pin (C,oC) (Yp _ (Yp _ (.head _)))
 refine⟨m,⟨oC,es,ep,pC.1,hdC,hrest⟩,λh' hsb=>⟨σ3,H3,?_,q3⟩⟩
 exact I3.ZeB.turned (t':=s3.toks) (it:=C) (λb o hb e=>hsb.extBut b o hb e) pC.2.1 neL (.inr (Yg I2.sz leC)) ncl npn
end
end L2
namespace L2
open PySem PySem.Spec PyProof.Rows PySem.W
noncomputable def CF (n:Nat) (P:Nat->Bool) (vals:Nat->V) (H1:Hp) (i m:Nat) (acc:List V) (H:Hp):Prop:=m=n-i/\i<=n/\acc=((List.range i).filter P).map vals/\Zh H1 H
theorem CF.take {n:Nat}{P:Nat->Bool}{vals:Nat->V}{H1 H:Hp}{i:Nat}{v:V} (hi:i<n) (hP:P i=true) (hv:v=vals i) (s:Zh H1 H):∃m',m'<n-i/\CF n P vals H1 (i+1) m' (((List.range i).filter P).map vals++[v]) H :=
 ⟨n-(i+1),by omega,rfl,hi,by rw[YF,List.filter_append,YL,hv];simp[hP],s⟩
theorem CF.skip {n:Nat}{P:Nat->Bool}{vals:Nat->V}{H1 H:Hp}{i:Nat} (hi:i<n) (hP:P i=false) (s:Zh H1 H):∃m',m'<n-i/\CF n P vals H1 (i+1) m' (((List.range i).filter P).map vals) H :=
 ⟨n-(i+1),by omega,rfl,hi,by rw[YF,List.filter_append,YL];simp[hP],s⟩
theorem Zfe {J:It}{n:Nat}{H1:Hp}{g:TG}{tt:TT}{te:TE}{σ0:St}{Q:VK} (P:Nat->Bool) (vals:Nat->V) (hn:n<sizeLine) (hgo:∀i H,Zh H1 H->i<n->J.go i H) (hstop:∀H,Zh H1 H->J.stop n H)
  (hb:∀i x H H',i<n->Zh H1 H->J.yld i H x H'->g x σ0 H' fun σ2 H2=>tt σ2 H2 λb H3=>if b=true then te σ2 H3 λv H4=>∃m',m'<n-i/\CF n P vals H1 (i+1) m' (((List.range i).filter P).map vals++[v]) H4 else ∃m',m'<n-i/\CF n P vals H1 (i+1) m' (((List.range i).filter P).map vals) H3)
  (hk:∀l H',Zh H1 H'->H' l=none->Q (.ref l) (upd H' l (.lst (((List.range n).filter P).map vals)))) :
  ZkP J g tt te σ0 Q H1:=by
 refine⟨CF n P vals H1,⟨n,rfl,Yn _,rfl,Zh.refl _⟩,?_⟩
 rintro i m acc H ⟨rfl,hi,rfl,s⟩
 have hlen:(((List.range i).filter P).map vals).length<=n:=by
  rw[Yi]
  have:=List.length_filter_le P (List.range i)
  rw[Y6]at this
  omega
 by_cases h:i<n
 ·exact .inr ⟨hgo i H s h,by omega,λx H' y=>hb i x H H' h s y⟩
 ·have:i=n:=by omega
  subst this
  exact .inl ⟨hstop H s,by omega,λp hp=>hk p H s hp⟩
theorem ZmS {ns T:List Int} (hT:Z4 ns T) {p o:Nat} (hp:p<ns.length):(o:Int)∈Zgd T p↔o<ns.length/\Over (nth ns) o p:=by
 rw[<-(Zh6 hT T.length p hp (by rw[hT.1];exact YT (Zpk hp))).1 o]
 unfold Zgd
 rw[YG]
 refine⟨λ⟨q,hq,e⟩=>?_,λh=>⟨o,h,rfl⟩⟩
 have:q=o:=by omega
 rw[<-this];exact hq
end L2
namespace HT
open PySem PyProof.Rows
section
open PySem.SeqAt
open PySem.AutoSeq1 (wpAny_loadPart')
open PySem.MeetsSeq PySem.MeetsSeq2 PySem.MeetsSeq3
variable {prog:Program}{w:World}{A:Around}{E:Value->Shared->Prop}{s:Shared}
end
end HT
namespace L2
open PySem PySem.Spec PyProof.Rows PySem.W
noncomputable def way (T:List Int) (p:Nat):List Nat:=Za5 T T.length (nth T p)
theorem Zk4 (T:List Int) (p:Nat):Zgd T p=(way T p).map λq=>((q:Nat):Int):=rfl
section
variable {X:Cx}{pins:List (Addr×Obj)}{σ:St}{H:Hp}{s:Shared}{h':Heap}
theorem Inv.ZmT {t':Nat}{fp:List Addr}{T:Addr}{o:HO} (I:Inv X pins σ H s) (k:∀b u,b∉fp->s.heap.get? b=some u->h'.get? b=some u) (hf:∀b∈fp,FpOk X pins H b) (hT:s.heap.objs.size<=T) (new:ZaD X.prog X.w (upd H T o) h' T o) :
  Inv X pins σ (upd H T o) {s with heap:=h',toks:=t'}:=by
 have nit:∀b u,H b=some u->b∉fp:=λb u e z=>by rw[(hf b z).1]at e;cases e
 have hfr:H T=none:=I.hok.fresh hT
 have neT:∀b u,s.heap.get? b=some u->b≠T:=λb u e z=>absurd (Yh e) (by rw[z];exact Nat.not_lt_of_le hT)
 have neH:∀b u,H b=some u->b≠T:=λb u e z=>by rw[z,hfr]at e;cases e
 refine I.step (g':=s.gens) (d':=s.drawn) (ch:=fp) (λb hb=>?_) (λb o _ _ hc e _=>k b o hc e) (λb o _ _ hc e _=>⟨o.slots,k b o hc e⟩) (λb u _ e n=>by rw[Zm (neT b u e)];exact n)
  (λb o hc e=>⟨o,k b o hc e⟩) (λb xs e=>by rw[Zm (neH b _ e)];exact e) (λb o u e=>by rw[Zm (neH b _ e)];exact e) (λb ps e=>⟨#[],by rw[Zm (neH b _ e),e];simp⟩) (λm hm=>?_) (λb u e=>?_) I.bare
 ·obtain⟨_,f1,_,f3,f4,f5⟩:=hf b hb
  exact⟨f3,f1,f4,f5⟩
 ·obtain⟨o,es,ep,ho,r⟩:=hm
  exact⟨o,es,ep,k _ o (λz=>(hf _ z).2.1 rfl) ho,r⟩
 ·by_cases z:b=T
  ·subst z
   rw[Zd]at e;cases e
   exact new
  ·rw[Zm z]at e
   refine(I.hok b u e).ZhQ (λc v hc q=>k c v ?_ q) (λc q=>?_) (λc xs q=>?_) λc o u q=>?_
   ·rcases hc with y|y
    ·rw[y];exact nit b u e
    ·exact nit c _ y
   ·rw[Zm (neH _ _ q)];exact q
   ·rw[Zm (neH _ _ q)];exact q
   ·rw[Zm (neH _ _ q)];exact q
noncomputable def Ite (K : Frag) (a : Addr) : It :=
  ⟨fun i H => ∃ xs x, SqL K H a xs ∧ xs[i]? = some x,
   fun i H v H' => ∃ p x, H p = none ∧ v = .ref p ∧ H' = upd H p (.tup [.int (i : Int), x]) ∧ ∀ xs, SqL K H a xs → xs[i]? = some x,
   fun i H => ∃ xs, SqL K H a xs ∧ xs.length = i⟩
theorem ZnO {P:Program}{w:World}{K:Frag}{elts:List Expr} {x1}{pos:Pos}{a e it:Addr} (h1:e≠it) (h2:a≠e) (h3:a≠it) :
  Turn P w K (.Tuple elts x1 pos) (Ite K a) [e,it] e (λi h=>(∃old,IsEnum h e it (i:Int) old)/\h.IsListIter it a i) where
 mem:=by simp
 obj:=λi h st c hc=>by
  obtain⟨⟨old,q1⟩,⟨o4,q4,_,d4⟩⟩:=st
  simp at hc
  rcases hc with rfl|rfl
  ·exact⟨_,q1,λv z=>by cases z⟩
  ·exact⟨_,q4,λv z=>by rw[d4]at z;cases z⟩
 keep:=λi h h' st k=>by
  obtain⟨⟨old,q1⟩,q4⟩:=st
  exact⟨⟨old,k e (by simp) _ q1⟩,q4.at λo z=>k it (by simp) o z⟩
 item:=by
  intro X hP hw hK hc i pins s σ H E I hf st hg
  subst hP hw hK
  obtain⟨xs,x,qa,hx⟩:=hg
  obtain⟨is1,r1,p1,hz1⟩:=I.list qa
  obtain⟨u,hu,ru⟩:=r1.get hx
  have W:=WalksT.enumerate (prog:=X.prog) (w:=X.w) (I.ok.hd hc) e it a h1 h2 h3 is1.toArray
  have hi:i<is1.toArray.size:=by
   have:=(Ys.mp hu).1
   simpa using this
  refine W.item i s _ E hi ⟨st.1,st.2,p1.isList⟩ λT vals h' tk Pt hT hTup Mid keep=>⟨_,rfl,W.go elts x1 pos i T _ _ E Mid λh2' St2 keep2=>?_⟩
  obtain⟨t,y,hy,rfl⟩:=Pt
  have hyu:y=u:=by
   have:is1[i]?=some y:=by simpa using hy
   rw[hu]at this;exact(Yx this).symm
  subst hyu
  have nT:=W.apart i T h' Mid
  have hfr:H T=none:=I.hok.fresh hT
  have kk:∀b o,b∉[e,it]->s.heap.get? b=some o->h2'.get? b=some o:=λb o hb q=>keep2 b o hb (keep b o hb q)
  have nTe:∀c∈[e,it],c≠T:=λc hc z=>nT (z▸hc)
  refine⟨.ref T,_,Inv.ZmT (s:=s) (t':=tk) (o:=.tup [.int (i:Int),x]) I kk hf hT ?_,rfl,⟨T,x,hfr,rfl,rfl,λxs' q'=>?_⟩,⟨?_,St2.2.1⟩,λc hc=>?_⟩
  ·obtain⟨oT,q1,q2,n,q3⟩:=hTup
   exact⟨by show 2<=sizeLine;decide,[.int (i:Int) t,y],.cons ⟨t,rfl⟩ (.cons ru .nil),⟨oT,keep2 T oT nT q1,q2,n,q3⟩⟩
  ·rw[I.Zey q' qa];exact hx
  ·obtain⟨old,q⟩:=St2.1
   exact⟨old,by rw[show(((i+1:Nat)):Int)=(i:Int)+1 by omega]at *;exact q⟩
  ·rw[Zm (nTe c hc)];exact(hf c hc).1
 done:=by
  intro X hP hw hK hc i pins s σ H E I hf st hg
  subst hP hw hK
  obtain⟨xs,qa,hx⟩:=hg
  obtain⟨is1,r1,p1,_⟩:=I.list qa
  have W:=WalksT.enumerate (prog:=X.prog) (w:=X.w) (I.ok.hd hc) e it a h1 h2 h3 is1.toArray
  have hi:i=is1.toArray.size:=by
   have:=r1.length
   simp;omega
  refine W.done s _ E ?_ λh' tk keep=>⟨rfl,I.ZmE (t':=tk) (fp:=[e,it]) (λc o hc q=>keep c o hc q) hf⟩
  rw[<-hi]
  exact⟨st.1,st.2,p1.isList⟩
 self:=λA i s Q E st h=>by
  obtain⟨⟨old,q⟩,_⟩:=st
  exact wpAny_pyIter_enum q h
noncomputable def Zpn (K:Frag) (ta:TA):TI:=fun σ H R=>ta σ H λvs H1=>∃a xs,vs=[.ref a]/\SqL K H1 a xs/\R (Ite K a) H1
theorem Zic:bootBuiltins "enumerate"=some (.type "enumerate"):=by decide +kernel
theorem ZqZ {K:Frag}{elts:List Expr} {x1}{tp:Pos}{e1:Expr}{ta:TA}{p pos:Pos} (hK:X.K=K) (hg:Gl X "enumerate") (hm:X.mg "enumerate"=none) (ha:PA X [e1] ta) (hs:starEach [e1] X.env=[(false,eval e1 X.env)]:=by rfl) :
  PI X (.Tuple elts x1 tp) (.Call (.Name "enumerate" p) [e1] [] pos) (Zpn K ta):=by
 subst hK
 intro pins s σ H R I h
 refine wpAny_Call_Name_kw (Zc7 I hg hm Zic ?_)
 refine PyProof.Rows.callWith_type1 (thn (ha pos pins s σ H _ I h) λus s1 ⟨vs,H1,I1,r1,a,xs,e1,qa,q⟩=>?_) hs rfl
 subst e1
 obtain⟨u,rfl,ru⟩:=r1.one
 cases(show u=Value.ref a from ru)
 obtain⟨is1,rr1,p1,_⟩:=I1.list qa
 refine call_enumerate_list p1.isList λh' c1 c2 c3 c4=>?_
 have l1:a<s1.heap.objs.size:=by obtain⟨o,e,_⟩:=p1.isList;exact Yh e
 have sm:∀b,s1.heap.objs.size<=b->FpOk X pins H1 b:=λb hb=>I1.Znp hb (I1.hok.fresh hb)
 have n1:s1.heap.objs.size+1≠s1.heap.objs.size:=by show ¬ ((_:Nat)=_);omega
 have n2:a≠s1.heap.objs.size+1:=Yo (YH l1)
 have n3:a≠s1.heap.objs.size:=Yo l1
 have T:=ZnO (P:=X.prog) (w:=X.w) (K:=X.K) (elts:=elts) (x1:=x1) (pos:=tp) n1 n2 n3
 refine T.self _ 0 _ _ _ ⟨⟨_,c1⟩,c2⟩ ?_
 refine⟨_,[s1.heap.objs.size+1,s1.heap.objs.size],_,_,H1,rfl,I1.kept (t':=s1.toks) c4,T,⟨⟨_,c1⟩,c2⟩,λc hc=>?_,q⟩
 simp at hc
 rcases hc with rfl|rfl<;>exact sm _ (by omega)
end
theorem ZnP {prog:Program}{w:World}{A:Around}{R:Result->Shared->Prop}{I:Addr}{fp wr:List Addr}{n:Nat}{P:Nat->Value->Prop}{St:Nat->Heap->Prop} (W:Walks prog w A.in1 I fp wr n P St) (bt:Nat->Nat->Bool) (hc:CmpOf prog w A.in1 .Gt P bt)
  (S:Addr) (hS:S∉fp) (dk:Str) (d:Value) (h0:Heap) (s0:Shared)
  (hR0:n=0->∀h' tk,(∀b o,b∉wr->b≠S->h0.get? b=some o->h'.get? b=some o)->R (.ok (.ret d)) {s0 with heap:=h',toks:=tk})
  (hR:0<n->∀v h' tk,P (argBest bt (n-1)) v->(∀b o,b∉wr->b≠S->h0.get? b=some o->h'.get? b=some o)->R (.ok (.ret v)) {s0 with heap:=h',toks:=tk}) :
  ∀(k j:Nat) (h:Heap) (tk:Nat),n-j=k->j<=n->St j h->(∀b o,b∉wr->b≠S->h0.get? b=some o->h.get? b=some o) ->
   ((j=0/\∃c,h.get? S=some {cls:=.type "list",data:=.seq #[] c})\/(0<j/\∃vb c,P (argBest bt (j-1)) vb/\h.get? S=some {cls:=.type "list",data:=.seq #[vb,vb] c})) ->
   codeAny (model prog w) A (.builtin "max.loop" {pos:=[.ref I,.none,.ref S],kw:=[(dk,d)]}) R {s0 with heap:=h,toks:=tk}:=by
 intro k
 induction k with
 |zero =>
  intro j h tk hk hj hst keep hb
  refine codeAny_builtin F.entry_max_loop ?_
  have hjn:j=n:=by omega
  subst hjn
  rcases hb with⟨hj0,c,hb⟩|⟨hj0,vb,c,hvb,hb⟩
  ·show wpAny _ _ (_ >>= _) _ _ _
   refine Ya (wpAny_seqItems hb rfl ?_)
   refine Ya (wpAny_tryCatch (W.done _ _ _ hst λh' tk' kp=>?_))
   refine Ya (wpAny_rule (Ye ?_))
   exact hR0 hj0 h' tk' λb o hb1 hb2 e=>kp b o hb1 (keep b o hb1 hb2 e)
  ·show wpAny _ _ (_ >>= _) _ _ _
   refine Ya (wpAny_seqItems hb rfl ?_)
   refine Ya (wpAny_tryCatch (W.done _ _ _ hst λh' tk' kp=>?_))
   have hS':S∉wr:=λz=>hS (W.sub S z)
   have hb':=kp S _ hS' hb
   refine Ya (wpAny_updateSeq hb' rfl ?_ (show 2<=sizeLine by decide) (Yn _))
   refine Ya (wpAny_letGo (Ye ?_))
   refine hR hj0 vb _ tk' hvb λb o hb1 hb2 e=>?_
   exact(Heap.get?_update_other _ _ (Ne.symm hb2)).trans (kp b o hb1 (keep b o hb1 hb2 e))
 |succ k ih =>
  intro j h tk hk hj hst keep hb
  refine codeAny_builtin F.entry_max_loop ?_
  have hjn:j<n:=by omega
  have hS':S∉wr:=λz=>hS (W.sub S z)
  rcases hb with⟨hj0,c,hb⟩|⟨hj0,vb,c,hvb,hb⟩
  ·show wpAny _ _ (_ >>= _) _ _ _
   refine Ya (wpAny_seqItems hb rfl ?_)
   refine Ya (wpAny_tryCatch (W.item j _ _ _ hjn hst λv h' tk' hv hst' kp=>?_))
   have hb':=kp S _ hS' hb
   refine Ya (Ye ?_)
   refine Ya (wpAny_updateSeq hb' rfl ?_ (Yn _) (show 2<=sizeLine+1 by decide))
   refine Ye ⟨rfl,?_⟩
   have e9:=PySem.IsL.update hb' (λ_=>#[v,v])
   refine ih (j+1) _ tk' (by omega) (by omega) (W.frame _ _ _ hst' λb hb1 o e=>?_) (λb o hb1 hb2 e=>?_) (.inr ⟨by omega,v,_,?_,e9⟩)
   ·exact(Heap.get?_update_other _ _ (show S≠b from λz=>hS (by rw[z];exact hb1))).trans e
   ·exact(Heap.get?_update_other _ _ (Ne.symm hb2)).trans (kp b o hb1 (keep b o hb1 hb2 e))
   ·rw[hj0];rw[hj0]at hv;exact hv
  ·show wpAny _ _ (_ >>= _) _ _ _
   refine Ya (wpAny_seqItems hb rfl ?_)
   refine Ya (wpAny_tryCatch (W.item j _ _ _ hjn hst λv h' tk' hv hst' kp=>?_))
   have hb':=kp S _ hS' hb
   obtain⟨j',rfl⟩:∃j',j=j'+1:=⟨j-1,by omega⟩
   have hvb':P (argBest bt j') vb:=hvb
   have eA:argBest bt (j'+1)=if bt (j'+1) (argBest bt j')=true then j'+1 else argBest bt j':=rfl
   refine Ya (Ye ?_)
   refine Ya (wpAny_tryCatch (wpAny_holding (Ya (hc (j'+1) (argBest bt j') v vb _ _ _ hv hvb' (Ya (wpAny_holding (wpAny_truthy_bool (Ya (wpAny_letGo (Ye ?_))))))))))
   by_cases z:bt (j'+1) (argBest bt j')=true
   ·rw[Yc z]
    refine Ya (wpAny_updateSeq hb' rfl ?_ (show 2<=sizeLine by decide) (show 2<=sizeLine+1 by decide))
    refine Ya (wpAny_letGo (Ye ⟨rfl,?_⟩))
    have e9:=PySem.IsL.update hb' (λ_=>#[v,v])
    refine ih (j'+1+1) _ tk' (by omega) (by omega) (W.frame _ _ _ hst' λb hb1 o e=>?_) (λb o hb1 hb2 e=>?_) (.inr ⟨by omega,v,_,?_,e9⟩)
    ·exact(Heap.get?_update_other _ _ (show S≠b from λz=>hS (by rw[z];exact hb1))).trans e
    ·exact(Heap.get?_update_other _ _ (Ne.symm hb2)).trans (kp b o hb1 (keep b o hb1 hb2 e))
    ·show P (argBest bt (j'+1)) v
     rw[eA,Yc z];exact hv
   ·rw[Yb z]
    refine Ya (wpAny_letGo (Ye ⟨rfl,?_⟩))
    refine ih (j'+1+1) _ tk' (by omega) (by omega) hst' (λb o hb1 hb2 e=>kp b o hb1 (keep b o hb1 hb2 e)) (.inr ⟨by omega,vb,_,?_,hb'⟩)
    show P (argBest bt (j'+1)) vb
    rw[eA,Yb z];exact hvb'
theorem ZnQ (a d:Value):argsOk "max" {pos:=[a],kw:=[("default",d)]}:=by first|rfl|decide
theorem ZnR {prog:Program}{w:World}{A:Around}{E Q:Value->Shared->Prop}{s:Shared}{l:Addr}{xs:Array (Int×Tok)}{d:Value} (hA:A.handled=none) (hl:s.heap.IsList l (intItems xs))
  (q0:xs.size=0->∀h' tk,(∀b o,s.heap.get? b=some o->h'.get? b=some o)->Q d {s with heap:=h',toks:=tk})
  (q1:0<xs.size->∀v h' tk,(intItems xs)[argBest (λi j=>decide (numAt xs i>numAt xs j)) (xs.size-1)]?=some v->(∀b o,s.heap.get? b=some o->h'.get? b=some o)->Q v {s with heap:=h',toks:=tk}) :
  wpAny (model prog w) A (call (.builtin "max") [.ref l] [("default",d)]) Q E s:=by
 refine wpAny_call (codeAny_call_builtin_code rfl ?_)
 have hck:checkBuiltinCall "max" {pos:=[.ref l],kw:=[("default",d)]}=pure ():=by
  unfold checkBuiltinCall
  rw[F.kind_max]
  exact ZnQ (.ref l) d
 rw[hck]
 refine Ye (codeAny_builtin F.entry_max ?_)
 show wpAny _ _ (_ >>= _) _ _ _
 have hbp:Builtin.Builtins.bindParams "max" ["key","default"] 0 {kw:=[("default",d)]}=pure [none,some d]:=by
  first|rfl|with_unfolding_all rfl|(simp[Builtin.Builtins.bindParams];done)
 refine Ya (wpAny_of_eq hbp (Ya (Ye (Ya (wpAny_pyIter_list hl ?_)))))
 refine Ya (wpAny_newObj_type ?_)
 refine Ye ⟨rfl,?_⟩
 have hlt:l<s.heap.objs.size:=by obtain⟨o,e,_⟩:=hl;exact Yh e
 have n1:l≠s.heap.objs.size:=Yo hlt
 have esz:(s.heap.push {cls:=.type "list_iterator",data:=.fields #[.ref l,.int 0 0]}).objs.size=s.heap.objs.size+1:=Heap.size_push _ _
 have old:∀b o,s.heap.get? b=some o->((s.heap.push {cls:=.type "list_iterator",data:=.fields #[.ref l,.int 0 0]}).push {cls:=.type "list",data:=.seq #[]}).get? b=some o:=λb o e=>Ym _ (Ym _ e)
 have ne:∀b o,s.heap.get? b=some o->b∉[s.heap.objs.size]/\b≠(s.heap.push {cls:=.type "list_iterator",data:=.fields #[.ref l,.int 0 0]}).objs.size:=λb o e=>by
  have:=Yh e
  refine⟨λz=>?_,λz=>?_⟩
  ·have:b=s.heap.objs.size:=by simpa using z
   exact absurd (Yh e) (by rw[this];exact Yz _)
  ·rw[z,esz]at this
   exact absurd this (Nat.not_lt_of_le (Y3 _))
 have W:=Walks.list (prog:=prog) (w:=w) (A:=A.in1) hA s.heap.objs.size l n1 (intItems xs)
 have hitm:(intItems xs).size=xs.size:=by simp[intItems]
 refine ZnP W (λi j=>decide (numAt xs i>numAt xs j)) (CmpOf.ints_gt (numAt xs) λi v h=>intItems_at h) _ ?_ "default" d _ s (λz h' tk kp=>?_) (λz v h' tk hv kp=>?_) (intItems xs).size 0 _ _ rfl (Yn _) ⟨?_,?_⟩ (λb o _ _ e=>e) (.inl ⟨rfl,_,Yw _ rfl⟩)
 ·rw[esz]
  simp only[Yq,List.not_mem_nil,or_false,not_or]
  exact⟨Nat.ne_of_gt (Nat.lt_succ_self _),Nat.ne_of_gt (YH hlt)⟩
 ·exact q0 (by omega) h' tk λb o e=>kp b o (ne b o e).1 (ne b o e).2 (old b o e)
 ·exact q1 (by omega) v h' tk (by rw[<-hitm];exact hv) λb o e=>kp b o (ne b o e).1 (ne b o e).2 (old b o e)
 ·exact⟨_,Ym _ (Yw _ rfl),rfl,rfl⟩
 ·obtain⟨o,e,r⟩:=hl
  exact⟨o,old _ _ e,r⟩
theorem ZnS {prog:Program}{w:World}{A:Around}{R:Result->Shared->Prop}{I:Addr}{fp wr:List Addr}{n:Nat}{P:Nat->Value->Prop}{St:Nat->Heap->Prop} (W:Walks prog w A.in1 I fp wr n P St) (bt:Nat->Nat->Bool) (hc:CmpOf prog w A.in1 .Lt P bt)
  (S:Addr) (hS:S∉fp) (dk:Str) (d:Value) (h0:Heap) (s0:Shared)
  (hR0:n=0->∀h' tk,(∀b o,b∉wr->b≠S->h0.get? b=some o->h'.get? b=some o)->R (.ok (.ret d)) {s0 with heap:=h',toks:=tk})
  (hR:0<n->∀v h' tk,P (argBest bt (n-1)) v->(∀b o,b∉wr->b≠S->h0.get? b=some o->h'.get? b=some o)->R (.ok (.ret v)) {s0 with heap:=h',toks:=tk}) :
  ∀(k j:Nat) (h:Heap) (tk:Nat),n-j=k->j<=n->St j h->(∀b o,b∉wr->b≠S->h0.get? b=some o->h.get? b=some o) ->
   ((j=0/\∃c,h.get? S=some {cls:=.type "list",data:=.seq #[] c})\/(0<j/\∃vb c,P (argBest bt (j-1)) vb/\h.get? S=some {cls:=.type "list",data:=.seq #[vb,vb] c})) ->
   codeAny (model prog w) A (.builtin "min.loop" {pos:=[.ref I,.none,.ref S],kw:=[(dk,d)]}) R {s0 with heap:=h,toks:=tk}:=by
 intro k
 induction k with
 |zero =>
  intro j h tk hk hj hst keep hb
  refine codeAny_builtin F.entry_min_loop ?_
  have hjn:j=n:=by omega
  subst hjn
  rcases hb with⟨hj0,c,hb⟩|⟨hj0,vb,c,hvb,hb⟩
  ·show wpAny _ _ (_ >>= _) _ _ _
   refine Ya (wpAny_seqItems hb rfl ?_)
   refine Ya (wpAny_tryCatch (W.done _ _ _ hst λh' tk' kp=>?_))
   refine Ya (wpAny_rule (Ye ?_))
   exact hR0 hj0 h' tk' λb o hb1 hb2 e=>kp b o hb1 (keep b o hb1 hb2 e)
  ·show wpAny _ _ (_ >>= _) _ _ _
   refine Ya (wpAny_seqItems hb rfl ?_)
   refine Ya (wpAny_tryCatch (W.done _ _ _ hst λh' tk' kp=>?_))
   have hS':S∉wr:=λz=>hS (W.sub S z)
   have hb':=kp S _ hS' hb
   refine Ya (wpAny_updateSeq hb' rfl ?_ (show 2<=sizeLine by decide) (Yn _))
   refine Ya (wpAny_letGo (Ye ?_))
   refine hR hj0 vb _ tk' hvb λb o hb1 hb2 e=>?_
   exact(Heap.get?_update_other _ _ (Ne.symm hb2)).trans (kp b o hb1 (keep b o hb1 hb2 e))
 |succ k ih =>
  intro j h tk hk hj hst keep hb
  refine codeAny_builtin F.entry_min_loop ?_
  have hjn:j<n:=by omega
  have hS':S∉wr:=λz=>hS (W.sub S z)
  rcases hb with⟨hj0,c,hb⟩|⟨hj0,vb,c,hvb,hb⟩
  ·show wpAny _ _ (_ >>= _) _ _ _
   refine Ya (wpAny_seqItems hb rfl ?_)
   refine Ya (wpAny_tryCatch (W.item j _ _ _ hjn hst λv h' tk' hv hst' kp=>?_))
   have hb':=kp S _ hS' hb
   refine Ya (Ye ?_)
   refine Ya (wpAny_updateSeq hb' rfl ?_ (Yn _) (show 2<=sizeLine+1 by decide))
   refine Ye ⟨rfl,?_⟩
   have e9:=PySem.IsL.update hb' (λ_=>#[v,v])
   refine ih (j+1) _ tk' (by omega) (by omega) (W.frame _ _ _ hst' λb hb1 o e=>?_) (λb o hb1 hb2 e=>?_) (.inr ⟨by omega,v,_,?_,e9⟩)
   ·exact(Heap.get?_update_other _ _ (show S≠b from λz=>hS (by rw[z];exact hb1))).trans e
   ·exact(Heap.get?_update_other _ _ (Ne.symm hb2)).trans (kp b o hb1 (keep b o hb1 hb2 e))
   ·rw[hj0];rw[hj0]at hv;exact hv
  ·show wpAny _ _ (_ >>= _) _ _ _
   refine Ya (wpAny_seqItems hb rfl ?_)
   refine Ya (wpAny_tryCatch (W.item j _ _ _ hjn hst λv h' tk' hv hst' kp=>?_))
   have hb':=kp S _ hS' hb
   obtain⟨j',rfl⟩:∃j',j=j'+1:=⟨j-1,by omega⟩
   have hvb':P (argBest bt j') vb:=hvb
   have eA:argBest bt (j'+1)=if bt (j'+1) (argBest bt j')=true then j'+1 else argBest bt j':=rfl
   refine Ya (Ye ?_)
   refine Ya (wpAny_tryCatch (wpAny_holding (Ya (hc (j'+1) (argBest bt j') v vb _ _ _ hv hvb' (Ya (wpAny_holding (wpAny_truthy_bool (Ya (wpAny_letGo (Ye ?_))))))))))
   by_cases z:bt (j'+1) (argBest bt j')=true
   ·rw[Yc z]
    refine Ya (wpAny_updateSeq hb' rfl ?_ (show 2<=sizeLine by decide) (show 2<=sizeLine+1 by decide))
    refine Ya (wpAny_letGo (Ye ⟨rfl,?_⟩))
    have e9:=PySem.IsL.update hb' (λ_=>#[v,v])
    refine ih (j'+1+1) _ tk' (by omega) (by omega) (W.frame _ _ _ hst' λb hb1 o e=>?_) (λb o hb1 hb2 e=>?_) (.inr ⟨by omega,v,_,?_,e9⟩)
    ·exact(Heap.get?_update_other _ _ (show S≠b from λz=>hS (by rw[z];exact hb1))).trans e
    ·exact(Heap.get?_update_other _ _ (Ne.symm hb2)).trans (kp b o hb1 (keep b o hb1 hb2 e))
    ·show P (argBest bt (j'+1)) v
     rw[eA,Yc z];exact hv
   ·rw[Yb z]
    refine Ya (wpAny_letGo (Ye ⟨rfl,?_⟩))
    refine ih (j'+1+1) _ tk' (by omega) (by omega) hst' (λb o hb1 hb2 e=>kp b o hb1 (keep b o hb1 hb2 e)) (.inr ⟨by omega,vb,_,?_,hb'⟩)
    show P (argBest bt (j'+1)) vb
    rw[eA,Yb z];exact hvb'
theorem ZnT (a d:Value):argsOk "min" {pos:=[a],kw:=[("default",d)]}:=by first|rfl|decide
theorem ZnU {prog:Program}{w:World}{A:Around}{E Q:Value->Shared->Prop}{s:Shared}{l:Addr}{xs:Array (Int×Tok)}{d:Value} (hA:A.handled=none) (hl:s.heap.IsList l (intItems xs))
  (q0:xs.size=0->∀h' tk,(∀b o,s.heap.get? b=some o->h'.get? b=some o)->Q d {s with heap:=h',toks:=tk})
  (q1:0<xs.size->∀v h' tk,(intItems xs)[argBest (λi j=>decide (numAt xs i<numAt xs j)) (xs.size-1)]?=some v->(∀b o,s.heap.get? b=some o->h'.get? b=some o)->Q v {s with heap:=h',toks:=tk}) :
  wpAny (model prog w) A (call (.builtin "min") [.ref l] [("default",d)]) Q E s:=by
 refine wpAny_call (codeAny_call_builtin_code rfl ?_)
 have hck:checkBuiltinCall "min" {pos:=[.ref l],kw:=[("default",d)]}=pure ():=by
  unfold checkBuiltinCall
  rw[F.kind_min]
  exact ZnT (.ref l) d
 rw[hck]
 refine Ye (codeAny_builtin F.entry_min ?_)
 show wpAny _ _ (_ >>= _) _ _ _
 have hbp:Builtin.Builtins.bindParams "min" ["key","default"] 0 {kw:=[("default",d)]}=pure [none,some d]:=by
  first|rfl|with_unfolding_all rfl|(simp[Builtin.Builtins.bindParams];done)
 refine Ya (wpAny_of_eq hbp (Ya (Ye (Ya (wpAny_pyIter_list hl ?_)))))
 refine Ya (wpAny_newObj_type ?_)
 refine Ye ⟨rfl,?_⟩
 have hlt:l<s.heap.objs.size:=by obtain⟨o,e,_⟩:=hl;exact Yh e
 have n1:l≠s.heap.objs.size:=Yo hlt
 have esz:(s.heap.push {cls:=.type "list_iterator",data:=.fields #[.ref l,.int 0 0]}).objs.size=s.heap.objs.size+1:=Heap.size_push _ _
 have old:∀b o,s.heap.get? b=some o->((s.heap.push {cls:=.type "list_iterator",data:=.fields #[.ref l,.int 0 0]}).push {cls:=.type "list",data:=.seq #[]}).get? b=some o:=λb o e=>Ym _ (Ym _ e)
 have ne:∀b o,s.heap.get? b=some o->b∉[s.heap.objs.size]/\b≠(s.heap.push {cls:=.type "list_iterator",data:=.fields #[.ref l,.int 0 0]}).objs.size:=λb o e=>by
  have:=Yh e
  refine⟨λz=>?_,λz=>?_⟩
  ·have:b=s.heap.objs.size:=by simpa using z
   exact absurd (Yh e) (by rw[this];exact Yz _)
  ·rw[z,esz]at this
   exact absurd this (Nat.not_lt_of_le (Y3 _))
 have W:=Walks.list (prog:=prog) (w:=w) (A:=A.in1) hA s.heap.objs.size l n1 (intItems xs)
 have hitm:(intItems xs).size=xs.size:=by simp[intItems]
 refine ZnS W (λi j=>decide (numAt xs i<numAt xs j)) (CmpOf.ints_lt (numAt xs) λi v h=>intItems_at h) _ ?_ "default" d _ s (λz h' tk kp=>?_) (λz v h' tk hv kp=>?_) (intItems xs).size 0 _ _ rfl (Yn _) ⟨?_,?_⟩ (λb o _ _ e=>e) (.inl ⟨rfl,_,Yw _ rfl⟩)
 ·rw[esz]
  simp only[Yq,List.not_mem_nil,or_false,not_or]
  exact⟨Nat.ne_of_gt (Nat.lt_succ_self _),Nat.ne_of_gt (YH hlt)⟩
 ·exact q0 (by omega) h' tk λb o e=>kp b o (ne b o e).1 (ne b o e).2 (old b o e)
 ·exact q1 (by omega) v h' tk (by rw[<-hitm];exact hv) λb o e=>kp b o (ne b o e).1 (ne b o e).2 (old b o e)
 ·exact⟨_,Ym _ (Yw _ rfl),rfl,rfl⟩
 ·obtain⟨o,e,r⟩:=hl
  exact⟨o,old _ _ e,r⟩
section
variable {X:Cx}
noncomputable def Zpo (K:Frag) (ta td:TA):TE:=fun σ H Q=>ta σ H λvs H1=>td σ H1 λzs H2=>∃(p:Addr) (ns:List Int) (d:Int),vs=[.ref p]/\zs=[.int d]/\SqL K H2 p (ns.map V.int)/\(ns=[]->Q (.int d) H2)/\(ns≠[]->∀m,m∈ns->(∀a∈ns,a<=m)->Q (.int m) H2)
theorem Zq0 {K:Frag}{e:Expr}{kws:List Keyword}{ta td:TA}{p pos:Pos} (hK:X.K=K) (hc:X.calm=true) (hg:Gl X "max") (hm:X.mg "max"=none) (ha:PA X [e] ta) (hd:PK X kws td)
  (he:starEach [e] X.env=(false,eval e X.env)::starEach [] X.env:=by rfl) (hpl:(backTo pos (starEach [e] X.env)).any (·.1)=false:=by rfl) (hall:(backToKw pos (keywordEach kws X.env)).all (·.1.isSome)=true:=by rfl)
  (hnn:(backToKw pos (keywordEach kws X.env)).any (·.1.isNone)=false:=by rfl) (hks:(backToKw pos (keywordEach kws X.env)).filterMap (·.1)=[(("default":String):Str)]:=by rfl) (hb:backTo pos (starEach [e] X.env)=(false,eval e X.env)::backTo pos (starEach [] X.env):=by rfl) :
  PE X (.Call (.Name "max" p) [e] kws pos) (Zpo K ta td):=by
 subst hK
 intro pins s σ H Q I h
 refine wpAny_Call_Name_kw (Zc7 I hg hm ZlG ?_)
 refine PyProof.Rows.callWith_kw (thn (ha pos pins s σ H _ I h) λus s1 ⟨vs,H1,I1,r1,q1⟩=>?_) hb hpl hall hnn
 refine thn (hd pos pins s1 σ H1 _ I1 q1) λws s2 ⟨zs,H2,I2,r2,pp,ns,d,e1,e2,hp,q0,qm⟩=>?_
 subst e1 e2
 obtain⟨u,rfl,ru⟩:=r1.one
 obtain⟨v,rfl,rv⟩:=r2.one
 cases(show u=Value.ref pp from ru)
 rw[hks]
 obtain⟨its,rr,pl,hz⟩:=I2.list hp
 obtain⟨ys,e1,e2⟩:=Zf6 rr
 have hsz:ys.size=ns.length:=by
  have:=congrArg List.length e2
  rw[Yi,YO]at this
  exact this
 refine ZnR (xs:=ys) (I2.ok.hd hc) (e1▸pl.isList) (λz h' tk k=>?_) (λz v' h' tk hv k=>?_)
 ·exact⟨.int d,H2,I2.kept k,rv,q0 (List.length_eq_zero_iff.mp (by omega))⟩
 ·obtain⟨t,rfl⟩:=intItems_at hv
  obtain⟨h1,h2⟩:=argBest_gt (numAt ys) (ys.size-1)
  refine⟨.int _,H2,I2.kept k,⟨t,rfl⟩,qm (λy=>by have h3:ys.size=0:=(by rw[hsz,y];rfl);omega) _ ?_ λa ha=>?_⟩
  ·rw[numAt_eq,e2];exact getD_mem (by omega)
  ·obtain⟨j,hj,rfl⟩:=mem_getD ha
   rw[<-e2,<-numAt_eq];exact h2 j (by omega)
end
section
variable {X:Cx}
noncomputable def Zpp (K:Frag) (ta td:TA):TE:=fun σ H Q=>ta σ H λvs H1=>td σ H1 λzs H2=>∃(p:Addr) (ns:List Int) (d:Int),vs=[.ref p]/\zs=[.int d]/\SqL K H2 p (ns.map V.int)/\(ns=[]->Q (.int d) H2)/\(ns≠[]->∀m,m∈ns->(∀a∈ns,m<=a)->Q (.int m) H2)
theorem Zq1 {K:Frag}{e:Expr}{kws:List Keyword}{ta td:TA}{p pos:Pos} (hK:X.K=K) (hc:X.calm=true) (hg:Gl X "min") (hm:X.mg "min"=none) (ha:PA X [e] ta) (hd:PK X kws td)
  (he:starEach [e] X.env=(false,eval e X.env)::starEach [] X.env:=by rfl) (hpl:(backTo pos (starEach [e] X.env)).any (·.1)=false:=by rfl) (hall:(backToKw pos (keywordEach kws X.env)).all (·.1.isSome)=true:=by rfl)
  (hnn:(backToKw pos (keywordEach kws X.env)).any (·.1.isNone)=false:=by rfl) (hks:(backToKw pos (keywordEach kws X.env)).filterMap (·.1)=[(("default":String):Str)]:=by rfl) (hb:backTo pos (starEach [e] X.env)=(false,eval e X.env)::backTo pos (starEach [] X.env):=by rfl) :
  PE X (.Call (.Name "min" p) [e] kws pos) (Zpp K ta td):=by
 subst hK
 intro pins s σ H Q I h
 refine wpAny_Call_Name_kw (Zc7 I hg hm Zo8 ?_)
 refine PyProof.Rows.callWith_kw (thn (ha pos pins s σ H _ I h) λus s1 ⟨vs,H1,I1,r1,q1⟩=>?_) hb hpl hall hnn
 refine thn (hd pos pins s1 σ H1 _ I1 q1) λws s2 ⟨zs,H2,I2,r2,pp,ns,d,e1,e2,hp,q0,qm⟩=>?_
 subst e1 e2
 obtain⟨u,rfl,ru⟩:=r1.one
 obtain⟨v,rfl,rv⟩:=r2.one
 cases(show u=Value.ref pp from ru)
 rw[hks]
 obtain⟨its,rr,pl,hz⟩:=I2.list hp
 obtain⟨ys,e1,e2⟩:=Zf6 rr
 have hsz:ys.size=ns.length:=by
  have:=congrArg List.length e2
  rw[Yi,YO]at this
  exact this
 refine ZnU (xs:=ys) (I2.ok.hd hc) (e1▸pl.isList) (λz h' tk k=>?_) (λz v' h' tk hv k=>?_)
 ·exact⟨.int d,H2,I2.kept k,rv,q0 (List.length_eq_zero_iff.mp (by omega))⟩
 ·obtain⟨t,rfl⟩:=intItems_at hv
  obtain⟨h1,h2⟩:=argBest_lt (numAt ys) (ys.size-1)
  refine⟨.int _,H2,I2.kept k,⟨t,rfl⟩,qm (λy=>by have h3:ys.size=0:=(by rw[hsz,y];rfl);omega) _ ?_ λa ha=>?_⟩
  ·rw[numAt_eq,e2];exact getD_mem (by omega)
  ·obtain⟨j,hj,rfl⟩:=mem_getD ha
   rw[<-e2,<-numAt_eq];exact h2 j (by omega)
end
theorem Zjr {P:Nat->Prop}:∀n,¬ (∀j,j<n->P j)->∃j,j<n/\¬ P j/\∀i,i<j->P i
 |0,h=>absurd (λj hj=>by omega) h
 |n+1,h=>by
  by_cases z:∀j,j<n->P j
  ·exact⟨n,by omega,λy=>h λj hj=>by
    by_cases e:j=n
    ·rw[e];exact y
    ·exact z j (by omega),z⟩
  ·obtain⟨j,h1,h2,h3⟩:=Zjr n z
   exact⟨j,by omega,h2,h3⟩
section
variable {X:Cx}
noncomputable def rOr (r1 r2:R2):R2:=λx y H Q=>r1 x y H Q\/r2 x y H Q
theorem op_orR {op:Value->Value->Sem Value}{r1 r2:R2} (h1:OpR X op r1) (h2:OpR X op r2):OpR X op (rOr r1 r2):=λpins s σ H x y v u Q I rx ry h=>h.elim (h1 pins s σ H x y v u Q I rx ry) (h2 pins s σ H x y v u Q I rx ry)
end
section
variable {prog:Program}{w:World}{A:Around}{E Q:Value->Shared->Prop}{s:Shared}{it t:Addr}{i:Nat}{items:Array Value}
theorem Zgf {x:Value} (hi:s.heap.IsTupleIter it t i) (ht:s.heap.IsTuple t items) (hx:items[i]?=some x) (h:∀h',h'.IsTupleIter it t (i+1)->Heap.SameBut it s.heap h'->Q x {s with heap:=h'}):wpAny (model prog w) A (Builtin.SmallTypes.nextOf (.ref it)) Q E s:=by
 obtain⟨o,ho,hc,hd⟩:=id hi
 obtain⟨ot,hot,hct,n,hdt⟩:=id ht
 have hT:s.TypeIs (.ref it) "tuple_iterator":=⟨o,ho,hc⟩
 unfold Builtin.SmallTypes.nextOf
 refine Ya (wpAny_callSpecial?_slot hT F.slot_tuple_iterator_next (wpAny_call_entry F.slot_tuple_iterator_next hT F.entry_tuple_iterator_next ?_ (F.args_tuple_iterator_next_1 _)))
 show wpAny _ _ (_ >>= _) _ _ _
 refine Ya (wpAny_of_eq (show slotArgs "__next__" 0 {pos:=[.ref it]}=pure (.ref it,[])from rfl) ?_)
 refine Ya (wpAny_field ho hd (x:=.ref t) rfl ?_)
 rw[Yb (by simp)]
 refine Ya (wpAny_field ho hd (x:=.int (i:Int) 0) rfl ?_)
 refine Ya (wpAny_seqItems hot hdt ?_)
 dsimp only
 rw[YJ,hx]
 refine Ya (wpAny_setField ho hd (by show 1<2;decide) (Ye ⟨x,rfl,?_⟩))
 refine Ye (h _ ?_ ⟨by simp,λb hb=>Heap.get?_update_other _ _ (Ne.symm hb)⟩)
 obtain⟨cls,dict,data,slots⟩:=o
 simp only at hc hd
 subst hc hd
 exact⟨_,Heap.get?_update_self _ ho rfl,rfl,rfl⟩
theorem ZgP (hA:A.handled=none) (hi:s.heap.IsTupleIter it t i) (ht:s.heap.IsTuple t items) (hx:items[i]?=none) (h:∀h' e,Heap.ExtBut it s.heap h'->(∃o,h'.get? e=some o/\o.cls=.type "StopIteration")->E (.ref e) {s with heap:=h'}):wpAny (model prog w) A (Builtin.SmallTypes.nextOf (.ref it)) Q E s:=by
 obtain⟨o,ho,hc,hd⟩:=id hi
 obtain⟨ot,hot,hct,n,hdt⟩:=id ht
 have hT:s.TypeIs (.ref it) "tuple_iterator":=⟨o,ho,hc⟩
 unfold Builtin.SmallTypes.nextOf
 refine Ya (wpAny_callSpecial?_slot hT F.slot_tuple_iterator_next (wpAny_call_entry F.slot_tuple_iterator_next hT F.entry_tuple_iterator_next ?_ (F.args_tuple_iterator_next_1 _)))
 show wpAny _ _ (_ >>= _) _ _ _
 refine Ya (wpAny_of_eq (show slotArgs "__next__" 0 {pos:=[.ref it]}=pure (.ref it,[])from rfl) ?_)
 refine Ya (wpAny_field ho hd (x:=.ref t) rfl ?_)
 rw[Yb (by simp)]
 refine Ya (wpAny_field ho hd (x:=.int (i:Int) 0) rfl ?_)
 refine Ya (wpAny_seqItems hot hdt ?_)
 dsimp only
 rw[YJ,hx]
 refine Ya (wpAny_rule (Ya (wpAny_setField ho hd (by show 0<2;decide) ?_)))
 unfold Builtin.SmallTypes.stopIteration
 refine Ya ?_
 unfold newExc
 refine Ya (wpAny_newTuple ?_ (Yn _))
 refine Ya (wpAny_of_eq (show firstArgMember (.type "StopIteration") []=pure .none by first|rfl|(unfold firstArgMember;rfl)) ?_)
 refine wpAny_newObj_type (wpAny_raiseNew_none hA (h _ _ (λb o' hb e=>?_) ⟨_,Yw _ rfl,rfl⟩))
 exact Ym _ (Ym _ ((Heap.get?_update_other _ _ (Ne.symm hb)).trans e))
theorem Zhn (hA:A.handled=none) (it t:Addr) (hne:t≠it) (items:Array Value):Draws prog w A it [it,t] items.size (λi v=>items[i]?=some v) (λi h=>h.IsTupleIter it t i/\h.IsTuple t items) where
 live:=λi h st=>by obtain⟨⟨o,ho,_⟩,_⟩:=st;exact⟨o,ho⟩
 frame:=λi h h' st k=>by
  obtain⟨⟨o,ho,r⟩,⟨ot,hot,rt⟩⟩:=st
  exact⟨⟨o,k it (by simp) o ho,r⟩,⟨ot,k t (by simp) ot hot,rt⟩⟩
 item:=λi s Q E hi st h=>by
  obtain⟨ot,hot,rt⟩:=st.2
  refine Zgf st.1 st.2 (Array.getElem?_eq_getElem hi) λh' hit hs=>h _ h' s.toks (Array.getElem?_eq_getElem hi) ⟨hit,⟨ot,(hs.2 t hne).trans hot,rt⟩⟩ hs
 done:=λs Q E st h=>ZgP hA st.1 st.2 (Array.getElem?_eq_none (Yd _)) h
end
section
variable {X:Cx}{pins:List (Addr×Obj)}{σ:St}{H:Hp}{s:Shared}{h':Heap}
noncomputable def IteT (K : Frag) (a : Addr) : It :=
  ⟨fun i H => ∃ xs x, SqT K H a xs ∧ xs[i]? = some x,
   fun i H v H' => ∃ p x, H p = none ∧ v = .ref p ∧ H' = upd H p (.tup [.int (i : Int), x]) ∧ ∀ xs, SqT K H a xs → xs[i]? = some x,
   fun i H => ∃ xs, SqT K H a xs ∧ xs.length = i⟩
theorem ZlT {P:Program}{w:World}{K:Frag}{elts:List Expr} {x1}{pos:Pos}{a e it:Addr} (h1:e≠it) (h2:a≠e) (h3:a≠it) :
  Turn P w K (.Tuple elts x1 pos) (IteT K a) [e,it] e (λi h=>(∃old,IsEnum h e it (i:Int) old)/\h.IsTupleIter it a i) where
 mem:=by simp
 obj:=λi h st c hc=>by
  obtain⟨⟨old,q1⟩,⟨o4,q4,_,d4⟩⟩:=st
  simp at hc
  rcases hc with rfl|rfl
  ·exact⟨_,q1,λv z=>by cases z⟩
  ·exact⟨_,q4,λv z=>by rw[d4]at z;cases z⟩
 keep:=λi h h' st k=>by
  obtain⟨⟨old,q1⟩,⟨o,ho,r⟩⟩:=st
  exact⟨⟨old,k e (by simp) _ q1⟩,⟨o,k it (by simp) o ho,r⟩⟩
 item:=by
  intro X hP hw hK hc i pins s σ H E I hf st hg
  subst hP hw hK
  obtain⟨xs,x,qa,hx⟩:=hg
  obtain⟨is1,r1,p1,hz1⟩:=I.tuple qa
  obtain⟨u,hu,ru⟩:=r1.get hx
  have W:=WalksT.enumerateD (prog:=X.prog) (w:=X.w) (A:=X.A) (Zhn (A:=X.A.in1) (I.ok.hd hc) it a h3 is1.toArray) e h1 (by simp;exact⟨h1,h2.symm⟩) (by simp)
  have hi:i<is1.toArray.size:=by
   have:=(Ys.mp hu).1
   simpa using this
  refine W.item i s _ E hi ⟨st.1,st.2,p1⟩ λT vals h' tk Pt hT hTup Mid keep=>⟨_,rfl,W.go elts x1 pos i T _ _ E Mid λh2' St2 keep2=>?_⟩
  obtain⟨t,y,hy,rfl⟩:=Pt
  have hyu:y=u:=by
   have:is1[i]?=some y:=by simpa using hy
   rw[hu]at this;exact(Yx this).symm
  subst hyu
  have nT:=W.apart i T h' Mid
  have hfr:H T=none:=I.hok.fresh hT
  have kk:∀b o,b∉[e,it]->s.heap.get? b=some o->h2'.get? b=some o:=λb o hb q=>keep2 b o hb (keep b o hb q)
  have nTe:∀c∈[e,it],c≠T:=λc hc z=>nT (z▸hc)
  refine⟨.ref T,_,Inv.ZmT (s:=s) (t':=tk) (o:=.tup [.int (i:Int),x]) I kk hf hT ?_,rfl,⟨T,x,hfr,rfl,rfl,λxs' q'=>?_⟩,⟨?_,St2.2.1⟩,λc hc=>?_⟩
  ·obtain⟨oT,q1,q2,n,q3⟩:=hTup
   exact⟨by show 2<=sizeLine;decide,[.int (i:Int) t,y],.cons ⟨t,rfl⟩ (.cons ru .nil),⟨oT,keep2 T oT nT q1,q2,n,q3⟩⟩
  ·rw[I.ZgJ q' qa];exact hx
  ·obtain⟨old,q⟩:=St2.1
   exact⟨old,by rw[show(((i+1:Nat)):Int)=(i:Int)+1 by omega]at *;exact q⟩
  ·rw[Zm (nTe c hc)];exact(hf c hc).1
 done:=by
  intro X hP hw hK hc i pins s σ H E I hf st hg
  subst hP hw hK
  obtain⟨xs,qa,hx⟩:=hg
  obtain⟨is1,r1,p1,_⟩:=I.tuple qa
  have W:=WalksT.enumerateD (prog:=X.prog) (w:=X.w) (A:=X.A) (Zhn (A:=X.A.in1) (I.ok.hd hc) it a h3 is1.toArray) e h1 (by simp;exact⟨h1,h2.symm⟩) (by simp)
  have hi:i=is1.toArray.size:=by
   have:=r1.length
   simp;omega
  refine W.done s _ E ?_ λh' tk keep=>⟨rfl,I.ZmE (t':=tk) (fp:=[e,it]) (λc o hc q=>keep c o hc q) hf⟩
  rw[<-hi]
  exact⟨st.1,st.2,p1⟩
 self:=λA i s Q E st h=>by
  obtain⟨⟨old,q⟩,_⟩:=st
  exact wpAny_pyIter_enum q h
theorem ZlU {M:Model}{A:Around}{E:Value->Shared->Prop}{s:Shared} (cls:Value):wpAny M A (Builtin.SmallTypes.calledThroughType cls) (λ_ s'=>s'=s) E s:=by
 unfold Builtin.SmallTypes.calledThroughType
 exact Ya (wpAny_stack λst _ _ _=>Ye rfl)
theorem Zk5 {prog:Program}{w:World} (l:Addr) (items:Array Value):MeetsIn prog w (Builtin.«enumerate.__new__» {pos:=[.type "enumerate",.ref l]}) λA R s=>s.heap.IsTuple l items/\R (.ok (.ret (.ref (s.heap.objs.size+1)))) {s with heap:=(s.heap.push {cls:=.type "tuple_iterator",data:=.fields #[.ref l,.int 0 0]}).push {cls:=.type "enumerate",data:=.fields #[.none,.bool false,.ref s.heap.objs.size,rawInt 0,.none,.none]}}:=by
 intro A R s ⟨h,hR⟩
 unfold Builtin.«enumerate.__new__»
 refine Ya (wpAny_of_eq (show Builtin.SmallTypes.newClass "enumerate" {pos:=[.type "enumerate",.ref l]}=pure (.type "enumerate",[.ref l])from by first|rfl|(unfold Builtin.SmallTypes.newClass;rfl)) ?_)
 show wpAny _ _ (_ >>= _) _ _ _
 have hsz:(s.heap.push {cls:=.type "tuple_iterator",data:=.fields #[.ref l,.int 0 0]}).objs.size=s.heap.objs.size+1:=Heap.size_push _ _
 refine Ya (thn (ZlU (.type "enumerate")) λb s' e=>?_)
 subst e
 cases b with
 |true =>
  show wpAny _ _ (_ >>= _) _ _ _
  refine Ya (wpAny_of_eq (show _=pure (.ref l,none)from rfl) ?_)
  show wpAny _ _ (_ >>= _) _ _ _
  refine Ya (wpAny_pyIter_tuple h ?_)
  show wpAny _ _ (newObj (.type "enumerate") (.fields #[.none,.bool false,.ref s'.heap.objs.size,rawInt 0,.none,.none]) >>= _) _ _ _
  refine Ya (wpAny_newObj_type (Ye ?_))
  rw[hsz];exact hR
 |false =>
  show wpAny _ _ (_ >>= _) _ _ _
  refine Ya (wpAny_of_eq (show _=pure (.ref l,none)from rfl) ?_)
  show wpAny _ _ (_ >>= _) _ _ _
  refine Ya (wpAny_pyIter_tuple h ?_)
  show wpAny _ _ (newObj (.type "enumerate") (.fields #[.none,.bool false,.ref s'.heap.objs.size,rawInt 0,.none,.none]) >>= _) _ _ _
  refine Ya (wpAny_newObj_type (Ye ?_))
  rw[hsz];exact hR
noncomputable def ZlV (K:Frag) (ta:TA):TI:=fun σ H R=>ta σ H λvs H1=>∃a xs,vs=[.ref a]/\SqT K H1 a xs/\R (IteT K a) H1
theorem Zid {K:Frag}{elts:List Expr} {x1}{tp:Pos}{e1:Expr}{ta:TA}{p pos:Pos} (hK:X.K=K) (hg:Gl X "enumerate") (hm:X.mg "enumerate"=none) (ha:PA X [e1] ta) (hs:starEach [e1] X.env=[(false,eval e1 X.env)]:=by rfl) :
  PI X (.Tuple elts x1 tp) (.Call (.Name "enumerate" p) [e1] [] pos) (ZlV K ta):=by
 subst hK
 intro pins s σ H R I h
 refine wpAny_Call_Name_kw (Zc7 I hg hm Zic ?_)
 refine PyProof.Rows.callWith_type1 (thn (ha pos pins s σ H _ I h) λus s1 ⟨vs,H1,I1,r1,a,xs,e1,qa,q⟩=>?_) hs rfl
 subst e1
 obtain⟨u,rfl,ru⟩:=r1.one
 cases(show u=Value.ref a from ru)
 obtain⟨is1,rr1,p1,_⟩:=I1.tuple qa
 have l1:a<s1.heap.objs.size:=by obtain⟨o,e,_⟩:=p1;exact Yh e
 have sm:∀b,s1.heap.objs.size<=b->FpOk X pins H1 b:=λb hb=>I1.Znp hb (I1.hok.fresh hb)
 have n1:s1.heap.objs.size+1≠s1.heap.objs.size:=by show ¬ ((_:Nat)=_);omega
 have n2:a≠s1.heap.objs.size+1:=Yo (YH l1)
 have n3:a≠s1.heap.objs.size:=Yo l1
 have T:=ZlT (P:=X.prog) (w:=X.w) (K:=X.K) (elts:=elts) (x1:=x1) (pos:=tp) n1 n2 n3
 have hsz:(s1.heap.push {cls:=.type "tuple_iterator",data:=.fields #[.ref a,.int 0 0]}).objs.size=s1.heap.objs.size+1:=Heap.size_push _ _
 have c1:IsEnum ((s1.heap.push {cls:=.type "tuple_iterator",data:=.fields #[.ref a,.int 0 0]}).push {cls:=.type "enumerate",data:=.fields #[.none,.bool false,.ref s1.heap.objs.size,rawInt 0,.none,.none]}) (s1.heap.objs.size+1) s1.heap.objs.size 0 .none:=by
  show Heap.get? _ _=_
  rw[<-hsz];exact Yw _ rfl
 have c2:((s1.heap.push {cls:=.type "tuple_iterator",data:=.fields #[.ref a,.int 0 0]}).push {cls:=.type "enumerate",data:=.fields #[.none,.bool false,.ref s1.heap.objs.size,rawInt 0,.none,.none]}).IsTupleIter s1.heap.objs.size a 0:=⟨_,Ym _ (Yw _ rfl),rfl,rfl⟩
 refine callType_newIn F.called_enumerate rfl (by first|rfl|decide) (F.newCall_enumerate_1 _) (λobj=>by first|rfl|decide) F.entry_enumerate_new (Zk5 a is1.toArray) ⟨p1,⟨_,c1,rfl⟩,?_⟩
 refine T.self _ 0 _ _ _ ⟨⟨_,c1⟩,c2⟩ ?_
 refine⟨_,[s1.heap.objs.size+1,s1.heap.objs.size],_,_,H1,rfl,I1.kept (t':=s1.toks) (λb o e=>Ym _ (Ym _ e)),T,⟨⟨_,c1⟩,c2⟩,λc hc=>?_,q⟩
 simp at hc
 rcases hc with rfl|rfl<;>exact sm _ (by omega)
end
open Classical in
noncomputable def ZcT (f:Nat->Int) (p:Nat):Int:=if h:∃q,ZS f p q then (Classical.choose h:Nat)else -1
open Classical in
noncomputable def ZbI (f:Nat->Int) (n p:Nat):Int:=if h:∃r,ZX f n p r then (Classical.choose h:Nat)else (n:Int)
theorem Zbk {f:Nat->Int}{p q:Nat} (h:ZS f p q):ZcT f p=q:=by
 have hx:∃q,ZS f p q:=⟨q,h⟩
 unfold ZcT
 rw[dif_pos hx,(Classical.choose_spec hx).unique h]
theorem ZdQ {f:Nat->Int}{p:Nat} (h:ZbK f p):ZcT f p=-1:=by
 unfold ZcT
 rw[dif_neg λ⟨q,hq⟩=>hq.no h]
theorem ZgQ {f:Nat->Int}{n p r:Nat} (h:ZX f n p r):ZbI f n p=r:=by
 have hx:∃r,ZX f n p r:=⟨r,h⟩
 unfold ZbI
 rw[dif_pos hx,(Classical.choose_spec hx).unique h]
theorem Zj6 {f:Nat->Int}{n p:Nat} (h:Zbv f n p):ZbI f n p=n:=by
 unfold ZbI
 rw[dif_neg λ⟨q,hq⟩=>hq.no h]
theorem ZdR {f:Nat->Int}{n p:Nat}{e:Int} (h:ZN f n p e):(ZbK f p\/∃q,ZS f p q)/\(Zbv f n p\/∃r,ZX f n p r):=by
 rcases h with⟨h1,h2,_⟩|⟨q,h1,h2,_⟩|⟨r,h1,h2,_⟩|⟨q,r,h1,h2,_⟩
 ·exact⟨.inl h1,.inl h2⟩
 ·exact⟨.inr ⟨q,h1⟩,.inl h2⟩
 ·exact⟨.inl h1,.inr ⟨r,h2⟩⟩
 ·exact⟨.inr ⟨q,h1⟩,.inr ⟨r,h2⟩⟩
theorem ZS.over {f:Nat->Int}{p q:Nat} (h:ZS f p q):Over f q p:=.inl ⟨h.1,λr r1 r2=>by
 by_cases z:r=p
 ·rw[z];exact h.2.1
 ·have:=h.2.2 r r1 (by omega);have:=h.2.1;omega⟩
theorem ZX.over {f:Nat->Int}{n p q:Nat} (h:ZX f n p q):Over f q p:=.inr ⟨h.1,λr r1 r2=>by
 by_cases z:r=p
 ·rw[z];exact h.2.2.1
 ·have:=h.2.2.2 r (by omega) r2;have:=h.2.2.1;omega⟩
theorem Zpq {ns T:List Int} (hT:Z4 ns T) {p:Nat} (hp:p<ns.length):let L:=(Zgd T p).filter λo=>decide (o<(p:Int))
  (L=[]->ZcT (nth ns) p=-1)/\(L≠[]->∀m,m∈L->(∀a∈L,a<=m)->m=ZcT (nth ns) p):=by
 intro L
 have hL:∀o:Nat,(o:Int)∈L↔o<p/\o<ns.length/\Over (nth ns) o p:=λo=>by
  rw[YS,ZmS hT hp,decide_eq_true_eq]
  exact⟨λh=>⟨by omega,h.1⟩,λh=>⟨h.2,by omega⟩⟩
 have hN:∀m∈L,∃o:Nat,m=o:=λm hm=>by
  have:=(YS.mp hm).1
  rw[Zk4]at this
  obtain⟨o,_,e⟩:=YG.mp this
  exact⟨o,e.symm⟩
 rcases(ZdR (hT.2 p hp)).1 with h|⟨q,h⟩
 ·refine⟨λ_=>ZdQ h,λhne m hm _=>?_⟩
  obtain⟨o,rfl⟩:=hN m hm
  obtain⟨h1,_,h2⟩:=(hL o).mp hm
  have:=h o h1
  rcases h2 with⟨_,k⟩|⟨z,_⟩
  ·have:=k p h1 (Yd _);omega
  ·omega
 ·have hq:(q:Int)∈L:=(hL q).mpr ⟨h.1,by have:=h.1;omega,h.over⟩
  refine⟨λe=>by rw[e]at hq;simp at hq,λ_ m hm hmax=>?_⟩
  rw[Zbk h]
  obtain⟨o,rfl⟩:=hN m hm
  obtain⟨h1,_,h2⟩:=(hL o).mp hm
  have hqo:=hmax _ hq
  by_cases z:o=q
  ·rw[z]
  ·have:=h.2.2 o (by omega) h1
   rcases h2 with⟨_,k⟩|⟨z,_⟩
   ·have:=k p h1 (Yd _);omega
   ·omega
theorem Zpr {ns T:List Int} (hT:Z4 ns T) {p:Nat} (hp:p<ns.length):let L:=(Zgd T p).filter λo=>decide ((p:Int)<o)
  (L=[]->ZbI (nth ns) ns.length p=ns.length)/\(L≠[]->∀m,m∈L->(∀a∈L,m<=a)->m=ZbI (nth ns) ns.length p):=by
 intro L
 have hL:∀o:Nat,(o:Int)∈L↔p<o/\o<ns.length/\Over (nth ns) o p:=λo=>by
  rw[YS,ZmS hT hp,decide_eq_true_eq]
  exact⟨λh=>⟨by omega,h.1⟩,λh=>⟨h.2,by omega⟩⟩
 have hN:∀m∈L,∃o:Nat,m=o:=λm hm=>by
  have:=(YS.mp hm).1
  rw[Zk4]at this
  obtain⟨o,_,e⟩:=YG.mp this
  exact⟨o,e.symm⟩
 rcases(ZdR (hT.2 p hp)).2 with h|⟨q,h⟩
 ·refine⟨λ_=>Zj6 h,λhne m hm _=>?_⟩
  obtain⟨o,rfl⟩:=hN m hm
  obtain⟨h1,h3,h2⟩:=(hL o).mp hm
  have:=h o h1 h3
  rcases h2 with⟨z,_⟩|⟨_,k⟩
  ·omega
  ·have:=k p (Yd _) h1;omega
 ·have hq:(q:Int)∈L:=(hL q).mpr ⟨h.1,h.2.1,h.over⟩
  refine⟨λe=>by rw[e]at hq;simp at hq,λ_ m hm hmin=>?_⟩
  rw[ZgQ h]
  obtain⟨o,rfl⟩:=hN m hm
  obtain⟨h1,h3,h2⟩:=(hL o).mp hm
  have hqo:=hmin _ hq
  by_cases z:o=q
  ·rw[z]
  ·have:=h.2.2.2 o h1 (by omega)
   rcases h2 with⟨z,_⟩|⟨_,k⟩
   ·omega
   ·have:=k p (Yd _) h1;omega
noncomputable def ZT (f:Nat->Int) (p:Nat):Int:=if 0<=ZcT f p then (p:Int)-ZcT f p else 0
noncomputable def Zba (ns:List Int):List Int:=(List.range ns.length).map (ZT (nth ns))
theorem Zff (ns:List Int):(Zba ns).length=ns.length:=by simp[Zba]
noncomputable def Zbd (H:Hp) (l:Addr) (n:Nat) (ps:Nat->Int×Int):Prop:=∃qs:List Addr,H l=some (.lst (qs.map V.ref))/\qs.length=n/\∀(j:Nat) (q:Addr),qs[j]?=some q->H q=some (.tup [.int (ps j).1,.int (ps j).2])
theorem Zbd.same {H H':Hp}{l:Addr}{n:Nat}{ps:Nat->Int×Int} (h:Zbd H l n ps) (s:Zh H H'):Zbd H' l n ps:=by
 obtain⟨qs,h1,h2,h3⟩:=h
 exact⟨qs,s _ _ h1,h2,λj q hq=>s _ _ (h3 j q hq)⟩
theorem Zbd.push {H:Hp}{l q:Addr}{n:Nat}{ps:Nat->Int×Int} (h:Zbd H l n ps) (hq:H q=some (.tup [.int (ps n).1,.int (ps n).2])):∃xs:List V,H l=some (.lst xs)/\xs.length=n/\Zbd (upd H l (.lst (xs++[.ref q]))) l (n+1) ps:=by
 obtain⟨qs,h1,h2,h3⟩:=h
 have hne:∀a o,H a=some (.tup o)->a≠l:=λa o ha z=>by rw[z,h1]at ha;cases ha
 refine⟨_,h1,by simp[h2],qs++[q],by rw[Zd];simp,by simp[h2],λj a ha=>?_⟩
 by_cases z:j<qs.length
 ·rw[Y4 z]at ha
  have:=h3 j a ha
  rw[Zm (hne _ _ this)];exact this
 ·have hj:=(Ys.mp ha).1
  rw[Yr]at hj
  have:j=n:=by simp at hj;omega
  subst this
  rw[Y0 (by omega),h2]at ha
  simp at ha
  rw[<-ha,Zm (hne _ _ hq)];exact hq
theorem Zie {f:Nat->Int} (v:Int):∀S:List Nat,S.Pairwise (λa b=>f a<=f b)->∃A B,S=A++B/\(∀q∈A,f q<=v)/\∀q∈B,v<f q
 |[],_=>⟨[],[],rfl,λ_ h=>(nomatch h),λ_ h=>(nomatch h)⟩
 |q::r,h=>by
  have hr:=YZ.mp h
  by_cases z:f q<=v
  ·obtain⟨A,B,e,h1,h2⟩:=Zie v r hr.2
   refine⟨q::A,B,by rw[e];rfl,λx hx=>?_,h2⟩
   rcases Yq.mp hx with y|y
   ·rw[y];exact z
   ·exact h1 x y
  ·refine⟨[],q::r,rfl,λ_ h=>(nomatch h),λx hx=>?_⟩
   rcases Yq.mp hx with y|y
   ·rw[y];omega
   ·have:=hr.1 x y;omega
theorem Zcr.mono {f:Nat->Int}{i:Nat}{S:List Nat} (h:Zcr f i S):S.Pairwise (λa b=>f a<=f b):=by
 refine List.Pairwise.imp_of_mem ?_ h.1
 intro a b ha hb hab
 exact((h.2 a).mp ha).2 b hab ((h.2 b).mp hb).1
theorem ZlW {f:Nat->Int}{i:Nat}{A B:List Nat} (hs:Zcr f i (A++B)) (hA:∀q∈A,f q<=f i) (hB:∀q∈B,f i<f q):(A=[]/\ZbK f i)\/∃A' q,A=A'++[q]/\ZS f i q:=by
 have op:∀q,ZS f i q->q∈A:=λq h=>by
  have hm:q∈A++B:=(hs.2 q).mpr ⟨h.1,λr r1 r2=>by have:=h.2.2 r r1 r2;have:=h.2.1;omega⟩
  rcases Yt.mp hm with z|z
  ·exact z
  ·have:=hB q z;have:=h.2.1;omega
 rcases Zfc f i with h|⟨q,h⟩
 ·left
  refine⟨?_,h⟩
  cases A with
  |nil=>rfl
  |cons a r =>
   have h1:=hA a (by simp)
   have h2:=h a ((hs.2 a).mp (by simp)).1
   omega
 ·right
  have hq:=op q h
  have hne:A≠[]:=λz=>by rw[z]at hq;cases hq
  refine⟨A.dropLast,A.getLast hne,(List.dropLast_concat_getLast hne).symm,?_⟩
  have hl:A.getLast hne∈A:=List.getLast_mem hne
  have hli:=((hs.2 _).mp (YC _ hl)).1
  have:A.getLast hne=q:=by
   rcases Nat.lt_trichotomy (A.getLast hne) q with z|z|z
   ·-- q stands behind the last one
    have hpw:=(List.pairwise_append.mp hs.1).1
    rw[<-List.dropLast_concat_getLast hne]at hq hpw
    rcases Yt.mp hq with y|y
    ·have:=(List.pairwise_append.mp hpw).2.2 q y _ (YY.mpr rfl)
     omega
    ·have:q=A.getLast hne:=by simpa using y
     omega
   ·exact z
   ·have:=h.2.2 _ z hli;have:=hA _ hl;omega
  rw[this];exact h
theorem ZnV {f:Nat->Int}{i:Nat}{A B:List Nat} (hs:Zcr f i (A++B)) (hA:∀q∈A,f q<=f i) (hB:∀q∈B,f i<f q):(A=[]/\ZT f i=0)\/∃A' q,A=A'++[q]/\q<i/\ZT f i=(i:Int)-q:=by
 rcases ZlW hs hA hB with⟨h1,h2⟩|⟨A',q,h1,h2⟩
 ·left;refine⟨h1,?_⟩
  unfold ZT;rw[ZdQ h2,Yb (by omega)]
 ·right;refine⟨A',q,h1,h2.1,?_⟩
  unfold ZT;rw[Zbk h2,Yc (by omega)]
theorem ZfE {J:It}{n:Nat}{g:TG}{tb:TS}{D:Ends}{σ:St}{H:Hp} (Pv:Nat->St->Hp->Prop) (h0:Pv 0 σ H) (hgo:∀i σ H,i<n->Pv i σ H->J.go i H) (hstop:∀σ H,Pv n σ H->J.stop n H)
  (hs:∀i x σ H H',i<n->Pv i σ H->J.yld i H x H'->g x σ H' fun σ2 H2=>tb {D with nx:=Pv (i+1),ct:=Pv (i+1),bk:=D.nx} σ2 H2) (hd:∀σ H,Pv n σ H->D.nx σ H):LoopR J g tb D σ H:=by
 refine⟨λi m σ H=>m=n-i/\i<=n/\Pv i σ H,⟨n,by simp,Yn _,h0⟩,?_⟩
 rintro i m σ H ⟨rfl,hi,p⟩
 by_cases hlt:i<n
 ·exact .inr ⟨hgo i σ H hlt p,Pv (i+1),fun σ' H' p'=>⟨n-(i+1),by omega,rfl,hlt,p'⟩,λx H' y=>hs i x σ H H' hlt p y⟩
 ·have:i=n:=by omega
  subst this
  exact .inl ⟨hstop σ H p,hd σ H p⟩
theorem Zps (L:List Int):L=(List.range L.length).map λi=>L.getD i 0:=by
 refine List.ext_getElem (by simp) λj h1 h2=>?_
 simp[Yj,h1]
theorem Zjs {K:Frag}{a:Addr}{L:List Int}{H1:Hp}{Q:VK}{tt:TT}{σr:St} (P:Int->Bool) (ha:H1 a=some (.lst (L.map V.int))) (hn:L.length<=1000)
  (ht:∀(x:Int) (H:Hp) (R:Bool->Hp->Prop),R (P x) H->tt (some (V.int x)::σr) H R)
  (hk:∀l H',Zh H1 H'->H' l=none->Q (.ref l) (upd H' l (.lst ((L.filter P).map V.int)))) :
  ZkP (Itl K a) (Zhj 0) tt (tVar 0) (none::σr) Q H1:=by
 refine Zfe (n:=L.length) (λi=>P (L.getD i 0)) (λi=>V.int (L.getD i 0)) (Yy hn (by decide)) (λi Hx s hi=>⟨_,_,SqL.of (s _ _ ha),Yf (by simpa using hi)⟩) (λHx s=>⟨_,SqL.of (s _ _ ha),by simp⟩) ?_ ?_
 ·rintro i x Hx Hy hi s ⟨rfl,hx⟩
  have ex:=hx _ (SqL.of (s _ _ ha))
  rw[YD,Yf hi]at ex
  cases ex
  have eg:L.getD i 0=L[i]:=by simp[Yj,hi]
  refine ht _ _ _ ?_
  cases hP:P L[i]with
  |true =>
   rw[Yc rfl]
   exact⟨_,rfl,CF.take hi (by rw[eg];exact hP) (by rw[eg]) s⟩
  |false =>
   rw[Yb (by simp)]
   exact CF.skip hi (by rw[eg];exact hP) s
 ·intro l H' s hl
  have:=hk l H' s hl
  have e:((List.range L.length).filter λi=>P (L.getD i 0)).map (λi=>V.int (L.getD i 0))=(L.filter P).map V.int:=by
   conv=>rhs;rw[Zps L,List.filter_map,YN]
   rfl
  rw[e];exact this
theorem ZlX (l:List Nat):Zq l=(l.map λq=>((q:Nat):Int)).map V.int:=by simp[Zq,Function.comp_def]
theorem Zq2 {A B:List Nat}{q:Nat} (h:(A++[q]++B).Pairwise (· < ·)):List.idxOf (q:Int) ((A++[q]++B).map λq=>((q:Nat):Int))=A.length:=by
 have hn:(q:Int)∉A.map λq=>((q:Nat):Int):=λhm=>by
  obtain⟨x,hx,e⟩:=YG.mp hm
  have:=(List.pairwise_append.mp (List.pairwise_append.mp h).1).2.2 x hx q (by simp)
  omega
 rw[YV,YL,List.idxOf_append,Yb hn]
 simp
theorem ZlY (f:Nat->Int) (P:Nat):(((List.range P).filter λq=>decide (f q<=f P))=[]/\ZT f P=0)\/∃q,q<P/\((List.range P).filter λq=>decide (f q<=f P)).getLast?=some q/\ZT f P=(P:Int)-q:=by
 have key:∀m,m<=P->(((List.range m).filter λq=>decide (f q<=f P))=[]/\∀q,q<m->f P<f q)\/∃q,((List.range m).filter λq=>decide (f q<=f P)).getLast?=some q/\q<m/\f q<=f P/\∀r,q<r->r<m->f P<f r:=by
  intro m
  induction m with
  |zero=>intro _;exact .inl ⟨rfl,λq hq=>by omega⟩
  |succ m ih =>
   intro hm
   rw[YF,List.filter_append]
   by_cases hle:f m<=f P
   ·refine .inr ⟨m,?_,by omega,hle,λr r1 r2=>by omega⟩
    simp[hle]
   ·have e:List.filter (λq=>decide (f q<=f P)) [m]=[]:=by simp[hle]
    rw[e,List.append_nil]
    rcases ih (by omega)with⟨i1,i2⟩|⟨q,i1,i2,i3,i4⟩
    ·refine .inl ⟨i1,λq hq=>?_⟩
     by_cases z:q=m
     ·rw[z];omega
     ·exact i2 q (by omega)
    ·refine .inr ⟨q,i1,by omega,i3,λr r1 r2=>?_⟩
     by_cases z:r=m
     ·rw[z];omega
     ·exact i4 r r1 (by omega)
 rcases key P (Yd _)with⟨h1,h2⟩|⟨q,h1,h2,h3,h4⟩
 ·refine .inl ⟨h1,?_⟩
  unfold ZT;rw[ZdQ (λq hq=>h2 q hq),Yb (by omega)]
 ·refine .inr ⟨q,h2,h1,?_⟩
  have hp:ZS f P q:=⟨h2,h3,λr r1 r2=>h4 r r1 r2⟩
  unfold ZT;rw[Zbk hp,Yc (by omega)]
end L2
namespace PySem
open Sem (wp)
end PySem
namespace L2
open PySem PySem.Spec PyProof.Rows PySem.W
theorem Zj7 {f:Nat->Int}{n p:Nat} (hp:p<n):-1<=ZcT f p/\ZcT f p<p/\(p:Int)<ZbI f n p/\ZbI f n p<=n:=by
 obtain⟨hA,hB⟩:=ZdR (ZkW (f:=f) hp)
 have a1:-1<=ZcT f p/\ZcT f p<p:=by
  rcases hA with hA|⟨q,hA⟩
  ·rw[ZdQ hA];omega
  ·rw[Zbk hA];have:=hA.1;omega
 have a2:(p:Int)<ZbI f n p/\ZbI f n p<=n:=by
  rcases hB with hB|⟨q,hB⟩
  ·rw[Zj6 hB];omega
  ·rw[ZgQ hB];have:=hB.1;have:=hB.2.1;omega
 exact⟨a1.1,a1.2,a2.1,a2.2⟩
theorem ZiT {F:Nat->Int}{n k:Nat}{v:Int}:((List.range n).map F).set k v=(List.range n).map λp=>if p=k then v else F p:=by
 refine List.ext_getElem (by simp) λj h1 h2=>?_
 simp only[List.length_set,Yi,Y6]at h1
 rw[List.getElem_set]
 by_cases e:k=j
 ·simp[e]
 ·have e':¬ j=k:=λz=>e z.symm
  simp[e,e']
theorem Zbb {F:Nat->Int}{n k:Nat} (h:k<n):nth ((List.range n).map F) k=F k:=by simp[nth,Yj,h]
end L2
namespace L2
theorem snoc_cases {α:Type} (xs:List α):xs=[]\/∃ys y,xs=ys++[y]:=by
 rcases List.eq_nil_or_concat xs with h|⟨ys,y,h⟩
 ·exact .inl h
 ·exact .inr ⟨ys,y,by rw[h,List.concat_eq_append]⟩
end L2
namespace L2
open PySem PySem.Spec PyProof.Rows PySem.W
noncomputable def KinD (f g:Nat->Int) (m:Nat):Prop:=∀i,i<m->ZT f i=ZT g i
noncomputable def Alike (f g:Nat->Int) (i:Nat) (S:List Nat):Prop:=Zcr f i S/\Zcr g i S/\KinD f g i
end L2
namespace L2
open PySem PySem.Spec PyProof.Rows PySem.W
noncomputable def Once (k:Nat) (ss ls:List Int):Prop:=ss=((List.range k).map λ(j:Nat)=>(j:Int)).filter (λj=>decide (j∉ls))/\ls=((List.range k).map λ(j:Nat)=>(j:Int)).filter (λj=>decide (j∈ls))
noncomputable instance (k:Nat) (ss ls:List Int):Decidable (Once k ss ls):=inferInstanceAs (Decidable (_/\_))
section
variable {N:Nat}{k:Nat->Int}{cmp:Nat->Nat->(Bool->Shared->Prop)->Shared->Prop}{s:Shared}{p:Array Nat}
noncomputable def kk (k:Nat->Int) (p:Array Nat) (i:Nat):Int:=k (p.getD i 0)
end
theorem ZcU {f g:Nat->Int}{i:Nat}{S:List Nat} (h:∀q,q<i->f q=g q) (hs:Zcr f i S):Zcr g i S:=by
 refine⟨hs.1,λq=>(hs.2 q).trans ⟨λ⟨h1,h2⟩=>⟨h1,λr r1 r2=>by rw[<-h q h1,<-h r r2];exact h2 r r1 r2⟩,λ⟨h1,h2⟩=>⟨h1,λr r1 r2=>by rw[h q h1,h r r2];exact h2 r r1 r2⟩⟩⟩
theorem ZcV {f g:Nat->Int}{i p:Nat}{e:Int} (h:∀q,q<i->f q=g q) (hp:p<i) (he:ZN f i p e):ZN g i p e:=by
 have c1:ZbK f p->ZbK g p:=λz q hq=>by rw[<-h p hp,<-h q (by omega)];exact z q hq
 have c2:Zbv f i p->Zbv g i p:=λz r r1 r2=>by rw[<-h p hp,<-h r r2];exact z r r1 r2
 have c3:∀q,ZS f p q->ZS g p q:=λq ⟨z1,z2,z3⟩=>⟨z1,by rw[<-h p hp,<-h q (by omega)];exact z2,λr r1 r2=>by rw[<-h p hp,<-h r (by omega)];exact z3 r r1 r2⟩
 have c4:∀r,ZX f i p r->ZX g i p r:=λr ⟨z1,z2,z3,z4⟩=>⟨z1,z2,by rw[<-h p hp,<-h r z2];exact z3,λs s1 s2=>by rw[<-h p hp,<-h s (by omega)];exact z4 s s1 s2⟩
 rcases he with⟨a,b,c⟩|⟨q,a,b,c⟩|⟨r,a,b,c⟩|⟨q,r,a,b,c⟩
 ·exact .inl ⟨c1 a,c2 b,c⟩
 ·exact .inr (.inl ⟨q,c3 q a,c2 b,c⟩)
 ·exact .inr (.inr (.inl ⟨r,c1 a,c4 r b,c⟩))
 ·exact .inr (.inr (.inr ⟨q,r,c3 q a,c4 r b,by rw[<-h q (Nat.lt_trans a.1 hp),<-h r b.2.1];exact c⟩))
noncomputable def ZbJ (ds:List Nat):Nat->Nat
 |0=>0
 |k+1=>ZbJ ds k-ds.getD k 0+1
noncomputable def Zcu (ds:List Nat):Prop:=∀k,k<ds.length->ds.getD k 0<=ZbJ ds k
theorem Zif (ds:List Nat) (k:Nat):ZbJ ds k<=k:=by
 induction k with
 |zero=>exact Yd _
 |succ k ih=>unfold ZbJ;omega
theorem Zig {α:Type} (S:List α) {d:Nat} (h:d<=S.length):∃A B,S=A++B/\B.length=d:=⟨S.take (S.length-d),S.drop (S.length-d),(Y7 _ _).symm,by simp;omega⟩
theorem Zq3 (f:Nat->Int) (n p:Nat):Zbv f n p\/∃r,ZX f n p r:=by
 by_cases h:∀j,j<n-(p+1)->f p<=f (p+1+j)
 ·exact .inl λr h1 h2=>by
   have:=h (r-(p+1)) (by omega)
   rwa [show p+1+(r-(p+1))=r by omega]at this
 ·obtain⟨j,hj,h1,h2⟩:=Zjr _ h
  refine .inr ⟨p+1+j,by omega,by omega,by omega,λs s1 s2=>?_⟩
  have:=h2 (s-(p+1)) (by omega)
  rwa [show p+1+(s-(p+1))=s by omega]at this
theorem Zpt {X:Cx}{K:Frag} (hK:X.K=K):PGet X (ZiO K):=by
 subst hK
 intro pins s σ H x y v u Q I rx ry h
 obtain⟨p,xs,i,z,rfl,rfl,hq,he,q⟩:=h
 cases rx
 obtain⟨t,rfl⟩:=ry
 obtain⟨its,r,pl,hz⟩:=I.list hq
 obtain⟨j,h1,h2,h3,h4,h5⟩:=ZhL he
 obtain⟨w,ew,rw'⟩:=r.get h2
 have hl:=r.length
 have hn:=Zfy
 have fin:EP X pins σ Q w s:=⟨z,H,I,rw',q⟩
 by_cases h0:0<=i
 ·have hj:i.toNat=j:=by
   rw[seqIndex_of h0 h5]at h1
   exact Yx h1
  exact wpAny_getItem_list pl.isList h0 (by omega) (by rw[hj];simpa using ew) fin
 ·have hj:(i+(its.toArray.size:Int)).toNat=j:=by
   rw[seqIndex_neg (by omega) h4]at h1
   rw[Yl,<-hl]
   exact Yx h1
  exact wpAny_getItem_list_neg pl.isList (by omega) (by rw[Yl]<;>omega) (by omega) (by rw[hj];simpa using ew) fin
noncomputable def Zj8 (f:Nat->Int) (p k:Nat):Prop:=p<k/\f k<f p/\∀s,p<s->s<k->f p<=f s
theorem ZlZ {f:Nat->Int}{n p k:Nat} (hk:k<n):Zj8 f p k↔ZX f n p k:=⟨λ⟨a,b,c⟩=>⟨a,hk,b,c⟩,λ⟨a,_,b,c⟩=>⟨a,b,c⟩⟩
open Classical in
noncomputable def ZaI (f:Nat->Int) (k:Nat):Nat:=(List.range k).countP λp=>decide (Zj8 f p k)
theorem ZnW {B:List Nat}{n:Nat} (hB:B.Nodup) (hlt:∀q∈B,q<n):(List.range n).countP (λp=>decide (p∈B))=B.length:=by
 rw[List.countP_eq_length_filter]
 refine List.Perm.length_eq ((List.perm_ext_iff_of_nodup (List.nodup_range.filter _) hB).mpr λa=>?_)
 rw[YS,YA,decide_eq_true_iff]
 exact⟨λh=>h.2,λh=>⟨hlt a h,h⟩⟩
theorem ZfF {f:Nat->Int}{i:Nat}{A B:List Nat} (hs:Zcr f i (A++B)) (hA:∀q∈A,f q<=f i) (hB:∀q∈B,f i<f q):ZaI f i=B.length:=by
 have hm:∀p,Zj8 f p i↔p∈B:=λp=>by
  constructor
  ·rintro⟨h1,h2,h3⟩
   rcases Yt.mp ((hs.2 p).mpr ⟨h1,h3⟩)with z|z
   ·have:=hA p z;omega
   ·exact z
  ·intro z
   obtain⟨h1,h2⟩:=(hs.2 p).mp (Yp _ z)
   exact⟨h1,hB p z,h2⟩
 have nd:B.Nodup:=(List.pairwise_append.mp hs.1).2.1.imp λh=>Yo h
 have hlt:∀q∈B,q<i:=λq hq=>((hs.2 q).mp (Yp _ hq)).1
 unfold ZaI
 rw[<-ZnW nd hlt]
 refine List.countP_congr λp _=>?_
 simp[hm p]
theorem Zgg {f g:Nat->Int}{k:Nat} (h:∀q,q<=k->f q=g q):ZaI f k=ZaI g k:=by
 unfold ZaI
 refine List.countP_congr λp hp=>?_
 have hp:=YA.mp hp
 simp only[decide_eq_true_eq]
 constructor
 ·rintro⟨a,b,c⟩
  exact⟨a,by rw[<-h k (Yd _),<-h p (by omega)];exact b,λs s1 s2=>by rw[<-h p (by omega),<-h s (by omega)];exact c s s1 s2⟩
 ·rintro⟨a,b,c⟩
  exact⟨a,by rw[h k (Yd _),h p (by omega)];exact b,λs s1 s2=>by rw[h p (by omega),h s (by omega)];exact c s s1 s2⟩
noncomputable def Zih (n i:Nat) (S:List Nat) (es:List Int) (ds:List Nat):Prop:=∃f:Nat->Int,Zcr f i S/\S.Pairwise (λq r=>f q+2 ^ (n-i)<=f r)/\(∀p,p<i->ZN f i p (es.getD p 0))/\∀k,k<i->ZaI f k=ds.getD k 0
theorem Zl0 (n:Nat) (es:List Int) (ds:List Nat):Zih n 0 [] es ds:=⟨λ_=>0,⟨List.Pairwise.nil,λq=>by simp⟩,List.Pairwise.nil,(λp hp=>by omega),λk hk=>by omega⟩
theorem Zih.lt {n i:Nat}{S ds:List Nat}{es:List Int} (h:Zih n i S es ds):∀q∈S,q<i:=by
 obtain⟨f,hS,_⟩:=h
 exact λq hq=>((hS.2 q).mp hq).1
theorem Zih.step {n i:Nat}{A B ds:List Nat}{es:List Int} (h:Zih n i (A++B) es ds) (hi:i<n) (hl:es.length=n) (he:es.getD i 0=-1) (hd:ds.getD i 0=B.length):Zih n (i+1) (A++[i]) (Zds es A B i) ds:=by
 have hlt:=h.lt
 obtain⟨f,hS,hg,hE,hD⟩:=h
 have eD:(2:Int) ^ (n-i)=2*2 ^ (n-(i+1)):=by
  rw[show n-i=n-(i+1)+1 by omega,Int.pow_succ,Int.mul_comm]
 have pD:(0:Int)<2 ^ (n-(i+1)):=Int.pow_pos (by decide)
 rw[eD]at hg
 generalize hDD:(2:Int) ^ (n-(i+1))=D at hg pD
 have hgA:=(List.pairwise_append.mp hg).1
 have hgB:=(List.pairwise_append.mp hg).2.1
 have hgX:=(List.pairwise_append.mp hg).2.2
 obtain⟨v,vA,vB⟩:∃v:Int,(∀q∈A,f q+D<=v)/\∀q∈B,v<f q:=by
  cases B with
  |cons b Br =>
   refine⟨f b-D,λq hq=>?_,λq hq=>?_⟩
   ·have:=hgX q hq b (by simp);omega
   ·rcases Yq.mp hq with rfl|hq
    ·omega
    ·have:=(YZ.mp hgB).1 q hq;omega
  |nil =>
   rcases snoc_cases A with rfl|⟨A',a,rfl⟩
   ·exact⟨0,(λq hq=>by cases hq),λq hq=>by cases hq⟩
   ·refine⟨f a+D,λq hq=>?_,λq hq=>by cases hq⟩
    rcases Yt.mp hq with hq|hq
    ·have:=(List.pairwise_append.mp hgA).2.2 q hq a (by simp);omega
    ·rw[YY.mp hq];omega
 have gi:(λq=>if q=i then v else f q) i=v:=Yc rfl
 have gq:∀q,q<i->(λq=>if q=i then v else f q) q=f q:=λq hq=>Yb (by omega)
 generalize (λq=>if q=i then v else f q)=g at gi gq
 have hag:∀q,q<i->f q=g q:=λq hq=>(gq q hq).symm
 have lA:∀q∈A,q<i:=λq hq=>hlt q (YC _ hq)
 have lB:∀q∈B,q<i:=λq hq=>hlt q (Yp _ hq)
 have sA:∀q∈A,g q<=g i:=λq hq=>by rw[gi,gq q (lA q hq)];have:=vA q hq;omega
 have sB:∀q∈B,g i<g q:=λq hq=>by rw[gi,gq q (lB q hq)];exact vB q hq
 have SS:=ZdN (f:=g) (i:=i) (A:=A) (B:=B) (ZcU hag hS) sA sB
 refine⟨g,SS.1,?_,λp hp=>?_,λk hk=>?_⟩
 ·rw[hDD]
  refine List.pairwise_append.mpr ⟨?_,List.pairwise_singleton _ _,λq hq r hr=>?_⟩
  ·refine hgA.imp_of_mem λ{q r} hq hr z=>?_
   rw[gq q (lA q hq),gq r (lA r hr)];omega
  ·rw[YY.mp hr,gi,gq q (lA q hq)];exact vA q hq
 ·have hbi:∀b,B.head?=some b->b≠i:=λb hb=>by
   have:=lB b (List.mem_of_head? hb);omega
  rw[Zfd _ _ _ _ _ (by omega) hbi]
  by_cases z:p=i
  ·subst z
   rw[Yc rfl,he];exact SS.2.1
  ·rw[Yb z]
   exact SS.2.2 p _ (by omega) (ZcV hag (by omega) (hE p (by omega)))
 ·by_cases z:k=i
  ·subst z
   rw[hd];exact ZfF (ZcU hag hS) sA sB
  ·rw[<-Zgg (f:=f) (g:=g) (k:=k) (λq hq=>hag q (by omega))]
   exact hD k (by omega)
noncomputable def Zx (ds:List Nat):Nat->List Nat×List Int
 |0=>([],List.replicate ds.length (-1))
 |i+1=>(((Zx ds i).1.take ((Zx ds i).1.length-ds.getD i 0))++[i],Zds (Zx ds i).2 ((Zx ds i).1.take ((Zx ds i).1.length-ds.getD i 0)) ((Zx ds i).1.drop ((Zx ds i).1.length-ds.getD i 0)) i)
noncomputable def Zii (ds:List Nat):List Int:=(Zx ds ds.length).2
theorem Zho {ds:List Nat}{i:Nat}{A B:List Nat} (h:(Zx ds i).1=A++B) (hB:B.length=ds.getD i 0):Zx ds (i+1)=(A++[i],Zds (Zx ds i).2 A B i):=by
 have e:(Zx ds i).1.length-ds.getD i 0=A.length:=by rw[h,Yr];omega
 show(((Zx ds i).1.take ((Zx ds i).1.length-ds.getD i 0))++[i],Zds (Zx ds i).2 ((Zx ds i).1.take ((Zx ds i).1.length-ds.getD i 0)) ((Zx ds i).1.drop ((Zx ds i).1.length-ds.getD i 0)) i)=_
 rw[e,h,List.take_left,List.drop_left]
theorem ZgR {ds:List Nat} (h:Zcu ds):∀i,i<=ds.length->Zih ds.length i (Zx ds i).1 (Zx ds i).2 ds/\(Zx ds i).1.length=ZbJ ds i/\(Zx ds i).2.length=ds.length/\∀p,i<=p->p<ds.length->(Zx ds i).2.getD p 0=-1
 |0,_=>⟨Zl0 _ _ _,rfl,by simp[Zx],λp _ hp=>by simp[Zx,Yj,hp]⟩
 |i+1,hi=>by
  obtain⟨h1,h2,h3,h4⟩:=ZgR h i (by omega)
  have hd:=h i (by omega)
  obtain⟨A,B,hAB,hBl⟩:=Zig (Zx ds i).1 (d:=ds.getD i 0) (by omega)
  rw[Zho hAB hBl]
  rw[hAB]at h1
  have hlt:=h1.lt
  have hbi:∀b,B.head?=some b->b≠i:=λb hb=>by
   have:=hlt b (Yp _ (List.mem_of_head? hb));omega
  refine⟨h1.step (by omega) h3 (h4 i (Yd _) (by omega)) hBl.symm,?_,by rw[Zgb];exact h3,λp p1 p2=>?_⟩
  ·have:=congrArg List.length hAB
   rw[Yr]at this
   show(A++[i]).length=ZbJ ds i-ds.getD i 0+1
   rw[Yr,List.length_singleton];omega
  ·show(Zds (Zx ds i).2 A B i).getD p 0=-1
   rw[Zfd _ _ _ _ _ (by omega) hbi,Yb (by omega),Yb (λz=>?_)]
   ·exact h4 p (by omega) p2
   ·have:=hlt p (Yp _ (List.mem_of_head? z));omega
theorem ZnX {ds:List Nat} (h:Zcu ds):(Zii ds).length=ds.length:=(ZgR h _ (Yd _)).2.2.1
theorem Zl1 {ds:List Nat} (h:Zcu ds):∃ns,Z4 ns (Zii ds)/\∀k,k<ds.length->ZaI (nth ns) k=ds.getD k 0:=by
 obtain⟨⟨f,_,_,hE,hD⟩,_,hl,_⟩:=ZgR h _ (Yd _)
 have ln:((List.range ds.length).map f).length=ds.length:=by simp
 refine⟨(List.range ds.length).map f,⟨by rw[ln];exact hl,λp hp=>?_⟩,λk hk=>?_⟩
 ·rw[ln]at hp⊢
  exact ZcV (f:=f) (λq hq=>(Zbb hq).symm) hp (hE p hp)
 ·rw[<-hD k hk]
  exact(Zgg λq hq=>(Zbb (show q<ds.length by omega)).symm).symm
theorem Zk6 {f:Nat->Int}{n k:Nat} (hk:k<n):(List.range n).countP (λp=>decide (ZbI f n p=(k:Int)))=ZaI f k:=by
 have key:∀p,ZbI f n p=(k:Int)↔Zj8 f p k:=λp=>by
  rw[ZlZ hk]
  rcases Zq3 f n p with h|⟨r,h⟩
  ·rw[Zj6 h]
   exact⟨λz=>by omega,λz=>by have:=h k z.1 z.2.1;have:=z.2.2.1;omega⟩
  ·rw[ZgQ h]
   constructor
   ·intro z
    have:r=k:=by omega
    exact this▸h
   ·intro z
    rcases Nat.lt_trichotomy r k with y|y|y
    ·have:=z.2.2.2 r h.1 y;have:=h.2.2.1;omega
    ·rw[y]
    ·have:=h.2.2.2 k z.1 y;have:=z.2.2.1;omega
 unfold ZaI
 have e:List.range n=List.range k++(List.range (n-k)).map (k+·):=by
  have:=List.range_add (n:=k) (m:=n-k)
  rw[show k+(n-k)=n by omega]at this
  exact this
 rw[e,List.countP_append]
 have z:((List.range (n-k)).map (k+·)).countP (λp=>decide (ZbI f n p=(k:Int)))=0:=by
  rw[List.countP_eq_zero]
  intro p hp
  obtain⟨q,_,rfl⟩:=YG.mp hp
  simp only[decide_eq_true_eq,key]
  rintro⟨a,_⟩
  omega
 rw[z,Nat.add_zero]
 refine List.countP_congr λp _=>?_
 simp only[decide_eq_true_eq,key]
noncomputable def ZA (f:Nat->Int) (n:Nat):List Nat:=(List.range n).map (ZaI f)
theorem ZdS (f:Nat->Int) (n:Nat):(ZA f n).length=n:=by simp[ZA]
theorem Zjt {f:Nat->Int}{n k:Nat} (h:k<n):(ZA f n).getD k 0=ZaI f k:=by simp[ZA,Yj,h]
theorem Zhp (f:Nat->Int) (n:Nat):∀k,k<=n->∃S,Zcr f k S/\S.length=ZbJ (ZA f n) k
 |0,_=>⟨[],⟨List.Pairwise.nil,λq=>by simp⟩,rfl⟩
 |k+1,h=>by
  obtain⟨S,hS,hl⟩:=Zhp f n k (by omega)
  obtain⟨A,B,rfl,hA,hB⟩:=Zie (f:=f) (f k) S hS.mono
  refine⟨A++[k],(ZdN hS hA hB).1,?_⟩
  show _=ZbJ (ZA f n) k-(ZA f n).getD k 0+1
  rw[Zjt (by omega),ZfF hS hA hB,<-hl,Yr,Yr,List.length_singleton]
  omega
theorem Zju (f:Nat->Int) (n:Nat):Zcu (ZA f n):=by
 intro k hk
 rw[ZdS]at hk
 obtain⟨S,hS,hl⟩:=Zhp f n k (by omega)
 obtain⟨A,B,rfl,hA,hB⟩:=Zie (f:=f) (f k) S hS.mono
 rw[Zjt hk,ZfF hS hA hB,<-hl,Yr]
 omega
end L2
namespace L2
open PySem PySem.Spec PyProof.Rows PySem.W
section
variable {X:Cx}
noncomputable def Zpu:R2:=λx y H Q=>∃(i:Str) (n:Int),x=.str i/\y=.int n/\-1000<=n/\n<=1000/\i.length<=1000/\Q (.str (Txt.mul i n)) H
theorem ZhO:OpR X (binaryOp .Mult) Zpu:=by
 intro pins s σ H x y v u Q I rx ry h
 obtain⟨i,n,rfl,rfl,h1,h2,h3,q⟩:=h
 obtain⟨t,rfl⟩:=rx
 obtain⟨t',rfl⟩:=ry
 refine SB.mul ⟨?_,λ_ _=>?_,λ_ _=>?_⟩ λt' k=>⟨.str (Txt.mul i n),H,I.tok _,⟨_,rfl⟩,q⟩
 ·simp;omega
 ·intro z
  have hn:1<=n:=by omega
  have h4:(1000:Int)<=(2 ^ 63-1) / n:=Int.le_ediv_of_mul_le (by omega) (by omega)
  omega
 ·unfold Builtin.Str.tooLong
  have h4:i.length*n.toNat<=1000*1000:=Nat.mul_le_mul h3 (by omega)
  simp only[decide_eq_false_iff_not,Nat.not_lt]
  exact Yg h4 (by decide)
noncomputable def rJoin (K:Frag):V->List V->Hp->VK->Prop:=λx xs H Q=>∃(sep:Str) (a:Addr) (ss:List Str),x=.str sep/\xs=[.ref a]/\SqL K H a (ss.map V.str)/\JoinOk sep ss=true/\Q (.str (Txt.join sep ss)) H
theorem Zjv:∀{ss:List Str}{us:List Value},Vals (ss.map V.str) us->∃l:List (Str×Tok),us=strValues l/\l.map (·.1)=ss
 |[],_,.nil=>⟨[],rfl,rfl⟩
 |x::ss,_,.cons ⟨t,e⟩ r=>by
  obtain⟨l,h1,h2⟩:=Zjv r
  subst e
  exact⟨(x,t)::l,by rw[h1];rfl,by simp[h2]⟩
theorem Zj9 {K:Frag} (hK:X.K=K):MtR X "str.join" (rJoin K):=by
 subst hK
 intro pins s σ H x vs v us Q I rx rv h
 obtain⟨sep,a,ss,rfl,rfl,hH,hl,q⟩:=h
 obtain⟨t,rfl⟩:=rx
 obtain⟨u,rfl,ru⟩:=rv.one
 cases(show u=Value.ref a from ru)
 obtain⟨its,r,p,hz⟩:=I.list hH
 obtain⟨l,rfl,rfl⟩:=Zjv r
 exact SC.join p.isList rfl hl λt' k=>⟨.str _,H,I.tok _,⟨_,rfl⟩,q⟩
noncomputable def Its (x:Str):It:=⟨λi _=>i<x.cps.size,λi H v H'=>H'=H/\∃c,x.cps[i]?=some c/\v=.str ⟨#[c]⟩,λi _=>x.cps.size<=i⟩
theorem Zpv {P:Program}{w:World}{K:PySem.W.Frag}{tg:Expr} (it:Addr) (x:Str) (t:Tok):Turn P w K tg (Its x) [it] it (λi h=>h.IsStrIter it "str_ascii_iterator" x t i/\i<=x.cps.size) where
 mem:=by simp
 obj:=λi h st b hb=>by
  have e:b=it:=by simpa using hb
  subst e
  obtain⟨⟨o,e,c,d⟩,_⟩:=st
  exact⟨o,e,λv z=>by rw[d]at z;cases z⟩
 keep:=λi h h' st k=>by
  obtain⟨⟨o,e,r⟩,q⟩:=st
  exact⟨⟨o,k it (by simp) o e,r⟩,q⟩
 item:=by
  intro X hP hw hK hc i pins s σ H E I hf st hg
  subst hP hw hK
  obtain⟨f0,f1,f2,f3,f4,f5⟩:=hf it (by simp)
  have hg:i<x.cps.size:=hg
  have W:=Walks.strAscii (prog:=X.prog) (w:=X.w) (I.ok.hd hc) it x t
  refine W.item i s _ _ hg st.1 λv h' tk hv st' kk=>?_
  obtain⟨c,u,hc',rfl⟩:=hv
  have I1:Inv X pins σ H {s with heap:=h',toks:=tk}:=I.turned (λb o hb e=>kk b o (by simpa using hb) e) f0 f1 f3 f4 f5
  obtain⟨o,e,cl,d⟩:=id st'
  exact⟨_,rfl,Zms (s:={s with heap:=h',toks:=tk}) (n:="str_ascii_iterator") e cl d (by decide) ⟨.str ⟨#[c]⟩,H,I1,⟨u,rfl⟩,⟨rfl,c,hc',rfl⟩,⟨st',hg⟩,λb hb=>(hf b hb).1⟩⟩
 done:=by
  intro X hP hw hK hc i pins s σ H E I hf st hg
  subst hP hw hK
  obtain⟨f0,f1,f2,f3,f4,f5⟩:=hf it (by simp)
  have hg:x.cps.size<=i:=hg
  have hi:i=x.cps.size:=by have:=st.2;omega
  subst hi
  exact wpAny_pyNext_ascii_end (I.ok.hd hc) st.1 (by simp) λh' eb=>⟨rfl,I.turned (t':=s.toks) (λb o hb e=>eb b o hb e) f0 f1 f3 f4 f5⟩
 self:=λ_ _ _ _ _ st h=>wpAny_pyIter_striter_ascii st.1 h
noncomputable def iStr (tl:TE):TI:=fun σ H R=>tl σ H λx H1=>∃y:Str,x=.str y/\y.cps.all (·<128)=true/\R (Its y) H1
theorem Zpw {tg l:Expr}{tl:TE} (hl:PE X l tl):PI X tg l (iStr tl):=by
 intro pins s σ H R I h
 refine thn (hl pins s σ H _ I h) λv s1 ⟨x,H1,I1,r1,q1⟩=>?_
 obtain⟨y,e,ha,q⟩:=q1
 subst e
 obtain⟨t,rfl⟩:=r1
 refine wpAny_pyIter_ascii ha ?_
 refine⟨s1.heap.objs.size,[s1.heap.objs.size],_,_,H1,rfl,I1.kept (t':=s1.toks) λb o e=>Ym _ e,Zpv _ y t,⟨⟨_,Yw _ rfl,rfl,rfl⟩,Yn _⟩,λb hb=>?_,q⟩
 have e:b=s1.heap.objs.size:=by simpa using hb
 subst e
 exact I1.Znp (Yd _) (I1.hok.fresh (Yd _))
end
noncomputable def txt (l:List Nat):Str:=⟨l.toArray⟩
theorem Z6 (l:List Nat):(txt l).length=l.length:=by simp[txt,Str.length]
theorem Zdu:Str.ofString "("=txt [40]:=by decide +kernel
theorem ZV:Str.ofString ")"=txt [41]:=by decide +kernel
theorem Zfg (a b:List Nat):txt a++txt b=txt (a++b):=by
 show Str.append _ _=_
 simp[txt,Str.append]
theorem ZhP {a b:List Nat} (h:txt a=txt b):a=b:=by
 unfold txt at h
 injection h with h
 simpa using congrArg Array.toList h
theorem Zjw:∀(n:Nat) (a x:Array Nat),((List.replicate n x).foldl (·++·) a).toList=a.toList++(List.replicate n x.toList).flatten
 |0,a,x=>by simp
 |n+1,a,x=>by
  rw[List.replicate_succ,List.foldl_cons,Zjw n]
  simp[List.replicate_succ]
theorem ZcW (c:Nat) (n:Int):Txt.mul (txt [c]) n=txt (List.replicate n.toNat c):=by
 unfold Txt.mul
 by_cases h:n<1
 ·rw[Yc h,show n.toNat=0 by omega];rfl
 ·rw[Yb h]
  by_cases h1:n=1
  ·subst h1;rfl
  ·rw[Yb (by simp[txt,Str.length,h1])]
   unfold txt
   congr 1
   apply Array.toList_inj.mp
   rw[Zjw]
   simp
theorem Zk7:∀ls:List (List Nat),Str.join (Str.ofString "") (ls.map txt)=txt ls.flatten
 |[]=>rfl
 |[l]=>by simp[Str.join]
 |l::m::ls=>by
  show txt l++Str.ofString ""++Str.join (Str.ofString "") ((m::ls).map txt)=_
  rw[Zk7 (m::ls),show Str.ofString ""=txt [] by decide +kernel,Zfg,Zfg]
  simp
theorem Zdv (ls:List (List Nat)):Txt.join (Str.ofString "") (ls.map txt)=txt ls.flatten:=by
 show Builtin.Str.glued _ _=_
 rw[StrLaws.glued_eq_join,Zk7]
theorem ZfG {ls:List (List Nat)} (h:ls.flatten.length<=100000):JoinOk (Str.ofString "") (ls.map txt)=true:=by
 unfold JoinOk Builtin.Str.tooLong
 rw[StrLaws.joinTotal]
 have e:((ls.map txt).map (·.length)).sum=ls.flatten.length:=by
  simp[List.length_flatten,YN,Function.comp_def,Z6]
 rw[e,show(Str.ofString "").length=0 by decide +kernel]
 simp only[Nat.mul_zero,Nat.add_zero,Bool.not_eq_true',decide_eq_false_iff_not,Nat.not_lt,gt_iff_lt]
 exact Yg h (by decide)
noncomputable def ZbL (ds:List Nat):List Nat:=(ds.map λd=>List.replicate d 41++[40]).flatten
noncomputable def Zfo (ds:List Nat):List Nat:=ZbL ds++List.replicate (ds.length-ds.sum) 41
theorem Zdw:∀ds:List Nat,(ZbL ds).length=ds.sum+ds.length
 |[]=>rfl
 |d::ds=>by
  have:=Zdw ds
  unfold ZbL at this⊢
  simp only[YQ,List.flatten_cons,Yr,List.length_replicate,List.length_singleton,List.sum_cons,YE,List.length_nil,this]
  omega
theorem Zq4 {ds:List Nat}{c:Nat} (h:c∈Zfo ds):c=40\/c=41:=by
 unfold Zfo ZbL at h
 rcases Yt.mp h with h|h
 ·obtain⟨l,h1,h2⟩:=List.mem_flatten.mp h
  obtain⟨d,_,rfl⟩:=YG.mp h1
  rcases Yt.mp h2 with h2|h2
  ·exact .inr (List.eq_of_mem_replicate h2)
  ·exact .inl (by simpa using h2)
 ·exact .inr (List.eq_of_mem_replicate h)
noncomputable def ZI (p:List Nat×Nat) (c:Nat):List Nat×Nat:=if c=40 then (p.1++[p.2],0)else (p.1,p.2+1)
theorem Zl2 {α β:Type} (g:β->α->β) (b:β) {l:List α}{i:Nat}{c:α} (h:l[i]?=some c):(l.take (i+1)).foldl g b=g ((l.take i).foldl g b) c:=by
 rw[YR,h,List.foldl_append];rfl
theorem Zjx {ds:List Nat} (h:Zcu ds):∀k,k<=ds.length->ZbJ ds k+(ds.take k).sum=k
 |0,_=>by simp[ZbJ]
 |k+1,hk=>by
  have ih:=Zjx h k (by omega)
  have hd:=h k (by omega)
  rw[YR,List.sum_append]
  have e:ds[k]?=some (ds.getD k 0):=by simp[Yj,show k<ds.length by omega]
  rw[e]
  show ZbJ ds k-ds.getD k 0+1+_=_
  simp only[Option.toList_some,List.sum_singleton]
  omega
theorem ZdT {ds:List Nat} (h:Zcu ds):ds.sum<=ds.length:=by
 have:=Zjx h ds.length (Yd _)
 rw[List.take_length]at this;omega
open Classical in
theorem Zl3 (f:Nat->Int) (i:Nat):(((List.range i).filter λo=>((List.range (i-o)).map λk=>decide (f o<=f (o+k))).all id).filter λo=>decide (f i<f o)).length=ZaI f i:=by
 rw[List.filter_filter]
 unfold ZaI
 rw[List.countP_eq_length_filter]
 congr 1
 refine List.filter_congr λo ho=>?_
 have:=YA.mp ho
 have hall:(((List.range (i-o)).map λk=>decide (f o<=f (o+k))).all id)=true↔∀k,o<=k->k<i->f o<=f k:=by
  rw[List.all_eq_true]
  constructor
  ·intro h k h1 h2
   have:=h (decide (f o<=f (o+(k-o)))) (YG.mpr ⟨k-o,YA.mpr (by omega),rfl⟩)
   rw[show o+(k-o)=k by omega]at this
   simpa using this
  ·intro h b hb
   obtain⟨k,hk,rfl⟩:=YG.mp hb
   have:=YA.mp hk
   simpa using h (o+k) (by omega) (by omega)
 rw[Bool.eq_iff_iff,Bool.and_eq_true,hall,decide_eq_true_iff,decide_eq_true_iff]
 constructor
 ·rintro⟨a,b⟩
  exact⟨by omega,a,λs h1 h2=>b s (by omega) h2⟩
 ·rintro⟨_,a,b⟩
  refine⟨a,λk h1 h2=>?_⟩
  by_cases z:o=k
  ·subst z;exact Int.le_refl _
  ·exact b k (by omega) h2
theorem Zl4 {prog:Program}{w:World}{A:Around}{E Q:Value->Shared->Prop}{s:Shared}{l:Addr}{xs:Array (Int×Tok)} (hA:A.handled=none) (hl:s.heap.IsTuple l (intItems xs))
  (h:∀h' tk t',(∀b o,s.heap.get? b=some o->h'.get? b=some o)->Q (.int (preSum (numAt xs) xs.size) t') {s with heap:=h',toks:=tk}) :
  wpAny (model prog w) A (call (.builtin "sum") [.ref l]) Q E s:=by
 have hlt:l<s.heap.objs.size:=by obtain⟨o,e,_⟩:=hl;exact Yh e
 refine call_sum_walkG (wpAny_pyIter_tuple hl ?_)
 refine⟨_,_,_,_,_,_,numAt xs,rfl,Walks.tuple (A:=A.in1) hA s.heap.objs.size l (Yo hlt) (intItems xs),⟨⟨_,Yw _ rfl,rfl,rfl⟩,hl.push _⟩,λb hb=>?_,λ_ _=>intItems_at,λh' tk t' hk=>?_⟩
 ·have e:(s.heap.push {cls:=.type "tuple_iterator",data:=.fields #[.ref l,.int 0 0]}).objs.size=s.heap.objs.size+1:=Heap.size_push ..
  show b<(s.heap.push _).objs.size
  rw[e]
  simp only[Yq,List.not_mem_nil,or_false]at hb
  rcases hb with rfl|rfl
  ·exact Nat.lt_succ_self _
  ·exact YH hlt
 ·have:=h h' tk t' λb o e=>hk b o (λhm=>by
   have eb:b=s.heap.objs.size:=by simpa using hm
   exact absurd (Yh e) (by rw[eb];exact Yz _)) (Ym _ e)
  simpa[intItems]using this
noncomputable def Zpx (K:Frag):List V->Hp->VK->Prop:=λxs H Q=>∃(p:Addr) (ns:List Int),xs=[.ref p]/\SqT K H p (ns.map V.int)/\Q (.int ns.sum) H
theorem ZgS {X:Cx}{K:Frag} (hK:X.K=K) (hc:X.calm=true):Zbs X (.builtin "sum") (Zpx K):=by
 subst hK
 intro pins s σ H xs us Q I r h
 obtain⟨p,ns,rfl,hp,q⟩:=h
 obtain⟨u,rfl,ru⟩:=r.one
 cases(show u=Value.ref p from ru)
 obtain⟨its,rv,pl,hz⟩:=I.tuple hp
 obtain⟨ys,e1,e2⟩:=Zf6 rv
 refine Zl4 (xs:=ys) (I.ok.hd hc) (e1▸pl) λh' tk t' k=>⟨.int ns.sum,H,I.kept k,⟨t',?_⟩,q⟩
 congr 1
 rw[preSum_eq,<-e2,List.take_of_length_le (by simp)]
theorem Zfh (ds:List Nat):Zq ds=(ds.map λ(d:Nat)=>(d:Int)).map V.int:=by simp[Zq,Function.comp_def]
theorem Zaw:∀ds:List Nat,(ds.map λ(d:Nat)=>(d:Int)).sum=((ds.sum:Nat):Int)
 |[]=>rfl
 |d::ds=>by rw[YQ,List.sum_cons,List.sum_cons,Zaw ds];omega
section
variable {X:Cx}
noncomputable def Zpy:List V->Hp->VK->Prop:=λxs H Q=>∃a:Str,xs=[.str a]/\a.length<=sizeLine/\Q (.int (a.length:Nat)) H
theorem Zfi:Zbs X (.builtin "len") Zpy:=by
 intro pins s σ H xs us Q I r h
 obtain⟨a,rfl,hz,q⟩:=h
 obtain⟨u,rfl,t,rfl⟩:=r.one
 have hn:=Zfy
 exact P.len_str (by omega) ⟨.int _,H,I.tok _,⟨_,rfl⟩,q⟩
end
end L2
namespace L2
noncomputable def Ok:Nat->List Nat->Prop
 |_,[]=>True
 |st,d::ds=>d<=st/\Ok (st-d+1) ds
end L2
namespace L2
open PySem PySem.Spec PyProof.Rows PySem.W
end L2
namespace L2
open PySem PySem.Spec PyProof.Rows PySem.W
end L2
namespace L2
open PySem PySem.Spec PyProof.Rows
end L2
namespace L2
open PySem PySem.Spec PyProof.Rows PySem.W PySem.Calls
end L2
namespace L2
open PySem PySem.Spec PyProof.Rows PySem.W
noncomputable def sF (r:Addr) (f:Int) (t:Addr):List (Str×V):=putF "tree" (.ref t) (putF "first" (.int f) (putF "row" (.ref r) []))
end L2
namespace L2
open PySem PySem.Spec PyProof.Rows PySem.W PySem.Calls
end L2
namespace L2
open PySem PySem.Spec PyProof.Rows PySem.W
section
variable {ky:Keyed->Int}
noncomputable def Srt (ky:Keyed->Int) (l:List Keyed):Prop:=l.Pairwise (λx y=>ky x<=ky y)
variable {a b out:List Keyed}{ia ib:Nat}
noncomputable def Gd (ky:Keyed->Int) (a b res:List Keyed):Prop:=res.Perm (a++b)/\Srt ky res
variable {prog:Program}{w:World}{A:Around}{E:Value->Shared->Prop}{s:Shared}{κ:SortKind}{P:Keyed->Prop}
end
section
variable {ky:Keyed->Int}
noncomputable def kp (ky:Keyed->Int) (a:Array Keyed) (i:Nat):Int:=ky (a.getD i (Value.none,Value.none))
theorem kp_at {a:Array Keyed}{i:Nat} (h:i<a.size):kp ky a i=ky a[i]:=by unfold kp;simp[Array.getD,h]
noncomputable def SoR (ky:Keyed->Int) (a:Array Keyed) (l r:Nat):Prop:=∀i j,l<=i->i<=j->j<r->kp ky a i<=kp ky a j
structure Chg (a a':Array Keyed) (l r:Nat):Prop where
 perm:a'.Perm a
 same:∀i,i<l\/r<=i->a'[i]?=a[i]?
variable {prog:Program}{w:World}{A:Around}{E:Value->Shared->Prop}{s:Shared}{κ:SortKind}{P:Keyed->Prop}
end
section
variable {ky:Keyed->Int}
variable {a a':Array Keyed}
theorem ZmU (base:Nat):∀(m:List Keyed) (n:Nat) (a:Array Keyed),base+n+m.length<=a.size ->
  (List.foldl (λ(a:Array Keyed) (x:Keyed×Nat)=>a.setIfInBounds (base+x.2) x.1) a (m.zipIdx n)).toList=a.toList.take (base+n)++m++a.toList.drop (base+n+m.length)
 |[],n,a,h=>by simp
 |x::m,n,a,h=>by
  simp only[YE]at h
  rw[List.zipIdx_cons,List.foldl_cons,ZmU base m (n+1) _ (by simp;omega)]
  simp only[Array.toList_setIfInBounds,YE]
  have e1:(a.toList.set (base+n) x).take (base+(n+1))=a.toList.take (base+n)++[x]:=by
   rw[<-Nat.add_assoc,YR,List.take_set,List.getElem?_set]
   rw[List.set_eq_of_length_le (by simp;omega)]
   simp[show base+n<a.size by omega]
  have e2:(a.toList.set (base+n) x).drop (base+(n+1)+m.length)=a.toList.drop (base+n+(m.length+1)):=by
   rw[List.drop_set_of_lt (by omega)]
   congr 1;omega
  rw[e1,e2]
  simp
variable {prog:Program}{w:World}{A:Around}{E:Value->Shared->Prop}{s:Shared}{κ:SortKind}{P:Keyed->Prop}
theorem laid {base mid r:Nat}{res:Array Keyed} (h1:base<=mid) (h2:mid<=r) (h3:r<=a.size) (hg:Gd ky (a.extract base mid).toList (a.extract mid r).toList res.toList) :
  ∃a':Array Keyed,List.foldl (λ(a:Array Keyed) (x:Keyed×Nat)=>a.setIfInBounds (base+x.2) x.1) a res.toList.zipIdx=a'/\Chg a a' base r/\SoR ky a' base r/\∀j,base<=j->j<r->∃t,base<=t/\t<r/\kp ky a' j=kp ky a t:=by
 have hlen:res.toList.length=r-base:=by
  have:=hg.1.length_eq
  simp only[Yr,YO,Array.size_extract]at this⊢;omega
 have key:=ZmU base res.toList 0 a (by omega)
 have hb:base+0+res.toList.length=r:=by omega
 rw[hb,Nat.add_zero]at key
 refine⟨_,rfl,⟨?_,?_⟩,?_,?_⟩
 ·rw[Array.perm_iff_toList_perm,key]
  have e:a.toList=a.toList.take base++((a.extract base mid).toList++(a.extract mid r).toList)++a.toList.drop r:=by
   simp only[Array.toList_extract,List.extract_eq_drop_take]
   have:(a.toList.drop base).take (mid-base)++(a.toList.drop mid).take (r-mid)=(a.toList.drop base).take (r-base):=by
    have e2:r-base=(mid-base)+(r-mid):=by omega
    rw[e2,List.take_add,List.drop_drop]
    congr 3;omega
   rw[this]
   have e3:a.toList.drop r=(a.toList.drop base).drop (r-base):=by rw[List.drop_drop];congr 1;omega
   rw[e3,YV,Y7,Y7]
  conv=>rhs;rw[e]
  exact List.Perm.append_right _ (List.Perm.append_left _ hg.1)
 ·intro i hi
  rw[<-Array.getElem?_toList,<-Array.getElem?_toList,key]
  have hl0:(a.toList.take base).length=base:=by simp;omega
  rcases hi with hi|hi
  ·rw[YV,Y4 (by omega),List.getElem?_take_of_lt hi]
  ·rw[Y0 (by simp;simp at hlen;omega),List.getElem?_drop]
   congr 1
   simp only[Yr,hl0,hlen];omega
 all_goals
  have atm:∀j,(hj0:base<=j)->(hj:j<r)->kp ky (List.foldl (λ(a:Array Keyed) (x:Keyed×Nat)=>a.setIfInBounds (base+x.2) x.1) a res.toList.zipIdx) j=ky (res.toList[j-base]'(by omega)):=by
   intro j j1 j2
   have hl0:(a.toList.take base).length=base:=by simp;omega
   have:(List.foldl (λ(a:Array Keyed) (x:Keyed×Nat)=>a.setIfInBounds (base+x.2) x.1) a res.toList.zipIdx)[j]?=some (res.toList[j-base]'(by omega)):=by
    rw[<-Array.getElem?_toList,key,YV,Y0 (by omega),Y4 (by omega),hl0,Yf (by omega)]
   unfold kp
   rw[Array.getD_eq_getD_getElem?,this];rfl
 ·intro i j hi hij hj
  rw[atm i hi (by omega),atm j (by omega) hj]
  by_cases e:i=j
  ·subst e;exact Int.le_refl _
  ·exact List.pairwise_iff_getElem.mp hg.2 _ _ _ _ (by omega)
 ·intro j j1 j2
  rw[atm j j1 j2]
  have hm:(res.toList[j-base]'(by omega))∈(a.extract base mid).toList++(a.extract mid r).toList:=(List.Perm.mem_iff hg.1).mp (Y2 _)
  rcases Yt.mp hm with hm|hm
  ·obtain⟨t,ht,e⟩:=List.mem_iff_getElem.mp hm
   simp only[YO,Array.size_extract]at ht
   simp only[Array.getElem_toList,Array.getElem_extract]at e
   exact⟨base+t,by omega,by omega,by rw[kp_at (by omega),e,Array.getElem_toList]⟩
  ·obtain⟨t,ht,e⟩:=List.mem_iff_getElem.mp hm
   simp only[YO,Array.size_extract]at ht
   simp only[Array.getElem_toList,Array.getElem_extract]at e
   exact⟨mid+t,by omega,by omega,by rw[kp_at (by omega),e,Array.getElem_toList]⟩
end
end L2
namespace L2
open PySem PySem.Spec PyProof.Rows
end L2
namespace L2
open PySem PySem.Spec PyProof.Rows PySem.W
end L2
namespace L2
open PySem PySem.Spec PyProof.Rows PySem.W PySem.Calls
end L2
namespace L2
open PySem PySem.Spec PyProof.Rows PySem.W
theorem le1 {n:Nat}{us:List Value} (e:us.length=n+1):∃a t,us=a::t/\t.length=n:=by
 cases us with
 |nil=>cases e
 |cons a t=>exact⟨a,t,rfl,Nat.succ.inj e⟩
theorem le0 {us:List Value} (e:us.length=0):us=[]:=List.length_eq_zero_iff.mp e
end L2
namespace L2
open PySem PySem.Spec PyProof.Rows PySem.W PyProof
section
variable {X:Cx}
theorem Callee.at {P:Program}{w:World}{K:Frag}{mg:Str->Option Value}{base:Heap}{x:Str}{k:Nat}{ps:List Str}{sp:Sp} (C:Callee P w K mg base x k ps sp):mg x=some (.ref (clsAt mg x)):=by
 obtain⟨f,fd,hm,_⟩:=C
 unfold clsAt
 rw[hm]
theorem Zpz {x:Str}{k:Nat}{ps:List Str}{sp:Sp}{pos:Pos} (C:Callee X.prog X.w X.K X.mg X.base x k ps sp) (hg:Gl X x) (hd:(x==("__debug__":Str))=false:=by decide):PE X (.Name x pos) (tC (.ref (clsAt X.mg x))) :=
 Zaq hg C.at rfl hd
noncomputable def ZmV (X:Cx) (cs:List (V×Sp)):Prop:=∀c∈cs,∃f fd ps k,c.1=.ref f/\FnOk X.prog X.w X.K X.mg X.base (CXE X.prog X.w) k f fd ps c.2/\Room k X.A/\keepIn X.K (.ref f)=true/\Binds X.K fd ps []
theorem Zq5:ZmV X []:=λc h=>nomatch h
theorem Zij {x:Str}{k:Nat}{ps:List Str}{sp:Sp}{cs:List (V×Sp)} (C:Callee X.prog X.w X.K X.mg X.base x k ps sp) (hr:Room k X.A) (h:ZmV X cs):ZmV X ((.ref (clsAt X.mg x),sp)::cs):=λc hc=>by
 rcases Yq.mp hc with rfl|hc
 ·have e:=C.at
  obtain⟨f,fd,hm,hk,hb,F⟩:=C
  rw[hm]at e
  injection e with e
  injection e with e
  exact⟨f,fd,ps,k,by rw[e],F,hr,hk,hb⟩
 ·exact h c hc
noncomputable def Zik (cs:List (V×Sp)) (E:XK) (tf:TE) (t:TA):TE:=fun σ H Q=>tf σ H λx H1=>∃sp,(x,sp)∈cs/\t σ H1 λvs H2=>sp vs H2 Q E
theorem ZpA {cs:List (V×Sp)}{E:XK}{fx e:Expr}{es:List Expr}{tf:TE}{t:TA}{pos:Pos} (hc:ZmV X cs) (hx:Passes (CXE X.prog X.w) X E) (hf:PE X fx tf) (ha:PA X (e::es) t)
  (hev:eval (.Call fx (e::es) [] pos) X.env=(do callWith pos (<-eval fx X.env) [] (backTo pos (starEach (e::es) X.env)) (backToKw pos (keywordEach [] X.env))):=by rfl)
  (he:starEach (e::es) X.env=(false,eval e X.env)::starEach es X.env:=by rfl) (hpl:(backTo pos (starEach es X.env)).any (·.1)=false:=by rfl):PE X (.Call fx (e::es) [] pos) (Zik cs E tf t):=by
 intro pins s σ H Q I h
 refine Call_ (thn (hf pins s σ H _ I h) λv s1 ⟨x,H1,I1,r1,sp,hm,q1⟩=>?_) hev
 obtain⟨f,fd,ps,k,ex,F,hr,hk,hb⟩:=hc _ hm
 cases(show x=.ref f from ex)
 cases r1
 refine PySem.W.callWith_K (h₀:=X.base) I1.ok.mod.kin hk (thn (ha pos pins s1 σ H1 _ I1 q1) λus s2 ⟨vs,H2,I2,r,q⟩=>⟨I2.kIn,?_⟩) he hpl
 exact ZoT F hr hb .nil hx I2 r (by simpa using q)
end
section
variable {X:Cx}
noncomputable def ZgT:V->Option Int->Option Int->Hp->VK->Prop:=λx lo hi H Q=>∃z:Str,x=.str z/\z.length<=sizeLine/\Q (.str (Txt.slice z lo hi)) H
theorem ZeG:SlR X ZgT:=by
 intro pins s σ H x v vl vu lo hi sl Q I rx hs pl pu h
 obtain⟨z,rfl,hz,q⟩:=h
 obtain⟨t,rfl⟩:=rx
 refine⟨"str",_,F.slot_str_getitem.lookup,typeIs_str _ _ _,?_⟩
 have fin:∀t' k,EP X pins σ Q (.str (Txt.slice z lo hi) t') {s with toks:=k}:=λt' k=>⟨.str _,H,I.tok k,⟨t',rfl⟩,q⟩
 cases pl with
 |none =>
  cases pu with
  |none=>exact wpAny_getItem_str_slice (l:=none) (u:=none) (st:=none) hs rfl (post_val_or_str ⟨Yg (Txt.slice_le z _ _) hz,λt' k=>fin t' k⟩)
  |int j tj=>exact wpAny_getItem_str_slice (l:=none) (u:=some (j,tj)) (st:=none) hs rfl (post_val_or_str ⟨Yg (Txt.slice_le z _ _) hz,λt' k=>fin t' k⟩)
 |int i ti =>
  cases pu with
  |none=>exact wpAny_getItem_str_slice (l:=some (i,ti)) (u:=none) (st:=none) hs rfl (post_val_or_str ⟨Yg (Txt.slice_le z _ _) hz,λt' k=>fin t' k⟩)
  |int j tj=>exact wpAny_getItem_str_slice (l:=some (i,ti)) (u:=some (j,tj)) (st:=none) hs rfl (post_val_or_str ⟨Yg (Txt.slice_le z _ _) hz,λt' k=>fin t' k⟩)
end
end L2
namespace K10
open PySem PySem.Spec PyProof.Rows L2
open PySem.W (nsIn mg_of fnOf keepIn codeIn mg_none_of)
local macro_rules | `(tactic| walk_at "rd") => `(tactic| simp only [tIfS, tNot, Zmw, ZjJ, rI0, rI, rU, tVar, tC, tB, tIf, ZoF, Zmy, ZjW, Zmx, tNil, tAsg, tSeq, tRet, ZoJ, tOp, tUn, tAnd, tOr, ZoK, Zhj, gSub, tAug, tCB, tSl, ZlF, tLst, tTup, L2.start, tYes, gTup, Zmr, gNil, Zdp, Option.join_some, Option.join_none, rEq, rNe, ZmJ, ZmK, ZmL, ZmM, ZmN, ZmO, tBM, Bool.true_eq_false, YQ, List.map_nil, List.cons_append, List.nil_append, YE, List.length_nil, List.replicate, List.append_nil, List.set_cons_zero, List.set_cons_succ, List.getElem?_cons_zero, List.getElem?_cons_succ, Option.some.injEq, V.int.injEq, V.bl.injEq, V.ref.injEq, List.cons.injEq, and_true, true_and, exists_eq_left, exists_eq_left', exists_and_left, exists_eq, decide_eq_true_eq, Bool.not_eq_true', decide_eq_false_iff_not, cxK, and_assoc, Bool.false_eq_true, ↓reduceIte, ZmG, Zjj, ZkQ, ZoQ, ZoR, ZoO, iTup, ZiO, rIxT, ZoY, rCat, rIsi, rSum, Zpi, Zpg, Zj4, ZlK, rLen, rLof, rTof, Zik, ZgT, ZlD, rEqD, ZlO, ZlP, rIn, ZlR, Zpn, ZlV, Zpo, Zpp, rOr, rAll, rIxQ, rSlL, ZoW, ZjK, tSl, ipI, ZjR, rRep, ZmP, Zpa, ZoM, Zpu, rJoin, iStr, Zpx, V.str.injEq, Zpy, Zik, ZgT, ZlD])
noncomputable def top (i:Nat):Stmt:=PySem.Challenge.pw_dipkin_k10_what_tells_no_tree.main.body.getD i (.Pass ⟨0,0,0,0⟩)
noncomputable abbrev Zdx:Stmt:=top 14
noncomputable abbrev ZcE:Stmt:=top 15
noncomputable abbrev Zdy:Stmt:=top 16
noncomputable abbrev ZcF:Stmt:=top 17
noncomputable abbrev Zbl:Stmt:=top 18
noncomputable abbrev Zbm:Stmt:=top 19
noncomputable abbrev Z8:Stmt:=top 21
noncomputable abbrev Zan:Stmt:=top 22
noncomputable abbrev ZbM:Stmt:=top 23
noncomputable abbrev ZaA:Stmt:=top 24
noncomputable abbrev ZaR:Stmt:=top 25
noncomputable abbrev ZcG:Stmt:=top 26
noncomputable abbrev Zao:Stmt:=top 27
noncomputable abbrev ZbN:Stmt:=top 28
noncomputable abbrev ZaB:Stmt:=top 29
noncomputable abbrev ZbO:Stmt:=top 31
noncomputable abbrev Zbn:Stmt:=top 32
noncomputable abbrev ZbP:Stmt:=top 33
noncomputable abbrev ZaS:Stmt:=top 34
noncomputable abbrev Z1:Stmt:=top 35
noncomputable abbrev Z9:Stmt:=top 36
noncomputable abbrev Zbo:Stmt:=top 37
noncomputable abbrev Zbp:Stmt:=top 38
noncomputable abbrev Z2:Stmt:=top 39
noncomputable abbrev ZH:Stmt:=top 40
noncomputable abbrev Z3:Stmt:=top 41
noncomputable abbrev ZM:Stmt:=top 42
noncomputable abbrev ZaT:Stmt:=top 43
noncomputable abbrev ZaU:Stmt:=top 44
noncomputable abbrev ZaV:Stmt:=top 45
noncomputable abbrev ZaW:Stmt:=top 46
noncomputable abbrev ZW:Stmt:=top 47
noncomputable abbrev Zgh:Stmt:=top 48
structure Txt (K:PySem.W.Frag) (mg:Str->Option Value):Prop where
 b_ValueError:mg "ValueError"=none
 b_all:mg "all"=none
 b_enumerate:mg "enumerate"=none
 b_int:mg "int"=none
 b_isinstance:mg "isinstance"=none
 b_len:mg "len"=none
 b_list:mg "list"=none
 b_max:mg "max"=none
 b_min:mg "min"=none
 b_range:mg "range"=none
 b_sum:mg "sum"=none
 b_tuple:mg "tuple"=none
 c_DipError:mg "DipError"=some (.ref (clsAt mg "DipError"))
 x_DipError:PySem.W.excIn K (clsAt mg "DipError") bmV newV=true
 c_Unlike:mg "Unlike"=some (.ref (clsAt mg "Unlike"))
 x_Unlike:PySem.W.excIn K (clsAt mg "Unlike") bmV newV=true
 c_Empty:mg "Empty"=some (.ref (clsAt mg "Empty"))
 x_Empty:PySem.W.excIn K (clsAt mg "Empty") bmV newV=true
 c_TooMany:mg "TooMany"=some (.ref (clsAt mg "TooMany"))
 x_TooMany:PySem.W.excIn K (clsAt mg "TooMany") bmV newV=true
 c_NoTree:mg "NoTree"=some (.ref (clsAt mg "NoTree"))
 x_NoTree:PySem.W.excIn K (clsAt mg "NoTree") bmV newV=true
 c_NoTelling:mg "NoTelling"=some (.ref (clsAt mg "NoTelling"))
 x_NoTelling:PySem.W.excIn K (clsAt mg "NoTelling") bmV newV=true
 c_NoPlace:mg "NoPlace"=some (.ref (clsAt mg "NoPlace"))
 x_NoPlace:PySem.W.excIn K (clsAt mg "NoPlace") bmV newV=true
 c_NoNumber:mg "NoNumber"=some (.ref (clsAt mg "NoNumber"))
 x_NoNumber:PySem.W.excIn K (clsAt mg "NoNumber") bmV newV=true
 c_NoPast:mg "NoPast"=some (.ref (clsAt mg "NoPast"))
 x_NoPast:PySem.W.excIn K (clsAt mg "NoPast") bmV newV=true
 c_NoText:mg "NoText"=some (.ref (clsAt mg "NoText"))
 x_NoText:PySem.W.excIn K (clsAt mg "NoText") bmV newV=true
 c_NoLine:mg "NoLine"=some (.ref (clsAt mg "NoLine"))
 x_NoLine:PySem.W.excIn K (clsAt mg "NoLine") bmV newV=true
 ex_NoTelling:ExK K (clsAt mg "NoTelling")
 up_NoTelling:PySem.W.mroIn K (clsAt mg "NoTelling") (.ref (clsAt mg "DipError"))=some true
 is_NoTelling_DipError:PySem.W.kitOne K (.ref (clsAt mg "NoTelling")) (.ref (clsAt mg "DipError"))=some true
 is_NoTelling_Unlike:PySem.W.kitOne K (.ref (clsAt mg "NoTelling")) (.ref (clsAt mg "Unlike"))=some false
 is_NoTelling_Empty:PySem.W.kitOne K (.ref (clsAt mg "NoTelling")) (.ref (clsAt mg "Empty"))=some false
 is_NoTelling_TooMany:PySem.W.kitOne K (.ref (clsAt mg "NoTelling")) (.ref (clsAt mg "TooMany"))=some false
 is_NoTelling_NoTree:PySem.W.kitOne K (.ref (clsAt mg "NoTelling")) (.ref (clsAt mg "NoTree"))=some false
 is_NoTelling_NoTelling:PySem.W.kitOne K (.ref (clsAt mg "NoTelling")) (.ref (clsAt mg "NoTelling"))=some true
 is_NoTelling_NoPlace:PySem.W.kitOne K (.ref (clsAt mg "NoTelling")) (.ref (clsAt mg "NoPlace"))=some false
 is_NoTelling_NoNumber:PySem.W.kitOne K (.ref (clsAt mg "NoTelling")) (.ref (clsAt mg "NoNumber"))=some false
 is_NoTelling_NoPast:PySem.W.kitOne K (.ref (clsAt mg "NoTelling")) (.ref (clsAt mg "NoPast"))=some false
 is_NoTelling_NoText:PySem.W.kitOne K (.ref (clsAt mg "NoTelling")) (.ref (clsAt mg "NoText"))=some false
 is_NoTelling_NoLine:PySem.W.kitOne K (.ref (clsAt mg "NoTelling")) (.ref (clsAt mg "NoLine"))=some false
 is_NoTelling_V:PySem.W.kitOne K (.ref (clsAt mg "NoTelling")) (.type "ValueError")=some true
 m_MOST_PLACES:mg "MOST_PLACES"=some (.int 40 (tokAt mg "MOST_PLACES"))
noncomputable abbrev SpT:=PySem.W.Frag->(Str->Option Value)->Sp
noncomputable def ZmW (K:PySem.W.Frag):Sp:=λvs H Q E=>∃(a:Addr) (ns:List Int),vs=[.ref a]/\SqL K H a (ns.map V.int)/\ns.length<=63/\∀H',Q (.bl true) H'
noncomputable def cXX (mg:Str->Option Value):Value:=.ref (clsAt mg "NoTelling")
noncomputable def Zl5:List Bool:=[false,false,false,false,true,false,false,false,false,false,true,true]
noncomputable def Zda:SpT:=λK mg vs H Q E=>∃e:Addr,vs=[.ref e]/\H e=some (ZkN e (clsAt mg "NoTelling"))/\∀l H',Zh H H'->H' l=some (.lst (Zl5.map V.bl))->Q (.ref l) H'
noncomputable def Zdb:SpT:=λK mg vs H Q E=>∃e:Addr,vs=[.ref e,.int 4]/\H e=some (ZkN e (clsAt mg "NoTelling"))/\∀H',Zh H H'->Q (.bl true) H'
noncomputable def ZeH:SpT:=λK mg vs H Q E=>∃(a:Addr) (ns:List Int) (k:Int),vs=[.ref a,.int k]/\SqL K H a (ns.map V.int)/\0<=k/\k<=100/\∀p H',H p=none->Zh H H'->Zv H' p->Q (.ref p) H'
noncomputable def Zac:SpT:=λK mg vs H Q E=>∃(p:Addr) (many:Int),vs=[.ref p,.int many]/\0<many/\many<=1000000001/\Zv H p/\∀d H',0<=d->d<many->Zv H' p->Exc p H H'->Q (.int d) H'
noncomputable def ZeI:SpT:=λK mg vs H Q E=>∃(p:Addr) (most:Int),vs=[.ref p,.int most]/\0<=most/\most<=1000/\Zv H p/\∀(r:Addr) (ns:List Int) H',H r=none->(ns.length:Int)<=most->H' r=some (.lst (ns.map V.int))->Zv H' p->Exc p H H'->Q (.ref r) H'
noncomputable def Zdz:SpT:=λK mg vs H Q E=>∃(el sp:Addr) (es:List Int) (A B:List Nat) (i:Nat),vs=[.ref el,.ref sp,.int i,.int A.length]/\H el=some (.lst (es.map V.int))/\H sp=some (.lst (Zq (A++B)))/\el≠sp/\i<es.length/\(∀q∈A++B,q<es.length)/\(A++B).length<=1000 /\
 ∀H',(∀b o,b≠el->b≠sp->H b=some o->H' b=some o)->H' el=some (.lst ((Zds es A B i).map V.int))->H' sp=some (.lst (Zq (A++[i])))->Q .non H'
noncomputable def ZfH:SpT:=λK mg vs H Q E=>∃(r:Addr) (ns:List Int),vs=[.ref r]/\(SqL K H r (ns.map V.int)\/SqT K H r (ns.map V.int))/\ns.length<=1000/\∀(t:Addr) (es:List Int) H',Z4 ns es->Zh H H'->H' t=some (.tup (es.map V.int))->Q (.ref t) H'
noncomputable def ZdU (ds:List Int):Prop:=ds.length<=40/\∀p,p<ds.length->0<=nth ds p/\nth ds p<=p/\(0<nth ds p->∀k:Nat,(p:Int)-nth ds p<k->k<p->0<nth ds k/\nth ds k<=k-(p-nth ds p))
noncomputable def ZaJ (ds:List Int):Prop:=ds.length<=40/\∀p,p<ds.length->0<=nth ds p/\nth ds p<=p-(ds.take p).sum
noncomputable def ZaC:SpT:=λK mg vs H Q E=>∃(t:Addr) (ds:List Int),vs=[.ref t]/\SqT K H t (ds.map V.int)/\ds.length<=1000/\∀(b:Bool) H',Zh H H'->(b=true↔ZdU ds)->Q (.bl b) H'
noncomputable def Zbx:SpT:=λK mg vs H Q E=>∃(t:Addr) (ds:List Int),vs=[.ref t]/\SqT K H t (ds.map V.int)/\ds.length<=1000/\∀(b:Bool) H',Zh H H'->(b=true↔ZaJ ds)->Q (.bl b) H'
noncomputable def Zka (ds:List Int) (i:Nat):Prop:=∀k,k<i->0<=nth ds k/\(nth ds k).toNat<=ZbJ (ds.map Int.toNat) k
noncomputable def Zb7:SpT:=λK mg vs H Q E=>∃(t:Addr) (xs:List V),vs=[.ref t]/\H t=some (.tup xs)/\xs.length<=1000/\(xs.length<=40->Q .non H)/\(40<xs.length->∀H',Zh H H'->E (.ref (clsAt mg "NoTelling")) none H')
noncomputable def ZcX:SpT:=λK mg vs H Q E=>∃(t:Addr) (ds:List Int),vs=[.ref t]/\H t=some (.tup (ds.map V.int))/\ds.length<=1000/\(ZaJ ds->∀(u:Addr) H',Zh H H'->H' u=some (.tup ((Zii (ds.map Int.toNat)).map V.int))->Q (.ref u) H')/\(¬ ZaJ ds->∀H',Zh H H'->E (.ref (clsAt mg "NoTelling")) none H')
noncomputable def ZgU (l:List Nat):Int:=(l.count 40:Int)-(l.count 41:Int)
noncomputable def Zkb (l:List Nat):Prop:=(∀i,i<l.length->(l.getD i 0=40\/l.getD i 0=41)/\0<=ZgU (l.take (i+1)))/\ZgU l=0/\l.length<=80
noncomputable def ZaK:SpT:=λK mg vs H Q E=>∃l:List Nat,vs=[.str (txt l)]/\(∀c∈l,c<128)/\l.length<=1000/\∀b:Bool,(b=true↔Zkb l)->Q (.bl b) H
noncomputable def ZdV:SpT:=λK mg vs H Q E=>∃(p:Addr),vs=[.ref p]/\Zv H p/\∀(l:List Nat) H',(∀c∈l,c<128)->l.length=1->Zv H' p->Exc p H H'->Q (.str (txt l)) H'
noncomputable def Zby:SpT:=λK mg vs H Q E=>∃(p:Addr) (l:List Nat),vs=[.ref p,.str (txt l)]/\(∀c∈l,c<128)/\l.length<=900/\Zv H p/\∀(m:List Nat) H',(∀c∈m,c<128)->m.length<=2*l.length+1->Zv H' p->Exc p H H'->Q (.str (txt m)) H'
noncomputable def OkB (l:List Nat):Prop:=(∀c∈l,c=40\/c=41)/\ZaJ ((l.foldl ZI ([],0)).1.map λ(d:Nat)=>(d:Int))/\(l.foldl ZI ([],0)).1.sum+(l.foldl ZI ([],0)).2=(l.foldl ZI ([],0)).1.length
noncomputable def ZcH:SpT:=λK mg vs H Q E=>∃l:List Nat,vs=[.str (txt l)]/\(∀c∈l,c<128)/\l.length<=1000/\(OkB l->∀(u:Addr) H',Zh H H'->H' u=some (.tup ((Zii (l.foldl ZI ([],0)).1).map V.int))->Q (.ref u) H')/\(¬ OkB l->∀H',Zh H H'->E (.ref (clsAt mg "NoTelling")) none H')
noncomputable def ZfI:SpT:=λK mg vs H Q E=>∃(sp:Addr) (S:List Nat) (i:Nat) (d:Int),vs=[.ref sp,.int i,.int d]/\H sp=some (.lst (Zq S))/\S.Pairwise (· < ·)/\S.length<=1000/\i<=1000/\(∀A B,S=A++B->((A=[]/\d=0)\/∃A' q,A=A'++[q]/\(i:Int)-d=(q:Nat))->Q (.int A.length) H)/\(¬ (d=0\/∃q∈S,(i:Int)-d=(q:Nat))->E (.ref (clsAt mg "NoTelling")) none H)
noncomputable def Zch:SpT:=λK mg vs H Q E=>∃(t:Addr) (ds:List Int),vs=[.ref t]/\H t=some (.tup (ds.map V.int))/\ds.length<=1000/\(ZdU ds->∀(u:Addr) (ns es:List Int) H',Zh H H'->Z4 ns es->Zba ns=ds->H' u=some (.tup (es.map V.int))->Q (.ref u) H')/\(¬ ZdU ds->∀H',Zh H H'->E (.ref (clsAt mg "NoTelling")) none H')
noncomputable def Told (N:Nat) (H:Hp) (way:Int) (v:V) (D:Prop):Prop:=((way=0\/way=1)/\∃(t:Addr) (ds:List Int),v=.ref t/\H t=some (.tup (ds.map V.int))/\ds.length<=N/\(way=0->(D↔ZdU ds))/\(way=1->(D↔ZaJ ds)))\/(way=2/\∃l:List Nat,v=.str (txt l)/\(∀c∈l,c<128)/\l.length<=N/\(D↔Zkb l))
noncomputable def Alike (H:Hp) (z v:V):Prop:=(∃(t u:Addr) (ds:List Int),z=.ref u/\v=.ref t/\H u=some (.tup (ds.map V.int))/\H t=some (.tup (ds.map V.int)))\/∃l:List Nat,z=.str (txt l)/\v=.str (txt l)
noncomputable def Zdc:SpT:=λK mg vs H Q E=>∃(way:Int) (v:V) (D:Prop),vs=[.int way,v]/\Told 1000 H way v D/\(D->∀z H',Zh H H'->Alike H' z v->Q z H')/\(¬ D->∀(e:Addr) H',Zh H H'->H' e=some (ZkN e (clsAt mg "NoTelling"))->Q (.ref e) H')
noncomputable def Zdd:SpT:=λK mg vs H Q E=>∃(way:Int) (v:V) (D:Prop),vs=[.int way,v]/\Told 1000 H way v D/\∀H',Zh H H'->Q (.bl true) H'
noncomputable def Zbj:SpT:=λK mg vs H Q E=>∃(p:Addr) (way:Int) (v:V) (D:Prop),vs=[.ref p,.int way,v]/\Zv H p/\Told 200 H way v D/\∀(z:V) (D':Prop) H',Told 1000 H' way z D'->Zv H' p->Exc p H H'->Q z H'
noncomputable def Zde:SpT:=λK mg vs H Q E=>∃(r:Addr) (ns:List Int),vs=[.ref r]/\H r=some (.lst (ns.map V.int))/\ns.length<=41/\∀(u:Addr) H',Zh H H'->H' u=some (.tup (Zq (ZA (nth ns) ns.length)))->Q (.ref u) H'
noncomputable def ZbQ:SpT:=λK mg vs H Q E=>∃(t:Addr) (ds:List Nat),vs=[.ref t]/\H t=some (.tup (Zq ds))/\ds.length<=41/\Zcu ds/\∀H',Zh H H'->Q (.str (txt (Zfo ds))) H'
noncomputable def ZcI:SpT:=λK mg vs H Q E=>∃(t:Addr) (T:List Int),vs=[.ref t]/\H t=some (.tup (T.map V.int))/\T.length<=1000/\((∃ns:List Int,T.length<=40/\Z4 ns T/\∀H',Zh H H'->Q (.str (txt (Zfo (ZA (nth ns) ns.length)))) H')\/(¬ Zh9 T/\∀H',Zh H H'->E (.ref (clsAt mg "NoTree")) none H'))
noncomputable def Zfj:SpT:=λK mg vs H Q E=>∃(t:Addr) (T:List Int) (p:Nat),vs=[.ref t,.int p]/\H t=some (.tup (T.map V.int))/\T.length<=1000/\p<T.length/\∀(w:Addr) H',H w=none->Zh H H'->H' w=some (.lst ((Zgd T p).map V.int))->Q (.ref w) H'
noncomputable def ZfJ:SpT:=λK mg vs H Q E=>∃(t:Addr) (T:List Int),vs=[.ref t]/\H t=some (.tup (T.map V.int))/\T.length<=1000/\(Zh9 T->∀H',Zh H H'->Q (.bl true) H')/\(¬ Zh9 T->∀H',Zh H H'->Q (.bl false) H')
noncomputable def Zcv:SpT:=λK mg vs H Q E=>∃(t:Addr) (T:List Int),vs=[.ref t]/\H t=some (.tup (T.map V.int))/\T.length<=1000/\(Zh9 T->∀H',Zh H H'->Q .non H')/\(¬ Zh9 T->∀H',Zh H H'->E (.ref (clsAt mg "NoTree")) none H')
noncomputable def ZdW:SpT:=λK mg vs H Q E=>∃(p t:Addr) (T:List Int),vs=[.ref p,.ref t]/\Zv H p/\H t=some (.tup (T.map V.int))/\T.length<=900/\∀(t':Addr) (T':List Int) H',H' t'=some (.tup (T'.map V.int))->T'.length<=T.length+2->Zv H' p->Exc p H H'->Q (.ref t') H'
noncomputable def Zcw:SpT:=λK mg vs H Q E=>∃(t:Addr) (ns T:List Int),vs=[.ref t]/\H t=some (.tup (T.map V.int))/\Z4 ns T/\ns.length<=1000/\∀(l:Addr) H',Zh H H'->Zbd H' l ns.length (λp=>(ZcT (nth ns) p,ZbI (nth ns) ns.length p))->Q (.ref l) H'
noncomputable def ZbR:SpT:=λK mg vs H Q E=>∃(t:Addr) (ns T:List Int),vs=[.ref t]/\H t=some (.tup (T.map V.int))/\Z4 ns T/\ns.length<=1000/\∀(l:Addr) H',Zh H H'->H' l=some (.lst ((Zba ns).map V.int))->Q (.ref l) H'
noncomputable def Zci:SpT:=λK mg vs H Q E=>∃(t:Addr) (T:List Int),vs=[.ref t]/\H t=some (.tup (T.map V.int))/\T.length<=1000/\((∃ns:List Int,T.length<=40/\Z4 ns T/\∀(l:Addr) H',Zh H H'->H' l=some (.tup ((Zba ns).map V.int))->Q (.ref l) H')\/(¬ Zh9 T/\∀H',Zh H H'->E (.ref (clsAt mg "NoTree")) none H'))
noncomputable def ZcY:SpT:=λK mg vs H Q E=>∃(t:Addr) (T:List Int),vs=[.ref t]/\H t=some (.tup (T.map V.int))/\T.length<=1000/\((∃ns:List Int,T.length<=40/\Z4 ns T/\∀(u:Addr) H',Zh H H'->H' u=some (.tup (Zq (ZA (nth ns) ns.length)))->Q (.ref u) H')\/(¬ Zh9 T/\∀H',Zh H H'->E (.ref (clsAt mg "NoTree")) none H'))
noncomputable def Zbz:SpT:=λK mg vs H Q E=>∃(r:Addr) (ns:List Int),vs=[.ref r]/\H r=some (.lst (ns.map V.int))/\ns.length<=1000/\∀(t:Addr) H',Zh H H'->H' t=some (.tup ((Zba ns).map V.int))->Q (.ref t) H'
theorem Zjy {f:Nat->Int}{ds:List Int}{i:Nat} (h:∀k,k<i->ZT f k=nth ds k) {q:Nat} (hq:q<i):(∀r,q<r->r<i->f q<=f r)↔∀k:Nat,q<k->k<i->0<nth ds k/\nth ds k<=(k:Int)-q:=by
 constructor
 ·intro g k h1 h2
  rcases Zfc f k with z|⟨o,z⟩
  ·have:=z q h1;have:=g k h1 h2;omega
  ·rw[<-h k h2];unfold ZT;rw[Zbk z,Yc (by omega)]
   have z1:=z.1
   by_cases e:o<q
   ·have:=z.2.2 q e h1;have:=g k h1 h2;have:=z.2.1;omega
   ·omega
 ·intro g r
  induction r using Nat.strongRecOn with
  |_ r ih =>
   intro h1 h2
   have g1:=g r h1 h2
   rw[<-h r h2]at g1
   rcases Zfc f r with z|⟨o,z⟩
   ·unfold ZT at g1;rw[ZdQ z,Yb (by omega)]at g1;omega
   ·unfold ZT at g1;rw[Zbk z,Yc (by omega)]at g1
    have:=z.1;have:=z.2.1
    by_cases e:o=q
    ·subst e;omega
    ·have:=ih o (by omega) (by omega) (by omega);omega
noncomputable def ADAt (ds:List Int) (p:Nat):Prop:=0<=nth ds p/\nth ds p<=p/\(0<nth ds p->∀k:Nat,(p:Int)-nth ds p<k->k<p->0<nth ds k/\nth ds k<=k-(p-nth ds p))
theorem ad_iff {f:Nat->Int}{ds:List Int}{i:Nat}{S:List Nat} (h:∀k,k<i->ZT f k=nth ds k) (hS:Zcr f i S):ADAt ds i↔(nth ds i=0\/∃q∈S,(i:Int)-nth ds i=q):=by
 constructor
 ·rintro⟨a,b,c⟩
  by_cases z:nth ds i=0
  ·exact .inl z
  ·refine .inr ⟨((i:Int)-nth ds i).toNat,(hS.2 _).mpr ⟨by omega,(Zjy h (by omega)).mpr λk k1 k2=>?_⟩,by omega⟩
   have:=c (by omega) k (by omega) k2
   exact⟨this.1,by omega⟩
 ·rintro(z|⟨q,hq,z⟩)
  ·exact⟨by omega,by omega,λy=>by omega⟩
  ·obtain⟨q1,q2⟩:=(hS.2 q).mp hq
   refine⟨by omega,by omega,λy k k1 k2=>?_⟩
   have:=(Zjy h q1).mp q2 k (by omega) k2
   exact⟨this.1,by omega⟩
theorem Zil {f g:Nat->Int}{k:Nat} (h:∀q,q<=k->f q=g q):ZT f k=ZT g k:=by
 rcases Zfc f k with z|⟨o,z⟩
 ·have z2:ZbK g k:=λq hq=>by have:=z q hq;rw[h k (Yd _),h q (by omega)]at this;exact this
  unfold ZT;rw[ZdQ z,ZdQ z2]
 ·have z2:ZS g k o:=⟨z.1,by rw[<-h k (Yd _),<-h o (by have:=z.1;omega)];exact z.2.1,λr r1 r2=>by rw[<-h k (Yd _),<-h r (by omega)];exact z.2.2 r r1 r2⟩
  unfold ZT;rw[Zbk z,Zbk z2]
noncomputable def Zgi (n i:Nat) (S:List Nat) (es ds:List Int):Prop:=∃f:Nat->Int,Zcr f i S/\S.Pairwise (λq r=>f q+2 ^ (n-i)<=f r)/\(∀p,p<i->ZN f i p (es.getD p 0))/\∀k,k<i->ZT f k=nth ds k
theorem Zl6 (n:Nat) (es ds:List Int):Zgi n 0 [] es ds:=⟨λ_=>0,⟨List.Pairwise.nil,λq=>by simp⟩,List.Pairwise.nil,(λp hp=>by omega),λk hk=>by omega⟩
theorem Zgi.lt {n i:Nat}{S:List Nat}{es ds:List Int} (h:Zgi n i S es ds):∀q∈S,q<i:=by
 obtain⟨f,hS,_⟩:=h
 exact λq hq=>((hS.2 q).mp hq).1
theorem Zgi.step {n i:Nat}{A B:List Nat}{es ds:List Int} (h:Zgi n i (A++B) es ds) (hi:i<n) (hl:es.length=n) (he:es.getD i 0=-1) (hd:(A=[]/\nth ds i=0)\/∃A' q,A=A'++[q]/\(i:Int)-nth ds i=(q:Nat)):Zgi n (i+1) (A++[i]) (Zds es A B i) ds:=by
 have hlt:=h.lt
 obtain⟨f,hS,hg,hE,hD⟩:=h
 have eD:(2:Int) ^ (n-i)=2*2 ^ (n-(i+1)):=by
  rw[show n-i=n-(i+1)+1 by omega,Int.pow_succ,Int.mul_comm]
 have pD:(0:Int)<2 ^ (n-(i+1)):=Int.pow_pos (by decide)
 rw[eD]at hg
 generalize hDD:(2:Int) ^ (n-(i+1))=D at hg pD
 have hgA:=(List.pairwise_append.mp hg).1
 have hgB:=(List.pairwise_append.mp hg).2.1
 have hgX:=(List.pairwise_append.mp hg).2.2
 obtain⟨v,vA,vB⟩:∃v:Int,(∀q∈A,f q+D<=v)/\∀q∈B,v<f q:=by
  cases B with
  |cons b Br =>
   refine⟨f b-D,λq hq=>?_,λq hq=>?_⟩
   ·have:=hgX q hq b (by simp);omega
   ·rcases Yq.mp hq with rfl|hq
    ·omega
    ·have:=(YZ.mp hgB).1 q hq;omega
  |nil =>
   rcases snoc_cases A with rfl|⟨A',a,rfl⟩
   ·exact⟨0,(λq hq=>by cases hq),λq hq=>by cases hq⟩
   ·refine⟨f a+D,λq hq=>?_,λq hq=>by cases hq⟩
    rcases Yt.mp hq with hq|hq
    ·have:=(List.pairwise_append.mp hgA).2.2 q hq a (by simp);omega
    ·rw[YY.mp hq];omega
 have gi:(λq=>if q=i then v else f q) i=v:=Yc rfl
 have gq:∀q,q<i->(λq=>if q=i then v else f q) q=f q:=λq hq=>Yb (by omega)
 generalize (λq=>if q=i then v else f q)=g at gi gq
 have hag:∀q,q<i->f q=g q:=λq hq=>(gq q hq).symm
 have lA:∀q∈A,q<i:=λq hq=>hlt q (YC _ hq)
 have lB:∀q∈B,q<i:=λq hq=>hlt q (Yp _ hq)
 have sA:∀q∈A,g q<=g i:=λq hq=>by rw[gi,gq q (lA q hq)];have:=vA q hq;omega
 have sB:∀q∈B,g i<g q:=λq hq=>by rw[gi,gq q (lB q hq)];exact vB q hq
 have SS:=ZdN (f:=g) (i:=i) (A:=A) (B:=B) (ZcU hag hS) sA sB
 refine⟨g,SS.1,?_,λp hp=>?_,λk hk=>?_⟩
 ·rw[hDD]
  refine List.pairwise_append.mpr ⟨?_,List.pairwise_singleton _ _,λq hq r hr=>?_⟩
  ·refine hgA.imp_of_mem λ{q r} hq hr z=>?_
   rw[gq q (lA q hq),gq r (lA r hr)];omega
  ·rw[YY.mp hr,gi,gq q (lA q hq)];exact vA q hq
 ·have hbi:∀b,B.head?=some b->b≠i:=λb hb=>by
   have:=lB b (List.mem_of_head? hb);omega
  rw[Zfd _ _ _ _ _ (by omega) hbi]
  by_cases z:p=i
  ·subst z
   rw[Yc rfl,he];exact SS.2.1
  ·rw[Yb z]
   exact SS.2.2 p _ (by omega) (ZcV hag (by omega) (hE p (by omega)))
 ·by_cases z:k=i
  ·subst z
   rcases ZnV (ZcU hag hS) sA sB with⟨e1,e2⟩|⟨A1,q1,e1,_,e2⟩
   ·rcases hd with⟨_,d2⟩|⟨A2,q2,d1,d2⟩
    ·rw[e2,d2]
    ·rw[d1]at e1;simp at e1
   ·rcases hd with⟨d1,d2⟩|⟨A2,q2,d1,d2⟩
    ·rw[d1]at e1;simp at e1
    ·rw[d1]at e1
     have e3:=(List.append_inj' e1 rfl).2
     have e4:q2=q1:=by simpa using e3
     subst e4
     omega
  ·rw[<-Zil (f:=f) (g:=g) (k:=k) (λq hq=>hag q (by omega))]
   exact hD k (by omega)
theorem Zgi.tree {n:Nat}{S:List Nat}{es ds:List Int} (h:Zgi n n S es ds) (hl:es.length=n) (hd:ds.length=n):∃ns,Z4 ns es/\Zba ns=ds:=by
 obtain⟨f,_,_,hE,hD⟩:=h
 have ln:((List.range n).map f).length=n:=by simp
 refine⟨(List.range n).map f,⟨by rw[ln];exact hl,λp hp=>?_⟩,?_⟩
 ·rw[ln]at hp⊢
  exact ZcV (f:=f) (λq hq=>(Zbb hq).symm) hp (hE p hp)
 ·refine List.ext_getElem (by rw[Zff,ln,hd]) λk k1 k2=>?_
  have e1:(Zba ((List.range n).map f))[k]=ZT (nth ((List.range n).map f)) k:=by simp[Zba]
  have hk:k<n:=by omega
  rw[e1,<-Zil (f:=f) (λq hq=>(Zbb (show q<n by omega)).symm),hD k hk]
  simp[nth,Yj,k2]
theorem ZgV:∀(t a:List Nat) (c:Nat),((t.foldl ZI (a,c)).1=a/\c<=(t.foldl ZI (a,c)).2)\/∃d r,c<=d/\(t.foldl ZI (a,c)).1=a++d::r
 |[],a,c=>.inl ⟨rfl,Yd _⟩
 |x::t,a,c=>by
  rw[List.foldl_cons]
  unfold ZI
  by_cases z:x=40
  ·rw[Yc z]
   rcases ZgV t (a++[c]) 0 with⟨h,_⟩|⟨d,r,_,h⟩
   ·exact .inr ⟨c,[],Yd _,h⟩
   ·exact .inr ⟨c,d::r,Yd _,h.trans (by simp)⟩
  ·rw[Yb z]
   rcases ZgV t a (c+1)with⟨h,h2⟩|⟨d,r,h2,h⟩
   ·exact .inl ⟨h,Yg (Y3 c) h2⟩
   ·exact .inr ⟨d,r,by omega,h⟩
theorem Zim (a b:List Nat):ZbL (a++b)=ZbL a++ZbL b:=by simp[ZbL]
theorem ZgW:∀(t a:List Nat) (c:Nat),(∀x∈t,x=40\/x=41)->ZbL (t.foldl ZI (a,c)).1++List.replicate (t.foldl ZI (a,c)).2 41=ZbL a++List.replicate c 41++t
 |[],a,c,_=>by simp
 |x::t,a,c,h=>by
  rw[List.foldl_cons]
  rcases h x (by simp)with rfl|rfl
  ·have:=ZgW t (a++[c]) 0 λy hy=>h y (by simp[hy])
   rw[show ZI (a,c) 40=(a++[c],0)from rfl,this,Zim]
   simp[ZbL]
  ·have:=ZgW t a (c+1) λy hy=>h y (by simp[hy])
   rw[show ZI (a,c) 41=(a,c+1)from rfl,this,List.replicate_succ']
   simp
theorem Zk8:∀a:List Nat,(ZbL a).count 40=a.length/\(ZbL a).count 41=a.sum
 |[]=>by simp[ZbL]
 |d::a=>by
  obtain⟨h1,h2⟩:=Zk8 a
  have e:ZbL (d::a)=List.replicate d 41++[40]++ZbL a:=by simp[ZbL]
  rw[e]
  simp only[List.count_append,List.count_replicate,h1,h2,YE,List.sum_cons]
  constructor<;>simp<;>omega
theorem ZmX (a:List Nat) (c:Nat):ZgU (ZbL a++List.replicate c 41)=(a.length:Int)-a.sum-c:=by
 obtain⟨h1,h2⟩:=Zk8 a
 unfold ZgU
 simp only[List.count_append,List.count_replicate,h1,h2]
 simp
 omega
theorem Zgj {l:List Nat} (h:∀x∈l,x=40\/x=41):l=ZbL (l.foldl ZI ([],0)).1++List.replicate (l.foldl ZI ([],0)).2 41/\ZgU l=((l.foldl ZI ([],0)).1.length:Int)-(l.foldl ZI ([],0)).1.sum-(l.foldl ZI ([],0)).2:=by
 have e:=ZgW l [] 0 h
 have e':l=ZbL (l.foldl ZI ([],0)).1++List.replicate (l.foldl ZI ([],0)).2 41:=by rw[e];simp[ZbL]
 refine⟨e',?_⟩
 conv=>lhs;rw[e']
 exact ZmX _ _
theorem Zgk (a:List Nat):ZaJ (a.map λ(d:Nat)=>(d:Int))↔a.length<=40/\∀p,p<a.length->(a.take (p+1)).sum<=p:=by
 unfold ZaJ
 rw[Yi]
 refine and_congr_right λ_=>forall_congr' λp=>imp_congr_right λhp=>?_
 have e1:nth (a.map λ(d:Nat)=>(d:Int)) p=(a.getD p 0:Nat):=by simp[nth,Yj,hp]
 have e2:(a.take (p+1)).sum=(a.take p).sum+a.getD p 0:=by
  rw[YR,Yf hp,List.sum_append]
  simp[Yj,hp]
 rw[e1,<-List.map_take,Zaw,e2]
 omega
theorem ZmY (l:List Nat):Zkb l↔OkB l:=by
 constructor
 ·rintro⟨h1,h2,h3⟩
  have hall:∀x∈l,x=40\/x=41:=λx hx=>by
   obtain⟨i,hi,e⟩:=List.getElem_of_mem hx
   have:=(h1 i hi).1
   rw[show l.getD i 0=x by simp[Yj,hi,e]]at this
   exact this
  obtain⟨e,eb⟩:=Zgj hall
  refine⟨hall,(Zgk _).mpr ?_,by omega⟩
  have el:=congrArg List.length e
  rw[Yr,List.length_replicate,Zdw]at el
  generalize (l.foldl ZI ([],0)).1=a at e eb el
  generalize (l.foldl ZI ([],0)).2=c at e eb el
  refine⟨by omega,λp hp=>?_⟩
  have es:(a.take (p+1)).sum=(a.take p).sum+a.getD p 0:=by
   rw[YR,Yf hp,List.sum_append]
   simp[Yj,hp]
  have ea:a=a.take p++[a.getD p 0]++a.drop (p+1):=by
   have:[a.getD p 0]=a[p]?.toList:=by simp[Yj,hp]
   rw[this,<-YR,Y7]
  have hpl:(a.take p).length=p:=by simp;omega
  have hb:=ZmX (a.take p) (a.getD p 0)
  rw[hpl]at hb
  have hpre:∃r,l=(ZbL (a.take p)++List.replicate (a.getD p 0) 41)++40::r:=by
   refine⟨ZbL (a.drop (p+1))++List.replicate c 41,?_⟩
   rw[e]
   conv=>lhs;rw[ea]
   rw[Zim,Zim]
   simp[ZbL]
  obtain⟨r,hr⟩:=hpre
  generalize hj:ZbL (a.take p)++List.replicate (a.getD p 0) 41=m at hb hr
  cases hm:m.length with
  |zero =>
   have:m=[]:=List.eq_nil_of_length_eq_zero hm
   rw[this,show ZgU []=0 from rfl]at hb
   omega
  |succ j =>
   have h4:=(h1 j (by rw[hr];simp;omega)).2
   have h5:l.take (j+1)=m:=by rw[<-hm,hr,List.take_left]
   rw[h5]at h4
   omega
 ·rintro⟨h1,h2,h3⟩
  obtain⟨h4,h5⟩:=(Zgk _).mp h2
  obtain⟨e,eb⟩:=Zgj h1
  have el:=congrArg List.length e
  rw[Yr,List.length_replicate,Zdw]at el
  refine⟨λi hi=>⟨h1 _ (by rw[show l.getD i 0=l[i] by simp[Yj,hi]];exact Y2 hi),?_⟩,by omega,by omega⟩
  have hp1:∀x∈l.take (i+1),x=40\/x=41:=λx hx=>h1 x (List.mem_of_mem_take hx)
  rw[(Zgj hp1).2]
  have hs:l.foldl ZI ([],0)=(l.drop (i+1)).foldl ZI ((l.take (i+1)).foldl ZI ([],0)):=by
   rw[<-List.foldl_append,Y7]
  have hm:=ZgV (l.drop (i+1)) ((l.take (i+1)).foldl ZI ([],0)).1 ((l.take (i+1)).foldl ZI ([],0)).2
  rw[show(((l.take (i+1)).foldl ZI ([],0)).1,((l.take (i+1)).foldl ZI ([],0)).2)=(l.take (i+1)).foldl ZI ([],0)from rfl,<-hs]at hm
  generalize l.foldl ZI ([],0)=ac at hm h3 h4 h5
  generalize (l.take (i+1)).foldl ZI ([],0)=bd at hm
  rcases hm with⟨m1,m2⟩|⟨d,r,m1,m2⟩
  ·rw[<-m1];omega
  ·have:=h5 bd.1.length (by rw[m2];simp)
   rw[m2,List.take_length_add_append,List.sum_append]at this
   simp at this
   omega
theorem ok_bra {l:List Nat} (h:OkB l):Zfo (l.foldl ZI ([],0)).1=l:=by
 obtain⟨h1,h2,h3⟩:=h
 have e:=(Zgj h1).1
 conv=>rhs;rw[e]
 unfold Zfo
 rw[show(l.foldl ZI ([],0)).1.length-(l.foldl ZI ([],0)).1.sum=(l.foldl ZI ([],0)).2 by omega]
section
variable {P:Program}{w:World}{K:PySem.W.Frag}{mg:Str->Option Value}{base:Heap}
theorem ZnY:FnScope ["elders","spine","place","keep"] ["elders","spine","place","keep"] (defScope Zdx):=⟨rfl,rfl,rfl,by decide +kernel,rfl,by decide +kernel,by decide +kernel⟩
theorem ZbS:FnScope ["row","elders","spine","place","keep"] ["row"] (defScope ZcE):=⟨rfl,rfl,rfl,by decide +kernel,rfl,by decide +kernel,by decide +kernel⟩
theorem Zfk:FnScope ["tree","place","way","at"] ["tree","place"] (defScope Zdy):=⟨rfl,rfl,rfl,by decide +kernel,rfl,by decide +kernel,by decide +kernel⟩
theorem Zin:FnScope ["tree","depths"] ["tree"] (defScope ZcF):=⟨rfl,rfl,rfl,by decide +kernel,rfl,by decide +kernel,by decide +kernel⟩
theorem Zkc:FnScope ["tree"] ["tree"] (defScope Zbl):=⟨rfl,rfl,rfl,by decide +kernel,rfl,by decide +kernel,by decide +kernel⟩
theorem ZaX:FnScope ["tree","fences","place","way","ahead","behind"] ["tree"] (defScope Zbm):=⟨rfl,rfl,rfl,by decide +kernel,rfl,by decide +kernel,by decide +kernel⟩
theorem ZgX:FnScope ["tree"] ["tree"] (defScope Z8):=⟨rfl,rfl,rfl,by decide +kernel,rfl,by decide +kernel,by decide +kernel⟩
theorem ZhC:FnScope ["tree"] ["tree"] (defScope Zan):=⟨rfl,rfl,rfl,by decide +kernel,rfl,by decide +kernel,by decide +kernel⟩
theorem ZcZ:FnScope ["tree","drops","ahead","behind"] ["tree"] (defScope ZbM):=⟨rfl,rfl,rfl,by decide +kernel,rfl,by decide +kernel,by decide +kernel⟩
theorem ZcJ:FnScope ["tree","drops","still"] ["tree"] (defScope ZaA):=⟨rfl,rfl,rfl,by decide +kernel,rfl,by decide +kernel,by decide +kernel⟩
theorem ZiU:FnScope ["told"] ["told"] (defScope ZaR):=⟨rfl,rfl,rfl,by decide +kernel,rfl,by decide +kernel,by decide +kernel⟩
theorem Zl7:FnScope ["spine","place","distance"] ["spine","place","distance"] (defScope ZcG):=⟨rfl,rfl,rfl,by decide +kernel,rfl,by decide +kernel,by decide +kernel⟩
theorem Zax:FnScope ["told","elders","spine","place","distance"] ["told"] (defScope Zao):=⟨rfl,rfl,rfl,by decide +kernel,rfl,by decide +kernel,by decide +kernel⟩
theorem Zce:FnScope ["told","elders","spine","place","drop"] ["told"] (defScope ZbN):=⟨rfl,rfl,rfl,by decide +kernel,rfl,by decide +kernel,by decide +kernel⟩
theorem Z5:FnScope ["text","drops","closed","sign","tree"] ["text"] (defScope ZaB):=⟨rfl,rfl,rfl,by decide +kernel,rfl,by decide +kernel,by decide +kernel⟩
theorem Zap:FnScope ["script","k","cell","great","one","turn"] ["script","k"] (defScope ZbO):=⟨rfl,rfl,rfl,by decide +kernel,rfl,by decide +kernel,by decide +kernel⟩
theorem Zgl:FnScope ["pot","many","digit"] ["pot","many"] (defScope Zbn):=⟨rfl,rfl,rfl,by decide +kernel,rfl,by decide +kernel,by decide +kernel⟩
theorem Z0:FnScope ["pot","most","many","way","row","last","k","far"] ["pot","most"] (defScope ZbP):=⟨rfl,rfl,rfl,by decide +kernel,rfl,by decide +kernel,by decide +kernel⟩
theorem Zb8:FnScope ["row","found","place","still"] ["row"] (defScope ZaS):=⟨rfl,rfl,rfl,by decide +kernel,rfl,by decide +kernel,by decide +kernel⟩
theorem ZaF:FnScope ["row","found","place","ahead"] ["row"] (defScope Z1):=⟨rfl,rfl,rfl,by decide +kernel,rfl,by decide +kernel,by decide +kernel⟩
theorem ZdA:FnScope ["drops","text"] ["drops"] (defScope Z9):=⟨rfl,rfl,rfl,by decide +kernel,rfl,by decide +kernel,by decide +kernel⟩
theorem Zad:FnScope ["pot","told","some","way","at","other","number","kept"] ["pot","told"] (defScope Zbo):=⟨rfl,rfl,rfl,by decide +kernel,rfl,by decide +kernel,by decide +kernel⟩
theorem ZdX:FnScope ["pot","some","sign"] ["pot"] (defScope Zbp):=⟨rfl,rfl,rfl,by decide +kernel,rfl,by decide +kernel,by decide +kernel⟩
theorem ZaG:FnScope ["pot","text","way","at","sign"] ["pot","text"] (defScope Z2):=⟨rfl,rfl,rfl,by decide +kernel,rfl,by decide +kernel,by decide +kernel⟩
theorem ZO:FnScope ["told","place","far","first","between"] ["told"] (defScope ZH):=⟨rfl,rfl,rfl,by decide +kernel,rfl,by decide +kernel,by decide +kernel⟩
theorem Zgm:FnScope ["told"] ["told"] (defScope Z3):=⟨rfl,rfl,rfl,by decide +kernel,rfl,by decide +kernel,by decide +kernel⟩
theorem Zae:FnScope ["text","opened","sign"] ["text"] (defScope ZM):=⟨rfl,rfl,rfl,by decide +kernel,rfl,by decide +kernel,by decide +kernel⟩
theorem Zb9:FnScope ["e","some"] ["e"] (defScope ZaT):=⟨rfl,rfl,rfl,by decide +kernel,rfl,by decide +kernel,by decide +kernel⟩
theorem ZiV:FnScope ["e","at"] ["e","at"] (defScope ZaU):=⟨rfl,rfl,rfl,by decide +kernel,rfl,by decide +kernel,by decide +kernel⟩
theorem Zai:FnScope ["way","told","found","e"] ["way","told"] (defScope ZaV):=⟨rfl,rfl,rfl,by decide +kernel,rfl,by decide +kernel,by decide +kernel⟩
theorem Zdf:FnScope ["way","told","due","found"] ["way","told"] (defScope ZaW):=⟨rfl,rfl,rfl,by decide +kernel,rfl,by decide +kernel,by decide +kernel⟩
theorem Zas:FnScope ["pot","way","told","bend"] ["pot","way","told"] (defScope ZW):=⟨rfl,rfl,rfl,by decide +kernel,rfl,by decide +kernel,by decide +kernel⟩
theorem ZcK:FnScope ["script","k","pot","row","drops","tellings","many","drawn","text","way","turn"] ["script"] (defScope Zgh):=⟨rfl,rfl,rfl,by decide +kernel,rfl,by decide +kernel,by decide +kernel⟩
theorem ZiW {f:Addr}{fd:FuncData} (F:Fun K "_law_kinds" "_law_kinds" ZaT f fd) (T:Txt K mg):FnOk P w K mg base (CXE P w) 1 f fd ["e"] (Zda K mg):=by
 refine F.okX Zb9 (λvs H Q E h=>?_) (λcdv A outer s H vs Q E hr h=>?_)
 ·obtain⟨e,rfl,_⟩:=h;rfl
 obtain⟨e,rfl,he,k1⟩:=h
 refine⟨_,(Zc (Zk (i:=1) Zb9.nd rfl (Or.inl rfl) (ZJ (Za (Zg (ZP (K:=K) rfl) rfl T.b_isinstance Zu (Za (pv 0) (Za (Zaq (v:=.ref (clsAt mg "Unlike")) rfl T.c_Unlike rfl) Zb))) (Za (Zg (ZP (K:=K) rfl) rfl T.b_isinstance Zu (Za (pv 0) (Za (Zaq (v:=.ref (clsAt mg "Empty")) rfl T.c_Empty rfl) Zb))) (Za (Zg (ZP (K:=K) rfl) rfl T.b_isinstance Zu (Za (pv 0) (Za (Zaq (v:=.ref (clsAt mg "TooMany")) rfl T.c_TooMany rfl) Zb))) (Za (Zg (ZP (K:=K) rfl) rfl T.b_isinstance Zu (Za (pv 0) (Za (Zaq (v:=.ref (clsAt mg "NoTree")) rfl T.c_NoTree rfl) Zb))) Zb))))))
   (Zc (Zk (i:=1) Zb9.nd rfl (Or.inl rfl) (Zl Zh0 (pv 1) (ZJ (Za (Zg (ZP (K:=K) rfl) rfl T.b_isinstance Zu (Za (pv 0) (Za (Zaq (v:=.ref (clsAt mg "NoTelling")) rfl T.c_NoTelling rfl) Zb))) (Za (Zg (ZP (K:=K) rfl) rfl T.b_isinstance Zu (Za (pv 0) (Za (Zaq (v:=.ref (clsAt mg "NoPlace")) rfl T.c_NoPlace rfl) Zb))) (Za (Zg (ZP (K:=K) rfl) rfl T.b_isinstance Zu (Za (pv 0) (Za (Zaq (v:=.ref (clsAt mg "NoNumber")) rfl T.c_NoNumber rfl) Zb))) Zb))))))
   (Zc (Zk (i:=1) Zb9.nd rfl (Or.inl rfl) (Zl Zh0 (pv 1) (ZJ (Za (Zg (ZP (K:=K) rfl) rfl T.b_isinstance Zu (Za (pv 0) (Za (Zaq (v:=.ref (clsAt mg "NoPast")) rfl T.c_NoPast rfl) Zb))) (Za (Zg (ZP (K:=K) rfl) rfl T.b_isinstance Zu (Za (pv 0) (Za (Zaq (v:=.ref (clsAt mg "NoText")) rfl T.c_NoText rfl) Zb))) (Za (Zg (ZP (K:=K) rfl) rfl T.b_isinstance Zu (Za (pv 0) (Za (Zaq (v:=.ref (clsAt mg "NoLine")) rfl T.c_NoLine rfl) Zb))) Zb))))))
   (Zf (Zt (Zl Zh0 (pv 1) (ZJ (Za (Zg (ZP (K:=K) rfl) rfl T.b_isinstance Zu (Za (pv 0) (Za (Zaq (v:=.ref (clsAt mg "DipError")) rfl T.c_DipError rfl) Zb))) (Za (Zg (ZP (K:=K) rfl) rfl T.b_isinstance Zu (Za (pv 0) (Za (ZhJ (v:=.ty "ValueError") rfl T.b_ValueError Zfr rfl) Zb))) Zb))))))))),?_⟩
 walk_at "rd"
 have Z:=T.ex_NoTelling
 refine⟨_,tyE he Z T.is_NoTelling_Unlike,_,tyE he Z T.is_NoTelling_Empty,_,tyE he Z T.is_NoTelling_TooMany,_,tyE he Z T.is_NoTelling_NoTree,by decide,λp1 h1=>?_⟩
 have s1:=(Zh.refl H).upd (o:=.lst [V.bl false,V.bl false,V.bl false,V.bl false]) h1
 refine⟨_,tyE (s1 _ _ he) Z T.is_NoTelling_NoTelling,_,tyE (s1 _ _ he) Z T.is_NoTelling_NoPlace,_,tyE (s1 _ _ he) Z T.is_NoTelling_NoNumber,by decide,λp2 h2=>⟨_,((Zh.refl _).ZC h2) _ _ Zd,_,Zd,by decide,λp3 h3=>?_⟩⟩
 have s3:=(s1.ZC h2).ZC (o:=.lst ([V.bl false,V.bl false,V.bl false,V.bl false]++[V.bl true,V.bl false,V.bl false])) h3
 refine⟨_,tyE (s3 _ _ he) Z T.is_NoTelling_NoPast,_,tyE (s3 _ _ he) Z T.is_NoTelling_NoText,_,tyE (s3 _ _ he) Z T.is_NoTelling_NoLine,by decide,λp4 h4=>⟨_,((Zh.refl _).ZC h4) _ _ Zd,_,Zd,by decide,λp5 h5=>?_⟩⟩
 have s5:=(s3.ZC h4).ZC (o:=.lst ([V.bl false,V.bl false,V.bl false,V.bl false]++[V.bl true,V.bl false,V.bl false]++[V.bl false,V.bl false,V.bl false])) h5
 refine⟨_,tyE (s5 _ _ he) Z T.is_NoTelling_DipError,_,tyE (s5 _ _ he) Z T.is_NoTelling_V,by decide,λp6 h6=>⟨_,((Zh.refl _).ZC h6) _ _ Zd,_,Zd,by decide,λp7 h7=>k1 p7 _ ((s5.ZC h6).ZC h7) (by rw[Zd];rfl)⟩⟩
theorem ZiX {f:Addr}{fd:FuncData} (F:Fun K "_law_alone" "_law_alone" ZaU f fd) (ZdZ:Callee P w K mg base "_law_kinds" 1 ["e"] (Zda K mg)) (T:Txt K mg):FnOk P w K mg base (CXE P w) 2 f fd ["e","at"] (Zdb K mg):=by
 refine F.okX ZiV (λvs H Q E h=>?_) (λcdv A outer s H vs Q E hr h=>?_)
 ·obtain⟨e,rfl,_⟩:=h;rfl
 obtain⟨e,rfl,he,k1⟩:=h
 refine⟨_,(Zc (ZE (Zn op_isN (pv 0) ZoE (Zp _)) (Zf (Zt Zdo)) Zw)
   (Zf (Zt (Zbt (Zj3 (K:=K) rfl hr) (Zi ZdZ (hr.mono (by decide)) rfl Zy (Za (pv 0) Zb)) (Zl Zh0 (Zav ["k","at"] [none,some 1] rfl rfl rfl (ZF rfl T.b_range (Za Ze Zb)) (λ_ _ _ _ _=>(Zr (i:=0) (show(["k","at"]:List Str).Nodup from by decide +kernel) rfl (Or.inl rfl))) (λ_ _ _ _ _=>Za9) (λ_ _ _ _ _=>(Zbt ZaE (pv 0) (pv 1) (Zp _))) ZG) (ZJ (Za Zdo (Za Zdo Zb)))) (Zp _))))),?_⟩
 walk_at "rd"
 refine ZR (λz=>nomatch z) λ_=>⟨e,rfl,he,λl H1 s1 h1=>⟨by decide,by decide,?_⟩⟩
 refine comp_map (n:=10) (λj=>V.bl (decide (0+(j:Int)=4))) (by decide) (λj Hx s hj=>hj) (λHx s=>Yd _) ?_ ?_
 ·rintro j x Hx Hy hj s ⟨rfl,rfl⟩
  walk_at "rd"
  exact CW.next hj rfl s
 ·intro l2 Hx s hl2
  refine⟨by decide,λp3 h3=>⟨l2,rfl,_,((Zh.refl _).ZC h3) _ _ Zd,_,Zd,by decide,λp4 h4=>⟨l,rfl,_,ZhN (n:=2) Zph _ _ Zl5 Zl5 (Zjl (SqL.of ((((s.ZC hl2).ZC h3).ZC h4) _ _ h1))) (Zjl (SqL.of (by rw[Zd];rfl))),?_⟩⟩⟩
  have:=k1 _ (((((s1.trans s).ZC hl2).ZC h3).ZC (o:=.lst ((List.range 10).map (λ(j:Nat)=>V.bl (decide (0+(j:Int)=4)))++[V.bl true,V.bl true])) h4))
  simpa using this
theorem Zk9 {f:Addr}{fd:FuncData} (F:Fun K "_law_pot" "_law_pot" ZbO f fd) (T:Txt K mg):FnOk P w K mg base (CXE P w) 1 f fd ["script","k"] (ZeH K mg):=by
 refine F.okX Zap (λvs H Q E h=>?_) (λcdv A outer s H vs Q E hr h=>?_)
 ·obtain⟨a,ns,k,rfl,_⟩:=h;rfl
 obtain⟨a,ns,k,rfl,hS,h0,h1,k1⟩:=h
 refine⟨_,(Zc (Zk (i:=2) Zap.nd rfl (Or.inl rfl) Ze)
   (Zc (ZE (Zn Zep (pv 1) (Zg (Zo (K:=K) rfl) rfl T.b_len Yk (Za (pv 0) Zb)) (Zp _)) (Zf (Zk (i:=2) Zap.nd rfl (Or.inl rfl) (ZZ ZQ (pv 0) (pv 1) (λ_ _=>rfl)))) Zw)
   (Zc (ZE (Zn op_ge (pv 2) (Zl Zc8 Ze Ze) (Zp _)) (Zf (Zt (ZJ (Za (Zl ZgK (Zl Zar (pv 2) (Zl Zc8 Ze Ze)) (Zl Zbc (Zl Zbc (Zl Zbc (Zl Zc8 Ze Ze) (Zl Zc8 Ze Ze)) (Zl Zc8 Ze Ze)) (Zl Zc8 Ze Ze))) Zb)))) Zw)
   (Zc (Zk (i:=3) Zap.nd rfl (Or.inl rfl) Ze)
   (Zc (Zk (i:=4) Zap.nd rfl (Or.inl rfl) (Zl ZY (Zl ZY (Zl ZgK (pv 2) Ze) (Zl Zbc Ze (pv 1))) Ze))
   (Zc (Zbh (Za4 PassesOwn.never rfl (ZF rfl T.b_range (Za Ze Zb)) (Zr (i:=5) Zap.nd rfl (Or.inl rfl)) (Zc (Zk (i:=4) Zap.nd rfl (Or.inl rfl) (Zl ZgK (Zl ZY (Zl ZY (Zl Zbc (pv 4) Ze) (Zl Zbc Ze (pv 5))) Ze) Ze))
   (Zf (Zk (i:=3) Zap.nd rfl (Or.inl rfl) (Zl ZY (Zl Zbc (pv 3) Ze) (Zl ZgK (Zl ZjI (Zl ZgK (Zl Zbc (pv 4) (pv 4)) Ze) Ze) Ze)))))))
   (Zf (Zt (ZJ (Za (pv 3) Zb)))))))))),?_⟩
 simp only[tIfS,tNot,Zmw,ZjJ,rI0,rI,rU,tVar,tC,tB,tIf,ZoF,Zmy,ZjW,Zmx,tNil,tAsg,tSeq,tRet,ZoJ,tOp,tUn,tAnd,tOr,ZoK,Zhj,gSub,tAug,tCB,tSl,ZlF,tLst,tTup,L2.start,tYes,gTup,Zmr,gNil,Zdp,Option.join_some,Option.join_none,rEq,rNe,ZmJ,ZmK,ZmL,ZmM,ZmN,ZmO,tBM,Bool.true_eq_false,YQ,List.map_nil,List.cons_append,List.nil_append,YE,List.length_nil,List.replicate,List.append_nil,List.set_cons_zero,List.set_cons_succ,List.getElem?_cons_zero,List.getElem?_cons_succ,Option.some.injEq,V.int.injEq,V.bl.injEq,V.ref.injEq,List.cons.injEq,and_true,true_and,exists_eq_left,exists_eq_left',exists_and_left,exists_eq,decide_eq_true_eq,Bool.not_eq_true',decide_eq_false_iff_not,cxK,and_assoc,Bool.false_eq_true,↓reduceIte,ZmG,Zjj,ZkQ,ZoQ,ZoR,ZoO,iTup,ZiO,rIxT,ZoY,rCat,rIsi,rSum,Zpi,Zpg,Zj4,ZlK,rLen,rLof,rTof,Zik,ZgT,ZlD,rEqD,ZlO,ZlP,rIn,ZlR,Zpn,ZlV,Zpo,Zpp,rOr,rAll,rIxQ,rSlL,ZoW,ZjK,tSl,ipI,ZjR,rRep,ZmP,Zpa,ZoM,Zpu,rJoin,iStr,Zpx,V.str.injEq,Zpy,Zik,ZgT,ZlD,cp18,cp60,qm1,qm2,qm3,qm4]
 have fin:∀g:Int,0<=g->∀p,H p=none->Q (V.ref p) (upd H p (.lst [V.int g])):=λg hg p hp=>k1 p _ hp ((Zh.refl H).upd hp) ⟨_,Zd,hg⟩
 refine⟨_,.inl hS,ZR (λhk=>?_) (λhk=>?_)⟩
 case' refine_1 =>
  obtain⟨j,hj0⟩:=YM h0
  have hj:j<(ns.map V.int).length:=by omega
  refine⟨_,hS,_,Zh1 hj0 hj,ns[j]'(by simpa using hj),by simp,ZR (λ_=>⟨ns[j]'(by simpa using hj),by simp,by decide,fin _ (Int.emod_nonneg _ (by decide +kernel))⟩) (λ_=>⟨ns[j]'(by simpa using hj),by simp,by decide,Zhm (by decide) (by decide),by decide,by decide,?_⟩)⟩
 case' refine_2 =>
  refine ZR (λz=>absurd z (by decide)) (λ_=>⟨by decide,Zhm (by decide) (by decide),by decide,by decide,?_⟩)
 all_goals
  refine Zay (λi σ H'=>∃v2 g o v5,σ=[some (.ref a),some (.int k),v2,some (.int g),some (.int o),v5]/\0<=g/\H'=H) ⟨_,0,_,none,rfl,Int.le_refl _,rfl⟩ ?_ ?_
  ·rintro i σ H' hi ⟨v2,g,o,v5,rfl,hg,rfl⟩
   walk_at "rd"
   have b1:=Int.emod_nonneg (o*48271+7919*(0+(i:Int))+104729) (b:=2147483647) (by decide)
   have b2:=Int.emod_lt_of_pos (o*48271+7919*(0+(i:Int))+104729) (b:=2147483647) (by decide)
   refine⟨mul_r (by decide) (by decide),Zhm (by decide) (by decide),by decide,mul_r (by decide) (by decide),Zhm (by omega) (by omega),by decide,⟨by decide,by decide⟩,by decide,?_⟩
   have b3:=Int.emod_nonneg ((o*48271+7919*(0+(i:Int))+104729) % 2147483647*((o*48271+7919*(0+(i:Int))+104729) % 2147483647) % 2147483629 / 128) (b:=1048576) (by decide)
   have b4:=Int.mul_nonneg hg (show(0:Int)<=1048576 by decide)
   omega
  ·rintro σ H' ⟨v2,g,o,v5,rfl,hg,rfl⟩
   walk_at "rd"
   exact⟨by decide,fin g hg⟩
theorem Zkd {f:Addr}{fd:FuncData} (F:Fun K "_law_take" "_law_take" Zbn f fd) (T:Txt K mg):FnOk P w K mg base (CXE P w) 1 f fd ["pot","many"] (Zac K mg):=by
 refine F.okX Zgl (λvs H Q E h=>?_) (λcdv A outer s H vs Q E hr h=>?_)
 ·obtain⟨p,many,rfl,_⟩:=h;rfl
 obtain⟨p,many,rfl,h0,h1,⟨x,hp,hx⟩,k1⟩:=h
 refine⟨_,(Zc (Zk (i:=2) Zgl.nd rfl (Or.inl rfl) (Zl ZgK (ZZ ZQ (pv 0) Ze (λ_ _=>rfl)) (pv 1)))
   (Zc (Zfx (Zl ZjI (ZZ ZQ (pv 0) Ze (λ_ _=>rfl)) (pv 1)) (ZhV (pv 0) Ze set_list (λ_=>rfl)))
   (Zf (Zt (pv 2))))),?_⟩
 walk_at "rd"
 refine⟨_,SqL.of hp,_,rfl,_,rfl,h0,?_⟩
 refine⟨_,SqL.of hp,_,rfl,_,rfl,⟨h0,by omega⟩,_,hp,_,rfl,?_⟩
 exact k1 _ _ (Int.emod_nonneg _ (by omega)) (Int.emod_lt_of_pos _ h0) ⟨_,Zd,Int.ediv_nonneg hx (by omega)⟩ Exc.upd
theorem Zla {f:Addr}{fd:FuncData} (F:Fun K "_law_row" "_law_row" ZbP f fd) (Zj:Callee P w K mg base "_law_take" 1 ["pot","many"] (Zac K mg)) (T:Txt K mg):FnOk P w K mg base (CXE P w) 2 f fd ["pot","most"] (ZeI K mg):=by
 refine F.okX Z0 (λvs H Q E h=>?_) (λcdv A outer s H vs Q E hr h=>?_)
 ·obtain⟨p,most,rfl,_⟩:=h;rfl
 obtain⟨p,most,rfl,h0,h1,hP,k1⟩:=h
 refine⟨_,(Zc (Zk (i:=2) Z0.nd rfl (Or.inl rfl) (Zi Zj (hr.mono (by decide)) rfl Zy (Za (pv 0) (Za (Zl ZY (pv 1) Ze) Zb))))
   (Zc (ZE (Zn ZaE (Zi Zj (hr.mono (by decide)) rfl Zy (Za (pv 0) (Za Ze Zb))) Ze (Zp _)) (Zf (Zk (i:=2) Z0.nd rfl (Or.inl rfl) (pv 1))) Zw)
   (Zc (Zk (i:=3) Z0.nd rfl (Or.inl rfl) (Zi Zj (hr.mono (by decide)) rfl Zy (Za (pv 0) (Za Ze Zb))))
   (Zc (Zk (i:=4) Z0.nd rfl (Or.inl rfl) (ZJ Zb))
   (Zc (Zk (i:=5) Z0.nd rfl (Or.inl rfl) Ze)
   (Zc (Zbh (Za4 PassesOwn.never rfl (ZF rfl T.b_range (Za (pv 2) Zb)) (Zr (i:=6) Z0.nd rfl (Or.inl rfl)) (Zc (Zk (i:=7) Z0.nd rfl (Or.inl rfl) (Zl ZY (Zl Zc8 Ze Ze) (Zi Zj (hr.mono (by decide)) rfl Zy (Za (pv 0) (Za (Zl ZY Ze (Zl Zbc (Zl Zc8 Ze Ze) (ZK Zfb rfl T.b_int Zj0 (Za (Zbt ZaE (pv 3) Ze (Zp _)) Zb)))) Zb)))))
   (Zf (ZE (Zn ZaE (pv 3) Ze (Zp _)) (Zf (ZU (Zcc PySem.F.plainAttrs_list PySem.F.slot_list_insert PySem.F.type_list_insert Zjk (pv 4) (Za (Zi Zj (hr.mono (by decide)) rfl Zy (Za (pv 0) (Za (Zl ZY (pv 6) Ze) Zb))) (Za (pv 6) Zb))))) (Zf (ZE (Zn ZaE (pv 3) Ze (Zp _)) (Zc (Zk (i:=5) Z0.nd rfl (Or.inl rfl) (Zl Zar (Zl ZY (pv 5) (Zi Zj (hr.mono (by decide)) rfl Zy (Za (pv 0) (Za Ze Zb)))) Ze))
   (Zf (ZU (Zcc PySem.F.plainAttrs_list PySem.F.slot_list_append PySem.F.type_list_append Zam (pv 4) (Za (pv 5) Zb))))) (Zf (ZE (Zn ZaE (pv 3) Ze (Zp _)) (Zc (Zk (i:=5) Z0.nd rfl (Or.inl rfl) (Zl ZY (Zl Zar (pv 5) Ze) (Zl Zbc Ze (ZK Zfb rfl T.b_int Zj0 (Za (Zbt ZaE (Zi Zj (hr.mono (by decide)) rfl Zy (Za (pv 0) (Za Ze Zb))) Ze (Zp _)) Zb)))))
   (Zf (ZU (Zcc PySem.F.plainAttrs_list PySem.F.slot_list_append PySem.F.type_list_append Zam (pv 4) (Za (pv 5) Zb))))) (Zf (ZE (Zn ZaE (pv 3) Ze (Zp _)) (Zf (ZU (Zcc PySem.F.plainAttrs_list PySem.F.slot_list_append PySem.F.type_list_append Zam (pv 4) (Za (ZZ ZQ (ZJ (Za (pv 7) (Za (Zhk ZeC (pv 7)) (Za Ze (Za (Zi Zj (hr.mono (by decide)) rfl Zy (Za (pv 0) (Za Ze Zb))) Zb))))) (Zi Zj (hr.mono (by decide)) rfl Zy (Za (pv 0) (Za Ze Zb))) (λ_ _=>rfl)) Zb)))) (Zf (ZU (Zcc PySem.F.plainAttrs_list PySem.F.slot_list_append PySem.F.type_list_append Zam (pv 4) (Za (Zl Zar (Zi Zj (hr.mono (by decide)) rfl Zy (Za (pv 0) (Za (ZZ ZdK (ZhW (Za Ze (Za (Zl Zbc Ze (pv 2)) Zb))) (pv 3) (λ_ _=>rfl)) Zb))) (pv 3)) Zb)))))))))))))))
   (Zf (Zt (pv 4))))))))),?_⟩
 walk_at "rd"
 refine⟨p,_,rfl,by omega,by omega,hP,λd1 H1 d10 d11 P1 e1=>⟨p,_,rfl,by decide,by decide,P1,λd2 H2 d20 d21 P2 e2=>⟨rfl,?_⟩⟩⟩
 walk_at "rd"
 refine ZR (λhz=>⟨p,_,rfl,by decide,by decide,P2,λway H3 w0 w1 P3 e30=>⟨Yn _,λq hq=>⟨by omega,by omega,?_⟩⟩⟩) (λhz=>⟨p,_,rfl,by decide,by decide,P2,λway H3 w0 w1 P3 e30=>⟨Yn _,λq hq=>⟨by omega,by omega,?_⟩⟩⟩)
 case' refine_1=>obtain⟨many,hmany,m0,m1⟩:∃m:Int,m=most/\0<=m/\m<=most:=⟨most,rfl,h0,Int.le_refl _⟩
 case' refine_2=>obtain⟨many,hmany,m0,m1⟩:∃m:Int,m=d1/\0<=m/\m<=most:=⟨d1,rfl,d10,by omega⟩
 all_goals
  have e3:Exc p H H3:=(e1.trans e2).trans e30
  have hqp:q≠p:=P3.ne hq
  have hqH:H q=none:=e3.free hqp hq
  refine Zay (λi σ H'=>∃ns last v6 v7,σ=[some (.ref p),some (.int most),some (.int many),some (.int way),some (.ref q),some (.int last),v6,v7]/\ns.length=i/\H' q=some (.lst (ns.map V.int))/\Zv H' p/\Exc p H H') ⟨[],0,none,none,by rw[hmany],rfl,Zd,P3.upd hq,e3.same ((Zh.refl H3).upd hq)⟩ ?_ ?_
  ·rintro i σ H' hi ⟨ns,last,v6,v7,rfl,hlen,hq',P',e'⟩
   have hb:ns.length<sizeLine:=Yy (show _<=1000 by omega) (by decide)
   walk_at "rd"
   have e9:(10:Int) ^ Int.toNat 9=1000000000:=by decide
   rw[e9]
   have app2:∀(y:Int) (Hx:Hp),Hx q=some (.lst (ns.map V.int))->Zv Hx p->Exc p H Hx->∃x_1,Hx q=some (HO.lst x_1)/\x_1.length<sizeLine/\∃ns',ns'.length=i+1/\upd Hx q (HO.lst (x_1++[V.int y])) q=some (HO.lst (List.map V.int ns'))/\Zv (upd Hx q (HO.lst (x_1++[V.int y]))) p/\Exc p H (upd Hx q (HO.lst (x_1++[V.int y]))) :=
    λy Hx hx Px ex=>⟨_,hx,by simpa using hb,ns++[y],by simp[hlen],by rw[Zd];simp,Px.ZnF hqp,ex.ZnF hqH⟩
   refine⟨cp59,cp9,Zhm (by decide) (by decide),p,_,rfl,by split<;>omega,by split<;>omega,P',λd3 H4 d30 d31 P4 e4=>⟨_,rfl,?_⟩⟩
   have hq4:H4 q=some (.lst (ns.map V.int)):=e4 _ _ hqp hq'
   have eH4:Exc p H H4:=e'.trans e4
   refine ZR (λ_=>?_) λg2=>ZR (λ_=>?_) λg3=>ZR (λ_=>?_) λg4=>ZR (λ_=>?_) λg5=>?_
   ·refine⟨Zab hq4,p,_,rfl,by omega,by omega,P4,λd5 H5 d50 d51 P5 e5=>⟨_,d5,rfl,e5 _ _ hqp hq4,d50,by omega,by simpa using hb,ns.take d5.toNat++(0+(i:Int))::ns.drop d5.toNat,?_,?_,P5.ZnF hqp,(eH4.trans e5).ZnF hqH⟩⟩
    ·simp;omega
    ·rw[Zd];simp
   ·exact⟨p,_,rfl,by decide,by decide,P4,λd5 H5 d50 d51 P5 e5=>⟨_,rfl,Zab (e5 _ _ hqp hq4),app2 _ H5 (e5 _ _ hqp hq4) P5 (eH4.trans e5)⟩⟩
   ·exact⟨p,_,rfl,by decide,by decide,P4,λd5 H5 d50 d51 P5 e5=>⟨rfl,Zhm (by decide) (by decide),Zab (e5 _ _ hqp hq4),app2 _ H5 (e5 _ _ hqp hq4) P5 (eH4.trans e5)⟩⟩
   ·refine⟨Zab hq4,p,_,rfl,by decide,by decide,P4,λd5 H5 d50 d51 P5 e5=>⟨by decide,λz hz2=>⟨p,_,rfl,by decide,by decide,P5.upd hz2,λd6 H6 d60 d61 P6 e6=>?_⟩⟩⟩
    have hq5:H5 q=some (.lst (ns.map V.int)):=e5 _ _ hqp hq4
    have hq6:H6 q=some (.lst (ns.map V.int)):=e6 _ _ hqp (((Zh.refl H5).upd hz2) _ _ hq5)
    have eH6:Exc p H H6:=((eH4.trans e5).same ((Zh.refl H5).upd hz2)).trans e6
    obtain⟨v,hv,y,rfl⟩:=ZmH (xs:=[V.int (10 ^ Int.toNat 59+d3),V.int (-(10 ^ Int.toNat 59+d3)),V.int 0,V.int d5]) (i:=d6) (λv=>∃y:Int,v=V.int y) d60 d61 (by
     intro x hx
     simp at hx
     rcases hx with rfl|rfl|rfl|rfl<;>exact⟨_,rfl⟩)
    exact⟨_,d6,rfl,SqL.of (e6 _ _ (P5.ne hz2) Zd),_,hv,app2 y H6 hq6 P6 eH6⟩
   ·refine⟨Zab hq4,Zhm (by decide) (by decide),by decide,λz hz2=>?_⟩
    obtain⟨v,hv,y,rfl,hy0,hy1⟩:=ZmH (xs:=[V.int 3,V.int (4*many)]) (i:=way) (λv=>∃y:Int,v=V.int y/\0<y/\y<=4000) w0 (show way<2 by omega) (by
     intro x hx
     simp at hx
     rcases hx with rfl|rfl
     ·exact⟨_,rfl,by decide,by decide⟩
     ·exact⟨_,rfl,by omega,by omega⟩)
    refine⟨_,SqT.of Zd,_,hv,p,y,rfl,hy0,by omega,P4.upd hz2,λd5 H5 d50 d51 P5 e5=>⟨_,rfl,?_⟩⟩
    have hq5:H5 q=some (.lst (ns.map V.int)):=e5 _ _ hqp (((Zh.refl H4).upd hz2) _ _ hq4)
    exact app2 _ H5 hq5 P5 ((eH4.same ((Zh.refl H4).upd hz2)).trans e5)
  ·rintro σ H' ⟨ns,last,v6,v7,rfl,hlen,hq',P',e'⟩
   walk_at "rd"
   exact k1 q ns H' hqH (by omega) hq' P' e'
theorem ZnZ {f:Addr}{fd:FuncData} (F:Fun K "settle" "settle" Zdx f fd) (T:Txt K mg):FnOk P w K mg base (CXE P w) 1 f fd ["elders","spine","place","keep"] (Zdz K mg):=by
 refine F.okX ZnY (λvs H Q E h=>?_) (λcdv A outer s H vs Q E hr h=>?_)
 ·obtain⟨el,sp,es,A,B,i,rfl,_⟩:=h;rfl
 obtain⟨el,sp,es,A',B,i,rfl,hel,hsp,hne,hi,hq,hlen,k1⟩:=h
 refine⟨_,(Zc (ZE (Zn Zep (pv 3) (Zg (Zo (K:=K) rfl) rfl T.b_len Yk (Za (pv 1) Zb)) (Zp _)) (Zf (Zfx (pv 2) (ZhV (pv 0) (ZZ ZQ (pv 1) (pv 3) (λ_ _=>rfl)) set_list (λ_=>rfl)))) Zw)
   (Zc (ZE (Zn ZeD (pv 3) Ze (Zp _)) (Zf (Zfx (ZZ ZQ (pv 1) (Zl Zar (pv 3) Ze) (λ_ _=>rfl)) (ZhV (pv 0) (pv 2) set_list (λ_=>rfl)))) Zw)
   (Zc (ZlM (pv 1) (pv 3))
   (Zf (ZU (Zcc PySem.F.plainAttrs_list PySem.F.slot_list_append PySem.F.type_list_append Zam (pv 1) (Za (pv 2) Zb))))))),?_⟩
 walk_at "rd"
 have hb1:(Zq A').length<sizeLine:=by
  rw[ZL]
  rw[Yr]at hlen
  exact Yy (show _<=1000 by omega) (by decide)
 have etk:List.take A'.length (Zq (A'++B))=Zq A':=by
  rw[Zdt]
  have:A'.length=(Zq A').length:=(ZL A').symm
  rw[this,List.take_left]
 have hle:A'.length<=(Zq (A'++B)).length:=by rw[ZL,Yr];omega
 have esn:Zq A'++[V.int (i:Nat)]=Zq (A'++[i]):=by rw[Zdt];rfl
 refine⟨_,.inl (SqL.of hsp),?_⟩
 rw[ZL,Yr]
 -- the end: behind the two stores
 have fin:∀(es1:List Int) (Hx:Hp),(∀b o,b≠el->b≠sp->H b=some o->Hx b=some o)->Hx el=some (.lst (es1.map V.int))->Hx sp=some (.lst (Zq (A'++B)))->es1=Zds es A' B i ->
   ∃(xs:List V) (k:Nat),(A'.length:Int)=(k:Int)/\Hx sp=some (HO.lst xs)/\k<=xs.length/\tyV K "list" (V.ref sp) (upd Hx sp (HO.lst (List.take k xs)))/\∃x,upd Hx sp (HO.lst (List.take k xs)) sp=some (HO.lst x)/\x.length<sizeLine/\Q V.non (upd (upd Hx sp (HO.lst (List.take k xs))) sp (HO.lst (x++[V.int (i:Nat)]))):=by
  intro es1 Hx h1 h2 h3 h4
  refine⟨_,A'.length,rfl,h3,hle,Zab Zd,_,Zd,by rw[etk];exact hb1,k1 _ (λb o n1 n2 z=>by rw[Zm n2,Zm n2];exact h1 b o n1 n2 z) (by rw[Zm hne,Zm hne,h2,h4]) (by rw[Zd,etk,esn])⟩
 -- elders[place]=spine[keep-1]
 have mid:∀(es1:List Int) (Hx:Hp),(∀b o,b≠el->b≠sp->H b=some o->Hx b=some o)->Hx el=some (.lst (es1.map V.int))->es1.length=es.length->Hx sp=some (.lst (Zq (A'++B)))->∀q,A'.getLast?=some q->es1.set i (q:Int)=Zds es A' B i ->
   ∃x,SqL K Hx sp x/\∃x_1,atI x ((A'.length:Int)-1)=some x_1/\∃x,Hx el=some (HO.lst x)/\∃x_2,ixN x.length (i:Int)=some x_2/\∃(xs:List V) (k:Nat),(A'.length:Int)=(k:Int)/\upd Hx el (HO.lst (x.set x_2 x_1)) sp=some (HO.lst xs)/\k<=xs.length/\tyV K "list" (V.ref sp) (upd (upd Hx el (HO.lst (x.set x_2 x_1))) sp (HO.lst (List.take k xs))) /\
    ∃x_3,upd (upd Hx el (HO.lst (x.set x_2 x_1))) sp (HO.lst (List.take k xs)) sp=some (HO.lst x_3)/\x_3.length<sizeLine/\Q V.non (upd (upd (upd Hx el (HO.lst (x.set x_2 x_1))) sp (HO.lst (List.take k xs))) sp (HO.lst (x_3++[V.int (i:Nat)]))):=by
  intro es1 Hx h1 h2 hl1 h3 q hq h4
  have hpos:0<A'.length:=by
   cases A' with
   |nil=>cases hq
   |cons _ _=>simp
  have hat:(A'++B)[A'.length-1]?=some q:=by
   rw[Y4 (by omega)]
   rw[List.getLast?_eq_getElem?]at hq;exact hq
  have ei:((A'.length:Int)-1)=((A'.length-1:Nat):Int):=by omega
  refine⟨_,SqL.of h3,_,by rw[ei];exact Zh7 hat,_,h2,i,by rw[Yi,hl1];exact Zgc hi,?_⟩
  have em:(es1.map V.int).set i (V.int (q:Nat))=(es1.set i (q:Int)).map V.int:=by rw[List.map_set]
  rw[em]
  exact fin _ _ (λb o n1 n2 z=>by rw[Zm n1];exact h1 b o n1 n2 z) Zd (by rw[Zm hne.symm];exact h3) h4
 cases B with
 |nil =>
  rw[Yb (by simp)]
  cases hq:A'.getLast? with
  |none =>
   have:A'=[]:=List.getLast?_eq_none_iff.mp hq
   rw[Yb (by rw[this];simp)]
   exact fin es H (λb o _ _ z=>z) hel hsp (by unfold Zds;rw[hq];rfl)
  |some q =>
   have:A'≠[]:=λz=>by rw[z]at hq;cases hq
   rw[Yc (by have:=List.length_pos_iff.mpr this;omega)]
   exact mid es H (λb o _ _ z=>z) hel rfl hsp q hq (by unfold Zds;rw[hq];rfl)
 |cons b Br =>
  rw[Yc (by simp;omega)]
  have hat:(A'++b::Br)[A'.length]?=some b:=by rw[Y0 (Yd _)];simp
  have hbn:b<es.length:=hq b (by simp)
  refine⟨_,SqL.of hsp,_,Zh7 hat,_,_,rfl,hel,b,by rw[Yi];exact Zgc hbn,?_⟩
  have em:(es.map V.int).set b (V.int (i:Nat))=(es.set b (i:Int)).map V.int:=by rw[List.map_set]
  rw[em]
  cases hq2:A'.getLast? with
  |none =>
   have:A'=[]:=List.getLast?_eq_none_iff.mp hq2
   rw[Yb (by rw[this];simp)]
   exact fin (es.set b i) _ (λc o n1 n2 z=>by rw[Zm n1];exact z) Zd (by rw[Zm hne.symm];exact hsp) (by unfold Zds;rw[hq2];rfl)
  |some q =>
   have:A'≠[]:=λz=>by rw[z]at hq2;cases hq2
   rw[Yc (by have:=List.length_pos_iff.mpr this;omega)]
   exact mid (es.set b i) _ (λc o n1 n2 z=>by rw[Zm n1];exact z) Zd (by simp) (by rw[Zm hne.symm];exact hsp) q hq2 (by unfold Zds;rw[hq2];rfl)
theorem Zl8 {f:Addr}{fd:FuncData} (F:Fun K "tree_of" "tree_of" ZcE f fd) (ZbA:Callee P w K mg base "settle" 1 ["elders","spine","place","keep"] (Zdz K mg)) (T:Txt K mg):FnOk P w K mg base (CXE P w) 2 f fd ["row"] (ZfH K mg):=by
 refine F.okX ZbS (λvs H Q E h=>?_) (λcdv A outer s H vs Q E hr h=>?_)
 ·obtain⟨r,ns,rfl,_⟩:=h;rfl
 obtain⟨r,ns,rfl,hS,hn,k1⟩:=h
 refine⟨_,(Zc (Zk (i:=1) ZbS.nd rfl (Or.inl rfl) (Zl ZjS (ZJ (Za (Zhk ZeC Ze) Zb)) (Zg (Zo (K:=K) rfl) rfl T.b_len Yk (Za (pv 0) Zb))))
   (Zc (Zk (i:=2) ZbS.nd rfl (Or.inl rfl) (ZJ Zb))
   (Zc (Zbh (Za4 PassesOwn.never rfl (ZF rfl T.b_range (Za (Zg (Zo (K:=K) rfl) rfl T.b_len Yk (Za (pv 0) Zb)) Zb)) (Zr (i:=3) ZbS.nd rfl (Or.inl rfl)) (Zc (Zk (i:=4) ZbS.nd rfl (Or.inl rfl) (Zg (Zo (K:=K) rfl) rfl T.b_len Yk (Za (pv 2) Zb)))
   (Zc (Zbh (ZkC PassesOwn.never (PW.pt (ZhT (Zn ZeD (pv 4) Ze (Zp _)) (ZhK (Zn ZeD (ZZ (ix_q (K:=K) rfl) (pv 0) (ZZ ZQ (pv 2) (Zl Zar (pv 4) Ze) (λ_ _=>rfl)) (λ_ _=>rfl)) (ZZ (ix_q (K:=K) rfl) (pv 0) (pv 3) (λ_ _=>rfl)) (Zp _))))) (Zf (ZoL (i:=4) ZbS.nd rfl (Or.inl rfl) Ze ip_sub))))
   (Zf (ZU (Zi ZbA (hr.mono (by decide)) rfl Zy (Za (pv 1) (Za (pv 2) (Za (pv 3) (Za (pv 4) Zb)))))))))))
   (Zf (Zt (ZK (Zaz (K:=K) rfl) rfl T.b_tuple Zau (Za (pv 1) Zb))))))),?_⟩
 walk_at "rd"
 have eL:(ns.map V.int).length=ns.length:=Yi ..
 refine⟨by decide,λp hp=>⟨_,((Zh.refl H).upd hp).q hS,_,Zd,by omega,by rw[eL];omega,?_,λel hel=>⟨Yn _,λsp hsp=>?_⟩⟩⟩
 ·exact Yg (show _<=1000 by simp;omega) (by decide)
 have s0:Zh H (upd (upd (upd H p (.lst [V.int (-1)])) el (.lst (List.replicate (((ns.map V.int).length:Nat):Int).toNat [V.int (-1)]).flatten)) sp (.lst [])):=(((Zh.refl H).upd hp).ZC hel).ZC hsp
 refine⟨_,s0.q hS,by omega,by rw[eL];omega,?_⟩
 have en:(((ns.map V.int).length:Nat):Int).toNat=ns.length:=by rw[eL];omega
 have hel0:(upd (upd (upd H p (.lst [V.int (-1)])) el (.lst (List.replicate (((ns.map V.int).length:Nat):Int).toNat [V.int (-1)]).flatten)) sp (.lst [])) el=some (.lst ((List.replicate ns.length (-1:Int)).map V.int)):=by
  have:=((Zh.refl _).ZC (o:=.lst []) hsp) el _ Zd
  rw[this,en];simp
 have hsp0:(upd (upd (upd H p (.lst [V.int (-1)])) el (.lst (List.replicate (((ns.map V.int).length:Nat):Int).toNat [V.int (-1)]).flatten)) sp (.lst [])) sp=some (.lst (Zq [])):=Zd
 have nes:el≠sp:=λz=>by
  subst z
  rw[Zd]at hsp;cases hsp
 have zel:H el=none:=((Zh.refl H).upd hp).free hel
 have zsp:H sp=none:=(((Zh.refl H).upd hp).ZC hel).free hsp
 rw[en]at hel0 hsp0 s0⊢
 generalize (upd (upd (upd H p (.lst [V.int (-1)])) el (.lst (List.replicate ns.length [V.int (-1)]).flatten)) sp (.lst []))=H0 at s0 hel0 hsp0⊢
 refine Zay (λi σ Hx=>∃(es:List Int) (S:List Nat) (v3 v4:Option V),σ=[some (.ref r),some (.ref el),some (.ref sp),v3,v4]/\Zh H Hx/\Hx el=some (.lst (es.map V.int))/\Hx sp=some (.lst (Zq S))/\es.length=ns.length/\Zcr (nth ns) i S/\(∀p e,p<i->e=es.getD p 0->ZN (nth ns) i p e)/\∀p,i<=p->p<ns.length->es.getD p 0=-1)
  ⟨List.replicate ns.length (-1),[],none,none,rfl,s0,hel0,hsp0,by simp,⟨List.Pairwise.nil,λq=>by simp⟩,λp e hp=>by omega,λp _ hp=>by simp[Yj,hp]⟩ ?_ ?_
 ·rintro i σ Hx hi ⟨es,S,v3,v4,rfl,sx,hxe,hxs,hesl,hS2,hE,hE2⟩
  walk_at "rd"
  have hin:i<ns.length:=by omega
  have hSl:S.length<=1000:=by
   rcases ZlN S i 0 hS2.1 (λq hq=>⟨Yn _,((hS2.2 q).mp hq).1⟩)with z|z
   ·omega
   ·rw[z];simp
  refine⟨_,.inl (SqL.of hxs),?_⟩
  rw[ZL]
  refine ZmR S.length (λj σ Hy=>∃A B,S=A++B/\B.length=j/\(∀q∈B,nth ns i<nth ns q)/\σ=[some (.ref r),some (.ref el),some (.ref sp),some (.int (0+(i:Int))),some (.int (A.length:Nat))]/\Hy=Hx) ⟨S,[],by simp,rfl,(λq hq=>absurd hq (by simp)),rfl,rfl⟩ ?_
  rintro j σ Hy hj ⟨A,B,hAB,hBl,hBg,rfl,rfl⟩
  walk_at "rd"
  have hmem:∀q,q∈A++B->q<i:=λq hq=>((hS2.2 q).mp (by rw[hAB];exact hq)).1
  have hix:(0+(i:Int))=(i:Int):=by omega
  rw[hix]
  by_cases hA0:A=[]
  case' pos =>
   rw[Yb (by rw[hA0];simp)]
   have hA:∀q∈A,nth ns q<=nth ns i:=λq hq=>absurd hq (by rw[hA0];simp)
  case' neg =>
   obtain⟨q,Al,rfl⟩:∃q Al,A=Al++[q]:=⟨A.getLast hA0,A.dropLast,(List.dropLast_concat_getLast hA0).symm⟩
   have hal:(Al++[q]).length=Al.length+1:=by simp
   rw[Yc (by rw[hal];omega)]
   have eiA:(((Al++[q]).length:Nat):Int)-1=(Al.length:Int):=by rw[hal];omega
   have hat:S[Al.length]?=some q:=by
    rw[hAB,YV,Y0 (Yd _)];simp
   have hqi:q<i:=hmem q (by simp)
   refine⟨_,SqL.of hxs,_,by rw[eiA];exact Zh7 hat,_,_,rfl,sx.q hS,_,Zbi (by omega),_,sx.q hS,_,Zbi hin,_,rfl,_,rfl,ZR (λhlt=>?_) (λhge=>?_)⟩
   ·have hj2:j+1<=S.length:=by rw[hAB,Yr,hal];omega
    refine⟨_,WI.next,hj2,Al,q::B,by rw[hAB];simp,by simp[hBl],λx hx=>?_,by rw[eiA],rfl⟩
    rcases Yq.mp hx with z|z
    ·rw[z];exact hlt
    ·exact hBg x z
   have hA:∀x∈Al++[q],nth ns x<=nth ns i:=λx hx=>by
    by_cases z:x=q
    ·rw[z];omega
    ·have hxa:x∈Al:=by
      rcases Yt.mp hx with y|y
      ·exact y
      ·exact absurd (by simpa using y) z
     have hpw:=hS2.1
     rw[hAB]at hpw
     have hxq:x<q:=(List.pairwise_append.mp (List.pairwise_append.mp hpw).1).2.2 x hxa q (by simp)
     have:=((hS2.2 x).mp (by rw[hAB];exact YC _ hx)).2 q hxq hqi
     omega
   generalize Al++[q]=A at hA hAB hmem hA0⊢
  all_goals
   have SS:=ZdN (f:=nth ns) (i:=i) (A:=A) (B:=B) (by rw[<-hAB];exact hS2) hA hBg
   refine⟨el,sp,es,A,B,i,rfl,hxe,by rw[<-hAB];exact hxs,nes,by omega,λq hq=>by have:=hmem q hq;omega,by rw[<-hAB];exact hSl,λH' q1 q2 q3=>?_⟩
   have hbi:∀b,B.head?=some b->b≠i:=λb hb=>by
    have:=hmem b (Yp _ (List.mem_of_head? hb));omega
   refine⟨λb o z=>q1 b o (Zs z zel) (Zs z zsp) (sx b o z),Zds es A B i,q2,A++[i],q3,by rw[Zgb];exact hesl,SS.1,λp e hp he=>?_,λp hp1 hp2=>?_⟩
   ·rw[Zfd _ _ _ _ _ (by omega) hbi]at he
    by_cases z:p=i
    ·subst z
     rw[Yc rfl,hE2 p (Yd _) (by omega)]at he
     rw[he];exact SS.2.1
    ·rw[Yb z]at he
     rw[he]
     exact SS.2.2 p _ (by omega) (hE p _ (by omega) rfl)
   ·rw[Zfd _ _ _ _ _ (by omega) hbi,Yb (by omega),Yb (λz=>?_)]
    ·exact hE2 p (by omega) hp2
    ·have:=hmem p (Yp _ (List.mem_of_head? z));omega
 ·rintro σ Hx ⟨es,S,v3,v4,rfl,sx,hxe,hxs,hesl,hS2,hE,hE2⟩
  walk_at "rd"
  exact⟨_,.inl ⟨SqL.of hxe,λt ht=>k1 t es _ ⟨hesl,λp hp=>hE p _ hp rfl⟩ (sx.ZC ht) Zd⟩⟩
theorem Zn0 {f:Addr}{fd:FuncData} (F:Fun K "way_up" "way_up" Zdy f fd) (T:Txt K mg):FnOk P w K mg base (CXE P w) 1 f fd ["tree","place"] (Zfj K mg):=by
 refine F.okX Zfk (λvs H Q E h=>?_) (λcdv A outer s H vs Q E hr h=>?_)
 ·obtain⟨t,T,p,rfl,_⟩:=h;rfl
 obtain⟨t,T',p,rfl,ht,hn,hp,k1⟩:=h
 refine⟨_,(Zc (Zk (i:=2) Zfk.nd rfl (Or.inl rfl) (ZJ Zb))
   (Zc (Zk (i:=3) Zfk.nd rfl (Or.inl rfl) (ZZ ZdK (pv 0) (pv 1) (λ_ _=>rfl)))
   (Zc (Zbh (ZkC PassesOwn.never (PW.pt (ZhT (ZkG Zf3 Zep Ze (pv 3) (Zg (Zo (K:=K) rfl) rfl T.b_len Yk (Za (pv 0) Zb))) (ZhK (Zn Zep (Zg (Zo (K:=K) rfl) rfl T.b_len Yk (Za (pv 2) Zb)) (Zg (Zo (K:=K) rfl) rfl T.b_len Yk (Za (pv 0) Zb)) (Zp _))))) (Zc (ZU (Zcc PySem.F.plainAttrs_list PySem.F.slot_list_append PySem.F.type_list_append Zam (pv 2) (Za (pv 3) Zb)))
   (Zf (Zk (i:=3) Zfk.nd rfl (Or.inl rfl) (ZZ ZdK (pv 0) (pv 3) (λ_ _=>rfl)))))))
   (Zf (Zt (pv 2)))))),?_⟩
 walk_at "rd"
 refine⟨Yn _,λl hl=>⟨_,SqT.of (((Zh.refl H).upd hl) _ _ ht),_,Zbi hp,?_⟩⟩
 refine ZmR T'.length (λj σ Hx=>Zh H Hx/\Hx l=some (.lst (Zq (Za5 T' j (nth T' p))))/\(Za5 T' j (nth T' p)).length=j/\σ=[some (.ref t),some (.int p),some (.ref l),some (.int (Za3 T' j (nth T' p)))]) ⟨(Zh.refl H).upd hl,Zd,rfl,rfl⟩ ?_
 rintro j σ Hx hj ⟨sx,hxl,hjl,rfl⟩
 walk_at "rd"
 have hlen:(Zq (Za5 T' j (nth T' p))).length=j:=by rw[ZL];exact hjl
 have eL:(T'.map V.int).length=T'.length:=Yi ..
 have done:(j=T'.length\/¬ (0<=Za3 T' j (nth T' p)/\Za3 T' j (nth T' p)<T'.length))->Q (.ref l) Hx:=λz=>by
  refine k1 l Hx hl sx ?_
  have:Za5 T' T'.length (nth T' p)=Za5 T' j (nth T' p):=by
   rcases z with z|z
   ·rw[<-z]
   ·exact Zjp T' j _ _ hj hjl z
  rw[hxl];unfold Zgd;rw[this];simp[Zq]
 refine ZR (λh0=>⟨_,.inr (SqT.of (sx _ _ ht)),ZR (λh1=>⟨_,.inl (SqL.of hxl),_,.inr (SqT.of (sx _ _ ht)),ZR (λh2=>?_) λh2=>done (.inl (by rw[hlen,eL]at h2;omega))⟩) λh1=>done (.inr (by rw[eL]at h1;omega))⟩) λh0=>done (.inr (by omega))
 rw[eL]at h1;rw[hlen,eL]at h2
 obtain⟨a1,a2⟩:=Zjo T' j (nth T' p) h0 h1 hjl
 have ei:Za3 T' j (nth T' p)=(((Za3 T' j (nth T' p)).toNat:Nat):Int):=by omega
 have nlt:t≠l:=Zs ht hl
 refine⟨_,WI.next,Zab hxl,_,hxl,by rw[hlen];exact Yy (show _<=1000 by omega) (by decide),_,SqT.of (by rw[Zm nlt];exact sx _ _ ht),_,(congrArg (atI _) ei).trans (Zbi (by omega)),by omega,sx.upd hl,?_,?_,?_⟩
 ·rw[Zd,a1,Zdt]
  have:Zq [(Za3 T' j (nth T' p)).toNat]=[V.int (Za3 T' j (nth T' p))]:=by rw[ei];simp[Zq]
  rw[this]
 ·rw[a1];simp[hjl]
 ·rw[a2]
theorem Zl9 {f:Addr}{fd:FuncData} (F:Fun K "is_tree" "is_tree" ZcF f fd) (Zg2:Callee P w K mg base "tree_of" 2 ["row"] (ZfH K mg)) (ZdB:Callee P w K mg base "way_up" 1 ["tree","place"] (Zfj K mg)) (T:Txt K mg):FnOk P w K mg base (CXE P w) 3 f fd ["tree"] (ZfJ K mg):=by
 refine F.okX Zin (λvs H Q E h=>?_) (λcdv A outer s H vs Q E hr h=>?_)
 ·obtain⟨t,T,rfl,_⟩:=h;rfl
 obtain⟨t,T',rfl,ht,hn,k1,k2⟩:=h
 refine⟨_,(Zc (ZE (PW.pt (ZkB (Zex (ZdI (Zg (ZP (K:=K) rfl) rfl T.b_isinstance Zu (Za (pv 0) (Za (ZhJ (v:=.ty "tuple") rfl T.b_tuple Zau rfl) Zb))))) (ZhS (Zn ZeD (Zg (Zo (K:=K) rfl) rfl T.b_len Yk (Za (pv 0) Zb)) (Zaq (v:=.int 40) rfl T.m_MOST_PLACES ⟨_,rfl⟩) (Zp _))))) (Zf (Zt Zdo)) Zw)
   (Zc (Zib (i:=1) ["place","tree"] [none,some 0] Zin.nd rfl (Or.inl rfl) rfl rfl rfl (ZF rfl T.b_range (Za (Zg (Zo (K:=K) rfl) rfl T.b_len Yk (Za (pv 0) Zb)) Zb)) (λ_ _ _ _ _=>(Zr (i:=0) (show(["place","tree"]:List Str).Nodup from by decide +kernel) rfl (Or.inl rfl))) (λ_ _ _ _ _=>Za9) (λ_ _ _ _ _=>(Zg (Zo (K:=K) rfl) rfl T.b_len Yk (Za (Zi ZdB (hr.mono (by decide)) rfl Zy (Za (pv 1) (Za (pv 0) Zb))) Zb))) ZG)
   (Zf (Zt (Zbt (Zj3 (K:=K) rfl hr) (Zi Zg2 (hr.mono (by decide)) rfl Zy (Za (pv 1) Zb)) (pv 0) (Zp _)))))),?_⟩
 walk_at "rd"
 have eL:(T'.map V.int).length=T'.length:=Yi ..
 refine⟨true,.inl ⟨_,.tup ht,by with_unfolding_all rfl⟩,ZR (λz=>nomatch z) λ_=>⟨_,.inr (SqT.of ht),ZR (λz=>k2 (λg=>?_) _ (Zh.refl H)) λz=>⟨_,.inr (SqT.of ht),by omega,by rw[eL];omega,?_⟩⟩⟩
 ·rw[eL]at z;have:=g.1;omega
 rw[eL]at z⊢
 have en:((T'.length:Nat):Int).toNat=T'.length:=by omega
 rw[en]
 refine comp_map (n:=T'.length) (λq=>V.int (nth (ZfC T') q)) (Yy hn (by decide)) (λj Hx s hj=>hj) (λHx s=>Yd _) ?_ ?_
 ·rintro j x Hx Hy hj s ⟨rfl,rfl⟩
  walk_at "rd"
  refine⟨t,T',j,by simp,s _ _ ht,hn,hj,λl H9 hl s9 h9=>⟨l,rfl,_,.inl (SqL.of h9),CW.next hj ?_ (s.trans s9)⟩⟩
  rw[ZkY hj,Yi];simp[Zgd]
 ·intro l' Hx s hl'
  have ed:(List.range T'.length).map (λq=>V.int (nth (ZfC T') q))=(ZfC T').map V.int:=by
   rw[<-Zf9 T'];exact range_getD _ _ V.int _ rfl
  rw[ed]
  have u:=s.ZC (o:=.lst ((ZfC T').map V.int)) hl'
  refine⟨l',ZfC T',rfl,.inl (SqL.of Zd),by rw[Zf9];exact hn,λt2 es H2 hT2 s2 ht2=>⟨t2,rfl,_,ZmQ (n:=2) Zf7 _ _ es T' (Zf8 (SqT.of ht2)) (Zf8 (SqT.of ((u.trans s2) _ _ ht))),?_⟩⟩
  by_cases g:es=T'
  ·rw[YK g];exact k1 ⟨by omega,_,g▸hT2⟩ _ (u.trans s2)
  ·rw[YB g];exact k2 (λgg=>g (hT2.unique ((ZnK T').mp gg.2))) _ (u.trans s2)
theorem Zke {f:Addr}{fd:FuncData} (F:Fun K "need_tree" "need_tree" Zbl f fd) (Zg3:Callee P w K mg base "is_tree" 3 ["tree"] (ZfJ K mg)) (T:Txt K mg):FnOk P w K mg base (CXE P w) 4 f fd ["tree"] (Zcv K mg):=by
 refine F.okX Zkc (λvs H Q E h=>?_) (λcdv A outer s H vs Q E hr h=>?_)
 ·obtain⟨t,T,rfl,_⟩:=h;rfl
 obtain⟨t,T',rfl,ht,hn,k1,k2⟩:=h
 refine⟨_,(Zf (ZE (Zex (ZdI (Zi Zg3 (hr.mono (by decide)) rfl Zy (Za (pv 0) Zb)))) (Zf (Zdq rfl rfl T.c_NoTree T.x_NoTree (Za (Ze9 (ZdM (by decide) (ZjY (Zg (Zo (K:=K) rfl) rfl T.b_len Yk (Za (pv 0) Zb)) (ZdM (by decide) ZjX)))) Zb) Zfa)) Zw)),?_⟩
 walk_at "rd"
 exact⟨t,T',rfl,ht,hn,λg H1 s1=>⟨true,rfl,ZR (λz=>nomatch z) λ_=>k1 g _ s1⟩,λg H1 s1=>⟨false,rfl,ZR (λ_=>⟨_,.inr (SqT.of (s1 _ _ ht)),by omega,by rw[Yi];omega,λy=>⟨by decide,k2 g _ s1⟩⟩) λz=>absurd rfl z⟩⟩
theorem Zkf {f:Addr}{fd:FuncData} (F:Fun K "_law_bent" "_law_bent" Zbo f fd) (Zj:Callee P w K mg base "_law_take" 1 ["pot","many"] (Zac K mg)) (T:Txt K mg):FnOk P w K mg base (CXE P w) 2 f fd ["pot","told"] (ZdW K mg):=by
 refine F.okX Zad (λvs H Q E h=>?_) (λcdv A outer s H vs Q E hr h=>?_)
 ·obtain⟨p,t,T,rfl,_⟩:=h;rfl
 obtain⟨p,t,T',rfl,hP,ht,hn,k1⟩:=h
 refine⟨_,(Zc (Zk (i:=2) Zad.nd rfl (Or.inl rfl) (ZK (ZlH (K:=K) rfl) rfl T.b_list ZmD (Za (pv 1) Zb)))
   (Zc (Zk (i:=3) Zad.nd rfl (Or.inl rfl) (Zi Zj (hr.mono (by decide)) rfl Zy (Za (pv 0) (Za Ze Zb))))
   (Zc (Zk (i:=4) Zad.nd rfl (Or.inl rfl) (Zi Zj (hr.mono (by decide)) rfl Zy (Za (pv 0) (Za (Zl ZY (Zg (Zo (K:=K) rfl) rfl T.b_len Yk (Za (pv 2) Zb)) Ze) Zb))))
   (Zc (Zk (i:=5) Zad.nd rfl (Or.inl rfl) (Zi Zj (hr.mono (by decide)) rfl Zy (Za (pv 0) (Za (Zl ZY (Zg (Zo (K:=K) rfl) rfl T.b_len Yk (Za (pv 2) Zb)) Ze) Zb))))
   (Zc (Zk (i:=6) Zad.nd rfl (Or.inl rfl) (ZZ ZQ (ZJ (Za (Zl Zar (Zi Zj (hr.mono (by decide)) rfl Zy (Za (pv 0) (Za (Zl ZY (Zg (Zo (K:=K) rfl) rfl T.b_len Yk (Za (pv 2) Zb)) Ze) Zb))) Ze) (Za (Zhk ZeC Ze) (Za (Zl Zc8 Ze Ze) (Za (Zhk ZeC (Zl Zc8 Ze Ze)) Zb))))) (Zg (Zjb rfl) rfl T.b_max ZlG (Za Ze (Za (Zl Zar (Zi Zj (hr.mono (by decide)) rfl Zy (Za (pv 0) (Za Ze Zb))) Ze) Zb))) (λ_ _=>rfl)))
   (Zc (ZE (Zn Zep (pv 3) Ze (Zp _)) (Zf (Zfx (ZJ (Za (pv 6) Zb)) (Zk1 (pv 2) (pv 4) (Zl ZY (pv 4) Ze) (λ_=>rfl)))) Zw)
   (Zc (ZE (Zn ZaE (pv 3) Ze (Zp _)) (Zf (ZU (Zcc PySem.F.plainAttrs_list PySem.F.slot_list_insert PySem.F.type_list_insert Zjk (pv 2) (Za (pv 4) (Za (pv 6) Zb))))) Zw)
   (Zc (ZE (Zn ZaE (pv 3) Ze (Zp _)) (Zf (Zfx (ZJ Zb) (Zk1 (pv 2) (pv 4) (Zl ZY (pv 4) Ze) (λ_=>rfl)))) Zw)
   (Zc (ZE (PW.pt (ZhT (Zn ZaE (pv 3) Ze (Zp _)) (ZhT (Zn (Zpd (K:=K) rfl hr) (Zal ZhM (pv 2) (ZaP (pv 4)) ZaO) (ZJ Zb) (Zp _)) (ZhK (Zn (Zpd (K:=K) rfl hr) (Zal ZhM (pv 2) (ZaP (pv 5)) ZaO) (ZJ Zb) (Zp _)))))) (Zc (Zk (i:=7) Zad.nd rfl (Or.inl rfl) (ZZ ZQ (pv 2) (pv 4) (λ_ _=>rfl)))
   (Zc (Zfx (ZZ ZQ (pv 2) (pv 5) (λ_ _=>rfl)) (ZhV (pv 2) (pv 4) set_list (λ_=>rfl)))
   (Zf (Zfx (pv 7) (ZhV (pv 2) (pv 5) set_list (λ_=>rfl)))))) Zw)
   (Zc (ZE (Zn ZaE (pv 3) Ze (Zp _)) (Zf (Zk (i:=2) Zad.nd rfl (Or.inl rfl) (Zl Zh0 (Zal ZhM (pv 2) (ZaP (pv 4)) ZaO) (Zal ZhM (pv 2) ZaO (ZaP (pv 4)))))) Zw)
   (Zf (Zt (ZK (Zaz (K:=K) rfl) rfl T.b_tuple Zau (Za (pv 2) Zb)))))))))))))),?_⟩
 refine Zcd (fun σ Hx=>∃l,σ=[some (.ref p),some (.ref t),some (.ref l),none,none,none,none,none]/\H l=none/\Zh H Hx/\Hx l=some (.lst (T'.map V.int))) (λR hR=>?_) ?_
 ·walk_at "rd"
  refine⟨_,.inr (SqT.of ht),λl hl=>hR _ _ ⟨l,rfl,hl,(Zh.refl H).upd hl,Zd⟩⟩
 rintro σ H1 ⟨l,rfl,zl,s1,hl1⟩
 have P1:Zv H1 p:=hP.same s1
 have npl:p≠l:=by
  obtain⟨_,hq,_⟩:=hP
  exact Zs hq zl
 refine Zcd (fun σ Hx=>∃w:Int,σ=[some (.ref p),some (.ref t),some (.ref l),some (.int w),none,none,none,none]/\Zv Hx p/\Exc p H1 Hx) (λR hR=>?_) ?_
 ·walk_at "rd"
  exact⟨p,_,rfl,by decide,by decide,P1,λd H' d0 d1 P' e=>hR _ _ ⟨d,rfl,P',e⟩⟩
 rintro σ H2 ⟨wy,rfl,P2,e2⟩
 have nlp:l≠p:=npl.symm
 have eL:(T'.map V.int).length=T'.length:=Yi ..
 refine Zcd (fun σ Hx=>∃a:Int,0<=a/\a<=T'.length/\σ=[some (.ref p),some (.ref t),some (.ref l),some (.int wy),some (.int a),none,none,none]/\Zv Hx p/\Exc p H1 Hx) (λR hR=>?_) ?_
 ·walk_at "rd"
  exact⟨_,.inl (SqL.of (e2 _ _ nlp hl1)),p,_,rfl,by omega,by omega,P2,λd H' d0 d1 P' e=>hR _ _ ⟨d,d0,by omega,rfl,P',e2.trans e⟩⟩
 rintro σ H3 ⟨a,a0,a1,rfl,P3,e3⟩
 refine Zcd (fun σ Hx=>∃b:Int,0<=b/\b<=T'.length/\σ=[some (.ref p),some (.ref t),some (.ref l),some (.int wy),some (.int a),some (.int b),none,none]/\Zv Hx p/\Exc p H1 Hx) (λR hR=>?_) ?_
 ·walk_at "rd"
  exact⟨_,.inl (SqL.of (e3 _ _ nlp hl1)),p,_,rfl,by omega,by omega,P3,λd H' d0 d1 P' e=>hR _ _ ⟨d,d0,by omega,rfl,P',e3.trans e⟩⟩
 rintro σ H4 ⟨b,b0,b1,rfl,P4,e4⟩
 refine Zcd (fun σ Hx=>∃m:Int,σ=[some (.ref p),some (.ref t),some (.ref l),some (.int wy),some (.int a),some (.int b),some (.int m),none]/\Zv Hx p/\Exc p H1 Hx) (λR hR=>?_) ?_
 ·walk_at "rd"
  have c59:ZiM 10 59:=⟨by decide,by decide,by decide⟩
  refine⟨_,.inl (SqL.of (e4 _ _ nlp hl1)),p,_,rfl,by omega,by omega,P4,λd H' d0 d1 P' e=>⟨d,rfl,c59,c59,by decide,λq hq=>?_⟩⟩
  have nqp:q≠p:=by
   obtain⟨_,hz,_⟩:=P'
   exact(Zs hz hq).symm
  refine⟨p,_,rfl,by decide,by decide,P'.same ((Zh.refl H').upd hq),λd2 H'' g0 g1 PP ee=>⟨d2,rfl,_,SqL.of (ee _ _ nqp Zd),?_⟩⟩
  have hx:∃v:Int,atI [V.int (d-1),V.int (-2),V.int (10 ^ Int.toNat 59),V.int (-10 ^ Int.toNat 59)] (if d2-4>0 then d2-4 else 0)=some (V.int v):=by
   have:(if d2-4>0 then d2-4 else 0)=0\/(if d2-4>0 then d2-4 else 0)=1\/(if d2-4>0 then d2-4 else 0)=2\/(if d2-4>0 then d2-4 else 0)=3:=by split<;>omega
   rcases this with h|h|h|h<;>rw[h]<;>exact⟨_,rfl⟩
  obtain⟨v,hv⟩:=hx
  exact⟨_,hv,hR _ _ ⟨v,rfl,PP,((e4.trans e).same ((Zh.refl H').upd hq)).trans ee⟩⟩
 rintro σ H5 ⟨m,rfl,P5,e5⟩
 have eH5:Exc p H H5:=s1.ZmI.trans e5
 have h5:H5 l=some (.lst (T'.map V.int)):=e5 _ _ nlp hl1
 -- the list changes
 have ed:∀{Hx:Hp}{o:HO},Zv Hx p->Exc p H Hx->Zv (upd Hx l o) p/\Exc p H (upd Hx l o):=λP e=>⟨by
  obtain⟨n,hz,h0⟩:=P
  exact⟨n,by rw[Zm npl];exact hz,h0⟩,e.ZnF zl⟩
 have fr:∀{Hx:Hp}{q:Addr}{o:HO},Zv Hx p->Exc p H Hx->Hx q=none->Zv (upd Hx q o) p/\Exc p H (upd Hx q o):=λ{Hx q o} P e hq=>by
  have s':Zh Hx (upd Hx q o):=(Zh.refl Hx).upd hq
  exact⟨P.same s',e.same s'⟩
 have szl:∀{n k:Nat},n<=1000->k<=1000->n+k<=sizeLine:=λh1 h2=>Yg (show _<=2000 by omega) (by decide)
 refine Zcd (fun σ Hx=>∃S:List Int,T'.length<=S.length/\S.length<=T'.length+1/\σ=[some (.ref p),some (.ref t),some (.ref l),some (.int wy),some (.int a),some (.int b),some (.int m),none]/\Zv Hx p/\Exc p H Hx/\Hx l=some (.lst (S.map V.int))) (λR hR=>?_) ?_
 ·walk_at "rd"
  refine ZR (λz=>⟨by decide,λq hq=>?_⟩) λz=>hR _ _ ⟨T',Yd _,by omega,rfl,P5,eH5,h5⟩
  obtain⟨P6,e6⟩:=fr (o:=.lst [V.int m]) P5 eH5 hq
  obtain⟨P7,e7⟩:=ed (o:=.lst ((T'.take a.toNat++[m]++T'.drop (a+1).toNat).map V.int)) P6 e6
  refine⟨_,((Zh.refl H5).upd hq) _ _ h5,_,Zd,Zs h5 hq,a0,by omega,by rw[eL];exact a1,szl (by rw[eL];omega) (by simp),hR _ _ ⟨T'.take a.toNat++[m]++T'.drop (a+1).toNat,?_,?_,rfl,?_,?_,?_⟩⟩
  ·simp;omega
  ·simp;omega
  ·simpa using P7
  ·simpa using e7
  ·rw[Zd];simp
 rintro σ H6 ⟨S,sl0,sl1,rfl,P6,e6,h6⟩
 refine Zcd (fun σ Hx=>∃S:List Int,T'.length<=S.length/\S.length<=T'.length+2/\σ=[some (.ref p),some (.ref t),some (.ref l),some (.int wy),some (.int a),some (.int b),some (.int m),none]/\Zv Hx p/\Exc p H Hx/\Hx l=some (.lst (S.map V.int))) (λR hR=>?_) ?_
 ·walk_at "rd"
  refine ZR (λz=>?_) λz=>hR _ _ ⟨S,sl0,by omega,rfl,P6,e6,h6⟩
  obtain⟨P7,e7⟩:=ed (o:=.lst ((S.take a.toNat++m::S.drop a.toNat).map V.int)) P6 e6
  refine⟨Zab h6,_,h6,a0,by omega,Yy (show _<=1000 by simp;omega) (by decide),hR _ _ ⟨S.take a.toNat++m::S.drop a.toNat,?_,?_,rfl,?_,?_,?_⟩⟩
  ·simp;omega
  ·simp;omega
  ·simpa using P7
  ·simpa using e7
  ·rw[Zd];simp
 clear sl0 sl1 P6 e6 h6 S
 rintro σ H6 ⟨S,sl0,sl1,rfl,P6,e6,h6⟩
 refine Zcd (fun σ Hx=>∃S:List Int,S.length<=T'.length+2/\σ=[some (.ref p),some (.ref t),some (.ref l),some (.int wy),some (.int a),some (.int b),some (.int m),none]/\Zv Hx p/\Exc p H Hx/\Hx l=some (.lst (S.map V.int))) (λR hR=>?_) ?_
 ·walk_at "rd"
  refine ZR (λz=>⟨by decide,λq hq=>?_⟩) λz=>hR _ _ ⟨S,by omega,rfl,P6,e6,h6⟩
  obtain⟨P7,e7⟩:=fr (o:=.lst []) P6 e6 hq
  obtain⟨P8,e8⟩:=ed (o:=.lst ((S.take a.toNat++S.drop (a+1).toNat).map V.int)) P7 e7
  refine⟨_,((Zh.refl H6).upd hq) _ _ h6,_,Zd,Zs h6 hq,a0,by omega,by rw[Yi];omega,szl (by rw[Yi];omega) (by simp),hR _ _ ⟨S.take a.toNat++S.drop (a+1).toNat,?_,rfl,?_,?_,?_⟩⟩
  ·simp;omega
  ·simpa using P8
  ·simpa using e8
  ·rw[Zd];simp
 clear sl0 sl1 P6 e6 h6 S
 rintro σ H6 ⟨S,sl1,rfl,P6,e6,h6⟩
 refine Zcd (fun σ Hx=>∃(S:List Int) (v7:Option V),S.length<=T'.length+2/\σ=[some (.ref p),some (.ref t),some (.ref l),some (.int wy),some (.int a),some (.int b),some (.int m),v7]/\Zv Hx p/\Exc p H Hx/\Hx l=some (.lst (S.map V.int))) (λR hR=>?_) ?_
 ·walk_at "rd"
  obtain⟨a',rfl⟩:=YM a0
  obtain⟨b',rfl⟩:=YM b0
  refine ZR (λz=>⟨_,SqL.of h6,λq1 hq1=>⟨Yn _,λq2 hq2=>?_⟩⟩) λz=>hR _ _ ⟨S,none,sl1,rfl,P6,e6,h6⟩
  rw[ZgN,<-List.map_drop]at hq2⊢
  obtain⟨P7,e7⟩:=fr (o:=.lst ((S.drop a').map V.int)) P6 e6 hq1
  obtain⟨P8,e8⟩:=fr (o:=.lst []) P7 e7 hq2
  have u2:Zh H6 (upd (upd H6 q1 (.lst ((S.drop a').map V.int))) q2 (.lst [])):=((Zh.refl H6).upd hq1).ZC hq2
  have g1:(upd (upd H6 q1 (.lst ((S.drop a').map V.int))) q2 (.lst [])) q1=some (.lst ((S.drop a').map V.int)):=((Zh.refl _).ZC hq2) _ _ Zd
  have g2:(upd (upd H6 q1 (.lst ((S.drop a').map V.int))) q2 (.lst [])) q2=some (.lst []):=Zd
  generalize (upd (upd H6 q1 (.lst ((S.drop a').map V.int))) q2 (.lst []))=H8 at u2 g1 g2 P8 e8⊢
  refine⟨_,ZhN (n:=2) Zf7 _ _ (S.drop a') [] (Zdr (SqL.of g1)) (Zdr (ns:=[]) (SqL.of g2)),ZR (λy=>⟨_,SqL.of (u2 _ _ h6),λq3 hq3=>⟨Yn _,λq4 hq4=>?_⟩⟩) (λy=>hR _ _ ⟨S,none,sl1,rfl,P8,e8,u2 _ _ h6⟩)⟩
  rw[ZgN,<-List.map_drop]at hq4⊢
  obtain⟨P9,e9⟩:=fr (o:=.lst ((S.drop b').map V.int)) P8 e8 hq3
  obtain⟨P10,e10⟩:=fr (o:=.lst []) P9 e9 hq4
  have u4:Zh H8 (upd (upd H8 q3 (.lst ((S.drop b').map V.int))) q4 (.lst [])):=((Zh.refl H8).upd hq3).ZC hq4
  have g3:(upd (upd H8 q3 (.lst ((S.drop b').map V.int))) q4 (.lst [])) q3=some (.lst ((S.drop b').map V.int)):=((Zh.refl _).ZC hq4) _ _ Zd
  have g4:(upd (upd H8 q3 (.lst ((S.drop b').map V.int))) q4 (.lst [])) q4=some (.lst []):=Zd
  have h10:=(u2.trans u4) _ _ h6
  generalize (upd (upd H8 q3 (.lst ((S.drop b').map V.int))) q4 (.lst []))=H10 at u4 g3 g4 P10 e10 h10⊢
  refine⟨_,ZhN (n:=2) Zf7 _ _ (S.drop b') [] (Zdr (SqL.of g3)) (Zdr (ns:=[]) (SqL.of g4)),ZR (λy2=>?_) (λy2=>hR _ _ ⟨S,none,sl1,rfl,P10,e10,h10⟩)⟩
  have ha:a'<S.length:=by
   have:=of_decide_eq_false y
   rw[List.drop_eq_nil_iff]at this;omega
  have hb:b'<S.length:=by
   have:=of_decide_eq_false y2
   rw[List.drop_eq_nil_iff]at this;omega
  have em1:(S.map V.int).set a' (V.int (nth S b'))=(S.set a' (nth S b')).map V.int:=by rw[List.map_set]
  have em2:((S.set a' (nth S b')).map V.int).set b' (V.int (nth S a'))=((S.set a' (nth S b')).set b' (nth S a')).map V.int:=by simp[List.map_set]
  obtain⟨P11,e11⟩:=ed (o:=.lst ((S.set a' (nth S b')).map V.int)) P10 e10
  obtain⟨P12,e12⟩:=ed (o:=.lst (((S.set a' (nth S b')).set b' (nth S a')).map V.int)) P11 e11
  refine⟨_,SqL.of h10,_,Zbi ha,_,SqL.of h10,_,Zbi hb,_,h10,a',by rw[Yi];exact Zgc ha,?_⟩
  rw[em1]
  refine⟨_,Zd,b',by rw[Yi,List.length_set];exact Zgc hb,?_⟩
  rw[em2]
  exact hR _ _ ⟨_,_,by rw[List.length_set,List.length_set];exact sl1,rfl,P12,e12,Zd⟩
 clear sl1 P6 e6 h6 S
 rintro σ H6 ⟨S,v7,sl1,rfl,P6,e6,h6⟩
 refine Zcd (fun σ Hx=>∃(l':Addr) (S:List Int),S.length<=T'.length+2/\σ=[some (.ref p),some (.ref t),some (.ref l'),some (.int wy),some (.int a),some (.int b),some (.int m),v7]/\Zv Hx p/\Exc p H Hx/\Hx l'=some (.lst (S.map V.int))) (λR hR=>?_) ?_
 ·walk_at "rd"
  obtain⟨a',rfl⟩:=YM a0
  refine ZR (λz=>⟨_,SqL.of h6,λq1 hq1=>⟨_,SqL.of (((Zh.refl H6).upd hq1) _ _ h6),λq2 hq2=>?_⟩⟩) λz=>hR _ _ ⟨l,S,sl1,rfl,P6,e6,h6⟩
  rw[ZgN,Zpm,<-List.map_drop,<-List.map_take]at *
  obtain⟨P7,e7⟩:=fr (o:=.lst ((S.drop a').map V.int)) P6 e6 hq1
  obtain⟨P8,e8⟩:=fr (o:=.lst ((S.take a').map V.int)) P7 e7 hq2
  refine⟨_,((Zh.refl _).ZC hq2) _ _ Zd,_,Zd,szl (by simp;omega) (by simp;omega),λq3 hq3=>?_⟩
  obtain⟨P9,e9⟩:=fr (o:=.lst ((S.drop a'++S.take a').map V.int)) P8 e8 hq3
  refine hR _ _ ⟨q3,S.drop a'++S.take a',by simp;omega,rfl,?_,?_,?_⟩
  ·simpa using P9
  ·simpa using e9
  ·rw[Zd];simp
 clear sl1 P6 e6 h6 S
 rintro σ H6 ⟨l',S,sl1,rfl,P6,e6,h6⟩
 walk_at "rd"
 refine⟨_,.inl ⟨SqL.of h6,λt' ht'=>?_⟩⟩
 obtain⟨P7,e7⟩:=fr (o:=.tup (S.map V.int)) P6 e6 ht'
 exact k1 t' S _ Zd sl1 P7 e7
theorem Zkg {f:Addr}{fd:FuncData} (F:Fun K "fences_of" "fences_of" Zbm f fd) (ZdB:Callee P w K mg base "way_up" 1 ["tree","place"] (Zfj K mg)) (T:Txt K mg):FnOk P w K mg base (CXE P w) 2 f fd ["tree"] (Zcw K mg):=by
 refine F.okX ZaX (λvs H Q E h=>?_) (λcdv A outer s H vs Q E hr h=>?_)
 ·obtain⟨t,ns,T,rfl,_⟩:=h;rfl
 obtain⟨t,ns,T',rfl,ht,hT,hn,k1⟩:=h
 refine⟨_,(Zc (Zk (i:=1) ZaX.nd rfl (Or.inl rfl) (ZJ Zb))
   (Zc (Zbh (Za4 PassesOwn.never rfl (ZF rfl T.b_range (Za (Zg (Zo (K:=K) rfl) rfl T.b_len Yk (Za (pv 0) Zb)) Zb)) (Zr (i:=2) ZaX.nd rfl (Or.inr rfl)) (Zc (Zk (i:=3) ZaX.nd rfl (Or.inl rfl) (Zi ZdB (hr.mono (by decide)) rfl Zy (Za (pv 0) (Za (pv 2) Zb))))
   (Zc (Zk (i:=4) ZaX.nd rfl (Or.inl rfl) (Zq0 (K:=K) rfl rfl rfl T.b_max (Za (Zav ["elder","place"] [none,some 2] rfl rfl rfl (Zf2 (pv 3)) (λ_ _ _ _ _=>(Zr (i:=0) (show(["elder","place"]:List Str).Nodup from by decide +kernel) rfl (Or.inl rfl))) (λ_ _ _ _ _=>ZeF (Zn Zep (pv 0) (pv 1) (Zp _))) (λ_ _ _ _ _=>(pv 0)) ZG) Zb) (Zmz (Zhk ZeC Ze) ZoU)))
   (Zc (Zk (i:=5) ZaX.nd rfl (Or.inl rfl) (Zq1 (K:=K) rfl rfl rfl T.b_min (Za (Zav ["elder","place"] [none,some 2] rfl rfl rfl (Zf2 (pv 3)) (λ_ _ _ _ _=>(Zr (i:=0) (show(["elder","place"]:List Str).Nodup from by decide +kernel) rfl (Or.inl rfl))) (λ_ _ _ _ _=>ZeF (Zn ZeD (pv 0) (pv 1) (Zp _))) (λ_ _ _ _ _=>(pv 0)) ZG) Zb) (Zmz (Zg (Zo (K:=K) rfl) rfl T.b_len Yk (Za (pv 0) Zb)) ZoU)))
   (Zf (ZU (Zcc PySem.F.plainAttrs_list PySem.F.slot_list_append PySem.F.type_list_append Zam (pv 1) (Za (ZhW (Za (pv 4) (Za (pv 5) Zb))) Zb)))))))))
   (Zf (Zt (pv 1))))),?_⟩
 walk_at "rd"
 have eT:T'.length=ns.length:=hT.1
 have eL:(T'.map V.int).length=T'.length:=Yi ..
 refine⟨Yn _,λp hp=>?_⟩
 have s0:Zh H (upd H p (.lst [])):=(Zh.refl H).upd hp
 refine⟨_,.inr (SqT.of (s0 _ _ ht)),by omega,by rw[eL];omega,?_⟩
 have en:(((T'.map V.int).length:Nat):Int).toNat=ns.length:=by rw[eL];omega
 rw[en]
 have h0:Zbd (upd H p (.lst [])) p 0 (λp=>(ZcT (nth ns) p,ZbI (nth ns) ns.length p)):=⟨[],Zd,rfl,λj q hq=>by simp at hq⟩
 generalize upd H p (.lst [])=H0 at s0 h0⊢
 refine Zay (λi σ Hx=>∃v2 v3 v4 v5,σ=[some (.ref t),some (.ref p),v2,v3,v4,v5]/\Zbd Hx p i (λp=>(ZcT (nth ns) p,ZbI (nth ns) ns.length p))/\Zh H Hx) ⟨_,_,_,_,rfl,h0,s0⟩ ?_ ?_
 ·rintro i σ Hx hi ⟨v2,v3,v4,v5,rfl,hP,sx⟩
  have e0:((0:Int)+(i:Int))=(i:Int):=by omega
  rw[e0]
  have hpi:i<ns.length:=hi
  have hw1:(Zgd T' i).length<=1000:=by simp only[Zgd,Yi];exact Yg (ZkZ _ _ _) (by omega)
  refine Zcd (fun σ Hy=>∃w:Addr,σ=[some (.ref t),some (.ref p),some (.int (i:Int)),some (.ref w),v4,v5]/\Hy w=some (.lst ((Zgd T' i).map V.int))/\Zbd Hy p i (λp=>(ZcT (nth ns) p,ZbI (nth ns) ns.length p))/\Zh H Hy) (λR hR=>?_) ?_
  ·walk_at "rd"
   exact⟨t,T',i,rfl,sx _ _ ht,by omega,by omega,λw H1 hw s1 h1=>hR _ _ ⟨w,rfl,h1,hP.same s1,sx.trans s1⟩⟩
  rintro σ Hy ⟨w,rfl,hw,hP1,sy⟩
  refine Zcd (fun σ Hz=>σ=[some (.ref t),some (.ref p),some (.int (i:Int)),some (.ref w),some (.int (ZcT (nth ns) i)),v5]/\Hz w=some (.lst ((Zgd T' i).map V.int))/\Zbd Hz p i (λp=>(ZcT (nth ns) p,ZbI (nth ns) ns.length p))/\Zh H Hz) (λR hR=>?_) ?_
  ·walk_at "rd"
   refine⟨⟨_,SqL.of hw⟩,Zjs (λo=>decide (o<(i:Int))) hw hw1 (λx Hy R hR=>?_) λl H2 s2 hl=>?_⟩
   ·walk_at "rd"
    exact hR
   have FA:=Zpq hT hpi
   have g:=s2.ZC (o:=.lst (((Zgd T' i).filter λo=>decide (o<(i:Int))).map V.int)) hl
   refine⟨l,rfl,_,SqL.of Zd,λe=>?_,λhne m hm hmax=>?_⟩
   ·rw[<-FA.1 e]
    exact hR _ _ ⟨rfl,g _ _ hw,hP1.same g,sy.trans g⟩
   ·rw[FA.2 hne m hm hmax]
    exact hR _ _ ⟨rfl,g _ _ hw,hP1.same g,sy.trans g⟩
  clear hw hP1 sy Hy
  rintro σ Hy ⟨rfl,hw,hP1,sy⟩
  refine Zcd (fun σ Hz=>σ=[some (.ref t),some (.ref p),some (.int (i:Int)),some (.ref w),some (.int (ZcT (nth ns) i)),some (.int (ZbI (nth ns) ns.length i))]/\Zbd Hz p i (λp=>(ZcT (nth ns) p,ZbI (nth ns) ns.length p))/\Zh H Hz) (λR hR=>?_) ?_
  ·walk_at "rd"
   refine⟨⟨_,SqL.of hw⟩,Zjs (λo=>decide ((i:Int)<o)) hw hw1 (λx Hy R hR=>?_) λl H2 s2 hl=>?_⟩
   ·walk_at "rd"
    exact hR
   have FB:=Zpr hT hpi
   have g:=s2.ZC (o:=.lst (((Zgd T' i).filter λo=>decide ((i:Int)<o)).map V.int)) hl
   refine⟨_,.inr (SqT.of ((sy.trans g) _ _ ht)),l,rfl,_,SqL.of Zd,λe=>?_,λhne m hm hmin=>?_⟩
   ·rw[eL,eT,<-FB.1 e]
    exact hR _ _ ⟨rfl,hP1.same g,sy.trans g⟩
   ·rw[FB.2 hne m hm hmin]
    exact hR _ _ ⟨rfl,hP1.same g,sy.trans g⟩
  clear hw hP1 sy Hy
  rintro σ Hy ⟨rfl,hP1,sy⟩
  walk_at "rd"
  obtain⟨qs,hq1,hq2,hq3⟩:=id hP1
  refine⟨Zab hq1,by decide,λq hq=>?_⟩
  have g:=(Zh.refl Hy).upd (o:=.tup [.int (ZcT (nth ns) i),.int (ZbI (nth ns) ns.length i)]) hq
  obtain⟨xs,hx1,hx2,hx3⟩:=(hP1.same g).push (q:=q) Zd
  have zp:H p=none:=hp
  refine⟨xs,hx1,Yy (show _<=1000 by omega) (by decide),hx3,λb o z=>?_⟩
  rw[Zm (Zs z zp)]
  exact(sy.trans g) b o z
 ·rintro σ Hx ⟨v2,v3,v4,v5,rfl,hP,sx⟩
  walk_at "rd"
  exact k1 p Hx sx hP
theorem ZgY {f:Addr}{fd:FuncData} (F:Fun K "distance_list" "distance_list" Z8 f fd) (Zbq:Callee P w K mg base "fences_of" 2 ["tree"] (Zcw K mg)) (T:Txt K mg):FnOk P w K mg base (CXE P w) 3 f fd ["tree"] (ZbR K mg):=by
 refine F.okX ZgX (λvs H Q E h=>?_) (λcdv A outer s H vs Q E hr h=>?_)
 ·obtain⟨t,ns,T,rfl,_⟩:=h;rfl
 obtain⟨t,ns,T',rfl,ht,hT,hn,k1⟩:=h
 refine⟨_,(Zf (Zt (Zav ["place","ahead","behind"] [none,none,none] rfl rfl rfl (ZqZ (K:=K) rfl rfl T.b_enumerate (Za (Zi Zbq (hr.mono (by decide)) rfl Zy (Za (pv 0) Zb)) Zb)) (λ_ _ _ _ _=>(ZmF (K:=K) (n:=2) rfl rfl (Zat (Zr (i:=0) (show(["place","ahead","behind"]:List Str).Nodup from by decide +kernel) rfl (Or.inl rfl)) (Zat (ZmF (K:=K) (n:=2) rfl rfl (Zat (Zr (i:=1) (show(["place","ahead","behind"]:List Str).Nodup from by decide +kernel) rfl (Or.inl rfl)) (Zat (Zr (i:=2) (show(["place","ahead","behind"]:List Str).Nodup from by decide +kernel) rfl (Or.inl rfl)) Ze7))) Ze7)))) (λ_ _ _ _ _=>Za9) (λ_ _ _ _ _=>(ZoI (Zn op_ge (pv 1) Ze (Zp _)) (Zl Zar (pv 0) (pv 1)) Ze)) (ZkL (Ze8 ZG (Ze8 (ZkL (Ze8 ZG (Ze8 ZG ZkK))) ZkK)))))),?_⟩
 walk_at "rd"
 refine⟨t,ns,T',rfl,ht,hT,hn,λl H1 s1 hP=>?_⟩
 obtain⟨qs,h1,h2,h3⟩:=hP
 refine⟨l,rfl,_,SqL.of h1,comp_map (n:=ns.length) (λq=>V.int (ZT (nth ns) q)) (Yy (show _<=1000 by omega) (by decide)) (λj Hx s hj=>⟨_,_,SqL.of (s _ _ h1),Yf (by simpa[h2]using hj)⟩) (λHx s=>⟨_,SqL.of (s _ _ h1),by simp[h2]⟩) ?_ ?_⟩
 ·rintro j x Hx Hy hj s ⟨p,x,hp,rfl,rfl,hx⟩
  have hx1:=hx _ (SqL.of (s _ _ h1))
  obtain⟨q,hq⟩:∃q,qs[j]?=some q:=⟨qs[j]'(by omega),Yf (by omega)⟩
  rw[YD,hq]at hx1
  cases hx1
  have hq1:=s _ _ (h3 j q hq)
  have hq2:=((Zh.refl Hx).upd (o:=.tup [.int (j:Int),.ref q]) hp) _ _ hq1
  walk_at "rd"
  refine⟨_,SqT.of Zd,rfl,_,_,rfl,_,_,rfl,_,rfl,_,SqT.of hq2,rfl,_,_,rfl,_,_,rfl,rfl,rfl,_,rfl,ZR (λz=>⟨_,rfl,_,rfl,CW.next hj ?_ (s.ZC hp)⟩) λz=>CW.next hj ?_ (s.ZC hp)⟩
  ·unfold ZT;rw[Yc z]
  ·unfold ZT;rw[Yb z]
 ·intro l' Hx s hl'
  have ed:(List.range ns.length).map (λq=>V.int (ZT (nth ns) q))=(Zba ns).map V.int:=by simp[Zba]
  rw[ed]
  exact k1 l' _ ((s1.trans s).ZC hl') Zd
theorem ZhD {f:Addr}{fd:FuncData} (F:Fun K "distances_of" "distances_of" Zan f fd) (Zbr:Callee P w K mg base "need_tree" 4 ["tree"] (Zcv K mg)) (Zcj:Callee P w K mg base "distance_list" 3 ["tree"] (ZbR K mg)) (T:Txt K mg):FnOk P w K mg base (CXE P w) 5 f fd ["tree"] (Zci K mg):=by
 refine F.okX ZhC (λvs H Q E h=>?_) (λcdv A outer s H vs Q E hr h=>?_)
 ·obtain⟨t,T,rfl,_⟩:=h;rfl
 obtain⟨t,T',rfl,ht,hn,k⟩:=h
 refine⟨_,(Zc (ZU (Zi Zbr (hr.mono (by decide)) rfl ZdL (Za (pv 0) Zb)))
   (Zf (Zt (ZK (Zaz (K:=K) rfl) rfl T.b_tuple Zau (Za (Zi Zcj (hr.mono (by decide)) rfl Zy (Za (pv 0) Zb)) Zb))))),?_⟩
 walk_at "rd"
 refine⟨t,T',rfl,ht,hn,λg H1 s1=>?_,λg H1 s1=>?_⟩
 ·rcases k with⟨ns,h40,hT,k1⟩|⟨ng,_⟩
  ·have:=hT.1
   exact⟨t,ns,T',rfl,s1 _ _ ht,hT,by omega,λl H2 s2 hl=>⟨l,rfl,_,.inl ⟨SqL.of hl,λt' ht'=>k1 t' _ ((s1.trans s2).ZC ht') Zd⟩⟩⟩
  ·exact absurd g ng
 ·rcases k with⟨ns,h40,hT,k1⟩|⟨ng,k2⟩
  ·exact absurd ⟨h40,ns,hT⟩ g
  ·exact k2 H1 s1
theorem Zlb {f:Addr}{fd:FuncData} (F:Fun K "drops_of" "drops_of" ZbM f fd) (Zbr:Callee P w K mg base "need_tree" 4 ["tree"] (Zcv K mg)) (Zbq:Callee P w K mg base "fences_of" 2 ["tree"] (Zcw K mg)) (T:Txt K mg):FnOk P w K mg base (CXE P w) 5 f fd ["tree"] (ZcY K mg):=by
 refine F.okX ZcZ (λvs H Q E h=>?_) (λcdv A outer s H vs Q E hr h=>?_)
 ·obtain⟨t,T,rfl,_⟩:=h;rfl
 obtain⟨t,T',rfl,ht,hn,k⟩:=h
 refine⟨_,(Zc (ZU (Zi Zbr (hr.mono (by decide)) rfl ZdL (Za (pv 0) Zb)))
   (Zc (Zk (i:=1) ZcZ.nd rfl (Or.inl rfl) (Zl ZjS (ZJ (Za Ze Zb)) (Zg (Zo (K:=K) rfl) rfl T.b_len Yk (Za (pv 0) Zb))))
   (Zc (Zbh (Za4 PassesOwn.never rfl (Zf2 (Zi Zbq (hr.mono (by decide)) rfl Zy (Za (pv 0) Zb))) (ZhU (n:=2) rfl (Zat (Zr (i:=2) ZcZ.nd rfl (Or.inl rfl)) (Zat (Zr (i:=3) ZcZ.nd rfl (Or.inl rfl)) Ze7))) (Zf (ZE (Zn Zep (pv 3) (Zg (Zo (K:=K) rfl) rfl T.b_len Yk (Za (pv 0) Zb)) (Zp _)) (Zf (ZqN (pv 1) (pv 3) (Zpt (K:=K) rfl) Ze ZoN set_list)) Zw))))
   (Zf (Zt (ZK (Zaz (K:=K) rfl) rfl T.b_tuple Zau (Za (pv 1) Zb))))))),?_⟩
 have eL:(T'.map V.int).length=T'.length:=Yi ..
 refine Zcd (fun σ Hx=>∃ns:List Int,σ=[some (.ref t),none,none,none]/\T'.length<=40/\Z4 ns T'/\(∀(u:Addr) H',Zh H H'->H' u=some (.tup (Zq (ZA (nth ns) ns.length)))->Q (.ref u) H')/\Zh H Hx) (λR hR=>?_) ?_
 ·walk_at "rd"
  refine⟨t,T',rfl,ht,hn,λg H1 s1=>?_,λg H1 s1=>?_⟩
  ·rcases k with⟨ns,h40,hT,k1⟩|⟨ng,_⟩
   ·exact hR _ _ ⟨ns,rfl,h40,hT,k1,s1⟩
   ·exact absurd g ng
  ·rcases k with⟨ns,h40,hT,k1⟩|⟨ng,k2⟩
   ·exact absurd ⟨h40,ns,hT⟩ g
   ·exact k2 _ s1
 clear k
 rintro σ H1 ⟨ns,rfl,h40,hT,k1,s1⟩
 have eT:=hT.1
 refine Zcd (fun σ Hx=>∃dl:Addr,σ=[some (.ref t),some (.ref dl),none,none]/\H dl=none/\Hx dl=some (.lst (((List.range ns.length).map λk=>(((List.range 0).countP (λp=>decide (ZbI (nth ns) ns.length p=((k:Nat):Int))):Nat):Int)).map V.int))/\Hx t=some (.tup (T'.map V.int))/\Zh H Hx) (λR hR=>?_) ?_
 ·walk_at "rd"
  refine⟨by decide,λp hp=>⟨_,.inr (SqT.of (((Zh.refl H1).upd hp) _ _ (s1 _ _ ht))),_,Zd,by omega,by rw[eL];omega,?_,λdl hdl=>?_⟩⟩
  ·exact Yg (show _<=1000 by simp;omega) (by decide)
  have s2:=s1.ZC (o:=.lst [V.int 0]) hp
  refine hR _ _ ⟨dl,rfl,s2.free hdl,?_,(s2.ZC hdl) _ _ ht,s2.ZC hdl⟩
  rw[Zd,eL,YJ,eT,List.flatten_replicate_singleton,YN]
  congr 2
  refine(List.eq_replicate_iff.mpr ⟨by simp,λb hb=>?_⟩).symm
  simp at hb
  exact hb.2.symm
 clear s1 H1
 rintro σ H1 ⟨dl,rfl,zd,hdl,ht1,s1⟩
 refine Zcd (fun σ Hx=>∃v2 v3,σ=[some (.ref t),some (.ref dl),v2,v3]/\Hx dl=some (.lst (((List.range ns.length).map λk=>(((List.range ns.length).countP (λp=>decide (ZbI (nth ns) ns.length p=((k:Nat):Int))):Nat):Int)).map V.int))/\Zh H Hx) (λR hR=>?_) ?_
 ·walk_at "rd"
  refine⟨t,ns,T',rfl,ht1,hT,by omega,λl H2 s2 hP=>⟨l,rfl,?_⟩⟩
  obtain⟨qs,h1,h2,h3⟩:=hP
  refine⟨⟨_,SqL.of h1⟩,?_⟩
  have hd2:=s2 _ _ hdl
  have nld:0<ns.length->l≠dl:=λhpos z=>by
   rw[z,hd2]at h1
   have:=congrArg (λo=>match o with|some (HO.lst (V.int _::_))=>true|_=>false) h1
   match qs,h2,this with
   |[],h2,_=>simp at h2;omega
   |q::qs,_,this =>
    obtain⟨m,hm⟩:∃m,ns.length=m+1:=⟨ns.length-1,by omega⟩
    rw[hm,List.range_succ_eq_map]at this
    simp at this
  by_cases hpos:0<ns.length
  case neg =>
   have hn0:ns.length=0:=by omega
   refine ZfE (n:=ns.length) (λj σ Hx=>σ=[some (.ref t),some (.ref dl),none,none]/\Hx=H2) ⟨rfl,rfl⟩ (λj σ Hx hj _=>absurd hj (by omega)) (fun σ Hx ⟨_,e⟩=>e▸⟨_,SqL.of h1,by rw[Yi];omega⟩) (λj x σ Hx Hx' hj=>absurd hj (by omega)) ?_
   rintro σ Hx ⟨rfl,rfl⟩
   refine hR _ _ ⟨_,_,rfl,?_,s1.trans s2⟩
   rw[hd2,hn0]
  refine ZfE (n:=ns.length) (λj σ Hx=>∃v2 v3,σ=[some (.ref t),some (.ref dl),v2,v3]/\Hx dl=some (.lst (((List.range ns.length).map λk=>(((List.range j).countP (λp=>decide (ZbI (nth ns) ns.length p=((k:Nat):Int))):Nat):Int)).map V.int))/\(0<ns.length->Hx l=some (.lst (qs.map V.ref)))/\(∀(j:Nat) (q:Addr),qs[j]?=some q->Hx q=some (.tup [.int (ZcT (nth ns) j),.int (ZbI (nth ns) ns.length j)]))/\Hx t=some (.tup (T'.map V.int))/\Zh H Hx) ⟨_,_,rfl,hd2,λ_=>h1,λj q hq=>h3 j q hq,s2 _ _ ht1,s1.trans s2⟩ (λj σ Hx hj ⟨_,_,_,_,hx,_⟩=>⟨_,_,SqL.of (hx (by omega)),Yf (by rw[Yi];omega)⟩) ?_ ?_ ?_
  ·rintro σ Hx ⟨v2,v3,rfl,hxd,hxl,hxq,hxt,sx⟩
   exact⟨_,SqL.of (hxl hpos),by rw[Yi];omega⟩
  ·rintro j x σ Hx Hx' hj ⟨v2,v3,rfl,hxd,hxl,hxq,hxt,sx⟩ ⟨rfl,hx⟩
   have ex:=hx _ (SqL.of (hxl (by omega)))
   obtain⟨q,hq⟩:∃q,qs[j]?=some q:=⟨qs[j]'(by omega),Yf (by omega)⟩
   rw[YD,hq]at ex
   cases ex
   have hq1:=hxq j q hq
   obtain⟨b1,b2,b3,b4⟩:=Zj7 (f:=nth ns) hj
   obtain⟨fb,hfb⟩:=YM (show 0<=ZbI (nth ns) ns.length j by omega)
   rw[hfb]at hq1 b3 b4
   refine⟨q,_,rfl,SqT.of hq1,rfl,_,_,rfl,_,_,rfl,rfl,?_⟩
   walk_at "rd"
   refine⟨_,.inr (SqT.of hxt),?_⟩
   rw[eL,eT]
   have stp:∀k:Nat,((List.range (j+1)).countP (λp=>decide (ZbI (nth ns) ns.length p=((k:Nat):Int))))=(List.range j).countP (λp=>decide (ZbI (nth ns) ns.length p=((k:Nat):Int)))+if fb=k then 1 else 0:=λk=>by
    rw[YF,List.countP_append,List.countP_singleton,hfb]
    by_cases e:fb=k
    ·rw[Yc e,Yc (by simp[e])]
    ·rw[Yb e,Yb (by simp;omega)]
   refine ZR (λz=>?_) λz=>?_
   ·have nq:∀q xs,Hx' q=some (.tup xs)->q≠dl:=λq xs h z=>by rw[z,hxd]at h;cases h
    refine⟨_,SqL.of hxd,_,Zbi (show fb < _ by simp;omega),_,rfl,_,hxd,fb,by rw[Yi,Yi,Y6];exact Zgc (by omega),?_,λ_=>by rw[Zm (nld hpos)];exact hxl hpos,λj q hq=>by rw[Zm (nq _ _ (hxq j q hq))];exact hxq j q hq,by rw[Zm (nq _ _ hxt)];exact hxt,sx.upd zd⟩
    rw[Zd,Zbb (by omega),<-List.map_set,ZiT]
    congr 3
    refine List.map_congr_left λk hk=>?_
    rw[stp k]
    by_cases e:k=fb
    ·rw[Yc e,Yc e.symm,<-e];omega
    ·rw[Yb e,Yb (λy=>e y.symm)];omega
   ·refine⟨?_,hxl,hxq,hxt,sx⟩
    rw[hxd]
    congr 3
    refine List.map_congr_left λk hk=>?_
    have:=YA.mp hk
    rw[stp k,Yb (by omega)];rfl
  ·rintro σ Hx ⟨v2,v3,rfl,hxd,hxl,hxq,hxt,sx⟩
   exact hR _ _ ⟨_,_,rfl,hxd,sx⟩
 clear s1 hdl ht1 H1
 rintro σ H1 ⟨v2,v3,rfl,hd,s1⟩
 walk_at "rd"
 refine⟨_,.inl ⟨SqL.of hd,λu hu=>k1 u _ (s1.ZC hu) ?_⟩⟩
 rw[Zd]
 congr 2
 unfold Zq ZA
 rw[YN,YN]
 refine List.map_congr_left λk hk=>?_
 show V.int _=V.int _
 rw[<-Zk6 (YA.mp hk)]
theorem Zio {f:Addr}{fd:FuncData} (F:Fun K "brackets_of" "brackets_of" ZaA f fd) (ZbT:Callee P w K mg base "drops_of" 5 ["tree"] (ZcY K mg)) (T:Txt K mg):FnOk P w K mg base (CXE P w) 6 f fd ["tree"] (ZcI K mg):=by
 refine F.okX ZcJ (λvs H Q E h=>?_) (λcdv A outer s H vs Q E hr h=>?_)
 ·obtain⟨t,T,rfl,_⟩:=h;rfl
 obtain⟨t,T',rfl,ht,hn,k⟩:=h
 refine⟨_,(Zc (Zk (i:=1) ZcJ.nd rfl (Or.inl rfl) (Zi ZbT (hr.mono (by decide)) rfl ZdL (Za (pv 0) Zb)))
   (Zc (Zk (i:=2) ZcJ.nd rfl (Or.inl rfl) (Zl Zar (Zg (Zo (K:=K) rfl) rfl T.b_len Yk (Za (pv 1) Zb)) (Zg (ZgS (K:=K) rfl rfl) rfl T.b_sum ZjZ (Za (pv 1) Zb))))
   (Zf (Zt (Zl Zah (Zcc PySem.F.plainAttrs_str PySem.F.slot_str_join PySem.F.type_str_join (Zj9 (K:=K) rfl) Z7 (Za (Zav ["drop"] [none] rfl rfl rfl (ZoP (pv 1)) (λ_ _ _ _ _=>(Zr (i:=0) (show(["drop"]:List Str).Nodup from by decide +kernel) rfl (Or.inl rfl))) (λ_ _ _ _ _=>Za9) (λ_ _ _ _ _=>(Zl Zah (Zl ZhO Z7 (pv 0)) Z7)) ZG) Zb)) (Zl ZhO Z7 (pv 2))))))),?_⟩
 walk_at "rd"
 refine⟨t,T',rfl,ht,hn,k.imp (λ⟨ns,h40,hT,k1⟩=>⟨ns,h40,hT,λu H1 s1 hu=>?_⟩) id⟩
 have eT:=hT.1
 have hD:=Zju (nth ns) ns.length
 have ld:=ZdS (nth ns) ns.length
 generalize ZA (nth ns) ns.length=ds at hu k1 hD ld
 have hsum:=ZdT hD
 have hu':=hu
 rw[Zfh]at hu'
 have hl:(Zq ds).length=ds.length:=ZL ds
 refine⟨u,rfl,_,.inr (SqT.of hu),u,rfl,_,SqT.of hu',rfl,u,rfl,⟨_,SqT.of hu⟩,?_⟩
 refine comp_map (n:=ds.length) (λj=>V.str (txt (List.replicate (ds.getD j 0) 41++[40]))) (Yy (show _<=1000 by omega) (by decide)) (λj Hx s hj=>⟨_,_,SqT.of (s _ _ hu),Yf (by rw[hl];exact hj)⟩) (λHx s=>⟨_,SqT.of (s _ _ hu),Y5 hl⟩) ?_ ?_
 ·rintro j x Hx Hy hj s ⟨rfl,hx⟩
  have ex:=hx _ (SqT.of (s _ _ hu))
  have ed:(Zq ds)[j]?=some (V.int (ds.getD j 0:Nat)):=by simp[Zq,Yj,hj]
  rw[ed]at ex
  cases ex
  have hd1:ds.getD j 0<=40:=by
   have:=hD j hj
   have:=Zif ds j
   omega
  walk_at "rd"
  refine⟨by omega,by omega,by rw[ZV,Z6];decide,?_,?_⟩
  ·rw[ZV,Zdu,ZcW,Z6,Z6,List.length_replicate,YJ]
   exact Yg (show ds.getD j 0+1<=1000 by omega) (by decide)
  ·refine CW.next hj ?_ s
   rw[ZV,Zdu,ZcW,Zfg,YJ]
 ·intro l Hx sx hl1
  have el:(List.range ds.length).map (λj=>V.str (txt (List.replicate (ds.getD j 0) 41++[40])))=((ds.map λd=>List.replicate d 41++[40]).map txt).map V.str:=by
   rw[YN,YN]
   refine List.ext_getElem (by simp) λj j1 j2=>?_
   have:j<ds.length:=by simpa using j1
   simp[Yj,this]
  have ef:(ds.map λd=>List.replicate d 41++[40]).flatten=ZbL ds:=rfl
  have lb:=Zdw ds
  refine⟨l,rfl,_,SqL.of (by rw[Zd,el]),ZfG (by rw[ef];omega),?_,?_,by rw[ZV,Z6];decide,?_,?_⟩
  ·rw[hl,Zaw];omega
  ·rw[hl,Zaw];omega
  ·rw[Zdv,ef,ZV,ZcW,Z6,Z6,List.length_replicate,lb,hl,Zaw]
   exact Yg (show _<=1000 by omega) (by decide)
  ·rw[Zdv,ef,ZV,ZcW,Zfg,hl,Zaw,show(((ds.length:Nat):Int)-((ds.sum:Nat):Int)).toNat=ds.length-ds.sum by omega]
   exact k1 _ (s1.trans (sx.ZC hl1))
theorem ZgZ {f:Addr}{fd:FuncData} (F:Fun K "_law_brackets" "_law_brackets" Z9 f fd) (T:Txt K mg):FnOk P w K mg base (CXE P w) 1 f fd ["drops"] (ZbQ K mg):=by
 refine F.okX ZdA (λvs H Q E h=>?_) (λcdv A outer s H vs Q E hr h=>?_)
 ·obtain⟨t,ds,rfl,_⟩:=h;rfl
 obtain⟨u,ds,rfl,hu,hn,hD,k1⟩:=h
 refine⟨_,(Zc (Zk (i:=1) ZdA.nd rfl (Or.inl rfl) (Zcc PySem.F.plainAttrs_str PySem.F.slot_str_join PySem.F.type_str_join (Zj9 (K:=K) rfl) Z7 (Za (Zav ["many"] [none] rfl rfl rfl (ZoP (pv 0)) (λ_ _ _ _ _=>(Zr (i:=0) (show(["many"]:List Str).Nodup from by decide +kernel) rfl (Or.inl rfl))) (λ_ _ _ _ _=>Za9) (λ_ _ _ _ _=>(Zl Zah (Zl ZhO Z7 (pv 0)) Z7)) ZG) Zb)))
   (Zf (Zt (Zl Zah (pv 1) (Zl ZhO Z7 (Zl Zar (Zg (Zo (K:=K) rfl) rfl T.b_len Yk (Za (pv 0) Zb)) (Zg (ZgS (K:=K) rfl rfl) rfl T.b_sum ZjZ (Za (pv 0) Zb)))))))),?_⟩
 walk_at "rd"
 have hsum:=ZdT hD
 have hu':=hu
 rw[Zfh]at hu'
 have hl:(Zq ds).length=ds.length:=ZL ds
 refine⟨rfl,⟨_,SqT.of hu⟩,?_⟩
 refine comp_map (n:=ds.length) (λj=>V.str (txt (List.replicate (ds.getD j 0) 41++[40]))) (Yy (show _<=1000 by omega) (by decide)) (λj Hx s hj=>⟨_,_,SqT.of (s _ _ hu),Yf (by rw[hl];exact hj)⟩) (λHx s=>⟨_,SqT.of (s _ _ hu),Y5 hl⟩) ?_ ?_
 ·rintro j x Hx Hy hj s ⟨rfl,hx⟩
  have ex:=hx _ (SqT.of (s _ _ hu))
  have ed:(Zq ds)[j]?=some (V.int (ds.getD j 0:Nat)):=by simp[Zq,Yj,hj]
  rw[ed]at ex
  cases ex
  have hd1:ds.getD j 0<=40:=by
   have:=hD j hj
   have:=Zif ds j
   omega
  walk_at "rd"
  refine⟨by omega,by omega,by rw[ZV,Z6];decide,?_,?_⟩
  ·rw[ZV,Zdu,ZcW,Z6,Z6,List.length_replicate,YJ]
   exact Yg (show ds.getD j 0+1<=1000 by omega) (by decide)
  ·refine CW.next hj ?_ s
   rw[ZV,Zdu,ZcW,Zfg,YJ]
 ·intro l Hx sx hl1
  have el:(List.range ds.length).map (λj=>V.str (txt (List.replicate (ds.getD j 0) 41++[40])))=((ds.map λd=>List.replicate d 41++[40]).map txt).map V.str:=by
   rw[YN,YN]
   refine List.ext_getElem (by simp) λj j1 j2=>?_
   have:j<ds.length:=by simpa using j1
   simp[Yj,this]
  have ef:(ds.map λd=>List.replicate d 41++[40]).flatten=ZbL ds:=rfl
  have lb:=Zdw ds
  have sy:=sx.ZC (o:=.lst ((List.range ds.length).map (λj=>V.str (txt (List.replicate (ds.getD j 0) 41++[40]))))) hl1
  refine⟨l,rfl,_,SqL.of (by rw[Zd,el]),ZfG (by rw[ef];omega),_,.inr (SqT.of (sy _ _ hu)),_,SqT.of (sy _ _ hu'),?_,?_,by rw[ZV,Z6];decide,?_,?_⟩
  ·rw[hl,Zaw];omega
  ·rw[hl,Zaw];omega
  ·rw[Zdv,ef,ZV,ZcW,Z6,Z6,List.length_replicate,lb,hl,Zaw]
   exact Yg (show _<=1000 by omega) (by decide)
  ·rw[Zdv,ef,ZV,ZcW,Zfg,hl,Zaw,show(((ds.length:Nat):Int)-((ds.sum:Nat):Int)).toNat=ds.length-ds.sum by omega]
   exact k1 _ sy
theorem Zgn {f:Addr}{fd:FuncData} (F:Fun K "_law_are_drops" "_law_are_drops" Z3 f fd) (T:Txt K mg):FnOk P w K mg base (CXE P w) 1 f fd ["told"] (Zbx K mg):=by
 refine F.okX Zgm (λvs H Q E h=>?_) (λcdv A outer s H vs Q E hr h=>?_)
 ·obtain⟨t,ds,rfl,_⟩:=h;rfl
 obtain⟨t,ds,rfl,ht,hn,k1⟩:=h
 refine⟨_,(Zc (ZE (Zn ZeD (Zg (Zo (K:=K) rfl) rfl T.b_len Yk (Za (pv 0) Zb)) Ze (Zp _)) (Zf (Zt Zdo)) Zw)
   (Zf (Zt (Zg (Zh2 (K:=K) rfl rfl) rfl T.b_all ZlI (Za (Zav ["place","told"] [none,some 0] rfl rfl rfl (ZF rfl T.b_range (Za (Zg (Zo (K:=K) rfl) rfl T.b_len Yk (Za (pv 0) Zb)) Zb)) (λ_ _ _ _ _=>(Zr (i:=0) (show(["place","told"]:List Str).Nodup from by decide +kernel) rfl (Or.inl rfl))) (λ_ _ _ _ _=>Za9) (λ_ _ _ _ _=>(ZkF Zf3 Zf3 Ze (ZZ (r:=rIxT K) ZdK (pv 1) (pv 0) (λ_ _=>rfl)) (Zl Zar (pv 0) (Zg (ZgS (K:=K) rfl rfl) rfl T.b_sum ZjZ (Za (Zal (r:=rSlT K) sl_tup (pv 1) ZaO (ZaP (pv 0))) Zb))))) ZG) Zb))))),?_⟩
 walk_at "rd"
 have eL:(ds.map V.int).length=ds.length:=Yi ..
 refine⟨_,.inr ht,ZR (λz=>?_) λz=>⟨_,.inr ht,by omega,by rw[eL];omega,?_⟩⟩
 ·exact k1 _ _ (Zh.refl H) ⟨(λy=>nomatch y),λg=>by have:=g.1;rw[eL]at z;omega⟩
 rw[eL]at z⊢
 have e1:((ds.length:Nat):Int).toNat=ds.length:=by omega
 rw[e1]
 refine comp_map (n:=ds.length) (λj=>V.bl (decide (0<=nth ds j/\nth ds j<=(j:Int)-(ds.take j).sum))) (Yy hn (by decide)) (λj Hx s hj=>hj) (λHx s=>Yd _) ?_ ?_
 ·rintro j x Hx Hy hj s ⟨rfl,rfl⟩
  have e0:((0:Int)+(j:Int))=(j:Int):=by omega
  rw[e0]
  walk_at "rd"
  refine⟨_,s.ZlJ ht,_,Zbi hj,_,rfl,ZR (λy=>?_) λy=>CW.next hj (by rw[YB (λh=>y h.1)]) s⟩
  refine⟨t,_,rfl,s.ZlJ ht,?_,λp hp=>?_⟩
  ·rintro⟨_,y2⟩
   rw[HT.ZqQ,eL,Nat.min_eq_left (by omega)]at y2
   omega
  ·rw[Zpm]
   refine⟨p,rfl,ds.take j,by rw[List.map_take];exact SqT.of Zd,_,rfl,CW.next hj (by congr 1;simp[y]) (s.ZC hp)⟩
 ·intro r Hx s hr2
  walk_at "rd"
  have ee:(List.range ds.length).map (λj=>V.bl (decide (0<=nth ds j/\nth ds j<=(j:Int)-(ds.take j).sum)))=((List.range ds.length).map λj=>decide (0<=nth ds j/\nth ds j<=(j:Int)-(ds.take j).sum)).map V.bl:=by simp[Function.comp_def]
  refine⟨_,by rw[<-ee];exact SqL.of Zd,?_⟩
  refine k1 _ _ (s.ZC hr2) ?_
  simp only[List.all_eq_true,YG,YA,id]
  constructor
  ·intro h
   exact⟨by omega,λp hp=>by simpa using h _ ⟨p,hp,rfl⟩⟩
  ·rintro h b ⟨p,hp,rfl⟩
   exact YK (h.2 p hp)
theorem Zeu {f:Addr}{fd:FuncData} (F:Fun K "_law_are_distances" "_law_are_distances" ZH f fd) (T:Txt K mg):FnOk P w K mg base (CXE P w) 1 f fd ["told"] (ZaC K mg):=by
 refine F.okX ZO (λvs H Q E h=>?_) (λcdv A outer s H vs Q E hr h=>?_)
 ·obtain⟨t,ds,rfl,_⟩:=h;rfl
 obtain⟨t,ds,rfl,ht,hn,k1⟩:=h
 refine⟨_,(Zc (ZE (Zn ZeD (Zg (Zo (K:=K) rfl) rfl T.b_len Yk (Za (pv 0) Zb)) Ze (Zp _)) (Zf (Zt Zdo)) Zw)
   (Zc (Zbh (Za4 PassesOwn.never rfl (Zid (K:=K) rfl rfl T.b_enumerate (Za (pv 0) Zb)) (ZhU (n:=2) rfl (Zat (Zr (i:=1) ZO.nd rfl (Or.inl rfl)) (Zat (Zr (i:=2) ZO.nd rfl (Or.inl rfl)) Ze7))) (Zc (ZE (PW.pt (ZkB (Zn Zep (pv 2) Ze (Zp _)) (ZhS (Zn ZeD (pv 2) (pv 1) (Zp _))))) (Zf (Zt Zdo)) Zw)
   (Zc (Zk (i:=3) ZO.nd rfl (Or.inr rfl) (Zl Zar (pv 1) (pv 2)))
   (Zc (Zk (i:=4) ZO.nd rfl (Or.inl rfl) (ZK (Zh8 rfl) rfl T.b_list ZmD (Za (ZnL rfl T.b_range (Za (Zl ZY (pv 3) Ze) (Za (pv 1) Zb))) Zb)))
   (Zf (ZE (PW.pt (ZhT (Zn ZeD (pv 2) Ze (Zp _)) (ZhK (Zex (ZdI (Zg (Zh2 (K:=K) rfl rfl) rfl T.b_all ZlI (Za (Zav ["k","told","first"] [none,some 0,some 3] rfl rfl rfl (Zf2 (pv 4)) (λ_ _ _ _ _=>(Zr (i:=0) (show(["k","told","first"]:List Str).Nodup from by decide +kernel) rfl (Or.inl rfl))) (λ_ _ _ _ _=>Za9) (λ_ _ _ _ _=>(ZkF Zep Zf3 Ze (ZZ (r:=rIxT K) ZdK (pv 1) (pv 0) (λ_ _=>rfl)) (Zl Zar (pv 0) (pv 2)))) ZG) Zb))))))) (Zf (Zt Zdo)) Zw)))))))
   (Zf (Zt Zdo)))),?_⟩
 walk_at "rd"
 have eL:(ds.map V.int).length=ds.length:=Yi ..
 refine⟨_,.inr ht,ZR (λz=>?_) λz=>⟨_,ht,?_⟩⟩
 ·exact k1 _ _ (Zh.refl H) ⟨(λy=>nomatch y),λg=>by have:=g.1;rw[eL]at z;omega⟩
 rw[eL]at z
 refine ZfE (n:=ds.length) (λi σ Hx=>∃(v1 v2 v3 v4:Option V),σ=[some (.ref t),v1,v2,v3,v4]/\Zh H Hx/\∀p,p<i->0<=nth ds p/\nth ds p<=p/\(0<nth ds p->∀k:Nat,(p:Int)-nth ds p<k->k<p->0<nth ds k/\nth ds k<=k-(p-nth ds p))) ⟨none,none,none,none,rfl,Zh.refl H,λp hp=>absurd hp (by omega)⟩ (λi σ Hx hi ⟨_,_,_,_,_,sx,_⟩=>⟨_,_,sx.ZlJ ht,Yf (by omega)⟩) (fun σ Hx ⟨_,_,_,_,_,sx,_⟩=>⟨_,sx.ZlJ ht,eL⟩) ?_ ?_
 ·rintro i x σ Hx Hx' hi ⟨v1,v2,v3,v4,rfl,sx,hC⟩ ⟨q,x,hq,rfl,rfl,hx⟩
  have ex:=hx _ (sx.ZlJ ht)
  rw[YD,Yf hi]at ex
  cases ex
  have eg:ds[i]=nth ds i:=by simp[nth,Yj,hi]
  rw[eg]
  have g:=(Zh.refl Hx).upd (o:=.tup [.int (i:Int),.int (nth ds i)]) hq
  have tq:(upd Hx q (.tup [.int (i:Int),.int (nth ds i)])) q=some (.tup [.int (i:Int),.int (nth ds i)]):=Zd
  replace sx:=sx.trans g
  generalize upd Hx q (.tup [.int (i:Int),.int (nth ds i)])=Hy at sx tq⊢
  clear g hx hq Hx
  walk_at "rd"
  refine⟨_,SqT.of tq,rfl,_,_,rfl,_,_,rfl,rfl,?_⟩
  refine⟨_,rfl,ZR (λz1=>?_) λz1=>⟨_,rfl,_,rfl,ZR (λz2=>?_) λz2=>⟨_,rfl,_,rfl,_,rfl,by omega,by omega,by omega,by omega,λp hp=>⟨_,_,Zd,by omega,by omega,by omega,by omega,by omega,λl hl=>?_⟩⟩⟩⟩
  ·exact k1 _ _ sx ⟨(λy=>nomatch y),λg=>absurd (g.2 i hi).1 (by omega)⟩
  ·exact k1 _ _ sx ⟨(λy=>nomatch y),λg=>absurd (g.2 i hi).2.1 (by omega)⟩
  have g1:=(Zh.refl Hy).upd (o:=.rng ((i:Int)-nth ds i+1) i) hp
  have g2:=g1.ZC (o:=.lst ((List.range ((i:Int)-((i:Int)-nth ds i+1)).toNat).map λ(k:Nat)=>V.int ((i:Int)-nth ds i+1+(k:Int)))) hl
  have hl2:=Zd (H:=upd Hy p (.rng ((i:Int)-nth ds i+1) i)) (a:=l) (o:=.lst ((List.range ((i:Int)-((i:Int)-nth ds i+1)).toNat).map λ(k:Nat)=>V.int ((i:Int)-nth ds i+1+(k:Int))))
  generalize upd (upd Hy p (.rng ((i:Int)-nth ds i+1) i)) l (.lst ((List.range ((i:Int)-((i:Int)-nth ds i+1)).toNat).map λ(k:Nat)=>V.int ((i:Int)-nth ds i+1+(k:Int))))=Hz at g2 hl2⊢
  replace sx:=sx.trans g2
  generalize hN:((i:Int)-((i:Int)-nth ds i+1)).toNat=N at hl2⊢
  refine⟨_,rfl,ZR (λz3=>⟨⟨_,SqL.of hl2⟩,?_⟩) λz3=>?_⟩
  ·refine comp_map (n:=N) (λj=>V.bl (decide (0<nth ds (i-(nth ds i).toNat+1+j)/\nth ds (i-(nth ds i).toNat+1+j)<=(((i-(nth ds i).toNat+1+j:Nat):Int))-((i:Int)-nth ds i)))) (Yy (show _<=1000 by omega) (by decide)) (λj Hx s hj=>⟨_,_,SqL.of (s _ _ hl2),Yf (by simpa using hj)⟩) (λHx s=>⟨_,SqL.of (s _ _ hl2),by simp⟩) ?_ ?_
   ·rintro j x Hx Hw hj s ⟨rfl,hx⟩
    have ex:=hx _ (SqL.of (s _ _ hl2))
    rw[YD,List.getElem?_range hj]at ex
    cases ex
    have ek:(i:Int)-nth ds i+1+(j:Int)=((i-(nth ds i).toNat+1+j:Nat):Int):=by omega
    dsimp only
    rw[ek]
    have hk:i-(nth ds i).toNat+1+j<ds.length:=by omega
    walk_at "rd"
    exact⟨_,(sx.trans s).ZlJ ht,_,Zbi hk,_,rfl,ZR (λy=>⟨_,rfl,CW.next hj (by congr 1;simp[y]) s⟩) λy=>CW.next hj (by rw[YB (λh=>y h.1)]) s⟩
   ·intro r Hx s hr2
    walk_at "rd"
    have ee:(List.range N).map (λj=>V.bl (decide (0<nth ds (i-(nth ds i).toNat+1+j)/\nth ds (i-(nth ds i).toNat+1+j)<=(((i-(nth ds i).toNat+1+j:Nat):Int))-((i:Int)-nth ds i))))=((List.range N).map λj=>decide (0<nth ds (i-(nth ds i).toNat+1+j)/\nth ds (i-(nth ds i).toNat+1+j)<=(((i-(nth ds i).toNat+1+j:Nat):Int))-((i:Int)-nth ds i))).map V.bl:=by simp[Function.comp_def]
    have sF:=(sx.trans s).ZC (o:=.lst ((List.range N).map (λj=>V.bl (decide (0<nth ds (i-(nth ds i).toNat+1+j)/\nth ds (i-(nth ds i).toNat+1+j)<=(((i-(nth ds i).toNat+1+j:Nat):Int))-((i:Int)-nth ds i)))))) hr2
    refine⟨_,by rw[<-ee];exact SqL.of Zd,ZR (λy=>?_) λy=>⟨sF,λp hp=>?_⟩⟩
    ·refine k1 _ _ sF ⟨(λy=>nomatch y),λg=>?_⟩
     have hg:=(g.2 i hi).2.2 z3
     have:((List.range N).map λj=>decide (0<nth ds (i-(nth ds i).toNat+1+j)/\nth ds (i-(nth ds i).toNat+1+j)<=(((i-(nth ds i).toNat+1+j:Nat):Int))-((i:Int)-nth ds i))).all id=true:=by
      simp only[List.all_eq_true,YG,YA,id]
      rintro b ⟨j,hj,rfl⟩
      exact YK (hg _ (by omega) (by omega))
     rw[this]at y
     cases y
    ·by_cases e:p=i
     ·subst e
      refine⟨by omega,by omega,λ_ k k3 k4=>?_⟩
      have y':=Bool.not_eq_false _▸y
      simp only[List.all_eq_true,YG,YA,id]at y'
      have:=Y8 (y' _ ⟨k-(p-(nth ds p).toNat+1),by omega,rfl⟩)
      rw[show p-(nth ds p).toNat+1+(k-(p-(nth ds p).toNat+1))=k by omega]at this
      exact this
     ·exact hC p (by omega)
  ·refine⟨sx,λp hp=>?_⟩
   by_cases e:p=i
   ·subst e;exact⟨by omega,by omega,λy=>absurd y z3⟩
   ·exact hC p (by omega)
 ·rintro σ Hx ⟨v1,v2,v3,v4,rfl,sx,hC⟩
  walk_at "rd"
  exact k1 _ _ sx ⟨λ_=>⟨by omega,hC⟩,λ_=>rfl⟩
theorem Ziq (ds:List Nat):∀i,(∀q∈(Zx ds i).1,q<i)/\(Zx ds i).1.length=ZbJ ds i/\(Zx ds i).2.length=ds.length
 |0=>⟨λq h=>absurd h (by simp[Zx]),rfl,by simp[Zx]⟩
 |i+1=>by
  obtain⟨h1,h2,h3⟩:=Ziq ds i
  refine⟨λq hq=>?_,?_,?_⟩
  ·simp only[Zx,Yt,YY]at hq
   rcases hq with hq|hq
   ·have:=h1 q (List.mem_of_mem_take hq);omega
   ·omega
  ·simp only[Zx,Yr,YX,YE,List.length_nil,ZbJ]
   rw[h2];omega
  ·simp only[Zx]
   rw[Zgb];exact h3
theorem Zg0 (ds:List Int):∀p,p<=ds.length->Zka ds p->((ZbJ (ds.map Int.toNat) p:Nat):Int)=p-(ds.take p).sum
 |0,_,_=>by simp[ZbJ]
 |p+1,hp,h=>by
  have ih:=Zg0 ds p (by omega) λk hk=>h k (by omega)
  have h1:=h p (by omega)
  have e1:(ds.map Int.toNat).getD p 0=(nth ds p).toNat:=by simp[nth,Yj,show p<ds.length by omega]
  have e2:(ds.take (p+1)).sum=(ds.take p).sum+nth ds p:=by
   have eg:ds[p]'(by omega)=nth ds p:=by simp[nth,Yj,show p<ds.length by omega]
   rw[YR,Yf (show p<ds.length by omega),List.sum_append,eg]
   simp
  simp only[ZbJ]
  rw[e1,e2]
  omega
theorem ZdY (ds:List Int):ZaJ ds↔ds.length<=40/\Zka ds ds.length:=by
 refine⟨λh=>⟨h.1,?_⟩,λh=>⟨h.1,λp hp=>?_⟩⟩
 ·have:∀i,i<=ds.length->Zka ds i:=λi=>by
   induction i with
   |zero=>intro _ k hk;omega
   |succ i ih =>
    intro hi k hk
    by_cases e:k=i
    ·subst e
     have h1:=h.2 k (by omega)
     have h2:=Zg0 ds k (by omega) (ih (by omega))
     exact⟨h1.1,by omega⟩
    ·exact ih (by omega) k (by omega)
  exact this _ (Yd _)
 ·have h1:=h.2 p hp
  have h2:=Zg0 ds p (by omega) λk hk=>h.2 k (by omega)
  exact⟨h1.1,by omega⟩
theorem ZiY {f:Addr}{fd:FuncData} (F:Fun K "need_short" "need_short" ZaR f fd) (T:Txt K mg):FnOk P w K mg base (CXE P w) 1 f fd ["told"] (Zb7 K mg):=by
 refine F.okX ZiU (λvs H Q E h=>?_) (λcdv A outer s H vs Q E hr h=>?_)
 ·obtain⟨t,xs,rfl,_⟩:=h;rfl
 obtain⟨t,xs,rfl,ht,hn,k1,k2⟩:=h
 refine⟨_,(Zf (ZE (PW.pt (ZkB (Zex (ZdI (Zg (ZP (K:=K) rfl) rfl T.b_isinstance Zu (Za (pv 0) (Za (ZhJ (v:=.ty "tuple") rfl T.b_tuple Zau rfl) Zb))))) (ZhS (Zn ZeD (Zg (Zo (K:=K) rfl) rfl T.b_len Yk (Za (pv 0) Zb)) (Zaq (v:=.int 40) rfl T.m_MOST_PLACES ⟨_,rfl⟩) (Zp _))))) (Zf (Zdq rfl rfl T.c_NoTelling T.x_NoTelling (Za (Ze9 (ZdM (by decide) (ZjY (Zaq (v:=.int 40) rfl T.m_MOST_PLACES ⟨_,rfl⟩) (ZdM (by decide) ZjX)))) Zb) Zfa)) Zw)),?_⟩
 walk_at "rd"
 refine⟨true,.inl ⟨_,.tup ht,ZkR⟩,ZR (λz=>nomatch z) λ_=>⟨_,.inr (SqT.of ht),ZR (λz=>?_) λz=>k1 (by omega)⟩⟩
 exact⟨by omega,by decide,λy=>⟨by decide,k2 (by omega) _ (Zh.refl H)⟩⟩
theorem Zma {f:Addr}{fd:FuncData} (F:Fun K "kept_by" "kept_by" ZcG f fd) (T:Txt K mg):FnOk P w K mg base (CXE P w) 1 f fd ["spine","place","distance"] (ZfI K mg):=by
 refine F.okX Zl7 (λvs H Q E h=>?_) (λcdv A outer s H vs Q E hr h=>?_)
 ·obtain⟨sp,A,i,d,rfl,_⟩:=h;rfl
 obtain⟨sp,S,i,d,rfl,hsp,hpw,hlen,hi,k1,k2⟩:=h
 refine⟨_,(Zc (ZE (Zn ZaE (pv 2) Ze (Zp _)) (Zf (Zt Ze)) Zw)
   (Zc (ZE (Zn (ZnM (K:=K) rfl) (Zl Zar (pv 1) (pv 2)) (pv 0) (by with_unfolding_all rfl)) (Zf (Zdq rfl rfl T.c_NoTelling T.x_NoTelling (Za (Ze9 (ZdM (by decide) (ZjY (pv 1) (ZdM (by decide) ZjX)))) Zb) Zfa)) Zw)
   (Zf (Zt (Zl ZY (Zcc PySem.F.plainAttrs_list PySem.F.slot_list_index PySem.F.type_list_index (Zpf (K:=K) rfl) (pv 0) (Za (Zl Zar (pv 1) (pv 2)) Zb)) Ze))))),?_⟩
 walk_at "rd"
 by_cases z:d=0
 ·rw[Yc z]
  exact k1 [] S rfl (.inl ⟨rfl,z⟩)
 rw[Yb z]
 rw[ZlX]at hsp
 refine⟨_,.inl (SqL.of hsp),rfl,ZnN _,?_⟩
 rw[ZqY]
 by_cases y:∃q∈S,(i:Int)-d=(q:Nat)
 ·obtain⟨q,hq,e⟩:=y
  rw[e]
  have hm:(q:Int)∈S.map λq=>((q:Nat):Int):=YG.mpr ⟨q,hq,rfl⟩
  rw[Yb (by simp[hm])]
  refine⟨Zab hsp,_,SqL.of hsp,by rw[Yi];omega,hm,?_⟩
  obtain⟨A1,B,hAB⟩:=List.append_of_mem hq
  have hAB':S=A1++[q]++B:=by rw[hAB];simp
  rw[hAB']at hpw
  rw[hAB',Zq2 hpw]
  have:=k1 (A1++[q]) B hAB' (.inr ⟨A1,q,rfl,e⟩)
  rw[Yr]at this
  exact this
 ·have hm:(i:Int)-d∉S.map λq=>((q:Nat):Int):=λh=>by
   obtain⟨q,hq,e⟩:=YG.mp h
   exact y ⟨q,hq,e.symm⟩
  rw[Yc (YB hm)]
  exact⟨by omega,by omega,λ_=>⟨by decide,k2 (λw=>w.elim z y)⟩⟩
theorem ZhE {f:Addr}{fd:FuncData} (F:Fun K "by_distances" "by_distances" Zao f fd) (ZbA:Callee P w K mg base "settle" 1 ["elders","spine","place","keep"] (Zdz K mg)) (ZaY:Callee P w K mg base "need_short" 1 ["told"] (Zb7 K mg)) (Zg4:Callee P w K mg base "kept_by" 1 ["spine","place","distance"] (ZfI K mg)) (T:Txt K mg):FnOk P w K mg base (CXE P w) 2 f fd ["told"] (Zch K mg):=by
 refine F.okX Zax (λvs H Q E h=>?_) (λcdv A outer s H vs Q E hr h=>?_)
 ·obtain⟨t,ns,rfl,_⟩:=h;rfl
 obtain⟨t,ds,rfl,ht,hn,k1,k2⟩:=h
 refine⟨_,(Zc (ZU (Zi ZaY (hr.mono (by decide)) rfl ZdL (Za (pv 0) Zb)))
   (Zc (Zk (i:=1) Zax.nd rfl (Or.inl rfl) (Zl ZjS (ZJ (Za (Zhk ZeC Ze) Zb)) (Zg (Zo (K:=K) rfl) rfl T.b_len Yk (Za (pv 0) Zb))))
   (Zc (Zk (i:=2) Zax.nd rfl (Or.inl rfl) (ZJ Zb))
   (Zc (Za4 PassesOwn.leaving rfl (Zid (K:=K) rfl rfl T.b_enumerate (Za (pv 0) Zb)) (ZhU (n:=2) rfl (Zat (Zr (i:=3) Zax.nd rfl (Or.inl rfl)) (Zat (Zr (i:=4) Zax.nd rfl (Or.inl rfl)) Ze7))) (Zf (ZU (Zi ZbA (hr.mono (by decide)) rfl Zy (Za (pv 1) (Za (pv 2) (Za (pv 3) (Za (Zi Zg4 (hr.mono (by decide)) rfl ZdL (Za (pv 2) (Za (pv 3) (Za (pv 4) Zb)))) Zb))))))))
   (Zf (Zt (ZK (Zaz (K:=K) rfl) rfl T.b_tuple Zau (Za (pv 1) Zb)))))))),?_⟩
 walk_at "rd"
 have eL:(ds.map V.int).length=ds.length:=Yi ..
 refine⟨t,_,rfl,ht,by rw[eL];exact hn,λz40=>⟨by decide,λp hp=>⟨_,.inr (SqT.of (((Zh.refl H).upd hp) _ _ ht)),_,Zd,by omega,by rw[eL];omega,?_,λel hel=>⟨Yn _,λsp hsp=>?_⟩⟩⟩,λz40 H' s'=>k2 (λg=>by have:=g.1;rw[eL]at z40;omega) _ s'⟩
 ·exact Yg (show _<=1000 by simp;omega) (by decide)
 have en:(((ds.map V.int).length:Nat):Int).toNat=ds.length:=by rw[eL];omega
 have s0:Zh H (upd (upd (upd H p (.lst [V.int (-1)])) el (.lst (List.replicate (((ds.map V.int).length:Nat):Int).toNat [V.int (-1)]).flatten)) sp (.lst [])):=(((Zh.refl H).upd hp).ZC hel).ZC hsp
 refine⟨_,SqT.of (s0 _ _ ht),?_⟩
 have hel0:(upd (upd (upd H p (.lst [V.int (-1)])) el (.lst (List.replicate (((ds.map V.int).length:Nat):Int).toNat [V.int (-1)]).flatten)) sp (.lst [])) el=some (.lst ((List.replicate ds.length (-1:Int)).map V.int)):=by
  have:=((Zh.refl _).ZC (o:=.lst []) hsp) el _ Zd
  rw[this,en];simp
 have hsp0:(upd (upd (upd H p (.lst [V.int (-1)])) el (.lst (List.replicate (((ds.map V.int).length:Nat):Int).toNat [V.int (-1)]).flatten)) sp (.lst [])) sp=some (.lst (Zq [])):=Zd
 have nes:el≠sp:=λz=>by
  subst z
  rw[Zd]at hsp;cases hsp
 have zel:H el=none:=((Zh.refl H).upd hp).free hel
 have zsp:H sp=none:=(((Zh.refl H).upd hp).ZC hel).free hsp
 rw[en]at hel0 hsp0 s0⊢
 generalize (upd (upd (upd H p (.lst [V.int (-1)])) el (.lst (List.replicate ds.length [V.int (-1)]).flatten)) sp (.lst []))=H0 at s0 hel0 hsp0⊢
 refine ZfE (n:=ds.length) (λi σ Hx=>∃(es:List Int) (S:List Nat) (v3 v4:Option V),σ=[some (.ref t),some (.ref el),some (.ref sp),v3,v4]/\Hx el=some (.lst (es.map V.int))/\Hx sp=some (.lst (Zq S))/\es.length=ds.length/\(∀p,i<=p->p<ds.length->es.getD p 0=-1)/\Zgi ds.length i S es ds/\Zh H Hx/\∀p,p<i->ADAt ds p)
  ⟨List.replicate ds.length (-1),[],none,none,rfl,hel0,hsp0,by simp,(λp _ hp=>by simp[Yj,hp]),Zl6 _ _ _,s0,λk hk=>absurd hk (by omega)⟩ (λi σ Hx hi ⟨_,_,_,_,_,_,_,_,_,_,sx,_⟩=>⟨_,_,SqT.of (sx _ _ ht),Yf (by rw[eL];exact hi)⟩) (fun σ Hx ⟨_,_,_,_,_,_,_,_,_,_,sx,_⟩=>⟨_,SqT.of (sx _ _ ht),eL⟩) ?_ ?_
 ·rintro i x σ Hx Hx' hi ⟨es,S,v3,v4,rfl,hxe,hxs,hesl,hE2,hG,sx,hA⟩ ⟨q,x,hq,rfl,rfl,hx⟩
  have ex:=hx _ (SqT.of (sx _ _ ht))
  rw[YD,Yf hi]at ex
  cases ex
  have eg:ds[i]=nth ds i:=by simp[nth,Yj,hi]
  rw[eg]
  have g:=(Zh.refl Hx).upd (o:=.tup [.int (i:Int),.int (nth ds i)]) hq
  have tq:(upd Hx q (.tup [.int (i:Int),.int (nth ds i)])) q=some (.tup [.int (i:Int),.int (nth ds i)]):=Zd
  replace sx:=sx.trans g
  replace hxe:=g _ _ hxe
  replace hxs:=g _ _ hxs
  generalize upd Hx q (.tup [.int (i:Int),.int (nth ds i)])=Hy at sx hxe hxs tq⊢
  clear g hx hq Hx
  have hSlt:=hG.lt
  have hG0:=hG
  obtain⟨f,hS,_,_,hD⟩:=hG0
  have hSl:S.length<=1000:=by
   rcases ZlN S i 0 hS.1 (λq hq=>⟨Yn _,hSlt q hq⟩)with z|z
   ·omega
   ·rw[z];simp
  have hiff:=ad_iff hD hS
  refine⟨q,_,rfl,SqT.of tq,rfl,_,_,rfl,_,_,rfl,rfl,?_⟩
  clear tq
  walk_at "rd"
  refine⟨sp,S,i,_,rfl,hxs,hS.1,hSl,by omega,λA' B hAB hd=>?_,λhb=>k2 (λgd=>hb (hiff.mp (gd.2 i hi))) _ sx⟩
  have hok:ADAt ds i:=hiff.mpr (by
   rcases hd with⟨_,z⟩|⟨A1,q,e1,e2⟩
   ·exact .inl z
   ·exact .inr ⟨q,by rw[hAB,e1];simp,e2⟩)
  subst hAB
  refine⟨el,sp,es,A',B,i,rfl,hxe,hxs,nes,by omega,λq hq=>by have:=hSlt q hq;omega,hSl,λH' q1 q2 q3=>?_⟩
  have hbi:∀b,B.head?=some b->b≠i:=λb hb=>by
   have:=hSlt b (Yp _ (List.mem_of_head? hb));omega
  refine⟨Zds es A' B i,q2,A'++[i],q3,by rw[Zgb];exact hesl,λp p1 p2=>?_,hG.step hi hesl (hE2 i (Yd _) hi) hd,λb o z=>q1 b o (Zs z zel) (Zs z zsp) (sx b o z),λk hk=>?_⟩
  ·rw[Zfd _ _ _ _ _ (by omega) hbi,Yb (by omega),Yb (λz=>?_)]
   ·exact hE2 p (by omega) p2
   ·have:=hSlt p (Yp _ (List.mem_of_head? z));omega
  ·by_cases e:k=i
   ·subst e;exact hok
   ·exact hA k (by omega)
 ·rintro σ Hx ⟨es,S,v3,v4,rfl,hxe,hxs,hesl,hE2,hG,sx,hA⟩
  walk_at "rd"
  obtain⟨ns,hT,hds⟩:=hG.tree hesl rfl
  exact⟨_,.inl ⟨SqL.of hxe,λu hu=>k1 ⟨by rw[eL]at z40;exact z40,λp hp=>hA p hp⟩ u ns es _ (sx.ZC hu) hT hds Zd⟩⟩
theorem Zlc {f:Addr}{fd:FuncData} (F:Fun K "by_drops" "by_drops" ZbN f fd) (ZbA:Callee P w K mg base "settle" 1 ["elders","spine","place","keep"] (Zdz K mg)) (ZaY:Callee P w K mg base "need_short" 1 ["told"] (Zb7 K mg)) (T:Txt K mg):FnOk P w K mg base (CXE P w) 2 f fd ["told"] (ZcX K mg):=by
 refine F.okX Zce (λvs H Q E h=>?_) (λcdv A outer s H vs Q E hr h=>?_)
 ·obtain⟨t,xs,rfl,_⟩:=h;rfl
 obtain⟨t,ds,rfl,ht,hn,k1,k2⟩:=h
 refine⟨_,(Zc (ZU (Zi ZaY (hr.mono (by decide)) rfl ZdL (Za (pv 0) Zb)))
   (Zc (Zk (i:=1) Zce.nd rfl (Or.inl rfl) (Zl ZjS (ZJ (Za (Zhk ZeC Ze) Zb)) (Zg (Zo (K:=K) rfl) rfl T.b_len Yk (Za (pv 0) Zb))))
   (Zc (Zk (i:=2) Zce.nd rfl (Or.inl rfl) (ZJ Zb))
   (Zc (Za4 PassesOwn.leaving rfl (Zid (K:=K) rfl rfl T.b_enumerate (Za (pv 0) Zb)) (ZhU (n:=2) rfl (Zat (Zr (i:=3) Zce.nd rfl (Or.inl rfl)) (Zat (Zr (i:=4) Zce.nd rfl (Or.inl rfl)) Ze7))) (Zc (ZE (Zex (ZkG Zf3 Zf3 Ze (pv 4) (Zg (Zo (K:=K) rfl) rfl T.b_len Yk (Za (pv 2) Zb)))) (Zf (Zdq rfl rfl T.c_NoTelling T.x_NoTelling (Za (Ze9 (ZdM (by decide) (ZjY (pv 3) ZjX))) Zb) Zfa)) Zw)
   (Zf (ZU (Zi ZbA (hr.mono (by decide)) rfl Zy (Za (pv 1) (Za (pv 2) (Za (pv 3) (Za (Zl Zar (Zg (Zo (K:=K) rfl) rfl T.b_len Yk (Za (pv 2) Zb)) (pv 4)) Zb)))))))))
   (Zf (Zt (ZK (Zaz (K:=K) rfl) rfl T.b_tuple Zau (Za (pv 1) Zb)))))))),?_⟩
 walk_at "rd"
 have eL:(ds.map V.int).length=ds.length:=Yi ..
 refine⟨t,_,rfl,ht,by rw[eL];exact hn,λz40=>⟨by decide,λp hp=>⟨_,.inr (SqT.of (((Zh.refl H).upd hp) _ _ ht)),_,Zd,by omega,by rw[eL];omega,?_,λel hel=>⟨Yn _,λsp hsp=>?_⟩⟩⟩,λz40 H' s'=>k2 (λg=>by have:=g.1;rw[eL]at z40;omega) _ s'⟩
 ·exact Yg (show _<=1000 by simp;omega) (by decide)
 have en:(((ds.map V.int).length:Nat):Int).toNat=ds.length:=by rw[eL];omega
 have s0:Zh H (upd (upd (upd H p (.lst [V.int (-1)])) el (.lst (List.replicate (((ds.map V.int).length:Nat):Int).toNat [V.int (-1)]).flatten)) sp (.lst [])):=(((Zh.refl H).upd hp).ZC hel).ZC hsp
 refine⟨_,SqT.of (s0 _ _ ht),?_⟩
 have hel0:(upd (upd (upd H p (.lst [V.int (-1)])) el (.lst (List.replicate (((ds.map V.int).length:Nat):Int).toNat [V.int (-1)]).flatten)) sp (.lst [])) el=some (.lst ((List.replicate ds.length (-1:Int)).map V.int)):=by
  have:=((Zh.refl _).ZC (o:=.lst []) hsp) el _ Zd
  rw[this,en];simp
 have hsp0:(upd (upd (upd H p (.lst [V.int (-1)])) el (.lst (List.replicate (((ds.map V.int).length:Nat):Int).toNat [V.int (-1)]).flatten)) sp (.lst [])) sp=some (.lst (Zq [])):=Zd
 have nes:el≠sp:=λz=>by
  subst z
  rw[Zd]at hsp;cases hsp
 have zel:H el=none:=((Zh.refl H).upd hp).free hel
 have zsp:H sp=none:=(((Zh.refl H).upd hp).ZC hel).free hsp
 rw[en]at hel0 hsp0 s0⊢
 generalize (upd (upd (upd H p (.lst [V.int (-1)])) el (.lst (List.replicate ds.length [V.int (-1)]).flatten)) sp (.lst []))=H0 at s0 hel0 hsp0⊢
 refine ZfE (n:=ds.length) (λi σ Hx=>∃(es:List Int) (S:List Nat) (v3 v4:Option V),σ=[some (.ref t),some (.ref el),some (.ref sp),v3,v4]/\Hx el=some (.lst (es.map V.int))/\Hx sp=some (.lst (Zq S))/\Zx (ds.map Int.toNat) i=(S,es)/\Zh H Hx/\Zka ds i)
  ⟨List.replicate ds.length (-1),[],none,none,rfl,hel0,hsp0,by simp[Zx],s0,λk hk=>absurd hk (by omega)⟩ (λi σ Hx hi ⟨_,_,_,_,_,_,_,_,sx,_⟩=>⟨_,_,SqT.of (sx _ _ ht),Yf (by rw[eL];exact hi)⟩) (fun σ Hx ⟨_,_,_,_,_,_,_,_,sx,_⟩=>⟨_,SqT.of (sx _ _ ht),eL⟩) ?_ ?_
 ·rintro i x σ Hx Hx' hi ⟨es,S,v3,v4,rfl,hxe,hxs,hst0,sx,hRt⟩ ⟨q,x,hq,rfl,rfl,hx⟩
  have ex:=hx _ (SqT.of (sx _ _ ht))
  rw[YD,Yf hi]at ex
  cases ex
  have eg:ds[i]=nth ds i:=by simp[nth,Yj,hi]
  rw[eg]
  obtain⟨hSlt,hSl,hel'⟩:=Ziq (ds.map Int.toNat) i
  rw[hst0]at hSlt hSl hel'
  have hok:=Zif (ds.map Int.toNat) i
  have hSl:S.length=ZbJ (ds.map Int.toNat) i:=hSl
  have hel':es.length=ds.length:=(show es.length=(ds.map Int.toNat).length from hel').trans (Yi ..)
  have hSlt:∀q∈S,q<i:=hSlt
  have edn:(ds.map Int.toNat).getD i 0=(nth ds i).toNat:=by simp[nth,Yj,hi]
  generalize hdd:nth ds i=d at edn⊢
  have g:=(Zh.refl Hx).upd (o:=.tup [.int (i:Int),.int d]) hq
  have tq:(upd Hx q (.tup [.int (i:Int),.int d])) q=some (.tup [.int (i:Int),.int d]):=Zd
  replace sx:=sx.trans g
  replace hxe:=g _ _ hxe
  replace hxs:=g _ _ hxs
  generalize upd Hx q (.tup [.int (i:Int),.int d])=Hy at sx hxe hxs tq⊢
  clear g hx hq Hx
  refine⟨q,_,rfl,SqT.of tq,rfl,_,_,rfl,_,_,rfl,rfl,?_⟩
  clear tq
  walk_at "rd"
  have hlx:(Zq S).length=S.length:=ZL S
  have bad:¬ (0<=d/\d<=S.length)->¬ ZaJ ds:=λz g=>by
   have:=((ZdY ds).mp g).2 i hi
   rw[hdd,<-hSl]at this
   exact z ⟨this.1,by omega⟩
  refine ZR (λy=>⟨_,.inl (SqL.of hxs),ZR (λz=>⟨by omega,by omega,λ_=>⟨by decide,k2 (bad λw=>z (by rw[hlx];exact w.2)) _ sx⟩⟩) λz=>⟨_,.inl (SqL.of hxs),?_⟩⟩) λy=>⟨by omega,by omega,λ_=>⟨by decide,k2 (bad λw=>y w.1) _ sx⟩⟩
  rw[hlx]at z
  have hdS:d.toNat<=S.length:=by omega
  obtain⟨A',B,hAB,hBl⟩:=Zig S hdS
  have hSAB:S.length=A'.length+B.length:=by rw[hAB,Yr]
  refine⟨el,sp,es,A',B,i,?_,hxe,by rw[<-hAB];exact hxs,nes,by omega,λq hq=>by have:=hSlt q (by rw[hAB];exact hq);omega,by rw[<-hAB];omega,λH' q1 q2 q3=>?_⟩
  ·rw[hlx,show((S.length:Nat):Int)-d=(A'.length:Nat) by omega]
  refine⟨Zds es A' B i,q2,A'++[i],q3,?_,λb o z=>q1 b o (Zs z zel) (Zs z zsp) (sx b o z),λk hk=>?_⟩
  ·rw[Zho (A:=A') (B:=B) (by rw[hst0];exact hAB) (by rw[hBl,edn]),hst0]
  ·by_cases e:k=i
   ·subst e;rw[hdd];exact⟨y,by rw[<-hSl];exact hdS⟩
   ·exact hRt k (by omega)
 ·rintro σ Hx ⟨es,S,v3,v4,rfl,hxe,hxs,hst0,sx,hRt⟩
  walk_at "rd"
  exact⟨_,.inl ⟨SqL.of hxe,λu hu=>k1 ((ZdY ds).mpr ⟨by rw[eL]at z40;exact z40,hRt⟩) u _ (sx.ZC hu) (by rw[Zd];unfold Zii;rw[Yi,hst0])⟩⟩
theorem Zq6:∀q,q<128->(Builtin.Str.occurrences (Str.ofString "()") ⟨#[q]⟩ 0 (Str.ofString "()").length 1).isEmpty=decide (q≠40/\q≠41):=by decide +kernel
theorem ZpB {l:List Nat}{i q:Nat} (h:l[i]?=some q):ZgU (l.take (i+1))=ZgU (l.take i)+(if q=40 then 1 else 0)-(if q=41 then 1 else 0):=by
 unfold ZgU
 rw[YR,h]
 simp only[Option.toList_some,List.count_append,List.count_singleton]
 by_cases a:q=40
 ·subst a;simp;omega
 ·by_cases b:q=41
  ·subst b;simp;omega
  ·simp[a,b]
theorem ZeJ {f:Addr}{fd:FuncData} (F:Fun K "_law_are_brackets" "_law_are_brackets" ZM f fd) (T:Txt K mg):FnOk P w K mg base (CXE P w) 1 f fd ["text"] (ZaK K mg):=by
 refine F.okX Zae (λvs H Q E h=>?_) (λcdv A outer s H vs Q E hr h=>?_)
 ·obtain⟨l,rfl,_⟩:=h;rfl
 obtain⟨l,rfl,ha,hn,k1⟩:=h
 refine⟨_,(Zc (Zk (i:=1) Zae.nd rfl (Or.inl rfl) Ze)
   (Zc (Zbh (Za4 PassesOwn.never rfl (Zpw (pv 0)) (Zr (i:=2) Zae.nd rfl (Or.inl rfl)) (Zc (Zk (i:=1) Zae.nd rfl (Or.inl rfl) (Zl Zar (Zl ZY (pv 1) (ZK Zfb rfl T.b_int Zj0 (Za (Zbt ZaE (pv 2) Z7 (Zp _)) Zb))) (ZK Zfb rfl T.b_int Zj0 (Za (Zbt ZaE (pv 2) Z7 (Zp _)) Zb))))
   (Zf (ZE (PW.pt (ZkB (Zn Zep (pv 1) Ze (Zp _)) (ZhS (Zn ZjO (pv 2) Z7 (by with_unfolding_all rfl))))) (Zf (Zt Zdo)) Zw)))))
   (Zf (Zt (ZoH (Zbt ZaE (pv 1) Ze (Zp _)) (ZoG (Zbt Zf3 (Zg Zfi rfl T.b_len Yk (Za (pv 0) Zb)) Ze (Zp _)))))))),?_⟩
 walk_at "rd"
 have hsz:(txt l).cps.size=l.length:=by simp[txt]
 refine⟨?_,?_⟩
 ·rw[Array.all_eq_true]
  intro i hi
  have hm:(txt l).cps[i]∈l:=by simp[txt]
  have:=ha _ hm
  exact YK this
 refine ZfE (n:=l.length) (λi σ Hx=>∃v2:Option V,σ=[some (.str (txt l)),some (.int (ZgU (l.take i))),v2]/\Hx=H/\∀j,j<i->(l.getD j 0=40\/l.getD j 0=41)/\0<=ZgU (l.take (j+1))) ⟨none,rfl,rfl,λj hj=>absurd hj (by omega)⟩ (λi σ Hx hi _=>show i<(txt l).cps.size by omega) (fun σ Hx _=>show(txt l).cps.size<=l.length by omega) ?_ ?_
 ·rintro i x σ Hx Hx' hi ⟨v2,rfl,rfl,hC⟩ ⟨rfl,q,hq,rfl⟩
  have hq':l[i]?=some q:=by simpa[txt]using hq
  have e1:(⟨#[q]⟩:Str)=Str.ofString "("↔q=40:=by
   rw[Zdu]
   exact⟨λz=>by simpa using ZhP (a:=[q]) z,λz=>by rw[z];rfl⟩
  have e2:(⟨#[q]⟩:Str)=Str.ofString ")"↔q=41:=by
   rw[ZV]
   exact⟨λz=>by simpa using ZhP (a:=[q]) z,λz=>by rw[z];rfl⟩
  have hlt:q<128:=ha q (List.mem_of_getElem? hq')
  have eq0:l.getD i 0=q:=by rw[Yj,hq'];rfl
  walk_at "rd"
  have e3:(ZgU (l.take i)+if (⟨#[q]⟩:Str)=Str.ofString "(" then 1 else 0)-(if (⟨#[q]⟩:Str)=Str.ofString ")" then 1 else 0)=ZgU (l.take (i+1)):=by
   rw[ZpB hq'];simp only[e1,e2]
  rw[e3,Zq6 q hlt]
  refine ZR (λz=>?_) λz=>ZR (λy=>?_) λy=>⟨rfl,λj hj=>?_⟩
  ·exact k1 _ ⟨(λy=>nomatch y),λg=>absurd (g.1 i hi).2 (by omega)⟩
  ·refine k1 _ ⟨(λy=>nomatch y),λg=>?_⟩
   have:=(g.1 i hi).1
   rw[eq0]at this
   have y':decide (q≠40/\q≠41)=true:=by simpa using y
   have y2:=Y8 y'
   omega
  ·by_cases e:j=i
   ·subst e
    refine⟨?_,by omega⟩
    rw[eq0]
    have y':¬ (q≠40/\q≠41):=λw=>y (by simp[w])
    omega
   ·exact hC j (by omega)
 ·rintro σ Hx ⟨v2,rfl,rfl,hC⟩
  walk_at "rd"
  have ets:(txt l).length=l.length:=by simp[txt,Str.length]
  rw[List.take_length,ets]
  refine ZR (λz=>⟨Yg hn (by decide),k1 _ ?_⟩) λz=>k1 _ ⟨(λy=>nomatch y),λg=>absurd g.2.1 z⟩
  exact⟨λy=>⟨hC,z,by have:=Y8 y;omega⟩,λg=>YK (by have:=g.2.2;omega)⟩
theorem Zkh {f:Addr}{fd:FuncData} (F:Fun K "_law_sign" "_law_sign" Zbp f fd) (Zj:Callee P w K mg base "_law_take" 1 ["pot","many"] (Zac K mg)) (T:Txt K mg):FnOk P w K mg base (CXE P w) 2 f fd ["pot"] (ZdV K mg):=by
 refine F.okX ZdX (λvs H Q E h=>?_) (λcdv A outer s H vs Q E hr h=>?_)
 ·obtain⟨l,rfl,_⟩:=h;rfl
 obtain⟨p,rfl,hP,k1⟩:=h
 refine⟨_,(Zc (Zk (i:=1) ZdX.nd rfl (Or.inl rfl) Z7)
   (Zc (Zk (i:=2) ZdX.nd rfl (Or.inl rfl) (ZZ (r:=ZlD) ZoX (pv 1) (Zi Zj (hr.mono (by decide)) rfl Zy (Za (pv 0) (Za (Zg Zfi rfl T.b_len Yk (Za (pv 1) Zb)) Zb))) (λ_ _=>rfl)))
   (Zf (Zt (ZZ ZdK (ZhW (Za (pv 2) (Za Z7 (Za Z7 (Za Z7 (Za Z7 Zb)))))) (Zi Zj (hr.mono (by decide)) rfl Zy (Za (pv 0) (Za Ze Zb))) (λ_ _=>rfl)))))),?_⟩
 walk_at "rd"
 have hC:∀c∈(Str.ofString " !\"#$&'()*+,-./0123456789:;<=>?@ABCDEFGHIJKLMNOPQRSTUVWXYZ[\\]^_`abcdefghijklmnopqrstuvwxyz{|}~\n").cps.toList,c<128:=by decide +kernel
 have hL:0<(Str.ofString " !\"#$&'()*+,-./0123456789:;<=>?@ABCDEFGHIJKLMNOPQRSTUVWXYZ[\\]^_`abcdefghijklmnopqrstuvwxyz{|}~\n").length/\(Str.ofString " !\"#$&'()*+,-./0123456789:;<=>?@ABCDEFGHIJKLMNOPQRSTUVWXYZ[\\]^_`abcdefghijklmnopqrstuvwxyz{|}~\n").length<=1000:=by decide +kernel
 generalize Str.ofString " !\"#$&'()*+,-./0123456789:;<=>?@ABCDEFGHIJKLMNOPQRSTUVWXYZ[\\]^_`abcdefghijklmnopqrstuvwxyz{|}~\n"=C at hC hL⊢
 have hLs:C.length<=sizeLine:=Yg hL.2 (by decide)
 refine⟨hLs,p,_,rfl,by omega,by omega,hP,λd H1 d0 d1 P1 e1=>⟨d,rfl,hLs,?_⟩⟩
 obtain⟨j,rfl⟩:=YM d0
 have hj:j<C.cps.toList.length:=by simpa[Str.length]using(show j<C.length by omega)
 refine⟨_,Zh1 rfl hj,by decide,λq hq=>?_⟩
 have hc:=hC _ (Y2 hj)
 generalize C.cps.toList[j]=c at hc hq⊢
 refine⟨p,_,rfl,by decide,by decide,P1.upd hq,λd2 H2 d20 d21 P2 e2=>?_⟩
 have hq2:=e2 _ _ (P1.ne hq) Zd
 have eF:Exc p H H2:=λb o nb hb=>e2 b o nb (((Zh.refl H1).upd hq) _ _ (e1 b o nb hb))
 obtain⟨j2,rfl⟩:=YM d20
 have one:∀c,c<128->∀x∈[c],x<128:=λc h x hx=>by simp at hx;omega
 refine⟨_,_,rfl,SqT.of hq2,?_⟩
 match j2,d21 with
 |0,_=>exact⟨_,rfl,k1 [c] _ (one c hc) rfl P2 eF⟩
 |1,_=>exact⟨_,rfl,k1 [40] _ (one 40 (by decide)) rfl P2 eF⟩
 |2,_=>exact⟨_,rfl,k1 [41] _ (one 41 (by decide)) rfl P2 eF⟩
 |3,_=>exact⟨_,rfl,k1 [40] _ (one 40 (by decide)) rfl P2 eF⟩
 |4,_=>exact⟨_,rfl,k1 [41] _ (one 41 (by decide)) rfl P2 eF⟩
 |j2+5,h=>omega
theorem Zn1 {x:Str}{lo hi:Option Int}{c:Nat} (h:c∈(Txt.slice x lo hi).cps.toList):c∈x.cps.toList:=by
 unfold Txt.slice at h
 split at h
 ·exact h
 ·simp only[List.mem_filterMap]at h
  obtain⟨i,_,hi⟩:=h
  exact(Array.mem_toList_iff ..).mpr (Array.mem_of_getElem? hi)
noncomputable def Zg1 (x:Str) (n:Nat):Prop:=(∀c∈x.cps.toList,c<128)/\x.length<=n
theorem Zg1.slice {x:Str}{n:Nat} (h:Zg1 x n) (lo hi:Option Int):Zg1 (Txt.slice x lo hi) n:=⟨λc hc=>h.1 c (Zn1 hc),Yg (Txt.slice_le x lo hi) h.2⟩
theorem Zq7 (x y:Str):(x++y).length=x.length+y.length:=by
 show(x.cps++y.cps).size=_
 simp[Str.length]
theorem Zg1.app {x y:Str}{n m:Nat} (h:Zg1 x n) (k:Zg1 y m):Zg1 (x++y) (n+m):=by
 refine⟨λc hc=>?_,?_⟩
 ·have hc':c∈(x.cps++y.cps).toList:=hc
  rw[Array.toList_append,Yt]at hc'
  exact hc'.elim (h.1 c) (k.1 c)
 ·rw[Zq7];have:=h.2;have:=k.2;omega
theorem txt_of (x:Str):x=txt x.cps.toList:=by
 unfold txt;rw[Array.toArray_toList]
theorem Z6 (l:List Nat):(txt l).length=l.length:=by simp[txt,Str.length]
theorem Zgo {f:Addr}{fd:FuncData} (F:Fun K "_law_text_bent" "_law_text_bent" Z2 f fd) (Zj:Callee P w K mg base "_law_take" 1 ["pot","many"] (Zac K mg)) (ZeK:Callee P w K mg base "_law_sign" 2 ["pot"] (ZdV K mg)) (T:Txt K mg):FnOk P w K mg base (CXE P w) 3 f fd ["pot","text"] (Zby K mg):=by
 refine F.okX ZaG (λvs H Q E h=>?_) (λcdv A outer s H vs Q E hr h=>?_)
 ·obtain⟨p,l,rfl,_⟩:=h;rfl
 obtain⟨p,l,rfl,ha,hn,hP,k1⟩:=h
 refine⟨_,(Zc (Zk (i:=2) ZaG.nd rfl (Or.inl rfl) (Zi Zj (hr.mono (by decide)) rfl Zy (Za (pv 0) (Za Ze Zb))))
   (Zc (Zk (i:=3) ZaG.nd rfl (Or.inl rfl) (Zi Zj (hr.mono (by decide)) rfl Zy (Za (pv 0) (Za (Zl ZY (Zg Zfi rfl T.b_len Yk (Za (pv 1) Zb)) Ze) Zb))))
   (Zc (Zk (i:=4) ZaG.nd rfl (Or.inl rfl) (Zi ZeK (hr.mono (by decide)) rfl Zy (Za (pv 0) Zb)))
   (Zc (ZE (Zn ZaE (pv 2) Ze (Zp _)) (Zf (Zt (Zl Zah (Zl Zah (Zal (r:=ZgT) ZeG (pv 1) ZaO (ZaP (pv 3))) (pv 4)) (Zal (r:=ZgT) ZeG (pv 1) (ZaP (pv 3)) ZaO)))) Zw)
   (Zc (ZE (Zn ZaE (pv 2) Ze (Zp _)) (Zf (Zt (Zl Zah (Zl Zah (Zal (r:=ZgT) ZeG (pv 1) ZaO (ZaP (pv 3))) (pv 4)) (Zal (r:=ZgT) ZeG (pv 1) (ZaP (Zl ZY (pv 3) Ze)) ZaO)))) Zw)
   (Zc (ZE (Zn ZaE (pv 2) Ze (Zp _)) (Zf (Zt (Zl Zah (Zal (r:=ZgT) ZeG (pv 1) ZaO (ZaP (pv 3))) (Zal (r:=ZgT) ZeG (pv 1) (ZaP (Zl ZY (pv 3) Ze)) ZaO)))) Zw)
   (Zf (Zt (Zl Zah (Zal (r:=ZgT) ZeG (pv 1) (ZaP (pv 3)) ZaO) (Zal (r:=ZgT) ZeG (pv 1) ZaO (ZaP (pv 3)))))))))))),?_⟩
 walk_at "rd"
 have hx:Zg1 (txt l) l.length:=⟨by simpa[txt]using ha,by rw[Z6];exact Yd _⟩
 have hz:(txt l).length<=sizeLine:=by rw[Z6];exact Yg (show _<=1000 by omega) (by decide)
 refine⟨p,_,rfl,by decide,by decide,hP,λd H1 d0 d1 P1 e1=>⟨hz,p,_,rfl,by omega,by rw[Z6];omega,P1,λa H2 a0 a1 P2 e2=>⟨p,rfl,P2,λg H3 hg lg P3 e3=>?_⟩⟩⟩
 have e4:=(e1.trans e2).trans e3
 have hs:Zg1 (txt g) 1:=⟨by simpa[txt]using hg,by rw[Z6,lg];exact Yd _⟩
 generalize txt g=y at hs⊢
 generalize txt l=x at hx hz⊢
 have fin:∀r:Str,Zg1 r (2*l.length+1)->Q (.str r) H3:=λr hr=>by
  rw[txt_of r]
  exact k1 _ _ hr.1 (by simpa[Str.length]using hr.2) P3 e4
 have sm:∀{r:Str}{k:Nat},Zg1 r k->k<=4000->r.length<=sizeLine:=λh hk=>Yg (Yg h.2 hk) (by decide)
 have sm2:∀{r q:Str}{k k':Nat},Zg1 r k->Zg1 q k'->k+k'<=4000->r.length+q.length<=sizeLine:=λh h' hk=>Yg (show _<=4000 by have:=h.2;have:=h'.2;omega) (by decide)
 refine⟨rfl,ZR (λ_=>⟨_,rfl,hz,_,rfl,sm2 (hx.slice _ _) hs (by omega),_,rfl,hz,sm2 ((hx.slice _ _).app hs) (hx.slice _ _) (by omega),fin _ ?_⟩) λ_=>⟨rfl,ZR (λ_=>⟨_,rfl,hz,_,rfl,sm2 (hx.slice _ _) hs (by omega),_,rfl,hz,sm2 ((hx.slice _ _).app hs) (hx.slice _ _) (by omega),fin _ ?_⟩) λ_=>⟨rfl,ZR (λ_=>⟨_,rfl,hz,_,rfl,hz,sm2 (hx.slice _ _) (hx.slice _ _) (by omega),fin _ ?_⟩) λ_=>⟨_,rfl,hz,_,rfl,hz,sm2 (hx.slice _ _) (hx.slice _ _) (by omega),fin _ ?_⟩⟩⟩⟩
 ·have:=((hx.slice none (some a)).app hs).app (hx.slice (some a) none)
  exact⟨this.1,by have:=this.2;omega⟩
 ·have:=((hx.slice none (some a)).app hs).app (hx.slice (some (a+1)) none)
  exact⟨this.1,by have:=this.2;omega⟩
 ·have:=(hx.slice none (some a)).app (hx.slice (some (a+1)) none)
  exact⟨this.1,by have:=this.2;omega⟩
 ·have:=(hx.slice (some a) none).app (hx.slice none (some a))
  exact⟨this.1,by have:=this.2;omega⟩
theorem Zir {f:Addr}{fd:FuncData} (F:Fun K "by_brackets" "by_brackets" ZaB f fd) (ZbU:Callee P w K mg base "by_drops" 2 ["told"] (ZcX K mg)) (T:Txt K mg):FnOk P w K mg base (CXE P w) 3 f fd ["text"] (ZcH K mg):=by
 refine F.okX Z5 (λvs H Q E h=>?_) (λcdv A outer s H vs Q E hr h=>?_)
 ·obtain⟨t,rfl,_⟩:=h;rfl
 obtain⟨l,rfl,ha,hn,k1,k2⟩:=h
 refine⟨_,(Zc (Zk (i:=1) Z5.nd rfl (Or.inl rfl) (ZJ Zb))
   (Zc (Zk (i:=2) Z5.nd rfl (Or.inl rfl) Ze)
   (Zc (Za4 PassesOwn.leaving rfl (Zpw (pv 0)) (Zr (i:=3) Z5.nd rfl (Or.inl rfl)) (Zf (ZE (Zn ZaE (pv 3) Z7 (Zp _)) (Zc (ZU (Zcc PySem.F.plainAttrs_list PySem.F.slot_list_append PySem.F.type_list_append Zam (pv 1) (Za (pv 2) Zb)))
   (Zf (Zk (i:=2) Z5.nd rfl (Or.inl rfl) Ze))) (Zf (ZE (Zn ZaE (pv 3) Z7 (Zp _)) (Zf (ZoL (i:=2) Z5.nd rfl (Or.inl rfl) Ze ZoN)) (Zf (Zdq rfl rfl T.c_NoTelling T.x_NoTelling (Za Z7 Zb) Zfa)))))))
   (Zc (Zk (i:=4) Z5.nd rfl (Or.inl rfl) (Zi ZbU (hr.mono (by decide)) rfl ZdL (Za (ZK (Zaz (K:=K) rfl) rfl T.b_tuple Zau (Za (pv 1) Zb)) Zb)))
   (Zc (ZE (Zn op_ne (Zl ZY (Zg (Zo7 rfl) rfl T.b_sum ZjZ (Za (pv 1) Zb)) (pv 2)) (Zg (Zo (K:=K) rfl) rfl T.b_len Yk (Za (pv 1) Zb)) (Zp _)) (Zf (Zdq rfl rfl T.c_NoTelling T.x_NoTelling (Za Z7 Zb) Zfa)) Zw)
   (Zf (Zt (pv 4)))))))),?_⟩
 walk_at "rd"
 have hsz:(txt l).cps.size=l.length:=by simp[txt]
 refine⟨Yn _,λp hp=>⟨?_,?_⟩⟩
 ·rw[Array.all_eq_true]
  intro i hi
  have hm:(txt l).cps[i]∈l:=by simp[txt]
  exact YK (ha _ hm)
 refine ZfE (n:=l.length) (λi σ Hx=>∃(a:List Nat) (c:Nat) (v3:Option V),σ=[some (.str (txt l)),some (.ref p),some (.int (c:Nat)),v3,none]/\(l.take i).foldl ZI ([],0)=(a,c)/\a.length<=i/\Hx p=some (.lst (Zq a))/\Zh H Hx/\∀x∈l.take i,x=40\/x=41) ⟨[],0,none,rfl,rfl,Yn _,Zd,(Zh.refl H).upd hp,λx hx=>absurd hx (by simp)⟩ (λi σ Hx hi _=>show i<(txt l).cps.size by omega) (fun σ Hx _=>show(txt l).cps.size<=l.length by omega) ?_ ?_
 ·rintro i x σ Hx Hx' hi ⟨a,c,v3,rfl,hf,hal,hxp,sx,hall⟩ ⟨rfl,q,hq,rfl⟩
  have hq':l[i]?=some q:=by simpa[txt]using hq
  have hstep:=Zl2 ZI ([],0) hq'
  rw[hf]at hstep
  have e1:(⟨#[q]⟩:Str)=Str.ofString "("↔q=40:=by
   rw[Zdu]
   exact⟨λz=>by simpa using ZhP (a:=[q]) z,λz=>by rw[z];rfl⟩
  have e2:(⟨#[q]⟩:Str)=Str.ofString ")"↔q=41:=by
   rw[ZV]
   exact⟨λz=>by simpa using ZhP (a:=[q]) z,λz=>by rw[z];rfl⟩
  have hall2:(q=40\/q=41)->∀x∈l.take (i+1),x=40\/x=41:=λz x hx=>by
   rw[YR,hq']at hx
   rcases Yt.mp hx with hx|hx
   ·exact hall x hx
   ·simp at hx;rw[hx];exact z
  walk_at "rd"
  refine ZR (λz=>?_) λz=>ZR (λy=>?_) λy=>?_
  ·obtain rfl:=e1.mp z
   refine⟨Zab hxp,_,hxp,Yy (show _<=1000 by rw[ZL];omega) (by decide),a++[c],0,rfl,hstep,by simp;omega,?_,sx.upd hp,hall2 (.inl rfl)⟩
   rw[Zd,Zdt];rfl
  ·obtain rfl:=e2.mp y
   exact⟨a,c+1,by omega,hstep,by omega,hxp,sx,hall2 (.inr rfl)⟩
  ·refine⟨by decide,k2 (λg=>?_) _ sx⟩
   rcases g.1 q (List.mem_of_getElem? hq')with w|w
   ·exact z (e1.mpr w)
   ·exact y (e2.mpr w)
 ·rintro σ Hx ⟨a,c,v3,rfl,hf,hal,hxp,sx,hall⟩
  rw[List.take_length]at hf hall
  walk_at "rd"
  have ea:Zq a=(a.map λ(d:Nat)=>(d:Int)).map V.int:=by simp[Zq,Function.comp_def]
  have et:(a.map λ(d:Nat)=>(d:Int)).map Int.toNat=a:=by simp[Function.comp_def]
  refine⟨_,.inl ⟨SqL.of hxp,λw hw=>⟨w,a.map λ(d:Nat)=>(d:Int),rfl,by rw[Zd,ea],by simp;omega,λgD u H2 s2 hu=>?_,λgD H2 s2=>k2 (λg=>gD (by have:=g.2.1;rw[hf]at this;exact this)) _ (sx.trans (((Zh.refl Hx).upd hw).trans s2))⟩⟩⟩
  rw[et]at hu
  have s3:=((Zh.refl Hx).upd (o:=.tup (Zq a)) hw).trans s2
  have hp2:=s3 _ _ hxp
  have hp3:=hp2
  rw[Zfh]at hp3
  refine⟨_,SqL.of hp3,_,.inl (SqL.of hp2),ZR (λz=>⟨by decide,k2 (λg=>z ?_) _ (sx.trans s3)⟩) λz=>k1 ⟨hall,by rw[hf];exact gD,?_⟩ u H2 (sx.trans s3) (by rw[hf];exact hu)⟩
  ·have g3:a.sum+c=a.length:=by have:=g.2.2;rw[hf]at this;exact this
   rw[Zaw,ZL];omega
  ·rw[hf]
   have z':=Classical.not_not.mp z
   rw[Zaw,ZL]at z'
   show a.sum+c=a.length
   omega
theorem ZiZ {f:Addr}{fd:FuncData} (F:Fun K "_law_drops" "_law_drops" ZaS f fd) (T:Txt K mg):FnOk P w K mg base (CXE P w) 1 f fd ["row"] (Zde K mg):=by
 refine F.okX Zb8 (λvs H Q E h=>?_) (λcdv A outer s H vs Q E hr h=>?_)
 ·obtain⟨t,ds,rfl,_⟩:=h;rfl
 obtain⟨r,ns,rfl,hr1,hn,k1⟩:=h
 refine⟨_,(Zc (Zk (i:=1) Zb8.nd rfl (Or.inl rfl) (ZJ Zb))
   (Zc (Zbh (Za4 PassesOwn.never rfl (ZF rfl T.b_range (Za (Zg (Zo (K:=K) rfl) rfl T.b_len Yk (Za (pv 0) Zb)) Zb)) (Zr (i:=2) Zb8.nd rfl (Or.inr rfl)) (Zc (Zib (i:=3) ["other","row","place"] [none,some 0,some 2] Zb8.nd rfl (Or.inl rfl) rfl rfl rfl (ZF rfl T.b_range (Za (pv 2) Zb)) (λ_ _ _ _ _=>(Zr (i:=0) (show(["other","row","place"]:List Str).Nodup from by decide +kernel) rfl (Or.inr rfl))) (λ_ _ _ _ _=>ZeF (ZdI (Zg (Zh2 (K:=K) rfl rfl) rfl T.b_all ZlI (Za (Zav ["k","row","other"] [none,some 1,some 0] rfl rfl rfl (Znr rfl T.b_range (Za (pv 0) (Za (pv 2) Zb))) (λ_ _ _ _ _=>(Zr (i:=0) (show(["k","row","other"]:List Str).Nodup from by decide +kernel) rfl (Or.inl rfl))) (λ_ _ _ _ _=>Za9) (λ_ _ _ _ _=>(Zbt Zf3 (ZZ (r:=ZiO K) ZQ (pv 1) (pv 2) (λ_ _=>rfl)) (ZZ (r:=ZiO K) ZQ (pv 1) (pv 0) (λ_ _=>rfl)) (Zp _))) ZG) Zb)))) (λ_ _ _ _ _=>(pv 0)) ZG)
   (Zf (ZU (Zcc PySem.F.plainAttrs_list PySem.F.slot_list_append PySem.F.type_list_append Zam (pv 1) (Za (Zg (Zo (K:=K) rfl) rfl T.b_len Yk (Za (Zav ["other","row","place"] [none,some 0,some 2] rfl rfl rfl (Zf2 (pv 3)) (λ_ _ _ _ _=>(Zr (i:=0) (show(["other","row","place"]:List Str).Nodup from by decide +kernel) rfl (Or.inl rfl))) (λ_ _ _ _ _=>ZeF (Zn ZeD (ZZ (r:=ZiO K) ZQ (pv 1) (pv 0) (λ_ _=>rfl)) (ZZ (r:=ZiO K) ZQ (pv 1) (pv 2) (λ_ _=>rfl)) (Zp _))) (λ_ _ _ _ _=>(pv 0)) ZG) Zb)) Zb)))))))
   (Zf (Zt (ZK (Zaz (K:=K) rfl) rfl T.b_tuple Zau (Za (pv 1) Zb)))))),?_⟩
 walk_at "rd"
 have eL:(ns.map V.int).length=ns.length:=Yi ..
 refine⟨Yn _,λp hp=>?_⟩
 have s0:Zh H (upd H p (.lst [])):=(Zh.refl H).upd hp
 refine⟨_,.inl (SqL.of (s0 _ _ hr1)),by omega,by rw[eL];omega,?_⟩
 rw[show(((ns.map V.int).length:Nat):Int).toNat=ns.length by rw[eL];omega]
 have h0:(upd H p (.lst [])) p=some (.lst (Zq ((List.range 0).map (ZaI (nth ns))))):=Zd
 generalize upd H p (.lst [])=H0 at s0 h0⊢
 refine Zay (λi σ Hx=>∃v2 v3,σ=[some (.ref r),some (.ref p),v2,v3]/\Hx p=some (.lst (Zq ((List.range i).map (ZaI (nth ns)))))/\Zh H Hx) ⟨_,_,rfl,h0,s0⟩ ?_ ?_
 ·clear h0 s0 H0
  rintro i σ Hx hi ⟨v2,v3,rfl,hP,sx⟩
  have e0:((0:Int)+(i:Int))=(i:Int):=by omega
  rw[e0]
  refine Zcd (fun σ Hy=>∃l:Addr,σ=[some (.ref r),some (.ref p),some (.int (i:Int)),some (.ref l)]/\Hy l=some (.lst (Zq ((List.range i).filter λo=>((List.range (i-o)).map λk=>decide (nth ns o<=nth ns (o+k))).all id)))/\Hy p=some (.lst (Zq ((List.range i).map (ZaI (nth ns)))))/\Zh H Hy) (λR hR=>?_) ?_
  ·walk_at "rd"
   refine⟨by omega,by omega,?_⟩
   rw[show((i:Int)).toNat=i by omega]
   refine Zfe (n:=i) (λo=>((List.range (i-o)).map λk=>decide (nth ns o<=nth ns (o+k))).all id) (λq=>V.int (q:Nat)) (Yy (show _<=1000 by omega) (by decide)) (λj Hz s hj=>hj) (λHz s=>Yd _) ?_ ?_
   ·rintro j x Hz Hw hj s ⟨rfl,rfl⟩
    have ej:((0:Int)+(j:Int))=(j:Int):=by omega
    rw[ej]
    walk_at "rd"
    refine⟨by omega,by omega,by omega,by omega,?_⟩
    rw[show((i:Int)-(j:Int)).toNat=i-j by omega]
    refine comp_map (n:=i-j) (λk=>V.bl (decide (nth ns j<=nth ns (j+k)))) (Yy (show _<=1000 by omega) (by decide)) (λk Hq s hk=>hk) (λHq s=>Yd _) ?_ ?_
    ·rintro k x Hq Hq' hk s' ⟨rfl,rfl⟩
     rw[show((j:Int)+(k:Int))=((j+k:Nat):Int) by omega]
     walk_at "rd"
     have hrz:=SqL.of (K:=K) ((sx.trans (s.trans s')) _ _ hr1)
     exact⟨_,hrz,_,Zbi (by omega),_,hrz,_,Zbi (by omega),_,rfl,_,rfl,CW.next hk rfl s'⟩
    ·intro l Hq s' hl
     exact⟨l,rfl,(List.range (i-j)).map λk=>decide (nth ns j<=nth ns (j+k)),SqL.of (by rw[Zd,YN];rfl),ZR (λz=>CF.take hj z rfl (s.trans (s'.ZC hl))) λz=>CF.skip hj (Bool.eq_false_iff.mpr z) (s.trans (s'.ZC hl))⟩
   ·intro l Hz s hl
    have g:=s.ZC (o:=.lst (((List.range i).filter λo=>((List.range (i-o)).map λk=>decide (nth ns o<=nth ns (o+k))).all id).map λq=>V.int (q:Nat))) hl
    exact hR _ _ ⟨l,rfl,Zd,g _ _ hP,sx.trans g⟩
  clear hP sx Hx
  rintro σ Hx ⟨l,rfl,hl,hP,sx⟩
  have hcount:=Zl3 (nth ns) i
  have hSm:∀o∈(List.range i).filter (λo=>((List.range (i-o)).map λk=>decide (nth ns o<=nth ns (o+k))).all id),o<i:=λo ho=>YA.mp (YS.mp ho).1
  have hSl:((List.range i).filter λo=>((List.range (i-o)).map λk=>decide (nth ns o<=nth ns (o+k))).all id).length<=i:=Yg (List.length_filter_le _ _) (by simp)
  generalize ((List.range i).filter λo=>((List.range (i-o)).map λk=>decide (nth ns o<=nth ns (o+k))).all id)=S at hcount hSm hSl hl
  have hS:∀k,k<S.length->S.getD k 0<i:=λk hk=>hSm _ (by rw[show S.getD k 0=S[k] by simp[hk]];exact Y2 hk)
  walk_at "rd"
  refine⟨Zab hP,⟨_,SqL.of hl⟩,?_⟩
  refine Zfe (n:=S.length) (λk=>decide (nth ns i<nth ns (S.getD k 0))) (λk=>V.int (S.getD k 0:Nat)) (Yy (show _<=1000 by omega) (by decide)) (λk Hz s hk=>⟨_,_,SqL.of (s _ _ hl),Yf (by rw[ZL];exact hk)⟩) (λHz s=>⟨_,SqL.of (s _ _ hl),Y5 (ZL S)⟩) ?_ ?_
  ·rintro k x Hz Hw hk s ⟨rfl,hx⟩
   have ex:=hx _ (SqL.of (s _ _ hl))
   have ed:(Zq S)[k]?=some (V.int (S.getD k 0:Nat)):=by simp[Zq,Yj,hk]
   rw[ed]at ex
   cases ex
   have hSk:=hS k hk
   walk_at "rd"
   have hrz:=SqL.of (K:=K) ((sx.trans s) _ _ hr1)
   exact⟨_,hrz,_,Zbi (by omega),_,hrz,_,Zbi hi,_,rfl,_,rfl,ZR (λz=>CF.take hk (YK z) rfl s) λz=>CF.skip hk (YB z) s⟩
  ·intro l2 Hz s hl2
   have g:=s.ZC (o:=.lst (((List.range S.length).filter λk=>decide (nth ns i<nth ns (S.getD k 0))).map λk=>V.int (S.getD k 0:Nat))) hl2
   refine⟨l2,rfl,_,.inl (SqL.of Zd),_,g _ _ hP,Yy (show _<=1000 by rw[ZL];simp;omega) (by decide),?_,(sx.trans g).upd hp⟩
   have ec:(((List.range S.length).filter λk=>decide (nth ns i<nth ns (S.getD k 0))).map λk=>V.int (S.getD k 0:Nat)).length=ZaI (nth ns) i:=by
    rw[<-hcount,Yi,<-List.countP_eq_length_filter,<-List.countP_eq_length_filter]
    conv=>rhs;rw[show S=(List.range S.length).map λk=>S.getD k 0 from List.ext_getElem (by simp) λk k1 k2=>by simp[Yj,k1]]
    rw[List.countP_map];rfl
   rw[ec,Zd,YF,YL,Zdt];rfl
 ·rintro σ Hx ⟨v2,v3,rfl,hP,sx⟩
  walk_at "rd"
  exact⟨_,.inl ⟨SqL.of hP,λt ht=>k1 t _ (sx.ZC ht) Zd⟩⟩
theorem Zgp {f:Addr}{fd:FuncData} (F:Fun K "_law_distances" "_law_distances" Z1 f fd) (T:Txt K mg):FnOk P w K mg base (CXE P w) 1 f fd ["row"] (Zbz K mg):=by
 refine F.okX ZaF (λvs H Q E h=>?_) (λcdv A outer s H vs Q E hr h=>?_)
 ·obtain⟨r,ns,rfl,_⟩:=h;rfl
 obtain⟨r,ns,rfl,hr1,hn,k1⟩:=h
 refine⟨_,(Zc (Zk (i:=1) ZaF.nd rfl (Or.inl rfl) (ZJ Zb))
   (Zc (Zbh (Za4 PassesOwn.never rfl (ZF rfl T.b_range (Za (Zg (Zo (K:=K) rfl) rfl T.b_len Yk (Za (pv 0) Zb)) Zb)) (Zr (i:=2) ZaF.nd rfl (Or.inr rfl)) (Zc (Zib (i:=3) ["other","row","place"] [none,some 0,some 2] ZaF.nd rfl (Or.inl rfl) rfl rfl rfl (ZF rfl T.b_range (Za (pv 2) Zb)) (λ_ _ _ _ _=>(Zr (i:=0) (show(["other","row","place"]:List Str).Nodup from by decide +kernel) rfl (Or.inl rfl))) (λ_ _ _ _ _=>ZeF (Zn Zf3 (ZZ (r:=ZiO K) ZQ (pv 1) (pv 0) (λ_ _=>rfl)) (ZZ (r:=ZiO K) ZQ (pv 1) (pv 2) (λ_ _=>rfl)) (Zp _))) (λ_ _ _ _ _=>(pv 0)) ZG)
   (Zf (ZE (Zn (Zj3 (K:=K) rfl hr) (pv 3) (ZJ Zb) (Zp _)) (Zf (ZU (Zcc PySem.F.plainAttrs_list PySem.F.slot_list_append PySem.F.type_list_append Zam (pv 1) (Za Ze Zb)))) (Zf (ZU (Zcc PySem.F.plainAttrs_list PySem.F.slot_list_append PySem.F.type_list_append Zam (pv 1) (Za (Zl Zar (pv 2) (ZZ ZQ (pv 3) (Zhk ZeC Ze) (λ_ _=>rfl))) Zb)))))))))
   (Zf (Zt (ZK (Zaz (K:=K) rfl) rfl T.b_tuple Zau (Za (pv 1) Zb)))))),?_⟩
 walk_at "rd"
 have eL:(ns.map V.int).length=ns.length:=Yi ..
 refine⟨Yn _,λp hp=>?_⟩
 have s0:Zh H (upd H p (.lst [])):=(Zh.refl H).upd hp
 refine⟨_,.inl (SqL.of (s0 _ _ hr1)),by omega,by rw[eL];omega,?_⟩
 have en:(((ns.map V.int).length:Nat):Int).toNat=ns.length:=by rw[eL];omega
 rw[en]
 have h0:(upd H p (.lst [])) p=some (.lst ((List.range 0).map λq=>V.int (ZT (nth ns) q))):=Zd
 generalize upd H p (.lst [])=H0 at s0 h0⊢
 refine Zay (λi σ Hx=>∃v2 v3,σ=[some (.ref r),some (.ref p),v2,v3]/\Hx p=some (.lst ((List.range i).map λq=>V.int (ZT (nth ns) q)))/\Zh H Hx) ⟨_,_,rfl,h0,s0⟩ ?_ ?_
 ·rintro i σ Hx hi ⟨v2,v3,rfl,hP,sx⟩
  have e0:((0:Int)+(i:Int))=(i:Int):=by omega
  rw[e0]
  refine Zcd (fun σ Hy=>∃l:Addr,σ=[some (.ref r),some (.ref p),some (.int (i:Int)),some (.ref l)]/\Hy l=some (.lst (Zq ((List.range i).filter λq=>decide (nth ns q<=nth ns i))))/\l≠p/\Hy p=some (.lst ((List.range i).map λq=>V.int (ZT (nth ns) q)))/\Zh H Hy) (λR hR=>?_) ?_
  ·walk_at "rd"
   refine⟨by omega,by omega,?_⟩
   have ei:((i:Int)).toNat=i:=by omega
   rw[ei]
   refine Zfe (n:=i) (λq=>decide (nth ns q<=nth ns i)) (λq=>V.int (q:Nat)) (Yy (show _<=1000 by omega) (by decide)) (λj Hz s hj=>hj) (λHz s=>Yd _) ?_ ?_
   ·rintro j x Hz Hw hj s ⟨rfl,rfl⟩
    have ej:((0:Int)+(j:Int))=(j:Int):=by omega
    rw[ej]
    walk_at "rd"
    have hrz:=SqL.of (K:=K) ((sx.trans s) _ _ hr1)
    exact⟨_,hrz,_,Zbi (by omega),_,hrz,_,Zbi hi,_,rfl,_,rfl,ZR (λz=>CF.take hj (YK z) rfl s) λz=>CF.skip hj (YB z) s⟩
   ·intro l Hz s hl
    have g:=s.ZC (o:=.lst (((List.range i).filter λq=>decide (nth ns q<=nth ns i)).map λq=>V.int (q:Nat))) hl
    exact hR _ _ ⟨l,rfl,Zd,λz=>(by rw[z,s _ _ hP]at hl;cases hl),g _ _ hP,sx.trans g⟩
  rintro σ Hy ⟨l,rfl,hl,hlp,hP1,sy⟩
  walk_at "rd"
  have zp:H p=none:=hp
  have hpush:∀(Hz:Hp) (d:Int),Zh Hy Hz->d=ZT (nth ns) i->Zh H (upd Hz p (.lst ((List.range i).map (λq=>V.int (ZT (nth ns) q))++[V.int d])))/\(upd Hz p (.lst ((List.range i).map (λq=>V.int (ZT (nth ns) q))++[V.int d]))) p=some (.lst ((List.range (i+1)).map λq=>V.int (ZT (nth ns) q))):=λHz d s e=>⟨λb o z=>by
   rw[Zm (Zs z zp)]
   exact(sy.trans s) b o z,by rw[Zd,YF,YL,e];rfl⟩
  have eqE:∀(Hx:Hp) (l q:Addr) (L:List Nat),Hx l=some (.lst (Zq L))->Hx q=some (.lst [])->EqD K Hx 3 (V.ref l) (V.ref q) (decide (L=[])):=λHx l q L h1 h2=>by
   have hh:=ZhN (n:=2) (K:=K) (H:=Hx) Zf7 (V.ref l) (V.ref q) (L.map λ(q:Nat)=>(q:Int)) [] (Zdr (SqL.of (by rw[h1];simp[Zq,Function.comp_def]))) (Zdr (ns:=[]) (SqL.of h2))
   have e:decide (L.map (λ(q:Nat)=>(q:Int))=[])=decide (L=[]):=by cases L<;>simp
   rw[e]at hh;exact hh
  refine⟨Yn _,λq hq=>?_⟩
  have g:=(Zh.refl Hy).upd (o:=.lst []) hq
  refine⟨_,eqE _ l q _ (g _ _ hl) Zd,?_⟩
  have hlen:((List.range i).map λq=>V.int (ZT (nth ns) q)).length<sizeLine:=Yy (show _<=1000 by simp;omega) (by decide)
  rcases ZlY (nth ns) i with⟨e1,e2⟩|⟨b,hb,e1,e2⟩
  ·rw[Yc (by rw[e1];rfl)]
   have z:=hpush _ 0 g e2.symm
   exact⟨Zab (g _ _ hP1),_,g _ _ hP1,hlen,z.2,z.1⟩
  ·rw[Yb (by intro y;have:=Y8 y;rw[this]at e1;cases e1)]
   have z:=hpush _ ((i:Int)-b) g e2.symm
   exact⟨Zab (g _ _ hP1),_,SqL.of (g _ _ hl),_,Zpb (by rw[Zq,List.getLast?_map,e1];rfl),_,rfl,_,g _ _ hP1,hlen,z.2,z.1⟩
 ·rintro σ Hx ⟨v2,v3,rfl,hP,sx⟩
  walk_at "rd"
  have ed:(List.range ns.length).map (λq=>V.int (ZT (nth ns) q))=(Zba ns).map V.int:=by simp[Zba]
  rw[ed]at hP
  exact⟨_,.inl ⟨SqL.of hP,λt ht=>k1 t _ (sx.ZC ht) Zd⟩⟩
theorem Told.same {N:Nat}{H H':Hp}{way:Int}{v:V}{D:Prop} (h:Told N H way v D) (s:Zh H H'):Told N H' way v D:=by
 rcases h with⟨hw,t,ds,e,ht,r⟩|h
 ·exact .inl ⟨hw,t,ds,e,s _ _ ht,r⟩
 ·exact .inr h
theorem Told.exc {N:Nat}{H H':Hp}{p:Addr}{way:Int}{v:V}{D:Prop} (h:Told N H way v D) (P:Zv H p) (s:Exc p H H'):Told N H' way v D:=by
 rcases h with⟨hw,t,ds,e,ht,r⟩|h
 ·refine .inl ⟨hw,t,ds,e,s _ _ (λz=>?_) ht,r⟩
  obtain⟨_,hz,_⟩:=P
  rw[<-z,ht]at hz;cases hz
 ·exact .inr h
theorem Told.more {N M:Nat}{H:Hp}{way:Int}{v:V}{D:Prop} (h:Told N H way v D) (hm:N<=M):Told M H way v D:=by
 rcases h with⟨hw,t,ds,e,ht,hl,r⟩|⟨hw,l,e,a,hl,r⟩
 ·exact .inl ⟨hw,t,ds,e,ht,Yg hl hm,r⟩
 ·exact .inr ⟨hw,l,e,a,Yg hl hm,r⟩
theorem Zis {ds:List Int} (h:ZaJ ds):∃ns,Z4 ns (Zii (ds.map Int.toNat))/\ZA (nth ns) ns.length=ds.map Int.toNat/\Zq (ds.map Int.toNat)=ds.map V.int/\(Zii (ds.map Int.toNat)).length<=40:=by
 obtain⟨h1,h2⟩:=(ZdY ds).mp h
 have eL:(ds.map Int.toNat).length=ds.length:=Yi ..
 have hD:Zcu (ds.map Int.toNat):=λk hk=>by
  rw[eL]at hk
  have:=(h2 k hk).2
  rw[show(ds.map Int.toNat).getD k 0=(nth ds k).toNat by simp[nth,Yj,hk]]
  exact this
 obtain⟨ns,hT,hd⟩:=Zl1 hD
 have hl:=ZnX hD
 have hn:ns.length=ds.length:=by have:=hT.1;omega
 refine⟨ns,hT,?_,?_,by omega⟩
 ·refine List.ext_getElem (by rw[ZdS,eL,hn]) λk k1 k2=>?_
  have:=hd k k2
  rw[Yj,Yf k2]at this
  simp only[Option.getD_some]at this
  rw[<-this]
  simp[ZA]
 ·refine List.ext_getElem (by simp[Zq]) λk k1 k2=>?_
  have hk:k<ds.length:=by simpa using k2
  have:=(h2 k hk).1
  rw[show nth ds k=ds[k] by simp[nth,Yj,hk]]at this
  simp[Zq]
  omega
theorem Zi0 {f:Addr}{fd:FuncData} (F:Fun K "_law_asked" "_law_asked" ZaV f fd) (ZcL:Callee P w K mg base "distances_of" 5 ["tree"] (Zci K mg)) (ZbT:Callee P w K mg base "drops_of" 5 ["tree"] (ZcY K mg)) (Zdg:Callee P w K mg base "brackets_of" 6 ["tree"] (ZcI K mg)) (ZcM:Callee P w K mg base "by_distances" 2 ["told"] (Zch K mg)) (ZbU:Callee P w K mg base "by_drops" 2 ["told"] (ZcX K mg)) (Zdh:Callee P w K mg base "by_brackets" 3 ["text"] (ZcH K mg)) (T:Txt K mg):FnOk P w K mg base (CXE P w) 7 f fd ["way","told"] (Zdc K mg):=by
 refine F.okX Zai (λvs H Q E h=>?_) (λcdv A outer s H vs Q E hr h=>?_)
 ·obtain⟨way,v,D,rfl,_⟩:=h;rfl
 obtain⟨way,v,D,rfl,hT,k1,k2⟩:=h
 refine⟨_,(Zc (Zk (i:=2) Zai.nd rfl (Or.inl rfl) ZoE)
   (Zc (ps_try (j:=3) ⟨rfl,rfl⟩ Zai.nd rfl rfl rfl T.c_DipError T.x_DipError (λEc pl=>(Zf (ZE (Zn ZaE (pv 0) Ze (Zp _)) (Zf (Zk (i:=2) Zai.nd rfl (Or.inl rfl) (ZcD ZcL (hr.mono (by decide)) rfl Zji (Za (ZcD ZcM (hr.mono (by decide)) rfl Zji (Za (pv 1) Zb)) Zb)))) (Zf (ZE (Zn ZaE (pv 0) Ze (Zp _)) (Zf (Zk (i:=2) Zai.nd rfl (Or.inl rfl) (ZcD ZbT (hr.mono (by decide)) rfl Zji (Za (ZcD ZbU (hr.mono (by decide)) rfl Zji (Za (pv 1) Zb)) Zb)))) (Zf (Zk (i:=2) Zai.nd rfl (Or.inl rfl) (ZcD Zdg (hr.mono (by decide)) rfl Zji (Za (ZcD Zdh (hr.mono (by decide)) rfl Zji (Za (pv 1) Zb)) Zb))))))))) (λA'=>(Zf (Zk (i:=2) Zai.nd rfl (Or.inl rfl) (pv 3)))))
   (Zf (Zt (pv 2))))),?_⟩
 walk_at "rd"
 refine⟨fun σ1 C _ H1=>σ1=[some (.int way),some v,some .non,none]/\C=cXX mg/\Zh H H1/\¬ D,?_,?_⟩
 ·rcases hT with⟨hw,t,ds,rfl,ht,hl,d0,d1⟩|⟨rfl,l,rfl,ha,hl,hd⟩
  ·rcases hw with rfl|rfl
   ·walk_at "rd"
    exact⟨t,ds,rfl,ht,hl,λg u ns es H1 s1 hT2 hd hu=>⟨u,es,rfl,hu,by have:=g.1;have:=hT2.1;rw[<-hd,Zff]at *;omega,.inl ⟨ns,by have:=g.1;have:=hT2.1;rw[<-hd,Zff]at *;omega,hT2,λz H2 s2 hz=>k1 ((d0 rfl).mpr g) _ _ (s1.trans s2) (.inl ⟨t,z,ds,rfl,rfl,by rw[hz,hd],(s1.trans s2) _ _ ht⟩)⟩⟩,λg H1 s1=>⟨rfl,s1,λw=>g ((d0 rfl).mp w)⟩⟩
   ·walk_at "rd"
    rw[Yb (by decide)]
    refine⟨t,ds,rfl,ht,hl,λg u H1 s1 hu=>?_,λg H1 s1=>⟨rfl,s1,λw=>g ((d1 rfl).mp w)⟩⟩
    obtain⟨ns,hT2,hd,hv,h40⟩:=Zis g
    exact⟨u,_,rfl,hu,by omega,.inl ⟨ns,h40,hT2,λz H2 s2 hz=>k1 ((d1 rfl).mpr g) _ _ (s1.trans s2) (.inl ⟨t,z,ds,rfl,rfl,by rw[hz,hd,hv],(s1.trans s2) _ _ ht⟩)⟩⟩
  ·walk_at "rd"
   rw[Yb (by decide),Yb (by decide)]
   refine⟨l,rfl,ha,hl,λg u H1 s1 hu=>?_,λg H1 s1=>⟨rfl,s1,λw=>g ((ZmY l).mp (hd.mp w))⟩⟩
   obtain⟨ns,hT2,hd2,hv,h40⟩:=Zis g.2.1
   have et:((l.foldl ZI ([],0)).1.map λ(d:Nat)=>(d:Int)).map Int.toNat=(l.foldl ZI ([],0)).1:=by simp[Function.comp_def]
   rw[et]at hT2 hd2 hv h40
   exact⟨u,_,rfl,hu,by omega,.inl ⟨ns,h40,hT2,λH2 s2=>k1 (hd.mpr ((ZmY l).mpr g)) _ _ (s1.trans s2) (.inr ⟨l,by rw[hd2,ok_bra g],rfl⟩)⟩⟩
 ·rintro σ1 C H1 ⟨rfl,rfl,s1,nd⟩
  refine⟨_,rfl,T.up_NoTelling,λe he=>?_⟩
  walk_at "rd"
  exact k2 nd e _ (s1.ZC he) Zd
theorem Zi1 {f:Addr}{fd:FuncData} (F:Fun K "_law_right" "_law_right" ZaW f fd) (Zaf:Callee P w K mg base "_law_are_distances" 1 ["told"] (ZaC K mg)) (ZaZ:Callee P w K mg base "_law_are_drops" 1 ["told"] (Zbx K mg)) (Zaj:Callee P w K mg base "_law_are_brackets" 1 ["text"] (ZaK K mg)) (Zd0:Callee P w K mg base "_law_alone" 2 ["e","at"] (Zdb K mg)) (Zd1:Callee P w K mg base "_law_asked" 7 ["way","told"] (Zdc K mg)) (T:Txt K mg):FnOk P w K mg base (CXE P w) 8 f fd ["way","told"] (Zdd K mg):=by
 refine F.okX Zdf (λvs H Q E h=>?_) (λcdv A outer s H vs Q E hr h=>?_)
 ·obtain⟨way,v,D,rfl,_⟩:=h;rfl
 obtain⟨way,v,D,rfl,hT,k1⟩:=h
 refine⟨_,(Zc (Zk (i:=2) Zdf.nd rfl (Or.inl rfl) (ZpA (Zij Zaf (hr.mono (by decide)) (Zij ZaZ (hr.mono (by decide)) (Zij Zaj (hr.mono (by decide)) Zq5))) Zy (ZZ ZQ (ZJ (Za (Zpz Zaf rfl) (Za (Zpz ZaZ rfl) (Za (Zpz Zaj rfl) Zb)))) (pv 0) (λ_ _=>rfl)) (Za (pv 1) Zb)))
   (Zc (Zk (i:=3) Zdf.nd rfl (Or.inl rfl) (Zi Zd1 (hr.mono (by decide)) rfl Zy (Za (pv 0) (Za (pv 1) Zb))))
   (Zc (ZE (ZdI (pv 2)) (Zf (Zt (Zbt (op_orR ZaE (Zj3 (K:=K) rfl hr)) (pv 3) (pv 1) (Zp _)))) Zw)
   (Zf (Zt (ZoH (Zg (ZP (K:=K) rfl) rfl T.b_isinstance Zu (Za (pv 3) (Za (ZhJ (v:=.ty "ValueError") rfl T.b_ValueError Zfr rfl) Zb))) (ZoG (Zi Zd0 (hr.mono (by decide)) rfl Zy (Za (pv 3) (Za Ze Zb)))))))))),?_⟩
 refine Zcd (fun σ Hx=>∃b:Bool,σ=[some (.int way),some v,some (.bl b),none]/\(b=true↔D)/\Zh H Hx) (λR hR=>?_) ?_
 ·walk_at "rd"
  refine⟨by decide,λp hp=>⟨_,SqL.of Zd,?_⟩⟩
  have s0:=(Zh.refl H).upd (o:=.lst [V.ref (clsAt mg "_law_are_distances"),V.ref (clsAt mg "_law_are_drops"),V.ref (clsAt mg "_law_are_brackets")]) hp
  rcases hT with⟨hw,t,ds,rfl,ht,hl,d0,d1⟩|⟨rfl,l,rfl,ha,hl,hd⟩
  ·rcases hw with rfl|rfl
   ·exact⟨_,rfl,_,YW ..,t,ds,rfl,SqT.of (s0 _ _ ht),hl,λb H1 s1 hb=>hR _ _ ⟨b,rfl,hb.trans (d0 rfl).symm,s0.trans s1⟩⟩
   ·exact⟨_,rfl,_,YU _ (YW ..),t,ds,rfl,SqT.of (s0 _ _ ht),hl,λb H1 s1 hb=>hR _ _ ⟨b,rfl,hb.trans (d1 rfl).symm,s0.trans s1⟩⟩
  ·exact⟨_,rfl,_,YU _ (YU _ (YW ..)),l,rfl,ha,hl,λb hb=>hR _ _ ⟨b,rfl,hb.trans hd.symm,s0⟩⟩
 rintro σ H1 ⟨b,rfl,hb,s1⟩
 walk_at "rd"
 refine⟨way,v,D,rfl,hT.same s1,λhD z H2 s2 hz=>?_,λhD e H2 s2 he=>?_⟩
 ·show if b=true then _ else _
  rw[Yc (hb.mpr hD)]
  rcases hz with⟨t,u,ds,rfl,rfl,h1,h2⟩|⟨l,rfl,rfl⟩
  ·refine .inr ⟨u,rfl,t,rfl,_,ZmQ (n:=2) Zf7 _ _ ds ds (Zf8 (SqT.of h1)) (Zf8 (SqT.of h2)),?_⟩
   have:=k1 _ (s1.trans s2)
   simpa using this
  ·refine .inl ⟨rfl,?_⟩
   have:=k1 _ (s1.trans s2)
   simpa using this
 ·show if b=true then _ else _
  rw[Yb (λw=>hD (hb.mp w))]
  refine⟨_,tyE he T.ex_NoTelling T.is_NoTelling_V,?_⟩
  rw[Yc rfl]
  exact⟨e,rfl,he,λH3 s3=>k1 _ ((s1.trans s2).trans s3)⟩
theorem ZfK {f:Addr}{fd:FuncData} (F:Fun K "_law_bent_often" "_law_bent_often" ZW f fd) (Zj:Callee P w K mg base "_law_take" 1 ["pot","many"] (Zac K mg)) (ZeL:Callee P w K mg base "_law_bent" 2 ["pot","told"] (ZdW K mg)) (ZbV:Callee P w K mg base "_law_text_bent" 3 ["pot","text"] (Zby K mg)) (T:Txt K mg):FnOk P w K mg base (CXE P w) 4 f fd ["pot","way","told"] (Zbj K mg):=by
 refine F.okX Zas (λvs H Q E h=>?_) (λcdv A outer s H vs Q E hr h=>?_)
 ·obtain⟨p,way,v,D,rfl,_⟩:=h;rfl
 obtain⟨p,way,v,D,rfl,hP,hT,k1⟩:=h
 refine⟨_,(Zc (Zbh (Za4 PassesOwn.never rfl (ZF rfl T.b_range (Za (Zl ZY Ze (Zi Zj (hr.mono (by decide)) rfl Zy (Za (pv 0) (Za Ze Zb)))) Zb)) (Zr (i:=3) Zas.nd rfl (Or.inl rfl)) (Zf (ZE (Zn Zep (pv 1) Ze (Zp _)) (Zf (Zk (i:=2) Zas.nd rfl (Or.inl rfl) (Zi ZeL (hr.mono (by decide)) rfl Zy (Za (pv 0) (Za (pv 2) Zb))))) (Zf (ZE (Zn Zep (Zg Zfi rfl T.b_len Yk (Za (pv 2) Zb)) Ze (Zp _)) (Zf (Zk (i:=2) Zas.nd rfl (Or.inl rfl) (Zi ZbV (hr.mono (by decide)) rfl Zy (Za (pv 0) (Za (pv 2) Zb))))) Zw))))))
   (Zf (Zt (pv 2)))),?_⟩
 walk_at "rd"
 refine⟨p,_,rfl,by decide,by decide,hP,λd H1 d0 d1 P1 e1=>⟨d,rfl,by omega,by omega,?_⟩⟩
 refine Zay (λi σ Hx=>∃(z:V) (v3:Option V) (D':Prop),σ=[some (.ref p),some (.int way),some z,v3]/\Told (200+2*i) Hx way z D'/\Zv Hx p/\Exc p H Hx) ⟨v,none,D,rfl,hT.exc hP e1,P1,e1⟩ ?_ ?_
 ·rintro i σ Hx hi ⟨z,v3,D',rfl,hT',P2,e2⟩
  rcases hT' with⟨hw,t,ds,rfl,ht,hl,d0,d1⟩|⟨rfl,l,rfl,ha,hl,hd⟩
  ·walk_at "rd"
   rw[Yc (by rcases hw with rfl|rfl<;>decide)]
   exact⟨p,t,ds,rfl,P2,ht,by omega,λt' T' H3 ht' hl' P3 e3=>⟨(if way=0 then ZdU T' else ZaJ T'),.inl ⟨hw,t',T',rfl,ht',by omega,(λz=>by rw[Yc z]),λz=>by rw[Yb (by omega)]⟩,P3,e2.trans e3⟩⟩
  ·walk_at "rd"
   rw[Yb (by decide)]
   have ets:(txt l).length=l.length:=by simp[txt,Str.length]
   rw[ets]
   refine⟨Yg (show l.length<=1000 by omega) (by decide),ZR (λz=>?_) λz=>⟨D',.inr ⟨rfl,l,rfl,ha,by omega,hd⟩,P2,e2⟩⟩
   exact⟨p,l,rfl,ha,by omega,P2,λm H3 hm hml P3 e3=>⟨Zkb m,.inr ⟨rfl,m,rfl,hm,by omega,Iff.rfl⟩,P3,e2.trans e3⟩⟩
 ·rintro σ Hx ⟨z,v3,D',rfl,hT',P2,e2⟩
  walk_at "rd"
  exact k1 z D' _ (hT'.more (by omega)) P2 e2
theorem Zjz:∀bs:List (List Nat),(∀b∈bs,b=[40]\/b=[41])->bs.flatten.length=bs.length
 |[],_=>rfl
 |x::xs,h=>by
  have:=Zjz xs λb hb=>h b (by simp[hb])
  rw[List.flatten_cons,Yr,this,YE]
  rcases h x (by simp)with z|z<;>rw[z]<;>simp<;>omega
theorem Zfs {H:Hp}{p t:Addr}{xs:List V} (P:Zv H p) (h:H t=some (.tup xs)):t≠p:=λz=>by
 obtain⟨_,hz,_⟩:=P
 rw[<-z,h]at hz;cases hz
theorem Zq8 {ds:List Nat} (hD:Zcu ds):(Zfo ds).length=2*ds.length:=by
 have:=ZdT hD
 unfold Zfo;rw[Yr,Zdw,List.length_replicate];omega
theorem ok_law {f:Addr}{fd:FuncData} (F:Fun K "law" "law" Zgh f fd) (ZfL:Callee P w K mg base "_law_pot" 1 ["script","k"] (ZeH K mg)) (Zj:Callee P w K mg base "_law_take" 1 ["pot","many"] (Zac K mg)) (ZfM:Callee P w K mg base "_law_row" 2 ["pot","most"] (ZeI K mg)) (Zd2:Callee P w K mg base "_law_drops" 1 ["row"] (Zde K mg)) (ZbW:Callee P w K mg base "_law_distances" 1 ["row"] (Zbz K mg)) (Zck:Callee P w K mg base "_law_brackets" 1 ["drops"] (ZbQ K mg)) (ZbB:Callee P w K mg base "_law_right" 8 ["way","told"] (Zdd K mg)) (ZbC:Callee P w K mg base "_law_bent_often" 4 ["pot","way","told"] (Zbj K mg)) (T:Txt K mg):FnOk P w K mg base (CXE P w) 9 f fd ["script"] (ZmW K):=by
 refine F.okX ZcK (λvs H Q E h=>?_) (λcdv A outer s H vs Q E hr h=>?_)
 ·obtain⟨a,ns,rfl,_⟩:=h;rfl
 obtain⟨sc,ss,rfl,hsc,hss,k1⟩:=h
 refine⟨_,(Zc (Zbh (Za4 PassesOwn.never rfl (ZF rfl T.b_range (Za (Zg (Zjb rfl) rfl T.b_max ZlG (Za Ze (Za (Zg (Zns rfl) rfl T.b_min Zo8 (Za (Zg (Zo (K:=K) rfl) rfl T.b_len Yk (Za (pv 0) Zb)) (Za Ze Zb))) Zb))) Zb)) (Zr (i:=1) ZcK.nd rfl (Or.inl rfl)) (Zc (Zk (i:=2) ZcK.nd rfl (Or.inr rfl) (Zi ZfL (hr.mono (by decide)) rfl Zy (Za (pv 0) (Za (pv 1) Zb))))
   (Zc (Zk (i:=3) ZcK.nd rfl (Or.inl rfl) (Zi ZfM (hr.mono (by decide)) rfl Zy (Za (pv 2) (Za (ZZ ZdK (ZhW (Za Ze (Za Ze Zb))) (Zl ZjI (Zi Zj (hr.mono (by decide)) rfl Zy (Za (pv 2) (Za Ze Zb))) Ze) (λ_ _=>rfl)) Zb))))
   (Zc (Zk (i:=4) ZcK.nd rfl (Or.inl rfl) (Zi Zd2 (hr.mono (by decide)) rfl Zy (Za (pv 3) Zb)))
   (Zc (Zk (i:=5) ZcK.nd rfl (Or.inl rfl) (ZJ (Za (Zi ZbW (hr.mono (by decide)) rfl Zy (Za (pv 3) Zb)) (Za (pv 4) (Za (Zi Zck (hr.mono (by decide)) rfl Zy (Za (pv 4) Zb)) Zb)))))
   (Zc (Zk (i:=6) ZcK.nd rfl (Or.inr rfl) (Zi Zj (hr.mono (by decide)) rfl Zy (Za (pv 2) (Za Ze Zb))))
   (Zc (Zk (i:=7) ZcK.nd rfl (Or.inl rfl) (ZK (Zaz (K:=K) rfl) rfl T.b_tuple Zau (Za (Zav ["place","pot","many"] [none,some 2,some 6] rfl rfl rfl (ZF rfl T.b_range (Za (pv 6) Zb)) (λ_ _ _ _ _=>(Zr (i:=0) (show(["place","pot","many"]:List Str).Nodup from by decide +kernel) rfl (Or.inl rfl))) (λ_ _ _ _ _=>Za9) (λ_ _ _ _ _=>(Zi Zj (hr.mono (by decide)) rfl Zy (Za (pv 1) (Za (pv 2) Zb)))) ZG) Zb)))
   (Zc (Zk (i:=8) ZcK.nd rfl (Or.inl rfl) (Zcc PySem.F.plainAttrs_str PySem.F.slot_str_join PySem.F.type_str_join (Zj9 (K:=K) rfl) Z7 (Za (Zav ["place","pot"] [none,some 2] rfl rfl rfl (ZF rfl T.b_range (Za (Zl Zbc Ze (pv 6)) Zb)) (λ_ _ _ _ _=>(Zr (i:=0) (show(["place","pot"]:List Str).Nodup from by decide +kernel) rfl (Or.inl rfl))) (λ_ _ _ _ _=>Za9) (λ_ _ _ _ _=>(ZZ (r:=ZlD) ZoX Z7 (Zi Zj (hr.mono (by decide)) rfl Zy (Za (pv 1) (Za Ze Zb))) (λ_ _=>rfl))) ZG) Zb)))
   (Zf (Zbh (Za4 PassesOwn.never rfl (ZF rfl T.b_range (Za Ze Zb)) (Zr (i:=9) ZcK.nd rfl (Or.inl rfl)) (Zc (ZE (PW.pt (ZkB (Zex (ZdI (Zi ZbB (hr.mono (by decide)) rfl Zy (Za (pv 9) (Za (ZZ ZQ (pv 5) (pv 9) (λ_ _=>rfl)) Zb))))) (ZhS (Zex (ZdI (Zi ZbB (hr.mono (by decide)) rfl Zy (Za (pv 9) (Za (ZZ ZdK (ZhW (Za (pv 7) (Za (pv 7) (Za (pv 8) Zb)))) (pv 9) (λ_ _=>rfl)) Zb)))))))) (Zf (Zt Zdo)) Zw)
   (Zf (Zbh (Za4 PassesOwn.never rfl (ZF rfl T.b_range (Za Ze Zb)) (Zr (i:=10) ZcK.nd rfl (Or.inl rfl)) (Zf (ZE (Zex (ZdI (Zi ZbB (hr.mono (by decide)) rfl Zy (Za (pv 9) (Za (Zi ZbC (hr.mono (by decide)) rfl Zy (Za (pv 2) (Za (pv 9) (Za (ZZ ZQ (pv 5) (pv 9) (λ_ _=>rfl)) Zb)))) Zb))))) (Zf (Zt Zdo)) Zw))))))))))))))))))
   (Zf (Zt Zdo))),?_⟩
 walk_at "rd"
 refine⟨_,.inl hsc,?_,?_,Zay (λi σ H'=>∃v1 v2 v3 v4 v5 v6 v7 v8 v9 v10,σ=[some (.ref sc),v1,v2,v3,v4,v5,v6,v7,v8,v9,v10]/\Zh H H') ⟨_,_,_,_,_,_,_,_,_,_,rfl,Zh.refl H⟩ ?_ ?_⟩
 ·split<;>omega
 ·split<;>omega
 ·rintro i σ H' hi ⟨v1,v2,v3,v4,v5,v6,v7,v8,v9,v10,rfl,hs⟩
  have hi8:i<16:=by
   revert hi
   split
   ·split<;>omega
   ·omega
  refine Zcd (fun σ Hx=>∃p,σ=[some (.ref sc),some (.int (0+(i:Int))),some (.ref p),v3,v4,v5,v6,v7,v8,v9,v10]/\H p=none/\Zv Hx p/\Zh H Hx) (λR hR=>?_) ?_
  ·walk_at "rd"
   exact⟨sc,ss,_,rfl,hs.seq hsc,by omega,by omega,λp H1 hp s1 P1=>hR _ _ ⟨p,rfl,hs.free hp,P1,hs.trans s1⟩⟩
  rintro σ H1 ⟨p,rfl,zp,P1,s1⟩
  refine Zcd (fun σ Hx=>∃(r:Addr) (ns:List Int),σ=[some (.ref sc),some (.int (0+(i:Int))),some (.ref p),some (.ref r),v4,v5,v6,v7,v8,v9,v10]/\ns.length<=41/\Hx r=some (.lst (ns.map V.int))/\r≠p/\Zv Hx p/\Zh H Hx) (λR hR=>?_) ?_
  ·walk_at "rd"
   refine⟨by decide,λq hq=>⟨p,_,rfl,by decide,by decide,P1.upd hq,λc H2 c0 c1 P2 e2=>?_⟩⟩
   have hq2:=e2 _ _ (P1.ne hq) Zd
   refine⟨c,rfl,⟨by decide,by decide⟩,_,SqT.of hq2,V.int (if c / 2=0 then 8 else 41),?_,p,_,rfl,by split<;>decide,by split<;>decide,P2,λr row H3 hr3 hl hrow P3 e3=>hR _ _ ⟨r,row,rfl,?_,hrow,P2.ne hr3,P3,(s1.ZC hq).exc zp (e2.trans e3)⟩⟩
   ·have:c / 2=0\/c / 2=1:=by omega
    rcases this with z|z<;>rw[z]<;>rfl
   ·split at hl<;>omega
  clear s1 P1
  rintro σ H1 ⟨r,ns,rfl,hn,hr1,nrp,P1,s1⟩
  have hD:=Zju (nth ns) ns.length
  have ld:=ZdS (nth ns) ns.length
  refine Zcd (fun σ Hx=>∃u:Addr,σ=[some (.ref sc),some (.int (0+(i:Int))),some (.ref p),some (.ref r),some (.ref u),v5,v6,v7,v8,v9,v10]/\Hx u=some (.tup (Zq (ZA (nth ns) ns.length)))/\Hx r=some (.lst (ns.map V.int))/\Zv Hx p/\Zh H Hx) (λR hR=>?_) ?_
  ·walk_at "rd"
   exact⟨r,ns,rfl,hr1,hn,λu H3 s3 hu=>hR _ _ ⟨u,rfl,hu,s3 _ _ hr1,P1.same s3,s1.trans s3⟩⟩
  clear s1 P1 hr1 H1
  rintro σ H1 ⟨u,rfl,hu,hr1,P1,s1⟩
  refine Zcd (fun σ Hx=>∃(tl a:Addr),σ=[some (.ref sc),some (.int (0+(i:Int))),some (.ref p),some (.ref r),some (.ref u),some (.ref tl),v6,v7,v8,v9,v10]/\Hx tl=some (.lst [.ref a,.ref u,.str (txt (Zfo (ZA (nth ns) ns.length)))])/\Hx a=some (.tup ((Zba ns).map V.int))/\Hx u=some (.tup (Zq (ZA (nth ns) ns.length)))/\tl≠p/\Zv Hx p/\Zh H Hx) (λR hR=>?_) ?_
  ·walk_at "rd"
   refine⟨r,ns,rfl,hr1,by omega,λa H2 s2 ha=>⟨u,_,rfl,s2 _ _ hu,by rw[ld];omega,hD,λH3 s3=>⟨by decide,λtl htl=>?_⟩⟩⟩
   have g:=(Zh.refl H3).upd (o:=.lst [.ref a,.ref u,.str (txt (Zfo (ZA (nth ns) ns.length)))]) htl
   exact hR _ _ ⟨tl,a,rfl,Zd,(s3.trans g) _ _ ha,(s2.trans (s3.trans g)) _ _ hu,(P1.same (s2.trans s3)).ne htl,P1.same (s2.trans (s3.trans g)),s1.trans (s2.trans (s3.trans g))⟩
  clear s1 P1 hr1 hu H1
  rintro σ H1 ⟨tl,a,rfl,htl,ha,hu,ntp,P1,s1⟩
  refine Zcd (fun σ Hx=>∃m:Nat,σ=[some (.ref sc),some (.int (0+(i:Int))),some (.ref p),some (.ref r),some (.ref u),some (.ref tl),some (.int (m:Nat)),v7,v8,v9,v10]/\m<6/\Hx tl=some (.lst [.ref a,.ref u,.str (txt (Zfo (ZA (nth ns) ns.length)))])/\Hx a=some (.tup ((Zba ns).map V.int))/\Hx u=some (.tup (Zq (ZA (nth ns) ns.length)))/\Zv Hx p/\Zh H Hx) (λR hR=>?_) ?_
  ·walk_at "rd"
   refine⟨p,_,rfl,by decide,by decide,P1,λc H2 c0 c1 P2 e2=>?_⟩
   obtain⟨m,rfl⟩:=YM c0
   exact hR _ _ ⟨m,rfl,by omega,e2 _ _ ntp htl,e2 _ _ (Zfs P1 ha) ha,e2 _ _ (Zfs P1 hu) hu,P2,s1.exc zp e2⟩
  clear s1 P1 htl ha hu H1
  rintro σ H1 ⟨m,rfl,hm,htl,ha,hu,P1,s1⟩
  refine Zcd (fun σ Hx=>∃(d:Addr) (dr:List Int),σ=[some (.ref sc),some (.int (0+(i:Int))),some (.ref p),some (.ref r),some (.ref u),some (.ref tl),some (.int (m:Nat)),some (.ref d),v8,v9,v10]/\dr.length=m/\Hx d=some (.tup (dr.map V.int))/\Hx tl=some (.lst [.ref a,.ref u,.str (txt (Zfo (ZA (nth ns) ns.length)))])/\Hx a=some (.tup ((Zba ns).map V.int))/\Hx u=some (.tup (Zq (ZA (nth ns) ns.length)))/\Zv Hx p/\Zh H Hx) (λR hR=>?_) ?_
  ·walk_at "rd"
   refine⟨by omega,by omega,?_⟩
   rw[show((m:Int)).toNat=m by omega]
   refine ZkU (n:=m) (λj acc Hz=>∃bs:List Int,acc=bs.map V.int/\bs.length=j/\Zv Hz p/\Exc p H1 Hz) (Yy (show _<=1000 by omega) (by decide)) ⟨[],rfl,rfl,P1,(Zh.refl H1).ZmI⟩ (λj acc Hz _ hj=>hj) (λacc Hz _=>Yd _) ?_ ?_
   ·rintro j x acc Hz Hz' hj hacc ⟨bs,rfl,hbl,P2,e2⟩ ⟨rfl,rfl⟩
    walk_at "rd"
    exact⟨p,_,rfl,by omega,by omega,P2,λc H3 c0 c1 P3 e3=>⟨m-(j+1),by omega,by omega,by omega,by simp;omega,bs++[c],by simp,by simp;omega,P3,e2.trans e3⟩⟩
   ·rintro b acc Hz ⟨bs,rfl,hbl,P2,e2⟩ _ hb
    refine⟨b,rfl,_,.inl ⟨SqL.of Zd,λd hd=>?_⟩⟩
    have g:=((Zh.refl Hz).upd (o:=.lst (bs.map V.int)) hb).ZC (o:=.tup (bs.map V.int)) hd
    exact hR _ _ ⟨d,bs,rfl,hbl,Zd,g _ _ (e2 _ _ ntp htl),g _ _ (e2 _ _ (Zfs P1 ha) ha),g _ _ (e2 _ _ (Zfs P1 hu) hu),P2.same g,(s1.exc zp e2).trans g⟩
  clear s1 P1 htl ha hu H1
  rintro σ H1 ⟨d,dr,rfl,hdl,hd,htl,ha,hu,P1,s1⟩
  refine Zcd (fun σ Hx=>∃(l:List Nat),σ=[some (.ref sc),some (.int (0+(i:Int))),some (.ref p),some (.ref r),some (.ref u),some (.ref tl),some (.int (m:Nat)),some (.ref d),some (.str (txt l)),v9,v10]/\(∀c∈l,c<128)/\l.length<=20/\Hx d=some (.tup (dr.map V.int))/\Hx tl=some (.lst [.ref a,.ref u,.str (txt (Zfo (ZA (nth ns) ns.length)))])/\Hx a=some (.tup ((Zba ns).map V.int))/\Hx u=some (.tup (Zq (ZA (nth ns) ns.length)))/\Zv Hx p/\Zh H Hx) (λR hR=>?_) ?_
  ·walk_at "rd"
   refine⟨rfl,Zhm (by decide) (by decide),by omega,by omega,?_⟩
   rw[show(2*(m:Int)).toNat=2*m by omega]
   refine ZkU (n:=2*m) (λj acc Hz=>∃bs:List (List Nat),acc=(bs.map txt).map V.str/\bs.length=j/\(∀b∈bs,b=[40]\/b=[41])/\Zv Hz p/\Exc p H1 Hz) (Yy (show _<=1000 by omega) (by decide)) ⟨[],rfl,rfl,(λb hb=>nomatch hb),P1,(Zh.refl H1).ZmI⟩ (λj acc Hz _ hj=>hj) (λacc Hz _=>Yd _) ?_ ?_
   ·rintro j x acc Hz Hz' hj hacc ⟨bs,rfl,hbl,hba,P2,e2⟩ ⟨rfl,rfl⟩
    walk_at "rd"
    refine⟨p,_,rfl,by decide,by decide,P2,λc H3 c0 c1 P3 e3=>⟨c,rfl,by decide,?_⟩⟩
    have:c=0\/c=1:=by omega
    rcases this with rfl|rfl
    ·exact⟨40,by decide,CA.take hj hacc ⟨bs++[[40]],by rw[YL,YL];rfl,by simp[hbl],(λb hb=>(Yt.mp hb).elim (hba b) λz=>.inl (by simpa using z)),P3,e2.trans e3⟩⟩
    ·exact⟨41,by decide,CA.take hj hacc ⟨bs++[[41]],by rw[YL,YL];rfl,by simp[hbl],(λb hb=>(Yt.mp hb).elim (hba b) λz=>.inr (by simpa using z)),P3,e2.trans e3⟩⟩
   ·rintro b acc Hz ⟨bs,rfl,hbl,hba,P2,e2⟩ _ hb
    have g:=(Zh.refl Hz).upd (o:=.lst ((bs.map txt).map V.str)) hb
    have hfl:bs.flatten.length=2*m:=by rw[<-hbl];exact Zjz bs hba
    refine⟨b,rfl,_,SqL.of Zd,ZfG (by omega),?_⟩
    rw[Zdv]
    refine hR _ _ ⟨bs.flatten,rfl,λc hc=>?_,by omega,g _ _ (e2 _ _ (Zfs P1 hd) hd),g _ _ (e2 _ _ ntp htl),g _ _ (e2 _ _ (Zfs P1 ha) ha),g _ _ (e2 _ _ (Zfs P1 hu) hu),P2.same g,(s1.exc zp e2).trans g⟩
    obtain⟨x,hx,hcx⟩:=List.mem_flatten.mp hc
    rcases hba x hx with z|z<;>subst z<;>simp at hcx<;>omega
  clear s1 P1 htl ha hu hd H1
  rintro σ H1 ⟨l,rfl,hla,hll,hd,htl,ha,hu,P1,s1⟩
  walk_at "rd"
  refine⟨by decide,by decide,Zay (λj σ Hx=>∃v9 v10,σ=[some (.ref sc),some (.int (0+(i:Int))),some (.ref p),some (.ref r),some (.ref u),some (.ref tl),some (.int (m:Nat)),some (.ref d),some (.str (txt l)),v9,v10]/\Hx d=some (.tup (dr.map V.int))/\Hx tl=some (.lst [.ref a,.ref u,.str (txt (Zfo (ZA (nth ns) ns.length)))])/\Hx a=some (.tup ((Zba ns).map V.int))/\Hx u=some (.tup (Zq (ZA (nth ns) ns.length)))/\Zv Hx p/\Zh H Hx) ⟨v9,v10,rfl,hd,htl,ha,hu,P1,s1⟩ ?_ ?_⟩
  ·clear s1 P1 htl ha hu hd H1
   rintro j σ H1 hj ⟨v9,v10,rfl,hd,htl,ha,hu,P1,s1⟩
   walk_at "rd"
   have hT1:∀Hx,Hx a=some (.tup ((Zba ns).map V.int))->Hx u=some (.tup (Zq (ZA (nth ns) ns.length)))->∃(x:V) (D:Prop),atI [V.ref a,.ref u,.str (txt (Zfo (ZA (nth ns) ns.length)))] (0+(j:Int))=some x/\Told 200 Hx (0+(j:Int)) x D:=λHx ha hu=>by
    rw[Zfh]at hu
    have hj:j<3:=hj
    match j,hj with
    |0,_=>exact⟨_,ZdU (Zba ns),rfl,.inl ⟨.inl (by omega),a,_,rfl,ha,by rw[Zff];omega,(λ_=>Iff.rfl),λz=>absurd z (by decide)⟩⟩
    |1,_=>exact⟨_,_,rfl,.inl ⟨.inr (by omega),u,_,rfl,hu,by rw[Yi,ld];omega,(λz=>absurd z (by decide)),λ_=>Iff.rfl⟩⟩
    |2,_=>exact⟨_,_,rfl,.inr ⟨by omega,_,rfl,(λc hc=>by rcases Zq4 hc with z|z<;>omega),by rw[Zq8 hD,ld];omega,Iff.rfl⟩⟩
   have hT2:∀Hx,Hx d=some (.tup (dr.map V.int))->∃(x:V) (D:Prop),atI [V.ref d,.ref d,.str (txt l)] (0+(j:Int))=some x/\Told 200 Hx (0+(j:Int)) x D:=λHx hd=>by
    have hj:j<3:=hj
    match j,hj with
    |0,_=>exact⟨_,ZdU dr,rfl,.inl ⟨.inl (by omega),d,_,rfl,hd,by omega,(λ_=>Iff.rfl),λz=>absurd z (by decide)⟩⟩
    |1,_=>exact⟨_,_,rfl,.inl ⟨.inr (by omega),d,_,rfl,hd,by omega,(λz=>absurd z (by decide)),λ_=>Iff.rfl⟩⟩
    |2,_=>exact⟨_,_,rfl,.inr ⟨by omega,_,rfl,hla,by omega,Iff.rfl⟩⟩
   obtain⟨x1,D1,hx1,hD1⟩:=hT1 _ ha hu
   refine⟨_,SqL.of htl,x1,hx1,_,_,D1,rfl,hD1.more (by decide),λH2 s2=>⟨true,rfl,ZR (λz=>nomatch z) λ_=>⟨by decide,λq hq=>?_⟩⟩⟩
   have g2:=s2.ZC (o:=.tup [V.ref d,V.ref d,V.str (txt l)]) hq
   obtain⟨x2,D2,hx2,hD2⟩:=hT2 _ (g2 _ _ hd)
   refine⟨_,SqT.of Zd,x2,hx2,_,_,D2,rfl,hD2.more (by decide),λH3 s3=>⟨true,rfl,ZR (λz=>nomatch z) λ_=>⟨by decide,by decide,?_⟩⟩⟩
   have g3:=g2.trans s3
   refine Zay (λk σ Hx=>∃v10,σ=[some (.ref sc),some (.int (0+(i:Int))),some (.ref p),some (.ref r),some (.ref u),some (.ref tl),some (.int (m:Nat)),some (.ref d),some (.str (txt l)),some (.int (0+(j:Int))),v10]/\Hx d=some (.tup (dr.map V.int))/\Hx tl=some (.lst [.ref a,.ref u,.str (txt (Zfo (ZA (nth ns) ns.length)))])/\Hx a=some (.tup ((Zba ns).map V.int))/\Hx u=some (.tup (Zq (ZA (nth ns) ns.length)))/\Zv Hx p/\Zh H Hx) ⟨v10,rfl,g3 _ _ hd,g3 _ _ htl,g3 _ _ ha,g3 _ _ hu,P1.same g3,s1.trans g3⟩ ?_ ?_
   ·clear g3 s3 g2 hq s2 s1 P1 hd htl ha hu H2 H3 H1 hx1 hD1 hx2 hD2
    rintro k σ H1 hk ⟨v10,rfl,hd,htl,ha,hu,P1,s1⟩
    walk_at "rd"
    obtain⟨x1,D1,hx1,hD1⟩:=hT1 _ ha hu
    refine⟨_,SqL.of htl,x1,hx1,p,_,_,D1,rfl,P1,hD1,λz D' H2 hT' P2 e2=>⟨_,_,D',rfl,hT',λH3 s3=>⟨true,rfl,ZR (λz=>nomatch z) λ_=>?_⟩⟩⟩
    exact⟨s3 _ _ (e2 _ _ (Zfs P1 hd) hd),s3 _ _ (e2 _ _ ntp htl),s3 _ _ (e2 _ _ (Zfs P1 ha) ha),s3 _ _ (e2 _ _ (Zfs P1 hu) hu),P2.same s3,(s1.exc zp e2).trans s3⟩
   ·rintro σ Hx ⟨v10,rfl,h⟩
    exact⟨_,_,rfl,h⟩
  ·rintro σ Hx ⟨v9,v10,rfl,_,_,_,_,_,sx⟩
   walk_at "rd"
   exact sx
 ·rintro σ H' ⟨v1,v2,v3,v4,v5,v6,v7,v8,v9,v10,rfl,hs⟩
  walk_at "rd"
  exact k1 H'
end
theorem all_mk {l:PySem.W.OpenLaw}{w:World}{K:PySem.W.Frag}{h:Heap}{mg:Str->Option Value}{fa:Addr} (X:K.In h) (G:h.Ns mainGlobals mg) (hfa:mg "law"=some (.ref fa))
  (Zit:nsIn K mainGlobals "settle"=some (some (.ref Zld))) (Ziu:K.lookup Zld=some ⟨ZsN,ZsO,.func (fnOf "settle" "settle" (defArgs Zdx) (defBody Zdx) (defScope Zdx) .none ZsP ZsQ ZsR ZsS Zn2 ZsT),ZsU⟩) (Ziv:codeIn K Zn2 "settle"=true) (Zgq:keepIn K (.ref Zld)=true)
  (Zg5:nsIn K mainGlobals "tree_of"=some (some (.ref ZjA))) (Zg6:K.lookup ZjA=some ⟨Zsk,Zsl,.func (fnOf "tree_of" "tree_of" (defArgs ZcE) (defBody ZcE) (defScope ZcE) .none Zsm Zsn Zso Zsp Zmb Zsq),Zsr⟩) (Zg7:codeIn K Zmb "tree_of"=true) (Zfl:keepIn K (.ref ZjA)=true)
  (Ziw:nsIn K mainGlobals "way_up"=some (some (.ref Zle))) (Zix:K.lookup Zle=some ⟨ZsV,ZsW,.func (fnOf "way_up" "way_up" (defArgs Zdy) (defBody Zdy) (defScope Zdy) .none ZsX ZsY ZsZ Zs0 Zn3 Zs1),Zs2⟩) (Ziy:codeIn K Zn3 "way_up"=true) (Zgr:keepIn K (.ref Zle)=true)
  (Zg8:nsIn K mainGlobals "is_tree"=some (some (.ref ZjB))) (Zg9:K.lookup ZjB=some ⟨Zss,Zst,.func (fnOf "is_tree" "is_tree" (defArgs ZcF) (defBody ZcF) (defScope ZcF) .none Zsu Zsv Zsw Zsx Zmc Zsy),Zsz⟩) (Zha:codeIn K Zmc "is_tree"=true) (Zfm:keepIn K (.ref ZjB)=true)
  (ZeM:nsIn K mainGlobals "need_tree"=some (some (.ref Zhq))) (ZeN:K.lookup Zhq=some ⟨Zq9,Zra,.func (fnOf "need_tree" "need_tree" (defArgs Zbl) (defBody Zbl) (defScope Zbl) .none Zrb Zrc Zrd Zre Zki Zrf),Zrg⟩) (ZeO:codeIn K Zki "need_tree"=true) (Zc0:keepIn K (.ref Zhq)=true)
  (ZeP:nsIn K mainGlobals "fences_of"=some (some (.ref Zhr))) (ZeQ:K.lookup Zhr=some ⟨Zrh,Zri,.func (fnOf "fences_of" "fences_of" (defArgs Zbm) (defBody Zbm) (defScope Zbm) .none Zrj Zrk Zrl Zrm Zkj Zrn),Zro⟩) (ZeR:codeIn K Zkj "fences_of"=true) (Zc1:keepIn K (.ref Zhr)=true)
  (Zcl:nsIn K mainGlobals "distance_list"=some (some (.ref Zeq))) (Zcm:K.lookup Zeq=some ⟨Zn4,Zn5,.func (fnOf "distance_list" "distance_list" (defArgs Z8) (defBody Z8) (defScope Z8) .none Zn6 Zn7 Zn8 Zn9 Zhb Zoa),Zob⟩) (Zcn:codeIn K Zhb "distance_list"=true) (Zbe:keepIn K (.ref Zeq)=true)
  (ZcN:nsIn K mainGlobals "distances_of"=some (some (.ref ZeS))) (ZcO:K.lookup ZeS=some ⟨Zon,Zoo,.func (fnOf "distances_of" "distances_of" (defArgs Zan) (defBody Zan) (defScope Zan) .none Zop Zoq Zor Zos ZhF Zot),Zou⟩) (ZcP:codeIn K ZhF "distances_of"=true) (ZbD:keepIn K (.ref ZeS)=true)
  (ZfN:nsIn K mainGlobals "drops_of"=some (some (.ref Ziz))) (ZfO:K.lookup Ziz=some ⟨ZrN,ZrO,.func (fnOf "drops_of" "drops_of" (defArgs ZbM) (defBody ZbM) (defScope ZbM) .none ZrP ZrQ ZrR ZrS Zlf ZrT),ZrU⟩) (ZfP:codeIn K Zlf "drops_of"=true) (Zd3:keepIn K (.ref Ziz)=true)
  (Zdi:nsIn K mainGlobals "brackets_of"=some (some (.ref Zft))) (Zdj:K.lookup Zft=some ⟨ZpC,ZpD,.func (fnOf "brackets_of" "brackets_of" (defArgs ZaA) (defBody ZaA) (defScope ZaA) .none ZpE ZpF ZpG ZpH ZiA ZpI),ZpJ⟩) (Zdk:codeIn K ZiA "brackets_of"=true) (Zca:keepIn K (.ref Zft)=true)
  (Zd4:nsIn K mainGlobals "need_short"=some (some (.ref Zgs))) (Zd5:K.lookup Zgs=some ⟨ZpZ,Zp0,.func (fnOf "need_short" "need_short" (defArgs ZaR) (defBody ZaR) (defScope ZaR) .none Zp1 Zp2 Zp3 Zp4 Zi2 Zp5),Zp6⟩) (Zd6:codeIn K Zi2 "need_short"=true) (Zcx:keepIn K (.ref Zgs)=true)
  (Zhc:nsIn K mainGlobals "kept_by"=some (some (.ref ZjC))) (Zhd:K.lookup ZjC=some ⟨ZsA,ZsB,.func (fnOf "kept_by" "kept_by" (defArgs ZcG) (defBody ZcG) (defScope ZcG) .none ZsC ZsD ZsE ZsF Zmd ZsG),ZsH⟩) (Zhe:codeIn K Zmd "kept_by"=true) (Zfn:keepIn K (.ref ZjC)=true)
  (ZcQ:nsIn K mainGlobals "by_distances"=some (some (.ref ZeT))) (ZcR:K.lookup ZeT=some ⟨Zov,Zow,.func (fnOf "by_distances" "by_distances" (defArgs Zao) (defBody Zao) (defScope Zao) .none Zox Zoy Zoz ZoA ZhG ZoB),ZoC⟩) (ZcS:codeIn K ZhG "by_distances"=true) (ZbE:keepIn K (.ref ZeT)=true)
  (ZfQ:nsIn K mainGlobals "by_drops"=some (some (.ref ZiB))) (ZfR:K.lookup ZiB=some ⟨ZrV,ZrW,.func (fnOf "by_drops" "by_drops" (defArgs ZbN) (defBody ZbN) (defScope ZbN) .none ZrX ZrY ZrZ Zr0 Zlg Zr1),Zr2⟩) (ZfS:codeIn K Zlg "by_drops"=true) (Zd7:keepIn K (.ref ZiB)=true)
  (Zdl:nsIn K mainGlobals "by_brackets"=some (some (.ref Zfu))) (Zdm:K.lookup Zfu=some ⟨ZpK,ZpL,.func (fnOf "by_brackets" "by_brackets" (defArgs ZaB) (defBody ZaB) (defScope ZaB) .none ZpM ZpN ZpO ZpP ZiC ZpQ),ZpR⟩) (Zdn:codeIn K ZiC "by_brackets"=true) (Zcb:keepIn K (.ref Zfu)=true)
  (ZfT:nsIn K mainGlobals "_law_pot"=some (some (.ref ZiD))) (ZfU:K.lookup ZiD=some ⟨Zr3,Zr4,.func (fnOf "_law_pot" "_law_pot" (defArgs ZbO) (defBody ZbO) (defScope ZbO) .none Zr5 Zr6 Zr7 Zr8 Zlh Zr9),Zsa⟩) (ZfV:codeIn K Zlh "_law_pot"=true) (Zd8:keepIn K (.ref ZiD)=true)
  (ZeU:nsIn K mainGlobals "_law_take"=some (some (.ref Zhs))) (ZeV:K.lookup Zhs=some ⟨Zrp,Zrq,.func (fnOf "_law_take" "_law_take" (defArgs Zbn) (defBody Zbn) (defScope Zbn) .none Zrr Zrs Zrt Zru Zkk Zrv),Zrw⟩) (ZeW:codeIn K Zkk "_law_take"=true) (Zc2:keepIn K (.ref Zhs)=true)
  (ZfW:nsIn K mainGlobals "_law_row"=some (some (.ref ZiE))) (ZfX:K.lookup ZiE=some ⟨Zsb,Zsc,.func (fnOf "_law_row" "_law_row" (defArgs ZbP) (defBody ZbP) (defScope ZbP) .none Zsd Zse Zsf Zsg Zli Zsh),Zsi⟩) (ZfY:codeIn K Zli "_law_row"=true) (Zd9:keepIn K (.ref ZiE)=true)
  (Zea:nsIn K mainGlobals "_law_drops"=some (some (.ref Zgt))) (Zeb:K.lookup Zgt=some ⟨Zp7,Zp8,.func (fnOf "_law_drops" "_law_drops" (defArgs ZaS) (defBody ZaS) (defScope ZaS) .none Zp9 Zqa Zqb Zqc Zi3 Zqd),Zqe⟩) (Zec:codeIn K Zi3 "_law_drops"=true) (Zcy:keepIn K (.ref Zgt)=true)
  (ZbX:nsIn K mainGlobals "_law_distances"=some (some (.ref ZdC))) (ZbY:K.lookup ZdC=some ⟨ZmZ,Zm0,.func (fnOf "_law_distances" "_law_distances" (defArgs Z1) (defBody Z1) (defScope Z1) .none Zm1 Zm2 Zm3 Zm4 Zgu Zm5),Zm6⟩) (ZbZ:codeIn K Zgu "_law_distances"=true) (Za0:keepIn K (.ref ZdC)=true)
  (Zco:nsIn K mainGlobals "_law_brackets"=some (some (.ref Zer))) (Zcp:K.lookup Zer=some ⟨Zoc,Zod,.func (fnOf "_law_brackets" "_law_brackets" (defArgs Z9) (defBody Z9) (defScope Z9) .none Zoe Zof Zog Zoh Zhf Zoi),Zoj⟩) (Zcq:codeIn K Zhf "_law_brackets"=true) (Zbf:keepIn K (.ref Zer)=true)
  (ZeX:nsIn K mainGlobals "_law_bent"=some (some (.ref Zht))) (ZeY:K.lookup Zht=some ⟨Zrx,Zry,.func (fnOf "_law_bent" "_law_bent" (defArgs Zbo) (defBody Zbo) (defScope Zbo) .none Zrz ZrA ZrB ZrC Zkl ZrD),ZrE⟩) (ZeZ:codeIn K Zkl "_law_bent"=true) (Zc3:keepIn K (.ref Zht)=true)
  (Ze0:nsIn K mainGlobals "_law_sign"=some (some (.ref Zhu))) (Ze1:K.lookup Zhu=some ⟨ZrF,ZrG,.func (fnOf "_law_sign" "_law_sign" (defArgs Zbp) (defBody Zbp) (defScope Zbp) .none ZrH ZrI ZrJ ZrK Zkm ZrL),ZrM⟩) (Ze2:codeIn K Zkm "_law_sign"=true) (Zc4:keepIn K (.ref Zhu)=true)
  (Zb0:nsIn K mainGlobals "_law_text_bent"=some (some (.ref ZdD))) (Zb1:K.lookup ZdD=some ⟨Zm7,Zm8,.func (fnOf "_law_text_bent" "_law_text_bent" (defArgs Z2) (defBody Z2) (defScope Z2) .none Zm9 Zna Znb Znc Zgv Znd),Zne⟩) (Zb2:codeIn K Zgv "_law_text_bent"=true) (Za1:keepIn K (.ref ZdD)=true)
  (ZaL:nsIn K mainGlobals "_law_are_distances"=some (some (.ref Zcf))) (ZaM:K.lookup Zcf=some ⟨Zkt,Zku,.func (fnOf "_law_are_distances" "_law_are_distances" (defArgs ZH) (defBody ZH) (defScope ZH) .none Zkv Zkw Zkx Zky Zev Zkz),ZkA⟩) (ZaN:codeIn K Zev "_law_are_distances"=true) (Zag:keepIn K (.ref Zcf)=true)
  (Zb3:nsIn K mainGlobals "_law_are_drops"=some (some (.ref ZdE))) (Zb4:K.lookup ZdE=some ⟨Znf,Zng,.func (fnOf "_law_are_drops" "_law_are_drops" (defArgs Z3) (defBody Z3) (defScope Z3) .none Znh Zni Znj Znk Zgw Znl),Znm⟩) (Zb5:codeIn K Zgw "_law_are_drops"=true) (Za2:keepIn K (.ref ZdE)=true)
  (Za6:nsIn K mainGlobals "_law_are_brackets"=some (some (.ref Zcs))) (Za7:K.lookup Zcs=some ⟨Zlj,Zlk,.func (fnOf "_law_are_brackets" "_law_are_brackets" (defArgs ZM) (defBody ZM) (defScope ZM) .none Zll Zlm Zln Zlo Ze3 Zlp),Zlq⟩) (Za8:codeIn K Ze3 "_law_are_brackets"=true) (Zak:keepIn K (.ref Zcs)=true)
  (Zed:nsIn K mainGlobals "_law_kinds"=some (some (.ref Zgx))) (Zee:K.lookup Zgx=some ⟨Zqf,Zqg,.func (fnOf "_law_kinds" "_law_kinds" (defArgs ZaT) (defBody ZaT) (defScope ZaT) .none Zqh Zqi Zqj Zqk Zi4 Zql),Zqm⟩) (Zef:codeIn K Zi4 "_law_kinds"=true) (Zcz:keepIn K (.ref Zgx)=true)
  (Zeg:nsIn K mainGlobals "_law_alone"=some (some (.ref Zgy))) (Zeh:K.lookup Zgy=some ⟨Zqn,Zqo,.func (fnOf "_law_alone" "_law_alone" (defArgs ZaU) (defBody ZaU) (defScope ZaU) .none Zqp Zqq Zqr Zqs Zi5 Zqt),Zqu⟩) (Zei:codeIn K Zi5 "_law_alone"=true) (ZcA:keepIn K (.ref Zgy)=true)
  (Zej:nsIn K mainGlobals "_law_asked"=some (some (.ref Zgz))) (Zek:K.lookup Zgz=some ⟨Zqv,Zqw,.func (fnOf "_law_asked" "_law_asked" (defArgs ZaV) (defBody ZaV) (defScope ZaV) .none Zqx Zqy Zqz ZqA Zi6 ZqB),ZqC⟩) (Zel:codeIn K Zi6 "_law_asked"=true) (ZcB:keepIn K (.ref Zgz)=true)
  (Zem:nsIn K mainGlobals "_law_right"=some (some (.ref ZgA))) (Zen:K.lookup ZgA=some ⟨ZqD,ZqE,.func (fnOf "_law_right" "_law_right" (defArgs ZaW) (defBody ZaW) (defScope ZaW) .none ZqF ZqG ZqH ZqI Zi7 ZqJ),ZqK⟩) (Zeo:codeIn K Zi7 "_law_right"=true) (ZcC:keepIn K (.ref ZgA)=true)
  (ZbF:nsIn K mainGlobals "_law_bent_often"=some (some (.ref Zc5))) (ZbG:K.lookup Zc5=some ⟨Zme,Zmf,.func (fnOf "_law_bent_often" "_law_bent_often" (defArgs ZW) (defBody ZW) (defScope ZW) .none Zmg Zmh Zmi Zmj ZfZ Zmk),Zml⟩) (ZbH:codeIn K ZfZ "_law_bent_often"=true) (ZaH:keepIn K (.ref Zc5)=true)
  (ZpS:nsIn K mainGlobals "law"=some (some (.ref Zsj))) (ZpT:K.lookup Zsj=some ⟨Zs4,Zs5,.func (fnOf "law" "law" (defArgs Zgh) (defBody Zgh) (defScope Zgh) .none ZsI ZsJ ZsK ZsL ZpU ZsM),Zs6⟩) (ZpV:codeIn K ZpU "law"=true) (ZpW:keepIn K (.ref Zsj)=true)
  {C_DipError:Addr} (n_DipError:nsIn K mainGlobals "DipError"=some (some (.ref C_DipError))) (x_DipError:PySem.W.excIn K C_DipError bmV newV=true) (d_DipError:PySem.W.hasDictIn K C_DipError=true) (y_DipError:PySem.W.typeIn K (.ref C_DipError)=some (.type "type"))
  {C_Unlike:Addr} (n_Unlike:nsIn K mainGlobals "Unlike"=some (some (.ref C_Unlike))) (x_Unlike:PySem.W.excIn K C_Unlike bmV newV=true) (d_Unlike:PySem.W.hasDictIn K C_Unlike=true) (y_Unlike:PySem.W.typeIn K (.ref C_Unlike)=some (.type "type"))
  {C_Empty:Addr} (n_Empty:nsIn K mainGlobals "Empty"=some (some (.ref C_Empty))) (x_Empty:PySem.W.excIn K C_Empty bmV newV=true) (d_Empty:PySem.W.hasDictIn K C_Empty=true) (y_Empty:PySem.W.typeIn K (.ref C_Empty)=some (.type "type"))
  {C_TooMany:Addr} (n_TooMany:nsIn K mainGlobals "TooMany"=some (some (.ref C_TooMany))) (x_TooMany:PySem.W.excIn K C_TooMany bmV newV=true) (d_TooMany:PySem.W.hasDictIn K C_TooMany=true) (y_TooMany:PySem.W.typeIn K (.ref C_TooMany)=some (.type "type"))
  {C_NoTree:Addr} (n_NoTree:nsIn K mainGlobals "NoTree"=some (some (.ref C_NoTree))) (x_NoTree:PySem.W.excIn K C_NoTree bmV newV=true) (d_NoTree:PySem.W.hasDictIn K C_NoTree=true) (y_NoTree:PySem.W.typeIn K (.ref C_NoTree)=some (.type "type"))
  {C_NoTelling:Addr} (n_NoTelling:nsIn K mainGlobals "NoTelling"=some (some (.ref C_NoTelling))) (x_NoTelling:PySem.W.excIn K C_NoTelling bmV newV=true) (d_NoTelling:PySem.W.hasDictIn K C_NoTelling=true) (y_NoTelling:PySem.W.typeIn K (.ref C_NoTelling)=some (.type "type"))
  {C_NoPlace:Addr} (n_NoPlace:nsIn K mainGlobals "NoPlace"=some (some (.ref C_NoPlace))) (x_NoPlace:PySem.W.excIn K C_NoPlace bmV newV=true) (d_NoPlace:PySem.W.hasDictIn K C_NoPlace=true) (y_NoPlace:PySem.W.typeIn K (.ref C_NoPlace)=some (.type "type"))
  {C_NoNumber:Addr} (n_NoNumber:nsIn K mainGlobals "NoNumber"=some (some (.ref C_NoNumber))) (x_NoNumber:PySem.W.excIn K C_NoNumber bmV newV=true) (d_NoNumber:PySem.W.hasDictIn K C_NoNumber=true) (y_NoNumber:PySem.W.typeIn K (.ref C_NoNumber)=some (.type "type"))
  {C_NoPast:Addr} (n_NoPast:nsIn K mainGlobals "NoPast"=some (some (.ref C_NoPast))) (x_NoPast:PySem.W.excIn K C_NoPast bmV newV=true) (d_NoPast:PySem.W.hasDictIn K C_NoPast=true) (y_NoPast:PySem.W.typeIn K (.ref C_NoPast)=some (.type "type"))
  {C_NoText:Addr} (n_NoText:nsIn K mainGlobals "NoText"=some (some (.ref C_NoText))) (x_NoText:PySem.W.excIn K C_NoText bmV newV=true) (d_NoText:PySem.W.hasDictIn K C_NoText=true) (y_NoText:PySem.W.typeIn K (.ref C_NoText)=some (.type "type"))
  {C_NoLine:Addr} (n_NoLine:nsIn K mainGlobals "NoLine"=some (some (.ref C_NoLine))) (x_NoLine:PySem.W.excIn K C_NoLine bmV newV=true) (d_NoLine:PySem.W.hasDictIn K C_NoLine=true) (y_NoLine:PySem.W.typeIn K (.ref C_NoLine)=some (.type "type"))
  (z1_NoTelling:PySem.W.hasDictIn K C_NoTelling=true) (z2_NoTelling:PySem.W.findIn K (.ref C_NoTelling) "__getattribute__"=some (some (.builtin "BaseException.__getattribute__"))) (z3_NoTelling:PySem.W.findIn K (.ref C_NoTelling) "__getattr__"=some none) (z4_NoTelling:PySem.W.findIn K (.ref C_NoTelling) "__class__"=some (some (.builtin "object.__class__"))) (z5_NoTelling:PySem.W.specialIn K (.builtin "object.__class__") "__get__"=some (some (.builtin "getset_descriptor.__get__"))) (z6_NoTelling:PySem.W.takesIn K (.builtin "object.__class__")=some true) (z7_NoTelling:PySem.W.mroIn K C_NoTelling (.type "object")=some true) (z8_NoTelling:PySem.W.mroIn K C_NoTelling (.type "BaseException")=some true)
  (u_NoTelling:PySem.W.mroIn K C_NoTelling (.ref C_DipError)=some true)
  (i_NoTelling_DipError:PySem.W.subIn K (.ref C_NoTelling) (.ref C_DipError)=some true) (ne_NoTelling_DipError:C_NoTelling≠C_DipError)
  (i_NoTelling_Unlike:PySem.W.subIn K (.ref C_NoTelling) (.ref C_Unlike)=some false) (ne_NoTelling_Unlike:C_NoTelling≠C_Unlike)
  (i_NoTelling_Empty:PySem.W.subIn K (.ref C_NoTelling) (.ref C_Empty)=some false) (ne_NoTelling_Empty:C_NoTelling≠C_Empty)
  (i_NoTelling_TooMany:PySem.W.subIn K (.ref C_NoTelling) (.ref C_TooMany)=some false) (ne_NoTelling_TooMany:C_NoTelling≠C_TooMany)
  (i_NoTelling_NoTree:PySem.W.subIn K (.ref C_NoTelling) (.ref C_NoTree)=some false) (ne_NoTelling_NoTree:C_NoTelling≠C_NoTree)
  (i_NoTelling_NoPlace:PySem.W.subIn K (.ref C_NoTelling) (.ref C_NoPlace)=some false) (ne_NoTelling_NoPlace:C_NoTelling≠C_NoPlace)
  (i_NoTelling_NoNumber:PySem.W.subIn K (.ref C_NoTelling) (.ref C_NoNumber)=some false) (ne_NoTelling_NoNumber:C_NoTelling≠C_NoNumber)
  (i_NoTelling_NoPast:PySem.W.subIn K (.ref C_NoTelling) (.ref C_NoPast)=some false) (ne_NoTelling_NoPast:C_NoTelling≠C_NoPast)
  (i_NoTelling_NoText:PySem.W.subIn K (.ref C_NoTelling) (.ref C_NoText)=some false) (ne_NoTelling_NoText:C_NoTelling≠C_NoText)
  (i_NoTelling_NoLine:PySem.W.subIn K (.ref C_NoTelling) (.ref C_NoLine)=some false) (ne_NoTelling_NoLine:C_NoTelling≠C_NoLine)
  (i_NoTelling_V:PySem.W.subIn K (.ref C_NoTelling) (.type "ValueError")=some true)
  (b_ValueError:nsIn K mainGlobals "ValueError"=some none)
  (b_all:nsIn K mainGlobals "all"=some none)
  (b_enumerate:nsIn K mainGlobals "enumerate"=some none)
  (b_int:nsIn K mainGlobals "int"=some none)
  (b_isinstance:nsIn K mainGlobals "isinstance"=some none)
  (b_len:nsIn K mainGlobals "len"=some none)
  (b_list:nsIn K mainGlobals "list"=some none)
  (b_max:nsIn K mainGlobals "max"=some none)
  (b_min:nsIn K mainGlobals "min"=some none)
  (b_range:nsIn K mainGlobals "range"=some none)
  (b_sum:nsIn K mainGlobals "sum"=some none)
  (b_tuple:nsIn K mainGlobals "tuple"=some none)
  {t_MOST_PLACES:Tok} (m_MOST_PLACES:nsIn K mainGlobals "MOST_PLACES"=some (some (.int 40 t_MOST_PLACES)))
  : ∃fd:FuncData,(∀(s:Shared) (v:Value),BindsTo s fd ⟨[v],[]⟩ [("script",v)])/\∀base:Heap,K.In base->base.Ns mainGlobals mg->FnOk l.prog w K mg base (CXE l.prog w) 9 fa fd ["script"] (ZmW K):=by
 have e:=hfa.symm.trans (mg_of X G ZpS)
 cases e
 have q_DipError:clsAt mg "DipError"=C_DipError:=by unfold clsAt;rw[mg_of X G n_DipError]
 have q_Unlike:clsAt mg "Unlike"=C_Unlike:=by unfold clsAt;rw[mg_of X G n_Unlike]
 have q_Empty:clsAt mg "Empty"=C_Empty:=by unfold clsAt;rw[mg_of X G n_Empty]
 have q_TooMany:clsAt mg "TooMany"=C_TooMany:=by unfold clsAt;rw[mg_of X G n_TooMany]
 have q_NoTree:clsAt mg "NoTree"=C_NoTree:=by unfold clsAt;rw[mg_of X G n_NoTree]
 have q_NoTelling:clsAt mg "NoTelling"=C_NoTelling:=by unfold clsAt;rw[mg_of X G n_NoTelling]
 have q_NoPlace:clsAt mg "NoPlace"=C_NoPlace:=by unfold clsAt;rw[mg_of X G n_NoPlace]
 have q_NoNumber:clsAt mg "NoNumber"=C_NoNumber:=by unfold clsAt;rw[mg_of X G n_NoNumber]
 have q_NoPast:clsAt mg "NoPast"=C_NoPast:=by unfold clsAt;rw[mg_of X G n_NoPast]
 have q_NoText:clsAt mg "NoText"=C_NoText:=by unfold clsAt;rw[mg_of X G n_NoText]
 have q_NoLine:clsAt mg "NoLine"=C_NoLine:=by unfold clsAt;rw[mg_of X G n_NoLine]
 have q_MOST_PLACES:tokAt mg "MOST_PLACES"=t_MOST_PLACES:=by unfold tokAt;rw[mg_of X G m_MOST_PLACES]
 have T:Txt K mg:={
  b_ValueError:=mg_none_of X G b_ValueError
  b_all:=mg_none_of X G b_all
  b_enumerate:=mg_none_of X G b_enumerate
  b_int:=mg_none_of X G b_int
  b_isinstance:=mg_none_of X G b_isinstance
  b_len:=mg_none_of X G b_len
  b_list:=mg_none_of X G b_list
  b_max:=mg_none_of X G b_max
  b_min:=mg_none_of X G b_min
  b_range:=mg_none_of X G b_range
  b_sum:=mg_none_of X G b_sum
  b_tuple:=mg_none_of X G b_tuple
  c_DipError:=by rw[q_DipError];exact mg_of X G n_DipError
  x_DipError:=by rw[q_DipError];exact x_DipError
  c_Unlike:=by rw[q_Unlike];exact mg_of X G n_Unlike
  x_Unlike:=by rw[q_Unlike];exact x_Unlike
  c_Empty:=by rw[q_Empty];exact mg_of X G n_Empty
  x_Empty:=by rw[q_Empty];exact x_Empty
  c_TooMany:=by rw[q_TooMany];exact mg_of X G n_TooMany
  x_TooMany:=by rw[q_TooMany];exact x_TooMany
  c_NoTree:=by rw[q_NoTree];exact mg_of X G n_NoTree
  x_NoTree:=by rw[q_NoTree];exact x_NoTree
  c_NoTelling:=by rw[q_NoTelling];exact mg_of X G n_NoTelling
  x_NoTelling:=by rw[q_NoTelling];exact x_NoTelling
  c_NoPlace:=by rw[q_NoPlace];exact mg_of X G n_NoPlace
  x_NoPlace:=by rw[q_NoPlace];exact x_NoPlace
  c_NoNumber:=by rw[q_NoNumber];exact mg_of X G n_NoNumber
  x_NoNumber:=by rw[q_NoNumber];exact x_NoNumber
  c_NoPast:=by rw[q_NoPast];exact mg_of X G n_NoPast
  x_NoPast:=by rw[q_NoPast];exact x_NoPast
  c_NoText:=by rw[q_NoText];exact mg_of X G n_NoText
  x_NoText:=by rw[q_NoText];exact x_NoText
  c_NoLine:=by rw[q_NoLine];exact mg_of X G n_NoLine
  x_NoLine:=by rw[q_NoLine];exact x_NoLine
  ex_NoTelling:=by rw[q_NoTelling];exact⟨z1_NoTelling,z2_NoTelling,z3_NoTelling,z4_NoTelling,z5_NoTelling,z6_NoTelling,z7_NoTelling,z8_NoTelling⟩
  up_NoTelling:=by rw[q_NoTelling,q_DipError];exact u_NoTelling
  is_NoTelling_DipError:=by rw[q_NoTelling,q_DipError];exact Zb6 ne_NoTelling_DipError d_DipError y_DipError i_NoTelling_DipError
  is_NoTelling_Unlike:=by rw[q_NoTelling,q_Unlike];exact Zb6 ne_NoTelling_Unlike d_Unlike y_Unlike i_NoTelling_Unlike
  is_NoTelling_Empty:=by rw[q_NoTelling,q_Empty];exact Zb6 ne_NoTelling_Empty d_Empty y_Empty i_NoTelling_Empty
  is_NoTelling_TooMany:=by rw[q_NoTelling,q_TooMany];exact Zb6 ne_NoTelling_TooMany d_TooMany y_TooMany i_NoTelling_TooMany
  is_NoTelling_NoTree:=by rw[q_NoTelling,q_NoTree];exact Zb6 ne_NoTelling_NoTree d_NoTree y_NoTree i_NoTelling_NoTree
  is_NoTelling_NoTelling:=by rw[q_NoTelling];exact ZkR
  is_NoTelling_NoPlace:=by rw[q_NoTelling,q_NoPlace];exact Zb6 ne_NoTelling_NoPlace d_NoPlace y_NoPlace i_NoTelling_NoPlace
  is_NoTelling_NoNumber:=by rw[q_NoTelling,q_NoNumber];exact Zb6 ne_NoTelling_NoNumber d_NoNumber y_NoNumber i_NoTelling_NoNumber
  is_NoTelling_NoPast:=by rw[q_NoTelling,q_NoPast];exact Zb6 ne_NoTelling_NoPast d_NoPast y_NoPast i_NoTelling_NoPast
  is_NoTelling_NoText:=by rw[q_NoTelling,q_NoText];exact Zb6 ne_NoTelling_NoText d_NoText y_NoText i_NoTelling_NoText
  is_NoTelling_NoLine:=by rw[q_NoTelling,q_NoLine];exact Zb6 ne_NoTelling_NoLine d_NoLine y_NoLine i_NoTelling_NoLine
  is_NoTelling_V:=by rw[q_NoTelling];exact kit_V i_NoTelling_V
  m_MOST_PLACES:=by rw[q_MOST_PLACES];exact mg_of X G m_MOST_PLACES
 }
 have Zlr:=Zz (st:=Zdx) Ziu Ziv Zgq
 have ZpX:=Zlr.binds (ps:=["elders","spine","place","keep"]) λ_ _ _ _ _ _ us hl=>by obtain⟨x0,u0,rfl,h0⟩:=le1 hl;obtain⟨x1,u1,rfl,h1⟩:=le1 h0;obtain⟨x2,u2,rfl,h2⟩:=le1 h1;obtain⟨x3,u3,rfl,h3⟩:=le1 h2;obtain rfl:=le0 h3;exact rfl
 have ZjD:=Zz (st:=ZcE) Zg6 Zg7 Zfl
 have Zok:=ZjD.binds (ps:=["row"]) λ_ _ _ _ _ _ us hl=>by obtain⟨x0,u0,rfl,h0⟩:=le1 hl;obtain rfl:=le0 h0;exact rfl
 have Zls:=Zz (st:=Zdy) Zix Ziy Zgr
 have ZpY:=Zls.binds (ps:=["tree","place"]) λ_ _ _ _ _ _ us hl=>by obtain⟨x0,u0,rfl,h0⟩:=le1 hl;obtain⟨x1,u1,rfl,h1⟩:=le1 h0;obtain rfl:=le0 h1;exact rfl
 have ZjE:=Zz (st:=ZcF) Zg9 Zha Zfm
 have Zol:=ZjE.binds (ps:=["tree"]) λ_ _ _ _ _ _ us hl=>by obtain⟨x0,u0,rfl,h0⟩:=le1 hl;obtain rfl:=le0 h0;exact rfl
 have Zhv:=Zz (st:=Zbl) ZeN ZeO Zc0
 have Zlt:=Zhv.binds (ps:=["tree"]) λ_ _ _ _ _ _ us hl=>by obtain⟨x0,u0,rfl,h0⟩:=le1 hl;obtain rfl:=le0 h0;exact rfl
 have Zhw:=Zz (st:=Zbm) ZeQ ZeR Zc1
 have Zlu:=Zhw.binds (ps:=["tree"]) λ_ _ _ _ _ _ us hl=>by obtain⟨x0,u0,rfl,h0⟩:=le1 hl;obtain rfl:=le0 h0;exact rfl
 have Zes:=Zz (st:=Z8) Zcm Zcn Zbe
 have ZhH:=Zes.binds (ps:=["tree"]) λ_ _ _ _ _ _ us hl=>by obtain⟨x0,u0,rfl,h0⟩:=le1 hl;obtain rfl:=le0 h0;exact rfl
 have Ze4:=Zz (st:=Zan) ZcO ZcP ZbD
 have ZiF:=Ze4.binds (ps:=["tree"]) λ_ _ _ _ _ _ us hl=>by obtain⟨x0,u0,rfl,h0⟩:=le1 hl;obtain rfl:=le0 h0;exact rfl
 have ZiG:=Zz (st:=ZbM) ZfO ZfP Zd3
 have Zmm:=ZiG.binds (ps:=["tree"]) λ_ _ _ _ _ _ us hl=>by obtain⟨x0,u0,rfl,h0⟩:=le1 hl;obtain rfl:=le0 h0;exact rfl
 have Zfv:=Zz (st:=ZaA) Zdj Zdk Zca
 have Zi8:=Zfv.binds (ps:=["tree"]) λ_ _ _ _ _ _ us hl=>by obtain⟨x0,u0,rfl,h0⟩:=le1 hl;obtain rfl:=le0 h0;exact rfl
 have ZgB:=Zz (st:=ZaR) Zd5 Zd6 Zcx
 have Zkn:=ZgB.binds (ps:=["told"]) λ_ _ _ _ _ _ us hl=>by obtain⟨x0,u0,rfl,h0⟩:=le1 hl;obtain rfl:=le0 h0;exact rfl
 have ZjF:=Zz (st:=ZcG) Zhd Zhe Zfn
 have Zom:=ZjF.binds (ps:=["spine","place","distance"]) λ_ _ _ _ _ _ us hl=>by obtain⟨x0,u0,rfl,h0⟩:=le1 hl;obtain⟨x1,u1,rfl,h1⟩:=le1 h0;obtain⟨x2,u2,rfl,h2⟩:=le1 h1;obtain rfl:=le0 h2;exact rfl
 have Ze5:=Zz (st:=Zao) ZcR ZcS ZbE
 have ZiH:=Ze5.binds (ps:=["told"]) λ_ _ _ _ _ _ us hl=>by obtain⟨x0,u0,rfl,h0⟩:=le1 hl;obtain rfl:=le0 h0;exact rfl
 have ZiI:=Zz (st:=ZbN) ZfR ZfS Zd7
 have Zmn:=ZiI.binds (ps:=["told"]) λ_ _ _ _ _ _ us hl=>by obtain⟨x0,u0,rfl,h0⟩:=le1 hl;obtain rfl:=le0 h0;exact rfl
 have Zfw:=Zz (st:=ZaB) Zdm Zdn Zcb
 have Zi9:=Zfw.binds (ps:=["text"]) λ_ _ _ _ _ _ us hl=>by obtain⟨x0,u0,rfl,h0⟩:=le1 hl;obtain rfl:=le0 h0;exact rfl
 have ZiJ:=Zz (st:=ZbO) ZfU ZfV Zd8
 have Zmo:=ZiJ.binds (ps:=["script","k"]) λ_ _ _ _ _ _ us hl=>by obtain⟨x0,u0,rfl,h0⟩:=le1 hl;obtain⟨x1,u1,rfl,h1⟩:=le1 h0;obtain rfl:=le0 h1;exact rfl
 have Zhx:=Zz (st:=Zbn) ZeV ZeW Zc2
 have Zlv:=Zhx.binds (ps:=["pot","many"]) λ_ _ _ _ _ _ us hl=>by obtain⟨x0,u0,rfl,h0⟩:=le1 hl;obtain⟨x1,u1,rfl,h1⟩:=le1 h0;obtain rfl:=le0 h1;exact rfl
 have ZiK:=Zz (st:=ZbP) ZfX ZfY Zd9
 have Zmp:=ZiK.binds (ps:=["pot","most"]) λ_ _ _ _ _ _ us hl=>by obtain⟨x0,u0,rfl,h0⟩:=le1 hl;obtain⟨x1,u1,rfl,h1⟩:=le1 h0;obtain rfl:=le0 h1;exact rfl
 have ZgC:=Zz (st:=ZaS) Zeb Zec Zcy
 have Zko:=ZgC.binds (ps:=["row"]) λ_ _ _ _ _ _ us hl=>by obtain⟨x0,u0,rfl,h0⟩:=le1 hl;obtain rfl:=le0 h0;exact rfl
 have ZdF:=Zz (st:=Z1) ZbY ZbZ Za0
 have Zhg:=ZdF.binds (ps:=["row"]) λ_ _ _ _ _ _ us hl=>by obtain⟨x0,u0,rfl,h0⟩:=le1 hl;obtain rfl:=le0 h0;exact rfl
 have Zet:=Zz (st:=Z9) Zcp Zcq Zbf
 have ZhI:=Zet.binds (ps:=["drops"]) λ_ _ _ _ _ _ us hl=>by obtain⟨x0,u0,rfl,h0⟩:=le1 hl;obtain rfl:=le0 h0;exact rfl
 have Zhy:=Zz (st:=Zbo) ZeY ZeZ Zc3
 have Zlw:=Zhy.binds (ps:=["pot","told"]) λ_ _ _ _ _ _ us hl=>by obtain⟨x0,u0,rfl,h0⟩:=le1 hl;obtain⟨x1,u1,rfl,h1⟩:=le1 h0;obtain rfl:=le0 h1;exact rfl
 have Zhz:=Zz (st:=Zbp) Ze1 Ze2 Zc4
 have Zlx:=Zhz.binds (ps:=["pot"]) λ_ _ _ _ _ _ us hl=>by obtain⟨x0,u0,rfl,h0⟩:=le1 hl;obtain rfl:=le0 h0;exact rfl
 have ZdG:=Zz (st:=Z2) Zb1 Zb2 Za1
 have Zhh:=ZdG.binds (ps:=["pot","text"]) λ_ _ _ _ _ _ us hl=>by obtain⟨x0,u0,rfl,h0⟩:=le1 hl;obtain⟨x1,u1,rfl,h1⟩:=le1 h0;obtain rfl:=le0 h1;exact rfl
 have Zcg:=Zz (st:=ZH) ZaM ZaN Zag
 have Ze6:=Zcg.binds (ps:=["told"]) λ_ _ _ _ _ _ us hl=>by obtain⟨x0,u0,rfl,h0⟩:=le1 hl;obtain rfl:=le0 h0;exact rfl
 have ZdH:=Zz (st:=Z3) Zb4 Zb5 Za2
 have Zhi:=ZdH.binds (ps:=["told"]) λ_ _ _ _ _ _ us hl=>by obtain⟨x0,u0,rfl,h0⟩:=le1 hl;obtain rfl:=le0 h0;exact rfl
 have Zct:=Zz (st:=ZM) Za7 Za8 Zak
 have Zfp:=Zct.binds (ps:=["text"]) λ_ _ _ _ _ _ us hl=>by obtain⟨x0,u0,rfl,h0⟩:=le1 hl;obtain rfl:=le0 h0;exact rfl
 have ZgD:=Zz (st:=ZaT) Zee Zef Zcz
 have Zkp:=ZgD.binds (ps:=["e"]) λ_ _ _ _ _ _ us hl=>by obtain⟨x0,u0,rfl,h0⟩:=le1 hl;obtain rfl:=le0 h0;exact rfl
 have ZgE:=Zz (st:=ZaU) Zeh Zei ZcA
 have Zkq:=ZgE.binds (ps:=["e","at"]) λ_ _ _ _ _ _ us hl=>by obtain⟨x0,u0,rfl,h0⟩:=le1 hl;obtain⟨x1,u1,rfl,h1⟩:=le1 h0;obtain rfl:=le0 h1;exact rfl
 have ZgF:=Zz (st:=ZaV) Zek Zel ZcB
 have Zkr:=ZgF.binds (ps:=["way","told"]) λ_ _ _ _ _ _ us hl=>by obtain⟨x0,u0,rfl,h0⟩:=le1 hl;obtain⟨x1,u1,rfl,h1⟩:=le1 h0;obtain rfl:=le0 h1;exact rfl
 have ZgG:=Zz (st:=ZaW) Zen Zeo ZcC
 have Zks:=ZgG.binds (ps:=["way","told"]) λ_ _ _ _ _ _ us hl=>by obtain⟨x0,u0,rfl,h0⟩:=le1 hl;obtain⟨x1,u1,rfl,h1⟩:=le1 h0;obtain rfl:=le0 h1;exact rfl
 have Zc6:=Zz (st:=ZW) ZbG ZbH ZaH
 have ZgH:=Zc6.binds (ps:=["pot","way","told"]) λ_ _ _ _ _ _ us hl=>by obtain⟨x0,u0,rfl,h0⟩:=le1 hl;obtain⟨x1,u1,rfl,h1⟩:=le1 h0;obtain⟨x2,u2,rfl,h2⟩:=le1 h1;obtain rfl:=le0 h2;exact rfl
 have Zs3:=Zz (st:=Zgh) ZpT ZpV ZpW
 refine⟨fnOf "law" "law" (defArgs Zgh) (defBody Zgh) (defScope Zgh) .none ZsI ZsJ ZsK ZsL ZpU ZsM,λs v=>.of_eq rfl,λbase _ _=>?_⟩
 have ZfL:Callee l.prog w K mg base "_law_pot" 1 ["script","k"] (ZeH K mg):=⟨_,_,mg_of X G ZfT,Zd8,Zmo,Zk9 ZiJ T⟩
 have Zj:Callee l.prog w K mg base "_law_take" 1 ["pot","many"] (Zac K mg):=⟨_,_,mg_of X G ZeU,Zc2,Zlv,Zkd Zhx T⟩
 have ZfM:Callee l.prog w K mg base "_law_row" 2 ["pot","most"] (ZeI K mg):=⟨_,_,mg_of X G ZfW,Zd9,Zmp,Zla ZiK Zj T⟩
 have Zd2:Callee l.prog w K mg base "_law_drops" 1 ["row"] (Zde K mg):=⟨_,_,mg_of X G Zea,Zcy,Zko,ZiZ ZgC T⟩
 have ZbW:Callee l.prog w K mg base "_law_distances" 1 ["row"] (Zbz K mg):=⟨_,_,mg_of X G ZbX,Za0,Zhg,Zgp ZdF T⟩
 have Zck:Callee l.prog w K mg base "_law_brackets" 1 ["drops"] (ZbQ K mg):=⟨_,_,mg_of X G Zco,Zbf,ZhI,ZgZ Zet T⟩
 have Zaf:Callee l.prog w K mg base "_law_are_distances" 1 ["told"] (ZaC K mg):=⟨_,_,mg_of X G ZaL,Zag,Ze6,Zeu Zcg T⟩
 have ZaZ:Callee l.prog w K mg base "_law_are_drops" 1 ["told"] (Zbx K mg):=⟨_,_,mg_of X G Zb3,Za2,Zhi,Zgn ZdH T⟩
 have Zaj:Callee l.prog w K mg base "_law_are_brackets" 1 ["text"] (ZaK K mg):=⟨_,_,mg_of X G Za6,Zak,Zfp,ZeJ Zct T⟩
 have ZdZ:Callee l.prog w K mg base "_law_kinds" 1 ["e"] (Zda K mg):=⟨_,_,mg_of X G Zed,Zcz,Zkp,ZiW ZgD T⟩
 have Zd0:Callee l.prog w K mg base "_law_alone" 2 ["e","at"] (Zdb K mg):=⟨_,_,mg_of X G Zeg,ZcA,Zkq,ZiX ZgE ZdZ T⟩
 have ZbA:Callee l.prog w K mg base "settle" 1 ["elders","spine","place","keep"] (Zdz K mg):=⟨_,_,mg_of X G Zit,Zgq,ZpX,ZnZ Zlr T⟩
 have Zg2:Callee l.prog w K mg base "tree_of" 2 ["row"] (ZfH K mg):=⟨_,_,mg_of X G Zg5,Zfl,Zok,Zl8 ZjD ZbA T⟩
 have ZdB:Callee l.prog w K mg base "way_up" 1 ["tree","place"] (Zfj K mg):=⟨_,_,mg_of X G Ziw,Zgr,ZpY,Zn0 Zls T⟩
 have Zg3:Callee l.prog w K mg base "is_tree" 3 ["tree"] (ZfJ K mg):=⟨_,_,mg_of X G Zg8,Zfm,Zol,Zl9 ZjE Zg2 ZdB T⟩
 have Zbr:Callee l.prog w K mg base "need_tree" 4 ["tree"] (Zcv K mg):=⟨_,_,mg_of X G ZeM,Zc0,Zlt,Zke Zhv Zg3 T⟩
 have Zbq:Callee l.prog w K mg base "fences_of" 2 ["tree"] (Zcw K mg):=⟨_,_,mg_of X G ZeP,Zc1,Zlu,Zkg Zhw ZdB T⟩
 have Zcj:Callee l.prog w K mg base "distance_list" 3 ["tree"] (ZbR K mg):=⟨_,_,mg_of X G Zcl,Zbe,ZhH,ZgY Zes Zbq T⟩
 have ZcL:Callee l.prog w K mg base "distances_of" 5 ["tree"] (Zci K mg):=⟨_,_,mg_of X G ZcN,ZbD,ZiF,ZhD Ze4 Zbr Zcj T⟩
 have ZbT:Callee l.prog w K mg base "drops_of" 5 ["tree"] (ZcY K mg):=⟨_,_,mg_of X G ZfN,Zd3,Zmm,Zlb ZiG Zbr Zbq T⟩
 have Zdg:Callee l.prog w K mg base "brackets_of" 6 ["tree"] (ZcI K mg):=⟨_,_,mg_of X G Zdi,Zca,Zi8,Zio Zfv ZbT T⟩
 have ZaY:Callee l.prog w K mg base "need_short" 1 ["told"] (Zb7 K mg):=⟨_,_,mg_of X G Zd4,Zcx,Zkn,ZiY ZgB T⟩
 have Zg4:Callee l.prog w K mg base "kept_by" 1 ["spine","place","distance"] (ZfI K mg):=⟨_,_,mg_of X G Zhc,Zfn,Zom,Zma ZjF T⟩
 have ZcM:Callee l.prog w K mg base "by_distances" 2 ["told"] (Zch K mg):=⟨_,_,mg_of X G ZcQ,ZbE,ZiH,ZhE Ze5 ZbA ZaY Zg4 T⟩
 have ZbU:Callee l.prog w K mg base "by_drops" 2 ["told"] (ZcX K mg):=⟨_,_,mg_of X G ZfQ,Zd7,Zmn,Zlc ZiI ZbA ZaY T⟩
 have Zdh:Callee l.prog w K mg base "by_brackets" 3 ["text"] (ZcH K mg):=⟨_,_,mg_of X G Zdl,Zcb,Zi9,Zir Zfw ZbU T⟩
 have Zd1:Callee l.prog w K mg base "_law_asked" 7 ["way","told"] (Zdc K mg):=⟨_,_,mg_of X G Zej,ZcB,Zkr,Zi0 ZgF ZcL ZbT Zdg ZcM ZbU Zdh T⟩
 have ZbB:Callee l.prog w K mg base "_law_right" 8 ["way","told"] (Zdd K mg):=⟨_,_,mg_of X G Zem,ZcC,Zks,Zi1 ZgG Zaf ZaZ Zaj Zd0 Zd1 T⟩
 have ZeL:Callee l.prog w K mg base "_law_bent" 2 ["pot","told"] (ZdW K mg):=⟨_,_,mg_of X G ZeX,Zc3,Zlw,Zkf Zhy Zj T⟩
 have ZeK:Callee l.prog w K mg base "_law_sign" 2 ["pot"] (ZdV K mg):=⟨_,_,mg_of X G Ze0,Zc4,Zlx,Zkh Zhz Zj T⟩
 have ZbV:Callee l.prog w K mg base "_law_text_bent" 3 ["pot","text"] (Zby K mg):=⟨_,_,mg_of X G Zb0,Za1,Zhh,Zgo ZdG Zj ZeK T⟩
 have ZbC:Callee l.prog w K mg base "_law_bent_often" 4 ["pot","way","told"] (Zbj K mg):=⟨_,_,mg_of X G ZbF,ZaH,ZgH,ZfK Zc6 Zj ZeL ZbV T⟩
 exact ok_law Zs3 ZfL Zj ZfM Zd2 ZbW Zck ZbB ZbC T
theorem walk {l:PySem.W.OpenLaw}{q:Program}{loose:List Str}{XP:(Str->Option Value)->Heap->Prop}{YP:World->Heap->Prop}{d:DefRec}{K:Params->PySem.W.Frag} (hn:l.most=some 63) (hdf:d.params.defaults=[])
  (hY:∀(w:World) (h:Heap),YP w h->(K w.params).In h)
  (F:∀(w:World) (mg:Str->Option Value) (fa:Addr) (h:Heap),(K w.params).In h->h.Ns mainGlobals mg->mg d.name=some (.ref fa) ->
   ∃fd:FuncData,(∀(s:Shared) (u:Value),BindsTo s fd ⟨[u],[]⟩ [("script",u)])/\∀base:Heap,(K w.params).In base->base.Ns mainGlobals mg->FnOk l.prog w (K w.params) mg base (CXE l.prog w) 9 fa fd ["script"] (ZmW (K w.params))) :
  PySem.W.WalkO q loose XP YP l.row.toRowW d [] (λf vs=>PySem.call f vs) :=
 L2.ZqS (n:=63) (k:=9) (x:="script") (CX:=λw=>CXE l.prog w) (sp:=λw=>ZmW (K w.params)) hn (by decide) hdf ⟨rfl,by decide,by decide⟩ hY F (λ_ _ a ns hl _ hS=>⟨a,ns,rfl,hS,hl,λ_=>rfl⟩) λ_ _ _ _ _ ⟨_,_,_,_,_,_,_,z⟩=>z
end K10
def PySem.W.Fast.tw17804438956848216634:Unit:=()
def PySem.W.Fast.tw16982953631294428226:Unit:=()
def PySem.W.Fast.tw14692772358724518618:Unit:=()
def PySem.W.Fast.tw1270513944080237955:Unit:=()
def PySem.W.Fast.tw16268948514819274462:Unit:=()
def PySem.W.Fast.tw11451213102705843906:Unit:=()
def PySem.W.Fast.tw3343221395023640848:Unit:=()
def PySem.W.Fast.tw6246268469345605950:Unit:=()
def PySem.W.Fast.tw8063882351384788607:Unit:=()
def PySem.W.Fast.tw11341331678122064801:Unit:=()
def PySem.W.Fast.tw9435848178353046869:Unit:=()
def PySem.W.Fast.tw2691810972863691894:Unit:=()
def PySem.W.Fast.tw7965352185303978983:Unit:=()
def PySem.W.Fast.tw7915233746614448762:Unit:=()
def PySem.W.Fast.tw14592918095559556474:Unit:=()
def PySem.W.Fast.tw4069862859291908240:Unit:=()
def PySem.W.Fast.tw15749207629930415124:Unit:=()
def PySem.W.Fast.tw7188174129691330132:Unit:=()
def PySem.W.Fast.tw12441909059342969948:Unit:=()
def PySem.W.Fast.tw2616846928090999746:Unit:=()
def PySem.W.Fast.tw5779131323568535104:Unit:=()
def PySem.W.Fast.tw17698205393501632036:Unit:=()
def PySem.W.Fast.tw3496961776181311108:Unit:=()
def PySem.W.Fast.tw17684569984658689426:Unit:=()
def PySem.W.Fast.tw15693735742247819093:Unit:=()
def PySem.W.Fast.tw279215451331069502:Unit:=()
def PySem.W.Fast.tw11196229194900603561:Unit:=()
def PySem.W.Fast.tw7776979270711823457:Unit:=()
def PySem.W.Fast.tw8600049499688474757:Unit:=()
def PySem.W.Fast.tw325187618295572400:Unit:=()
def PySem.W.Fast.tw3160274207774694388:Unit:=()
def PySem.W.Fast.tw16952684882488912236:Unit:=()
def PySem.W.Fast.tw12523944045404601053:Unit:=()
def PySem.W.Fast.tw10175379916248163043:Unit:=()
def PySem.W.Fast.tw2872647844588311787:Unit:=()
def PySem.W.Fast.tw507951554793383134:Unit:=()
def PySem.W.Fast.tw13930235099409506531:Unit:=()
def PySem.W.Fast.tw18062603195831281299:Unit:=()
def PySem.W.Fast.tw11596683634675537330:Unit:=()
def PySem.W.Fast.tw5340328742135067283:Unit:=()
def PySem.W.Fast.tw6090732482950702125:Unit:=()
def PySem.W.Fast.tw13804024634389527039:Unit:=()
def PySem.W.Fast.tw16219837919287410197:Unit:=()
def PySem.W.Fast.tw1762378087909903009:Unit:=()
def PySem.W.Fast.tw1834293521859253985:Unit:=()
def PySem.W.Fast.tw3722747168199531718:Unit:=()
def PySem.W.Fast.tw15779568929257127956:Unit:=()
def PySem.W.Fast.tw15015669337330329087:Unit:=()
def PySem.W.Fast.tw12583206655070734219:Unit:=()
def PySem.W.Fast.tw14111399747496902420:Unit:=()
def PySem.W.Fast.tw18377402930097457391:Unit:=()
def PySem.W.Fast.tw17253296686637096379:Unit:=()
def PySem.W.Fast.tw18225468240884589303:Unit:=()
def PySem.W.Fast.tw1288851617817214074:Unit:=()
def PySem.W.Fast.tw6635144795077157458:Unit:=()
def PySem.W.Fast.tw17243170019955772550:Unit:=()
def PySem.W.Fast.tw5642806320518112301:Unit:=()
def PySem.W.Fast.tw8414241938122154879:Unit:=()
def PySem.W.Fast.tw4711773444245819650:Unit:=()
def PySem.W.Fast.tw7377575095793784010:Unit:=()
def PySem.W.Fast.tw12442043395692199501:Unit:=()
def PySem.W.Fast.tw4209793425639127922:Unit:=()
def PySem.W.Fast.tw10382426912506492934:Unit:=()
def PySem.W.Fast.tw11108075638252326347:Unit:=()
def PySem.W.Fast.tw365199489445294836:Unit:=()
def PySem.W.Fast.tw14851015064901239902:Unit:=()
def PySem.W.Fast.tw790954821032049416:Unit:=()
def PySem.W.Fast.tw10698659146920661571:Unit:=()
def PySem.W.Fast.tw6374036086424014731:Unit:=()
def PySem.W.Fast.tw7521765595693833137:Unit:=()
def PySem.W.Fast.tw13941208137458177802:Unit:=()
def PySem.W.Fast.tw14910322818897218601:Unit:=()
def PySem.W.Fast.tw16456865116765171167:Unit:=()
def PySem.W.Fast.tw13860586788632097317:Unit:=()
def PySem.W.Fast.tw10825416556675953605:Unit:=()
def PySem.W.Fast.tw13281357262018414719:Unit:=()
def PySem.W.Fast.tw13174536917492935385:Unit:=()
def PySem.W.Fast.tw4748913837254776492:Unit:=()
def PySem.W.Fast.tw9259543340515712987:Unit:=()
def PySem.W.Fast.tw11581821713128768627:Unit:=()
def PySem.W.Fast.tw9094952193989352190:Unit:=()
def PySem.W.Fast.tw8279949750205217314:Unit:=()
def PySem.W.Fast.tw3817543371527441962:Unit:=()
def PySem.W.Fast.tw4748763222246366048:Unit:=()
def PySem.W.Fast.tw278437856693564475:Unit:=()
def PySem.W.Fast.tw16921096402083199571:Unit:=()
def PySem.W.Fast.tw14856453915080853618:Unit:=()
def PySem.W.Fast.tw6750594081860606150:Unit:=()
def PySem.W.Fast.tw17637223082656980045:Unit:=()
def PySem.W.Fast.tw10911786816725981203:Unit:=()
def PySem.W.Fast.tw17512575963951167397:Unit:=()
def PySem.W.Fast.tw9790000834435571388:Unit:=()
def PySem.W.Fast.tw13133799772682879535:Unit:=()
def PySem.W.Fast.tw8865725946440988094:Unit:=()
def PySem.W.Fast.tw13968417296188900140:Unit:=()
def PySem.W.Fast.tw17977025893635880551:Unit:=()
def PySem.W.Fast.tw15053154206304219535:Unit:=()
def PySem.W.Fast.tw17072197824458805299:Unit:=()
def PySem.W.Fast.tw5345528912392106431:Unit:=()
def PySem.W.Fast.tw13421601118880492234:Unit:=()
def PySem.W.Fast.tw6815029063066960600:Unit:=()
def PySem.W.Fast.tw3910343537542816275:Unit:=()
def PySem.W.Fast.tw5640215253911785081:Unit:=()
def PySem.W.Fast.tw14192936826526446975:Unit:=()
open PySem PySem.W PyProof.Rows
set_option maxRecDepth 100000 in
set_option maxHeartbeats 0 in
theorem PySem.Challenge.cw_dipkin_k10_what_tells_no_tree_holds : PySem.Challenge.rw_dipkin_k10_what_tells_no_tree.Holds := by
 w_on;o_law;k_head;(case hw=>w_witness2)
 k_fill
 refine K10.walk (l:=PySem.Challenge.rw_dipkin_k10_what_tells_no_tree) rfl rfl (λw h Y=>PySem.W.kIn_of Y) ?F
 case F =>
  intro w mg fa h KX G hmg
  refine' K10.all_mk KX G hmg ?Zit ?Ziu ?Ziv ?Zgq ?Zg5 ?Zg6 ?Zg7 ?Zfl ?Ziw ?Zix ?Ziy ?Zgr ?Zg8 ?Zg9 ?Zha ?Zfm ?ZeM ?ZeN ?ZeO ?Zc0 ?ZeP ?ZeQ ?ZeR ?Zc1 ?Zcl ?Zcm ?Zcn ?Zbe ?ZcN ?ZcO ?ZcP ?ZbD ?ZfN ?ZfO ?ZfP ?Zd3 ?Zdi ?Zdj ?Zdk ?Zca ?Zd4 ?Zd5 ?Zd6 ?Zcx ?Zhc ?Zhd ?Zhe ?Zfn ?ZcQ ?ZcR ?ZcS ?ZbE ?ZfQ ?ZfR ?ZfS ?Zd7 ?Zdl ?Zdm ?Zdn ?Zcb ?ZfT ?ZfU ?ZfV ?Zd8 ?ZeU ?ZeV ?ZeW ?Zc2 ?ZfW ?ZfX ?ZfY ?Zd9 ?Zea ?Zeb ?Zec ?Zcy ?ZbX ?ZbY ?ZbZ ?Za0 ?Zco ?Zcp ?Zcq ?Zbf ?ZeX ?ZeY ?ZeZ ?Zc3 ?Ze0 ?Ze1 ?Ze2 ?Zc4 ?Zb0 ?Zb1 ?Zb2 ?Za1 ?ZaL ?ZaM ?ZaN ?Zag ?Zb3 ?Zb4 ?Zb5 ?Za2 ?Za6 ?Za7 ?Za8 ?Zak ?Zed ?Zee ?Zef ?Zcz ?Zeg ?Zeh ?Zei ?ZcA ?Zej ?Zek ?Zel ?ZcB ?Zem ?Zen ?Zeo ?ZcC ?ZbF ?ZbG ?ZbH ?ZaH ?ZpS ?ZpT ?ZpV ?ZpW ?n_DipError ?x_DipError ?d_DipError ?y_DipError ?n_Unlike ?x_Unlike ?d_Unlike ?y_Unlike ?n_Empty ?x_Empty ?d_Empty ?y_Empty ?n_TooMany ?x_TooMany ?d_TooMany ?y_TooMany ?n_NoTree ?x_NoTree ?d_NoTree ?y_NoTree ?n_NoTelling ?x_NoTelling ?d_NoTelling ?y_NoTelling ?n_NoPlace ?x_NoPlace ?d_NoPlace ?y_NoPlace ?n_NoNumber ?x_NoNumber ?d_NoNumber ?y_NoNumber ?n_NoPast ?x_NoPast ?d_NoPast ?y_NoPast ?n_NoText ?x_NoText ?d_NoText ?y_NoText ?n_NoLine ?x_NoLine ?d_NoLine ?y_NoLine ?z1_NoTelling ?z2_NoTelling ?z3_NoTelling ?z4_NoTelling ?z5_NoTelling ?z6_NoTelling ?z7_NoTelling ?z8_NoTelling ?u_NoTelling ?i_NoTelling_DipError ?ne_NoTelling_DipError ?i_NoTelling_Unlike ?ne_NoTelling_Unlike ?i_NoTelling_Empty ?ne_NoTelling_Empty ?i_NoTelling_TooMany ?ne_NoTelling_TooMany ?i_NoTelling_NoTree ?ne_NoTelling_NoTree ?i_NoTelling_NoPlace ?ne_NoTelling_NoPlace ?i_NoTelling_NoNumber ?ne_NoTelling_NoNumber ?i_NoTelling_NoPast ?ne_NoTelling_NoPast ?i_NoTelling_NoText ?ne_NoTelling_NoText ?i_NoTelling_NoLine ?ne_NoTelling_NoLine ?i_NoTelling_V ?b_ValueError ?b_all ?b_enumerate ?b_int ?b_isinstance ?b_len ?b_list ?b_max ?b_min ?b_range ?b_sum ?b_tuple ?m_MOST_PLACES
  (case Zit|Ziu|Ziv|Zgq|Zg5|Zg6|Zg7|Zfl|Ziw|Zix|Ziy|Zgr|Zg8|Zg9|Zha|Zfm|ZeM|ZeN|ZeO|Zc0|ZeP|ZeQ|ZeR|Zc1|Zcl|Zcm|Zcn|Zbe|ZcN|ZcO|ZcP|ZbD|ZfN|ZfO|ZfP|Zd3|Zdi|Zdj|Zdk|Zca|Zd4|Zd5|Zd6|Zcx|Zhc|Zhd|Zhe|Zfn|ZcQ|ZcR|ZcS|ZbE|ZfQ|ZfR|ZfS|Zd7|Zdl|Zdm|Zdn|Zcb|ZfT|ZfU|ZfV|Zd8|ZeU|ZeV|ZeW|Zc2|ZfW|ZfX|ZfY|Zd9|Zea|Zeb|Zec|Zcy|ZbX|ZbY|ZbZ|Za0|Zco|Zcp|Zcq|Zbf|ZeX|ZeY|ZeZ|Zc3|Ze0|Ze1|Ze2|Zc4|Zb0|Zb1|Zb2|Za1|ZaL|ZaM|ZaN|Zag|Zb3|Zb4|Zb5|Za2|Za6|Za7|Za8|Zak|Zed|Zee|Zef|Zcz|Zeg|Zeh|Zei|ZcA|Zej|Zek|Zel|ZcB|Zem|Zen|Zeo|ZcC|ZbF|ZbG|ZbH|ZaH|ZpS|ZpT|ZpV|ZpW|n_DipError=>k_is)
  (case x_DipError=>k_exc)
  (case d_DipError|y_DipError|n_Unlike=>k_is)
  (case x_Unlike=>k_exc)
  (case d_Unlike|y_Unlike|n_Empty=>k_is)
  (case x_Empty=>k_exc)
  (case d_Empty|y_Empty|n_TooMany=>k_is)
  (case x_TooMany=>k_exc)
  (case d_TooMany|y_TooMany|n_NoTree=>k_is)
  (case x_NoTree=>k_exc)
  (case d_NoTree|y_NoTree|n_NoTelling=>k_is)
  (case x_NoTelling=>k_exc)
  (case d_NoTelling|y_NoTelling|n_NoPlace=>k_is)
  (case x_NoPlace=>k_exc)
  (case d_NoPlace|y_NoPlace|n_NoNumber=>k_is)
  (case x_NoNumber=>k_exc)
  (case d_NoNumber|y_NoNumber|n_NoPast=>k_is)
  (case x_NoPast=>k_exc)
  (case d_NoPast|y_NoPast|n_NoText=>k_is)
  (case x_NoText=>k_exc)
  (case d_NoText|y_NoText|n_NoLine=>k_is)
  (case x_NoLine=>k_exc)
  (case d_NoLine|y_NoLine|z1_NoTelling|z2_NoTelling|z3_NoTelling|z4_NoTelling|z5_NoTelling|z6_NoTelling|z7_NoTelling|z8_NoTelling|u_NoTelling|i_NoTelling_DipError=>k_is)
  (case ne_NoTelling_DipError=>decide)
  (case i_NoTelling_Unlike=>k_is)
  (case ne_NoTelling_Unlike=>decide)
  (case i_NoTelling_Empty=>k_is)
  (case ne_NoTelling_Empty=>decide)
  (case i_NoTelling_TooMany=>k_is)
  (case ne_NoTelling_TooMany=>decide)
  (case i_NoTelling_NoTree=>k_is)
  (case ne_NoTelling_NoTree=>decide)
  (case i_NoTelling_NoPlace=>k_is)
  (case ne_NoTelling_NoPlace=>decide)
  (case i_NoTelling_NoNumber=>k_is)
  (case ne_NoTelling_NoNumber=>decide)
  (case i_NoTelling_NoPast=>k_is)
  (case ne_NoTelling_NoPast=>decide)
  (case i_NoTelling_NoText=>k_is)
  (case ne_NoTelling_NoText=>decide)
  (case i_NoTelling_NoLine=>k_is)
  (case ne_NoTelling_NoLine=>decide)
  (case i_NoTelling_V|b_ValueError|b_all|b_enumerate|b_int|b_isinstance|b_len|b_list|b_max|b_min|b_range|b_sum|b_tuple|m_MOST_PLACES=>k_is)
