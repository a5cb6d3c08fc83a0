import PyProof.Rows.All
import Wide.All
import OpenK.AllK
import Wide.FinOn
import Lean
import PyProof.EqAt
import PyProof.EqKinds
import PyProof.TupleCall
import PyProof.MeetsSeq
import PyProof.NeKinds
import PyProof.TupleOfSeq
import PyProof.ListRange
import PyProof.TupleOfGen
import PyProof.ZipIter
import KE.KRevIter
import PyProof.StrWalks
import PyProof.StrBlock2
import PyProof.MeetsStr
import PyProof.StrCalls2
import PyProof.StrLawsIn
import KE.KIntText
import PyProof.StrLawsTight
import PyProof.StrLawsChain
import PyProof.StrLawsAffix
import PyProof.Rows.StrItems
import PyProof.Rows.ReprOcc
import KE.KDictSum
import PyProof.Rows.SeqMore
import KE.KDictList
import KE.KStateDown
import PyProof.StrBlockI
import PyProof.FactsAll.NoneType_1
import PyProof.FString2
import PySem.Challenge.RW_dipkin_k93_whole_rows_within_bounds
set_option Elab.async false
set_option linter.all false
set_option maxRecDepth 100000
set_option maxHeartbeats 4000000
set_option genSizeOfSpec false
local macro_rules | `(tactic| omega) => `(tactic| first | lia | omega (config := {}))
section
open PySem PySem.Spec PyProof.Rows
noncomputable abbrev Ya:=@wpAny_bind
noncomputable abbrev Yb:=@if_neg
noncomputable abbrev Yc:=@if_pos
noncomputable abbrev Yd:=@Nat.le_refl
noncomputable abbrev Ye:=@wpAny_pure
noncomputable abbrev Yf:=@List.length_map
noncomputable abbrev Yg:=@Heap.get?_push_of_some
noncomputable abbrev Yh:=@Nat.le_trans
noncomputable abbrev Yi:=@List.getElem?_eq_getElem
noncomputable abbrev Yj:=@Heap.lt_size
noncomputable abbrev Yk:=@Heap.get?_push_size
noncomputable abbrev Yl:=@List.mem_cons
noncomputable abbrev Ym:=@List.getD_eq_getElem?_getD
noncomputable abbrev Yn:=@Nat.ne_of_lt
noncomputable abbrev Yo:=@List.length_cons
noncomputable abbrev Yp:=@List.size_toArray
noncomputable abbrev Yq:=@List.getElem?_eq_some_iff
noncomputable abbrev Yr:=@Nat.lt_of_le_of_lt
noncomputable abbrev Ys:=@Nat.zero_le
noncomputable abbrev Yt:=@Nat.lt_of_lt_of_le
noncomputable abbrev Yu:=@List.mem_range
noncomputable abbrev Yv:=@List.mem_append_right
noncomputable abbrev Yw:=@PySem.boot_len
noncomputable abbrev Yy:=@Bool.false_ne_true
noncomputable abbrev Yz:=@Option.some.inj
noncomputable abbrev YA:=@Nat.lt_irrefl
noncomputable abbrev YB:=@List.mem_map
noncomputable abbrev YC:=@List.mem_append
noncomputable abbrev YD:=@decide_eq_false
noncomputable abbrev YE:=@List.map_cons
noncomputable abbrev YF:=@List.getElem?_map
noncomputable abbrev YG:=@decide_eq_true
noncomputable abbrev YH:=@List.getElem_mem
noncomputable abbrev YI:=@List.mem_cons_self
noncomputable abbrev YJ:=@List.mem_cons_of_mem
noncomputable abbrev YK:=@wpAny_mono
noncomputable abbrev YL:=@List.length_append
noncomputable abbrev YM:=@Nat.le_of_lt
noncomputable abbrev YN:=@Nat.lt_succ_of_lt
noncomputable abbrev YO:=@Array.length_toList
noncomputable abbrev YQ:=@List.range_succ
noncomputable abbrev YR:=@List.getElem_of_mem
noncomputable abbrev YS:=@List.mem_filter
noncomputable abbrev YT:=@List.mem_append_left
noncomputable abbrev YU:=@List.map_append
noncomputable abbrev YV:=@List.map_map
noncomputable abbrev YW:=@List.getElem?_append_left
noncomputable abbrev YX:=@List.append_assoc
noncomputable abbrev YY:=@List.length_take
noncomputable abbrev YZ:=@Nat.le_succ
noncomputable abbrev Y1:=@List.pairwise_cons
noncomputable abbrev Y2:=@List.length_range
noncomputable abbrev Y3:=@of_decide_eq_true
noncomputable abbrev Y4:=@Nat.le_of_eq
noncomputable abbrev Y5:=@List.getElem?_append_right
noncomputable abbrev Y6:=@List.take_add_one
noncomputable abbrev Y7:=@List.length_drop
noncomputable abbrev Y8:=@List.mem_singleton
noncomputable abbrev Y9:=@List.length_filter_le
noncomputable abbrev Ja:=@Int.toNat_natCast
noncomputable abbrev Jb:=@List.getElem_append_left
noncomputable abbrev Jc:=@Int.eq_ofNat_of_zero_le
noncomputable abbrev Jd:=@List.getElem_append_right
end
namespace L2
open PySem PySem.Spec PyProof.Rows
noncomputable abbrev Key:=Sum Int Str
noncomputable def Zk7:Key->Value->Bool
 |.inl k,v=>Value.isInt k v
 |.inr x,v=>Value.isStrOf x v
noncomputable def keyH (w:World):Key->Int
 |.inl k=>hashInt k
 |.inr x=>hashStr w x
theorem Zah:∀{k:Key}{v:Value},Zk7 k v=true->(∃i t,k=Sum.inl i/\v=Value.int i t)\/(∃x t,k=Sum.inr x/\v=Value.str x t)
 |.inl i,v,h=>by
  obtain⟨t,e⟩:=Value.isInt_shape (k:=i) (v:=v) h
  exact .inl ⟨i,t,rfl,e⟩
 |.inr x,v,h=>by
  obtain⟨t,e⟩:=Value.isStrOf_shape (x:=x) (v:=v) h
  exact .inr ⟨x,t,rfl,e⟩
theorem ZpL (i:Int) (t:Tok):Zk7 (.inl i) (.int i t)=true:=by simp[Zk7,Value.isInt]
theorem ZpM (x:Str) (t:Tok):Zk7 (.inr x) (.str x t)=true:=by simp[Zk7,Value.isStrOf]
theorem key_ll (a b:Int):decide ((Sum.inl a:Key)=Sum.inl b)=(a==b):=by
 by_cases e:a=b
 ·subst e;simp
 ·have h:¬ (Sum.inl a:Key)=Sum.inl b:=λq=>e (Sum.inl.inj q)
  rw[YD h]
  exact(beq_eq_false_iff_ne.mpr e).symm
theorem key_rr (a b:Str):decide ((Sum.inr a:Key)=Sum.inr b)=decide (a=b):=by
 by_cases e:a=b
 ·subst e;simp
 ·have h:¬ (Sum.inr a:Key)=Sum.inr b:=λq=>e (Sum.inr.inj q)
  rw[YD h,YD e]
theorem key_lr (a:Int) (b:Str):decide ((Sum.inl a:Key)=Sum.inr b)=false:=YD (λq=>nomatch q)
theorem key_rl (a:Str) (b:Int):decide ((Sum.inr a:Key)=Sum.inl b)=false:=YD (λq=>nomatch q)
noncomputable def ZaW (prog:Program) (w:World):PySem.KeyKind prog w Key where
 is:=Zk7
 hash:=keyH w
 inj:=λv a b ha hb=>by
  rcases Zah ha with⟨i,t,rfl,rfl⟩|⟨x,t,rfl,rfl⟩
  ·rcases Zah hb with⟨j,u,rfl,e⟩|⟨y,u,rfl,e⟩
   ·injection e with e1 _;rw[e1]
   ·exact nomatch e
  ·rcases Zah hb with⟨j,u,rfl,e⟩|⟨y,u,rfl,e⟩
   ·exact nomatch e
   ·injection e with e1 _;rw[e1]
 byValue:=λk v h=>by
  rcases Zah h with⟨i,t,rfl,rfl⟩|⟨x,t,rfl,rfl⟩<;>rfl
 pyHash:=λhv h=>by
  rcases Zah hv with⟨i,t,rfl,rfl⟩|⟨x,t,rfl,rfl⟩
  ·exact wpAny_pyHash_int h
  ·exact wpAny_pyHash_str h
 eqBool:=λhu hv h=>by
  rcases Zah hu with⟨i,t,rfl,rfl⟩|⟨x,t,rfl,rfl⟩
  ·rcases Zah hv with⟨j,u,rfl,rfl⟩|⟨y,u,rfl,rfl⟩
   ·rw[key_ll]at h;exact wpAny_eqBool_int h
   ·rw[key_lr]at h;exact SeqAt.EqAt.int_str i t y u _ _ _ _ h
  ·rcases Zah hv with⟨j,u,rfl,rfl⟩|⟨y,u,rfl,rfl⟩
   ·rw[key_rl]at h;exact SeqAt.EqAt.str_int x t j u _ _ _ _ h
   ·rw[key_rr]at h;exact wpAny_eqBool_str h
 «strs»:=λk x t v h=>by
  rcases Zah h with⟨i,u,rfl,e⟩|⟨y,u,rfl,e⟩
  ·exact nomatch e
  ·injection e with e1 _
   subst e1
   cases v<;>rfl
theorem ZmH (prog:Program) (w:World) (i:Int) (t:Tok):(ZaW prog w).is (.inl i) (.int i t)=true:=ZpL i t
theorem ZmI (prog:Program) (w:World) (x:Str) (t:Tok):(ZaW prog w).is (.inr x) (.str x t)=true:=ZpM x t
inductive V where
 |non|bl (b:Bool)|int (i:Int)|str (x:Str)|byt (b:Array UInt8)|flt (b:UInt64)|ref (a:Addr)|ty (n:String)
 deriving DecidableEq
noncomputable def RelV:V->Value->Prop
 |.non,u=>u=Value.none
 |.bl b,u=>u=Value.bool b
 |.int i,u=>∃t,u=Value.int i t
 |.str x,u=>∃t,u=Value.str x t
 |.byt b,u=>∃t,u=Value.bytes b t
 |.flt b,u=>∃t,u=Value.float b t
 |.ref a,u=>u=Value.ref a
 |.ty n,u=>u=Value.type n
noncomputable abbrev Vals:List V->List Value->Prop:=Paired RelV
theorem Vals.length {xs:List V}{us:List Value} (r:Vals xs us):xs.length=us.length:=Paired.length r
theorem Vals.get:∀{xs:List V}{us:List Value}{i:Nat}{x:V},Vals xs us->xs[i]?=some x->∃u,us[i]?=some u/\RelV x u
 |_,_,_,_,.nil,e=>by simp at e
 |_,_,0,_,.cons r _,e=>by simp at e;subst e;exact⟨_,rfl,r⟩
 |_,_,i+1,x,.cons _ t,e=>by
  obtain⟨u,h1,h2⟩:=Vals.get (i:=i) (x:=x) t (by simpa using e)
  exact⟨u,by simpa using h1,h2⟩
theorem Vals.set {x:V}{u:Value} (r:RelV x u):∀{xs:List V}{us:List Value} (i:Nat),Vals xs us->Vals (xs.set i x) (us.set i u)
 |_,_,_,.nil=>.nil
 |_,_,0,.cons _ t=>.cons r t
 |_,_,i+1,.cons q t=>.cons q (Vals.set r i t)
theorem Vals.append:∀{xs ys:List V}{us ws:List Value},Vals xs us->Vals ys ws->Vals (xs++ys) (us++ws)
 |_,_,_,_,.nil,s=>s
 |_,_,_,_,.cons r t,s=>.cons r (Vals.append t s)
theorem Vals.take:∀{xs:List V}{us:List Value} (n:Nat),Vals xs us->Vals (xs.take n) (us.take n)
 |_,_,0,_=>.nil
 |_,_,_+1,.nil=>.nil
 |_,_,n+1,.cons r t=>.cons r (Vals.take n t)
theorem Vals.drop:∀{xs:List V}{us:List Value} (n:Nat),Vals xs us->Vals (xs.drop n) (us.drop n)
 |_,_,0,r=>r
 |_,_,_+1,.nil=>.nil
 |_,_,n+1,.cons _ t=>Vals.drop n t
noncomputable def Zfa:Option V->Option Value->Prop
 |some v,some u=>RelV v u
 |none,none=>True
 |_,_=>False
noncomputable def KV {κ:Type}:List (κ×V)->List (κ×Value)->Prop:=Paired λ(p:κ×V) (q:κ×Value)=>p.1=q.1/\RelV p.2 q.2
noncomputable def kV:Key->V
 |.inl i=>.int i
 |.inr x=>.str x
inductive HO where
 |lst (xs:List V)
 |tup (xs:List V)
 |dK (kvs:List (Key×V))|dT (kvs:List (List Key×V))
 |set (S:Int->Bool) (n:Nat)
 |ins (C dx:Addr) (fs:List (Str×V))
 |own (x:Addr)
 |xd (fs:List (Str×V))
 |met (f x:Addr)
 |rng (lo hi:Int)
 |frz (o:Obj) (u:HO)
 |tbl (ps:Array Value)
 |ext (φ:Heap->Prop)
noncomputable abbrev Hp:=Addr->Option HO
noncomputable def upd (H:Hp) (a:Addr) (o:HO):Hp:=λb=>if b=a then some o else H b
theorem Zb {H:Hp}{a:Addr}{o:HO}:upd H a o a=some o:=by unfold upd;rw[Yc rfl]
theorem Zh {H:Hp}{a b:Addr}{o:HO} (h:b≠a):upd H a o b=H b:=by unfold upd;rw[Yb h]
theorem ne_of {H:Hp}{a b:Addr}{o u:HO} (h:H a=some o) (h':H b=some u) (d:o≠u):a≠b:=by
 intro e;subst e;rw[h]at h';exact d (Yz h')
theorem Zu {H:Hp}{a b:Addr}{o:HO} (h:H a=some o) (h':H b=none):a≠b:=by
 intro e;subst e;rw[h]at h';cases h'
section
variable (P:Program) (w:World)
noncomputable def ZY (H:Hp) (h:Heap) (a:Addr):HO->Prop
 |.lst xs=>xs.length<=sizeLine/\∃(its:List Value) (n:Nat),Vals xs its/\h.get? a=some {cls:=.type "list",data:=.seq its.toArray n}
 |.tup xs=>xs.length<=sizeLine/\∃its:List Value,Vals xs its/\IsTup h a its.toArray
 |.dK kvs=>kvs.length<=sizeLine/\(a==sysModules)=false/\∃vs,KV kvs vs/\h.DictOf (ZaW P w) a vs
 |.dT kvs=>kvs.length<=sizeLine/\(a==sysModules)=false/\∃xs:List (List Key×Addr×Value),
   Paired (λ(p:List Key×V) (q:List Key×Addr×Value)=>p.1=q.1/\H q.2.1=some (.tup (p.1.map kV))/\RelV p.2 q.2.2) kvs xs /\
   ∃o es ep,h.get? a=some o/\o.ExactDict/\o.data=.dict es ep/\es.toList=xs.map (entryOfKey (tupleKind (ZaW P w)))/\(xs.map (·.1)).Nodup
 |.set S n=>h.SetOf (intKind P w) a S n
 |.ins C dx fs=>H dx=some (.own a)/\fs.length<=1000/\dx≠a/\h.get? a=some (PySem.W.instObj C dx) /\
   ∃mA,h.Ns1 dx mA/\(∀f,Zfa (fs.lookup f) (mA f))/\PySem.Within mA (fs.map (·.1))
 |.own _=>∃o,h.get? a=some o
 |.xd fs=>∃mA,h.Ns1 a mA/\∀f,Zfa (fs.lookup f) (mA f)
 |.rng lo hi=>∃t u v,h.get? a=some {cls:=.type "range",data:=.fields #[.int lo t,.int hi u,.int 1 v]}
 |.frz o u=>h.get? a=some o/\ZY H h a u
 |.tbl ps=>∃ts:Array Value,h.get? a=some {cls:=.none,data:=.fields ts}/\TriplesOk ts.toList/\∀pos cv,codeAmong pos ts.toList=some cv->∃c oc vs q t t',cv=.ref c/\H c=some (.frz oc (.own a))/\oc.data=.fields vs/\ps[0]?=some (.str q t)/\vs[1]?=some (.str q t')
 |.met f x=>h.get? a=some (PySem.W.methodObj (.ref f) (.ref x))
 |.ext φ=>φ h/\(∃o,h.get? a=some o)/\∀h1 h2:Heap,φ h1->(∀o,h1.get? a=some o->h2.get? a=some o)->φ h2
noncomputable def HOk (H:Hp) (h:Heap):Prop:=∀a o,H a=some o->ZY P w H h a o
end
section
variable {P:Program}{w:World}{H H':Hp}{h h':Heap}{a:Addr}{o:HO}
theorem ZY.lt (x:ZY P w H h a o):a<h.objs.size:=by
 cases o with
 |lst xs=>obtain⟨_,_,_,_,e⟩:=x;exact Yj e
 |tup xs=>obtain⟨_,_,_,p⟩:=x;exact p.lt
 |dK kvs=>obtain⟨_,_,_,_,o,_,_,e,_⟩:=x;exact Yj e
 |dT kvs=>obtain⟨_,_,_,_,o,_,_,e,_⟩:=x;exact Yj e
 |set S n=>obtain⟨o,_,_,_,e,_⟩:=x;exact Yj e
 |ins C dx fs=>obtain⟨_,_,_,e,_⟩:=x;exact Yj e
 |own y=>obtain⟨_,e⟩:=x;exact Yj e
 |xd fs=>obtain⟨_,⟨_,_,_,e,_⟩,_⟩:=x;exact Yj e
 |rng lo hi=>obtain⟨_,_,_,e⟩:=x;exact Yj e
 |frz ob u=>obtain⟨e,_⟩:=x;exact Yj e
 |tbl ps=>obtain⟨_,e,_⟩:=x;exact Yj e
 |met f y=>exact Yj (show h.get? a=some _ from x)
 |ext φ=>obtain⟨_,⟨_,e⟩,_⟩:=x;exact Yj e
theorem Paired.mapP {α β:Type}{F G:α->β->Prop}:∀{l₁:List α}{l₂:List β},Paired F l₁ l₂->(∀a b,F a b->G a b)->Paired G l₁ l₂
 |_,_,.nil,_=>.nil
 |_,_,.cons r t,f=>.cons (f _ _ r) (Paired.mapP t f)
theorem ZY.Zjs (x:ZY P w H h a o) (k:∀b u,(b=a\/H b=some (.own a))->h.get? b=some u->h'.get? b=some u)
  (ho:∀b,H b=some (.own a)->H' b=some (.own a)) (ht:∀b xs,H b=some (.tup xs)->H' b=some (.tup xs)) (hz:∀b o u,H b=some (.frz o u)->H' b=some (.frz o u)):ZY P w H' h' a o:=by
 induction o with
 |lst xs=>obtain⟨z,its,n,r,e⟩:=x;exact⟨z,its,n,r,k _ _ (.inl rfl) e⟩
 |tup xs=>obtain⟨z,its,r,ob,e,c⟩:=x;exact⟨z,its,r,ob,k _ _ (.inl rfl) e,c⟩
 |dK kvs=>obtain⟨z,y,vs,r,ob,es,ep,e,c⟩:=x;exact⟨z,y,vs,r,ob,es,ep,k _ _ (.inl rfl) e,c⟩
 |dT kvs =>
  obtain⟨z,y,xs,r,ob,es,ep,e,c⟩:=x
  exact⟨z,y,xs,Paired.mapP r λp q z=>⟨z.1,ht _ _ z.2.1,z.2.2⟩,ob,es,ep,k _ _ (.inl rfl) e,c⟩
 |set S n=>obtain⟨ob,es,ep,t,e,c⟩:=x;exact⟨ob,es,ep,t,k _ _ (.inl rfl) e,c⟩
 |ins C dx fs =>
  obtain⟨d,z,ne,e,mA,⟨od,es,ep,e2,c⟩,r⟩:=x
  exact⟨ho _ d,z,ne,k _ _ (.inl rfl) e,mA,⟨od,es,ep,k _ _ (.inr d) e2,c⟩,r⟩
 |own y=>obtain⟨ob,e⟩:=x;exact⟨ob,k _ _ (.inl rfl) e⟩
 |xd fs=>obtain⟨mA,⟨od,es,ep,e,c⟩,r⟩:=x;exact⟨mA,⟨od,es,ep,k _ _ (.inl rfl) e,c⟩,r⟩
 |rng lo hi=>obtain⟨t,u,v,e⟩:=x;exact⟨t,u,v,k _ _ (.inl rfl) e⟩
 |frz ob u ih=>obtain⟨e,q⟩:=x;exact⟨k _ _ (.inl rfl) e,ih q⟩
 |tbl ps =>
  obtain⟨ts,e,t3,z⟩:=x
  refine⟨ts,k a _ (.inl rfl) e,t3,λpos cv hc=>?_⟩
  obtain⟨c,oc,vs,q,t,t',e1,e2,r⟩:=z pos cv hc
  exact⟨c,oc,vs,q,t,t',e1,hz _ _ _ e2,r⟩
 |met f y =>
  have e:h.get? a=some (PySem.W.methodObj (.ref f) (.ref y)):=x
  show h'.get? a=some (PySem.W.methodObj (.ref f) (.ref y))
  exact k a _ (.inl rfl) e
 |ext φ=>obtain⟨p,⟨o,e⟩,st⟩:=x;exact⟨st _ _ p λo q=>k _ _ (.inl rfl) q,⟨o,k _ _ (.inl rfl) e⟩,st⟩
theorem HOk.lt (x:HOk P w H h) (e:H a=some o):a<h.objs.size:=(x a o e).lt
theorem HOk.fresh (x:HOk P w H h) (e:h.objs.size<=a):H a=none:=by
 cases q:H a with
 |none=>rfl
 |some u=>exact absurd (Yt (x.lt q) e) (YA _)
theorem HOk.kept (x:HOk P w H h) (k:∀b u,h.get? b=some u->h'.get? b=some u):HOk P w H h':=λa o e =>
 (x a o e).Zjs (λb u _ q=>k b u q) (λ_ q=>q) (λ_ _ q=>q) λ_ _ _ q=>q
theorem HOk.laid (x:HOk P w H h) (k:∀b u,h.get? b=some u->h'.get? b=some u) (hp:h.objs.size<=a) (new:ZY P w (upd H a o) h' a o):HOk P w (upd H a o) h':=λb u e=>by
 have hn:=x.fresh hp
 by_cases hb:b=a
 ·subst hb;rw[Zb]at e;cases e;exact new
 ·rw[Zh hb]at e
  exact(x b u e).Zjs (λc v _ q=>k c v q) (λc q=>by rw[Zh (Zu q hn)];exact q) (λc xs q=>by rw[Zh (Zu q hn)];exact q) λc o u q=>by rw[Zh (Zu q hn)];exact q
end
noncomputable def Rd (H:Hp) (a:Addr) (u:HO):Prop:=H a=some u\/∃o,H a=some (.frz o u)
theorem Rd.ok {P:Program}{w:World}{H:Hp}{h:Heap}{a:Addr}{u:HO} (r:Rd H a u) (x:HOk P w H h):ZY P w H h a u:=by
 rcases r with r|⟨o,r⟩
 ·exact x a u r
 ·obtain⟨_,q⟩:=x a _ r
  exact q
noncomputable def Mut:Option HO->Prop
 |some (.lst _)=>True
 |some (.dK _)=>True
 |some (.dT _)=>True
 |some (.set _ _)=>True
 |some (.ins _ _ _)=>True
 |some (.ext _)=>True
 |_=>False
section
variable {P:Program}{w:World}{H:Hp}{h h':Heap}{x e:Addr}{o':HO}
theorem HOk.write (ok:HOk P w H h) (mu:Mut (H x)) (he:e=x\/H e=some (.own x)) (k:∀b u,b≠e->h.get? b=some u->h'.get? b=some u) (heo:∃u,h'.get? e=some u)
  (new:ZY P w (upd H x o') h' x o'):HOk P w (upd H x o') h':=λb u q=>by
 have nown:∀c y,H c=some (.own y)->c≠x:=λc y r z=>by subst z;rw[r]at mu;exact mu
 have ntup:∀c xs,H c=some (.tup xs)->c≠x:=λc xs r z=>by subst z;rw[r]at mu;exact mu
 have nfrz:∀c o u,H c=some (.frz o u)->c≠x:=λc o u r z=>by subst z;rw[r]at mu;exact mu
 by_cases hb:b=x
 ·subst hb;rw[Zb]at q;cases q;exact new
 ·rw[Zh hb]at q
  by_cases hbe:b=e
  ·have q':H b=some (.own x):=by
    rcases he with z|z
    ·exact absurd (hbe.trans z) hb
    ·rw[hbe];exact z
   rw[q]at q';cases q'
   obtain⟨v,hv⟩:=heo
   exact⟨v,by rw[hbe];exact hv⟩
  ·refine(ok b u q).Zjs (λc v hc r=>k c v ?_ r) (λc r=>by rw[Zh (nown c b r)];exact r) (λc xs r=>by rw[Zh (ntup c xs r)];exact r) λc o u r=>by rw[Zh (nfrz c o u r)];exact r
   rcases hc with rfl|hc
   ·exact hbe
   ·rintro rfl
    rcases he with z|z
    ·exact nown c b hc z
    ·rw[hc]at z;cases z;exact hb rfl
end
structure Un (fs ex:List Addr) (H H':Hp) (h h':Heap):Prop where
 keep:∀b o,h.get? b=some o->H b=none->b∉fs->b∉ex->h'.get? b=some o
 slot:∀b o,h.get? b=some o->H b=none->b∈fs->b∉ex->∃sl,h'.get? b=some {o with slots:=sl}
 free:∀b o,h.get? b=some o->H b=none->b∉ex->H' b=none
 there:∀b o,h.get? b=some o->b∉ex->∃o',h'.get? b=some o'
 tups:∀b xs,H b=some (.tup xs)->H' b=some (.tup xs)
 frzs:∀b o u,H b=some (.frz o u)->H' b=some (.frz o u)
 tbls:∀b ps,H b=some (.tbl ps)->∃more,H' b=some (.tbl (ps++more))
section
variable {fs fs' ex ex':List Addr}{H H1 H2:Hp}{h h1 h2 h':Heap}{a x e:Addr}{o:HO}
theorem Un.any (u:Un fs ex H H1 h h1) {b:Addr}{ob:Obj} (q:h.get? b=some ob) (n:H b=none) (hx:b∉ex):∃sl,h1.get? b=some {ob with slots:=sl}:=by
 by_cases hb:b∈fs
 ·exact u.slot b ob q n hb hx
 ·exact⟨ob.slots,u.keep b ob q n hb hx⟩
theorem Un.kept (k:∀b u,h.get? b=some u->h'.get? b=some u):Un fs ex H H h h' :=
 ⟨λb ob q _ _ _=>k b ob q,λb ob q _ _ _=>⟨ob.slots,k b ob q⟩,λ_ _ _ n _=>n,λb ob q _=>⟨ob,k b ob q⟩,λ_ _ q=>q,λ_ _ _ q=>q,λ_ ps q=>⟨#[],by rw[q];simp⟩⟩
theorem Un.refl:Un fs ex H H h h:=Un.kept λ_ _ q=>q
theorem Un.laid (k:∀b u,h.get? b=some u->h'.get? b=some u) (hp:h.objs.size<=a) (hn:H a=none):Un fs ex H (upd H a o) h h' where
 keep:=λb u q _ _ _=>k b u q
 slot:=λb u q _ _ _=>⟨u.slots,k b u q⟩
 free:=λb u q n _=>by rw[Zh (Yn (Yt (Yj q) hp))];exact n
 there:=λb u q _=>⟨u,k b u q⟩
 tups:=λb xs q=>by rw[Zh (Zu q hn)];exact q
 frzs:=λb u xs q=>by rw[Zh (Zu q hn)];exact q
 tbls:=λb ps q=>⟨#[],by rw[Zh (Zu q hn),q];simp⟩
theorem Un.write (mu:Mut (H x)) (he:e=x\/H e=some (.own x)) (k:∀b u,b≠e->h.get? b=some u->h'.get? b=some u) (heo:∃u,h'.get? e=some u):Un fs ex H (upd H x o) h h':=by
 have hx:∀b,H b=none->b≠x:=λb n z=>by subst z;rw[n]at mu;exact mu
 have hb:∀b,H b=none->b≠e:=λb n z=>by
  subst z
  rcases he with r|r
  ·exact hx b n r
  ·rw[n]at r;cases r
 have hm:∀b u,H b=some u->¬ Mut (some u)->b≠x:=λb u q nm z=>by subst z;rw[q]at mu;exact nm mu
 refine⟨λb u q n _ _=>k b u (hb b n) q,λb u q n _ _=>⟨u.slots,k b u (hb b n) q⟩,λb u q n _=>by rw[Zh (hx b n)];exact n,λb u q _=>?_,
  λb xs q=>by rw[Zh (hm b _ q λz=>z)];exact q,λb u xs q=>by rw[Zh (hm b _ q λz=>z)];exact q,λb ps q=>⟨#[],by rw[Zh (hm b _ q λz=>z),q];simp⟩⟩
 by_cases hbe:b=e
 ·subst hbe;exact heo
 ·exact⟨u,k b u hbe q⟩
end
noncomputable def trk (h:Heap) (H:Hp):List Addr:=(List.range h.objs.size).filter λa=>(H a).isSome
noncomputable def ZkO (h:Heap) (H:Hp):Heap:=PySem.W.hideAll h (trk h H)
theorem ZpN (h:Heap) (H:Hp):(ZkO h H).objs.size=h.objs.size:=PySem.W.hideAll_size _ _
theorem ZrH {h:Heap}{H:Hp}{b:Addr}{o:Obj} (e:h.get? b=some o) (n:H b=none):(ZkO h H).get? b=some o :=
 PySem.W.hideAll_get _ e λhm=>by
  have q:(H b).isSome=true:=(YS.mp hm).2
  rw[n]at q;simp at q
theorem Zur {h:Heap}{H:Hp}{b:Addr}{o:Obj} (e:(ZkO h H).get? b=some o):h.get? b=some o/\H b=none:=by
 have e':h.get? b=some o:=PySem.W.of_hideAll (trk h H) e
 refine⟨e',?_⟩
 cases q:H b with
 |none=>rfl
 |some x =>
  have hm:b∈trk h H:=YS.mpr ⟨Yu.mpr (Yj e'),by simp[q]⟩
  have z:(ZkO h H).get? b=none:=PySem.W.hideAll_none (trk h H) hm
  rw[z]at e;cases e
noncomputable def Zus (g h:Heap) (L:Addr):List (Addr×Obj):=(List.range h.objs.size).filterMap λa=>if a=L\/(g.get? a).isSome=true then none else (h.get? a).map λo=>(a,o)
noncomputable def rest (g h:Heap) (L d:Addr):List (Addr×Obj):=(Zus g h L).filter λp=>decide (p.1≠d)
structure Mod (K:PySem.W.Frag) (mg:Str->Option Value) (base:Heap):Prop where
 kin:K.In base
 glob:base.Ns mainGlobals mg
 blt:∃mb,base.Ns builtinsNs mb/\∀x:Str,x≠"__name__"->mb x=bootBuiltins x
 nolimit:base.NoLimit
structure Cx where
 prog:Program
 w:World
 K:PySem.W.Frag
 mg:Str->Option Value
 base:Heap
 A:Around
 N:List Str
 s₀:Shared
 H₀:Hp
 env:Env
 outer:List Env
 stack:List Env
 ex:List Addr
 fn:Str->Bool
 calm:Bool
 pn:List (Addr×Obj)
 xe:Value->Shared->Prop
noncomputable def frs (l:List Env):List Addr:=l.filterMap (·.frame)
noncomputable abbrev Cx.fs (X:Cx):List Addr:=frs X.outer
noncomputable def Vis (sc:Scope) (x:Str):Prop:=sc.names.lookup x=some .local\/sc.names.lookup x=some .cell\/sc.names.lookup x=some .free
noncomputable def Loc (sc:Scope) (x:Str):Prop:=sc.names.lookup x=some .local\/sc.names.lookup x=some .cell
noncomputable def Look (env:Env) (h:Heap) (m:Str->Option Value) (x:Str) (u:Value):Prop :=
 (env.kindOf x=some .local/\m x=some u)\/((env.kindOf x=some .cell\/env.kindOf x=some .free)/\∃c,env.cells.lookup x=some c/\h.IsCell c (some u))
structure Cx.Ok (X:Cx):Prop where
 mod:Mod X.K X.mg X.base
 kind:X.env.scope.kind=.function
 glob:X.env.globals=mainGlobals
 blt:X.env.builtins=builtinsNs
 above:X.s₀.heap.objs.size<=X.env.locals
 inj:∀x y c,X.env.cells.lookup x=some c->X.env.cells.lookup y=some c->x=y
 has:∀x,(X.env.kindOf x=some .cell\/X.env.kindOf x=some .free)->∃c,X.env.cells.lookup x=some c
 cab:∀x c,X.fn x=true->X.env.cells.lookup x=some c->X.s₀.heap.objs.size<=c
 hd:X.calm=true->X.A.handled=none
 frames:X.A.frames=some X.stack
 stk:X.stack=X.outer\/(X.stack=X.env::X.outer/\X.env.frame=some X.env.locals)
 exf:∀b∈X.ex,b≠X.env.locals/\∀x c,X.env.cells.lookup x=some c->c≠b
 bs:∀b o,X.base.get? b=some o->X.s₀.heap.get? b=some o/\X.H₀ b=none
 bsz:X.base.objs.size<=X.s₀.heap.objs.size
 noex:∀b o,X.base.get? b=some o->b∉X.ex
 exfs:∀b∈X.ex,b∉X.fs
 funs:X.s₀.heap.FunFrames X.base X.outer
 frf:∀b∈X.fs,X.H₀ b=none
structure Inv (X:Cx) (pins:List (Addr×Obj)) (σ:List (Option V)) (H:Hp) (s:Shared):Prop where
 ok:X.Ok
 os:s.os=X.s₀.os
 bare:AllBare s.gens
 base:Un X.fs X.ex X.H₀ H X.s₀.heap s.heap
 loc:∃m,s.heap.Ns X.env.locals m/\∀(i:Nat) (x:Str) (v:V),X.N[i]?=some x->σ[i]?=some (some v)->Vis X.env.scope x->∃u,RelV v u/\Look X.env s.heap m x u
 cell:∀x c,X.env.cells.lookup x=some c->∃v,s.heap.IsCell c v
 free:H X.env.locals=none
 freeC:∀x c,X.env.cells.lookup x=some c->H c=none
 pin:∀p∈X.pn++pins,s.heap.get? p.1=some p.2/\H p.1=none/\p.1≠X.env.locals/\p.1∉X.fs/\∀v,p.2.data≠.cell v
 hok:HOk X.prog X.w H s.heap
 len:σ.length=X.N.length
section
variable {X:Cx}{pins:List (Addr×Obj)}{σ:List (Option V)}{H H':Hp}{s:Shared}{h':Heap}
theorem Cx.Ok.nofr (ok:X.Ok) {b:Addr}{o:Obj} (e:X.base.get? b=some o):b∉X.fs:=λhb=>by
 have:=(ok.funs.mem hb).1
 rw[e]at this;cases this
theorem Inv.bs (I:Inv X pins σ H s):∀b o,X.base.get? b=some o->s.heap.get? b=some o/\H b=none:=λb o e =>
 ⟨I.base.keep b o (I.ok.bs b o e).1 (I.ok.bs b o e).2 (I.ok.nofr e) (I.ok.noex b o e),I.base.free b o (I.ok.bs b o e).1 (I.ok.bs b o e).2 (I.ok.noex b o e)⟩
theorem Inv.bk (I:Inv X pins σ H s):∀b o,X.base.get? b=some o->s.heap.get? b=some o:=λb o e=>(I.bs b o e).1
theorem Inv.mod (I:Inv X pins σ H s):Mod X.K X.mg X.base:=I.ok.mod
theorem Inv.kIn (I:Inv X pins σ H s):X.K.In s.heap:=I.ok.mod.kin.keeps I.bk
theorem Inv.nolimit (I:Inv X pins σ H s):s.heap.NoLimit:=I.ok.mod.nolimit.keeps I.bk
theorem Inv.lt (I:Inv X pins σ H s):X.env.locals<s.heap.objs.size:=let ⟨_,hn,_⟩:=I.loc;hn.lt
theorem Inv.sz (I:Inv X pins σ H s):X.s₀.heap.objs.size<=s.heap.objs.size:=Yh I.ok.above (YM I.lt)
theorem Inv.nofs (I:Inv X pins σ H s) {a:Addr} (h:s.heap.objs.size<=a):a∉X.fs:=λhb=>by
 obtain⟨_,o,ho,_⟩:=I.ok.funs.mem hb
 exact absurd (Yt (Yj ho) (Yh I.sz h)) (YA _)
theorem Inv.cne (I:Inv X pins σ H s):∀x c,X.env.cells.lookup x=some c->c≠X.env.locals:=λx c e z=>by
 obtain⟨v,o,ho,hd⟩:=I.cell x c e
 obtain⟨m,⟨o',es,ep,ho',hd',_⟩,_⟩:=I.loc
 rw[z,ho']at ho;cases ho;rw[hd']at hd;cases hd
theorem Inv.funs (I:Inv X pins σ H s):s.heap.FunFrames X.base X.outer:=by
 have all:∀(l:List Env),(∀b∈frs l,b∈X.fs)->X.s₀.heap.FunFrames X.base l->s.heap.FunFrames X.base l:=by
  intro l
  induction l with
  |nil=>intro _ _;trivial
  |cons env r ih =>
   intro hs hl
   obtain⟨hk,⟨L,o,hf,hn,ho,hd⟩,hr⟩:=hl
   have hL:L∈X.fs:=hs L (by unfold frs;rw[List.filterMap_cons,hf];exact YI)
   obtain⟨sl,e⟩:=I.base.slot L o ho (I.ok.frf L hL) hL λz=>I.ok.exfs L z hL
   exact⟨hk,⟨L,_,hf,hn,e,hd⟩,ih (λb hb=>hs b (by unfold frs;rw[List.filterMap_cons,hf];exact YJ _ hb)) hr⟩
 exact all X.outer (λ_ hb=>hb) I.ok.funs
theorem Inv.stack (I:Inv X pins σ H s):s.heap.FunFrames X.base X.stack:=by
 rcases I.ok.stk with e|⟨e,hf⟩
 ·rw[e];exact I.funs
 ·rw[e]
  obtain⟨m,hn,_⟩:=I.loc
  refine .cons (by rw[I.ok.kind];decide) hf hn ?_ I.funs
  exact Heap.get?_none_of_le (Yh I.ok.bsz I.ok.above)
theorem Inv.ZhS (I:Inv X pins σ H s):∀b∈frs X.stack,b∈X.env.locals::X.fs:=λb hb=>by
 rcases I.ok.stk with e|⟨e,hf⟩
 ·rw[e]at hb;exact YJ _ hb
 ·rw[e]at hb
  unfold frs at hb
  rw[List.filterMap_cons,hf]at hb
  exact hb
theorem Inv.Zja (I:Inv X pins σ H s):∀b∈frs X.stack,H b=none:=λb hb=>by
 rcases Yl.mp (I.ZhS b hb)with e|hb
 ·rw[e];exact I.free
 ·obtain⟨_,o,ho,_⟩:=I.ok.funs.mem hb
  exact I.base.free b o ho (I.ok.frf b hb) λz=>I.ok.exfs b z hb
theorem Inv.step {g':Array GenState}{t':Nat}{d':Drawn}{ch:List Addr} (I:Inv X pins σ H s)
  (hch:∀b∈ch,(b∈X.ex\/X.s₀.heap.objs.size<=b)/\b≠X.env.locals/\(∀x c,X.env.cells.lookup x=some c->c≠b)/\∀p∈X.pn++pins,p.1≠b)
  (keep:∀b o,b≠X.env.locals->b∉X.fs->b∉ch->s.heap.get? b=some o->H b=none->h'.get? b=some o)
  (slot:∀b o,b≠X.env.locals->b∈X.fs->b∉ch->s.heap.get? b=some o->H b=none->∃sl,h'.get? b=some {o with slots:=sl}) (free:∀b o,b∉ch->s.heap.get? b=some o->H b=none->H' b=none)
  (there:∀b o,b∉ch->s.heap.get? b=some o->∃o',h'.get? b=some o')
  (tups:∀b xs,H b=some (.tup xs)->H' b=some (.tup xs)) (frzs:∀b o u,H b=some (.frz o u)->H' b=some (.frz o u)) (tbls:∀b ps,H b=some (.tbl ps)->∃more,H' b=some (.tbl (ps++more)))
  (ns:∀m,s.heap.Ns X.env.locals m->h'.Ns X.env.locals m) (hok:HOk X.prog X.w H' h') (hg:AllBare g') :
  Inv X pins σ H' {s with heap:=h',gens:=g',drawn:=d',toks:=t'}:=by
 have neL:∀b o,X.s₀.heap.get? b=some o->b≠X.env.locals:=λb o e=>Yn (Yt (Yj e) I.ok.above)
 have neC:∀b o,X.s₀.heap.get? b=some o->b∉X.ex->b∉ch:=λb o e hx hb=>by
  rcases(hch b hb).1 with z|z
  ·exact hx z
  ·exact absurd (Yt (Yj e) z) (YA _)
 have cellK:∀x c,X.env.cells.lookup x=some c->∀v,s.heap.IsCell c v->h'.IsCell c v:=λx c e v ⟨o,ho,hd⟩=>by
  have nch:c∉ch:=λz=>(hch c z).2.2.1 x c e rfl
  by_cases hc:c∈X.fs
  ·obtain⟨sl,q⟩:=slot c o (I.cne x c e) hc nch ho (I.freeC x c e)
   exact⟨_,q,hd⟩
  ·exact⟨o,keep c o (I.cne x c e) hc nch ho (I.freeC x c e),hd⟩
 refine⟨I.ok,I.os,hg,⟨λb o e n hb hx=>?_,λb o e n hb hx=>?_,λb o e n hx=>?_,λb o e hx=>?_,λb xs e=>tups b xs (I.base.tups b xs e),λb o xs e=>frzs b o xs (I.base.frzs b o xs e),λb ps e=>?_⟩,?_,λx c e=>?_,?_,λx c e=>?_,λp hp=>?_,hok,I.len⟩
 ·exact keep b o (neL b o e) hb (neC b o e hx) (I.base.keep b o e n hb hx) (I.base.free b o e n hx)
 ·obtain⟨sl,e1⟩:=I.base.slot b o e n hb hx
  obtain⟨sl',e2⟩:=slot b _ (neL b o e) hb (neC b o e hx) e1 (I.base.free b o e n hx)
  exact⟨sl',e2⟩
 ·obtain⟨o',e1⟩:=I.base.there b o e hx
  exact free b o' (neC b o e hx) e1 (I.base.free b o e n hx)
 ·obtain⟨o',e1⟩:=I.base.there b o e hx
  exact there b o' (neC b o e hx) e1
 ·obtain⟨m1,e1⟩:=I.base.tbls b ps e
  obtain⟨m2,e2⟩:=tbls b _ e1
  exact⟨m1++m2,by rw[e2,Array.append_assoc]⟩
 ·obtain⟨m,hn,hl⟩:=I.loc
  refine⟨m,ns m hn,λi x v e1 e2 e3=>?_⟩
  obtain⟨u,r,l⟩:=hl i x v e1 e2 e3
  refine⟨u,r,?_⟩
  rcases l with l|⟨k,c,e,z⟩
  ·exact .inl l
  ·exact .inr ⟨k,c,e,cellK x c e _ z⟩
 ·obtain⟨v,z⟩:=I.cell x c e
  exact⟨v,cellK x c e v z⟩
 ·obtain⟨m,⟨o,_,_,ho,_⟩,_⟩:=I.loc
  exact free _ o (λz=>(hch _ z).2.1 rfl) ho I.free
 ·obtain⟨v,o,ho,hd⟩:=I.cell x c e
  exact free c o (λz=>(hch c z).2.2.1 x c e rfl) ho (I.freeC x c e)
 ·obtain⟨e,n,ne,nf,d⟩:=I.pin p hp
  have nch:p.1∉ch:=λz=>(hch p.1 z).2.2.2 p hp rfl
  exact⟨keep p.1 p.2 ne nf nch e n,free p.1 p.2 nch e n,ne,nf,d⟩
theorem Inv.un {t':Nat} (I:Inv X pins σ H s) (u:Un X.fs [] H H' s.heap h') (hok:HOk X.prog X.w H' h'):Inv X pins σ H' {s with heap:=h',toks:=t'}:=by
 obtain⟨m,⟨o,es,ep,ho,r⟩,_⟩:=id I.loc
 obtain⟨sl,hL⟩:=u.any ho I.free (by simp)
 exact I.step (g':=s.gens) (d':=s.drawn) (ch:=[]) (λ_ z=>nomatch z) (λb o _ hb _ e n=>u.keep b o e n hb (by simp)) (λb o _ hb _ e n=>u.slot b o e n hb (by simp)) (λb o _ e n=>u.free b o e n (by simp)) (λb o _ e=>u.there b o e (by simp)) u.tups u.frzs u.tbls (λm' hm=>by
  obtain⟨o',es',ep',ho',r'⟩:=hm
  rw[ho]at ho';cases ho'
  exact⟨_,es',ep',hL,r'⟩) hok I.bare
theorem Inv.call {g':Array GenState}{t':Nat}{d':Drawn}{ch:List Addr} (I:Inv X pins σ H s) (u:Un (frs X.stack) ch H H' s.heap h') (hok:HOk X.prog X.w H' h') (hg:AllBare g')
  (hch:∀b∈ch,(b∈X.ex\/X.s₀.heap.objs.size<=b)/\b≠X.env.locals/\(∀x c,X.env.cells.lookup x=some c->c≠b)/\∀p∈X.pn++pins,p.1≠b) :
  Inv X pins σ H' {s with heap:=h',gens:=g',drawn:=d',toks:=t'}:=by
 obtain⟨m,⟨o,es,ep,ho,r⟩,_⟩:=id I.loc
 obtain⟨sl,hL⟩:=u.any ho I.free λz=>(hch _ z).2.1 rfl
 exact I.step (ch:=ch) hch (λb o hL hb hc e n=>u.keep b o e n (λz=>(Yl.mp (I.ZhS b z)).elim hL hb) hc) (λb o _ _ hc e n=>u.any e n hc) (λb o hc e n=>u.free b o e n hc) (λb o hc e=>u.there b o e hc) u.tups u.frzs u.tbls (λm' hm=>by
  obtain⟨o',es',ep',ho',r'⟩:=hm
  rw[ho]at ho';cases ho'
  exact⟨_,es',ep',hL,r'⟩) hok hg
theorem Inv.turned {t':Nat}{it:Addr} (I:Inv X pins σ H s) (k:∀b o,b≠it->s.heap.get? b=some o->h'.get? b=some o) (hn:H it=none) (hL:it≠X.env.locals)
  (h1:it∈X.ex\/X.s₀.heap.objs.size<=it) (h2:∀x c,X.env.cells.lookup x=some c->c≠it) (h3:∀p∈X.pn++pins,p.1≠it):Inv X pins σ H {s with heap:=h',toks:=t'}:=by
 have nit:∀b u,H b=some u->b≠it:=λb u e z=>by rw[z,hn]at e;cases e
 refine I.step (g':=s.gens) (d':=s.drawn) (ch:=[it]) (λb hb=>?_) (λb o _ _ hc e _=>k b o (λz=>hc (by simp[z])) e) (λb o _ _ hc e _=>⟨o.slots,k b o (λz=>hc (by simp[z])) e⟩) (λ_ _ _ _ n=>n)
  (λb o hc e=>⟨o,k b o (λz=>hc (by simp[z])) e⟩) (λ_ _ e=>e) (λ_ _ _ e=>e) (λb ps e=>⟨#[],by rw[e];simp⟩) (λm hm=>?_) (λb u e=>?_) I.bare
 ·have e:b=it:=by simpa using hb
  subst e
  exact⟨h1,hL,h2,h3⟩
 ·obtain⟨o,es,ep,ho,r⟩:=hm
  exact⟨o,es,ep,k _ o (Ne.symm hL) ho,r⟩
 ·refine(I.hok b u e).Zjs (λc v hc q=>k c v ?_ q) (λ_ q=>q) (λ_ _ q=>q) λ_ _ _ q=>q
  rcases hc with z|z
  ·rw[z];exact nit b u e
  ·exact nit c _ z
theorem Inv.tok (I:Inv X pins σ H s) (t:Nat):Inv X pins σ H {s with toks:=t}:=I.un (h':=s.heap) (t':=t) Un.refl I.hok
theorem Inv.kept {t':Nat} (I:Inv X pins σ H s) (k:∀b u,s.heap.get? b=some u->h'.get? b=some u):Inv X pins σ H {s with heap:=h',toks:=t'}:=I.un (Un.kept k) (I.hok.kept k)
theorem Inv.laid {a:Addr}{o:HO}{t':Nat} (I:Inv X pins σ H s) (k:∀b u,s.heap.get? b=some u->h'.get? b=some u) (hp:s.heap.objs.size<=a) (new:ZY X.prog X.w (upd H a o) h' a o) :
  Inv X pins σ (upd H a o) {s with heap:=h',toks:=t'}:=I.un (Un.laid k hp (I.hok.fresh hp)) (I.hok.laid k hp new)
theorem Inv.write {x e:Addr}{o:HO}{t':Nat} (I:Inv X pins σ H s) (mu:Mut (H x)) (he:e=x\/H e=some (.own x)) (k:∀b u,b≠e->s.heap.get? b=some u->h'.get? b=some u) (heo:∃u,h'.get? e=some u)
  (new:ZY X.prog X.w (upd H x o) h' x o):Inv X pins σ (upd H x o) {s with heap:=h',toks:=t'}:=I.un (Un.write mu he k heo) (I.hok.write mu he k heo new)
theorem Inv.weak {σ':List (Option V)} (I:Inv X pins σ H s) (hl:σ'.length=σ.length) (w:∀(i:Nat) v,σ'[i]?=some (some v)->σ[i]?=some (some v)):Inv X pins σ' H s :=
 ⟨I.ok,I.os,I.bare,I.base,let ⟨m,hn,hl'⟩:=I.loc;⟨m,hn,λi x v e1 e2 e3=>hl' i x v e1 (w i v e2) e3⟩,I.cell,I.free,I.freeC,I.pin,I.hok,hl.trans I.len⟩
theorem Inv.ZbK {pins':List (Addr×Obj)} (I:Inv X pins σ H s) (h:∀p∈pins',s.heap.get? p.1=some p.2/\H p.1=none/\p.1≠X.env.locals/\p.1∉X.fs/\∀v,p.2.data≠.cell v):Inv X pins' σ H s :=
 ⟨I.ok,I.os,I.bare,I.base,I.loc,I.cell,I.free,I.freeC,λp hp=>(YC.mp hp).elim (λz=>I.pin p (YT _ z)) (h p),I.hok,I.len⟩
theorem ZmJ {N:List Str} (hN:N.Nodup) {i j:Nat}{x:Str} (a:N[i]?=some x) (b:N[j]?=some x):i=j:=by
 obtain⟨h1,e1⟩:=Yq.mp a
 obtain⟨h2,e2⟩:=Yq.mp b
 exact(List.getElem_inj hN).mp (e1.trans e2.symm)
theorem ZpO {M:Model}{A:Around}{E:Value->Shared->Prop}{i:Nat}{x:Str}{v:V}{u:Value}{Q:Unit->Shared->Prop} (I:Inv X pins σ H s) (hN:X.N.Nodup) (hi:X.N[i]?=some x) (hx:Loc X.env.scope x) (r:RelV v u)
  (h:∀s',Inv X pins (σ.set i (some v)) H s'->(∃a,Heap.SameBut a s.heap s'.heap/\(a=X.env.locals\/X.env.cells.lookup x=some a))->Q () s') (hf:X.fn x=true\/X.env.scope.names.lookup x=some .local:=by first|exact .inl rfl|exact .inr rfl|assumption):wpAny M A (storeName X.env x u) Q E s:=by
 obtain⟨m,hn,hl⟩:=id I.loc
 have hcls:(X.env.scope.kind==.class||(X.env.scope.kind==.module&&X.env.locals != X.env.globals))=false:=by rw[I.ok.kind];rfl
 have hiσ:i < σ.length:=by rw[I.len];exact(Yq.mp hi).1
 have cne:=I.cne
 have tracked:∀{a:Addr}{h':Heap},(∃o,s.heap.get? a=some o/\H a=none)->Heap.SameBut a s.heap h'->HOk X.prog X.w H h':=λ{a h'} ha hs b ob e=>by
  obtain⟨_,_,hfree⟩:=ha
  refine(I.hok b ob e).Zjs (λc w' hc q=>(hs.2 c ?_).trans q) (λ_ q=>q) (λ_ _ q=>q) λ_ _ _ q=>q
  rintro rfl
  rcases hc with rfl|hc
  ·rw[hfree]at e;cases e
  ·rw[hfree]at hc;cases hc
 rcases hx with hk|hk
 ·refine wpAny_storeName_local hk hn (λh' hn' hs=>?_) hcls
  obtain⟨oL,_,_,hoL,_⟩:=id hn
  refine h _ ⟨I.ok,I.os,I.bare,⟨λb o e n hb hx=>?_,λb o e n hb hx=>?_,I.base.free,λb o e hx=>?_,I.base.tups,I.base.frzs,I.base.tbls⟩,⟨_,hn',λj y v' e1 e2 e3=>?_⟩,λy c e=>?_,I.free,I.freeC,λp hp=>?_,tracked ⟨oL,hoL,I.free⟩ hs,by simpa using I.len⟩ ⟨_,hs,.inl rfl⟩
  ·exact(hs.2 b (Yn (Yt (Yj e) I.ok.above))).trans (I.base.keep b o e n hb hx)
  ·obtain⟨sl,e1⟩:=I.base.slot b o e n hb hx
   exact⟨sl,(hs.2 b (Yn (Yt (Yj e) I.ok.above))).trans e1⟩
  ·obtain⟨o',e1⟩:=I.base.there b o e hx
   exact⟨o',(hs.2 b (Yn (Yt (Yj e) I.ok.above))).trans e1⟩
  ·by_cases hj:j=i
   ·subst hj
    rw[hi]at e1;cases e1
    rw[List.getElem?_set_self hiσ]at e2
    cases e2
    exact⟨u,r,.inl ⟨hk,by simp⟩⟩
   ·rw[List.getElem?_set_ne (Ne.symm hj)]at e2
    obtain⟨u',r',q⟩:=hl j y v' e1 e2 e3
    refine⟨u',r',?_⟩
    rcases q with⟨k,e⟩|⟨k,c,e,z⟩
    ·refine .inl ⟨k,?_⟩
     have:y≠x:=λe=>hj (ZmJ hN e1 (e▸hi))
     simp[this,e]
    ·exact .inr ⟨k,c,e,z.sameBut hs (cne y c e)⟩
  ·obtain⟨w',z⟩:=I.cell y c e
   exact⟨w',z.sameBut hs (cne y c e)⟩
  ·obtain⟨e,n,ne,nf,d⟩:=I.pin p hp
   exact⟨(hs.2 p.1 ne).trans e,n,ne,nf,d⟩
 ·have hfn:X.fn x=true:=by
   rcases hf with z|z
   ·exact z
   ·rw[z]at hk;cases hk
  obtain⟨c,hc⟩:=I.ok.has x (.inl hk)
  obtain⟨w',z⟩:=I.cell x c hc
  refine wpAny_storeName_cell I.ok.kind hk hc z (λh' hc' hs=>?_)
  obtain⟨oc,hoc,hocd⟩:=id z
  refine h {s with heap:=h'} ⟨I.ok,I.os,I.bare,⟨λb o e n hb hx=>?_,λb o e n hb hx=>?_,I.base.free,λb o e hx=>?_,I.base.tups,I.base.frzs,I.base.tbls⟩,⟨m,hn.sameBut hs (Ne.symm (cne x c hc)),λj y v' e1 e2 e3=>?_⟩,λy c' e=>?_,I.free,I.freeC,λp hp=>?_,tracked ⟨oc,hoc,I.freeC x c hc⟩ hs,by simpa using I.len⟩ ⟨c,hs,.inr hc⟩
  ·exact(hs.2 b (Yn (Yt (Yj e) (I.ok.cab x c hfn hc)))).trans (I.base.keep b o e n hb hx)
  ·obtain⟨sl,e1⟩:=I.base.slot b o e n hb hx
   exact⟨sl,(hs.2 b (Yn (Yt (Yj e) (I.ok.cab x c hfn hc)))).trans e1⟩
  ·obtain⟨o',e1⟩:=I.base.there b o e hx
   exact⟨o',(hs.2 b (Yn (Yt (Yj e) (I.ok.cab x c hfn hc)))).trans e1⟩
  ·by_cases hj:j=i
   ·subst hj
    rw[hi]at e1;cases e1
    rw[List.getElem?_set_self hiσ]at e2
    cases e2
    exact⟨u,r,.inr ⟨.inl hk,c,hc,hc'⟩⟩
   ·rw[List.getElem?_set_ne (Ne.symm hj)]at e2
    obtain⟨u',r',q⟩:=hl j y v' e1 e2 e3
    refine⟨u',r',?_⟩
    rcases q with q|⟨k,c',e,z'⟩
    ·exact .inl q
    ·refine .inr ⟨k,c',e,z'.sameBut hs ?_⟩
     rintro rfl
     exact hj (ZmJ hN e1 (I.ok.inj _ _ _ e hc▸hi))
  ·by_cases hcc:c'=c
   ·subst hcc;exact⟨_,hc'⟩
   ·obtain⟨w2,z2⟩:=I.cell y c' e
    exact⟨w2,z2.sameBut hs hcc⟩
  ·obtain⟨e,n,ne,nf,d⟩:=I.pin p hp
   refine⟨(hs.2 p.1 ?_).trans e,n,ne,nf,d⟩
   intro q
   rw[q,hoc]at e
   have q':oc=p.2:=Yz e
   exact d w' (by rw[<-q'];exact hocd)
theorem Zjt {M:Model}{A:Around}{E:Value->Shared->Prop}{i:Nat}{x:Str}{v:V}{u:Value}{Q:Unit->Shared->Prop} (I:Inv X pins σ H s) (hN:X.N.Nodup) (hi:X.N[i]?=some x) (hx:Loc X.env.scope x) (r:RelV v u)
  (h:∀s',Inv X pins (σ.set i (some v)) H s'->Q () s') (hf:X.fn x=true\/X.env.scope.names.lookup x=some .local:=by first|exact .inl rfl|exact .inr rfl|assumption):wpAny M A (storeName X.env x u) Q E s :=
 ZpO I hN hi hx r (λs' I' _=>h s' I') hf
theorem Inv.call' {s':Shared}{ch:List Addr} (I:Inv X pins σ H s) (ho:s'.os=s.os) (u:Un (frs X.stack) ch H H' s.heap s'.heap) (hok:HOk X.prog X.w H' s'.heap) (hg:AllBare s'.gens)
  (hch:∀b∈ch,(b∈X.ex\/X.s₀.heap.objs.size<=b)/\b≠X.env.locals/\(∀x c,X.env.cells.lookup x=some c->c≠b)/\∀p∈X.pn++pins,p.1≠b):Inv X pins σ H' s':=by
 obtain⟨h',g',d',t',o'⟩:=s'
 have e:o'=s.os:=ho
 subst e
 exact I.call (g':=g') (t':=t') (d':=d') u hok hg hch
end
noncomputable abbrev XK:=Value->Option Addr->Hp->Prop
noncomputable abbrev St:=List (Option V)
noncomputable abbrev VK:=V->Hp->Prop
noncomputable abbrev TE:=St->Hp->VK->Prop
noncomputable abbrev TT:=St->Hp->(Bool->Hp->Prop)->Prop
noncomputable abbrev TA:=St->Hp->(List V->Hp->Prop)->Prop
structure Ends where
 nx:St->Hp->Prop
 rt:VK
 bk:St->Hp->Prop:=λ_ _=>False
 ct:St->Hp->Prop:=λ_ _=>False
noncomputable abbrev TS:=Ends->St->Hp->Prop
noncomputable def EP (X:Cx) (pins:List (Addr×Obj)) (σ:St) (Q:VK) (u:Value) (s':Shared):Prop:=∃v H',Inv X pins σ H' s'/\RelV v u/\Q v H'
noncomputable def TP (X:Cx) (pins:List (Addr×Obj)) (σ:St) (Q:Bool->Hp->Prop) (b:Bool) (s':Shared):Prop:=∃H',Inv X pins σ H' s'/\Q b H'
noncomputable def AP (X:Cx) (pins:List (Addr×Obj)) (σ:St) (Q:List V->Hp->Prop) (us:List Value) (s':Shared):Prop:=∃vs H',Inv X pins σ H' s'/\Vals vs us/\Q vs H'
noncomputable def SP (X:Cx) (pins:List (Addr×Obj)) (D:Ends) (f:Flow) (s':Shared):Prop :=
 match f with
 |.next=>∃σ' H',Inv X pins σ' H' s'/\D.nx σ' H'
 |.brk=>∃σ' H',Inv X pins σ' H' s'/\D.bk σ' H'
 |.cont=>∃σ' H',Inv X pins σ' H' s'/\D.ct σ' H'
 |.ret u=>∃v σ' H',Inv X pins σ' H' s'/\RelV v u/\D.rt v H'
noncomputable def PE (X:Cx) (e:Expr) (t:TE):Prop :=
 ∀(pins:List (Addr×Obj)) (s:Shared) (σ:St) (H:Hp) (Q:VK),Inv X pins σ H s->t σ H Q->wpAny (model X.prog X.w) X.A (eval e X.env) (EP X pins σ Q) X.xe s
noncomputable def PT (X:Cx) (e:Expr) (t:TT):Prop :=
 ∀(pins:List (Addr×Obj)) (s:Shared) (σ:St) (H:Hp) (Q:Bool->Hp->Prop),Inv X pins σ H s->t σ H Q->wpAny (model X.prog X.w) X.A (isTrue e X.env (eval e X.env)) (TP X pins σ Q) X.xe s
noncomputable def PW (X:Cx) (e:Expr) (t:TT):Prop :=
 ∀(whole:Sem Value) (pins:List (Addr×Obj)) (s:Shared) (σ:St) (H:Hp) (Q:Bool->Hp->Prop),Inv X pins σ H s->t σ H Q->wpAny (model X.prog X.w) X.A (isTrue e X.env whole) (TP X pins σ Q) X.xe s
theorem PW.pt {X:Cx}{e:Expr}{t:TT} (h:PW X e t):PT X e t:=h _
noncomputable def PA (X:Cx) (es:List Expr) (t:TA):Prop :=
 ∀(pos:Pos) (pins:List (Addr×Obj)) (s:Shared) (σ:St) (H:Hp) (Q:List V->Hp->Prop),Inv X pins σ H s->t σ H Q->wpAny (model X.prog X.w) X.A (spliced (backTo pos (starEach es X.env))) (AP X pins σ Q) X.xe s
noncomputable def PS (X:Cx) (st:Stmt) (t:TS):Prop :=
 ∀(pins:List (Addr×Obj)) (s:Shared) (σ:St) (H:Hp) (D:Ends),Inv X pins σ H s->t D σ H->wpAny (model X.prog X.w) X.A (exec st X.env) (SP X pins D) X.xe s
noncomputable def PSs (X:Cx) (st:List Stmt) (t:TS):Prop :=
 ∀(pins:List (Addr×Obj)) (s:Shared) (σ:St) (H:Hp) (D:Ends),Inv X pins σ H s->t D σ H->wpAny (model X.prog X.w) X.A (execs st X.env) (SP X pins D) X.xe s
theorem thn {α:Type}{t:Sem α}{Q Q':α->Shared->Prop}{M:Model}{A:Around}{E:Value->Shared->Prop}{s:Shared} (h:wpAny M A t Q E s) (hQ:∀a s,Q a s->Q' a s):wpAny M A t Q' E s:=YK h hQ λ_ _ x=>x
section
variable {X:Cx}
noncomputable def ZpP (i:Nat):TE:=fun σ H Q=>∃v,σ[i]?=some (some v)/\Q v H
noncomputable def tC (v:V):TE:=λ_ H Q=>Q v H
theorem pe_var {i:Nat}{x:Str}{pos:Pos} (hN:X.N[i]?=some x) (hv:Vis X.env.scope x) (hd:(x==("__debug__":Str))=false:=by decide) (hcd:(x==("__classdict__":Str))=false:=by decide):PE X (.Name x pos) (ZpP i):=by
 intro pins s σ H Q I h
 obtain⟨v,e,h⟩:=h
 obtain⟨m,hn,hl⟩:=I.loc
 obtain⟨u,r,l⟩:=hl i x v hN e hv
 have fin:EP X pins σ Q u s:=⟨v,H,I,r,h⟩
 rcases l with⟨hk,hm⟩|⟨hk,c,hc,hcell⟩
 ·exact wpAny_Name (wpAny_loadName_local I.ok.kind hk hn hm fin) hd
 ·rcases hk with hk|hk
  ·exact wpAny_Name (wpAny_loadName_cell I.ok.kind hk hc hcell fin) hd
  ·exact wpAny_Name (wpAny_loadName_free I.ok.kind hk hc hcell fin hcd) hd
theorem Ze {i j pos}:PE X (.Constant (.int i) j pos) (tC (.int i)):=λ_ _ _ H _ I h=>wpAny_Constant_int ⟨.int i,H,I.tok _,⟨_,rfl⟩,h⟩
theorem Zfb {b j pos}:PE X (.Constant (.bool b) j pos) (tC (.bl b)):=λ_ _ _ H _ I h=>Constant_bool ⟨.bl b,H,I,rfl,h⟩
theorem ZgA {j pos}:PE X (.Constant .none j pos) (tC .non):=λ_ _ _ H _ I h=>Constant_none ⟨.non,H,I,rfl,h⟩
theorem ZhT {x j pos}:PE X (.Constant (.str x) j pos) (tC (.str x)):=λ_ _ _ H _ I h=>Calls.Constant_str ⟨.str x,H,I.tok _,⟨_,rfl⟩,h⟩
noncomputable def Gl (X:Cx) (x:Str):Prop:=X.env.kindOf x=some .globalImplicit
theorem Zjb {E:Value->Shared->Prop}{pins:List (Addr×Obj)}{s:Shared}{σ:St}{H:Hp}{x:Str}{u:Value}{pos:Pos}{Q:Value->Shared->Prop} (I:Inv X pins σ H s) (hg:Gl X x) (hm:X.mg x=some u) (h:Q u s)
  (hd:(x==("__debug__":Str))=false:=by decide):wpAny (model X.prog X.w) X.A (eval (.Name x pos) X.env) Q E s :=
 Calls.Name_function_global I.ok.kind hg (Calls.loadGlobal_global (by rw[I.ok.glob];exact I.mod.glob.keeps I.bk) hm h) hd
theorem Zbp {E:Value->Shared->Prop}{pins:List (Addr×Obj)}{s:Shared}{σ:St}{H:Hp}{x:Str}{u:Value}{pos:Pos}{Q:Value->Shared->Prop} (I:Inv X pins σ H s) (hg:Gl X x) (hm:X.mg x=none) (hv:bootBuiltins x=some u) (h:Q u s)
  (hn:x≠"__name__":=by decide) (hd:(x==("__debug__":Str))=false:=by decide):wpAny (model X.prog X.w) X.A (eval (.Name x pos) X.env) Q E s:=by
 obtain⟨mb,h1,h2⟩:=I.mod.blt
 exact Calls.Name_function_global I.ok.kind hg (Calls.loadGlobal_builtin (by rw[I.ok.glob];exact I.mod.glob.keeps I.bk) hm (by rw[I.ok.blt];exact h1.keeps I.bk) ((h2 x hn).trans hv) h) hd
theorem Zhd {x:Str}{v:V}{u:Value}{pos:Pos} (hg:Gl X x) (hm:X.mg x=some u) (r:RelV v u) (hd:(x==("__debug__":Str))=false:=by decide):PE X (.Name x pos) (tC v) :=
 λ_ _ _ H _ I h=>Zjb I hg hm ⟨v,H,I,r,h⟩ hd
theorem Zo9 {x:Str}{v:V}{u:Value}{pos:Pos} (hg:Gl X x) (hm:X.mg x=none) (hv:bootBuiltins x=some u) (r:RelV v u) (hn:x≠"__name__":=by decide) (hd:(x==("__debug__":Str))=false:=by decide):PE X (.Name x pos) (tC v) :=
 λ_ _ _ H _ I h=>Zbp I hg hm hv ⟨v,H,I,r,h⟩ hn hd
variable {a b:Expr}{ta tb:TE}{pos:Pos}
noncomputable def PC (X:Cx) (op:CmpOp) (a b:Expr) (t:TE):Prop :=
 ∀(pins:List (Addr×Obj)) (s:Shared) (σ:St) (H:Hp) (Q:VK),Inv X pins σ H s->t σ H Q ->
  wpAny (model X.prog X.w) X.A (eval a X.env) (λv s₁=>wpAny (model X.prog X.w) X.A (eval b X.env) (λu s₂=>wpAny (model X.prog X.w) X.A (compareOp op v u) (EP X pins σ Q) X.xe s₂) X.xe s₁) X.xe s
theorem ZrI (b:Expr) {op:CmpOp} (h:op≠.In) (h2:op≠.NotIn):behindInMarks op b=false:=by
 have e1:(op==CmpOp.In)=false:=by cases op<;>first|rfl|exact absurd rfl h
 have e2:(op==CmpOp.NotIn)=false:=by cases op<;>first|rfl|exact absurd rfl h2
 cases b<;>simp[behindInMarks,e1,e2]
noncomputable def tB (t:TE):TT:=fun σ H Q=>t σ H λx H1=>∃c,x=.bl c/\Q c H1
theorem pt_cmp {op:CmpOp}{t:TE} (h:PC X op a b t) (h1:behindInMarks op b=false:=by first|exact ZrI _ (by decide) (by decide)|rfl):PT X (.Compare a [op] [b] pos) (tB t):=by
 intro pins s σ H Q I hw
 refine wpAny_isTrue_Compare1 (thn (h pins s σ H _ I hw) λv s1 h1=>thn h1 λu s2 h2=>thn h2 λc s3 ⟨x,H1,I1,r1,q1⟩=>?_) h1
 obtain⟨d,rfl,q⟩:=q1
 cases r1
 exact wpAny_truthy_bool ⟨H1,I1,q⟩
theorem ZgB {e:Expr}{t:TE} (h:PE X e t) (he:∀whole,isTrue e X.env whole=(do let v <-whole;standAt e.pos;holding [v] (truthy v)):=by intro _;rfl):PT X e (tB t):=by
 intro pins s σ H Q I hw
 refine isTrue_plain (thn (h pins s σ H _ I hw) λv s1 ⟨x,H1,I1,r1,q1⟩=>?_) (he _)
 obtain⟨d,rfl,q⟩:=q1
 cases r1
 exact wpAny_truthy_bool ⟨H1,I1,q⟩
variable {tA tB':TT}{rest:List Expr}
noncomputable def tAnd (t u:TT):TT:=fun σ H Q=>t σ H λc H1=>if c=true then u σ H1 Q else Q false H1
noncomputable def tOr (t u:TT):TT:=fun σ H Q=>t σ H λc H1=>if c=true then Q true H1 else u σ H1 Q
noncomputable def tNot (t:TT):TT:=fun σ H Q=>t σ H λc H1=>Q (!c) H1
theorem Zf8 (ha:PT X a tA):PW X (.BoolOp .And [a] pos) tA:=by
 intro wh pins s σ H Q I h
 refine isTrue_and (thn (ha pins s σ H Q I h) λc s1 e=>?_)
 cases c with
 |true=>exact isTrue_and_nil e
 |false=>exact e
theorem ZlP (ha:PT X a tA):PW X (.BoolOp .Or [a] pos) tA:=by
 intro wh pins s σ H Q I h
 refine isTrue_or (thn (ha pins s σ H Q I h) λc s1 e=>?_)
 cases c with
 |false=>exact isTrue_or_nil e
 |true=>exact e
theorem ZhU (ha:PT X a tA) (hb:PW X (.BoolOp .And (b::rest) pos) tB'):PW X (.BoolOp .And (a::b::rest) pos) (tAnd tA tB'):=by
 intro wh pins s σ H Q I h
 refine isTrue_and (thn (ha pins s σ H _ I h) λc s1 ⟨H1,I1,q1⟩=>?_)
 cases c with
 |true=>exact hb wh pins s1 σ H1 Q I1 q1
 |false=>exact⟨H1,I1,q1⟩
theorem Zpa (ha:PT X a tA) (hb:PW X (.BoolOp .Or (b::rest) pos) tB'):PW X (.BoolOp .Or (a::b::rest) pos) (tOr tA tB'):=by
 intro wh pins s σ H Q I h
 refine isTrue_or (thn (ha pins s σ H _ I h) λc s1 ⟨H1,I1,q1⟩=>?_)
 cases c with
 |true=>exact⟨H1,I1,q1⟩
 |false=>exact hb wh pins s1 σ H1 Q I1 q1
theorem Zfc (ha:PT X a tA):PT X (.UnaryOp .Not a pos) (tNot tA):=by
 intro pins s σ H Q I h
 exact isTrue_not (ha pins s σ H (λc H1=>Q (!c) H1) I h)
noncomputable def tAndV (ta tb:TE):TE:=fun σ H Q=>ta σ H λx H1=>∃c,x=.bl c/\if c=true then tb σ H1 Q else Q (.bl false) H1
noncomputable def tOrV (ta tb:TE):TE:=fun σ H Q=>ta σ H λx H1=>∃c,x=.bl c/\if c=true then Q (.bl true) H1 else tb σ H1 Q
theorem ZgC {op}{t:TE} (h:PE X a t):PE X (.BoolOp op [a] pos) t:=λpins s σ H Q I hw=>BoolOp_one (h pins s σ H Q I hw)
theorem ZgD (ha:PE X a ta) (hb:PE X (.BoolOp .And (b::rest) pos) tb):PE X (.BoolOp .And (a::b::rest) pos) (tAndV ta tb):=by
 intro pins s σ H Q I h
 refine BoolOp_and (thn (ha pins s σ H _ I h) λv s1 ⟨x,H1,I1,r1,q1⟩=>?_)
 obtain⟨c,rfl,q1⟩:=q1
 cases r1
 refine wpAny_truthy_bool ?_
 cases c with
 |true=>exact hb pins s1 σ H1 Q I1 q1
 |false=>exact⟨.bl false,H1,I1,rfl,q1⟩
theorem pe_or (ha:PE X a ta) (hb:PE X (.BoolOp .Or (b::rest) pos) tb):PE X (.BoolOp .Or (a::b::rest) pos) (tOrV ta tb):=by
 intro pins s σ H Q I h
 refine BoolOp_or (thn (ha pins s σ H _ I h) λv s1 ⟨x,H1,I1,r1,q1⟩=>?_)
 obtain⟨c,rfl,q1⟩:=q1
 cases r1
 refine wpAny_truthy_bool ?_
 cases c with
 |false=>exact hb pins s1 σ H1 Q I1 q1
 |true=>exact⟨.bl true,H1,I1,rfl,q1⟩
noncomputable def tIf (t:TT) (ta tb:TE):TE:=fun σ H Q=>t σ H λc H1=>if c=true then ta σ H1 Q else tb σ H1 Q
theorem Zhe {c:Expr} (hc:PT X c tA) (ha:PE X a ta) (hb:PE X b tb):PE X (.IfExp c a b pos) (tIf tA ta tb):=by
 intro pins s σ H Q I h
 refine wpAny_IfExp (thn (hc pins s σ H _ I h) λd s1 ⟨H1,I1,q1⟩=>?_)
 cases d with
 |true=>exact ha pins s1 σ H1 Q I1 q1
 |false=>exact hb pins s1 σ H1 Q I1 q1
end
noncomputable def SqL (K:PySem.W.Frag) (H:Hp) (a:Addr) (xs:List V):Prop :=
 Rd H a (.lst xs) \/
  ∃(o:Obj) (its:Array Value) (n:Nat),K.lookup a=some o/\o.cls=.type "list"/\o.dict=none/\o.data=.seq its n/\its.size<=sizeLine/\Vals xs its.toList
noncomputable def SqT (K:PySem.W.Frag) (H:Hp) (a:Addr) (xs:List V):Prop :=
 Rd H a (.tup xs) \/
  ∃(o:Obj) (its:Array Value) (n:Nat),K.lookup a=some o/\o.cls=.type "tuple"/\o.data=.seq its n/\its.size<=sizeLine/\Vals xs its.toList
noncomputable def absV:Value->Option V
 |.none=>some .non
 |.bool b=>some (.bl b)
 |.int i _=>some (.int i)
 |.str x _=>some (.str x)
 |.bytes b _=>some (.byt b)
 |.float b _=>some (.flt b)
 |.ref a=>some (.ref a)
 |.type n=>some (.ty n)
 |_=>none
theorem RelV.abs {x:V}{u:Value} (r:RelV x u):absV u=some x:=by
 cases x with
 |non=>cases r;rfl
 |bl _=>cases r;rfl
 |int _=>obtain⟨t,rfl⟩:=r;rfl
 |str _=>obtain⟨t,rfl⟩:=r;rfl
 |byt _=>obtain⟨t,rfl⟩:=r;rfl
 |flt _=>obtain⟨t,rfl⟩:=r;rfl
 |ref _=>cases r;rfl
 |ty _=>cases r;rfl
theorem RelV.inj {x y:V}{u:Value} (r:RelV x u) (q:RelV y u):x=y:=Yz (r.abs.symm.trans q.abs)
theorem Vals.inj:∀{xs ys:List V}{us:List Value},Vals xs us->Vals ys us->xs=ys
 |_,_,_,.nil,.nil=>rfl
 |_,_,_,.cons r t,.cons r' t'=>by rw[r.inj r',Vals.inj t t']
section
variable {X:Cx}{pins:List (Addr×Obj)}{σ:St}{H:Hp}{s:Shared}{a:Addr}{xs ys:List V}
theorem SqL.of {K:PySem.W.Frag} (h:H a=some (.lst xs)):SqL K H a xs:=.inl (.inl h)
theorem SqT.of {K:PySem.W.Frag} (h:H a=some (.tup xs)):SqT K H a xs:=.inl (.inl h)
theorem Inv.list (I:Inv X pins σ H s) (h:SqL X.K H a xs):∃its:List Value,Vals xs its/\PlainL s.heap a its.toArray/\xs.length<=sizeLine:=by
 rcases h with h|⟨o,its,n,hk,hc,hd,hs,hz,r⟩
 ·obtain⟨z,its,n,r,e⟩:=h.ok I.hok
  exact⟨its,r,⟨_,n,e,rfl,rfl,rfl⟩,z⟩
 ·refine⟨its.toList,r,⟨o,n,I.kIn a o hk,hc,hd,by simpa using hs⟩,?_⟩
  have e:=r.length
  simp only[YO]at e
  omega
theorem Inv.tuple (I:Inv X pins σ H s) (h:SqT X.K H a xs):∃its:List Value,Vals xs its/\IsTup s.heap a its.toArray/\xs.length<=sizeLine:=by
 rcases h with h|⟨o,its,n,hk,hc,hs,hz,r⟩
 ·obtain⟨z,its,r,p⟩:=h.ok I.hok
  exact⟨its,r,p,z⟩
 ·refine⟨its.toList,r,⟨o,I.kIn a o hk,hc,n,by simpa using hs⟩,?_⟩
  have e:=r.length
  simp only[YO]at e
  omega
theorem Inv.Zd7 (I:Inv X pins σ H s) (h:SqL X.K H a xs) (h':SqL X.K H a ys):xs=ys:=by
 obtain⟨its,r,⟨o,n,e,_,_,d⟩,_⟩:=I.list h
 obtain⟨its',r',⟨o',n',e',_,_,d'⟩,_⟩:=I.list h'
 rw[e]at e';cases e'
 rw[d]at d'
 injection d' with d1 _
 have:its=its':=by simpa using congrArg Array.toList d1
 subst this
 exact r.inj r'
theorem Inv.Zf9 (I:Inv X pins σ H s) (h:SqT X.K H a xs) (h':SqT X.K H a ys):xs=ys:=by
 obtain⟨its,r,⟨o,e,_,n,d⟩,_⟩:=I.tuple h
 obtain⟨its',r',⟨o',e',_,n',d'⟩,_⟩:=I.tuple h'
 rw[e]at e';cases e'
 rw[d]at d'
 injection d' with d1 _
 have:its=its':=by simpa using congrArg Array.toList d1
 subst this
 exact r.inj r'
end
noncomputable abbrev Cx.ZkP (X:Cx) (E:Value->Shared->Prop):Cx:={X with xe:=E}
noncomputable abbrev Cx.nox (X:Cx):Cx:=X.ZkP λ_ _=>False
theorem Cx.Ok.ZkP {X:Cx} (ok:X.Ok) (E:Value->Shared->Prop):(X.ZkP E).Ok :=
 ⟨ok.mod,ok.kind,ok.glob,ok.blt,ok.above,ok.inj,ok.has,ok.cab,ok.hd,ok.frames,ok.stk,ok.exf,ok.bs,ok.bsz,ok.noex,ok.exfs,ok.funs,ok.frf⟩
theorem Cx.Ok.Zfd {X:Cx}{E:Value->Shared->Prop} (ok:(X.ZkP E).Ok):X.Ok :=
 ⟨ok.mod,ok.kind,ok.glob,ok.blt,ok.above,ok.inj,ok.has,ok.cab,ok.hd,ok.frames,ok.stk,ok.exf,ok.bs,ok.bsz,ok.noex,ok.exfs,ok.funs,ok.frf⟩
section
variable {X:Cx}{pins:List (Addr×Obj)}{σ:St}{H:Hp}{s:Shared}{E:Value->Shared->Prop}
theorem Inv.ZkP (I:Inv X pins σ H s) (E:Value->Shared->Prop):Inv (X.ZkP E) pins σ H s:=⟨I.ok.ZkP E,I.os,I.bare,I.base,I.loc,I.cell,I.free,I.freeC,I.pin,I.hok,I.len⟩
theorem Inv.Zfd (I:Inv (X.ZkP E) pins σ H s):Inv X pins σ H s:=⟨I.ok.Zfd,I.os,I.bare,I.base,I.loc,I.cell,I.free,I.freeC,I.pin,I.hok,I.len⟩
theorem SP.Zfd {D:Ends}{f:Flow}{s':Shared} (h:SP (X.ZkP E) pins D f s'):SP X pins D f s':=by
 cases f with
 |next=>obtain⟨σ',H',I,q⟩:=h;exact⟨σ',H',I.Zfd,q⟩
 |brk=>obtain⟨σ',H',I,q⟩:=h;exact⟨σ',H',I.Zfd,q⟩
 |cont=>obtain⟨σ',H',I,q⟩:=h;exact⟨σ',H',I.Zfd,q⟩
 |ret u=>obtain⟨v,σ',H',I,r,q⟩:=h;exact⟨v,σ',H',I.Zfd,r,q⟩
end
section
variable {X:Cx}{st:Stmt}{rest:List Stmt}{t u:TS}{e:Expr}{te:TE}{pos:Pos}
noncomputable def tNext:TS:=λD σ H=>D.nx σ H
noncomputable def tSeq (t u:TS):TS:=λD σ H=>t {D with nx:=u D} σ H
theorem Zz:PSs X [] tNext:=λ_ _ σ H _ I h=>wpAny_execs_nil ⟨σ,H,I,h⟩
theorem Zd (h1:PS X st t) (h2:PSs X rest u):PSs X (st::rest) (tSeq t u):=by
 intro pins s σ H D I h
 refine wpAny_execs_cons (thn (h1 pins s σ H {D with nx:=u D} I h) λf s1 q=>?_)
 cases f with
 |next =>
  obtain⟨σ',H',I',q⟩:=q
  exact h2 pins s1 σ' H' D I' q
 |ret v=>exact q
 |brk=>exact q
 |cont=>exact q
theorem Zg (h1:PS X st t):PSs X [st] t:=by
 intro pins s σ H D I h
 refine wpAny_execs_cons (thn (h1 pins s σ H D I h) λf s1 q=>?_)
 cases f with
 |next=>exact wpAny_execs_nil q
 |ret v=>exact q
 |brk=>exact q
 |cont=>exact q
theorem Inv.quiet {pins:List (Addr×Obj)}{σ:St}{H:Hp}{s:Shared} (I:Inv X pins σ H s):interactive X.env=false:=by simp[interactive,I.ok.kind]
noncomputable def tDrop (te:TE):TS:=λD σ H=>te σ H λ_ H1=>D.nx σ H1
theorem Za6 (he:PE X e te) (hs:swapsWith e none pos.line X.env=pure false:=by rfl):PS X (.Expr e pos) (tDrop te):=by
 intro pins s σ H D I h
 exact wpAny_Expr_any (thn (he pins s σ H _ I h) λv s1 ⟨x,H1,I1,r1,q1⟩=>⟨σ,H1,I1,q1⟩) I.quiet hs
noncomputable def tRet (te:TE):TS:=λD σ H=>te σ H D.rt
theorem Zt (he:PE X e te):PS X (.Return (some e) pos) (tRet te):=by
 intro pins s σ H D I h
 exact wpAny_Return_some (thn (he pins s σ H _ I h) λv s1 ⟨x,H1,I1,r1,q1⟩=>⟨x,σ,H1,I1,r1,q1⟩)
noncomputable def tIfS (c:TT) (t u:TS):TS:=λD σ H=>c σ H λb H1=>if b=true then t D σ H1 else u D σ H1
theorem Z8 {c:Expr}{a b:List Stmt}{tc:TT} (hc:PT X c tc) (ha:PSs X a t) (hb:PSs X b u):PS X (.If c a b pos) (tIfS tc t u):=by
 intro pins s σ H D I h
 refine wpAny_If (thn (hc pins s σ H _ I h) λd s1 ⟨H1,I1,q1⟩=>?_)
 cases d with
 |true=>exact ha pins s1 σ H1 D I1 q1
 |false=>exact hb pins s1 σ H1 D I1 q1
end
noncomputable abbrev TG:=V->St->Hp->(St->Hp->Prop)->Prop
noncomputable abbrev TGs:=List V->St->Hp->(St->Hp->Prop)->Prop
noncomputable def PG (X:Cx) (target:Expr) (t:TG):Prop :=
 ∀(pins:List (Addr×Obj)) (s:Shared) (σ:St) (H:Hp) (v:V) (u:Value) (Q:St->Hp->Prop),Inv X pins σ H s->RelV v u->t v σ H Q ->
  wpAny (model X.prog X.w) X.A (assign target X.env u) (λ_ s'=>∃σ' H',Inv X pins σ' H' s'/\Q σ' H') X.xe s
noncomputable def PGs (X:Cx) (ts:List Expr) (t:TGs):Prop :=
 ∀(pins:List (Addr×Obj)) (s:Shared) (σ:St) (H:Hp) (vs:List V) (us:List Value) (Q:St->Hp->Prop),Inv X pins σ H s->Vals vs us->t vs σ H Q ->
  wpAny (model X.prog X.w) X.A (assignInOrder ((assignEach ts X.env).map (·.2)) us) (λ_ s'=>∃σ' H',Inv X pins σ' H' s'/\Q σ' H') X.xe s
noncomputable abbrev TSet:=V->V->V->Hp->(Hp->Prop)->Prop
noncomputable def PSet (X:Cx) (t:TSet):Prop :=
 ∀(pins:List (Addr×Obj)) (s:Shared) (σ:St) (H:Hp) (o i v:V) (ov iv u:Value) (Q:Hp->Prop),Inv X pins σ H s->RelV o ov->RelV i iv->RelV v u->t o i v H Q ->
  wpAny (model X.prog X.w) X.A (setItem ov iv u) (λ_ s'=>∃H',Inv X pins σ H' s'/\Q H') X.xe s
noncomputable abbrev TIp:=V->V->Hp->VK->Prop
noncomputable def PIp (X:Cx) (op:Operator) (t:TIp):Prop :=
 ∀(pins:List (Addr×Obj)) (s:Shared) (σ:St) (H:Hp) (x y:V) (v u:Value) (Q:VK),Inv X pins σ H s->RelV x v->RelV y u->t x y H Q ->
  wpAny (model X.prog X.w) X.A (inplaceOp op v u) (EP X pins σ Q) X.xe s
section
variable {X:Cx}{pos:Pos}
noncomputable def Zju (i:Nat):TG:=λv σ H Q=>Q (σ.set i (some v)) H
theorem Zk {i:Nat}{x:Str} (hN:X.N.Nodup) (hi:X.N[i]?=some x) (hx:Loc X.env.scope x) (hf:X.fn x=true\/X.env.scope.names.lookup x=some .local:=by first|exact .inl rfl|exact .inr rfl|assumption):PG X (.Name x pos) (Zju i):=by
 intro pins s σ H v u Q I r h
 exact wpAny_assign_Name (Zjt I hN hi hx r (λs' I'=>⟨_,H,I',h⟩) hf)
noncomputable def gNil:TGs:=λvs σ H Q=>vs=[]/\Q σ H
noncomputable def ZrJ (t:TG) (u:TGs):TGs:=λvs σ H Q=>∃v r,vs=v::r/\t v σ H fun σ' H'=>u r σ' H' Q
theorem ZbL:PGs X [] gNil:=by
 intro pins s σ H vs us Q I r h
 obtain⟨e,h⟩:=h
 subst e
 cases r
 exact assignInOrder_nil ⟨σ,H,I,h⟩
theorem ZI {e:Expr}{es:List Expr}{t:TG}{u:TGs} (h1:PG X e t) (h2:PGs X es u)
  (hs:(assignEach (e::es) X.env).map (·.2)=assign e X.env::(assignEach es X.env).map (·.2):=by rfl):PGs X (e::es) (ZrJ t u):=by
 intro pins s σ H vs us Q I r h
 obtain⟨v,vr,e1,h⟩:=h
 subst e1
 cases r with
 |cons r rr =>
  rw[hs]
  refine assignInOrder_cons (thn (h1 pins s σ H _ _ _ I r h) λ_ s1 ⟨σ1,H1,I1,q1⟩=>?_)
  exact h2 pins s1 σ1 H1 _ _ Q I1 rr q1
noncomputable def gTup (K:PySem.W.Frag) (n:Nat) (t:TGs):TG:=λv σ H Q=>∃a xs,v=.ref a/\SqT K H a xs/\xs.length=n/\t xs σ H Q
theorem ZgE {es:List Expr}{k:Nat}{t:TGs}{n:Nat} (hc:X.calm=true) (h:PGs X es t)
  (hn:(assignEach es X.env).length=n:=by rfl) (hst:(assignEach es X.env).findIdx? (·.1)=none:=by rfl):PG X (.Tuple es k pos) (gTup X.K n t):=by
 intro pins s σ H v u Q I r hw
 obtain⟨a,xs,e1,hq,hl,hw⟩:=hw
 subst e1
 cases r
 obtain⟨its,rv,ht,hz⟩:=I.tuple hq
 refine assign_Tuple_tuple (I.ok.hd hc) ht (by simp[hn,<-hl,rv.length]) hst λh' hx=>?_
 have I1:Inv X pins σ H {s with heap:=h'}:=I.kept (t':=s.toks) λb o e=>hx b o (Yn (Yj e)) e
 exact h pins _ σ H xs _ Q I1 (by simpa using rv) hw
noncomputable def gSub (to ti:TE) (t:TSet):TG:=λv σ H Q=>to σ H λo H1=>ti σ H1 λi H2=>t o i v H2 λH3=>Q σ H3
theorem Zfe {o i:Expr}{to ti:TE}{t:TSet} (ho:PE X o to) (hi:PE X i ti) (hs:PSet X t)
  (ha:∀v,assign (.Subscript o i pos) X.env v=(do
   let ov <-holding [v] (eval o X.env)
   let iv <-holding [v,ov] (eval i X.env)
   standAt pos
   holding [v,ov,iv] (setItem ov iv v)
   release [v,ov,iv] []):=by intro _;rfl):PG X (.Subscript o i pos) (gSub to ti t):=by
 intro pins s σ H v u Q I r h
 rw[ha]
 refine Ya (wpAny_holding (thn (ho pins s σ H _ I h) λov s1 ⟨x,H1,I1,r1,q1⟩=>?_))
 refine Ya (wpAny_holding (thn (hi pins s1 σ H1 _ I1 q1) λiv s2 ⟨y,H2,I2,r2,q2⟩=>?_))
 refine Ya (wpAny_standAt (Ya (wpAny_holding (thn (hs pins s2 σ H2 x y v ov iv u _ I2 r1 r2 r q2) λ_ s3 ⟨H3,I3,q3⟩=>?_))))
 exact wpAny_release ⟨σ,H3,I3,q3⟩
noncomputable def tAsg (te:TE) (g:TG):TS:=λD σ H=>te σ H λx H1=>g x σ H1 D.nx
theorem ZdH {tg e:Expr}{te:TE}{g:TG} (he:PE X e te) (hg:PG X tg g) (hs:swapsWithSole [tg] e pos.line X.env=pure false:=by rfl) (hw:swappedStores [tg] e X.env=pure none:=by rfl)
  (h1:(assignEach [tg] X.env).map (·.2)=[assign tg X.env]:=by rfl):PS X (.Assign [tg] e pos) (tAsg te g):=by
 intro pins s σ H D I h
 refine wpAny_Assign_stores (thn (he pins s σ H _ I h) λv s1 ⟨x,H1,I1,r1,q1⟩=>?_) hs hw
 rw[h1]
 exact thn (hg pins s1 σ H1 x v _ I1 r1 q1) λ_ s2 q=>q
theorem Zn {i:Nat}{x:Str}{e:Expr}{te:TE}{pos':Pos} (hN:X.N.Nodup) (hi:X.N[i]?=some x) (hx:Loc X.env.scope x) (he:PE X e te) (hs:swapsWith e (some (.Name x pos')) pos.line X.env=pure false:=by rfl) (hf:X.fn x=true\/X.env.scope.names.lookup x=some .local:=by first|exact .inl rfl|exact .inr rfl|assumption) :
  PS X (.Assign [.Name x pos'] e pos) (tAsg te (Zju i)):=by
 intro pins s σ H D I h
 refine wpAny_Assign_Name (thn (he pins s σ H _ I h) λv s1 ⟨y,H1,I1,r1,q1⟩=>?_) hs
 exact Zjt I1 hN hi hx r1 (λs2 I2=>⟨_,H1,I2,q1⟩) hf
noncomputable def tAug (i:Nat) (te:TE) (ti:TIp):TS:=λD σ H=>∃x,σ[i]?=some (some x)/\te σ H λy H1=>ti x y H1 λz H2=>D.nx (σ.set i (some z)) H2
theorem ZlQ {i:Nat}{x:Str}{e:Expr}{te:TE}{op:Operator}{ti:TIp}{pos':Pos} (hN:X.N.Nodup) (hi:X.N[i]?=some x) (hx:Loc X.env.scope x) (he:PE X e te) (ho:PIp X op ti) (hf:X.fn x=true\/X.env.scope.names.lookup x=some .local:=by first|exact .inl rfl|exact .inr rfl|assumption) :
  PS X (.AugAssign (.Name x pos') op e pos) (tAug i te ti):=by
 intro pins s σ H D I h
 obtain⟨v,e1,h⟩:=h
 obtain⟨m,hn,hl⟩:=I.loc
 have vis:Vis X.env.scope x:=by rcases hx with k|k;exact .inl k;exact .inr (.inl k)
 obtain⟨u,r,l⟩:=hl i x v hi e1 vis
 refine wpAny_AugAssign_Name ?_
 have go:wpAny (model X.prog X.w) X.A (eval e X.env) (λw s₂=>wpAny (model X.prog X.w) X.A (inplaceOp op u w) (λr s₃=>wpAny (model X.prog X.w) X.A (storeName X.env x r) (λ_=>SP X pins D .next) X.xe s₃) X.xe s₂) X.xe s:=by
  refine thn (he pins s σ H _ I h) λw s1 ⟨y,H1,I1,r1,q1⟩=>?_
  refine thn (ho pins s1 σ H1 v y u w _ I1 r r1 q1) λz s2 ⟨zv,H2,I2,r2,q2⟩=>?_
  exact Zjt I2 hN hi hx r2 (λs3 I3=>⟨_,H2,I3,q2⟩) hf
 rcases l with⟨hk,hm⟩|⟨hk,c,hc,hcell⟩
 ·exact wpAny_loadName_local I.ok.kind hk hn hm go
 ·rcases hk with hk|hk
  ·exact wpAny_loadName_cell I.ok.kind hk hc hcell go
  ·rcases hx with k|k
   ·have:X.env.scope.names.lookup x=some .free:=hk
    rw[k]at this;cases this
   ·have:X.env.scope.names.lookup x=some .free:=hk
    rw[k]at this;cases this
noncomputable def ipI (f:Int->Int->Int):TIp:=λx y H Q=>∃i j,x=.int i/\y=.int j/\Q (.int (f i j)) H
theorem ZrK:PIp X .Add (ipI λi j=>i+j):=by
 intro pins s σ H x y v u Q I r1 r2 h
 obtain⟨i,j,e1,e2,q⟩:=h
 subst e1;subst e2
 obtain⟨t,rfl⟩:=r1
 obtain⟨t',rfl⟩:=r2
 exact iadd_int ⟨.int _,H,I.tok _,⟨_,rfl⟩,q⟩
theorem ZrL:PIp X .Sub (ipI λi j=>i-j):=by
 intro pins s σ H x y v u Q I r1 r2 h
 obtain⟨i,j,e1,e2,q⟩:=h
 subst e1;subst e2
 obtain⟨t,rfl⟩:=r1
 obtain⟨t',rfl⟩:=r2
 exact isub_int ⟨.int _,H,I.tok _,⟨_,rfl⟩,q⟩
end
section
variable {X:Cx}{pos:Pos}
noncomputable def Zn9 (c:TT) (tb:TS):TS:=λD σ H=>∃W:Nat->St->Hp->Prop,(∃m,W m σ H)/\∀m σ H,W m σ H ->
 c σ H λb H1=>if b=true then ∃N:St->Hp->Prop,(∀σ' H',N σ' H'->∃m',m'<m/\W m' σ' H')/\tb {D with nx:=N,ct:=N,bk:=D.nx} σ H1 else D.nx σ H1
theorem Zjv {c:Expr}{body:List Stmt}{tc:TT}{tb:TS} (hp:PassesOwn (model X.prog X.w) X.A X.env X.xe) (hc:PT X c tc) (hb:PSs X body tb):PS X (.While c body [] pos) (Zn9 tc tb):=by
 intro pins s σ H D I h
 obtain⟨W,⟨m0,w0⟩,turn⟩:=h
 refine wpAny_While (codeAny_whileLoop (λn s'=>∃σ' H',Inv X pins σ' H' s'/\W n σ' H') ?_ m0 ⟨σ,H,I,w0⟩)
 rintro n s1 ⟨σ1,H1,I1,w1⟩
 refine wpAny_passesOwn hp (thn (hc pins s1 σ1 H1 _ I1 (turn n σ1 H1 w1)) λb s2 ⟨H2,I2,q2⟩=>?_)
 cases b with
 |true =>
  obtain⟨N,hN,q2⟩:=q2
  rw[Yc rfl]
  refine wpAny_passesOwn hp (thn (hb pins s2 σ1 H2 _ I2 q2) λf s3 q3=>?_)
  cases f with
  |next =>
   obtain⟨σ3,H3,I3,n3⟩:=q3
   obtain⟨m',hm,w3⟩:=hN σ3 H3 n3
   exact⟨m',hm,σ3,H3,I3,w3⟩
  |cont =>
   obtain⟨σ3,H3,I3,n3⟩:=q3
   obtain⟨m',hm,w3⟩:=hN σ3 H3 n3
   exact⟨m',hm,σ3,H3,I3,w3⟩
  |brk=>exact q3
  |ret v=>exact q3
 |false =>
  rw[Yb Yy]
  exact wpAny_execs_nil ⟨σ1,H2,I2,q2⟩
end
structure It where
 go:Nat->Hp->Prop
 yld:Nat->Hp->V->Hp->Prop
 stop:Nat->Hp->Prop
noncomputable def FpOk (X:Cx) (pins:List (Addr×Obj)) (H:Hp) (b:Addr):Prop :=
 H b=none/\b≠X.env.locals/\b∉X.fs/\(b∈X.ex\/X.s₀.heap.objs.size<=b)/\(∀x c,X.env.cells.lookup x=some c->c≠b)/\∀p∈X.pn++pins,p.1≠b
theorem Inv.Zjw {X:Cx}{pins:List (Addr×Obj)}{σ:St}{H H':Hp}{s:Shared}{b:Addr} (I:Inv X pins σ H s) (hb:s.heap.objs.size<=b) (hn:H' b=none):FpOk X pins H' b:=by
 refine⟨hn,Nat.ne_of_gt (Yt I.lt hb),I.nofs hb,.inr (Yh I.sz hb),λx c e z=>?_,λp hp z=>?_⟩
 ·obtain⟨v,q⟩:=I.cell x c e
  exact absurd (Yt q.lt (by rw[z];exact hb)) (YA _)
 ·exact absurd (Yt (Yj (I.pin p hp).1) (by rw[z];exact hb)) (YA _)
structure Turn (P:Program) (w:World) (K:PySem.W.Frag) (tg:Expr) (J:It) (fp:List Addr) (it:Addr) (tn:Nat->Heap->Prop):Prop where
 mem:it∈fp
 obj:∀i h,tn i h->∀b∈fp,∃o,h.get? b=some o/\∀v,o.data≠.cell v
 keep:∀i h h',tn i h->(∀b∈fp,∀o,h.get? b=some o->h'.get? b=some o)->tn i h'
 item:∀(X:Cx),X.prog=P->X.w=w->X.K=K->X.calm=true->∀(i:Nat) (pins:List (Addr×Obj)) (s:Shared) (σ:St) (H:Hp) (E:Value->Shared->Prop),Inv X pins σ H s->(∀b∈fp,FpOk X pins H b)->tn i s.heap->J.go i H ->
  wpAny (model P w) X.A (pyNext (.ref it)) (λr s1=>∃u,r=some u /\
   wpAny (model P w) X.A (letOwnedTupleGo tg (.ref it) u) (λ_ s2=>∃x H',Inv X pins σ H' s2/\RelV x u/\J.yld i H x H'/\tn (i+1) s2.heap/\∀b∈fp,H' b=none) E s1) E s
 done:∀(X:Cx),X.prog=P->X.w=w->X.K=K->X.calm=true->∀(i:Nat) (pins:List (Addr×Obj)) (s:Shared) (σ:St) (H:Hp) (E:Value->Shared->Prop),Inv X pins σ H s->(∀b∈fp,FpOk X pins H b)->tn i s.heap->J.stop i H ->
  wpAny (model P w) X.A (pyNext (.ref it)) (λr s1=>r=none/\Inv X pins σ H s1) E s
 self:∀(A:Around) (i:Nat) (s:Shared) (Q:Value->Shared->Prop) (E:Value->Shared->Prop),tn i s.heap->Q (.ref it) s->wpAny (model P w) A (pyIter (.ref it)) Q E s
noncomputable abbrev TI:=St->Hp->(It->Hp->Prop)->Prop
noncomputable def PIE (X:Cx) (pins:List (Addr×Obj)) (σ:St) (tg:Expr) (R:It->Hp->Prop) (itv:Value) (s2:Shared):Prop :=
 ∃(it:Addr) (fp:List Addr) (tn:Nat->Heap->Prop) (J:It) (H':Hp),itv=.ref it/\Inv X pins σ H' s2/\Turn X.prog X.w X.K tg J fp it tn/\tn 0 s2.heap/\(∀b∈fp,FpOk X pins H' b)/\R J H'
noncomputable def PI (X:Cx) (tg iter:Expr) (wi:TI):Prop :=
 ∀(pins:List (Addr×Obj)) (s:Shared) (σ:St) (H:Hp) (R:It->Hp->Prop),Inv X pins σ H s->wi σ H R ->
  wpAny (model X.prog X.w) X.A (eval iter X.env) (λv s1=>wpAny (model X.prog X.w) X.A (pyIter v) (PIE X pins σ tg R) X.xe s1) X.xe s
theorem Zpb {M : Model} {A : Around} {E : Value → Shared → Prop} {s : Shared} {tg : Expr} {it : Addr} {u : Value} {o : Obj} {n : String} {vs : Array Value} {Q : Unit → Shared → Prop} (ho : s.heap.get? it = some o) (hc : o.cls = .type n) (hd : o.data = .fields vs)
    (hn : ["enumerate", "zip", "dict_itemiterator", "dict_reverseitemiterator", "odict_iterator", "itertools.zip_longest", "itertools.pairwise"].contains n = false) (hQ : Q () s) : wpAny M A (letOwnedTupleGo tg (.ref it) u) Q E s := by
  unfold letOwnedTupleGo
  cases tg <;> first
    | exact Ye hQ
    | (cases u <;> first
        | exact Ye hQ
        | (refine Ya (wpAny_load ho ?_)
           rw [hc, hd]
           show wpAny M A (if (["enumerate", "zip", "dict_itemiterator", "dict_reverseitemiterator", "odict_iterator", "itertools.zip_longest", "itertools.pairwise"].contains n && vs[0]? == some (rawInt _)) = true then _ else _) Q E s
           rw [Yb (by intro h; rw [hn, Bool.false_and] at h; cases h)]
           exact Ye hQ))
noncomputable def Itl (K:PySem.W.Frag) (a:Addr):It :=
 ⟨λi H=>∃xs x,SqL K H a xs/\xs[i]?=some x,λi H x H'=>H'=H/\∀xs,SqL K H a xs->xs[i]?=some x,λi H=>∃xs,SqL K H a xs/\xs.length<=i⟩
noncomputable def Itt (K:PySem.W.Frag) (a:Addr):It :=
 ⟨λi H=>∃xs x,SqT K H a xs/\xs[i]?=some x,λi H x H'=>H'=H/\∀xs,SqT K H a xs->xs[i]?=some x,λi H=>∃xs,SqT K H a xs/\xs.length<=i⟩
noncomputable def Itr (lo:Int) (n:Nat):It:=⟨λi _=>i<n,λi H x H'=>H'=H/\x=.int (lo+i),λi _=>n<=i⟩
theorem ZpQ {P:Program}{w:World}{K:PySem.W.Frag}{tg:Expr} (a it:Addr):Turn P w K tg (Itl K a) [it] it (λi h=>h.IsListIter it a i) where
 mem:=by simp
 obj:=λi h st b hb=>by
  have e:b=it:=by simpa using hb
  subst e
  obtain⟨o,e,c,d⟩:=st
  exact⟨o,e,λv z=>by rw[d]at z;cases z⟩
 keep:=λi h h' st k=>st.at λo e=>k it (by simp) o e
 item:=by
  intro X hP hw hK hc i pins s σ H E I hf st hg
  subst hP hw hK
  obtain⟨xs,x,hq,hx⟩:=hg
  obtain⟨its,rv,p,hz⟩:=I.list hq
  obtain⟨u,hu,ru⟩:=rv.get hx
  obtain⟨f0,f1,f2,f3,f4,f5⟩:=hf it (by simp)
  refine wpAny_pyNext_list_item st p.isList (x:=u) (by simpa using hu) λh' st' sb=>?_
  have I1:Inv X pins σ H {s with heap:=h'}:=I.turned (t':=s.toks) (λb o hb e=>(sb.2 b hb).trans e) f0 f1 f3 f4 f5
  obtain⟨o,e,c,d⟩:=id st'
  exact⟨u,rfl,Zpb (s:={s with heap:=h'}) e c d (by decide) ⟨x,H,I1,ru,⟨rfl,λys hy=>by rw[I.Zd7 hy hq];exact hx⟩,st',λb hb=>(hf b hb).1⟩⟩
 done:=by
  intro X hP hw hK hc i pins s σ H E I hf st hg
  subst hP hw hK
  obtain⟨xs,hq,hx⟩:=hg
  obtain⟨its,rv,p,hz⟩:=I.list hq
  obtain⟨f0,f1,f2,f3,f4,f5⟩:=hf it (by simp)
  have hl:=rv.length
  exact wpAny_pyNext_list_end (I.ok.hd hc) st p.isList (by simp;omega) λh' eb=>⟨rfl,I.turned (t':=s.toks) (λb o hb e=>eb b o hb e) f0 f1 f3 f4 f5⟩
 self:=λ_ _ _ _ _ st h=>wpAny_pyIter_listiter st h
theorem Zoa {P:Program}{w:World}{K:PySem.W.Frag}{tg:Expr} (a it:Addr):Turn P w K tg (Itt K a) [it] it (λi h=>h.IsTupleIter it a i) where
 mem:=by simp
 obj:=λi h st b hb=>by
  have e:b=it:=by simpa using hb
  subst e
  obtain⟨o,e,c,d⟩:=st
  exact⟨o,e,λv z=>by rw[d]at z;cases z⟩
 keep:=λi h h' st k=>st.at λo e=>k it (by simp) o e
 item:=by
  intro X hP hw hK hc i pins s σ H E I hf st hg
  subst hP hw hK
  obtain⟨xs,x,hq,hx⟩:=hg
  obtain⟨its,rv,p,hz⟩:=I.tuple hq
  obtain⟨u,hu,ru⟩:=rv.get hx
  obtain⟨f0,f1,f2,f3,f4,f5⟩:=hf it (by simp)
  refine wpAny_pyNext_tuple_item st (show s.heap.IsTuple a its.toArray from p) (x:=u) (by simpa using hu) λh' st' sb=>?_
  have I1:Inv X pins σ H {s with heap:=h'}:=I.turned (t':=s.toks) (λb o hb e=>(sb.2 b hb).trans e) f0 f1 f3 f4 f5
  obtain⟨o,e,c,d⟩:=id st'
  exact⟨u,rfl,Zpb (s:={s with heap:=h'}) e c d (by decide) ⟨x,H,I1,ru,⟨rfl,λys hy=>by rw[I.Zf9 hy hq];exact hx⟩,st',λb hb=>(hf b hb).1⟩⟩
 done:=by
  intro X hP hw hK hc i pins s σ H E I hf st hg
  subst hP hw hK
  obtain⟨xs,hq,hx⟩:=hg
  obtain⟨its,rv,p,hz⟩:=I.tuple hq
  obtain⟨f0,f1,f2,f3,f4,f5⟩:=hf it (by simp)
  have hl:=rv.length
  exact wpAny_pyNext_tuple_end (I.ok.hd hc) st (show s.heap.IsTuple a its.toArray from p) (by simp;omega) λh' eb=>⟨rfl,I.turned (t':=s.toks) (λb o hb e=>eb b o hb e) f0 f1 f3 f4 f5⟩
 self:=λ_ _ _ _ _ st h=>wpAny_pyIter_tupleiter st h
theorem Zob {P:Program}{w:World}{K:PySem.W.Frag}{tg:Expr} (it:Addr) (lo:Int) (n:Nat):Turn P w K tg (Itr lo n) [it] it (λi h=>IsRangeIter h it (lo+(i:Nat)*1) ((n:Int)-(i:Nat)) 1) where
 mem:=by simp
 obj:=λi h st b hb=>by
  have e:b=it:=by simpa using hb
  subst e
  exact⟨_,st,λv z=>by
   have z':Data.fields _=Data.cell v:=z
   cases z'⟩
 keep:=λi h h' st k=>k it (by simp) _ st
 item:=by
  intro X hP hw hK hc i pins s σ H E I hf st hg
  subst hP hw hK
  obtain⟨f0,f1,f2,f3,f4,f5⟩:=hf it (by simp)
  have W:=Walks.range (prog:=X.prog) (w:=X.w) (I.ok.hd hc) it lo 1 n
  refine W.item i s _ _ hg st λv h' tk hv st' kk=>?_
  obtain⟨t,rfl⟩:=hv
  have I1:Inv X pins σ H {s with heap:=h',toks:=tk}:=I.turned (λb o hb e=>kk b o (by simpa using hb) e) f0 f1 f3 f4 f5
  refine⟨_,rfl,Zpb (s:={s with heap:=h',toks:=tk}) (n:="range_iterator") st' rfl rfl (by decide) ⟨.int (lo+i),H,I1,⟨t,?_⟩,⟨rfl,rfl⟩,st',λb hb=>(hf b hb).1⟩⟩
  rw[Int.mul_one]
 done:=by
  intro X hP hw hK hc i pins s σ H E I hf st hg
  subst hP hw hK
  obtain⟨f0,f1,f2,f3,f4,f5⟩:=hf it (by simp)
  exact wpAny_pyNext_range_end (I.ok.hd hc) st (by have:n<=i:=hg;omega) λh' eb=>⟨rfl,I.turned (t':=s.toks) (λb o hb e=>eb b o hb e) f0 f1 f3 f4 f5⟩
 self:=λ_ _ _ _ _ st h=>wpAny_pyIter_rangeiter st h
section
variable {X:Cx}{tg:Expr}
noncomputable def iList (K:PySem.W.Frag) (tl:TE):TI:=fun σ H R=>tl σ H λx H1=>∃a,x=.ref a/\(∃xs,SqL K H1 a xs)/\R (Itl K a) H1
noncomputable def iTup (K:PySem.W.Frag) (tl:TE):TI:=fun σ H R=>tl σ H λx H1=>∃a,x=.ref a/\(∃xs,SqT K H1 a xs)/\R (Itt K a) H1
theorem Zdq {l:Expr}{tl:TE} (hl:PE X l tl):PI X tg l (iList X.K tl):=by
 intro pins s σ H R I h
 refine thn (hl pins s σ H _ I h) λv s1 ⟨x,H1,I1,r1,q1⟩=>?_
 obtain⟨a,e,⟨xs,hq⟩,q⟩:=q1
 subst e
 cases r1
 obtain⟨its,rv,p,hz⟩:=I1.list hq
 refine wpAny_pyIter_list p.isList ?_
 refine⟨s1.heap.objs.size,[s1.heap.objs.size],_,_,H1,rfl,I1.kept (t':=s1.toks) λb o e=>Yg _ e,ZpQ a _,⟨_,Yk _ rfl,rfl,rfl⟩,λb hb=>?_,q⟩
 have e:b=s1.heap.objs.size:=by simpa using hb
 subst e
 exact I1.Zjw (Yd _) (I1.hok.fresh (Yd _))
theorem ZhV {l:Expr}{tl:TE} (hl:PE X l tl):PI X tg l (iTup X.K tl):=by
 intro pins s σ H R I h
 refine thn (hl pins s σ H _ I h) λv s1 ⟨x,H1,I1,r1,q1⟩=>?_
 obtain⟨a,e,⟨xs,hq⟩,q⟩:=q1
 subst e
 cases r1
 obtain⟨its,rv,p,hz⟩:=I1.tuple hq
 refine wpAny_pyIter_tuple (show s1.heap.IsTuple a its.toArray from p) ?_
 refine⟨s1.heap.objs.size,[s1.heap.objs.size],_,_,H1,rfl,I1.kept (t':=s1.toks) λb o e=>Yg _ e,Zoa a _,⟨_,Yk _ rfl,rfl,rfl⟩,λb hb=>?_,q⟩
 have e:b=s1.heap.objs.size:=by simpa using hb
 subst e
 exact I1.Zjw (Yd _) (I1.hok.fresh (Yd _))
theorem ZmK {pins:List (Addr×Obj)}{σ:St}{H:Hp}{s:Shared}{R:It->Hp->Prop}{E:Value->Shared->Prop}{lo hi:Int}{t u v:Tok}{tk:Nat} (I:Inv X pins σ H s) (h1:-(2 ^ 62)<=lo) (h2:lo<2 ^ 62) (h3:-(2 ^ 62)<=hi) (h4:hi<2 ^ 62)
  (q:R (Itr lo (hi-lo).toNat) H):wpAny (model X.prog X.w) X.A (pyIter (.ref s.heap.objs.size)) (PIE X pins σ tg R) E {s with heap:=s.heap.push {cls:=.type "range",data:=.fields #[.int lo t,.int hi u,.int 1 v]},toks:=tk}:=by
 refine wpAny_pyIter_range (IsRange.new ..) (small_one h1 h2 h3 h4) ?_
 have I1:Inv X pins σ H {s with heap:=s.heap.push {cls:=.type "range",data:=.fields #[.int lo t,.int hi u,.int 1 v]},toks:=tk}:=I.kept λb o e=>Yg _ e
 refine⟨(s.heap.push {cls:=.type "range",data:=.fields #[.int lo t,.int hi u,.int 1 v]}).objs.size,[(s.heap.push {cls:=.type "range",data:=.fields #[.int lo t,.int hi u,.int 1 v]}).objs.size],_,_,H,rfl,
  I1.kept (t':=tk) λb o e=>Yg _ e,Zob _ lo (hi-lo).toNat,?_,λb hb=>?_,q⟩
 ·have e1:lo+((0:Nat):Int)*1=lo:=by simp
  have e2:(((hi-lo).toNat:Nat):Int)-((0:Nat):Int)=Builtin.Range.rangeSize lo hi 1:=by rw[rangeSize_one];split<;>omega
  show IsRangeIter _ _ (lo+((0:Nat):Int)*1) ((((hi-lo).toNat:Nat):Int)-((0:Nat):Int)) 1
  rw[e1,e2]
  exact Yk _ rfl
 ·have e:b=(s.heap.push {cls:=.type "range",data:=.fields #[.int lo t,.int hi u,.int 1 v]}).objs.size:=by simpa using hb
  subst e
  exact I1.Zjw (Yd _) (I1.hok.fresh (Yd _))
noncomputable def iRng1 (ta:TA):TI:=fun σ H R=>ta σ H λvs H1=>∃j:Int,vs=[.int j]/\-(2 ^ 62)<=j/\j<2 ^ 62/\R (Itr 0 j.toNat) H1
noncomputable def iRng2 (ta:TA):TI:=fun σ H R=>ta σ H λvs H1=>∃i j:Int,vs=[.int i,.int j]/\(-(2 ^ 62)<=i/\i<2 ^ 62/\-(2 ^ 62)<=j/\j<2 ^ 62)/\R (Itr i (j-i).toNat) H1
theorem ZaO {a:Expr}{ta:TA}{p pos:Pos} (hg:Gl X "range") (hm:X.mg "range"=none) (ha:PA X [a] ta) (hs:starEach [a] X.env=[(false,eval a X.env)]:=by rfl):PI X tg (.Call (.Name "range" p) [a] [] pos) (iRng1 ta):=by
 intro pins s σ H R I h
 refine Call_ (Zbp I hg hm boot_range (PyProof.Rows.callWith_type1 (thn (ha pos pins s σ H _ I h) λus s1 ⟨vs,H1,I1,r1,q1⟩=>?_) hs rfl))
 obtain⟨j,e,q1,q2,q⟩:=q1
 subst e
 cases r1 with
 |cons r rr =>
  cases rr
  obtain⟨t,rfl⟩:=r
  exact call_range_1 (ZmK I1 (by omega) (by omega) q1 q2 (by simpa using q))
theorem Zk8 {a b:Expr}{ta:TA}{p pos:Pos} (hg:Gl X "range") (hm:X.mg "range"=none) (ha:PA X [a,b] ta) (hs:starEach [a,b] X.env=[(false,eval a X.env),(false,eval b X.env)]:=by rfl) (hs2:starEach [b] X.env=[(false,eval b X.env)]:=by rfl) :
  PI X tg (.Call (.Name "range" p) [a,b] [] pos) (iRng2 ta):=by
 intro pins s σ H R I h
 refine Call_ (Zbp I hg hm boot_range (PyProof.Rows.callWith_type1 (thn (ha pos pins s σ H _ I h) λus s1 ⟨vs,H1,I1,r1,q1⟩=>?_) (by rw[hs,hs2]) (by rw[hs2];rfl)))
 obtain⟨i,j,e,⟨q1,q2,q3,q4⟩,q⟩:=q1
 subst e
 cases r1 with
 |cons r rr =>
  cases rr with
  |cons r' rr =>
   cases rr
   obtain⟨t,rfl⟩:=r
   obtain⟨t',rfl⟩:=r'
   exact call_range_2 (ZmK I1 q1 q2 q3 q4 q)
noncomputable def tFor (wi:TI) (g:TG) (tb:TS):TS:=λD σ H=>wi σ H λJ H1=>∃W:Nat->Nat->St->Hp->Prop,(∃m,W 0 m σ H1)/\∀i m σ H,W i m σ H ->
 (J.stop i H/\D.nx σ H)\/(J.go i H/\∃N:St->Hp->Prop,(∀σ' H',N σ' H'->∃m',m'<m/\W (i+1) m' σ' H')/\∀x H',J.yld i H x H'->g x σ H' fun σ2 H2=>tb {D with nx:=N,ct:=N,bk:=D.nx} σ2 H2)
noncomputable def Zff (fp:List Addr) (h:Heap):List (Addr×Obj):=fp.filterMap λb=>(h.get? b).map λo=>(b,o)
theorem Zes {fp:List Addr}{h:Heap}{b:Addr}{o:Obj} (hb:b∈fp) (e:h.get? b=some o):(b,o)∈Zff fp h:=List.mem_filterMap.mpr ⟨b,hb,by rw[e];rfl⟩
theorem Zk9 {fp:List Addr}{h:Heap}{p:Addr×Obj} (hp:p∈Zff fp h):p.1∈fp/\h.get? p.1=some p.2:=by
 obtain⟨b,hb,e⟩:=List.mem_filterMap.mp hp
 cases q:h.get? b with
 |none=>rw[q]at e;cases e
 |some o =>
  rw[q]at e
  have e':(b,o)=p:=Yz e
  subst e'
  exact⟨hb,q⟩
theorem Inv.pinned {pins:List (Addr×Obj)}{σ:St}{H:Hp}{s:Shared}{fp:List Addr} (I:Inv X pins σ H s) (hf:∀b∈fp,FpOk X pins H b) (ho:∀b∈fp,∃o,s.heap.get? b=some o/\∀v,o.data≠.cell v):Inv X (pins++Zff fp s.heap) σ H s :=
 I.ZbK λp hp=>(YC.mp hp).elim (λz=>I.pin p (Yv _ z)) λz=>by
  obtain⟨hb,e⟩:=Zk9 z
  obtain⟨f0,f1,f2,_⟩:=hf p.1 hb
  obtain⟨o,e',d⟩:=ho p.1 hb
  rw[e]at e';cases e'
  exact⟨e,f0,f1,f2,d⟩
theorem Inv.Zfg {pins pl:List (Addr×Obj)}{σ:St}{H:Hp}{s:Shared} (I:Inv X (pins++pl) σ H s):Inv X pins σ H s:=I.ZbK λp hp=>I.pin p (Yv _ (YT _ hp))
theorem ZaU {iter:Expr}{body:List Stmt}{wi:TI}{g:TG}{tb:TS}{pos:Pos} (hp:PassesOwn (model X.prog X.w) X.A X.env X.xe) (hc:X.calm=true) (hi:PI X tg iter wi) (hg:PG X tg g) (hb:PSs X body tb)
  (hs:∀x,foldedSetIterable iter X.env x=pure x:=by intro _;rfl):PS X (.For tg iter body [] pos) (tFor wi g tb):=by
 intro pins s σ H D I h
 refine wpAny_For (thn (hi pins s σ H _ I h) λv s1 h1=>thn h1 λitv s2 h2=>?_) hs
 obtain⟨it,fp,tn,J,H2,e,I2,T,st2,f2,W,⟨m0,w0⟩,turn⟩:=h2
 subst e
 -- what stays true of the iterator's objects through the loop
 have stat:∀{H':Hp},(∀b∈fp,H' b=none)->∀b∈fp,FpOk X pins H' b:=λhn b hb=>⟨hn b hb,(f2 b hb).2⟩
 refine codeAny_forLoop_any (λn s'=>∃i σ' H',Inv X pins σ' H' s'/\tn i s'.heap/\(∀b∈fp,H' b=none)/\W i n σ' H') ?_ m0 ⟨0,σ,H2,I2,st2,λb hb=>(f2 b hb).1,w0⟩
 rintro n s3 ⟨i,σ3,H3,I3,st3,fr3,w3⟩
 rcases turn i n σ3 H3 w3 with⟨stop,qn⟩|⟨go,N,hN,step⟩
 ·refine wpAny_passesOwn hp (thn (T.done X rfl rfl rfl hc i pins s3 σ3 H3 X.xe I3 (stat fr3) st3 stop) λr s4 ⟨hr,I4⟩=>?_)
  subst hr
  exact wpAny_execs_nil ⟨σ3,H3,I4,qn⟩
 ·refine wpAny_passesOwn hp (thn (T.item X rfl rfl rfl hc i pins s3 σ3 H3 X.xe I3 (stat fr3) st3 go) λr s4 ⟨u,hr,h4⟩=>?_)
  subst hr
  refine wpAny_passesOwn hp (thn h4 λ_ s5 ⟨x,H5,I5,r5,y5,st5,fr5⟩=>?_)
  have I5':=I5.pinned (stat fr5) (T.obj _ _ st5)
  refine wpAny_passesOwn hp (thn (hg _ s5 σ3 H5 x u _ I5' r5 (step x H5 y5)) λ_ s6 ⟨σ6,H6,I6,q6⟩=>?_)
  refine wpAny_passesOwn hp (thn (hb _ s6 σ6 H6 _ I6 q6) λf s7 q7=>?_)
  have again:∀{σ7:St}{H7:Hp},Inv X (pins++Zff fp s5.heap) σ7 H7 s7->N σ7 H7->∃m,m<n/\∃i σ' H',Inv X pins σ' H' s7/\tn i s7.heap/\(∀b∈fp,H' b=none)/\W i m σ' H':=λ{σ7 H7} I7 n7=>by
   obtain⟨m',hm,w7⟩:=hN σ7 H7 n7
   refine⟨m',hm,i+1,σ7,H7,I7.Zfg,T.keep _ _ _ st5 λb hb o e=>(I7.pin (b,o) (Yv _ (Yv _ (Zes hb e)))).1,λb hb=>?_,w7⟩
   obtain⟨o,e,d⟩:=T.obj _ _ st5 b hb
   exact(I7.pin (b,o) (Yv _ (Yv _ (Zes hb e)))).2.1
  cases f with
  |next=>obtain⟨σ7,H7,I7,n7⟩:=q7;exact again I7 n7
  |cont=>obtain⟨σ7,H7,I7,n7⟩:=q7;exact again I7 n7
  |brk=>obtain⟨σ7,H7,I7,q7⟩:=q7;exact⟨σ7,H7,I7.Zfg,q7⟩
  |ret v=>obtain⟨x7,σ7,H7,I7,r7,q7⟩:=q7;exact⟨x7,σ7,H7,I7.Zfg,r7,q7⟩
end
theorem Zjx {K:PySem.W.Frag}{a:Addr}{xs:List V}{g:TG}{tb:TS}{D:Ends}{σ:St}{H:Hp} (Pv:Nat->St->Hp->Prop) (h0:Pv 0 σ H) (hl:∀i σ H,i<=xs.length->Pv i σ H->SqL K H a xs)
  (hs:∀i x σ H,xs[i]?=some x->Pv i σ H->g x σ H fun σ2 H2=>tb {D with nx:=Pv (i+1),ct:=Pv (i+1),bk:=D.nx} σ2 H2) (hd:∀σ H,Pv xs.length σ H->D.nx σ H) :
  ∃W:Nat->Nat->St->Hp->Prop,(∃m,W 0 m σ H)/\∀i m σ H,W i m σ H ->
   ((Itl K a).stop i H/\D.nx σ H)\/((Itl K a).go i H/\∃N:St->Hp->Prop,(∀σ' H',N σ' H'->∃m',m'<m/\W (i+1) m' σ' H')/\∀x H',(Itl K a).yld i H x H'->g x σ H' fun σ2 H2=>tb {D with nx:=N,ct:=N,bk:=D.nx} σ2 H2):=by
 refine⟨λi m σ H=>m=xs.length-i/\i<=xs.length/\Pv i σ H,⟨xs.length,by simp,Ys _,h0⟩,?_⟩
 rintro i m σ H ⟨rfl,hi,p⟩
 have q:=hl i σ H hi p
 by_cases hlt:i<xs.length
 ·refine .inr ⟨⟨xs,xs[i],q,by simp[hlt]⟩,Pv (i+1),fun σ' H' p'=>⟨xs.length-(i+1),by omega,rfl,hlt,p'⟩,λx H' y=>?_⟩
  obtain⟨e,y⟩:=y
  subst e
  exact hs i x σ _ (y xs q) p
 ·have e:i=xs.length:=by omega
  subst e
  exact .inl ⟨⟨xs,q,Yd _⟩,hd σ H p⟩
theorem Zb7 {lo:Int}{n:Nat}{g:TG}{tb:TS}{D:Ends}{σ:St}{H:Hp} (Pv:Nat->St->Hp->Prop) (h0:Pv 0 σ H)
  (hs:∀i σ H,i<n->Pv i σ H->g (.int (lo+i)) σ H fun σ2 H2=>tb {D with nx:=Pv (i+1),ct:=Pv (i+1),bk:=D.nx} σ2 H2) (hd:∀σ H,Pv n σ H->D.nx σ H) :
  ∃W:Nat->Nat->St->Hp->Prop,(∃m,W 0 m σ H)/\∀i m σ H,W i m σ H ->
   ((Itr lo n).stop i H/\D.nx σ H)\/((Itr lo n).go i H/\∃N:St->Hp->Prop,(∀σ' H',N σ' H'->∃m',m'<m/\W (i+1) m' σ' H')/\∀x H',(Itr lo n).yld i H x H'->g x σ H' fun σ2 H2=>tb {D with nx:=N,ct:=N,bk:=D.nx} σ2 H2):=by
 refine⟨λi m σ H=>m=n-i/\i<=n/\Pv i σ H,⟨n,by simp,Ys _,h0⟩,?_⟩
 rintro i m σ H ⟨rfl,hi,p⟩
 by_cases hlt:i<n
 ·refine .inr ⟨hlt,Pv (i+1),fun σ' H' p'=>⟨n-(i+1),by omega,rfl,hlt,p'⟩,λx H' y=>?_⟩
  obtain⟨e,y⟩:=y
  subst e y
  exact hs i σ _ hlt p
 ·have e:i=n:=by omega
  subst e
  exact .inl ⟨Yd _,hd σ H p⟩
noncomputable abbrev R2:=V->V->Hp->VK->Prop
noncomputable def OpR (X:Cx) (f:Value->Value->Sem Value) (r:R2):Prop :=
 ∀(pins:List (Addr×Obj)) (s:Shared) (σ:St) (H:Hp) (x y:V) (v u:Value) (Q:VK),Inv X pins σ H s->RelV x v->RelV y u->r x y H Q ->
  wpAny (model X.prog X.w) X.A (f v u) (EP X pins σ Q) X.xe s
noncomputable def UnR (X:Cx) (f:Value->Sem Value) (r:V->Hp->VK->Prop):Prop :=
 ∀(pins:List (Addr×Obj)) (s:Shared) (σ:St) (H:Hp) (x:V) (v:Value) (Q:VK),Inv X pins σ H s->RelV x v->r x H Q ->
  wpAny (model X.prog X.w) X.A (f v) (EP X pins σ Q) X.xe s
noncomputable def Zcv (X:Cx) (f:Value) (r:List V->Hp->VK->Prop):Prop :=
 ∀(pins:List (Addr×Obj)) (s:Shared) (σ:St) (H:Hp) (xs:List V) (us:List Value) (Q:VK),Inv X pins σ H s->Vals xs us->r xs H Q ->
  wpAny (model X.prog X.w) X.A (call f us) (EP X pins σ Q) X.xe s
noncomputable def TruR (X:Cx) (r:V->Hp->(Bool->Hp->Prop)->Prop):Prop :=
 ∀(pins:List (Addr×Obj)) (s:Shared) (σ:St) (H:Hp) (x:V) (v:Value) (Q:Bool->Hp->Prop),Inv X pins σ H s->RelV x v->r x H Q ->
  wpAny (model X.prog X.w) X.A (truthy v) (TP X pins σ Q) X.xe s
noncomputable def tOp (r:R2) (ta tb:TE):TE:=fun σ H Q=>ta σ H λx H1=>tb σ H1 λy H2=>r x y H2 Q
noncomputable def tUn (r:V->Hp->VK->Prop) (ta:TE):TE:=fun σ H Q=>ta σ H λx H1=>r x H1 Q
noncomputable def rI (C:Int->Int->Prop) (g:Int->Int->V):R2:=λx y H Q=>∃i j,x=.int i/\y=.int j/\C i j/\Q (g i j) H
noncomputable def rI0 (g:Int->Int->V):R2:=λx y H Q=>∃i j,x=.int i/\y=.int j/\Q (g i j) H
noncomputable def rU (g:Int->V):V->Hp->VK->Prop:=λx H Q=>∃i,x=.int i/\Q (g i) H
section
variable {X:Cx}{a b c:Expr}{ta tb tc:TE}{pos:Pos}
theorem binT (ha:PE X a ta) (hb:PE X b tb) {pins:List (Addr×Obj)}{s:Shared}{σ:St}{H:Hp}{R:V->V->Hp->Prop} (I:Inv X pins σ H s)
  (h:ta σ H λx H1=>tb σ H1 λy H2=>R x y H2) {Q:Value->Shared->Prop}{f:Value->Value->Sem Value}
  (hf:∀v u s2 x y H2,Inv X pins σ H2 s2->RelV x v->RelV y u->R x y H2->wpAny (model X.prog X.w) X.A (f v u) Q X.xe s2) :
  wpAny (model X.prog X.w) X.A (eval a X.env) (λv s₁=>wpAny (model X.prog X.w) X.A (eval b X.env) (λu s₂=>wpAny (model X.prog X.w) X.A (f v u) Q X.xe s₂) X.xe s₁) X.xe s:=by
 refine thn (ha pins s σ H _ I h) λv s1 ⟨x,H1,I1,r1,q1⟩=>?_
 refine thn (hb pins s1 σ H1 _ I1 q1) λu s2 ⟨y,H2,I2,r2,q2⟩=>?_
 exact hf v u s2 x y H2 I2 r1 r2 q2
theorem Zp {op:Operator}{r:R2} (ho:OpR X (binaryOp op) r) (ha:PE X a ta) (hb:PE X b tb):PE X (.BinOp a op b pos) (tOp r ta tb):=by
 intro pins s σ H Q I h
 exact wpAny_BinOp (binT ha hb I h λv u s2 x y H2 I2 rx ry q=>ho pins s2 σ H2 x y v u Q I2 rx ry q)
theorem Ze6 {op:UnaryOp}{r:V->Hp->VK->Prop} (ho:UnR X (unaryOp op) r) (ha:PE X a ta):PE X (.UnaryOp op a pos) (tUn r ta):=by
 intro pins s σ H Q I h
 exact UnaryOp_ (thn (ha pins s σ H _ I h) λv s1 ⟨x,H1,I1,r1,q1⟩=>ho pins s1 σ H1 x v Q I1 r1 q1)
theorem opI {f:Value->Value->Sem Value}{C:Int->Int->Prop}{g:Int->Int->Int}
  (rule:∀(i j:Int) (t u:Tok) (s:Shared) (Q:Value->Shared->Prop) (E:Value->Shared->Prop),C i j->Q (.int (g i j) s.toks) {s with toks:=s.toks+1}->wpAny (model X.prog X.w) X.A (f (.int i t) (.int j u)) Q E s) :
  OpR X f (rI C λi j=>.int (g i j)):=by
 intro pins s σ H x y v u Q I rx ry h
 obtain⟨i,j,rfl,rfl,hc,q⟩:=h
 obtain⟨t,rfl⟩:=rx
 obtain⟨t',rfl⟩:=ry
 exact rule i j t t' s _ _ hc ⟨.int (g i j),H,I.tok _,⟨_,rfl⟩,q⟩
theorem opI0 {f:Value->Value->Sem Value}{g:Int->Int->Int}
  (rule:∀(i j:Int) (t u:Tok) (s:Shared) (Q:Value->Shared->Prop) (E:Value->Shared->Prop),Q (.int (g i j) s.toks) {s with toks:=s.toks+1}->wpAny (model X.prog X.w) X.A (f (.int i t) (.int j u)) Q E s) :
  OpR X f (rI0 λi j=>.int (g i j)):=by
 intro pins s σ H x y v u Q I rx ry h
 obtain⟨i,j,rfl,rfl,q⟩:=h
 obtain⟨t,rfl⟩:=rx
 obtain⟨t',rfl⟩:=ry
 exact rule i j t t' s _ _ ⟨.int (g i j),H,I.tok _,⟨_,rfl⟩,q⟩
theorem opB0 {f:Value->Value->Sem Value}{g:Int->Int->Bool}
  (rule:∀(i j:Int) (t u:Tok) (s:Shared) (Q:Value->Shared->Prop) (E:Value->Shared->Prop),Q (.bool (g i j)) s->wpAny (model X.prog X.w) X.A (f (.int i t) (.int j u)) Q E s) :
  OpR X f (rI0 λi j=>.bl (g i j)):=by
 intro pins s σ H x y v u Q I rx ry h
 obtain⟨i,j,rfl,rfl,q⟩:=h
 obtain⟨t,rfl⟩:=rx
 obtain⟨t',rfl⟩:=ry
 exact rule i j t t' s _ _ ⟨.bl (g i j),H,I,rfl,q⟩
noncomputable def ZlR (i j:Int):Prop:=0<=j/\j<=1000000/\i.natAbs<2 ^ 64
theorem ZaD:OpR X (binaryOp .Add) (rI0 λi j=>.int (i+j)):=opI0 λ_ _ _ _ _ _ _ q=>add_int q
theorem ZcY:OpR X (binaryOp .Sub) (rI0 λi j=>.int (i-j)):=opI0 λ_ _ _ _ _ _ _ q=>sub_int q
theorem ZgF:OpR X (binaryOp .Mod) (rI (λ_ j=>0<j) λi j=>.int (i % j)):=opI λi j _ _ _ _ _ hc q=>by
 have h1:(0:Int)<j:=hc
 exact mod_int' (by omega) (by rw[Int.fmod_eq_emod_of_nonneg i (by omega)];exact q)
theorem Zfh:OpR X (binaryOp .Pow) (rI ZlR λi j=>.int (i ^ j.toNat)):=opI λ_ _ _ _ _ _ _ hc q=>pow_int_small hc.1 hc.2.1 hc.2.2 q
theorem unI {f:Value->Sem Value}{g:Int->Int}
  (rule:∀(i:Int) (t:Tok) (s:Shared) (Q:Value->Shared->Prop) (E:Value->Shared->Prop),Q (.int (g i) s.toks) {s with toks:=s.toks+1}->wpAny (model X.prog X.w) X.A (f (.int i t)) Q E s) :
  UnR X f (rU λi=>.int (g i)):=by
 intro pins s σ H x v Q I rx h
 obtain⟨i,rfl,q⟩:=h
 obtain⟨t,rfl⟩:=rx
 exact rule i t s _ _ ⟨.int (g i),H,I.tok _,⟨_,rfl⟩,q⟩
theorem ZcB:UnR X (unaryOp .USub) (rU λi=>.int (-i)):=unI λ_ _ _ _ _ q=>neg_int q
end
noncomputable def ZmL:V->V->Bool
 |.non,.non=>true|.non,.int _=>true|.int _,.non=>true|.non,.bl _=>true|.bl _,.non=>true|.non,.str _=>true|.str _,.non=>true
 |.int _,.int _=>true|.bl _,.bl _=>true|.str _,.str _=>true|.byt _,.byt _=>true
 |.int _,.str _=>true|.str _,.int _=>true|.bl _,.str _=>true|.str _,.bl _=>true
 |_,_=>false
noncomputable def rEq:R2:=λx y H Q=>ZmL x y=true/\Q (.bl (decide (x=y))) H
noncomputable def rNe:R2:=λx y H Q=>ZmL x y=true/\Q (.bl (!decide (x=y))) H
theorem Zpc {i j:Int}:decide (V.int i=V.int j)=(i==j):=by
 rw[Bool.eq_iff_iff]
 simp
theorem ZrM {i j:Bool}:decide (V.bl i=V.bl j)=(i==j):=by
 rw[Bool.eq_iff_iff]
 simp
theorem Zpd {i j:Str}:decide (V.str i=V.str j)=(i==j):=by
 rw[Bool.eq_iff_iff]
 simp
theorem Zpe {i j:Array UInt8}:decide (V.byt i=V.byt j)=(i.toList==j.toList):=by
 rw[Bool.eq_iff_iff]
 cases i
 cases j
 simp
section
variable {X:Cx}{a b c:Expr}{ta tb tc:TE}{pos:Pos}
theorem ZO {pins:List (Addr×Obj)}{σ:St}{H:Hp}{s:Shared}{Q:VK}{k k':Bool} (I:Inv X pins σ H s) (q:Q (.bl k) H) (e:k=k'):EP X pins σ Q (.bool k') s:=by
 subst e
 exact⟨.bl k,H,I,rfl,q⟩
theorem Zdr:OpR X (compareOp .Eq) rEq:=by
 intro pins s σ H x y v u Q I rx ry h
 obtain⟨hs,q⟩:=h
 cases x with
 |non =>
  cases rx
  cases y with
  |non=>cases ry;exact PySem.EqNone.eq_none_none (ZO I q (by simp))
  |bl j=>cases ry;exact PySem.EqNone.eq_none_bool (ZO I q (by simp))
  |int j=>obtain⟨t',rfl⟩:=ry;exact PySem.EqNone.eq_none_int (ZO I q (by simp))
  |str j=>obtain⟨t',rfl⟩:=ry;exact PySem.EqNone.eq_none_str (ZO I q (by simp))
  |_=>exact absurd (show false=true from hs) Yy
 |bl i =>
  cases rx
  cases y with
  |non=>cases ry;exact PySem.EqNone.eq_bool_none (ZO I q (by simp))
  |bl j=>cases ry;exact eq_bool (ZO I q ZrM)
  |str j=>obtain⟨t',rfl⟩:=ry;exact PySem.EqMixed.eq_bool_str (ZO I q (by simp))
  |_=>exact absurd (show false=true from hs) Yy
 |int i =>
  obtain⟨t,rfl⟩:=rx
  cases y with
  |non=>cases ry;exact PySem.EqNone.eq_int_none (ZO I q (by simp))
  |int j=>obtain⟨t',rfl⟩:=ry;exact eq_int (ZO I q Zpc)
  |str j=>obtain⟨t',rfl⟩:=ry;exact PySem.EqMixed.eq_int_str (ZO I q (by simp))
  |_=>exact absurd (show false=true from hs) Yy
 |str i =>
  obtain⟨t,rfl⟩:=rx
  cases y with
  |non=>cases ry;exact PySem.EqNone.eq_str_none (ZO I q (by simp))
  |bl j=>cases ry;exact PySem.EqMixed.eq_str_bool (ZO I q (by simp))
  |int j=>obtain⟨t',rfl⟩:=ry;exact PySem.EqMixed.eq_str_int (ZO I q (by simp))
  |str j=>obtain⟨t',rfl⟩:=ry;exact eq_str (ZO I q Zpd)
  |_=>exact absurd (show false=true from hs) Yy
 |byt i =>
  obtain⟨t,rfl⟩:=rx
  cases y with
  |byt j=>obtain⟨t',rfl⟩:=ry;exact PySem.W.eq_bytes (ZO I q Zpe)
  |_=>exact absurd (show false=true from hs) Yy
 |_=>cases y<;>exact absurd (show false=true from hs) Yy
theorem op_ne:OpR X (compareOp .NotEq) rNe:=by
 intro pins s σ H x y v u Q I rx ry h
 obtain⟨hs,q⟩:=h
 cases x with
 |non =>
  cases rx
  cases y with
  |non=>cases ry;exact PySem.EqNone.ne_none_none (ZO I q (by simp))
  |bl j=>cases ry;exact PySem.EqNone.ne_none_bool (ZO I q (by simp))
  |int j=>obtain⟨t',rfl⟩:=ry;exact PySem.EqNone.ne_none_int (ZO I q (by simp))
  |str j=>obtain⟨t',rfl⟩:=ry;exact PySem.EqNone.ne_none_str (ZO I q (by simp))
  |_=>exact absurd (show false=true from hs) Yy
 |bl i =>
  cases rx
  cases y with
  |non=>cases ry;exact PySem.EqNone.ne_bool_none (ZO I q (by simp))
  |bl j=>cases ry;exact ne_bool (ZO I q (congrArg not ZrM))
  |str j=>obtain⟨t',rfl⟩:=ry;exact PySem.EqMixed.ne_bool_str (ZO I q (by simp))
  |_=>exact absurd (show false=true from hs) Yy
 |int i =>
  obtain⟨t,rfl⟩:=rx
  cases y with
  |non=>cases ry;exact PySem.EqNone.ne_int_none (ZO I q (by simp))
  |int j=>obtain⟨t',rfl⟩:=ry;exact ne_int (ZO I q (congrArg not Zpc))
  |str j=>obtain⟨t',rfl⟩:=ry;exact PySem.EqMixed.ne_int_str (ZO I q (by simp))
  |_=>exact absurd (show false=true from hs) Yy
 |str i =>
  obtain⟨t,rfl⟩:=rx
  cases y with
  |non=>cases ry;exact PySem.EqNone.ne_str_none (ZO I q (by simp))
  |bl j=>cases ry;exact PySem.EqMixed.ne_str_bool (ZO I q (by simp))
  |int j=>obtain⟨t',rfl⟩:=ry;exact PySem.EqMixed.ne_str_int (ZO I q (by simp))
  |str j=>obtain⟨t',rfl⟩:=ry;exact ne_str (ZO I q (congrArg not Zpd))
  |_=>exact absurd (show false=true from hs) Yy
 |byt i =>
  obtain⟨t,rfl⟩:=rx
  cases y with
  |byt j=>obtain⟨t',rfl⟩:=ry;exact PySem.W.ne_bytes (ZO I q (congrArg not Zpe))
  |_=>exact absurd (show false=true from hs) Yy
 |_=>cases y<;>exact absurd (show false=true from hs) Yy
theorem Zjy:OpR X (compareOp .Lt) (rI0 λi j=>.bl (decide (i<j))):=opB0 λ_ _ _ _ _ _ _ q=>lt_int q
theorem Zgp:OpR X (compareOp .LtE) (rI0 λi j=>.bl (decide (i<=j))):=opB0 λ_ _ _ _ _ _ _ q=>le_int q
theorem ZcH:OpR X (compareOp .Gt) (rI0 λi j=>.bl (decide (j<i))):=opB0 λ_ _ _ _ _ _ _ q=>gt_int q
theorem ZmM:OpR X (compareOp .GtE) (rI0 λi j=>.bl (decide (j<=i))):=opB0 λ_ _ _ _ _ _ _ q=>ge_int q
theorem ZrN:OpR X (compareOp .Is) (λx y H Q=>y=.non/\Q (.bl (decide (x=.non))) H):=by
 intro pins s σ H x y v u Q I rx ry h
 obtain⟨rfl,q⟩:=h
 cases ry
 refine is_none_gen (ZO I q ?_)
 cases x<;>first
  |(cases rx;rfl)
  |(obtain⟨t,rfl⟩:=rx;rfl)
theorem Zr (b:Expr) {op:CmpOp} (h:op≠.In:=by decide) (h2:op≠.NotIn:=by decide):behindInMarks op b=false:=by
 have e1:(op==CmpOp.In)=false:=by cases op<;>first|rfl|exact absurd rfl h
 have e2:(op==CmpOp.NotIn)=false:=by cases op<;>first|rfl|exact absurd rfl h2
 cases b<;>simp[behindInMarks,e1,e2]
theorem Zbk {op:CmpOp}{r:R2} (ho:OpR X (compareOp op) r) (ha:PE X a ta) (hb:PE X b tb) (hm:behindInMarks op b=false):PE X (.Compare a [op] [b] pos) (tOp r ta tb):=by
 intro pins s σ H Q I h
 exact wpAny_Compare1 (binT ha hb I h λv u s2 x y H2 I2 rx ry q=>ho pins s2 σ H2 x y v u Q I2 rx ry q) hm
noncomputable def Zpf (t:TE):TT:=fun σ H Q=>t σ H λx H'=>∃k,x=.bl k/\Q k H'
theorem Zs {op:CmpOp}{r:R2} (ho:OpR X (compareOp op) r) (ha:PE X a ta) (hb:PE X b tb) (hm:behindInMarks op b=false):PT X (.Compare a [op] [b] pos) (Zpf (tOp r ta tb)):=by
 intro pins s σ H Q I h
 refine wpAny_isTrue_Compare1 (thn (ha pins s σ H _ I h) λv s1 ⟨x,H1,I1,r1,q1⟩=>thn (hb pins s1 σ H1 _ I1 q1) λu s2 ⟨y,H2,I2,r2,q2⟩ =>
  thn (ho pins s2 σ H2 x y v u _ I2 r1 r2 q2) λc s3 ⟨z,H3,I3,r3,k,e,q3⟩=>?_) hm
 subst e
 cases r3
 exact wpAny_truthy_bool ⟨H3,I3,q3⟩
noncomputable def Zoc (r r':R2) (ta tb tc:TE):TE:=fun σ H Q=>ta σ H λx H1=>tb σ H1 λy H2=>r x y H2 λz H3=>∃k,z=.bl k /\
 (if k=true then tc σ H3 λw' H4=>r' y w' H4 Q else Q (.bl false) H3)
theorem Zjz {op op':CmpOp}{r r':R2} (ho:OpR X (compareOp op) r) (ho':OpR X (compareOp op') r') (ha:PE X a ta) (hb:PE X b tb) (hc:PE X c tc)
  (hm:lastMarks [op,op'] [b,c]=false:=by with_unfolding_all rfl):PE X (.Compare a [op,op'] [b,c] pos) (Zoc r r' ta tb tc):=by
 intro pins s σ H Q I h
 refine Compare_chain (thn (ha pins s σ H _ I h) λv s1 ⟨x,H1,I1,r1,q1⟩=>chain_link (thn (hb pins s1 σ H1 _ I1 q1) λu s2 ⟨y,H2,I2,r2,q2⟩ =>
  thn (ho pins s2 σ H2 x y v u _ I2 r1 r2 q2) λd s3 ⟨z,H3,I3,r3,k,e,q3⟩=>?_)) hm
 subst e
 cases r3
 refine wpAny_truthy_bool ?_
 cases k with
 |false=>exact ite_ff ⟨.bl false,H3,I3,rfl,q3⟩
 |true=>exact ite_tt (chain_last (thn (hc pins s3 σ H3 _ I3 q3) λw' s4 ⟨z',H4,I4,r4,q4⟩=>ho' pins s4 σ H4 y z' u w' Q I4 r2 r4 q4))
theorem ZjA {op op':CmpOp}{r r':R2} (ho:OpR X (compareOp op) r) (ho':OpR X (compareOp op') r') (ha:PE X a ta) (hb:PE X b tb) (hc:PE X c tc)
  (hm:lastMarks [op,op'] [b,c]=false:=by with_unfolding_all rfl):PT X (.Compare a [op,op'] [b,c] pos) (Zpf (Zoc r r' ta tb tc)):=by
 intro pins s σ H Q I h
 refine isTrue_chain (thn (ha pins s σ H _ I h) λv s1 ⟨x,H1,I1,r1,q1⟩=>test_link (thn (hb pins s1 σ H1 _ I1 q1) λu s2 ⟨y,H2,I2,r2,q2⟩ =>
  thn (ho pins s2 σ H2 x y v u _ I2 r1 r2 q2) λd s3 ⟨z,H3,I3,r3,k,e,q3⟩=>?_)) hm
 subst e
 cases r3
 refine wpAny_truthy_bool ?_
 cases k with
 |false =>
  obtain⟨k',e',q'⟩:=q3
  cases e'
  exact ite_ff ⟨H3,I3,q'⟩
 |true =>
  refine ite_tt (test_last (thn (hc pins s3 σ H3 _ I3 q3) λw' s4 ⟨z',H4,I4,r4,q4⟩=>thn (ho' pins s4 σ H4 y z' u w' _ I4 r2 r4 q4) λd' s5 ⟨z2,H5,I5,r5,k2,e2,q5⟩=>?_))
  subst e2
  cases r5
  exact wpAny_truthy_bool ⟨H5,I5,q5⟩
noncomputable def TruV (K:PySem.W.Frag) (x:V) (H:Hp) (k:Bool):Prop :=
 match x with
 |.non=>k=false
 |.bl b=>k=b
 |.int i=>k=(i != 0)
 |.str y=>y.length<=sizeLine/\k=((y.length:Int) != 0)
 |.byt y=>y.size<=sizeLine/\k=((y.size:Int) != 0)
 |.ref p=>(∃xs,SqL K H p xs/\k=!xs.isEmpty)\/(∃xs,SqT K H p xs/\k=!xs.isEmpty)\/∃kvs,H p=some (.dK kvs)/\k=!kvs.isEmpty
 |_=>False
theorem Zod {κ:Type}{kvs:List (κ×V)}{vs:List (κ×Value)} (r:KV kvs vs):(!vs.isEmpty)=!kvs.isEmpty:=by
 cases r<;>rfl
theorem ZjB {xs:List V}{its:List Value} (r:Vals xs its):(!its.toArray.isEmpty)=!xs.isEmpty:=by
 cases r<;>simp
theorem ZjC:(sizeLine:Nat)<2 ^ 63:=by rw[sizeLine_eq];decide
theorem tru_ok:TruR X (λx H Q=>∃k,TruV X.K x H k/\Q k H):=by
 intro pins s σ H x v Q I rx h
 obtain⟨k,e,q⟩:=h
 have hl:=ZjC
 have hs:sizeLine=16777216:=sizeLine_eq
 cases x with
 |non =>
  cases rx
  have e':k=false:=e
  subst e'
  exact truthy_none ⟨H,I,q⟩
 |bl b =>
  cases rx
  have e':k=b:=e
  subst e'
  exact wpAny_truthy_bool ⟨H,I,q⟩
 |int i =>
  obtain⟨t,rfl⟩:=rx
  have e':k=(i != 0):=e
  subst e'
  exact PySem.P.truthy_int ⟨H,I,q⟩
 |str y =>
  obtain⟨t,rfl⟩:=rx
  obtain⟨hy,e'⟩:y.length<=sizeLine/\k=((y.length:Int) != 0):=e
  subst e'
  exact PySem.P.truthy_str (by omega) ⟨H,I.tok _,q⟩
 |byt y =>
  obtain⟨t,rfl⟩:=rx
  obtain⟨hy,e'⟩:y.size<=sizeLine/\k=((y.size:Int) != 0):=e
  subst e'
  exact PySem.W.truthy_bytes (by omega) ⟨H,I.tok _,q⟩
 |ref p =>
  cases rx
  have e':(∃xs,SqL X.K H p xs/\k=!xs.isEmpty)\/(∃xs,SqT X.K H p xs/\k=!xs.isEmpty)\/∃kvs,H p=some (.dK kvs)/\k=!kvs.isEmpty:=e
  rcases e' with⟨xs,hx,e'⟩|⟨xs,hx,e'⟩|⟨kvs,hx,e'⟩
  ·subst e'
   obtain⟨its,r,pl,hz⟩:=I.list hx
   have hlen:=r.length
   exact wpAny_truthy_list pl.isList (by simp only[Yp];omega) ⟨H,I.tok _,by rw[ZjB r];exact q⟩
  ·subst e'
   obtain⟨its,r,pl,hz⟩:=I.tuple hx
   have hlen:=r.length
   exact truthy_tuple pl (by simp only[Yp];omega) ⟨H,I.tok _,by rw[ZjB r];exact q⟩
  ·subst e'
   obtain⟨hz,hS,vs,r,m⟩:kvs.length<=sizeLine/\(p==sysModules)=false/\∃vs,KV kvs vs/\s.heap.DictOf (ZaW X.prog X.w) p vs:=I.hok p _ hx
   have hlen:kvs.length=vs.length:=Paired.length r
   exact wpAny_truthy_dict hS m (by omega) ⟨H,I.tok _,by rw[Zod r];exact q⟩
 |_=>exact(show False from e).elim
theorem ZrO (ha:PE X a ta) (he:∀whole,isTrue a X.env whole=(do let v <-whole;standAt a.pos;holding [v] (truthy v))) :
  PT X a (fun σ H Q=>ta σ H λx H'=>∃k,TruV X.K x H' k/\Q k H'):=by
 intro pins s σ H Q I h
 exact isTrue_plain (thn (ha pins s σ H _ I h) λv s1 ⟨x,H1,I1,r1,q1⟩=>tru_ok pins s1 σ H1 x v Q I1 r1 q1) (he _)
theorem vals1 {x:V}{us:List Value} (r:Vals [x] us):∃u,us=[u]/\RelV x u:=by
 cases r with
 |cons r1 r2=>cases r2;exact⟨_,rfl,r1⟩
theorem vals2 {x y:V}{us:List Value} (r:Vals [x,y] us):∃u w',us=[u,w']/\RelV x u/\RelV y w':=by
 cases r with
 |cons r1 r2 =>
  cases r2 with
  |cons r3 r4=>cases r4;exact⟨_,_,rfl,r1,r3⟩
theorem Zd8 (hc:X.calm=true):Zcv X (.builtin "max") (λxs H Q=>∃i j,xs=[.int i,.int j]/\Q (.int (if j>i then j else i)) H):=by
 intro pins s σ H xs us Q I r h
 obtain⟨i,j,rfl,q⟩:=h
 obtain⟨u,w',rfl,⟨t,rfl⟩,⟨t',rfl⟩⟩:=vals2 r
 refine max_two_ints (I.ok.hd hc) λh' tk k=>⟨_,H,I.kept k,?_,q⟩
 by_cases hj:j>i
 ·rw[Yc hj,Yc hj];exact⟨_,rfl⟩
 ·rw[Yb hj,Yb hj];exact⟨_,rfl⟩
theorem ZpR:Zcv X (.type "int") (λxs H Q=>(∃i,xs=[.int i]/\Q (.int i) H)\/∃k,xs=[.bl k]/\Q (.int (if k then 1 else 0)) H):=by
 intro pins s σ H xs us Q I r h
 rcases h with⟨i,rfl,q⟩|⟨k,rfl,q⟩
 ·obtain⟨u,rfl,t,rfl⟩:=vals1 r
  exact call_int_int ⟨.int i,H,I,⟨_,rfl⟩,q⟩
 ·obtain⟨u,rfl,r1⟩:=vals1 r
  cases r1
  exact call_int_bool ⟨.int (if k then 1 else 0),H,I.tok _,⟨_,rfl⟩,q⟩
end
structure ObjM (h:Heap) (x dx C:Addr) (mA:Str->Option Value):Prop where
 obj:h.get? x=some (PySem.W.instObj C dx)
 ns:h.Ns1 dx mA
 ne:dx≠x
theorem ZpS {h:Heap}{dx:Addr}{mA:Str->Option Value} (n:h.Ns1 dx mA):∃od,h.get? dx=some od/\∀name,PySem.W.lookIn name od=some (mA name):=by
 obtain⟨o,es,ep,ho,hd,hk,_,hm⟩:=n
 refine⟨o,ho,λname=>?_⟩
 have e:=hm name
 unfold nsFind findBy at e
 rw[<-Array.find?_toList]at e
 unfold PySem.W.lookIn
 rw[hd]
 dsimp only
 split
 ·rename_i y q
  rw[q]at e
  exact congrArg some e
 ·rename_i q
  rw[q]at e
  have a:es.toList.any (·.refKey)=false:=by
   rw[List.any_eq_false]
   intro y hy
   obtain⟨z,t,hkey⟩:=hk y (Array.mem_toList_iff.mp hy)
   simp[DictEntry.refKey,hkey]
  have a':¬ es.toList.any (·.refKey)=true:=by rw[a];exact Yy
  rw[Yb a']
  exact congrArg some e
theorem ObjM.look {h:Heap}{x dx C:Addr}{mA:Str->Option Value} (I:ObjM h x dx C mA):∃od,PySem.W.InstAt h x (PySem.W.instObj C dx) C (some od)/\∀name,PySem.W.lookIn name od=some (mA name) :=
 let ⟨od,ho,hl⟩:=ZpS I.ns
 ⟨od,⟨I.obj,rfl,rfl,ho⟩,hl⟩
section
variable {prog:Program}{w:World}{A:Around}{E:Value->Shared->Prop}{s:Shared}{K:PySem.W.Frag}{x dx C f:Addr}{mA:Str->Option Value}{name:Str}{v:Value}
theorem get_map {expr:Bool}{Q:Value->Shared->Prop} (X:K.In s.heap) (I:ObjM s.heap x dx C mA) (hg:PySem.W.plainGet K C name=true) (hh:PySem.W.hasDictIn K C=true)
  (ha:PySem.W.findIn K (.ref C) name=some none) (hv:mA name=some v) (hv':PySem.W.handedIn v=true) (h:Q v {s with toks:=s.toks+1}) :
  wpAny (model prog w) A (getAttr (.ref x) name expr) Q E s:=by
 obtain⟨od,J,hl⟩:=I.look
 exact PySem.W.get_value X J (PySem.W.plainGet_of hg).1 (PySem.W.findObj_own hh ha rfl (by rw[hl,hv])) hv' h
theorem ZrP {pl:Sem Bool}{Q:Value×List Value->Shared->Prop} (X:K.In s.heap) (I:ObjM s.heap x dx C mA) (hg:PySem.W.plainGet K C name=true)
  (hf:PySem.W.findIn K (.ref C) name=some (some (.ref f))) (ht:PySem.W.isFn K (.ref f)=true) (hv:mA name=none) (h:Q (.ref f,[.ref x]) s) :
  wpAny (model prog w) A (getMethod (.ref x) name pl) Q E s:=by
 obtain⟨od,J,hl⟩:=I.look
 exact PySem.W.method_fn X J (PySem.W.plainGet_of hg).1 (PySem.W.plainGet_of hg).2 hf (beq_iff_eq.mp ht) (by show(PySem.W.lookIn name od).map (·.isSome)=some false;rw[hl,hv];rfl) h
theorem Zut {ns:List Str}{Q:Unit->Shared->Prop} (X:K.In s.heap) (I:ObjM s.heap x dx C mA)
  (hs:PySem.W.findIn K (.ref C) "__setattr__"=some (some (.builtin "object.__setattr__"))) (hp:PySem.W.plainOver K C=true) (ht:PySem.W.takerIn K C name=some none) (hh:PySem.W.hasDictIn K C=true)
  (hw:PySem.Within mA ns) (hsz:ns.length<=sizeLine)
  (h:∀h',ObjM h' x dx C (λy=>if y=name then some v else mA y)->Heap.SameBut dx s.heap h'->Q () {s with heap:=h',toks:=s.toks+2}) :
  wpAny (model prog w) A (setAttr (.ref x) name v) Q E s:=by
 obtain⟨od,J,hl⟩:=I.look
 refine PySem.W.set_plain X J hs (PySem.W.osa_open (s:={s with toks:=s.toks+1}) (r:=none) X J hp ht λb=>?_)
 obtain⟨cd,hc,hd'⟩:=PySem.W.any_some hh
 have hx:s.heap.get? x=some ⟨.ref C,some dx,.plain,#[]⟩:=I.obj
 refine Ya (Ye (Ya (Ya (wpAny_loadPart hx (Ya (PySem.W.Looks.here (s:={s with toks:=s.toks+1}) (PySem.W.looks_clsIn X hc) ?_))))))
 rw[hd']
 refine Ye (a:=some dx) (Ya (Ye (Ya ?_)))
 refine wpAny_nsSet1 (s:={s with toks:=s.toks+1}) I.ns λh' hn2 hs2=>?_
 obtain⟨oD,esD,epD,hoD,hdD,hcD⟩:=hn2.count (PySem.Within.cons name v hw)
 refine Ya (wpAny_lookBehind hoD (by rw[hdD];exact pastItsLine_dict (Yh hcD (by rw[Yo];omega))) ?_)
 exact Ye (h _ ⟨(hs2.2 _ (Ne.symm I.ne)).trans I.obj,hn2,I.ne⟩ hs2)
theorem ZrQ {R:Result->Shared->Prop}{vs:List Value}{kw:List (Str×Value)} (X:K.In s.heap) (hm:PySem.W.makesIn K C=true)
  (hi:PySem.W.findIn K (.ref C) "__init__"=some (some (.ref f))) (hf:PySem.W.typeIn K (.ref f)=some (.type "function"))
  (h:codeAny (model prog w) (A.under (.builtin "type.__call__" ⟨.ref C::vs,kw⟩)) (.call (.ref f) ⟨.ref (s.heap.objs.size+1)::vs,kw⟩) (PySem.W.InitBack (s.heap.objs.size+1) R)
   {s with heap:=(s.heap.push PySem.W.emptyDict).push (PySem.W.instObj C s.heap.objs.size)}) :
  codeAny (model prog w) A (.call (.ref C) ⟨vs,kw⟩) R s:=by
 obtain⟨hh,g,d,t,os⟩:=s
 exact PySem.W.make_core (PySem.W.makes_of X hm) (PySem.W.looks_findIn X hi) (λself=>PySem.W.bind_fn X self hf) (.inl rfl) h
end
noncomputable def Zbq (f:Str) (v:V):List (Str×V)->List (Str×V)
 |[]=>[(f,v)]
 |(g,x)::r=>if g=f then (g,v)::r else (g,x)::Zbq f v r
theorem Zcw (f g:Str) (v:V):∀fs:List (Str×V),(Zbq f v fs).lookup g=if g=f then some v else fs.lookup g
 |[]=>by
  show List.lookup g [(f,v)]=_
  by_cases h:g=f
  ·have hb:(g==f)=true:=beq_iff_eq.mpr h
   simp only[List.lookup,hb,Yc h]
  ·have hb:(g==f)=false:=beq_eq_false_iff_ne.mpr h
   simp only[List.lookup,hb,Yb h]
 |(k,x)::r=>by
  have ih:=Zcw f g v r
  rw[show Zbq f v ((k,x)::r)=(if k=f then (k,v)::r else (k,x)::Zbq f v r)from rfl]
  by_cases hk:k=f
  ·rw[Yc hk]
   by_cases h:g=k
   ·have hb:(g==k)=true:=beq_iff_eq.mpr h
    simp only[List.lookup,hb,Yc (h.trans hk)]
   ·have hb:(g==k)=false:=beq_eq_false_iff_ne.mpr h
    simp only[List.lookup,hb,Yb (λe:g=f=>h (e.trans hk.symm))]
  ·rw[Yb hk]
   by_cases h:g=k
   ·have hb:(g==k)=true:=beq_iff_eq.mpr h
    simp only[List.lookup,hb,Yb (λe:g=f=>hk (h.symm.trans e))]
   ·have hb:(g==k)=false:=beq_eq_false_iff_ne.mpr h
    simp only[List.lookup,hb]
    exact ih
theorem ZhW (f:Str) (v:V):∀fs:List (Str×V),f∈(Zbq f v fs).map (·.1)/\∀g,g∈fs.map (·.1)->g∈(Zbq f v fs).map (·.1)
 |[]=>⟨by simp[Zbq],λg h=>by simp at h⟩
 |(k,x)::r=>by
  obtain⟨i1,i2⟩:=ZhW f v r
  rw[show Zbq f v ((k,x)::r)=(if k=f then (k,v)::r else (k,x)::Zbq f v r)from rfl]
  by_cases hk:k=f
  ·rw[Yc hk]
   subst hk
   exact⟨by simp,λg h=>by simpa using h⟩
  ·rw[Yb hk]
   refine⟨?_,λg h=>?_⟩
   ·rw[YE]
    exact YJ _ i1
   ·rw[YE]at h⊢
    rcases Yl.mp h with e|e
    ·exact Yl.mpr (.inl e)
    ·exact YJ _ (i2 g e)
theorem ZaY (f:Str) (v:V):∀fs:List (Str×V),(Zbq f v fs).length<=fs.length+1
 |[]=>by simp[Zbq]
 |(k,x)::r=>by
  have ih:=ZaY f v r
  rw[show Zbq f v ((k,x)::r)=(if k=f then (k,v)::r else (k,x)::Zbq f v r)from rfl]
  by_cases hk:k=f
  ·rw[Yc hk,Yo,Yo];omega
  ·rw[Yb hk,Yo,Yo];omega
theorem Zfa.some_of {v:V}{o:Option Value} (r:Zfa (some v) o):∃u,o=some u/\RelV v u:=by
 cases o with
 |none=>exact(show False from r).elim
 |some u=>exact⟨u,rfl,r⟩
theorem Zfa.none_of {o:Option Value} (r:Zfa none o):o=none:=by
 cases o with
 |none=>rfl
 |some u=>exact(show False from r).elim
theorem ZpT {v:V}{u:Value} (r:RelV v u):PySem.W.handedIn u=true:=by
 cases v with
 |non=>cases(show u=Value.none from r);rfl
 |bl b=>cases(show u=Value.bool b from r);rfl
 |int i=>obtain⟨t,e⟩:=(show ∃t,u=Value.int i t from r);cases e;rfl
 |str x=>obtain⟨t,e⟩:=(show ∃t,u=Value.str x t from r);cases e;rfl
 |byt b=>obtain⟨t,e⟩:=(show ∃t,u=Value.bytes b t from r);cases e;rfl
 |flt b=>obtain⟨t,e⟩:=(show ∃t,u=Value.float b t from r);cases e;rfl
 |ref a=>cases(show u=Value.ref a from r);rfl
 |ty n=>cases(show u=Value.type n from r);rfl
section
variable {P:Program}{w:World}{H H':Hp}{h h':Heap}{a C dx:Addr}{fs fs':List (Str×V)}
theorem Zjc (hok:HOk P w H h) (e:H a=some (.ins C dx fs)):∃mA,ObjM h a dx C mA/\(∀f,Zfa (fs.lookup f) (mA f))/\PySem.Within mA (fs.map (·.1))/\fs.length<=1000/\H dx=some (.own a):=by
 obtain⟨d,z,ne,ob,mA,n,r,q⟩:=(show ZY P w H h a (.ins C dx fs)from hok a _ e)
 exact⟨mA,⟨ob,n,ne⟩,r,q,z,d⟩
end
structure Cls (K:PySem.W.Frag) (C:Addr):Prop where
 pg:PySem.W.plainGet K C Str.empty=true
 hd:PySem.W.hasDictIn K C=true
 po:PySem.W.plainOver K C=true
 sa:PySem.W.findIn K (.ref C) "__setattr__"=some (some (.builtin "object.__setattr__"))
theorem Cls.get {K:PySem.W.Frag}{C:Addr} (c:Cls K C) (f:Str):PySem.W.plainGet K C f=true:=c.pg
noncomputable def NoAttr (K:PySem.W.Frag) (C:Addr) (f:Str):Prop:=PySem.W.findIn K (.ref C) f=some none
theorem NoAttr.taker {K:PySem.W.Frag}{C:Addr}{f:Str} (n:NoAttr K C f):PySem.W.takerIn K C f=some none:=by
 unfold PySem.W.takerIn
 rw[show PySem.W.findIn K (.ref C) f=some none from n]
 rfl
structure Meth (K:PySem.W.Frag) (C:Addr) (m:Str) (f:Addr):Prop where
 at_:PySem.W.findIn K (.ref C) m=some (some (.ref f))
 fn:PySem.W.isFn K (.ref f)=true
 kp:PySem.W.keepIn K (.ref f)=true
section
variable {X:Cx}{pins:List (Addr×Obj)}{σ:St}{H:Hp}{s:Shared}{a C dx:Addr}{fs:List (Str×V)}{f:Str}{v:V}{A:Around}{E:Value->Shared->Prop}
theorem Zoe {b:Bool}{Q:Value->Shared->Prop} (I:Inv X pins σ H s) (e:H a=some (.ins C dx fs)) (c:Cls X.K C) (n:NoAttr X.K C f) (l:fs.lookup f=some v)
  (h:∀u s',Inv X pins σ H s'->RelV v u->Q u s'):wpAny (model X.prog X.w) A (getAttr (.ref a) f b) Q E s:=by
 obtain⟨mA,O,r,_,_,_⟩:=Zjc I.hok e
 obtain⟨u,hu,ru⟩:=Zfa.some_of (v:=v) (o:=mA f) (by rw[<-l];exact r f)
 exact get_map I.kIn O (c.get f) c.hd n hu (ZpT ru) (h u _ (I.tok _) ru)
theorem ZjD {m:Str}{g:Addr}{pl:Sem Bool}{Q:Value×List Value->Shared->Prop} (I:Inv X pins σ H s) (e:H a=some (.ins C dx fs)) (c:Cls X.K C) (k:Meth X.K C m g) (l:fs.lookup m=none)
  (h:Q (.ref g,[.ref a]) s):wpAny (model X.prog X.w) A (getMethod (.ref a) m pl) Q E s:=by
 obtain⟨mA,O,r,_,_,_⟩:=Zjc I.hok e
 have hn:mA m=none:=Zfa.none_of (by rw[<-l];exact r m)
 exact ZrP I.kIn O (c.get m) k.at_ k.fn hn h
theorem Zof {y:V}{u:Value}{Q:Unit->Shared->Prop} (I:Inv X pins σ H s) (e:H a=some (.ins C dx fs)) (c:Cls X.K C) (n:NoAttr X.K C f) (hl:fs.length<1000) (ry:RelV y u)
  (h:∀s',Inv X pins σ (upd H a (.ins C dx (Zbq f y fs))) s'->Q () s'):wpAny (model X.prog X.w) A (setAttr (.ref a) f u) Q E s:=by
 obtain⟨mA,O,r,wi,_,ho⟩:=Zjc I.hok e
 have hz:(fs.map (·.1)).length<=sizeLine:=by rw[Yf,sizeLine_eq];omega
 refine Zut I.kIn O c.sa c.po n.taker c.hd wi hz λh' O' sb=>h _ ?_
 have hd:∃o,h'.get? dx=some o:=let ⟨o,_,_,e',_⟩:=O'.ns;⟨o,e'⟩
 refine I.write (x:=a) (e:=dx) (by rw[e];exact True.intro) (.inr ho) (λb q hb z=>(sb.2 b hb).trans z) hd ?_
 refine⟨by rw[Zh O.ne];exact ho,?_,O.ne,O'.obj,_,O'.ns,λg=>?_,λg hg=>?_⟩
 ·have:=ZaY f y fs;omega
 ·show Zfa ((Zbq f y fs).lookup g) (if g=f then some u else mA g)
  rw[Zcw]
  by_cases q:g=f
  ·rw[Yc q,Yc q];exact ry
  ·rw[Yb q,Yb q];exact r g
 ·by_cases q:g=f
  ·rw[q];exact(ZhW f y fs).1
  ·refine(ZhW f y fs).2 g (wi g λz=>hg ?_)
   show(if g=f then some u else mA g)=none
   rw[Yb q];exact z
theorem Inv.made (I:Inv X pins σ H s):Inv X pins σ (upd (upd H s.heap.objs.size (.own (s.heap.objs.size+1))) (s.heap.objs.size+1) (.ins C s.heap.objs.size []))
  {s with heap:=(s.heap.push PySem.W.emptyDict).push (PySem.W.instObj C s.heap.objs.size)}:=by
 have e1:(s.heap.push PySem.W.emptyDict).get? s.heap.objs.size=some PySem.W.emptyDict:=Yk s.heap rfl
 have e2:((s.heap.push PySem.W.emptyDict).push (PySem.W.instObj C s.heap.objs.size)).get? (s.heap.objs.size+1)=some (PySem.W.instObj C s.heap.objs.size):=by
  have:=Yk (s.heap.push PySem.W.emptyDict) (o:=PySem.W.instObj C s.heap.objs.size) rfl
  rwa [Heap.size_push]at this
 have e3:(s.heap.push PySem.W.emptyDict).Ns s.heap.objs.size (λ_=>none):=⟨PySem.W.emptyDict,#[],_,e1,rfl,(λe he=>absurd he (by simp)),λ_=>rfl⟩
 have I1:=I.laid (a:=s.heap.objs.size) (o:=.own (s.heap.objs.size+1)) (h':=s.heap.push PySem.W.emptyDict) (t':=s.toks) (λb u q=>Yg _ q) (Yd _) ⟨_,e1⟩
 refine I1.laid (a:=s.heap.objs.size+1) (o:=.ins C s.heap.objs.size []) (t':=s.toks) (λb u q=>Yg _ q) (Y4 (Heap.size_push _ _)) ?_
 have ne:s.heap.objs.size≠s.heap.objs.size+1:=Yn (Nat.lt_succ_self _)
 refine⟨by rw[Zh ne,Zb],Ys _,ne,e2,λ_=>none,(Heap.Ns1.of_empty e3).at λo q=>Yg _ q,λ_=>True.intro,λy hy=>absurd rfl hy⟩
theorem Zuu {prog:Program}{w:World}{env:Env}{e:Expr}{f:Str}{pos:Pos}{s:Shared}{Q:Value->Shared->Prop} (hb:attributeBase e f env (eval e env)=eval e env)
  (h:wpAny (model prog w) A (eval e env) (λo s₁=>wpAny (model prog w) A (getAttr o f true) Q E s₁) E s):wpAny (model prog w) A (eval (.Attribute e f pos) env) Q E s :=
 Attribute_any_ h (by rw[arm_eval_Attribute,hb])
end
section
variable {X:Cx}{pins:List (Addr×Obj)}{σ:St}{H:Hp}{s:Shared}{A:Around}{E:Value->Shared->Prop}{Q:Value->Shared->Prop}{c:Value}{b:Bool}
inductive TyOf (K:PySem.W.Frag) (H:Hp):V->Value->Prop where
 |non:TyOf K H .non (.type "NoneType")
 |bl (x:Bool):TyOf K H (.bl x) (.type "bool")
 |int (i:Int):TyOf K H (.int i) (.type "int")
 |str (x:Str):TyOf K H (.str x) (.type "str")
 |flt (x:UInt64):TyOf K H (.flt x) (.type "float")
 |lst {a:Addr}{xs:List V} (e:H a=some (.lst xs)):TyOf K H (.ref a) (.type "list")
 |frz {a:Addr}{o:Obj}{xs:List V} (e:H a=some (.frz o (.lst xs))):TyOf K H (.ref a) (.type "list")
 |tup {a:Addr}{xs:List V} (e:H a=some (.tup xs)):TyOf K H (.ref a) (.type "tuple")
 |dK {a:Addr}{kvs:List (Key×V)} (e:H a=some (.dK kvs)):TyOf K H (.ref a) (.type "dict")
 |dT {a:Addr}{kvs:List (List Key×V)} (e:H a=some (.dT kvs)):TyOf K H (.ref a) (.type "dict")
 |ins {a C dx:Addr}{fs:List (Str×V)} (e:H a=some (.ins C dx fs)) (cl:Cls K C) (ha:PySem.W.findIn K (.ref C) "__class__"=some (some (.builtin "object.__class__")))
   (hn:PySem.W.specialIn K (.builtin "object.__class__") "__get__"=some (some (.builtin "getset_descriptor.__get__"))) (htk:PySem.W.takesIn K (.builtin "object.__class__")=some true)
   (hm:PySem.W.mroIn K C (.type "object")=some true):TyOf K H (.ref a) (.ref C)
theorem ZpU {x:V}{u t:Value} (I:Inv X pins σ H s) (rx:RelV x u) (ty:TyOf X.K H x t) (e:PySem.W.kitOne X.K t c=some b) (h:∀tk,Q (.bool b) {s with toks:=tk}) :
  wpAny (model X.prog X.w) A (call (.builtin "isinstance") [u,c]) Q E s:=by
 cases ty with
 |non=>cases(show u=Value.none from rx);exact PySem.W.kia_one PySem.W.kitx_none I.kIn True.intro e (λz=>nomatch z) h
 |bl y=>cases(show u=Value.bool y from rx);exact PySem.W.kia_one PySem.W.kitx_bool I.kIn True.intro e (λz=>nomatch z) h
 |int i=>obtain⟨t,q⟩:=(show ∃t,u=Value.int i t from rx);cases q;exact PySem.W.kia_one PySem.W.kitx_int I.kIn True.intro e (λz=>nomatch z) h
 |str y=>obtain⟨t,q⟩:=(show ∃t,u=Value.str y t from rx);cases q;exact PySem.W.kia_one PySem.W.kitx_str I.kIn True.intro e (λz=>nomatch z) h
 |flt y=>obtain⟨t,q⟩:=(show ∃t,u=Value.float y t from rx);cases q;exact PySem.W.kia_one PySem.W.kitx_float I.kIn True.intro e (λz=>nomatch z) h
 |@lst a xs ea =>
  cases(show u=Value.ref a from rx)
  obtain⟨_,_,n,_,h1⟩:=(show ZY X.prog X.w H s.heap a (.lst xs)from I.hok a _ ea)
  exact PySem.W.kia_one PySem.W.kitx_list I.kIn ⟨_,h1,rfl⟩ e (λz=>nomatch z) h
 |@frz a ob xs ea =>
  cases(show u=Value.ref a from rx)
  obtain⟨_,_,_,n,_,h1⟩:=(show ZY X.prog X.w H s.heap a (.frz ob (.lst xs))from I.hok a _ ea)
  exact PySem.W.kia_one PySem.W.kitx_list I.kIn ⟨_,h1,rfl⟩ e (λz=>nomatch z) h
 |@tup a xs ea =>
  cases(show u=Value.ref a from rx)
  obtain⟨_,_,_,p⟩:=(show ZY X.prog X.w H s.heap a (.tup xs)from I.hok a _ ea)
  obtain⟨o,h1,h2,_⟩:=p
  exact PySem.W.kia_one PySem.W.kitx_tuple I.kIn ⟨o,h1,h2⟩ e (λz=>nomatch z) h
 |@dK a kvs ea =>
  cases(show u=Value.ref a from rx)
  obtain⟨_,_,vs,_,p⟩:=(show ZY X.prog X.w H s.heap a (.dK kvs)from I.hok a _ ea)
  obtain⟨o,es,ep,h1,h2,_⟩:=p
  exact PySem.W.kia_one PySem.W.kitx_dict I.kIn ⟨o,h1,h2.1⟩ e (λz=>nomatch z) h
 |@dT a kvs ea =>
  cases(show u=Value.ref a from rx)
  obtain⟨_,_,xs,_,o,es,ep,h1,h2,_⟩:=(show ZY X.prog X.w H s.heap a (.dT kvs)from I.hok a _ ea)
  exact PySem.W.kia_one PySem.W.kitx_dict I.kIn ⟨o,h1,h2.1⟩ e (λz=>nomatch z) h
 |@ins a C dx fs ea cl ha hn htk hm =>
  cases(show u=Value.ref a from rx)
  obtain⟨mA,O,_⟩:=Zjc I.hok ea
  obtain⟨od,J,_⟩:=O.look
  exact PySem.W.kia_one (PySem.W.kitx_own (cl.get _) cl.hd ha hn htk hm) I.kIn J e (λz=>nomatch z) h
end
structure Room (k:Nat) (A:Around):Prop where
 hd:A.handled=none
 dp:A.depth+3*k+5<recursionLimit
 un:A.units+16*k+200<cLine
theorem Room.mono {j k:Nat}{A:Around} (r:Room k A) (h:j<=k):Room j A:=⟨r.hd,by have:=r.dp;omega,by have:=r.un;omega⟩
theorem Room.deeper {k:Nat}{A:Around} (r:Room (k+1) A) (env:Env):Room k (A.deeper env) :=
 ⟨r.hd,by have:=r.dp;show A.depth+1+3*k+5 < _;omega,by have:=r.un;show A.units+3+16*k+200 < _;omega⟩
theorem Room.in1 {k:Nat}{A:Around} (r:Room (k+1) A):Room k A.in1 :=
 ⟨r.hd,by have:=r.dp;show A.depth+3*k+5 < _;omega,by have:=r.un;show A.units+1+16*k+200 < _;omega⟩
theorem Zog {A:Around}{C:Addr}{us:List Value}{kw:List (Str×Value)}:(A.under (.builtin "type.__call__" ⟨.ref C::us,kw⟩)).depth=A.depth+1:=by
 first|rfl|simp[Around.under,Code.weight,Code.isCreation,Code.isGuard,Code.isCaller,Code.frames,Code.isFrame,guardIds]
theorem Zoh {A:Around}{C:Addr}{us:List Value}{kw:List (Str×Value)}:(A.under (.builtin "type.__call__" ⟨.ref C::us,kw⟩)).units=A.units+1:=by
 first|rfl|simp[Around.under,Code.cUnits,Code.frames,Code.isFrame]
theorem Room.make {k:Nat}{A:Around} (r:Room (k+1) A) (C:Addr) (us:List Value) (kw:List (Str×Value)):Room k (A.under (.builtin "type.__call__" ⟨.ref C::us,kw⟩)) :=
 ⟨r.hd,by have:=r.dp;rw[Zog];omega,by have:=r.un;rw[Zoh];omega⟩
theorem Room.depth {k:Nat}{A:Around} (r:Room k A):A.depth<recursionLimit:=by have:=r.dp;omega
theorem Room.units {k:Nat}{A:Around} (r:Room k A):A.units+64<cLine:=by have:=r.un;omega
noncomputable def tNil:TA:=λ_ H Q=>Q [] H
noncomputable def ZrR (ta:TE) (tr:TA):TA:=fun σ H Q=>ta σ H λx H1=>tr σ H1 λxs H2=>Q (x::xs) H2
section
variable {X:Cx}{e:Expr}{es:List Expr}{te:TE}{t:TA}{pos:Pos}
theorem Zc:PA X [] tNil:=λ_ _ _ _ H Q I h=>Calls.spliced_nil ⟨[],H,I,.nil,h⟩
theorem Za (ha:PE X e te) (hr:PA X es t) (hs:starEach (e::es) X.env=(false,eval e X.env)::starEach es X.env:=by rfl):PA X (e::es) (ZrR te t):=by
 intro pos pins s σ H Q I h
 rw[hs]
 show wpAny _ _ (spliced ((false,eval e X.env)::backTo pos (starEach es X.env))) _ _ s
 refine Calls.spliced_cons (thn (ha pins s σ H _ I h) λu s1 ⟨x,H1,I1,r1,q1⟩=>?_)
 exact thn (hr pos pins s1 σ H1 _ I1 q1) λus s2 ⟨xs,H2,I2,r2,q2⟩=>⟨x::xs,H2,I2,.cons r1 r2,q2⟩
noncomputable def tTup (t:TA):TE:=fun σ H Q=>t σ H λxs H1=>xs.length<=sizeLine/\∀p,H1 p=none->Q (.ref p) (upd H1 p (.tup xs))
noncomputable def tLst (t:TA):TE:=fun σ H Q=>t σ H λxs H1=>xs.length<=sizeLine/\∀p,H1 p=none->Q (.ref p) (upd H1 p (.lst xs))
theorem Zfi {x1} (h:PA X es t):PE X (.Tuple es x1 pos) (tTup t):=by
 intro pins s σ H Q I hq
 refine wpAny_Tuple_spliced (thn (h pos pins s σ H _ I hq) λus s1 ⟨xs,H1,I1,r,z,q⟩=>⟨by rw[<-r.length];exact z,?_⟩)
 have hf:H1 s1.heap.objs.size=none:=I1.hok.fresh (Yd _)
 refine⟨.ref s1.heap.objs.size,upd H1 s1.heap.objs.size (.tup xs),I1.laid (t':=s1.toks) (λb u e=>Yg _ e) (Yd _) ?_,rfl,q _ hf⟩
 exact⟨z,us,r,⟨_,Yk _ rfl,rfl,_,rfl⟩⟩
theorem Z1 (h:PA X es t):PE X (.List es pos) (tLst t):=by
 intro pins s σ H Q I hq
 refine wpAny_List_spliced (thn (h pos pins s σ H _ I hq) λus s1 ⟨xs,H1,I1,r,z,q⟩=>⟨by rw[<-r.length];exact z,?_⟩)
 have hf:H1 s1.heap.objs.size=none:=I1.hok.fresh (Yd _)
 refine⟨.ref s1.heap.objs.size,upd H1 s1.heap.objs.size (.lst xs),I1.laid (t':=s1.toks) (λb u e=>Yg _ e) (Yd _) ?_,rfl,q _ hf⟩
 exact⟨z,us,0,r,Yk _ rfl⟩
end
noncomputable abbrev Sp:=List V->Hp->VK->XK->Prop
noncomputable abbrev CXT:=List Env->Hp->Shared->XK->Value->Shared->Prop
structure Env0 (P:Program) (w:World) (K:PySem.W.Frag) (mg:Str->Option Value) (base:Heap) (A:Around) (outer:List Env) (s:Shared) (H:Hp):Prop where
 frames:A.frames=some outer
 mod:Mod K mg base
 bs:∀b o,base.get? b=some o->s.heap.get? b=some o/\H b=none
 bsz:base.objs.size<=s.heap.objs.size
 funs:s.heap.FunFrames base outer
 frf:∀b∈frs outer,H b=none
 hok:HOk P w H s.heap
 bare:AllBare s.gens
noncomputable def CE (outer:List Env) (P:Program) (w:World) (H:Hp) (s:Shared) (Q:VK) (u:Value) (s':Shared):Prop :=
 ∃v H',s'.os=s.os/\AllBare s'.gens/\Un (frs outer) [] H H' s.heap s'.heap/\HOk P w H' s'.heap/\RelV v u/\Q v H'
noncomputable def CR (CX:CXT) (outer:List Env) (P:Program) (w:World) (H:Hp) (s:Shared) (Q:VK) (E:XK) (r:Result) (s':Shared):Prop :=
 match r with
 |.ok (.ret u)=>CE outer P w H s Q u s'
 |.ok _=>False
 |.error e=>CX outer H s E e s'
structure FnOk (P:Program) (w:World) (K:PySem.W.Frag) (mg:Str->Option Value) (base:Heap) (CX:CXT) (k:Nat) (f:Addr) (fd:FuncData) (ps:List Str) (sp:Sp):Prop where
 len:∀vs H Q E,sp vs H Q E->vs.length=ps.length
 run:∀(A:Around) (outer:List Env) (s:Shared) (H:Hp) (args:Args) (us:List Value) (vs:List V) (Q:VK) (E:XK),Room k A->Env0 P w K mg base A outer s H->BindsTo s fd args (ps.zip us)->Vals vs us->sp vs H Q E ->
  codeAny (model P w) A (.call (.ref f) args) (CR CX outer P w H s Q E) s
theorem Env0.make {P:Program}{w:World}{K:PySem.W.Frag}{mg:Str->Option Value}{base:Heap}{A:Around}{outer:List Env}{s:Shared}{H:Hp} (e:Env0 P w K mg base A outer s H) (C:Addr) (us:List Value) (kw:List (Str×Value)) :
  Env0 P w K mg base (A.under (.builtin "type.__call__" ⟨.ref C::us,kw⟩)) outer s H:=⟨by first|exact e.frames|(simpa[Around.under,Code.envs,Code.isFrame,pushEnvs]using e.frames),e.mod,e.bs,e.bsz,e.funs,e.frf,e.hok,e.bare⟩
section
variable {X:Cx}{pins:List (Addr×Obj)}{σ:St}{H:Hp}{s s':Shared}
theorem Inv.env0 (I:Inv X pins σ H s):Env0 X.prog X.w X.K X.mg X.base X.A X.stack s H :=
 ⟨I.ok.frames,I.ok.mod,I.bs,Yh I.ok.bsz I.sz,I.stack,I.Zja,I.hok,I.bare⟩
theorem Inv.after {Q:VK}{u:Value} (I:Inv X pins σ H s) (h:CE X.stack X.prog X.w H s Q u s'):EP X pins σ Q u s':=by
 obtain⟨v,H',os,bare,un,hok,r,q⟩:=h
 obtain⟨hh,g,d,t,os'⟩:=s'
 obtain rfl:os'=s.os:=os
 exact⟨v,H',I.call (h':=hh) (g':=g) (d':=d) (t':=t) (ch:=[]) un hok bare (λb z=>absurd z (by simp)),r,q⟩
end
noncomputable def ZrS (sp:Sp) (dvs:List V) (E:XK) (t:TA):TE:=fun σ H Q=>t σ H λvs H1=>sp (vs++dvs) H1 Q E
noncomputable def ZmN (C:Addr) (m:Str) (sp:Sp) (dvs:List V) (E:XK) (ta:TE) (t:TA):TE:=fun σ H Q=>ta σ H λx H1=>∃a dx fs,x=.ref a/\H1 a=some (.ins C dx fs)/\fs.lookup m=none /\
 t σ H1 λvs H2=>sp (x::(vs++dvs)) H2 Q E
noncomputable def ZrT (C:Addr) (sp:Sp) (dvs:List V) (E:XK) (t:TA):TE:=fun σ H Q=>t σ H λvs H1=>∀x dx,H1 x=none->H1 dx=none->dx≠x ->
 sp (.ref x::(vs++dvs)) (upd (upd H1 dx (.own x)) x (.ins C dx [])) (λv H2=>v=.non/\Q (.ref x) H2) E
noncomputable def Binds (K:PySem.W.Frag) (fd:FuncData) (ps:List Str) (ds:List Value):Prop :=
 ∀(s:Shared) (us:List Value),K.In s.heap->(us++ds).length=ps.length->BindsTo s fd ⟨us,[]⟩ (ps.zip (us++ds))
theorem Binds.all {K:PySem.W.Frag}{fd:FuncData}{ps:List Str} (h:∀us:List Value,us.length=ps.length->bindArgs fd ⟨us,[]⟩=pure (ps.zip us)):Binds K fd ps []:=λs us _ hl=>by
 rw[List.append_nil]at hl⊢
 exact .of_eq (h us hl)
noncomputable def Passes (CX:CXT) (X:Cx) (E:XK):Prop:=∀(pins:List (Addr×Obj)) (σ:St) (H:Hp) (s:Shared) (e:Value) (s':Shared),Inv X pins σ H s->CX X.stack H s E e s'->X.xe e s'
section
variable {X:Cx}{CX:CXT}{k:Nat}{f C:Addr}{fd:FuncData}{ps:List Str}{sp:Sp}{dvs:List V}{ds:List Value}{E:XK}{x m:Str}{p pos apos:Pos}{e o:Expr}{es:List Expr}{ta:TE}{t:TA}
theorem Zoi {pins:List (Addr×Obj)}{σ:St}{H:Hp}{s:Shared}{Q:VK}{us:List Value}{vs:List V} (F:FnOk X.prog X.w X.K X.mg X.base CX k f fd ps sp) (hr:Room k X.A) (hb:Binds X.K fd ps ds) (hd:Vals dvs ds) (hx:Passes CX X E)
  (I:Inv X pins σ H s) (r:Vals vs us) (h:sp (vs++dvs) H Q E):wpAny (model X.prog X.w) X.A (call (.ref f) us) (EP X pins σ Q) X.xe s:=by
 have r2:Vals (vs++dvs) (us++ds):=r.append hd
 have hl:(us++ds).length=ps.length:=by rw[<-r2.length];exact F.len _ _ _ _ h
 refine wpAny_call (codeAny_mono (F.run X.A X.stack s H ⟨us,[]⟩ (us++ds) (vs++dvs) Q E hr I.env0 (hb s us I.kIn hl) r2 h) λr s' hq=>?_)
 cases r with
 |error e=>exact hx pins σ H s e s' I hq
 |ok fl =>
  cases fl with
  |ret u=>exact I.after hq
  |next=>exact False.elim hq
  |brk=>exact False.elim hq
  |cont=>exact False.elim hq
theorem Zuv (F:FnOk X.prog X.w X.K X.mg X.base CX k f fd ps sp) (hr:Room k X.A) (hg:Gl X x) (hm:X.mg x=some (.ref f)) (hk:PySem.W.keepIn X.K (.ref f)=true) (hb:Binds X.K fd ps ds) (hd:Vals dvs ds) (hx:Passes CX X E)
  (ha:PA X (e::es) t) (hdb:(x==("__debug__":Str))=false:=by decide) (he:starEach (e::es) X.env=(false,eval e X.env)::starEach es X.env:=by rfl) (hpl:(backTo pos (starEach es X.env)).any (·.1)=false:=by rfl) :
  PE X (.Call (.Name x p) (e::es) [] pos) (ZrS sp dvs E t):=by
 intro pins s σ H Q I h
 refine wpAny_Call_Name_kw (Zjb I hg hm ?_ hdb)
 refine PySem.W.callWith_K (h₀:=X.base) I.ok.mod.kin hk (thn (ha pos pins s σ H _ I h) λus s1 ⟨vs,H1,I1,r,q⟩=>⟨I1.kIn,?_⟩) he hpl
 exact Zoi F hr hb hd hx I1 r q
theorem Zuw {pl:Sem Bool} (he:PE X o ta) (c:Cls X.K C) (hm:Meth X.K C m f) (F:FnOk X.prog X.w X.K X.mg X.base CX k f fd ps sp) (hr:Room k X.A) (hb:Binds X.K fd ps ds) (hd:Vals dvs ds) (hx:Passes CX X E) (ha:PA X (e::es) t)
  (hst:starEach (e::es) X.env=(false,eval e X.env)::starEach es X.env:=by rfl) (hpl:(backTo pos (starEach es X.env)).any (·.1)=false:=by rfl)
  (ht:eval (.Call (.Attribute o m apos) (e::es) [] pos) X.env=(do
   let ov <-eval o X.env
   standAt apos.atName
   let (f,first) <-holding [ov] (getMethod ov m pl)
   callWith pos f first (backTo pos (starEach (e::es) X.env)) (backToKw pos (keywordEach [] X.env))):=by rfl) :
  PE X (.Call (.Attribute o m apos) (e::es) [] pos) (ZmN C m sp dvs E ta t):=by
 intro pins s σ H Q I h
 refine PySem.W.methodCall_KW (pl:=pl) (thn (he pins s σ H _ I h) λu s1 ⟨x,H1,I1,rx,a,dx,fs,ex,ea,l,q⟩=>?_) ht
 subst ex
 obtain rfl:u=Value.ref a:=rx
 refine ZjD I1 ea c hm l ?_
 refine PySem.W.callWith_K (first:=[.ref a]) (h₀:=X.base) I.ok.mod.kin hm.kp (thn (ha pos pins s1 σ H1 _ I1 q) λus s2 ⟨vs,H2,I2,r,q2⟩=>⟨I2.kIn,?_⟩) hst hpl
 exact Zoi (us:=.ref a::us) (vs:=.ref a::vs) F hr hb hd hx I2 (.cons rfl r) q2
theorem ZrU {pl:Sem Bool} (he:PE X o ta) (c:Cls X.K C) (hm:Meth X.K C m f) (F:FnOk X.prog X.w X.K X.mg X.base CX k f fd ps sp) (hr:Room k X.A) (hb:Binds X.K fd ps ds) (hd:Vals dvs ds) (hx:Passes CX X E)
  (ht:eval (.Call (.Attribute o m apos) [] [] pos) X.env=(do
   let ov <-eval o X.env
   standAt apos.atName
   let (f,first) <-holding [ov] (getMethod ov m pl)
   callWith pos f first (backTo pos (starEach [] X.env)) (backToKw pos (keywordEach [] X.env))):=by rfl) :
  PE X (.Call (.Attribute o m apos) [] [] pos) (ZmN C m sp dvs E ta tNil):=by
 intro pins s σ H Q I h
 refine PySem.W.methodCall_KW (pl:=pl) (thn (he pins s σ H _ I h) λu s1 ⟨x,H1,I1,rx,a,dx,fs,ex,ea,l,q⟩=>?_) ht
 subst ex
 obtain rfl:u=Value.ref a:=rx
 refine ZjD I1 ea c hm l ?_
 exact PySem.W.callWith_K0 (first:=[.ref a]) I1.kIn hm.kp (Zoi (us:=[.ref a]) (vs:=[.ref a]) F hr hb hd hx I1 (.cons rfl .nil) q)
structure Mk (K:PySem.W.Frag) (C f:Addr):Prop where
 makes:PySem.W.makesIn K C=true
 init:PySem.W.findIn K (.ref C) "__init__"=some (some (.ref f))
 fn:PySem.W.isFn K (.ref f)=true
 kp:PySem.W.keepIn K (.ref C)=true
theorem ZrV {pins:List (Addr×Obj)}{σ:St}{H:Hp}{s:Shared}{Q:VK}{us:List Value}{vs:List V} (M:Mk X.K C f) (F:FnOk X.prog X.w X.K X.mg X.base CX k f fd ps sp) (hr:Room (k+1) X.A) (hb:Binds X.K fd ps ds) (hd:Vals dvs ds)
  (hx:Passes CX X E) (I:Inv X pins σ H s) (r:Vals vs us)
  (h:∀x dx,H x=none->H dx=none->dx≠x->sp (.ref x::(vs++dvs)) (upd (upd H dx (.own x)) x (.ins C dx [])) (λv H2=>v=.non/\Q (.ref x) H2) E) :
  wpAny (model X.prog X.w) X.A (call (.ref C) us) (EP X pins σ Q) X.xe s:=by
 have hq:=h (s.heap.objs.size+1) s.heap.objs.size (I.hok.fresh (YZ _)) (I.hok.fresh (Yd _)) (Yn (Nat.lt_succ_self _))
 have I2:=Inv.made (C:=C) I
 have r2:Vals (V.ref (s.heap.objs.size+1)::(vs++dvs)) (Value.ref (s.heap.objs.size+1)::(us++ds)):=.cons rfl (r.append hd)
 have hl:(Value.ref (s.heap.objs.size+1)::us++ds).length=ps.length:=by
  have e:=r2.length
  rw[F.len _ _ _ _ hq]at e
  exact e.symm
 refine wpAny_call (ZrQ (f:=f) I.kIn M.makes M.init (beq_iff_eq.mp M.fn) (codeAny_mono (F.run _ X.stack _ _ ⟨Value.ref (s.heap.objs.size+1)::us,[]⟩ (Value.ref (s.heap.objs.size+1)::(us++ds)) _ _ E (hr.make C us [])
  (I2.env0.make C us []) (hb _ (Value.ref (s.heap.objs.size+1)::us) I2.kIn hl) r2 hq) λr s' hq'=>?_))
 cases r with
 |error e=>exact hx pins σ _ _ e s' I2 hq'
 |ok fl =>
  cases fl with
  |ret u =>
   obtain⟨v,H',I3,rv,ev,q3⟩:=I2.after hq'
   subst ev
   exact⟨rv,⟨V.ref (s.heap.objs.size+1),H',I3,rfl,q3⟩⟩
  |next=>exact False.elim hq'
  |brk=>exact False.elim hq'
  |cont=>exact False.elim hq'
theorem Zux (M:Mk X.K C f) (F:FnOk X.prog X.w X.K X.mg X.base CX k f fd ps sp) (hr:Room (k+1) X.A) (hg:Gl X x) (hm:X.mg x=some (.ref C)) (hb:Binds X.K fd ps ds) (hd:Vals dvs ds) (hx:Passes CX X E)
  (ha:PA X (e::es) t) (hdb:(x==("__debug__":Str))=false:=by decide) (he:starEach (e::es) X.env=(false,eval e X.env)::starEach es X.env:=by rfl) (hpl:(backTo pos (starEach es X.env)).any (·.1)=false:=by rfl) :
  PE X (.Call (.Name x p) (e::es) [] pos) (ZrT C sp dvs E t):=by
 intro pins s σ H Q I h
 refine wpAny_Call_Name_kw (Zjb I hg hm ?_ hdb)
 refine PySem.W.callWith_K (h₀:=X.base) I.ok.mod.kin M.kp (thn (ha pos pins s σ H _ I h) λus s1 ⟨vs,H1,I1,r,q⟩=>⟨I1.kIn,?_⟩) he hpl
 exact ZrV M F hr hb hd hx I1 r q
end
noncomputable def PK (X:Cx) (kws:List Keyword) (t:TA):Prop :=
 ∀(pos:Pos) (pins:List (Addr×Obj)) (s:Shared) (σ:St) (H:Hp) (Q:List V->Hp->Prop),Inv X pins σ H s->t σ H Q->wpAny (model X.prog X.w) X.A (evalAll ((backToKw pos (keywordEach kws X.env)).map (·.2))) (AP X pins σ Q) X.xe s
section
variable {X:Cx}{CX:CXT}{k:Nat}{f C:Addr}{fd:FuncData}{ps ks:List Str}{sp:Sp}{E:XK}{x m:Str}{p pos apos kpos:Pos}{e o:Expr}{es:List Expr}{kws:List Keyword}{te ta:TE}{t tk:TA}{nm:Option Str}
theorem pk_nil:PK X [] tNil:=λ_ _ _ _ H Q I h=>wpAny_evalAll_nil ⟨[],H,I,.nil,h⟩
theorem Zpg (ha:PE X e te) (hr:PK X kws t):PK X (⟨nm,e,kpos⟩::kws) (ZrR te t):=by
 intro pos pins s σ H Q I h
 show wpAny _ _ (evalAll ((do let v <-eval e X.env;standAt pos;pure v)::(backToKw pos (keywordEach kws X.env)).map (·.2))) _ _ s
 refine wpAny_evalAll_cons (Ya (thn (ha pins s σ H _ I h) λu s1 ⟨x,H1,I1,r1,q1⟩=>Ya (wpAny_standAt (Ye ?_))))
 exact thn (hr pos pins s1 σ H1 _ I1 q1) λus s2 ⟨xs,H2,I2,r2,q2⟩=>⟨x::xs,H2,I2,.cons r1 r2,q2⟩
variable {g:List Value->List Value->List Value}{gV:List V->List V->List V}
end
structure FnScope (N P:List Str) (sc:Scope):Prop where
 kind:sc.kind=.function
 co:sc.isCoroutine=false
 gen:sc.isGenerator=false
 nd:N.Nodup
 pre:N.take P.length=P
 par:∀x∈P,sc.names.lookup x=some .local\/sc.names.lookup x=some .cell
 nofree:∀y∈sc.names,y.2≠.free
theorem Zla {kindOf:Str->Option NameKind}{x:Str}:∀{binds:List (Str×Value)}{m:Str->Option Value},(∀v,(x,v)∉binds)->bindL kindOf binds m x=m x
 |[],_,_=>rfl
 |(n,v)::r,m,h=>by
  unfold bindL
  rw[Zla λw hw=>h w (YJ _ hw)]
  split
  ·have:x≠n:=by rintro rfl;exact h v YI
   simp[this]
  ·rfl
theorem Zlb {kindOf:Str->Option NameKind}{x:Str}:∀{binds:List (Str×Value)}{m:Str->Option Value},(∀v,(x,v)∉binds)->bindC kindOf binds m x=m x
 |[],_,_=>rfl
 |(n,v)::r,m,h=>by
  unfold bindC
  rw[Zlb λw hw=>h w (YJ _ hw)]
  split
  ·rfl
  ·have:x≠n:=by rintro rfl;exact h v YI
   simp[this]
theorem Zlc {kindOf:Str->Option NameKind}{x:Str}{v:Value}:∀{P:List Str}{vs:List Value}{i:Nat}{m:Str->Option Value},P.Nodup->P[i]?=some x->vs[i]?=some v->kindOf x=some .local ->
  bindL kindOf (P.zip vs) m x=some v
 |[],_,_,_,_,h,_,_=>by simp at h
 |_::_,[],_,_,_,_,h,_=>by simp at h
 |p::P,w::vs,0,m,nd,h1,h2,hk=>by
  simp at h1 h2;subst h1;subst h2
  show bindL kindOf ((p,w)::P.zip vs) m p=_
  unfold bindL
  rw[Zla λv hv=>(List.nodup_cons.mp nd).1 (List.of_mem_zip hv).1,Yc hk]
  simp
 |p::P,w::vs,i+1,m,nd,h1,h2,hk=>by
  show bindL kindOf ((p,w)::P.zip vs) m x=_
  unfold bindL
  exact Zlc (i:=i) (List.nodup_cons.mp nd).2 (by simpa using h1) (by simpa using h2) hk
theorem Zld {kindOf:Str->Option NameKind}{x:Str}{v:Value}:∀{P:List Str}{vs:List Value}{i:Nat}{m:Str->Option Value},P.Nodup->P[i]?=some x->vs[i]?=some v->kindOf x≠some .local ->
  bindC kindOf (P.zip vs) m x=some v
 |[],_,_,_,_,h,_,_=>by simp at h
 |_::_,[],_,_,_,_,h,_=>by simp at h
 |p::P,w::vs,0,m,nd,h1,h2,hk=>by
  simp at h1 h2;subst h1;subst h2
  show bindC kindOf ((p,w)::P.zip vs) m p=_
  unfold bindC
  rw[Zlb λv hv=>(List.nodup_cons.mp nd).1 (List.of_mem_zip hv).1,Yb hk]
  simp
 |p::P,w::vs,i+1,m,nd,h1,h2,hk=>by
  show bindC kindOf ((p,w)::P.zip vs) m x=_
  unfold bindC
  exact Zld (i:=i) (List.nodup_cons.mp nd).2 (by simpa using h1) (by simpa using h2) hk
noncomputable def start (N:List Str) (vs:List V):St:=vs.map some++List.replicate (N.length-vs.length) none
noncomputable def Zhf (CX:CXT) (P:Program) (w:World) (K:PySem.W.Frag) (mg:Str->Option Value) (base:Heap) (N:List Str) (qual:Str) (scope:Scope) (f:Addr) (cd:Value) (A:Around) (outer:List Env) (s:Shared) (H:Hp) (E:XK):Cx where
 prog:=P
 w:=w
 K:=K
 mg:=mg
 base:=base
 A:=A.deeper (envOfC qual scope s.heap.objs.size f cd)
 N:=N
 s₀:=s
 H₀:=H
 env:=envOfC qual scope s.heap.objs.size f cd
 outer:=outer
 stack:=envOfC qual scope s.heap.objs.size f cd::outer
 ex:=[]
 calm:=true
 fn:=λ_=>true
 pn:=[]
 xe:=λe s'=>wpAny (model P w) (A.deeper (envOfC qual scope s.heap.objs.size f cd)) (leaving (envOfC qual scope s.heap.objs.size f cd) e) (λ_ s''=>CX outer H s E e s'') (λe' s''=>CX outer H s E e' s'') s'
theorem ZmO {sc:Scope}{n:Nat}{x:Str} (h:sc.names.lookup x=some .cell):∃c,(cellsFrom n sc.names []).lookup x=some c:=by
 have q:=PySem.W.cellsFrom_some sc.names n [] (.inl h)
 exact Option.isSome_iff_exists.mp q
theorem ZpV {CX:CXT}{P:Program}{w:World}{K:PySem.W.Frag}{mg:Str->Option Value}{base:Heap}{N ps:List Str}{qual:Str}{scope:Scope}{f:Addr}{cd:Value}{A:Around}{outer:List Env}{s s1:Shared}{H:Hp}{E:XK}{us:List Value}{vs:List V}
  (S:FnScope N ps scope) (hd:A.handled=none) (e0:Env0 P w K mg base A outer s H) (hl:vs.length=ps.length) (r:Vals vs us)
  (x:InCallC s s.heap.objs.size (bindL (envOfC qual scope s.heap.objs.size f cd).kindOf (ps.zip us) λ_=>none) (cellsFrom (s.heap.objs.size+1) scope.names []) (bindC (envOfC qual scope s.heap.objs.size f cd).kindOf (ps.zip us) λ_=>none) s1) :
  Inv (Zhf CX P w K mg base N qual scope f cd A outer s H E) [] (start N vs) H s1:=by
 have hpl:ps.length<=N.length:=by have:=congrArg List.length S.pre;rw[YY]at this;omega
 obtain⟨h1,tk,rfl,hk⟩:=x.done
 have noA:∀b:Addr,b∉(Zhf CX P w K mg base N qual scope f cd A outer s H E).ex:=λb z=>absurd (show b∈([]:List Addr)from z) (by simp)
 refine⟨⟨e0.mod,S.kind,rfl,rfl,Yd _,λy z c h1 h2=>?_,λy hy=>?_,λy c _ h=>?_,λ_=>hd,Around.frames_deeper e0.frames,.inr ⟨rfl,rfl⟩,λb z=>absurd z (noA b),e0.bs,e0.bsz,λb _ _=>noA b,λb z=>absurd z (noA b),e0.funs,e0.frf⟩,
  rfl,e0.bare,Un.kept hk,⟨_,x.toInCall.ns,λi y v h1 h2 h3=>?_⟩,λy c h=>⟨_,x.cell y c h⟩,e0.hok.fresh (Yd _),λy c h=>?_,λp hp=>absurd (show p∈([]:List (Addr×Obj))from hp) (by simp),e0.hok.kept hk,?_⟩
 ·exact name_of_addr x.apart (PySem.mem_of_lookup h1) (PySem.mem_of_lookup h2)
 ·have hy:scope.names.lookup y=some .cell\/scope.names.lookup y=some .free:=hy
  rcases hy with hy|hy
  ·exact ZmO hy
  ·exact absurd rfl (S.nofree _ (PySem.mem_of_lookup hy))
 ·exact YM (x.above y c (PySem.mem_of_lookup h))
 ·have hi:i<vs.length:=by
   unfold start at h2
   by_cases hi:i<vs.length
   ·exact hi
   ·rw[Y5 (by simpa using hi)]at h2
    rw[List.getElem?_replicate]at h2
    split at h2<;>cases h2
  have ha:vs[i]?=some v:=by
   unfold start at h2
   rw[YW (by simpa using hi),YF]at h2
   cases e:vs[i]? with
   |none=>rw[e]at h2;cases h2
   |some a=>rw[e]at h2;cases h2;rfl
  obtain⟨u,hu,rv⟩:=r.get ha
  have hp:ps[i]?=some y:=by
   rw[<-S.pre,List.getElem?_take_of_lt (by omega)];exact h1
  have ndP:ps.Nodup:=by rw[<-S.pre];exact S.nd.sublist (List.take_sublist _ _)
  refine⟨u,rv,?_⟩
  rcases S.par y (List.mem_of_getElem? hp)with k|k
  ·exact .inl ⟨k,Zlc ndP hp hu k⟩
  ·obtain⟨c,e⟩:=ZmO (n:=s.heap.objs.size+1) k
   refine .inr ⟨.inl k,c,e,?_⟩
   have q:=x.cell y c e
   rw[Zld ndP hp hu (by show scope.names.lookup y≠_;rw[k];decide)]at q
   exact q
 ·exact e0.hok.fresh (YM (x.above y c (PySem.mem_of_lookup h)))
 ·unfold start
  show _=N.length
  rw[YL,Yf,List.length_replicate]
  omega
theorem fn_of {CX:CXT}{P:Program}{w:World}{K:PySem.W.Frag}{mg:Str->Option Value}{base:Heap}{k:Nat}{f:Addr}{name qual:Str}{params:Arguments}{body:List Stmt}{scope:Scope}{dV kV doc pm cdv ct oc:Value}{an od:Option Addr}
  {osl:Array (Option Value)}{N ps:List Str}{sp:Sp} (lk:K.lookup f=some ⟨oc,od,.func (PySem.W.fnOf name qual params body scope dV kV doc pm an cdv ct),osl⟩) (hcd:PySem.W.codeIn K cdv qual=true) (S:FnScope N ps scope)
  (len:∀vs H Q E,sp vs H Q E->vs.length=ps.length)
  (hbody:∀(A:Around) (outer:List Env) (s:Shared) (H:Hp) (vs:List V) (Q:VK) (E:XK),Room k (A.deeper (envOfC qual scope s.heap.objs.size f cdv))->sp vs H Q E ->
   ∃t,PSs (Zhf CX P w K mg base N qual scope f cdv A outer s H E) body t/\t {nx:=λ_ H'=>Q .non H',rt:=Q} (start N vs) H) :
  FnOk P w K mg base CX (k+1) f (PySem.W.fnOf name qual params body scope dV kV doc pm an cdv ct) ps sp:=by
 refine⟨len,λA outer s H args us vs Q E hr e0 hb r hsp=>?_⟩
 have hl:=len _ _ _ _ hsp
 have KX:K.In s.heap:=e0.mod.kin.keeps λb o e=>(e0.bs b o e).1
 have lim:s.heap.NoLimit:=e0.mod.nolimit.keeps λb o e=>(e0.bs b o e).1
 have hkind:∀y∈ps.zip us,scope.names.lookup y.1=some .local\/(scope.names.lookup y.1=some .cell/\((cellsFrom (s.heap.objs.size+1) scope.names []).lookup y.1).isSome=true):=λ⟨n,v⟩ hy=>by
  rcases S.par n (List.of_mem_zip hy).1 with q|q
  ·exact .inl q
  ·exact .inr ⟨q,PySem.W.cellsFrom_some _ _ _ (.inl q)⟩
 refine codeAny_call_function hr.depth (KX _ _ lk) rfl S.co S.gen rfl (PySem.W.codeRec_of KX hcd) (hb _ _ _ _ ?_)
 refine wpAny_newFunctionEnv_cells S.kind hkind λenv he s1 x=>?_
 subst he
 refine⟨lim.keeps x.toInCall.keep,codeAny_func ?_⟩
 obtain⟨t,ht,hq⟩:=hbody A outer s H vs Q E (hr.deeper _) hsp
 have I:Inv (Zhf CX P w K mg base N qual scope f cdv A outer s H E) [] (start N vs) H s1:=ZpV S hr.hd e0 hl r x
 refine YK (ht [] s1 (start N vs) H _ I hq) (λfl s' hs=>?_) λe s' hs=>hs
 have fin:∀{σ':St}{H':Hp}{v:V}{u:Value},Inv (Zhf CX P w K mg base N qual scope f cdv A outer s H E) [] σ' H' s'->RelV v u->Q v H'->CE outer P w H s Q u s' :=
  λ{σ' H' v u} J rv q=>⟨v,H',J.os,J.bare,J.base,J.hok,rv,q⟩
 cases fl with
 |ret u =>
  obtain⟨v,σ',H',J,rv,q⟩:=hs
  exact fin J rv q
 |next =>
  obtain⟨σ',H',J,q⟩:=hs
  exact fin (v:=V.non) (u:=Value.none) J rfl q
 |brk =>
  obtain⟨_,_,_,q⟩:=hs
  exact False.elim q
 |cont =>
  obtain⟨_,_,_,q⟩:=hs
  exact False.elim q
section
variable {X:Cx}{x:Str}{p pos:Pos}{e:Expr}{es:List Expr}{t:TA}{id T:String}{r:List V->Hp->VK->Prop}
noncomputable def tCB (r:List V->Hp->VK->Prop) (t:TA):TE:=fun σ H Q=>t σ H λvs H1=>r vs H1 Q
theorem Zm (hc:Zcv X (.builtin id) r) (hg:Gl X x) (hm:X.mg x=none) (hv:bootBuiltins x=some (.builtin id)) (ha:PA X (e::es) t) (hn:x≠"__name__":=by decide) (hdb:(x==("__debug__":Str))=false:=by decide)
  (he:starEach (e::es) X.env=(false,eval e X.env)::starEach es X.env:=by rfl) (hpl:(backTo pos (starEach es X.env)).any (·.1)=false:=by rfl):PE X (.Call (.Name x p) (e::es) [] pos) (tCB r t):=by
 intro pins s σ H Q I h
 refine wpAny_Call_Name_kw (Zbp I hg hm hv ?_ hn hdb)
 exact PyProof.Rows.callWith_builtin1 (thn (ha pos pins s σ H _ I h) λus s1 ⟨vs,H1,I1,r1,q1⟩=>hc pins s1 σ H1 vs us Q I1 r1 q1) he hpl
theorem ZaP (hc:Zcv X (.type T) r) (hg:Gl X x) (hm:X.mg x=none) (hv:bootBuiltins x=some (.type T)) (ha:PA X (e::es) t) (hn:x≠"__name__":=by decide) (hdb:(x==("__debug__":Str))=false:=by decide)
  (he:starEach (e::es) X.env=(false,eval e X.env)::starEach es X.env:=by rfl) (hpl:(backTo pos (starEach es X.env)).any (·.1)=false:=by rfl):PE X (.Call (.Name x p) (e::es) [] pos) (tCB r t):=by
 intro pins s σ H Q I h
 refine wpAny_Call_Name_kw (Zbp I hg hm hv ?_ hn hdb)
 exact PyProof.Rows.callWith_type1 (thn (ha pos pins s σ H _ I h) λus s1 ⟨vs,H1,I1,r1,q1⟩=>hc pins s1 σ H1 vs us Q I1 r1 q1) he hpl
end
end L2
namespace HT
open PySem PyProof.Rows
noncomputable def lexLt:List Int->List Int->Bool
 |[],[]=>false
 |[],_::_=>true
 |_::_,[]=>false
 |x::xs,y::ys=>if x=y then lexLt xs ys else decide (x<y)
theorem Zoj (x y:Int) (xs ys:List Int):lexLt (x::xs) (y::ys)=if x=y then lexLt xs ys else decide (x<y):=rfl
section
open PySem.SeqAt
open PySem.AutoSeq1 (wpAny_loadPart')
open PySem.MeetsSeq PySem.MeetsSeq2 PySem.MeetsSeq3
end
section
variable {prog:Program}{w:World}{A:Around}{E:Value->Shared->Prop}{s:Shared}
noncomputable def sIx (n d:Nat):Option Int->Nat
 |none=>d
 |some v=>if v<0 then (v+(n:Int)).toNat else min v.toNat n
theorem sIx_le (n d:Nat) (hd:d<=n) (o:Option Int):sIx n d o<=n:=by
 cases o with
 |none=>exact hd
 |some v =>
  show(if v<0 then (v+(n:Int)).toNat else min v.toNat n)<=n
  by_cases hv:v<0
  ·rw[Yc hv];omega
  ·rw[Yb hv];exact Nat.min_le_right _ _
theorem Zph (v:Int) (n d:Nat):(if v<0 then max (v+(n:Int)) 0 else min v (n:Int))=((sIx n d (some v):Nat):Int):=by
 show(if v<0 then max (v+(n:Int)) 0 else min v (n:Int))=(((if v<0 then (v+(n:Int)).toNat else min v.toNat n):Nat):Int)
 by_cases hv:v<0
 ·simp only[Yc hv];omega
 ·simp only[Yb hv];omega
theorem Zok (lo hi:Option Int) (n:Nat):Builtin.Slice.sliceAdjust lo hi 1 (n:Int)=(((sIx n 0 lo:Nat):Int),((sIx n n hi:Nat):Int)):=by
 have h1:¬ ((1:Int)<0):=by omega
 unfold Builtin.Slice.sliceAdjust
 simp only[h1,if_false]
 refine Prod.ext ?_ ?_
 ·cases lo with
  |none=>rfl
  |some v=>exact Zph v n 0
 ·cases hi with
  |none=>rfl
  |some v=>exact Zph v n n
theorem Zol (i j:Nat):Builtin.Slice.slicePlaces (i:Int) (j:Int) 1=j-i:=by
 unfold Builtin.Slice.slicePlaces
 have h1:(1:Int)>0:=by omega
 simp only[h1,if_true,Int.ediv_one]
 split<;>omega
theorem ZjE {v:Value}{o:Option Int}{Q:Option Int->Shared->Prop} (p:IsPart v o) (h:Q o s):wpAny (model prog w) A (Builtin.Slice.slicePartIndex v) Q E s:=by
 cases p with
 |none=>exact slicePart_none h
 |int i t=>exact slicePart_int h
theorem Zd9 {sl:Addr}{vl vu:Value}{lo hi:Option Int}{n:Nat}{Q:Int×Int×Nat->Shared->Prop} (hs:s.heap.IsSliceOf sl vl vu .none) (pl:IsPart vl lo) (pu:IsPart vu hi)
  (h:Q (((sIx n 0 lo:Nat):Int),1,sIx n n hi-sIx n 0 lo) s):wpAny (model prog w) A (Builtin.Slice.sliceApplied (.ref sl) (pure (n:Int))) Q E s:=by
 obtain⟨os,hos,hcs,hds⟩:=id hs
 unfold Builtin.Slice.sliceApplied Builtin.Slice.sliceFields
 refine Ya (Ya (wpAny_field hos hds (x:=vl) rfl (Ya (wpAny_field hos hds (x:=vu) rfl (Ya (wpAny_field hos hds (x:=.none) rfl (Ye ?_)))))))
 refine Ya (slicePart_none ?_)
 show wpAny _ _ (if ((1:Int)==0)=true then _ else _) _ _ s
 rw[Yb (by decide)]
 refine Ya (ZjE pl (Ya (ZjE pu (Ya (Ye ?_)))))
 show wpAny _ _ (match Builtin.Slice.sliceAdjust lo hi 1 (n:Int)with|(lo,hi)=>pure (lo,(1:Int),Builtin.Slice.slicePlaces lo hi 1)) _ _ s
 rw[Zok lo hi n]
 show wpAny _ _ (pure (((sIx n 0 lo:Nat):Int),(1:Int),Builtin.Slice.slicePlaces ((sIx n 0 lo:Nat):Int) ((sIx n n hi:Nat):Int) 1)) _ _ s
 rw[Zol]
 exact Ye h
theorem ZrW (xs:Array Value) (i k:Nat):((List.range k).filterMap λ(m:Nat)=>xs[((i:Int)+(m:Int)*1).toNat]?).toArray=((xs.toList.drop i).take k).toArray:=by
 have e:(λ(m:Nat)=>xs[((i:Int)+(m:Int)*1).toNat]?)=λm=>xs[i+m]?:=by
  funext m
  have:((i:Int)+(m:Int)*1).toNat=i+m:=by omega
  rw[this]
 rw[e]
 have:=pick_run xs i k
 rw[List.filterMap_map]at this
 have e2:((λx=>xs[x]?) ∘ λx=>i+x)=λm=>xs[i+m]?:=rfl
 rw[e2]at this
 rw[this]
theorem Zhg {t sl:Addr}{items:Array Value}{vl vu:Value}{lo hi:Option Int}{Q:Value->Shared->Prop} (ht:IsTup s.heap t items) (hs:s.heap.IsSliceOf sl vl vu .none) (pl:IsPart vl lo) (pu:IsPart vu hi)
  (hw:¬ (sIx items.size 0 lo=0/\sIx items.size items.size hi=items.size))
  (h:Q (.ref s.heap.objs.size) {s with heap:=s.heap.push {cls:=.type "tuple",data:=.seq ((items.toList.drop (sIx items.size 0 lo)).take (sIx items.size items.size hi-sIx items.size 0 lo)).toArray}})
  (hsz:items.size<=sizeLine):wpAny (model prog w) A (getItem (.ref t) (.ref sl)) Q E s:=by
 have htake:sizeOk (.seq ((items.toList.drop (sIx items.size 0 lo)).take (sIx items.size items.size hi-sIx items.size 0 lo)).toArray):=by
  show((items.toList.drop (sIx items.size 0 lo)).take (sIx items.size items.size hi-sIx items.size 0 lo)).toArray.size<=sizeLine
  rw[Yp,YY,Y7,YO]
  omega
 have hj:sIx items.size items.size hi<=items.size:=sIx_le _ _ (Yd _) hi
 obtain⟨os,hos,hcs,hds⟩:=id hs
 have hTs:s.TypeIs (.ref sl) "slice":=⟨os,hos,hcs⟩
 unfold getItem
 try with_reducible refine wpAny_holding ?_
 first|refine Ya (Ye ?_)|skip
 refine Ya (wpAny_sequenceKey ht.typeIs (by decide) ?_)
 refine Ya (wpAny_callSpecial?_slot (name:=Str.ofString "__getitem__") ht.typeIs PyProof.Rows.slot_tuple_getitem
  (wpAny_call_entry PyProof.Rows.slot_tuple_getitem ht.typeIs entry_tuple_getitem ?_ (args_tuple_getitem _ _)))
 show wpAny _ _ (Builtin.Tuple.tupleItemsOf (.ref t) >>= _) _ _ s
 refine Ya (tupleItemsOf_ ht ?_)
 refine Ya (wpAny_typeOf hTs ?_)
 rw[Yc (by decide)]
 refine Ya (Zd9 hs pl pu ?_)
 have hno:¬ ((((sIx items.size 0 lo:Nat):Int)==0&&(1:Int)==1&&(sIx items.size items.size hi-sIx items.size 0 lo)==items.size)=true):=by
  intro q
  rw[Bool.and_eq_true,Bool.and_eq_true]at q
  have q1:((sIx items.size 0 lo:Nat):Int)=0:=eq_of_beq q.1.1
  have q2:sIx items.size items.size hi-sIx items.size 0 lo=items.size:=eq_of_beq q.2
  exact hw ⟨by omega,by omega⟩
 show wpAny _ _ (if (((sIx items.size 0 lo:Nat):Int)==0&&(1:Int)==1&&(sIx items.size items.size hi-sIx items.size 0 lo)==items.size)=true then _ else _) _ _ s
 rw[Yb hno,ZrW]
 first
  |exact Ya (m:=Builtin.Tuple.tupleExact _) (wpAny_newObj_type (Ye ⟨_,rfl,Ye h⟩) htake)
  |exact Ya (m:=Builtin.Tuple.tupleExact _) (wpAny_newObj_type (Ya (Ye (Ye ⟨_,rfl,Ye h⟩))) htake)
  |exact Ya (Ya (m:=Builtin.Tuple.tupleExact _) (wpAny_newObj_type (Ye (Ye ⟨_,rfl,Ye h⟩)) htake))
  |exact Ya (Ya (m:=Builtin.Tuple.tupleExact _) (wpAny_newObj_type (Ye ⟨_,rfl,Ye h⟩) htake))
end
end HT
namespace L2
open PySem PySem.Spec PyProof.Rows
noncomputable abbrev TO:=St->Hp->(Option Int->Hp->Prop)->Prop
noncomputable def PO (X:Cx) (e:Option Expr) (t:TO):Prop :=
 ∀(pins:List (Addr×Obj)) (s:Shared) (σ:St) (H:Hp) (Q:Option Int->Hp->Prop),Inv X pins σ H s->t σ H Q ->
  wpAny (model X.prog X.w) X.A (evalPart e X.env) (λu s'=>∃o H',Inv X pins σ H' s'/\IsPart u o/\Q o H') X.xe s
noncomputable def Zpi:TO:=λ_ H Q=>Q none H
noncomputable def tPart (t:TE):TO:=fun σ H Q=>t σ H λx H1=>∃i,x=.int i/\Q (some i) H1
theorem intsAre_of {ns:List Int}:∀{us:List Value},Vals (ns.map V.int) us->IntsAre us ns:=by
 induction ns with
 |nil=>intro us r;rw[List.map_nil]at r;cases r;exact .nil
 |cons n ns ih =>
  intro us r
  rw[YE]at r
  cases r with
  |cons r1 r2 =>
   obtain⟨t,e⟩:=r1
   subst e
   exact .cons n t (ih r2)
section
variable {X:Cx}{e:Expr}{te:TE}{lo hi:Option Expr}{tl th:TO}{pos p2:Pos}
theorem Zet:PO X none Zpi:=by
 intro pins s σ H Q I h
 rw[evalPart_none]
 exact Ye ⟨none,H,I,.none,h⟩
theorem Zeu (h:PE X e te):PO X (some e) (tPart te):=by
 intro pins s σ H Q I hw
 rw[evalPart_some]
 refine thn (h pins s σ H _ I hw) λu s1 ⟨x,H1,I1,r1,q1⟩=>?_
 obtain⟨i,rfl,q⟩:=q1
 obtain⟨t,rfl⟩:=r1
 exact⟨some i,H1,I1,.int i t,q⟩
noncomputable def SlR (X:Cx) (r:V->Option Int->Option Int->Hp->VK->Prop):Prop :=
 ∀(pins:List (Addr×Obj)) (s:Shared) (σ:St) (H:Hp) (x:V) (v vl vu:Value) (lo hi:Option Int) (sl:Addr) (Q:VK),Inv X pins σ H s->RelV x v->s.heap.IsSliceOf sl vl vu .none->IsPart vl lo->IsPart vu hi->r x lo hi H Q ->
  ∃T id,typeLookup (.type T) "__getitem__"=pure (some (.builtin id))/\s.TypeIs v T/\wpAny (model X.prog X.w) X.A (getItem v (.ref sl)) (EP X pins σ Q) X.xe s
noncomputable def tSl (r:V->Option Int->Option Int->Hp->VK->Prop) (te:TE) (tl th:TO):TE:=fun σ H Q=>te σ H λx H1=>tl σ H1 λl H2=>th σ H2 λu H3=>r x l u H3 Q
theorem ZcZ {r:V->Option Int->Option Int->Hp->VK->Prop} (hr:SlR X r) (he:PE X e te) (hl:PO X lo tl) (hu:PO X hi th):PE X (.Subscript e (.Slice lo hi none p2) pos) (tSl r te tl th):=by
 intro pins s σ H Q I h
 refine Subscript_ (thn (he pins s σ H _ I h) λv s1 ⟨x,H1,I1,r1,q1⟩=>?_)
 refine wpAny_Slice (thn (hl pins s1 σ H1 _ I1 q1) λvl s2 ⟨l,H2,I2,pl,q2⟩=>thn (hu pins s2 σ H2 _ I2 q2) λvu s3 ⟨u,H3,I3,pu,q3⟩=>?_)
 rw[evalPart_none]
 refine Ye ?_
 have I4:Inv X pins σ H3 {s3 with heap:=s3.heap.push {cls:=.type "slice",data:=.fields #[vl,vu,.none]}}:=I3.kept (t':=s3.toks) λb ob q=>Yg _ q
 obtain⟨T,id,hT,ht,hg⟩:=hr pins {s3 with heap:=s3.heap.push {cls:=.type "slice",data:=.fields #[vl,vu,.none]}} σ H3 x v vl vu l u s3.heap.objs.size Q I4 r1 (Heap.IsSliceOf.new ..) pl pu q3
 show wpAny (model X.prog X.w) X.A (subscriptTail e (.Slice lo hi none p2) v (.ref s3.heap.objs.size)) (EP X pins σ Q) X.xe {s3 with heap:=s3.heap.push {cls:=.type "slice",data:=.fields #[vl,vu,.none]}}
 exact tail_any (ops:=[.ref s3.heap.objs.size,v]) ht hT hg (by with_unfolding_all rfl)
noncomputable def Zai (xs:List V) (lo hi:Option Int):List V:=(xs.drop (HT.sIx xs.length 0 lo)).take (HT.sIx xs.length xs.length hi-HT.sIx xs.length 0 lo)
theorem Zbt (xs:List V) (lo hi:Option Int):(Zai xs lo hi).length<=xs.length:=by
 unfold Zai
 rw[YY,Y7]
 omega
noncomputable def rSlT (K:PySem.W.Frag):V->Option Int->Option Int->Hp->VK->Prop:=λx lo hi H Q=>∃a xs,x=.ref a/\SqT K H a xs /\
 ¬ (HT.sIx xs.length 0 lo=0/\HT.sIx xs.length xs.length hi=xs.length)/\∀p,H p=none->Q (.ref p) (upd H p (.tup (Zai xs lo hi)))
theorem sl_tup:SlR X (rSlT X.K):=by
 intro pins s σ H x v vl vu lo hi sl Q I rx hs pl pu h
 obtain⟨a,xs,rfl,hx,hw,q⟩:=h
 cases rx
 obtain⟨its,r,ht,hz⟩:=I.tuple hx
 have hlen:its.toArray.size=xs.length:=by rw[Yp];exact r.length.symm
 refine⟨"tuple",_,PyProof.Rows.slot_tuple_getitem.lookup,ht.typeIs,?_⟩
 refine HT.Zhg ht hs pl pu (by rw[hlen];exact hw) ?_ (by rw[hlen];exact hz)
 rw[hlen]
 refine⟨.ref s.heap.objs.size,_,I.laid (t':=s.toks) (o:=.tup (Zai xs lo hi)) (λb ob q=>Yg _ q) (Yd _) ?_,rfl,q _ (I.hok.fresh (Yd _))⟩
 exact⟨Yh (Zbt xs lo hi) hz,_,(r.drop (HT.sIx xs.length 0 lo)).take (HT.sIx xs.length xs.length hi-HT.sIx xs.length 0 lo),IsTup.new _ _⟩
end
noncomputable def ixN (n:Nat) (i:Int):Option Nat:=if 0<=i then (if i<n then some i.toNat else none)else if -(n:Int)<=i then some (i+n).toNat else none
noncomputable def atI {α:Type} (xs:List α) (i:Int):Option α:=(ixN xs.length i).bind λj=>xs[j]?
theorem Zpj {n:Nat}{i:Int}{j:Nat} (h:ixN n i=some j):seqIndex? i n=some j/\j<n/\-(n:Int)<=i/\i<n:=by
 unfold ixN at h
 by_cases h0:0<=i
 ·rw[Yc h0]at h
  by_cases h1:i<n
  ·rw[Yc h1]at h
   have e:i.toNat=j:=Yz h
   exact⟨by rw[seqIndex_of h0 h1,e],by omega,by omega,h1⟩
  ·rw[Yb h1]at h;cases h
 ·rw[Yb h0]at h
  by_cases h1:-(n:Int)<=i
  ·rw[Yc h1]at h
   have e:(i+n).toNat=j:=Yz h
   exact⟨by rw[seqIndex_neg (by omega) h1,e],by omega,h1,by omega⟩
  ·rw[Yb h1]at h;cases h
theorem Zpk {α:Type}{xs:List α}{i:Int}{v:α} (h:atI xs i=some v):∃j,seqIndex? i xs.length=some j/\xs[j]?=some v/\j<xs.length/\-(xs.length:Int)<=i/\i<xs.length:=by
 unfold atI at h
 cases e:ixN xs.length i with
 |none=>rw[e]at h;cases h
 |some j =>
  rw[e]at h
  obtain⟨h1,h2,h3,h4⟩:=Zpj e
  exact⟨j,h1,h,h2,h3,h4⟩
theorem ZaE {α:Type}{xs:List α}{j:Nat}{v:α} (h:xs[j]?=some v):atI xs (j:Int)=some v:=by
 have hj:j<xs.length:=(Yq.mp h).1
 have e:ixN xs.length (j:Int)=some j:=by
  unfold ixN
  rw[Yc (by omega),Yc (by omega)];simp
 unfold atI;rw[e];exact h
noncomputable def Zuy (b:Expr):Prop:=∀o i,subscripted b false o i=operate [o,i] (getItem o i)
noncomputable def IxR (X:Cx) (r:R2):Prop :=
 ∀(value slice:Expr) (pins:List (Addr×Obj)) (s:Shared) (σ:St) (H:Hp) (x y:V) (v u:Value) (Q:VK),Inv X pins σ H s->RelV x v->RelV y u->r x y H Q ->
  subscripted slice false v u=operate [v,u] (getItem v u)->wpAny (model X.prog X.w) X.A (subscriptTail value slice v u) (EP X pins σ Q) X.xe s
noncomputable def MtR (X:Cx) (id:String) (r:V->List V->Hp->VK->Prop):Prop :=
 ∀(pins:List (Addr×Obj)) (s:Shared) (σ:St) (H:Hp) (x:V) (xs:List V) (v:Value) (us:List Value) (Q:VK),Inv X pins σ H s->RelV x v->Vals xs us->r x xs H Q ->
  wpAny (model X.prog X.w) X.A (call (.builtin id) (v::us)) (EP X pins σ Q) X.xe s
section
variable {X:Cx}{a b:Expr}{ta tb:TE}{pos:Pos}
theorem IxR.or {r r':R2} (h:IxR X r) (h':IxR X r'):IxR X (λx y H Q=>r x y H Q\/r' x y H Q):=by
 intro value slice pins s σ H x y v u Q I rx ry q hs
 rcases q with q|q
 ·exact h value slice pins s σ H x y v u Q I rx ry q hs
 ·exact h' value slice pins s σ H x y v u Q I rx ry q hs
theorem Zv {r:R2} (hr:IxR X r) (ha:PE X a ta) (hb:PE X b tb) (hs:Zuy b):PE X (.Subscript a b pos) (tOp r ta tb):=by
 intro pins s σ H Q I h
 exact Subscript_ (binT ha hb I h λv u s2 x y H2 I2 rx ry q=>hr a b pins s2 σ H2 x y v u Q I2 rx ry q (hs _ _))
noncomputable def ZpW (K:PySem.W.Frag):R2:=λx y H Q=>∃p xs i v,x=.ref p/\y=.int i/\SqL K H p xs/\atI xs i=some v/\Q v H
noncomputable def rIxT (K:PySem.W.Frag):R2:=λx y H Q=>∃p xs i v,x=.ref p/\y=.int i/\SqT K H p xs/\atI xs i=some v/\Q v H
theorem Zq:IxR X (ZpW X.K):=by
 intro value slice pins s σ H x y v u Q I rx ry h hs
 obtain⟨p,xs,i,z,rfl,rfl,hq,he,q⟩:=h
 cases rx
 obtain⟨t,rfl⟩:=ry
 obtain⟨its,r,pl,hz⟩:=I.list hq
 obtain⟨j,h1,h2,h3,h4,h5⟩:=Zpk he
 obtain⟨w,ew,rw'⟩:=r.get h2
 have hl:=r.length
 have hn:=ZjC
 have fin:EP X pins σ Q w s:=⟨z,H,I,rw',q⟩
 by_cases h0:0<=i
 ·have hj:i.toNat=j:=by
   rw[seqIndex_of h0 h5]at h1
   exact Yz h1
  exact item_listR pl.isList h0 (by omega) (by rw[hj];simpa using ew) fin hs
 ·have hj:(i+(its.toArray.size:Int)).toNat=j:=by
   rw[seqIndex_neg (by omega) h4]at h1
   rw[Yp,<-hl]
   exact Yz h1
  exact subscriptTail_builtinR (x:=w) pl.isList.typeIs slot_list_getitem.lookup
   (wpAny_getItem_list_neg (Q:=λr s'=>r=w/\EP X pins σ Q r s') pl.isList (by omega) (by rw[Yp]<;>omega) (by omega) (by rw[hj];simpa using ew) ⟨rfl,fin⟩) hs
theorem Zbi:IxR X (rIxT X.K):=by
 intro value slice pins s σ H x y v u Q I rx ry h hs
 obtain⟨p,xs,i,z,rfl,rfl,hq,he,q⟩:=h
 cases rx
 obtain⟨t,rfl⟩:=ry
 obtain⟨its,r,pl,hz⟩:=I.tuple hq
 obtain⟨j,h1,h2,h3,h4,h5⟩:=Zpk he
 obtain⟨w,ew,rw'⟩:=r.get h2
 have hl:=r.length
 have hn:=ZjC
 have fin:EP X pins σ Q w s:=⟨z,H,I,rw',q⟩
 exact subscriptTail_builtinR (x:=w) pl.typeIs slot_tuple_getitem.lookup
  (getItem_tuple (j:=j) (Q:=λr s'=>r=w/\EP X pins σ Q r s') pl (by omega) (by omega) (by rw[Yp,<-hl];exact h1) (by simpa using ew) ⟨rfl,fin⟩) hs
theorem Zom (its:List Value) (n j:Nat) (u:Value):Obj.mapSeq (·.setIfInBounds j u) {cls:=.type "list",data:=.seq its.toArray n}={cls:=.type "list",data:=.seq (its.set j u).toArray n}:=by
 simp[Obj.mapSeq]
theorem Inv.lst {pins:List (Addr×Obj)}{σ:St}{H:Hp}{s:Shared}{p:Addr}{xs:List V} (I:Inv X pins σ H s) (h:H p=some (.lst xs)) :
  ∃(its:List Value) (n:Nat),Vals xs its/\s.heap.get? p=some {cls:=.type "list",data:=.seq its.toArray n}/\xs.length<=sizeLine:=by
 obtain⟨z,its,n,r,e⟩:=I.hok p _ h
 exact⟨its,n,r,e,z⟩
theorem Inv.lstUpd {pins:List (Addr×Obj)}{σ:St}{H:Hp}{s:Shared}{p:Addr}{xs ys:List V}{its its':List Value}{n n':Nat}{f:Obj->Obj} (I:Inv X pins σ H s) (h:H p=some (.lst xs))
  (ho:s.heap.get? p=some {cls:=.type "list",data:=.seq its.toArray n}) (hf:f {cls:=.type "list",data:=.seq its.toArray n}={cls:=.type "list",data:=.seq its'.toArray n'}) (r:Vals ys its') (hz:ys.length<=sizeLine) (t:Nat) :
  Inv X pins σ (upd H p (.lst ys)) {s with heap:=s.heap.update p f,toks:=t}:=by
 have e:(s.heap.update p f).get? p=some {cls:=.type "list",data:=.seq its'.toArray n'}:=by
  rw[Heap.get?_update_self f ho (by rw[hf]<;>rfl),hf]
 refine I.write (x:=p) (e:=p) (by rw[h];trivial) (.inl rfl) (λb u hb q=>(Heap.get?_update_other _ _ (Ne.symm hb)).trans q) ⟨_,e⟩ ?_
 exact⟨hz,its',n',r,e⟩
noncomputable def rSetL:V->V->V->Hp->(Hp->Prop)->Prop:=λo i v H Q=>∃p xs k j,o=.ref p/\i=.int k/\H p=some (.lst xs)/\ixN xs.length k=some j/\Q (upd H p (.lst (xs.set j v)))
theorem set_list:PSet X rSetL:=by
 intro pins s σ H o i v ov iv u Q I ro ri rv h
 obtain⟨p,xs,k,j,rfl,rfl,hp,hj,q⟩:=h
 cases ro
 obtain⟨t,rfl⟩:=ri
 obtain⟨its,n,r,ho,hz⟩:=I.lst hp
 obtain⟨h1,h2,h3,h4⟩:=Zpj hj
 have hl:=r.length
 have hn:=ZjC
 have I':Inv X pins σ (upd H p (.lst (xs.set j v))) {s with heap:=s.heap.update p (Obj.mapSeq (·.setIfInBounds j u))} :=
  I.lstUpd hp ho (Zom its n j u) (r.set rv j) (by rw[List.length_set];exact hz) s.toks
 by_cases h0:0<=k
 ·have hk:k.toNat=j:=by
   rw[seqIndex_of h0 h4]at h1
   exact Yz h1
  exact PySem.W.ki_setAt ho h0 (by omega) (by rw[Yp,<-hl];exact h4) (by rw[hk];exact⟨_,I',q⟩)
 ·have hk:(k+(its.toArray.size:Int)).toNat=j:=by
   rw[seqIndex_neg (by omega) h3]at h1
   rw[Yp,<-hl]
   exact Yz h1
  exact PySem.W.ki_setBack ho (by omega) (by rw[Yp,<-hl];exact h3) (by omega) (by rw[hk];exact⟨_,I',q⟩)
theorem ZlS (lo hi:Option Int) (n:Nat):(sliceBounds lo hi none n).1=((HT.sIx n 0 lo:Nat):Int)/\(sliceBounds lo hi none n).2.1=((HT.sIx n n hi:Nat):Int)/\(sliceBounds lo hi none n).2.2=1:=by
 refine⟨?_,?_,rfl⟩
 ·cases lo with
  |none=>simp[sliceBounds,HT.sIx]
  |some i =>
   simp only[sliceBounds,HT.sIx,Option.getD_none,show(1:Int)>0 by decide,if_true]
   by_cases h:i<0
   ·simp only[h,if_true]<;>omega
   ·simp only[h,if_false]<;>omega
 ·cases hi with
  |none=>simp[sliceBounds,HT.sIx]
  |some i =>
   simp only[sliceBounds,HT.sIx,Option.getD_none,show(1:Int)>0 by decide,if_true]
   by_cases h:i<0
   ·simp only[h,if_true]<;>omega
   ·simp only[h,if_false]<;>omega
theorem ZkQ (its:List Value) (lo hi:Option Int):slicePick its.toArray lo hi none=((its.drop (HT.sIx its.length 0 lo)).take (HT.sIx its.length its.length hi-HT.sIx its.length 0 lo)).toArray:=by
 obtain⟨h1,h2,h3⟩:=ZlS lo hi its.toArray.size
 unfold slicePick
 rw[h1,h2,h3]
 simp only[sliceRange_one,pick_run,Yp]<;>rfl
noncomputable def rSlL (K:PySem.W.Frag):V->Option Int->Option Int->Hp->VK->Prop:=λx lo hi H Q=>∃a xs,x=.ref a/\SqL K H a xs/\∀p,H p=none->Q (.ref p) (upd H p (.lst (Zai xs lo hi)))
theorem Zga:SlR X (rSlL X.K):=by
 intro pins s σ H x v vl vu lo hi sl Q I rx hs pl pu h
 obtain⟨a,xs,rfl,hx,q⟩:=h
 cases rx
 obtain⟨its,r,ht,hz⟩:=I.list hx
 have hlen:=r.length
 refine⟨"list",_,slot_list_getitem.lookup,ht.isList.typeIs,?_⟩
 refine wpAny_getItem_list_slice ht.isList hs pl pu .none (by simp) ?_ (by rw[Yp]<;>omega)
 rw[ZkQ,<-hlen]
 refine⟨.ref s.heap.objs.size,_,I.laid (t':=s.toks) (o:=.lst (Zai xs lo hi)) (λb ob q=>Yg _ q) (Yd _) ?_,rfl,q _ (I.hok.fresh (Yd _))⟩
 exact⟨Yh (Zbt xs lo hi) hz,_,0,(r.drop (HT.sIx xs.length 0 lo)).take (HT.sIx xs.length xs.length hi-HT.sIx xs.length 0 lo),Yk _ rfl⟩
noncomputable def flatV:V->Bool
 |.non=>true
 |.bl _=>true
 |.int _=>true
 |.str _=>true
 |_=>false
noncomputable def eqV:V->V->Bool
 |.non,.non=>true
 |.bl a,.bl b=>a==b
 |.bl a,.int b=>(if a then 1 else 0)==b
 |.int a,.bl b=>a==(if b then 1 else 0)
 |.int a,.int b=>a==b
 |.str a,.str b=>a==b
 |_,_=>false
theorem ZrX {A:Around}{s:Shared}{y x:V}{u v:Value} (ry:RelV y u) (rx:RelV x v) (fy:flatV y=true) (fx:flatV x=true):SeqAt.EqAt A s u v (eqV y x):=by
 cases y with
 |non =>
  cases ry
  cases x with
  |non=>cases rx;exact SeqAt.EqAt.same _
  |bl b=>cases rx;exact SeqAt.EqAt.none_bool b
  |int b=>obtain⟨t,rfl⟩:=rx;exact SeqAt.EqAt.none_int b t
  |str b=>obtain⟨t,rfl⟩:=rx;exact SeqAt.EqAt.none_str b t
  |_=>exact absurd (show false=true from fx) Yy
 |bl a =>
  cases ry
  cases x with
  |non=>cases rx;exact SeqAt.EqAt.bool_none a
  |bl b=>cases rx;exact SeqAt.EqAt.bool_bool a b
  |int b=>obtain⟨t,rfl⟩:=rx;exact SeqAt.EqAt.bool_int a b t
  |str b=>obtain⟨t,rfl⟩:=rx;exact SeqAt.EqAt.bool_str a b t
  |_=>exact absurd (show false=true from fx) Yy
 |int a =>
  obtain⟨t',rfl⟩:=ry
  cases x with
  |non=>cases rx;exact SeqAt.EqAt.int_none a t'
  |bl b=>cases rx;exact SeqAt.EqAt.int_bool a t' b
  |int b=>obtain⟨t,rfl⟩:=rx;exact SeqAt.EqAt.int_int a t' b t
  |str b=>obtain⟨t,rfl⟩:=rx;exact SeqAt.EqAt.int_str a t' b t
  |_=>exact absurd (show false=true from fx) Yy
 |str a =>
  obtain⟨t',rfl⟩:=ry
  cases x with
  |non=>cases rx;exact SeqAt.EqAt.str_none a t'
  |bl b=>cases rx;exact SeqAt.EqAt.str_bool a t' b
  |int b=>obtain⟨t,rfl⟩:=rx;exact SeqAt.EqAt.str_int a t' b t
  |str b=>obtain⟨t,rfl⟩:=rx;exact SeqAt.EqAt.str_str a t' b t
  |_=>exact absurd (show false=true from fx) Yy
 |_=>exact absurd (show false=true from fy) Yy
noncomputable def eqU (x:V) (u:Value):Bool:=match u with
 |.none=>eqV .non x
 |.bool b=>eqV (.bl b) x
 |.int i _=>eqV (.int i) x
 |.str z _=>eqV (.str z) x
 |_=>false
theorem ZrY {x y:V}{u:Value} (r:RelV y u) (f:flatV y=true):eqU x u=eqV y x:=by
 cases y with
 |non=>cases r;rfl
 |bl b=>cases r;rfl
 |int i=>obtain⟨t,rfl⟩:=r;rfl
 |str z=>obtain⟨t,rfl⟩:=r;rfl
 |_=>exact absurd (show false=true from f) Yy
theorem ZlT {x:V}:∀{xs:List V}{us:List Value},Vals xs us->xs.all flatV=true->us.any (eqU x)=xs.any λy=>eqV y x
 |_,_,.nil,_=>rfl
 |y::xs,u::us,.cons r t,f=>by
  rw[List.all_cons,Bool.and_eq_true]at f
  rw[List.any_cons,List.any_cons,ZrY r f.1,ZlT t f.2]
theorem ZjF {A:Around}{s:Shared}{x:V}{v:Value} (rx:RelV x v) (fx:flatV x=true):∀{xs:List V}{us:List Value},Vals xs us->xs.all flatV=true->∀u∈us,SeqAt.EqAt A s u v (eqU x u)
 |_,_,.nil,_=>λu hu=>by cases hu
 |y::xs,u::us,.cons r t,f=>λu' hu=>by
  rw[List.all_cons,Bool.and_eq_true]at f
  rcases Yl.mp hu with rfl|hu
  ·rw[ZrY r f.1];exact ZrX r rx f.1 fx
  ·exact ZjF rx fx t f.2 u' hu
noncomputable def inV (x:V) (xs:List V):Bool:=xs.any λy=>eqV y x
noncomputable def rIn (K:PySem.W.Frag) (neg:Bool):R2:=λx y H Q=>∃p xs,y=.ref p/\(SqL K H p xs\/SqT K H p xs)/\flatV x=true/\xs.all flatV=true/\Q (.bl (if neg then !inV x xs else inV x xs)) H
theorem ZpX:OpR X (compareOp .In) (rIn X.K false):=by
 intro pins s σ H x y v u Q I rx ry h
 obtain⟨p,xs,rfl,hq,fx,fs,q⟩:=h
 cases ry
 rcases hq with hq|hq
 ·obtain⟨its,r,pl,hz⟩:=I.list hq
  refine SeqAt.in_listAt (eqU x) pl.isList (λw hw=>ZjF rx fx r fs w (by simpa using hw)) ⟨.bl _,H,I,rfl,?_⟩
  rw[show its.toArray.any (eqU x)=its.any (eqU x) by simp,ZlT r fs]
  exact q
 ·obtain⟨its,r,pl,hz⟩:=I.tuple hq
  refine SeqAt.in_tupleAt (eqU x) pl (λw hw=>ZjF rx fx r fs w (by simpa using hw)) ⟨.bl _,H,I,rfl,?_⟩
  rw[show its.toArray.any (eqU x)=its.any (eqU x) by simp,ZlT r fs]
  exact q
theorem ZlU:Zcv X (.builtin "len") (λxs H Q=>∃p ys,xs=[.ref p]/\(SqL X.K H p ys\/SqT X.K H p ys)/\Q (.int ys.length) H):=by
 intro pins s σ H xs us Q I r h
 obtain⟨p,ys,rfl,hq,q⟩:=h
 obtain⟨u,rfl,rx⟩:=vals1 r
 cases rx
 have hn:=ZjC
 rcases hq with hq|hq
 ·obtain⟨its,r',pl,hz⟩:=I.list hq
  have hlen:=r'.length
  exact Calls.call_len_list pl.isList (by simp only[Yp]<;>omega) ⟨.int ys.length,H,I.tok _,⟨s.toks+1,by rw[Yp,hlen]⟩,q⟩
 ·obtain⟨its,r',pl,hz⟩:=I.tuple hq
  have hlen:=r'.length
  exact len_tuple pl (by simp only[Yp]<;>omega) ⟨.int ys.length,H,I.tok _,⟨s.toks+1,by rw[Yp,hlen]⟩,q⟩
theorem ZlV:Zcv X (.type "list") (λxs H Q=>∃p ys,xs=[.ref p]/\(SqL X.K H p ys\/SqT X.K H p ys)/\∀l,H l=none->Q (.ref l) (upd H l (.lst ys))):=by
 intro pins s σ H xs us Q I r h
 obtain⟨p,ys,rfl,hq,q⟩:=h
 obtain⟨u,rfl,rx⟩:=vals1 r
 cases rx
 have fin:∀(its:List Value),Vals ys its->ys.length<=sizeLine->∀(h':Heap) (c':Nat),(∀b o',s.heap.get? b=some o'->h'.get? b=some o') ->
   h'.get? s.heap.objs.size=some {cls:=.type "list",dict:=none,data:=.seq its.toArray c',slots:=#[]}->EP X pins σ Q (.ref s.heap.objs.size) {s with heap:=h'}:=λits r' hz h' c' kp e =>
  ⟨.ref s.heap.objs.size,_,I.laid (t':=s.toks) kp (Yd _) (show ZY X.prog X.w _ h' _ (.lst ys)from⟨hz,its,c',r',e⟩),rfl,q _ (I.hok.fresh (Yd _))⟩
 rcases hq with hq|hq
 ·obtain⟨its,r',pl,hz⟩:=I.list hq
  have hlen:=r'.length
  obtain⟨o,ho,hc,n,hd⟩:=pl.isList
  exact call_list_seq p (.inl rfl) ho hc hd (λh' c' kp e=>fin its r' hz h' c' kp e) (by simp only[Yp]<;>omega)
 ·obtain⟨its,r',pl,hz⟩:=I.tuple hq
  have hlen:=r'.length
  obtain⟨o,ho,hc,n,hd⟩:=pl
  exact call_list_seq p (.inr rfl) ho hc hd (λh' c' kp e=>fin its r' hz h' c' kp e) (by simp only[Yp]<;>omega)
theorem ZkR:Zcv X (.type "tuple") (λxs H Q=>∃p ys,xs=[.ref p]/\((SqL X.K H p ys/\∀l,H l=none->Q (.ref l) (upd H l (.tup ys)))\/(SqT X.K H p ys/\Q (.ref p) H))):=by
 intro pins s σ H xs us Q I r h
 obtain⟨p,ys,rfl,h⟩:=h
 obtain⟨u,rfl,rx⟩:=vals1 r
 cases rx
 rcases h with⟨hq,q⟩|⟨hq,q⟩
 ·obtain⟨its,r',pl,hz⟩:=I.list hq
  have hlen:=r'.length
  refine call_tuple_list pl.isList (λh' kp=>?_) (by simp only[Yp]<;>omega)
  have I1:Inv X pins σ H {s with heap:=h'}:=I.kept (t':=s.toks) kp
  have I2:Inv X pins σ (upd H h'.objs.size (.tup ys)) {s with heap:=h'.push {cls:=.type "tuple",data:=.seq its.toArray}} :=
   I1.laid (t':=s.toks) (λb o e=>Yg _ e) (Yd _) (show ZY X.prog X.w _ _ _ (.tup ys)from⟨hz,its,r',IsTup.new _ _⟩)
  exact⟨.ref h'.objs.size,_,I2,rfl,q _ (I1.hok.fresh (Yd _))⟩
 ·obtain⟨its,r',pl,hz⟩:=I.tuple hq
  exact call_tuple_same pl ⟨.ref p,H,I,rfl,q⟩
noncomputable def tyV (K:PySem.W.Frag) (T:String) (x:V) (H:Hp):Prop:=match x with
 |.str _=>T="str"
 |.int _=>T="int"
 |.ref p=>(T="list"/\∃xs,SqL K H p xs)\/(T="tuple"/\∃o,K.lookup p=some o/\o.cls=.type "tuple"/\o.dict=none) \/
   (T="dict"/\((∃kvs,H p=some (.dK kvs))\/∃kvs,H p=some (.dT kvs)))\/(T="set"/\∃S n,H p=some (.set S n))
 |_=>False
theorem tyV_is {pins:List (Addr×Obj)}{σ:St}{H:Hp}{s:Shared}{T:String}{x:V}{v:Value} (I:Inv X pins σ H s) (r:RelV x v) (ty:tyV X.K T x H) :
  s.TypeIs v T/\∀a,v=.ref a->∃ob,s.heap.get? a=some ob/\ob.dict=none:=by
 cases x with
 |str z =>
  obtain⟨t,rfl⟩:=r
  cases(show T="str" from ty)
  exact⟨typeIs_str s z t,λ_ e=>nomatch e⟩
 |int i =>
  obtain⟨t,rfl⟩:=r
  cases(show T="int" from ty)
  exact⟨typeIs_int s i t,λ_ e=>nomatch e⟩
 |ref p =>
  cases r
  rcases ty with⟨rfl,xs,hq⟩|⟨rfl,o,hk,hc,hd⟩|⟨rfl,hk⟩|⟨rfl,S,n,hk⟩
  ·obtain⟨its,_,pl,_⟩:=I.list hq
   refine⟨pl.isList.typeIs,λa e=>?_⟩
   cases e
   obtain⟨o,n,e,c,hd,_⟩:=pl
   exact⟨o,e,hd⟩
  ·refine⟨⟨o,I.kIn p o hk,hc⟩,λa e=>?_⟩
   cases e
   exact⟨o,I.kIn _ o hk,hd⟩
  ·have z:∃o,s.heap.get? p=some o/\o.ExactDict:=by
    rcases hk with⟨kvs,hk⟩|⟨kvs,hk⟩
    ·obtain⟨_,_,_,_,o,_,_,e,ex,_⟩:=I.hok p _ hk
     exact⟨o,e,ex⟩
    ·obtain⟨_,_,_,_,o,_,_,e,ex,_⟩:=I.hok p _ hk
     exact⟨o,e,ex⟩
   obtain⟨o,e,ex⟩:=z
   refine⟨⟨o,e,ex.1⟩,λa e2=>?_⟩
   cases e2
   exact⟨o,e,ex.2.1⟩
  ·obtain⟨o,_,_,_,e,ex,_⟩:=I.hok p _ hk
   refine⟨⟨o,e,ex.1⟩,λa e2=>?_⟩
   cases e2
   exact⟨o,e,ex.2.1⟩
 |_=>exact False.elim ty
noncomputable def tBM (K:PySem.W.Frag) (T:String) (r:V->List V->Hp->VK->Prop) (to:TE) (t:TA):TE:=fun σ H Q=>to σ H λx H1=>tyV K T x H1/\t σ H1 λxs H2=>r x xs H2 Q
variable {o e:Expr}{es:List Expr}{to:TE}{t:TA}{name:Str}{apos cpos:Pos}{T id:String}{r:V->List V->Hp->VK->Prop}
theorem ZjG (pa:PlainAttrs T) (slot:Slot T name id) (hty:typeOf (.builtin id)=pure (.type "method_descriptor")) (hm:MtR X id r) (ho:PE X o to) (ha:PA X (e::es) t)
  (hbase:attributeBase o name X.env (eval o X.env)=eval o X.env:=by rfl)
  (hfew:((backTo cpos (starEach (e::es) X.env)).all (λx=>!x.1)&&(backToKw cpos (keywordEach [] X.env)).all (λx=>x.1.isSome)
   && decide ((e::es).length+([]:List Keyword).length+(if ([]:List Keyword).isEmpty then 0 else 1)<30))=true:=by rfl)
  (hline:(apos.endLine==cpos.line)=true:=by rfl) (hs:starEach (e::es) X.env=(false,eval e X.env)::starEach es X.env:=by rfl) (hplain:(backTo cpos (starEach es X.env)).any (·.1)=false:=by rfl) :
  PE X (.Call (.Attribute o name apos) (e::es) [] cpos) (tBM X.K T r to t):=by
 intro pins s σ H Q I h
 refine wpAny_Call_method_late hbase hfew hline rfl (thn (ho pins s σ H _ I h) λv s1 ⟨x,H1,I1,r1,ty,q1⟩=>?_)
 obtain⟨h1,h2⟩:=tyV_is I1 r1 ty
 refine⟨T,id,pa,slot,hty,h1,h2,?_⟩
 have hA:=ha cpos pins s1 σ H1 _ I1 q1
 rw[hs]at hA⊢
 refine Calls.callWith_builtin (by show(false||(backTo cpos (starEach es X.env)).any (·.1))=false;rw[hplain]<;>rfl) (Calls.evalArgs_plain ?_)
 exact thn hA λus s2 ⟨vs,H2,I2,r2,q2⟩=>hm pins s2 σ H2 x vs v us Q I2 r1 r2 q2
end
noncomputable def MtM (X:Cx) (id:String) (r:V->List V->Hp->VK->Prop):Prop :=
 ∀(pins:List (Addr×Obj)) (s:Shared) (σ:St) (H:Hp) (x:V) (xs:List V) (v:Value) (us:List Value) (Q:VK),Inv X pins σ H s->RelV x v->Vals xs us->r x xs H Q ->
  wpAny (model X.prog X.w) X.A (call (.builtin id) (v::us)) (EP X pins σ Q) X.xe s
theorem Vals.one:∀{x:V}{us:List Value},Vals [x] us->∃u,us=[u]/\RelV x u
 |_,_,.cons r .nil=>⟨_,rfl,r⟩
theorem Vals.two:∀{x y:V}{us:List Value},Vals [x,y] us->∃u v,us=[u,v]/\RelV x u/\RelV y v
 |_,_,_,.cons r (.cons q .nil)=>⟨_,_,rfl,r,q⟩
theorem Vals.rep {xs:List V}{us:List Value} (h:Vals xs us):∀k:Nat,Vals (List.replicate k xs).flatten (List.replicate k us).flatten
 |0=>.nil
 |k+1=>by
  rw[List.replicate_succ,List.replicate_succ,List.flatten_cons,List.flatten_cons]
  exact Vals.append h (Vals.rep h k)
theorem foldl_rep (its:List Value):∀(k:Nat) (acc:List Value),
  List.foldl (λx1 x2=>x1++x2) acc.toArray (List.replicate k its.toArray)=(acc++(List.replicate k its).flatten).toArray
 |0,acc=>by simp
 |k+1,acc=>by
  have e:acc.toArray++its.toArray=(acc++its).toArray:=by simp
  have e2:(acc++its)++(List.replicate k its).flatten=acc++(List.replicate (k+1) its).flatten:=by
   rw[List.replicate_succ,List.flatten_cons,YX]
  rw[<-e2,<-foldl_rep its k (acc++its),<-e,List.replicate_succ,List.foldl_cons]
section
variable {X:Cx}{pins:List (Addr×Obj)}{σ:St}{H:Hp}{s:Shared}{l b:Addr}{xs ys zs:List V}
theorem Inv.lset {its its':List Value}{n:Nat}{f:Array Value->Array Value}{t':Nat} (I:Inv X pins σ H s) (hH:H l=some (.lst xs))
  (e:s.heap.get? l=some {cls:=.type "list",data:=.seq its.toArray n}) (hf:f its.toArray=its'.toArray) (hv:Vals ys its') (hz:ys.length<=sizeLine) :
  Inv X pins σ (upd H l (.lst ys)) {s with heap:=s.heap.update l (Obj.mapSeq f),toks:=t'}:=by
 have q:=PySem.IsL.update e f
 rw[hf]at q
 refine I.write (x:=l) (e:=l) (by rw[hH];exact trivial) (.inl rfl) (λb' u hb hu=>(Heap.get?_update_other s.heap (Obj.mapSeq f) (Ne.symm hb)).trans hu) ⟨_,q⟩ ?_
 exact⟨hz,its',_,hv,q⟩
theorem Inv.lnew {its:List Value}{t':Nat} (I:Inv X pins σ H s) (hv:Vals ys its) (hz:ys.length<=sizeLine) :
  Inv X pins σ (upd H s.heap.objs.size (.lst ys)) {s with heap:=s.heap.push {cls:=.type "list",data:=.seq its.toArray},toks:=t'} :=
 I.laid (λ_ _ q=>Yg _ q) (Yd _) ⟨hz,its,0,hv,Yk _ rfl⟩
theorem Inv.fresh (I:Inv X pins σ H s):H s.heap.objs.size=none:=I.hok.fresh (Yd _)
theorem Inv.ZpY (I:Inv X pins σ H s) (hH:H l=some (.lst xs)):xs.length<=sizeLine/\∃(its:List Value) (n:Nat),Vals xs its/\xs.length=its.length/\s.heap.get? l=some {cls:=.type "list",data:=.seq its.toArray n}:=by
 obtain⟨z,its,n,r,e⟩:=I.hok l _ hH
 exact⟨z,its,n,r,r.length,e⟩
theorem ZrZ {n:Nat} (h:n<=sizeLine):Builtin.List.listTooLong n=false:=by
 unfold Builtin.List.listTooLong
 exact YD (by omega)
end
section
variable {X:Cx}
noncomputable def Zpl:V->List V->Hp->VK->Prop:=λx vs H Q=>∃l xs y,x=.ref l/\vs=[y]/\H l=some (.lst xs)/\xs.length<sizeLine/\Q .non (upd H l (.lst (xs++[y])))
theorem ZcS:MtM X "list.append" Zpl:=by
 intro pins s σ H x vs v us Q I rx rv h
 obtain⟨l,xs,y,rfl,rfl,hH,hz,q⟩:=h
 cases rx
 obtain⟨u,rfl,ru⟩:=rv.one
 obtain⟨z,its,n,r,hl,e⟩:=I.ZpY hH
 refine call_meets F.slot_list_append ⟨_,e,rfl⟩ F.entry_list_append (F.args_list_append_2 _ _) (PySem.list_append l its.toArray n u (by rw[Yp];omega)) ⟨e,?_⟩
 refine⟨.non,_,I.lset (its':=its++[u]) hH e (by simp) (r.append (.cons ru .nil)) ?_,rfl,q⟩
 rw[YL,List.length_singleton]
 omega
noncomputable def rCat:R2:=λx y H Q=>∃l b xs zs,x=.ref l/\y=.ref b/\H l=some (.lst xs)/\H b=some (.lst zs)/\xs.length+zs.length<=sizeLine/\∀p,H p=none->Q (.ref p) (upd H p (.lst (xs++zs)))
theorem ZhX:OpR X (binaryOp .Add) rCat:=by
 intro pins s σ H x y v u Q I rx ry h
 obtain⟨l,b,xs,zs,rfl,rfl,hH,hB,hz,q⟩:=h
 cases rx
 cases ry
 obtain⟨z,its,n,r,hl,e⟩:=I.ZpY hH
 obtain⟨z2,its2,n2,r2,hl2,e2⟩:=I.ZpY hB
 refine PySem.P.add_list e e2 ?_ (by rw[Yp,Yp];omega)
 have ea:its.toArray++its2.toArray=(its++its2).toArray:=by simp
 rw[ea]
 exact⟨.ref _,_,I.lnew (t':=s.toks) (r.append r2) (by rw[YL];omega),rfl,q _ I.fresh⟩
noncomputable def rRep:R2:=λx y H Q=>∃l k xs,x=.ref l/\y=.int k/\H l=some (.lst xs)/\-(2 ^ 63)<=k/\k<2 ^ 63/\xs.length*k.toNat<=sizeLine /\
 ∀p,H p=none->Q (.ref p) (upd H p (.lst (List.replicate k.toNat xs).flatten))
theorem len_rep {α:Type} (xs:List α) (k:Nat):(List.replicate k xs).flatten.length=k*xs.length:=by
 induction k with
 |zero=>simp
 |succ k ih=>rw[List.replicate_succ,List.flatten_cons,YL,ih,Nat.succ_mul,Nat.add_comm]
theorem ZgG:OpR X (binaryOp .Mult) rRep:=by
 intro pins s σ H x y v u Q I rx ry h
 obtain⟨l,k,xs,rfl,rfl,hH,h1,h2,hz,q⟩:=h
 cases rx
 obtain⟨t,rfl⟩:=ry
 obtain⟨z,its,n,r,hl,e⟩:=I.ZpY hH
 have hlen:its.toArray.size*k.toNat<=sizeLine:=by rw[Yp,<-hl];exact hz
 have hcap:¬ its.toArray.size*k.toNat>(2 ^ 63-1) / 8:=by
  have:(sizeLine:Nat)<=(2 ^ 63-1) / 8:=by decide
  omega
 have hfit:¬ (!Builtin.List.listFitsIndex k)=true:=by
  rw[fitsIndex_both h1 h2]
  exact Yy
 have hlong:¬ Builtin.List.listTooLong (its.toArray.size*k.toNat)=true:=by
  rw[ZrZ hlen]
  exact Yy
 have hnew:List.foldl (λx1 x2=>x1++x2) #[] (List.replicate (if its.toArray.isEmpty=true then 0 else k.toNat) its.toArray)=(List.replicate k.toNat its).flatten.toArray:=by
  have f0:∀m:Nat,List.foldl (λx1 x2=>x1++x2) #[] (List.replicate m its.toArray)=(List.replicate m its).flatten.toArray:=λm=>by
   have:=foldl_rep its m []
   rw[List.nil_append]at this
   exact this
  rw[f0]
  cases its with
  |nil=>simp
  |cons a r'=>rw[Yb (by simp)]
 refine wpAny_binaryOp_repeat_ref (T:="list") (U:="int") (by decide) ⟨_,e,rfl⟩ (λs'=>typeIs_int s' k t) noFill_list_mul F.fills_int_mul F.slot_int_rmul repeat_list F.slot_int_index.lookup
  (call_meets F.slot_int_rmul (typeIs_int s k t) F.entry_int_rmul (F.args_int_rmul_2 _ _) (int___rmul___int_list k t l its.toArray n)
   ⟨e,rfl,⟨_,e,rfl⟩,call_meets F.slot_list_mul ⟨_,e,rfl⟩ F.entry_list_mul (F.args_list_mul_2 _ _) (AutoListH.list___mul___list_int_3 l its.toArray n k t hfit hcap hlong) ⟨e,?_⟩⟩)
 rw[hnew]
 exact⟨.ref _,_,I.lnew (t':=s.toks) (r.rep k.toNat) (by rw[len_rep,Nat.mul_comm];exact hz),rfl,q _ I.fresh⟩
end
end L2
namespace Att
open PySem PySem.W PySem.Calls PyProof.Rows
theorem ZiZ {P:Params}{h:Heap}:∀(ns:List Int) (vs:List Value),WellAll P h vs (ns.map WData.int)->IntsAre vs ns:=by
 intro ns
 induction ns with
 |nil =>
  intro vs w
  rw[List.map_nil]at w
  cases w
  exact .nil
 |cons n ns ih =>
  intro vs w
  rw[YE]at w
  cases w with
  |cons a b =>
   cases a
   exact .cons _ _ (ih _ b)
theorem ZpZ {l:OpenLaw}{n:Nat} (hn:l.most=some n) {P:Params}{h:Heap}{args:List WData}{vals:List Value}
  (hpre:l.row.toRowW.claim.pre args=true) (hwl:WellAll P h vals args) :
  ∃a vs ns,vals=[Value.ref a]/\args=[WData.list (ns.map WData.int)]/\h.get? a=some {cls:=.type "list",data:=.seq vs.toArray}/\IntsAre vs ns/\ns.length<=n:=by
 have hsh:WShape.hasAll [] args [.list .int]=true:=(pre_splitW hpre).1
 have hc:l.pre.holds [] {args:=args}=true:=(pre_splitW hpre).2
 obtain⟨d,r,rfl,h1,h2⟩:=hasAllW_cons hsh
 obtain rfl:=hasAllW_nil h2
 obtain⟨xs,rfl,h3⟩:=hasW_list h1
 obtain⟨ns,rfl⟩:=items_int h3
 have hlen:ns.length<=n:=by
  unfold OpenLaw.pre at hc
  have h4:(WTm.not (.lt (.lit (.int (n:Int))) (.len (.arg 0)))).holds [] {args:=[.list (ns.map .int)]}=true:=by
   have h4:=(holds_andW hc).1
   rw[hn]at h4
   exact h4
  have h5:=condW_of h4 (w_not (w_lt w_lit (w_len_list (w_arg rfl))))
  rw[Yf]at h5
  refine Nat.le_of_not_lt λq=>?_
  have q':(n:Int)<((ns.length:Nat):Int):=by omega
  first
   |(rw[YG q']at h5;exact absurd h5 (by decide))
   |(simp at h5;omega)
 cases hwl with
 |cons w1 w2 =>
  cases w2
  cases w1 with
  |list ho hall=>exact⟨_,_,ns,rfl,rfl,ho,ZiZ ns _ hall,hlen⟩
theorem Zp0 (l:OpenLaw) (args:List WData):l.row.toRowW.claim.post args (.bool true) args=true :=
 postW_of (r:=l.row.toRowW) (X:=(true==true))
  (show WShape.has [] (.bool true) .bool=true by first|rfl|decide|simp[WShape.has,WShape.arms,WShape.armsAll])
  (show(WTm.eq .res (.lit (.bool true))).value [] {args:=args,res:=some (.bool true),after:=args}=some (.bool (true==true))from w_eq_bool (w_res rfl) w_lit) rfl
theorem ZmP {l:OpenLaw}{n:Nat}{q:Program}{loose:List Str}{XP:(Str->Option Value)->Heap->Prop}{YP:World->Heap->Prop}{d:DefRec}
  (hn:l.most=some n) (hdf:d.params.defaults=[])
  (call:∀(w:World) (s₀ s₁:Shared) (mg mb:Str->Option Value) (fa:Addr) (o:Obj) (pm cd doc:Value) (a:Addr) (vs:List Value) (ns:List Int),
   Ground q loose [] XP w s₀ mg mb s₁.heap->YP w s₁.heap ->
   s₁.heap.get? fa=some o->o.data=.func (docDef d.name d.params d.body d.scope pm cd doc)->s₁.heap.CodeRec cd d.name->mg d.name=some (.ref fa) ->
   s₁.heap.get? a=some {cls:=.type "list",data:=.seq vs.toArray}->IntsAre vs ns->ns.length<=n->s₁.gens=#[] ->
   codeAny (model l.prog w) callerA (.call (.ref fa) ⟨[.ref a],[]⟩) (λr s'=>r=.ok (.ret (.bool true))/\OldK s₁.heap s'.heap/\s'.os=s₁.os/\AllBare s'.gens) s₁) :
  WalkO q loose XP YP l.row.toRowW d [] (λf vs=>PySem.call f vs):=by
 intro w s₀ s₁ mg mb G Y fa o pm cd doc dV kV ho hd hcd hD hmg hg args vals as hpre hlay hrd hwl hlo
 obtain rfl:dV=.none:=Dflts.none hD hdf
 obtain rfl:kV=.none:=Dflts.noKw hD
 obtain⟨a,vs,ns,rfl,rfl,hobj,hints,hlen⟩:=ZpZ hn hpre hwl
 refine enter_call (codeAny_mono (call w s₀ s₁ mg mb fa o pm cd doc a vs ns G Y ho (fd_plain hd) hcd hmg hobj hints hlen hg) λr s' hq=>?_)
 obtain⟨rfl,h2,h3,h4⟩:=hq
 exact⟨.inl ⟨.bool true,.bool true,[],rfl,λ_=>rfl,.bool true,Zp0 l _,λ_=>⟨List.Pairwise.nil,λ_ hm=>(nomatch hm)⟩⟩,h2,h3,h4⟩
end Att
namespace L2
open PySem PySem.Spec PyProof.Rows
theorem ZhY:∀{vs:List Value}{ns:List Int},IntsAre vs ns->Vals (ns.map V.int) vs
 |_,_,.nil=>.nil
 |_,_,.cons n t h=>.cons ⟨t,rfl⟩ (ZhY h)
noncomputable def inClass (s:Stmt) (j:Nat):Stmt:=match s with
 |.ClassDef _ _ _ body _ _ _ _ _ _ _=>body.getD j (.Pass ⟨0,0,0,0⟩)
 |_=>.Pass ⟨0,0,0,0⟩
noncomputable def defArgs (s:Stmt):Arguments:=match s with
 |.FunctionDef _ a _ _ _ _ _ _ _ _=>a
 |_=>{posonlyargs:=[],args:=[],vararg:=none,kwonlyargs:=[],kw_defaults:=[],kwarg:=none,defaults:=[]}
noncomputable def defBody (s:Stmt):List Stmt:=match s with
 |.FunctionDef _ _ b _ _ _ _ _ _ _=>b
 |_=>[]
noncomputable def defScope (s:Stmt):Scope:=match s with
 |.FunctionDef _ _ _ _ _ _ sc _ _ _=>sc
 |_=>{kind:=.function,names:=[],isGenerator:=false,isCoroutine:=false}
noncomputable abbrev E0:XK:=λ_ _ _=>False
structure Fun (K:PySem.W.Frag) (x qual:Str) (st:Stmt) (f:Addr) (fd:FuncData):Prop where
 ex:∃(oc:Value) (od:Option Addr) (kV doc pm:Value) (an:Option Addr) (cdv ct:Value) (osl:Array (Option Value)),
  fd=PySem.W.fnOf x qual (defArgs st) (defBody st) (defScope st) .none kV doc pm an cdv ct/\K.lookup f=some ⟨oc,od,.func fd,osl⟩/\PySem.W.codeIn K cdv qual=true
 kp:PySem.W.keepIn K (.ref f)=true
section
variable {P:Program}{w:World}{K:PySem.W.Frag}{mg:Str->Option Value}{base:Heap}
theorem Fun.binds {x qual:Str}{st:Stmt}{f:Addr}{fd:FuncData}{ps:List Str} (F:Fun K x qual st f fd)
  (h:∀(kV doc pm:Value) (an:Option Addr) (cdv ct:Value) (us:List Value),us.length=ps.length->bindArgs (PySem.W.fnOf x qual (defArgs st) (defBody st) (defScope st) .none kV doc pm an cdv ct) ⟨us,[]⟩=pure (ps.zip us)):Binds K fd ps []:=by
 obtain⟨oc,od,kV,doc,pm,an,cdv,ct,osl,rfl,lk,hcd⟩:=F.ex
 exact .all (h kV doc pm an cdv ct)
theorem ZA {x qual:Str}{st:Stmt}{f:Addr}{oc:Value}{od an:Option Addr}{osl:Array (Option Value)}{kV doc pm cdv ct:Value} (l:K.lookup f=some ⟨oc,od,.func (PySem.W.fnOf x qual (defArgs st) (defBody st) (defScope st) .none kV doc pm an cdv ct),osl⟩)
  (c:PySem.W.codeIn K cdv qual=true) (k:PySem.W.keepIn K (.ref f)=true):Fun K x qual st f (PySem.W.fnOf x qual (defArgs st) (defBody st) (defScope st) .none kV doc pm an cdv ct):=⟨⟨oc,od,kV,doc,pm,an,cdv,ct,osl,rfl,l,c⟩,k⟩
end
theorem Zr0 {A:Around}{k:Nat} (hr:Room k A):A.units+1<cLine:=Yr (Nat.add_le_add_left (by decide:1<=64) _) hr.units
section
variable {X:Cx}
theorem pv (i:Nat) {x:Str}{pos:Pos} (hN:X.N[i]?=some x:=by rfl) (hv:Vis X.env.scope x:=by first|exact Or.inl rfl|exact Or.inr (Or.inl rfl)|exact Or.inr (Or.inr rfl)) (hd:(x==("__debug__":Str))=false:=by decide)
  (hcd:(x==("__classdict__":Str))=false:=by decide):PE X (.Name x pos) (ZpP i):=pe_var hN hv hd hcd
end
theorem ZK {c A B:Prop} [Decidable c] (h1:c->A) (h2:¬ c->B):if c then A else B:=by
 by_cases h:c
 ·rw[Yc h]
  exact h1 h
 ·rw[Yb h]
  exact h2 h
noncomputable def Zf (H H':Hp):Prop:=∀b o,H b=some o->H' b=some o
theorem Zf.refl (H:Hp):Zf H H:=λ_ _ h=>h
theorem Zf.trans {H H1 H2:Hp} (a:Zf H H1) (b:Zf H1 H2):Zf H H2:=λc o h=>b c o (a c o h)
theorem Zf.free {H H':Hp} (e:Zf H H') {l:Addr} (h:H' l=Option.none):H l=Option.none:=by
 cases q:H l with
 |none=>rfl
 |some o =>
  rw[e l o q]at h
  cases h
theorem Zf.seq {K:PySem.W.Frag}{H H':Hp}{a:Addr}{xs:List V} (e:Zf H H') (h:SqL K H a xs):SqL K H' a xs:=by
 rcases h with(h|⟨o,h⟩)|h
 ·exact .inl (.inl (e _ _ h))
 ·exact .inl (.inr ⟨o,e _ _ h⟩)
 ·exact .inr h
theorem Zev {env:Env}:∀(names:List (Str×NameKind)) (cs0:List (Str×Addr)),(∀y∈names,y.2=.free->∃c,env.cells.lookup y.1=some c) ->
  ∃cl,(forIn names cs0 (λ(x:Str×NameKind) r=>(do
   match x with
   |(name,kind)=>if (kind==NameKind.free)=true then do let a <-cellOf env name;pure (ForInStep.yield ((name,a)::r))else pure (ForInStep.yield r)):_->_->Sem (ForInStep (List (Str×Addr)))))=pure cl /\
   (∀p∈cl,p∈cs0\/env.cells.lookup p.1=some p.2)/\(∀p∈cs0,p∈cl)/\(∀y∈names,y.2=.free->∃c,(y.1,c)∈cl)
 |[],cs0,_=>⟨cs0,rfl,λp h=>.inl h,λp h=>h,λy h=>by cases h⟩
 |(n,k)::r,cs0,h=>by
  by_cases hk:k=.free
  ·subst hk
   obtain⟨c,hc⟩:=h (n,.free) (.head _) rfl
   obtain⟨cl,e,h1,h2,h3⟩:=Zev r ((n,c)::cs0) λy hy=>h y (.tail _ hy)
   refine⟨cl,?_,λp hp=>?_,λp hp=>h2 p (.tail _ hp),λy hy hf=>?_⟩
   ·rw[List.forIn_cons]
    have e1:cellOf env n=pure c:=by unfold cellOf;rw[hc]
    simp only[beq_self_eq_true,if_true,e1,pure_bind]
    exact e
   ·rcases h1 p hp with q|q
    ·rcases Yl.mp q with q|q
     ·subst q;exact .inr hc
     ·exact .inl q
    ·exact .inr q
   ·rcases Yl.mp hy with q|q
    ·subst q;exact⟨c,h2 _ (.head _)⟩
    ·exact h3 y q hf
  ·obtain⟨cl,e,h1,h2,h3⟩:=Zev r cs0 λy hy=>h y (.tail _ hy)
   refine⟨cl,?_,h1,h2,λy hy hf=>?_⟩
   ·rw[List.forIn_cons]
    have e1:(k==NameKind.free)=false:=by cases k<;>first|rfl|exact absurd rfl hk
    simp only[e1,Bool.false_eq_true,if_false,pure_bind]
    exact e
   ·rcases Yl.mp hy with q|q
    ·subst q;exact absurd hf hk
    ·exact h3 y q hf
theorem Zon {env:Env}{scope:Scope} (h:∀y∈scope.names,y.2=.free->∃c,env.cells.lookup y.1=some c) :
  ∃cl,closureFor scope env=pure cl/\(∀x c,cl.lookup x=some c->env.cells.lookup x=some c)/\(∀y∈scope.names,y.2=.free->∃c,cl.lookup y.1=some c/\env.cells.lookup y.1=some c):=by
 obtain⟨cl,e,h1,h2,h3⟩:=Zev (env:=env) scope.names [] h
 have up:∀x c,cl.lookup x=some c->env.cells.lookup x=some c:=λx c q=>by
  rcases h1 _ (PySem.mem_of_lookup q)with z|z
  ·cases z
  ·exact z
 refine⟨cl,?_,up,λy hy hf=>?_⟩
 ·unfold closureFor
  simp only[bind_pure_comp]at e⊢
  rw[e]
  exact pure_bind _ _
 ·obtain⟨c,hc⟩:=h3 y hy hf
  cases q:cl.lookup y.1 with
  |none=>exact absurd (List.lookup_eq_none_iff.mp q _ hc) (by simp)
  |some c'=>exact⟨c',rfl,up _ _ q⟩
noncomputable def compOk (around scope:Scope):Bool :=
 scope.kind==.function&&around.kind==.function&&scope.names.all λy=>match y.2 with
  |.local=>scope.names.lookup y.1==some .local
  |.cell=>false
  |.free=>(scope.names.lookup y.1==some .free)&&(around.names.lookup y.1==some .cell||around.names.lookup y.1==some .free)
  |_=>true
theorem Ziz {a s:Scope} (h:compOk a s=true):s.kind=.function:=by
 simp only[compOk,Bool.and_eq_true,beq_iff_eq]at h;exact h.1.1
theorem Zle {a s:Scope} (h:compOk a s=true) {y:Str×NameKind} (hy:y∈s.names):(match y.2 with
  |.local=>s.names.lookup y.1==some .local
  |.cell=>false
  |.free=>(s.names.lookup y.1==some .free)&&(a.names.lookup y.1==some .cell||a.names.lookup y.1==some .free)
  |_=>true)=true:=by
 simp only[compOk,Bool.and_eq_true]at h
 exact List.all_eq_true.mp h.2 y hy
theorem ZiA {a s:Scope} (h:compOk a s=true):∀y∈s.names,y.2≠.cell:=λy hy e=>by
 have q:=Zle h hy
 rw[e]at q
 cases q
theorem ZiB {a s:Scope} (h:compOk a s=true):∀y∈s.names,y.2=.free->a.names.lookup y.1=some .cell\/a.names.lookup y.1=some .free:=λy hy e=>by
 have q:=Zle h hy
 rw[e]at q
 simp only[Bool.and_eq_true,Bool.or_eq_true,beq_iff_eq]at q
 exact q.2
theorem Zbr {env:Env}:∀{names:List (Str×NameKind)}{x:Str}{k:NameKind},(names.map λ(n,k)=>if (k==NameKind.free&&env.scope.kind==.function&&env.kindOf n==some .cell)then (n,NameKind.cell)else (n,k)).lookup x=some k ->
  ∃k',names.lookup x=some k'/\(k=k'\/(k'=.free/\k=.cell))
 |[],_,_,h=>by simp at h
 |(n,k0)::r,x,k,h=>by
  by_cases hx:x=n
  ·subst hx
   refine⟨k0,by simp,?_⟩
   simp only[YE]at h
   split at h
   ·rename_i hc
    simp only[Bool.and_eq_true,beq_iff_eq]at hc
    simp only[List.lookup_cons_self,Option.some.injEq]at h
    exact .inr ⟨hc.1.1,h.symm⟩
   ·simp only[List.lookup_cons_self,Option.some.injEq]at h
    exact .inl h.symm
  ·have hb:(x==n)=false:=by simpa using hx
   simp only[YE]at h
   have e2:∀k1,((n,k1)::r).lookup x=r.lookup x:=λk1=>by simp[List.lookup_cons,hb]
   split at h<;>(simp only[List.lookup_cons,hb]at h;obtain⟨k',h1,h2⟩:=Zbr h;exact⟨k',by rw[e2];exact h1,h2⟩)
noncomputable def Zr1 (X:Cx) (Nc:List Str) (scope:Scope) (cl:List (Str×Addr)) (C:Addr) (s2:Shared) (H2:Hp) (fp:List Addr):Cx where
 prog:=X.prog
 w:=X.w
 K:=X.K
 mg:=X.mg
 base:=X.base
 A:=X.A
 N:=Nc
 s₀:=s2
 H₀:=H2
 env:=compEnvC scope cl C X.env
 outer:=X.stack
 stack:=X.stack
 ex:=fp
 fn:=λ_=>false
 calm:=X.calm
 pn:=[]
 xe:=λ_ _=>False
noncomputable def ZbM (js:List (Option Nat)) (σ:St):St:=js.map λj=>match j with
 |none=>none
 |some i=>(σ[i]?).join
noncomputable def takesC (N Nc:List Str) (scope:Scope):List (Option Nat)->Nat->Bool
 |[],i=>i==Nc.length
 |none::r,i=>takesC N Nc scope r (i+1)
 |some j::r,i=>(match Nc[i]?,N[j]? with
  |some x,some y=>x==y&&scope.names.lookup x==some .free
  |_,_=>false)&&takesC N Nc scope r (i+1)
theorem Zew {N Nc:List Str}{scope:Scope}:∀{js:List (Option Nat)}{i:Nat},takesC N Nc scope js i=true->i+js.length=Nc.length
 |[],i,h=>by simpa[takesC]using h
 |none::r,i,h=>by
  have:=Zew (js:=r) (i:=i+1) (by simpa[takesC]using h)
  simp only[Yo];omega
 |some j::r,i,h=>by
  simp only[takesC,Bool.and_eq_true]at h
  have:=Zew (js:=r) (i:=i+1) h.2
  simp only[Yo];omega
theorem Zgb {N Nc:List Str}{scope:Scope}:∀{js:List (Option Nat)}{i k j:Nat},takesC N Nc scope js i=true->js[k]?=some (some j)->∃x,Nc[i+k]?=some x/\N[j]?=some x/\scope.names.lookup x=some .free
 |[],i,k,j,h,e=>by simp at e
 |none::r,i,0,j,h,e=>by simp at e
 |none::r,i,k+1,j,h,e=>by
  obtain⟨x,h1,h2,h3⟩:=Zgb (js:=r) (i:=i+1) (k:=k) (j:=j) (by simpa[takesC]using h) (by simpa using e)
  exact⟨x,by rw[<-h1];congr 1;omega,h2,h3⟩
 |some j0::r,i,0,j,h,e=>by
  simp only[takesC,Bool.and_eq_true]at h
  simp only[List.getElem?_cons_zero,Option.some.injEq]at e
  subst e
  cases e1:Nc[i]? with
  |none=>rw[e1]at h;simp at h
  |some x =>
   cases e2:N[j0]? with
   |none=>rw[e1,e2]at h;simp at h
   |some y =>
    rw[e1,e2]at h
    simp only[Bool.and_eq_true,beq_iff_eq]at h
    exact⟨x,by simpa using e1,by rw[h.1.1],h.1.2⟩
 |some j0::r,i,k+1,j,h,e=>by
  simp only[takesC,Bool.and_eq_true]at h
  obtain⟨x,h1,h2,h3⟩:=Zgb (js:=r) (i:=i+1) (k:=k) (j:=j) h.2 (by simpa using e)
  exact⟨x,by rw[<-h1];congr 1;omega,h2,h3⟩
section
variable {X:Cx}
theorem lookup_mem {names:List (Str×NameKind)}{x:Str}{k:NameKind} (h:names.lookup x=some k):(x,k)∈names:=PySem.mem_of_lookup h
theorem Zfj {prog:Program}{w:World}{A:Around}{R:Result->Shared->Prop}{s:Shared}{elt target iter:Expr}{ifs:List Expr}{scope:Scope}{pos:Pos}{it acc:Value}{env:Env} (I:Nat->Shared->Prop)
  (turn:∀n s,I n s->wpAny (model prog w) A (pyNext it) (λr s₁=>match r with
   |none=>R (.ok .next) s₁
   |some v=>wpAny (model prog w) A (letOwnedTupleGo target it v) (λ_ s₁=>wpAny (model prog w) A (assign target env v) (λ_ s₂ =>
     wpAny (model prog w) A (forIn ifs true λc r=>if r=true then do let ok <-isTrue c env (eval c env);pure (ForInStep.yield ok)else pure (ForInStep.yield r)) (λok s₃ =>
      if ok=true then wpAny (model prog w) A (eval elt env) (λx s₄ =>
       wpAny (model prog w) A (call (.builtin "list.append") [acc,x]) (λ_ s₅=>∃m,m<n/\I m s₅) (λ_ _=>False) s₄) (λ_ _=>False) s₃
      else ∃m,m<n/\I m s₃) (λ_ _=>False) s₂) (λ_ _=>False) s₁) (λ_ _=>False) s₁) (λ_ _=>False) s)
  (n:Nat) (h:I n s) :
  codeAny (model prog w) A (.compLoop (.ListComp elt [⟨target,iter,ifs,0⟩] scope pos) 0 it acc env) R s:=by
 refine codeAny_loop rfl I (λn s hI=>?_) n h
 show wpAny _ A ((compTurn (.ListComp elt [⟨target,iter,ifs,0⟩] scope pos) 0 it acc env).onRaise (λx=>do noteFrame x env;theTreesLotGoes x)) _ _ s
 refine wpAny_noted ?_
 rw[compTurn_list]
 refine Ya (wpAny_standAt (Ya (YK (turn n s hI) (λr s₁ h₁=>?_) λ_ _ h'=>h'.elim)))
 cases r with
 |none=>exact Ye h₁
 |some v =>
  refine Ya (YK h₁ (λ_ s₁' h₁=>?_) λ_ _ h'=>h'.elim)
  refine Ya (YK h₁ (λ_ s₂ h₂=>Ya (YK h₂ (λok s₃ h₃=>?_) λ_ _ h'=>h'.elim)) λ_ _ h'=>h'.elim)
  cases ok with
  |false=>exact Ye ⟨rfl,h₃⟩
  |true =>
   exact Ya (Ya (YK h₃ (λx s₄ h₄=>Ya (YK h₄ (λ_ s₅ h₅=>Ye (Ye ⟨rfl,h₅⟩)) λ_ _ h'=>h'.elim)) λ_ _ h'=>h'.elim))
noncomputable def Zp1 (X:Cx) (ifs:List Expr) (t:TT):Prop :=
 ∀(pins:List (Addr×Obj)) (s:Shared) (σ:St) (H:Hp) (Q:Bool->Hp->Prop),Inv X pins σ H s->t σ H Q ->
  wpAny (model X.prog X.w) X.A (forIn ifs true λc r=>if r=true then do let ok <-isTrue c X.env (eval c X.env);pure (ForInStep.yield ok)else pure (ForInStep.yield r)) (TP X pins σ Q) X.xe s
noncomputable def tYes:TT:=λ_ H Q=>Q true H
theorem Zab:Zp1 X [] tYes:=λpins s σ H Q I h=>wpAny_tests_nil ⟨H,I,h⟩
theorem Zfk {c:Expr}{t:TT} (h:PT X c t):Zp1 X [c] t:=λpins s σ H Q I hq=>wpAny_tests_one (h pins s σ H Q I hq)
noncomputable def ZdI (L:List Nat) (σ σ':St):Prop:=σ'.length=σ.length/\∀k,k∉L->σ'[k]?=σ[k]?
noncomputable def Zlf (g:TG) (L:List Nat):Prop:=∀v σ H (Q Q':St->Hp->Prop),(∀σ' H',ZdI L σ σ'->Q σ' H'->Q' σ' H')->g v σ H Q->g v σ H Q'
noncomputable def ZlW (g:TGs) (L:List Nat):Prop:=∀v σ H (Q Q':St->Hp->Prop),(∀σ' H',ZdI L σ σ'->Q σ' H'->Q' σ' H')->g v σ H Q->g v σ H Q'
theorem ZdI.refl {L:List Nat}{σ:St}:ZdI L σ σ:=⟨rfl,λ_ _=>rfl⟩
theorem ZdI.trans {L L':List Nat}{a b c:St} (x:ZdI L a b) (y:ZdI L' b c):ZdI (L++L') a c :=
 ⟨y.1.trans x.1,λk hk=>(y.2 k λz=>hk (Yv _ z)).trans (x.2 k λz=>hk (YT _ z))⟩
theorem Zx {i:Nat}:Zlf (Zju i) [i]:=λv σ H Q Q' hq h=>hq _ _ ⟨by simp,λk hk=>by
 rw[List.getElem?_set_ne]
 intro z;subst z;exact hk (by simp)⟩ h
theorem Zhh:ZlW gNil []:=λv σ H Q Q' hq h=>⟨h.1,hq _ _ ZdI.refl h.2⟩
theorem Za7 {t:TG}{u:TGs}{L L':List Nat} (h1:Zlf t L) (h2:ZlW u L'):ZlW (ZrJ t u) (L++L'):=λv σ H Q Q' hq h=>by
 obtain⟨x,r,e,h⟩:=h
 exact⟨x,r,e,h1 _ _ _ _ _ (fun σ' H' k1 q=>h2 _ _ _ _ _ (fun σ2 H2 k2 q2=>hq _ _ (k1.trans k2) q2) q) h⟩
theorem Zhi {K:PySem.W.Frag}{n:Nat}{t:TGs}{L:List Nat} (h:ZlW t L):Zlf (gTup K n t) L:=λv σ H Q Q' hq q=>by
 obtain⟨a,xs,e1,e2,e3,q⟩:=q
 exact⟨a,xs,e1,e2,e3,h _ _ _ _ _ hq q⟩
noncomputable def Zpm (wi:TI) (g:TG) (tt:TT) (te:TE) (js:List (Option Nat)):TE:=fun σ H Q=>wi σ H λJ H1=>∃W:Nat->Nat->List V->Hp->Prop,(∃m,W 0 m [] H1)/\∀i m acc H,W i m acc H ->
 (J.stop i H/\acc.length<=sizeLine/\∀p,H p=none->Q (.ref p) (upd H p (.lst acc))) \/
 (J.go i H/\acc.length<sizeLine/\∀x H',J.yld i H x H'->g x (ZbM js σ) H' fun σ2 H2=>tt σ2 H2 λb H3=>if b=true then te σ2 H3 λv H4=>∃m',m'<m/\W (i+1) m' (acc++[v]) H4 else ∃m',m'<m/\W (i+1) m' acc H3)
theorem ZlX {C:Addr}{h:Heap}:Heap.SameBut C h h:=by
 first|exact Heap.SameBut.refl|exact⟨rfl,λ_ _=>rfl⟩
end
end L2
namespace L2
open PySem PySem.Spec PyProof.Rows PySem.W PySem.Builtin.ObjectAttr PySem.Builtin.Getset_descriptor
noncomputable def ZmQ (x C:Addr) (h:Heap):Prop:=∃o,h.get? x=some o/\o.cls=.ref C
structure ExK (K:Frag) (C:Addr):Prop where
 dk:hasDictIn K C=true
 ga:findIn K (.ref C) "__getattribute__"=some (some (.builtin "BaseException.__getattribute__"))
 gt:findIn K (.ref C) "__getattr__"=some none
 cl:findIn K (.ref C) "__class__"=some (some (.builtin "object.__class__"))
 gg:specialIn K (.builtin "object.__class__") "__get__"=some (some (.builtin "getset_descriptor.__get__"))
 tk:takesIn K (.builtin "object.__class__")=some true
 mo:mroIn K C (.type "object")=some true
 mb:mroIn K C (.type "BaseException")=some true
section
variable {K:Frag}{x C:Addr}
theorem ZmQ.type {M:Model}{h:Heap} (I:ZmQ x C h):Looks M h (typeOf (.ref x)) (.ref C):=by
 obtain⟨o,e,c⟩:=I
 exact c▸(Looks.ld e).andThen .now
theorem Zr2 {M:Model}{h:Heap} (X:K.In h) (Z:ExK K C):Looks M h (find (.ref x) (.ref C) "__class__") (.bind (.builtin "getset_descriptor.__get__") (.builtin "object.__class__")):=by
 have L3:=looks_takesIn (M:=M) X Z.tk
 exact(looks_findIn (M:=M) X Z.cl).andThen ((looks_specialIn X Z.gg).andThen
  ((show Looks M h (dataDescriptor? (some (.builtin "object.__class__")) (some (.builtin "getset_descriptor.__get__"))) (some (.builtin "getset_descriptor.__get__",.builtin "object.__class__"))from L3.andThen .now).andThen (Looks.tag .now)))
theorem Zuz {prog:Program}{w:World}{A:Around}{R:Result->Shared->Prop}{s:Shared}{tp:Value} (X:K.In s.heap) (I:ZmQ x C s.heap) (Z:ExK K C) (hR:R (.ok (.ret (.ref C))) s) :
  codeAny (model prog w) A (.call (.builtin "getset_descriptor.__get__") ⟨[.builtin "object.__class__",.ref x,tp],[]⟩) R s:=by
 obtain⟨hp,gn,dw,tk,os⟩:=s
 have L0:=I.type (M:=model prog w)
 have L1:=looks_mroIn (M:=model prog w) X Z.mo
 refine codeAny_call_builtin KF.slot_gs.plain KF.entry_gs (KF.slot_gs.check _ _ _ _ _ _ _ _ KF.type_class (KF.args_gs _ _ _) ?_)
 unfold Builtin.«getset_descriptor.__get__» descrGet;rw[dga_obj];refine Ya (Ye ?_)
 unfold descrGetter descrCheckInstance descrNameAndClass isInstance;simp only[KF.owner_class]
 repeat lk
 refine⟨Code.quiet_builtin _ (by decide +kernel),codeAny_builtin KF.entry_class ?_⟩;unfold Builtin.«object.__class__» shownTypeOf
 repeat lk
 exact hR
theorem Zp2 {prog:Program}{w:World}{A:Around}{E:Value->Shared->Prop}{s:Shared}{tk:Tok}{Q:Fin->Shared->Prop} (X:K.In s.heap) (I:ZmQ x C s.heap) (Z:ExK K C) (hQ:Q (.done (.ret (.ref C))) s) :
  wpAny (model prog w) A (Builtin.«object.__getattribute__» ⟨[.ref x,.str "__class__" tk],[]⟩) Q E s:=by
 obtain⟨hp,gn,dw,t,os⟩:=s
 have L0:=I.type (M:=model prog w)
 have L2:=Zr2 (M:=model prog w) (x:=x) X Z
 unfold Builtin.«object.__getattribute__»
 refine Ya (Ye (Ya (Ye (Ya (L0.at (Ya (L2.at ?_)))))))
 show wpAny _ _ (holding _ (call _ _) >>= ret) _ _ _
 exact Ya (wpAny_holding (wpAny_call (Zuz (s:=⟨hp,gn,dw,t,os⟩) X I Z (Ye hQ))))
theorem Zp3 {M:Model}{A:Around}{E:Value->Shared->Prop}{s:Shared}{nameV:Value}{Q:Unit->Shared->Prop} (X:K.In s.heap) (I:ZmQ x C s.heap) (Z:ExK K C) (hq:Q () s) :
  wpAny M A (checkBuiltinCall "BaseException.__getattribute__" ⟨[.ref x,nameV],[]⟩) Q E s:=by
 obtain⟨hp,gn,dw,t,os⟩:=s
 have hk:builtinKind "BaseException.__getattribute__"=some .slot:=by decide +kernel
 have hsplit:splitId "BaseException.__getattribute__"=some ("BaseException","__getattribute__"):=by decide +kernel
 have L0:=I.type (M:=M)
 have L1:=looks_mroIn (M:=M) X Z.mb
 have ha:=F.args_bexc_ga (.ref x) nameV
 simp only[checkBuiltinCall,hk,hsplit]
 refine Ya ?_
 unfold isInstance
 refine Ya (L0.at (L1.at ?_))
 repeat (first|assumption|wp_step)
theorem Zp4 {prog:Program}{w:World}{A:Around}{E:Value->Shared->Prop}{s:Shared}{Q:Option Value->Shared->Prop} (X:K.In s.heap) (I:ZmQ x C s.heap) (Z:ExK K C) (hQ:Q (some (.ref C)) {s with toks:=s.toks+1}) :
  wpAny (model prog w) A (getAttr? (.ref x) "__class__") Q E s:=by
 obtain⟨hp,gn,dw,tk,os⟩:=s
 have L0:=I.type (M:=model prog w)
 have L1:=looks_findIn (M:=model prog w) X Z.ga
 have L3:=looks_findIn (M:=model prog w) X Z.gt
 have hb:=(F.attrBase_ValueError.ga).bind (.ref x)
 unfold getAttr? getAttrBy? getAttrBy;refine Ya (wpAny_mkText (Ya (wpAny_attempt (wpAny_holding (Ya (L0.at (Ya (L1.at ?_))))))))
 show wpAny _ _ (getAttrByItsOwn _ _ _ _ _ _) _ _ _
 unfold getAttrByItsOwn hookBefore
 refine Ya (L3.at ?_)
 refine Ya (wpAny_attempt (wpAny_holding ?_))
 unfold callGetattribute
 show wpAny _ _ (boundAndCalled _ _ _) _ _ _
 unfold boundAndCalled
 rw[hb]
 refine Ya (Ye ?_)
 refine wpAny_call ?_
 refine codeAny_call_builtin F.attrBase_ValueError.ga.plain F.entry_bexc_ga (Zp3 (s:=⟨hp,gn,dw,tk+1,os⟩) X I Z (Zp2 (s:=⟨hp,gn,dw,tk+1,os⟩) X I Z ?_))
 exact handed_on rfl (Ye hQ)
theorem ZuA (Z:ExK K C):KitX K (.ref x) (.ref C) (ZmQ x C) where
 ty:=λ_ _ _ I=>I.type
 it:=λ_ _ X _=>by
  obtain⟨cdD,hcD,_⟩:=any_some Z.dk
  unfold clsIn at hcD
  split at hcD
  ·rename_i c' d' cd' sl' ho
   intro A' Q' E' s' k q
   unfold isType loadHead;exact Ya (wpAny_loadPart (k _ _ (X _ _ ho)) (Ye q))
  ·cases hcD
 ne:=λh tp dd its n sl X htp=>by
  obtain⟨cdD,hcD,_⟩:=any_some Z.dk
  refine Bool.eq_false_iff.mpr λq=>?_
  have e:C=tp:=Value.ref.inj (beq_iff_eq.mp q);subst e
  unfold clsIn at hcD
  split at hcD
  ·rename_i c' d' cd' sl' ho
   have z:=(X _ _ ho).symm.trans htp;cases z
  ·cases hcD
 ca:=λX I k=>Zp4 X I Z k
end
noncomputable def ExcO (e C:Addr):HO:=.ext (ZmQ e C)
noncomputable def tyIs (K:Frag) (H:Hp) (x:V) (c:Value) (b:Bool):Prop :=
 (∃t,TyOf K H x t/\kitOne K t c=some b)\/∃e C,x=.ref e/\H e=some (ExcO e C)/\ExK K C/\kitOne K (.ref C) c=some b
noncomputable def cOf:V->Option Value
 |.ref a=>some (.ref a)
 |.ty n=>some (.type n)
 |_=>none
section
variable {X:Cx}
noncomputable def rIsi (K:Frag):List V->Hp->VK->Prop:=λxs H Q=>∃x v c b,xs=[x,v]/\cOf v=some c/\tyIs K H x c b/\Q (.bl b) H
theorem Zr3:Zcv X (.builtin "isinstance") (rIsi X.K):=by
 intro pins s σ H xs us Q I r h
 obtain⟨x,v,c,b,rfl,hc,ht,q⟩:=h
 obtain⟨u,u2,rfl,ru,ru2⟩:=r.two
 have e2:u2=c:=by
  cases v with
  |ref a=>have:=(show u2=Value.ref a from ru2);cases hc;exact this
  |ty n=>have:=(show u2=Value.type n from ru2);cases hc;exact this
  |_=>cases hc
 subst e2
 have fin:∀tk,EP X pins σ Q (.bool b) {s with toks:=tk}:=λtk=>⟨.bl b,H,I.tok tk,rfl,q⟩
 rcases ht with⟨t,ty,e⟩|⟨e,C,rfl,hH,Z,e1⟩
 ·exact ZpU I ru ty e fin
 ·cases(show u=Value.ref e from ru)
  obtain⟨p,_,_⟩:=(show ZY X.prog X.w H s.heap e (ExcO e C)from I.hok e _ hH)
  exact kia_one (ZuA Z) I.kIn p e1 (λz=>nomatch z) fin
end
end L2
namespace L2
open PySem PySem.Spec PyProof.Rows
structure Fly (P:Program) (w:World) (outer:List Env) (H:Hp) (s:Shared) (H':Hp) (B:Heap) (e:Addr) (C a0:Value) (s':Shared):Prop where
 os:s'.os=s.os
 bare:AllBare s'.gens
 fly:Heap.FlyingW B outer e C a0 s'.heap
 hok:HOk P w H' B
 keep:∀b o,s.heap.get? b=some o->H b=none->b∉frs outer->B.get? b=some o
 slot:∀b o,s.heap.get? b=some o->b∈frs outer->(∀vs,o.data≠.fields vs)->∃sl,s'.heap.get? b=some {o with slots:=sl}
 free:∀b o,s.heap.get? b=some o->H b=none->H' b=none
 there:∀b o,s.heap.get? b=some o->b∉frs outer->∃o',B.get? b=some o'
 tups:∀b xs,H b=some (.tup xs)->H' b=some (.tup xs)
 frzs:∀b o u,H b=some (.frz o u)->H' b=some (.frz o u)
 tbls:∀b ps,H b=some (.tbl ps)->∃more,H' b=some (.tbl (ps++more))
noncomputable def CXE (P:Program) (w:World):CXT:=λouter H s E ev s'=>∃e C a0 H' B,ev=.ref e/\Fly P w outer H s H' B e C a0 s'/\E C none H'
theorem ZD {P:Program}{w:World}{X:Cx}:Passes (CXE P w) X E0:=λ_ _ _ _ _ _ _ ⟨_,_,_,_,_,_,_,z⟩=>z.elim
section
variable {P:Program}{w:World}{K:PySem.W.Frag}{mg:Str->Option Value}{base:Heap}{N:List Str}{qual:Str}{scope:Scope}{f:Addr}{cd:Value}{A:Around}{outer:List Env}{s:Shared}{H:Hp}{E:XK}
theorem ZlY {pins:List (Addr×Obj)}{σ:St}{H1:Hp}{s1:Shared}{h':Heap}{e:Addr}{C:Value}{vs:List Value} (I:Inv (Zhf (CXE P w) P w K mg base N qual scope f cd A outer s H E) pins σ H1 s1)
  (hx:Heap.MadeExcOf s1.heap h' e C vs) (hE:E C none H1):(Zhf (CXE P w) P w K mg base N qual scope f cd A outer s H E).xe (.ref e) {s1 with heap:=h'}:=by
 let env:=envOfC qual scope s.heap.objs.size f cd
 let B:=PySem.W.hideAll s1.heap (frs (env::outer))
 have hin:∀en∈(env::outer),∀b,en.frame=some b->b∈frs (env::outer):=λen he b hb=>List.mem_filterMap.mpr ⟨en,he,hb⟩
 have st:s1.heap.FunFrames base (env::outer):=I.stack
 have loc:∀b,b∈frs (env::outer)->b=s.heap.objs.size\/b∈frs outer:=λb hb=>Yl.mp (I.ZhS b hb)
 have old:∀b o,s.heap.get? b=some o->b∉frs outer->b∉frs (env::outer):=λb o q nb hb=>by
  rcases loc b hb with z|z
  ·exact absurd (Yj q) (by rw[z];exact YA _)
  ·exact nb z
 have un:Un (frs outer) [] H H1 s.heap s1.heap:=I.base
 have hokB:HOk P w H1 B:=λa o q=>by
  have nf:∀b o,H1 b=some o->b∉frs (env::outer):=λb o z hb=>by
   have:=I.Zja b hb
   rw[this]at z;cases z
  refine(I.hok a o q).Zjs (λb u hb z=>?_) (λ_ z=>z) (λ_ _ z=>z) λ_ _ _ z=>z
  rcases hb with hb|hb
  ·rw[hb]at z⊢;exact PySem.W.hideAll_get _ z (nf a o q)
  ·exact PySem.W.hideAll_get _ z (nf b _ hb)
 refine wpAny_leaves_madeW (base:=B) (h:=s1.heap) (env:=env) (outer:=outer) (L:=s.heap.objs.size) I.ok.frames rfl (λb o q=>PySem.W.of_hideAll _ q) (PySem.W.funFrames_hide st hin) hx λh2 t x1 x2 x3 x4=>?_
 refine⟨e,C,.ref t,H1,B,rfl,⟨I.os,I.bare,x1,hokB,λb o q n nb=>?_,λb o q hb hd=>?_,λb o q n=>un.free b o q n (by simp),λb o q nb=>?_,un.tups,un.frzs,un.tbls⟩,hE⟩
 ·exact PySem.W.hideAll_get _ (un.keep b o q n nb (by simp)) (old b o q nb)
 ·obtain⟨sl,z⟩:=un.slot b o q (I.ok.frf b hb) hb (by simp)
  obtain⟨sl2,z2⟩:=x4 b _ (hx.keeps _ _ z) hd
  exact⟨sl2,z2⟩
 ·obtain⟨o',z⟩:=un.there b o q (by simp)
  exact⟨o',PySem.W.hideAll_get _ z (old b o q nb)⟩
theorem Zas:Passes (CXE P w) (Zhf (CXE P w) P w K mg base N qual scope f cd A outer s H E) E:=by
 intro pins σ H1 s1 ev s2 I h
 obtain⟨e,C,a0,H',B,rfl,F,hE⟩:=h
 let env:=envOfC qual scope s.heap.objs.size f cd
 have un:Un (frs outer) [] H H1 s.heap s1.heap:=I.base
 have loc:∀b,b∈frs (env::outer)->b=s.heap.objs.size\/b∈frs outer:=λb hb=>Yl.mp (I.ZhS b hb)
 have old:∀b o,s.heap.get? b=some o->b∉frs outer->b∉frs (env::outer):=λb o q nb hb=>by
  rcases loc b hb with z|z
  ·exact absurd (Yj q) (by rw[z];exact YA _)
  ·exact nb z
 refine wpAny_leaves_onW (env:=env) (outer:=outer) (L:=s.heap.objs.size) I.ok.frames rfl F.fly λh2 x1 x2=>?_
 refine⟨e,C,a0,H',B,rfl,⟨F.os.trans I.os,F.bare,x1,F.hok,λb o q n nb=>F.keep b o (un.keep b o q n nb (by simp)) (un.free b o q n (by simp)) (old b o q nb),λb o q hb hd=>?_,λb o q n=>?_,λb o q nb=>?_,λb xs z=>F.tups b xs (un.tups b xs z),λb o u z=>F.frzs b o u (un.frzs b o u z),λb ps z=>?_⟩,hE⟩
 ·obtain⟨sl,z⟩:=un.slot b o q (I.ok.frf b hb) hb (by simp)
  obtain⟨en,he,hf⟩:=List.mem_filterMap.mp hb
  obtain⟨sl2,z2⟩:=F.slot b _ z (List.mem_filterMap.mpr ⟨en,.tail _ he,hf⟩) hd
  obtain⟨sl3,z3⟩:=x2 b _ z2 hd
  exact⟨sl3,z3⟩
 ·by_cases hb:b∈frs outer
  ·have h1:H1 b=none:=un.free b o q n (by simp)
   obtain⟨sl,z⟩:=un.slot b o q n hb (by simp)
   exact F.free b _ z h1
  ·exact F.free b o (un.keep b o q n hb (by simp)) (un.free b o q n (by simp))
 ·obtain⟨o',z⟩:=un.there b o q (by simp)
  exact F.there b o' z (old b o q nb)
 ·obtain⟨m1,z1⟩:=un.tbls b ps z
  obtain⟨m2,z2⟩:=F.tbls b _ z1
  exact⟨m1++m2,by rw[<-Array.append_assoc];exact z2⟩
end
abbrev bmV:List Value:=[.type "ValueError",.type "Exception",.type "BaseException",.type "object"]
abbrev newV:String:="ValueError.__new__"
theorem own_mk {K:PySem.W.Frag}{h:Heap}{mg:Str->Option Value}{x:Str}{C:Addr} (X:K.In h) (hm:mg x=some (.ref C)) (q:PySem.W.excIn K C bmV newV=true):OwnCls x C bmV newV mg h:=by
 refine⟨hm,?_⟩
 unfold PySem.W.excIn at q;split at q
 ·rename_i dd cd sl ho
  split at q
  ·rename_i C' bm k0 k1 k2 k3 n k5 hmm hs
   simp only[Bool.and_eq_true,beq_iff_eq,Bool.not_eq_true']at q;obtain⟨⟨⟨⟨⟨rfl,rfl⟩,hdel⟩,ht⟩,hok⟩,hni⟩:=q
   obtain⟨nm,bs,mro,ns,qn,hd,sn,sub,ab,col,del⟩:=cd;dsimp only at hmm hdel hok hni;subst hmm hdel
   have hsl:sl=#[k0,k1,k2,k3,some (.builtin newV),k5]:=by obtain⟨l⟩:=sl;simp only at hs;rw[hs]
   subst hsl;exact⟨bm,ns,nm,qn,bs,hd,sn,sub,ab,col,dd,k0,k1,k2,k3,k5,_,X _ _ ho,.of_isNs (PySem.W.isNs_of_in X hok),PySem.W.nsMap_none_of_in X hok hni,PySem.W.tail_of_in X ht⟩
  ·cases q
 ·cases q
section
variable {X:Cx}
noncomputable def Zr4 (C:Addr) (E:XK) (t:TA):TS:=λ_ σ H=>t σ H λvs H1=>vs.length<=sizeLine/\E (.ref C) none H1
theorem Zhj {x:Str}{C:Addr}{np cpos pos:Pos}{e0:Expr}{es:List Expr}{t:TA}{E:XK} (hc:X.calm=true) (hg:Gl X x) (hm:X.mg x=some (.ref C)) (q:PySem.W.excIn X.K C bmV newV=true) (ha:PA X (e0::es) t)
  (hx:∀pins σ H s h' e vs,Inv X pins σ H s->Heap.MadeExcOf s.heap h' e (.ref C) vs->E (.ref C) none H->X.xe (.ref e) {s with heap:=h'})
  (he:starEach (e0::es) X.env=(false,eval e0 X.env)::starEach es X.env:=by rfl) (hpl:(backTo cpos (starEach es X.env)).any (·.1)=false:=by rfl) (hd:(x==("__debug__":Str))=false:=by decide) :
  PS X (.Raise (some (.Call (.Name x np) (e0::es) [] cpos)) none pos) (Zr4 C E t):=by
 intro pins s σ H D I h
 obtain⟨tl,Nn,nm,qn,bs,hdct,sn,sub,ab,col,dd,k0,k1,k2,k3,k5,mN,hC,hN,hni,T⟩:=(own_mk (x:=x) I.mod.kin hm q).obj
 refine wpAny_Raise_call_subT (C:=C) (nm:=nm) (q:=qn) (N:=Nn) (bs:=bs) (bm:=tl) (hdct:=hdct) (sn:=sn) (sub:=sub) (ab:=ab) (col:=col) (dd:=dd) (k0:=k0) (k1:=k1) (k2:=k2) (k3:=k3) (k5:=k5)
  PySem.F.excBase_ValueError (mN:=mN) (T.hasType PySem.F.excBase_ValueError.hasBase) (I.ok.hd hc) (by rw[he];show(false||(backTo cpos (starEach es X.env)).any (·.1))=false;rw[hpl];rfl) hni (Zjb I hg hm ⟨rfl,?_⟩ hd)
 have h2:=ha cpos pins s σ H _ I h
 rw[he]at h2⊢
 exact Calls.evalArgs_plain (thn h2 λus s2 ⟨vs,H2,I2,r,z,q2⟩=>⟨rfl,by rw[<-r.length];exact z,I2.bk _ _ hC,hN.keeps I2.bk,T.keeps I2.bk,λh' e hm'=>hx pins σ H2 s2 h' e us I2 hm' q2⟩)
end
section
variable {P:Program}{w:World}{K:PySem.W.Frag}{mg:Str->Option Value}{base:Heap}
theorem Fun.okX {x qual:Str}{st:Stmt}{f:Addr}{fd:FuncData}{N ps:List Str}{k:Nat}{sp:Sp} (F:Fun K x qual st f fd) (S:FnScope N ps (defScope st)) (len:∀vs H Q E,sp vs H Q E->vs.length=ps.length)
  (hbody:∀(cdv:Value) (A:Around) (outer:List Env) (s:Shared) (H:Hp) (vs:List V) (Q:VK) (E:XK),Room k (A.deeper (envOfC qual (defScope st) s.heap.objs.size f cdv))->sp vs H Q E ->
   ∃t,PSs (Zhf (CXE P w) P w K mg base N qual (defScope st) f cdv A outer s H E) (defBody st) t/\t {nx:=λ_ H'=>Q .non H',rt:=Q} (start N vs) H):FnOk P w K mg base (CXE P w) (k+1) f fd ps sp:=by
 obtain⟨oc,od,kV,doc,pm,an,cdv,ct,osl,rfl,lk,hcd⟩:=F.ex
 exact fn_of lk hcd S len λA outer s H vs Q E hr hsp=>hbody cdv A outer s H vs Q E hr hsp
end
end L2
namespace L2
open PySem PySem.Spec PyProof.Rows PySem.W
theorem Zpn:∀{ns:List Int}{us:List Value},Vals (ns.map V.int) us->∃xs:Array (Int×Tok),us.toArray=intItems xs/\xs.toList.map (·.1)=ns
 |[],_,.nil=>⟨#[],by simp[intItems],rfl⟩
 |n::ns,_,.cons (b:=u) r t=>by
  obtain⟨tk,rfl⟩:=(show ∃t,u=Value.int n t from r)
  obtain⟨xs,e1,e2⟩:=Zpn t
  refine⟨#[(n,tk)]++xs,?_,by simp[e2]⟩
  have:∀(l:List Value),(Value.int n tk::l).toArray=#[Value.int n tk]++l.toArray:=λl=>by simp
  rw[this,e1]
  simp[intItems]
section
variable {X:Cx}
theorem Zbl:OpR X (binaryOp .Mult) (rI IntMulOk λi j=>.int (i*j)):=opI λ_ _ _ _ _ _ _ hc q=>mul_int q hc
noncomputable def PJ (X:Cx) (es:List (Sem Value)) (t:St->Hp->(Hp->Prop)->Prop):Prop :=
 ∀(out:Str) (pins:List (Addr×Obj)) (s:Shared) (σ:St) (H:Hp) (Q:Hp->Prop),out.length+2000*es.length<=100000->Inv X pins σ H s->t σ H Q ->
  wpAny (model X.prog X.w) X.A (joinParts out es) (λu s'=>∃y tk H',u=.str y tk/\Inv X pins σ H' s'/\Q H') X.xe s
theorem ZlZ:PJ X [] (λ_ H Q=>Q H):=λout pins s σ H Q hl I h =>
 joinParts_nil ⟨out,_,H,rfl,I.tok _,h⟩ (by simp at hl;exact Yh hl (by decide))
theorem Zck {x:Str}{j:Nat}{pos:Pos}{es:List (Sem Value)}{t:St->Hp->(Hp->Prop)->Prop} (hx:x.length<=2000) (h:PJ X es t):PJ X (eval (.Constant (.str x) j pos) X.env::es) t:=by
 intro out pins s σ H Q hl I hq
 have hl':(out++x).length+2000*es.length<=100000:=by rw[PySem.strLen_append];simp at hl;omega
 refine joinParts_cons (Calls.Constant_str ⟨Yh (Yh (Nat.le_add_right _ _) hl') (by decide),?_⟩)
 exact h _ pins _ σ H Q hl' (I.tok _) hq
theorem Zp5 {i:Int} (h0:0<=i) (h1:i<10 ^ 18):i.natAbs.log2<1920:=by
 by_cases hz:i.natAbs=0
 ·rw[hz];decide
 ·have h3:i.natAbs<2 ^ 60:=by
   have:(2:Nat) ^ 60=1152921504606846976:=by decide
   have h2:(10:Int) ^ 18=1000000000000000000:=by decide
   omega
  exact Yt ((Nat.log2_lt hz).mpr h3) (by decide)
theorem ZgH {e:Expr}{pos:Pos}{es:List (Sem Value)}{te:TE}{t:St->Hp->(Hp->Prop)->Prop} (he:PE X e te) (h:PJ X es t):PJ X (eval (.FormattedValue e (-1) none pos) X.env::es) (fun σ H Q=>te σ H λx H1=>∃i:Int,x=.int i/\(0<=i/\i<10 ^ 18)/\t σ H1 Q):=by
 intro out pins s σ H Q hl I hq
 refine joinParts_cons (FormattedValue_plain (thn (he pins s σ H _ I hq) λu s1 ⟨x,H1,I1,r1,i,ex,⟨h0,h1⟩,q⟩=>?_))
 subst ex
 obtain⟨tk,rfl⟩:=(show ∃t,u=Value.int i t from r1)
 refine wpAny_formatField_int (Zp5 h0 h1) ?_
 have hx:(Str.ofString (toString i)).length<=18:=toString_length_le h0 (by decide) h1
 have hl':(out++Str.ofString (toString i)).length+2000*es.length<=100000:=by rw[PySem.strLen_append];simp at hl;omega
 refine⟨Yh (Yh (Nat.le_add_right _ _) hl') (by decide),?_⟩
 exact h _ pins _ σ H1 Q hl' (I1.tok _) q
theorem ZmR (env:Env):∀l:List Expr,(evalEach l env).length=l.length
 |[]=>rfl
 |e::r=>by
  have:evalEach (e::r) env=eval e env::evalEach r env:=rfl
  rw[this,Yo,Yo,ZmR env r]
theorem Zgc {e1 e2:Expr}{rest:List Expr}{pos:Pos}{t:St->Hp->(Hp->Prop)->Prop} (h:PJ X (eval e1 X.env::eval e2 X.env::evalEach rest X.env) t) (hn:rest.length<=20:=by decide) :
  PE X (.JoinedStr (e1::e2::rest) pos) (fun σ H Q=>t σ H λH1=>∀y,Q (.str y) H1):=by
 intro pins s σ H Q I hq
 have hle:=ZmR X.env rest
 refine JoinedStr_many (thn (h Str.empty pins s σ H _ (by simp only[Yo,hle];show 0+_<=_;omega) I hq) λu s' ⟨y,tk,H',e,I',q⟩=>?_)
 subst e
 exact⟨.str y,H',I',⟨tk,rfl⟩,q y⟩
end
noncomputable def clsAt (mg:Str->Option Value) (x:Str):Addr:=match mg x with
 |some (.ref C)=>C
 |_=>0
noncomputable def tokAt (mg:Str->Option Value) (x:Str):Tok:=match mg x with
 |some (.int _ t)=>t
 |_=>default
noncomputable def Callee (P:Program) (w:World) (K:Frag) (mg:Str->Option Value) (base:Heap) (x:Str) (k:Nat) (ps:List Str) (sp:Sp):Prop :=
 ∃f fd,mg x=some (.ref f)/\keepIn K (.ref f)=true/\Binds K fd ps []/\FnOk P w K mg base (CXE P w) k f fd ps sp
section
variable {X:Cx}
theorem Zar {st:Stmt}{t:TS} (h:PS X.nox st t):PS X st t:=λpins s σ H D I hw =>
 YK (h pins s σ H D (I.ZkP _) hw) (λ_ _ q=>q.Zfd) λ_ _ z=>False.elim z
theorem Zj {x:Str}{k:Nat}{ps:List Str}{sp:Sp}{E:XK}{e:Expr}{es:List Expr}{t:TA}{p pos:Pos} (C:Callee X.prog X.w X.K X.mg X.base x k ps sp) (hr:Room k X.A) (hg:Gl X x) (hx:Passes (CXE X.prog X.w) X E)
  (ha:PA X (e::es) t) (hdb:(x==("__debug__":Str))=false:=by decide) (he:starEach (e::es) X.env=(false,eval e X.env)::starEach es X.env:=by rfl) (hpl:(backTo pos (starEach es X.env)).any (·.1)=false:=by rfl) :
  PE X (.Call (.Name x p) (e::es) [] pos) (ZrS sp [] E t):=by
 obtain⟨f,fd,hm,hk,hb,F⟩:=C
 exact Zuv F hr hg hm hk hb .nil hx ha hdb he hpl
theorem Zjd {P:Program}{w:World}{K:Frag}{mg:Str->Option Value}{base:Heap}{N:List Str}{qual:Str}{scope:Scope}{f:Addr}{cd:Value}{A:Around}{outer:List Env}{s0:Shared}{H0:Hp}{E:XK}{C:Addr} :
  ∀pins σ H s h' e vs,Inv (Zhf (CXE P w) P w K mg base N qual scope f cd A outer s0 H0 E) pins σ H s->Heap.MadeExcOf s.heap h' e (.ref C) vs->E (.ref C) none H->(Zhf (CXE P w) P w K mg base N qual scope f cd A outer s0 H0 E).xe (.ref e) {s with heap:=h'} :=
 λ_ _ _ _ _ _ _ I hx hE=>ZlY I hx hE
end
theorem ZhZ:bootBuiltins "max"=some (.builtin "max"):=by decide +kernel
theorem Zgq:bootBuiltins "isinstance"=some (.builtin "isinstance"):=by decide +kernel
theorem Zpo:bootBuiltins "list"=some (.type "list"):=by decide +kernel
theorem Zcx:bootBuiltins "tuple"=some (.type "tuple"):=by decide +kernel
theorem Zr5:bootBuiltins "int"=some (.type "int"):=by decide +kernel
section
variable {X:Cx}{pins:List (Addr×Obj)}{σ:St}{H:Hp}{s:Shared}{h':Heap}
theorem Inv.Zds {t':Nat}{fp:List Addr} (I:Inv X pins σ H s) (k:∀b o,b∉fp->s.heap.get? b=some o->h'.get? b=some o) (hf:∀b∈fp,FpOk X pins H b):Inv X pins σ H {s with heap:=h',toks:=t'}:=by
 have nit:∀b u,H b=some u->b∉fp:=λb u e z=>by rw[(hf b z).1]at e;cases e
 refine I.step (g':=s.gens) (d':=s.drawn) (ch:=fp) (λb hb=>?_) (λb o _ _ hc e _=>k b o hc e) (λb o _ _ hc e _=>⟨o.slots,k b o hc e⟩) (λ_ _ _ _ n=>n)
  (λb o hc e=>⟨o,k b o hc e⟩) (λ_ _ e=>e) (λ_ _ _ e=>e) (λb ps e=>⟨#[],by rw[e];simp⟩) (λm hm=>?_) (λb u e=>?_) I.bare
 ·obtain⟨_,f1,_,f3,f4,f5⟩:=hf b hb
  exact⟨f3,f1,f4,f5⟩
 ·obtain⟨o,es,ep,ho,r⟩:=hm
  exact⟨o,es,ep,k _ o (λz=>(hf _ z).2.1 rfl) ho,r⟩
 ·refine(I.hok b u e).Zjs (λc v hc q=>k c v ?_ q) (λ_ q=>q) (λ_ _ q=>q) λ_ _ _ q=>q
  rcases hc with z|z
  ·rw[z];exact nit b u e
  ·exact nit c _ z
theorem Zr6 (n a b:Nat) (h1:a<n) (h2:b<n):ZipApart (n+4) (n+2) (n+3) n (n+1) a b:=by
 constructor<;>(show ¬ ((_:Nat)=_);omega)
theorem Zh0:bootBuiltins "zip"=some (.type "zip"):=by decide +kernel
end
theorem cxK {CX:CXT}{P:Program}{w:World}{K:Frag}{mg:Str->Option Value}{base:Heap}{N:List Str}{qual:Str}{scope:Scope}{f:Addr}{cd:Value}{A:Around}{outer:List Env}{s:Shared}{H:Hp}{E:XK} :
  (Zhf CX P w K mg base N qual scope f cd A outer s H E).K=K:=rfl
theorem Zf.upd {H H1:Hp}{p:Addr}{o:HO} (h:H p=none) (e:Zf H H1):Zf H (upd H1 p o):=λb u z=>by
 rw[Zh (Zu z h)];exact e b u z
theorem Zf.ZG {H H1:Hp}{p:Addr}{o:HO} (e:Zf H H1) (h:H1 p=none):Zf H (L2.upd H1 p o):=e.upd (e.free h)
theorem Zje {X:Cx}{K:Frag}{es:List Expr}{pos:Pos}{k:Nat}{t:TGs}{n:Nat} (hK:X.K=K) (hc:X.calm=true) (h:PGs X es t)
  (hn:(assignEach es X.env).length=n:=by rfl) (hst:(assignEach es X.env).findIdx? (·.1)=none:=by rfl):PG X (.Tuple es k pos) (gTup K n t):=hK▸ZgE hc h hn hst
noncomputable def ZmS (J:It) (g:TG) (tb:TS) (D:Ends) (σ:St) (H1:Hp):Prop:=∃W:Nat->Nat->St->Hp->Prop,(∃m,W 0 m σ H1)/\∀i m σ H,W i m σ H ->
 (J.stop i H/\D.nx σ H)\/(J.go i H/\∃N:St->Hp->Prop,(∀σ' H',N σ' H'->∃m',m'<m/\W (i+1) m' σ' H')/\∀x H',J.yld i H x H'->g x σ H' fun σ2 H2=>tb {D with nx:=N,ct:=N,bk:=D.nx} σ2 H2)
theorem ZuB {wi:TI}{g:TG}{tb:TS}{D:Ends}{σ:St}{H:Hp}:tFor wi g tb D σ H=wi σ H λJ H1=>ZmS J g tb D σ H1:=rfl
noncomputable def Zr7 (c:TT) (tb:TS) (D:Ends) (σ:St) (H:Hp):Prop:=Zn9 c tb D σ H
theorem Zp6 {c:TT}{tb:TS}{D:Ends}{σ:St}{H:Hp}:Zn9 c tb D σ H=Zr7 c tb D σ H:=rfl
noncomputable def ZmT (J:It) (g:TG) (tt:TT) (te:TE) (σ0:St) (Q:VK) (H1:Hp):Prop:=∃W:Nat->Nat->List V->Hp->Prop,(∃m,W 0 m [] H1)/\∀i m acc H,W i m acc H ->
 (J.stop i H/\acc.length<=sizeLine/\∀p,H p=none->Q (.ref p) (upd H p (.lst acc))) \/
 (J.go i H/\acc.length<sizeLine/\∀x H',J.yld i H x H'->g x σ0 H' fun σ2 H2=>tt σ2 H2 λb H3=>if b=true then te σ2 H3 λv H4=>∃m',m'<m/\W (i+1) m' (acc++[v]) H4 else ∃m',m'<m/\W (i+1) m' acc H3)
theorem Zr8 {wi:TI}{g:TG}{tt:TT}{te:TE}{js:List (Option Nat)}{σ:St}{H:Hp}{Q:VK}:Zpm wi g tt te js σ H Q=wi σ H λJ H1=>ZmT J g tt te (ZbM js σ) Q H1:=rfl
noncomputable def CW (n:Nat) (vals:Nat->V) (H1:Hp) (i m:Nat) (acc:List V) (H:Hp):Prop:=m=n-i/\i<=n/\acc=(List.range i).map vals/\Zf H1 H
theorem CW.next {n:Nat}{vals:Nat->V}{H1 H:Hp}{i:Nat}{v:V} (hi:i<n) (hv:v=vals i) (s:Zf H1 H):∃m',m'<n-i/\CW n vals H1 (i+1) m' ((List.range i).map vals++[v]) H :=
 ⟨n-(i+1),by omega,rfl,hi,by rw[YQ,YU,hv];rfl,s⟩
theorem comp_map {J:It}{n:Nat}{H1:Hp}{g:TG}{tt:TT}{te:TE}{σ0:St}{Q:VK} (vals:Nat->V) (hn:n<sizeLine) (hgo:∀i H,Zf H1 H->i<n->J.go i H) (hstop:∀H,Zf H1 H->J.stop n H)
  (hb:∀i x H H',i<n->Zf H1 H->J.yld i H x H'->g x σ0 H' fun σ2 H2=>tt σ2 H2 λb H3=>if b=true then te σ2 H3 λv H4=>∃m',m'<n-i/\CW n vals H1 (i+1) m' ((List.range i).map vals++[v]) H4 else ∃m',m'<n-i/\CW n vals H1 (i+1) m' ((List.range i).map vals) H3)
  (hk:∀l H',Zf H1 H'->H' l=none->Q (.ref l) (upd H' l (.lst ((List.range n).map vals)))) :
  ZmT J g tt te σ0 Q H1:=by
 refine⟨CW n vals H1,⟨n,rfl,Ys _,rfl,Zf.refl _⟩,?_⟩
 rintro i m acc H ⟨rfl,hi,rfl,s⟩
 by_cases h:i<n
 ·refine .inr ⟨hgo i H s h,by simpa using Nat.lt_trans h hn,λx H' y=>hb i x H H' h s y⟩
 ·have e:i=n:=by omega
  subst e
  exact .inl ⟨hstop H s,by simpa using YM hn,λp hp=>hk p H s hp⟩
theorem Zl0 {α:Type}{xs:List α}{i:Int}{j:Nat} (h:i=(j:Int)) (hj:j<xs.length):atI xs i=some xs[j]:=by
 subst h
 unfold atI ixN
 rw[Yc (by omega),Yc (by omega)]
 simp
theorem Zpp {α:Type}{xs:List α}{i:Int} (C:α->Prop) (h0:0<=i) (h1:i<xs.length) (h:∀x∈xs,C x):∃v,atI xs i=some v/\C v:=by
 obtain⟨j,rfl⟩:=Jc h0
 have hj:j<xs.length:=by omega
 exact⟨xs[j],Zl0 rfl hj,h _ (YH hj)⟩
theorem mul_r {a b:Int} (h1:-(2 ^ 64)<b) (h2:b<2 ^ 64):IntMulOk a b:=IntMulOk.of_right (intBits_le_64 h1 h2)
theorem Zpq {a b:Int} (h1:-(2 ^ 64)<a) (h2:a<2 ^ 64):IntMulOk a b:=IntMulOk.of_left (intBits_le_64 h1 h2)
theorem Zjf {a b:Int} (ha:Builtin.Int.intBits a<=2 ^ 20) (hb:Builtin.Int.intBits b<=2 ^ 20):IntMulOk a b:=IntMulOk.of_bits ha hb
theorem cp64:ZlR 10 64:=by unfold ZlR;decide
theorem cp18:ZlR 10 18:=by unfold ZlR;decide
theorem cp9:ZlR 10 9:=by unfold ZlR;decide
theorem pm1:IntMulOk (10 ^ Int.toNat 64) (10 ^ Int.toNat 64):=Zjf (by decide +kernel) (by decide +kernel)
theorem pm2:IntMulOk (10 ^ Int.toNat 64*10 ^ Int.toNat 64) (10 ^ Int.toNat 64):=Zjf (by decide +kernel) (by decide +kernel)
noncomputable def Exc (p:Addr) (H H':Hp):Prop:=∀b o,b≠p->H b=some o->H' b=some o
theorem Zf.exc {H H1 H2:Hp}{p:Addr} (s:Zf H H1) (h:H p=none) (e:Exc p H1 H2):Zf H H2:=λb o z=>e b o (Zu z h) (s b o z)
theorem Zf.Zfl {H H':Hp}{p:Addr} (s:Zf H H'):Exc p H H':=λb o _ z=>s b o z
theorem Exc.upd {H:Hp}{p:Addr}{o:HO}:Exc p H (L2.upd H p o):=λb u n z=>by rw[Zh n];exact z
theorem range_getD {α β:Type} (xs:List α) (d:α) (f:α->β) (n:Nat) (h:n=xs.length):(List.range n).map (λj=>f (xs.getD j d))=xs.map f:=by
 subst h
 refine List.ext_getElem (by simp) λj h1 h2=>?_
 have hj:j<xs.length:=by simpa using h1
 simp[Ym,hj]
theorem Zc0 {K:Frag}{H:Hp}{p:Addr}{xs:List V} (h:H p=some (.lst xs)):tyV K "list" (.ref p) H:=.inl ⟨rfl,_,SqL.of h⟩
theorem ZuC {i j:Int}:ZmL (.int i) (.int j)=true:=rfl
theorem ZuD {i j:Bool}:ZmL (.bl i) (.bl j)=true:=rfl
theorem ZuE {i j:Str}:ZmL (.str i) (.str j)=true:=rfl
theorem ZuF:ZmL .non .non=true:=rfl
theorem ZuG {i:Int}:ZmL .non (.int i)=true:=rfl
theorem ZuH {i:Int}:ZmL (.int i) .non=true:=rfl
section
variable {X:Cx}
noncomputable def rLen (K:Frag):List V->Hp->VK->Prop:=λxs H Q=>∃p ys,xs=[.ref p]/\(SqL K H p ys\/SqT K H p ys)/\Q (.int ys.length) H
theorem Zo {K:Frag} (hK:X.K=K):Zcv X (.builtin "len") (rLen K):=by subst hK;exact ZlU
noncomputable def rLof (K:Frag):List V->Hp->VK->Prop:=λxs H Q=>∃p ys,xs=[.ref p]/\(SqL K H p ys\/SqT K H p ys)/\∀l,H l=none->Q (.ref l) (upd H l (.lst ys))
theorem ZjH {K:Frag} (hK:X.K=K):Zcv X (.type "list") (rLof K):=by subst hK;exact ZlV
noncomputable def rTof (K:Frag):List V->Hp->VK->Prop:=λxs H Q=>∃p ys,xs=[.ref p]/\((SqL K H p ys/\∀l,H l=none->Q (.ref l) (upd H l (.tup ys)))\/(SqT K H p ys/\Q (.ref p) H))
theorem Zea {K:Frag} (hK:X.K=K):Zcv X (.type "tuple") (rTof K):=by subst hK;exact ZkR
theorem Zp7 {K:Frag} (hK:X.K=K):Zcv X (.builtin "isinstance") (rIsi K):=by subst hK;exact Zr3
end
theorem ZuI {a:Addr}{x:Value}:(cOf (.ref a)=some x)=(.ref a=x):=by simp[cOf]
theorem cOf_ty {n:String}{x:Value}:(cOf (.ty n)=some x)=(.type n=x):=by simp[cOf]
theorem Zr9 {α:Type}{f:Nat->Option α}{g:Nat->α}:∀{l:List Nat},(∀k∈l,f k=some (g k))->l.filterMap f=l.map g
 |[],_=>rfl
 |k::r,h=>by
  rw[List.filterMap_cons,h k (YI ..),YE,Zr9 λj hj=>h j (YJ _ hj)]
theorem Zsa (its:List Value):slicePick its.toArray none none (some (-1))=its.reverse.toArray:=by
 have e:=PyProof.Rows.picked_rev its.length
 unfold Builtin.Str.strSliceIndices at e
 have e2:sliceRange ((its.length:Int)-1) (-1) (-1)=(List.range its.length).map λk=>its.length-1-k:=by
  rw[<-e];rfl
 unfold slicePick
 congr 1
 show((sliceRange ((its.toArray.size:Int)-1) (-1) (-1)).filterMap (its.toArray[·]?))=_
 rw[Yp,e2,List.filterMap_map,Zr9 (g:=λk=>(its.reverse[k]?).getD .none)]
 ·refine List.ext_getElem (by simp) λj h1 h2=>?_
  have hj:j<its.length:=by simpa using h1
  simp[hj]
 ·intro k hk
  have hk':k<its.length:=Yu.mp hk
  have h3:its.length-1-k<its.length:=by omega
  simp[hk',h3]
section
variable {X:Cx}{e st:Expr}{te ts:TE}{pos p2:Pos}
noncomputable def tRev (K:Frag) (te ts:TE):TE:=fun σ H Q=>te σ H λx H1=>ts σ H1 λz H2=>∃a xs,x=.ref a/\z=.int (-1)/\SqL K H2 a xs/\∀p,H2 p=none->Q (.ref p) (upd H2 p (.lst xs.reverse))
theorem Vals.rev:∀{xs:List V}{us:List Value},Vals xs us->Vals xs.reverse us.reverse:=by
 intro xs us h
 induction h with
 |nil=>exact .nil
 |cons r _ ih=>rw[List.reverse_cons,List.reverse_cons];exact ih.append (.cons r .nil)
theorem Zlg {K:Frag} (hK:X.K=K) (he:PE X e te) (hs:PE X st ts):PE X (.Subscript e (.Slice none none (some st) p2) pos) (tRev K te ts):=by
 subst hK
 intro pins s σ H Q I h
 refine Subscript_ (thn (he pins s σ H _ I h) λv s1 ⟨x,H1,I1,r1,q1⟩=>?_)
 refine wpAny_Slice ?_
 rw[evalPart_none]
 refine Ye ?_
 refine Ye ?_
 rw[evalPart_some]
 refine thn (hs pins s1 σ H1 _ I1 q1) λvs s2 ⟨z,H2,I2,r2,a,xs,e1,e2,hx,q⟩=>?_
 subst e1 e2
 obtain⟨tk,rfl⟩:=r2
 cases r1
 have I4:Inv X pins σ H2 {s2 with heap:=s2.heap.push {cls:=.type "slice",data:=.fields #[.none,.none,.int (-1) tk]}}:=I2.kept (t':=s2.toks) λb ob q=>Yg _ q
 show wpAny (model X.prog X.w) X.A (subscriptTail e (.Slice none none (some st) p2) (.ref a) (.ref s2.heap.objs.size)) (EP X pins σ Q) X.xe {s2 with heap:=s2.heap.push {cls:=.type "slice",data:=.fields #[.none,.none,.int (-1) tk]}}
 obtain⟨its,r,ht,hz⟩:=I4.list hx
 have hlen:=r.length
 refine tail_any (ops:=[.ref a,.ref s2.heap.objs.size]) ht.isList.typeIs slot_list_getitem.lookup ?_ (by with_unfolding_all rfl)
 refine wpAny_getItem_list_slice (s:={s2 with heap:=s2.heap.push {cls:=.type "slice",data:=.fields #[.none,.none,.int (-1) tk]}}) ht.isList (Heap.IsSliceOf.new ..) .none .none (.int (-1) tk) (by simp) ?_ (by rw[Yp]<;>omega)
 rw[Zsa]
 refine⟨.ref _,_,I4.laid (t':=s2.toks) (o:=.lst xs.reverse) (λb ob q=>Yg _ q) (Yd _) ?_,rfl,q _ (I4.hok.fresh (Yd _))⟩
 exact⟨by rw[List.length_reverse];exact hz,_,0,r.rev,Yk _ rfl⟩
end
noncomputable def ZC (t:Int):List Int->List Int
 |[]=>[]
 |x::r=>(t+x)::ZC (t+x) r
theorem ZcC (t:Int) (l r:List Int):ZC t (l++r)=ZC t l++ZC (t+l.sum) r:=by
 induction l generalizing t with
 |nil=>simp[ZC]
 |cons x l ih=>simp only[List.cons_append,ZC,ih,List.sum_cons,Int.add_assoc]
theorem ZcD (t:Int) (l:List Int):(ZC t l).length=l.length:=by
 induction l generalizing t with
 |nil=>rfl
 |cons x l ih=>simp[ZC,ih]
noncomputable def suf:List Int->List Int
 |[]=>[]
 |x::r=>(x+r.sum)::suf r
noncomputable def grow (l:List Int):List Int:=l.sum::suf l
noncomputable def stepW (m:Nat) (l:List Int):List Int:=(grow l).take (min m l.length+1)
noncomputable def ways (m:Nat):Nat->List Int
 |0=>[1]
 |t+1=>stepW m (ways m t)
theorem Zsb (xs:List V):Zai xs none (some (-1))=xs.take (xs.length-1):=by
 unfold Zai HT.sIx
 cases xs<;>simp
 omega
theorem ZuJ {xs:List Int}{z:Int} (h:xs.getLast?=some z):atI (xs.map V.int) (-1)=some (V.int z):=by
 unfold atI ixN
 cases xs with
 |nil=>cases h
 |cons x r =>
  have hl:((x::r).map V.int).length=r.length+1:=by simp
  rw[hl,Yb (by omega),Yc (by omega)]
  have e:(-1+((r.length+1:Nat):Int)).toNat=r.length:=by omega
  rw[List.getLast?_eq_getElem?]at h
  show((x::r).map V.int)[(-1+((r.length+1:Nat):Int)).toNat]?=_
  rw[e,YF]
  have e2:(x::r).length-1=r.length:=by simp
  rw[e2]at h
  rw[h];rfl
noncomputable def Rows (H:Hp) (l:Addr) (rs:List (List Int)):Prop:=∃as:List Addr,H l=some (.lst (as.map V.ref))/\l∉as/\as.length=rs.length/\∀i (h1:i<as.length) (h2:i<rs.length),H as[i]=some (.lst (rs[i].map V.int))
inductive EqD (K:Frag) (H:Hp):Nat->V->V->Bool->Prop
 |flat {n:Nat}{x y:V} (fx:flatV x=true) (fy:flatV y=true):EqD K H n x y (eqV x y)
 |lst {n:Nat}{a b:Addr}{xs ys:List V} (e:Nat->Bool) (hx:SqL K H a xs) (hy:SqL K H b ys) (hl:xs.length=ys.length) (h:∀j x y,xs[j]?=some x->ys[j]?=some y->EqD K H n x y (e j)):EqD K H (n+1) (.ref a) (.ref b) ((List.range xs.length).all e)
 |len {n:Nat}{a b:Addr}{xs ys:List V} (hx:SqL K H a xs) (hy:SqL K H b ys) (hl:xs.length≠ys.length):EqD K H (n+1) (.ref a) (.ref b) false
 |tup {n:Nat}{a b:Addr}{xs ys:List V} (e:Nat->Bool) (hx:SqT K H a xs) (hy:SqT K H b ys) (h:∀j x y,xs[j]?=some x->ys[j]?=some y->EqD K H n x y (e j)):EqD K H (n+1) (.ref a) (.ref b) ((List.range (min xs.length ys.length)).all e&&xs.length==ys.length)
theorem Zsc {x:V} (h:flatV x=true):eqV x x=true:=by
 cases x<;>first
  |rfl
  |(simp[eqV];done)
  |cases h
section
variable {X:Cx}{pins:List (Addr×Obj)}{σ:St}{H:Hp}{s:Shared}
theorem ZmU (I:Inv X pins σ H s) {n:Nat}{x y:V}{b:Bool} (h:EqD X.K H n x y b):x=y->b=true:=by
 induction h with
 |flat fx fy=>rintro rfl;exact Zsc fx
 |lst e hx hy hl h ih =>
  intro z
  cases z
  have:=I.Zd7 hx hy
  subst this
  refine List.all_eq_true.mpr λj hj=>?_
  have hj':=Yu.mp hj
  exact ih j _ _ (Yi hj') (Yi hj') rfl
 |len hx hy hl =>
  intro z
  cases z
  have:=I.Zd7 hx hy
  subst this
  exact absurd rfl hl
 |tup e hx hy h ih =>
  intro z
  cases z
  have:=I.Zf9 hx hy
  subst this
  rw[Nat.min_self]
  have:(List.range _).all e=true:=List.all_eq_true.mpr λj hj=>by
   have hj':=Yu.mp hj
   exact ih j _ _ (Yi hj') (Yi hj') rfl
  rw[this];simp
theorem Zl1 (I:Inv X pins σ H s) {n:Nat}{x y:V}{b:Bool} (h:EqD X.K H n x y b):∀(A:Around) (u v:Value),A.units+n<cLine->RelV x u->RelV y v->SeqAt.EqAt A s u v b:=by
 induction h with
 |flat fx fy=>intro A u v _ ru rv;exact ZrX ru rv fx fy
 |@lst n a b xs ys e hx hy hl h ih =>
  intro A u v hu ru rv
  have hb:=ZmU I (.lst e hx hy hl h)
  cases ru
  cases rv
  by_cases hab:a=b
  ·subst hab
   rw[hb rfl];exact SeqAt.EqAt.same _
  ·obtain⟨is1,r1,p1,_⟩:=I.list hx
   obtain⟨is2,r2,p2,_⟩:=I.list hy
   have e1:=r1.length
   have e2:=r2.length
   have key:=SeqAt.RcAt.lists (A:=A) (s:=s) (e:=e) p1.isList p2.isList (by simp;omega) (by omega) λj h1 h2=>by
    have h1':j<xs.length:=by simpa[e1]using h1
    have h2':j<ys.length:=by simpa[e2]using h2
    obtain⟨u,hu1,ru⟩:=r1.get (Yi h1')
    obtain⟨v,hv1,rv⟩:=r2.get (Yi h2')
    have eu:is1.toArray[j]=u:=by simpa using(Yq.mp hu1).2
    have ev:is2.toArray[j]=v:=by simpa using(Yq.mp hv1).2
    rw[eu,ev]
    exact ih j _ _ (Yi h1') (Yi h2') A.in1 u v (by show A.units+1+n<cLine;omega) ru rv
   have e3:is1.toArray.size=xs.length:=by simp[e1]
   rw[e3]at key
   exact SeqAt.EqAt.of_refs hab key
 |@len n a b xs ys hx hy hl =>
  intro A u v hu ru rv
  cases ru
  cases rv
  have hab:a≠b:=λz=>by subst z;exact hl (congrArg List.length (I.Zd7 hx hy))
  obtain⟨is1,r1,p1,_⟩:=I.list hx
  obtain⟨is2,r2,p2,_⟩:=I.list hy
  have e1:=r1.length
  have e2:=r2.length
  exact SeqAt.EqAt.of_refs hab (SeqAt.RcAt.lists_lengths p1.isList p2.isList (by simp;omega) (by omega))
 |@tup n a b xs ys e hx hy h ih =>
  intro A u v hu ru rv
  have hb:=ZmU I (.tup e hx hy h)
  cases ru
  cases rv
  by_cases hab:a=b
  ·subst hab
   rw[hb rfl];exact SeqAt.EqAt.same _
  ·obtain⟨is1,r1,p1,_⟩:=I.tuple hx
   obtain⟨is2,r2,p2,_⟩:=I.tuple hy
   have e1:=r1.length
   have e2:=r2.length
   have key:=SeqAt.RcAt.tuples (A:=A) (s:=s) (e:=e) p1 p2 (by omega) λj h1 h2=>by
    have h1':j<xs.length:=by simpa[e1]using h1
    have h2':j<ys.length:=by simpa[e2]using h2
    obtain⟨u,hu1,ru⟩:=r1.get (Yi h1')
    obtain⟨v,hv1,rv⟩:=r2.get (Yi h2')
    have eu:is1.toArray[j]=u:=by simpa using(Yq.mp hu1).2
    have ev:is2.toArray[j]=v:=by simpa using(Yq.mp hv1).2
    rw[eu,ev]
    exact ih j _ _ (Yi h1') (Yi h2') A.in1 u v (by show A.units+1+n<cLine;omega) ru rv
   have e3:is1.toArray.size=xs.length:=by simp[e1]
   have e4:is2.toArray.size=ys.length:=by simp[e2]
   rw[e3,e4]at key
   exact SeqAt.EqAt.of_refs hab key
end
noncomputable def rEqD (K:Frag) (neg:Bool):R2:=λx y H Q=>∃a b k,x=.ref a/\y=.ref b/\EqD K H 3 x y k/\Q (.bl (if neg then !k else k)) H
section
variable {X:Cx}
theorem ZgI {K:Frag} (hK:X.K=K) {k:Nat} (hr:Room k X.A):OpR X (compareOp .Eq) (rEqD K false):=by
 subst hK
 have hu0:=hr.un
 intro pins s σ H x y v u Q I rx ry h
 obtain⟨a,b,k,rfl,rfl,h,q⟩:=h
 cases rx
 cases ry
 cases h with
 |flat fx fy=>cases fx
 |@lst n _ _ xs ys e hx hy hl h =>
  obtain⟨is1,r1,p1,_⟩:=I.list hx
  obtain⟨is2,r2,p2,_⟩:=I.list hy
  have e1:=r1.length
  have e2:=r2.length
  have e3:is1.toArray.size=xs.length:=by simp[e1]
  refine SeqAt.eq_listAt (e:=e) p1.isList p2.isList (by simp;omega) (by omega) (λj h1 h2=>?_) ⟨.bl _,H,I,rfl,by rw[e3];exact q⟩
  have h1':j<xs.length:=by simpa[e1]using h1
  have h2':j<ys.length:=by simpa[e2]using h2
  obtain⟨u,hu1,ru⟩:=r1.get (Yi h1')
  obtain⟨v,hv1,rv⟩:=r2.get (Yi h2')
  have eu:is1.toArray[j]=u:=by simpa using(Yq.mp hu1).2
  have ev:is2.toArray[j]=v:=by simpa using(Yq.mp hv1).2
  rw[eu,ev]
  exact Zl1 I (h j _ _ (Yi h1') (Yi h2')) X.A.in1 u v (by show X.A.units+1+2<cLine;omega) ru rv
 |@len n _ _ xs ys hx hy hl =>
  obtain⟨is1,r1,p1,_⟩:=I.list hx
  obtain⟨is2,r2,p2,_⟩:=I.list hy
  have e1:=r1.length
  have e2:=r2.length
  exact SeqAt.eq_list_lengthsAt p1.isList p2.isList (by simp;omega) (by omega) ⟨.bl _,H,I,rfl,q⟩
 |@tup n _ _ xs ys e hx hy h =>
  obtain⟨is1,r1,p1,_⟩:=I.tuple hx
  obtain⟨is2,r2,p2,_⟩:=I.tuple hy
  have e1:=r1.length
  have e2:=r2.length
  have e3:is1.toArray.size=xs.length:=by simp[e1]
  have e4:is2.toArray.size=ys.length:=by simp[e2]
  refine SeqAt.eq_tupleAt (e:=e) p1 p2 (by omega) (λj h1 h2=>?_) ⟨.bl _,H,I,rfl,by rw[e3,e4];exact q⟩
  have h1':j<xs.length:=by simpa[e1]using h1
  have h2':j<ys.length:=by simpa[e2]using h2
  obtain⟨u,hu1,ru⟩:=r1.get (Yi h1')
  obtain⟨v,hv1,rv⟩:=r2.get (Yi h2')
  have eu:is1.toArray[j]=u:=by simpa using(Yq.mp hu1).2
  have ev:is2.toArray[j]=v:=by simpa using(Yq.mp hv1).2
  rw[eu,ev]
  exact Zl1 I (h j _ _ (Yi h1') (Yi h2')) X.A.in1 u v (by show X.A.units+1+2<cLine;omega) ru rv
theorem op_neD {K:Frag} (hK:X.K=K) {k:Nat} (hr:Room k X.A):OpR X (compareOp .NotEq) (rEqD K true):=by
 subst hK
 have hu0:=hr.un
 intro pins s σ H x y v u Q I rx ry h
 obtain⟨a,b,k,rfl,rfl,h,q⟩:=h
 cases rx
 cases ry
 cases h with
 |flat fx fy=>cases fx
 |@lst n _ _ xs ys e hx hy hl h =>
  obtain⟨is1,r1,p1,_⟩:=I.list hx
  obtain⟨is2,r2,p2,_⟩:=I.list hy
  have e1:=r1.length
  have e2:=r2.length
  have e3:is1.toArray.size=xs.length:=by simp[e1]
  refine SeqAt.RcNeAt.lists (e:=e) p1.isList p2.isList (by simp;omega) (by omega) (λj h1 h2=>?_) _ _ _ _ ⟨.bl _,H,I,rfl,by rw[e3];exact q⟩
  have h1':j<xs.length:=by simpa[e1]using h1
  have h2':j<ys.length:=by simpa[e2]using h2
  obtain⟨u,hu1,ru⟩:=r1.get (Yi h1')
  obtain⟨v,hv1,rv⟩:=r2.get (Yi h2')
  have eu:is1.toArray[j]=u:=by simpa using(Yq.mp hu1).2
  have ev:is2.toArray[j]=v:=by simpa using(Yq.mp hv1).2
  rw[eu,ev]
  exact Zl1 I (h j _ _ (Yi h1') (Yi h2')) X.A.in1 u v (by show X.A.units+1+2<cLine;omega) ru rv
 |@len n _ _ xs ys hx hy hl =>
  obtain⟨is1,r1,p1,_⟩:=I.list hx
  obtain⟨is2,r2,p2,_⟩:=I.list hy
  have e1:=r1.length
  have e2:=r2.length
  exact SeqAt.RcNeAt.lists_lengths p1.isList p2.isList (by simp;omega) (by omega) _ _ _ _ ⟨.bl _,H,I,rfl,q⟩
 |@tup n _ _ xs ys e hx hy h =>
  obtain⟨is1,r1,p1,_⟩:=I.tuple hx
  obtain⟨is2,r2,p2,_⟩:=I.tuple hy
  have e1:=r1.length
  have e2:=r2.length
  have e3:is1.toArray.size=xs.length:=by simp[e1]
  have e4:is2.toArray.size=ys.length:=by simp[e2]
  refine SeqAt.RcNeAt.tuples (e:=e) p1 p2 (by omega) (λj h1 h2=>?_) _ _ _ _ ⟨.bl _,H,I,rfl,by rw[e3,e4];exact q⟩
  have h1':j<xs.length:=by simpa[e1]using h1
  have h2':j<ys.length:=by simpa[e2]using h2
  obtain⟨u,hu1,ru⟩:=r1.get (Yi h1')
  obtain⟨v,hv1,rv⟩:=r2.get (Yi h2')
  have eu:is1.toArray[j]=u:=by simpa using(Yq.mp hu1).2
  have ev:is2.toArray[j]=v:=by simpa using(Yq.mp hv1).2
  rw[eu,ev]
  exact Zl1 I (h j _ _ (Yi h1') (Yi h2')) X.A.in1 u v (by show X.A.units+1+2<cLine;omega) ru rv
end
noncomputable def IsI (v:V) (i:Int):Prop:=v=.int i
noncomputable def IsL (K:Frag) (H:Hp) {α:Type} (P:V->α->Prop) (v:V) (as:List α):Prop:=∃a xs,v=.ref a/\SqL K H a xs/\xs.length=as.length/\∀(j:Nat) (x:V) (y:α),xs[j]?=some x->as[j]?=some y->P x y
noncomputable def IsT (K:Frag) (H:Hp) {α:Type} (P:V->α->Prop) (v:V) (as:List α):Prop:=∃a xs,v=.ref a/\SqT K H a xs/\xs.length=as.length/\∀(j:Nat) (x:V) (y:α),xs[j]?=some x->as[j]?=some y->P x y
noncomputable def EqP (K:Frag) (H:Hp) (n:Nat) {α:Type} [DecidableEq α] (P:V->α->Prop):Prop:=∀x y a b,P x a->P y b->EqD K H n x y (decide (a=b))
theorem Zjg {K:Frag}{H:Hp}{n:Nat}:EqP K H n IsI:=by
 rintro x y a b rfl rfl
 have:=EqD.flat (K:=K) (H:=H) (n:=n) (x:=.int a) (y:=.int b) rfl rfl
 have e:eqV (.int a) (.int b)=decide (a=b):=by simp[eqV,Bool.beq_eq_decide_eq]
 rw[<-e];exact this
theorem all_eq {α:Type} [DecidableEq α] (as bs:List α) (h:as.length=bs.length):(List.range as.length).all (λj=>decide (as[j]?=bs[j]?))=decide (as=bs):=by
 rw[Bool.eq_iff_iff,List.all_eq_true,decide_eq_true_iff]
 constructor
 ·intro q
  refine List.ext_getElem? λj=>?_
  by_cases hj:j<as.length
  ·simpa using q j (Yu.mpr hj)
  ·rw[List.getElem?_eq_none (by omega),List.getElem?_eq_none (by omega)]
 ·rintro rfl j _;simp
theorem ZuK {K:Frag}{H:Hp}{n:Nat}{α:Type} [DecidableEq α] {P:V->α->Prop} (h:EqP K H n P):EqP K H (n+1) (IsL K H P):=by
 rintro x y as bs ⟨a,xs,rfl,hx,lx,px⟩ ⟨b,ys,rfl,hy,ly,py⟩
 by_cases hl:as.length=bs.length
 ·rw[<-all_eq as bs hl,<-lx]
  refine .lst _ hx hy (by omega) λj x y h1 h2=>?_
  have j1:=(Yq.mp h1).1
  have j2:=(Yq.mp h2).1
  have ha:as[j]?=some as[j]:=Yi (by omega)
  have hb:bs[j]?=some bs[j]:=Yi (by omega)
  have:=h x y _ _ (px j _ _ h1 ha) (py j _ _ h2 hb)
  rw[ha,hb]
  simpa using this
 ·have e:decide (as=bs)=false:=by simp;intro z;exact hl (congrArg List.length z)
  rw[e]
  exact .len hx hy (by omega)
theorem Zl2 {K:Frag}{H:Hp}{n:Nat}{α:Type} [DecidableEq α] {P:V->α->Prop} (h:EqP K H n P):EqP K H (n+1) (IsT K H P):=by
 rintro x y as bs ⟨a,xs,rfl,hx,lx,px⟩ ⟨b,ys,rfl,hy,ly,py⟩
 have key:=EqD.tup (K:=K) (H:=H) (n:=n) (λj=>decide (as[j]?=bs[j]?)) hx hy λj x y h1 h2=>by
  have j1:=(Yq.mp h1).1
  have j2:=(Yq.mp h2).1
  have ha:as[j]?=some as[j]:=Yi (by omega)
  have hb:bs[j]?=some bs[j]:=Yi (by omega)
  have:=h x y _ _ (px j _ _ h1 ha) (py j _ _ h2 hb)
  rw[ha,hb]
  simpa using this
 have e:((List.range (min xs.length ys.length)).all (λj=>decide (as[j]?=bs[j]?))&&xs.length==ys.length)=decide (as=bs):=by
  rw[lx,ly]
  by_cases hl:as.length=bs.length
  ·rw[<-hl,Nat.min_self,all_eq as bs hl];simp
  ·have e:decide (as=bs)=false:=by simp;intro z;exact hl (congrArg List.length z)
   rw[e]
   simp[hl]
 rw[e]at key
 exact key
theorem ZmV {K:Frag}{H:Hp}{a:Addr}{ns:List Int} (h:SqL K H a (ns.map V.int)):IsL K H IsI (.ref a) ns:=⟨a,_,rfl,h,by simp,λj x y h1 h2=>by
 rw[YF,h2]at h1
 exact(Yz h1).symm⟩
theorem Zeb {K:Frag}{H:Hp}{a:Addr}{ns:List Int} (h:SqT K H a (ns.map V.int)):IsT K H IsI (.ref a) ns:=⟨a,_,rfl,h,by simp,λj x y h1 h2=>by
 rw[YF,h2]at h1
 exact(Yz h1).symm⟩
section
variable {X:Cx}
noncomputable def tRngV (ta:TA):TE:=fun σ H Q=>ta σ H λvs H1=>∃j:Int,vs=[.int j]/\-(2 ^ 62)<=j/\j<2 ^ 62/\∀p,H1 p=none->Q (.ref p) (upd H1 p (.rng 0 j))
theorem Zlh {a:Expr}{ta:TA}{p pos:Pos} (hg:Gl X "range") (hm:X.mg "range"=none) (ha:PA X [a] ta) (hs:starEach [a] X.env=[(false,eval a X.env)]:=by rfl):PE X (.Call (.Name "range" p) [a] [] pos) (tRngV ta):=by
 intro pins s σ H Q I h
 refine wpAny_Call_Name_kw (Zbp I hg hm boot_range (PyProof.Rows.callWith_type1 (thn (ha pos pins s σ H _ I h) λus s1 ⟨vs,H1,I1,r1,q1⟩=>?_) hs rfl))
 obtain⟨j,e,q1,q2,q⟩:=q1
 subst e
 obtain⟨u,rfl,ru⟩:=r1.one
 obtain⟨t,rfl⟩:=ru
 refine call_range_1 ⟨.ref s1.heap.objs.size,_,I1.laid (λb o e=>Yg _ e) (Yd _) ?_,rfl,q _ (I1.hok.fresh (Yd _))⟩
 exact⟨_,_,_,Yk _ rfl⟩
theorem ZuL {g:Nat->V}{P:Nat->Value->Prop} (hP:∀i v,P i v->RelV (g i) v):∀(n:Nat) (us:List Value),us.length=n->(∀(j:Nat) (v:Value),us[j]?=some v->P j v)->Vals ((List.range n).map g) us:=by
 intro n
 induction n with
 |zero =>
  intro us hl _
  cases us with
  |nil=>exact .nil
  |cons _ _=>cases hl
 |succ n ih =>
  intro us hl h
  have hne:us≠[]:=λz=>by rw[z]at hl;cases hl
  rw[YQ,YU,<-List.dropLast_concat_getLast hne]
  have hl2:us.dropLast.length=n:=by rw[List.length_dropLast,hl];rfl
  refine(ih us.dropLast hl2 λj v hj=>?_).append (.cons ?_ .nil)
  ·have hj2:=(Yq.mp hj).1
   refine h j v ?_
   rw[List.getElem?_dropLast]at hj
   split at hj
   ·exact hj
   ·cases hj
  ·refine hP n _ (h n _ ?_)
   rw[List.getLast_eq_getElem]
   rw[Yq]
   refine⟨by omega,?_⟩
   congr 1
   omega
noncomputable def rAll (K:Frag):List V->Hp->VK->Prop:=λxs H Q=>∃(p:Addr) (bs:List Bool),xs=[.ref p]/\SqL K H p (bs.map V.bl)/\Q (.bl (bs.all id)) H
theorem all_ix (bs:List Bool):(List.range bs.length).all (λi=>bs.getD i false)=bs.all id:=by
 rw[Bool.eq_iff_iff,List.all_eq_true,List.all_eq_true]
 constructor
 ·intro h x hx
  obtain⟨j,hj,rfl⟩:=YR hx
  have:=h j (Yu.mpr hj)
  simpa[Ym,hj]using this
 ·intro h j hj
  have hj':=Yu.mp hj
  have:=h _ (YH hj')
  simpa[Ym,hj']using this
theorem ZmW {prog:Program}{w:World}{A:Around}{bs:List Bool}{its:List Value} (r:Vals (bs.map V.bl) its):TruthOf prog w A (λi v=>its.toArray[i]?=some v) (λi=>bs.getD i false):=by
 intro i v s Q E hv hq
 have hv':its[i]?=some v:=by simpa using hv
 have hl:=r.length
 have hi:i<bs.length:=by
  have:=(Yq.mp hv').1
  rw[Yf]at hl;omega
 obtain⟨u,hu,ru⟩:=r.get (i:=i) (x:=V.bl bs[i]) (by rw[YF,Yi hi];rfl)
 rw[hv']at hu
 cases hu
 cases ru
 refine wpAny_truthy_bool ?_
 simpa[Ym,hi]using hq
theorem Zsd {K:Frag} (hK:X.K=K) (hc:X.calm=true):Zcv X (.builtin "all") (rAll K):=by
 subst hK
 intro pins s σ H xs us Q I r h
 obtain⟨p,bs,rfl,hp,q⟩:=h
 obtain⟨u,rfl,ru⟩:=r.one
 cases(show u=Value.ref p from ru)
 obtain⟨its,r',pl,hz⟩:=I.list hp
 have hl:=r'.length
 refine call_all_walk (wpAny_pyIter_list pl.isList ?_)
 have hne:p≠s.heap.objs.size:=by obtain⟨o,e,_⟩:=pl.isList;exact Yn (Yj e)
 refine⟨s.heap.objs.size,_,_,_,_,_,λi=>bs.getD i false,rfl,Walks.list (A:=X.A.in1) (show X.A.in1.handled=none from I.ok.hd hc) _ p hne its.toArray,⟨⟨_,Yk _ rfl,rfl,rfl⟩,pl.isList.push _⟩,ZmW r',λh' tk kp=>?_⟩
 have e1:its.toArray.size=bs.length:=by rw[Yp];rw[Yf]at hl;omega
 rw[e1,all_ix]
 exact⟨.bl _,H,I.kept (t':=tk) λb o e=>kp b o (by simp;exact Yn (Yj e)) (Yg _ e),rfl,q⟩
noncomputable def rIxQ (K:Frag):R2:=λx y H Q=>∃p xs i v,x=.ref p/\y=.int i/\(SqL K H p xs\/SqT K H p xs)/\atI xs i=some v/\Q v H
theorem Zp8 {K:Frag} (hK:X.K=K):IxR X (rIxQ K):=by
 subst hK
 intro value slice pins s σ H x y v u Q I rx ry h hs
 refine(Zq.or Zbi) (value:=value) (slice:=slice) pins s σ H x y v u Q I rx ry ?_ hs
 obtain⟨p,xs,i,v,rfl,rfl,hq,ha,q⟩:=h
 rcases hq with hq|hq
 ·exact .inl ⟨p,xs,i,v,rfl,rfl,hq,ha,q⟩
 ·exact .inr ⟨p,xs,i,v,rfl,rfl,hq,ha,q⟩
theorem bt_all:bootBuiltins "all"=some (.builtin "all"):=by decide +kernel
end
noncomputable def Zli (f:Nat->Int) (a b p:Nat):Prop:=a<=p/\p<=b/\(∀q,a<=q->q<p->f p<f q)/\∀q,p<q->q<=b->f p<=f q
theorem Zli.join {f:Nat->Int}{a m a' b p q:Nat} (h:Zli f a m p) (k:Zli f a' b q) (h1:a<=a') (h2:a'<=m+1) (h3:m<=b):Zli f a b (if f q<f p then q else p):=by
 obtain⟨p1,p2,p3,p4⟩:=h
 obtain⟨q1,q2,q3,q4⟩:=k
 have pm:∀r,a<=r->r<=m->f p<=f r:=λr r1 r2=>by
  rcases Nat.lt_trichotomy r p with z|z|z
  ·exact Int.le_of_lt (p3 r r1 z)
  ·rw[z];exact Int.le_refl _
  ·exact p4 r z r2
 have qm:∀r,a'<=r->r<=b->f q<=f r:=λr r1 r2=>by
  rcases Nat.lt_trichotomy r q with z|z|z
  ·exact Int.le_of_lt (q3 r r1 z)
  ·rw[z];exact Int.le_refl _
  ·exact q4 r z r2
 split
 ·rename_i hlt
  refine⟨by omega,q2,λr r1 r2=>?_,λr r1 r2=>qm r (by omega) r2⟩
  by_cases z:a'<=r
  ·exact q3 r z r2
  ·have:=pm r r1 (by omega);omega
 ·rename_i hle
  refine⟨p1,by omega,p3,λr r1 r2=>?_⟩
  by_cases z:r<=m
  ·exact p4 r r1 z
  ·have:=qm r (by omega) r2;omega
noncomputable def Zp9 (f:Nat->Int) (a:Nat):Nat->Nat
 |0=>a
 |c+1=>if f (a+c+1)<f (Zp9 f a c)then a+c+1 else Zp9 f a c
theorem Zlj (f:Nat->Int) (a:Nat):Zli f a a a:=⟨Yd _,Yd _,λq h1 h2=>by omega,λq h1 h2=>by omega⟩
theorem Zpr (f:Nat->Int) (a c:Nat):Zli f a (a+c) (Zp9 f a c):=by
 induction c with
 |zero=>exact Zlj f a
 |succ c ih =>
  rw[Zp9]
  exact ih.join (Zlj f (a+c+1)) (by omega) (by omega) (by omega)
noncomputable def nth (ns:List Int) (i:Nat):Int:=ns.getD i 0
theorem Z4 {ns:List Int}{i:Nat} (h:i<ns.length):atI (ns.map V.int) (i:Int)=some (V.int (nth ns i)):=by
 rw[Zl0 rfl (by simpa using h)]
 simp[nth,Ym,h]
noncomputable def WI (N:Nat) (Pv:Nat->St->Hp->Prop) (m:Nat) (σ:St) (H:Hp):Prop:=∃i,m=N-i/\i<=N/\Pv i σ H
theorem WI.next {N:Nat}{Pv:Nat->St->Hp->Prop}{i:Nat}:∀σ' H',(i+1<=N/\Pv (i+1) σ' H')->∃m',m'<N-i/\WI N Pv m' σ' H':=fun σ' H' h=>⟨N-(i+1),by omega,i+1,rfl,h.1,h.2⟩
theorem Zl3 {c:TT}{tb:TS}{D:Ends}{σ:St}{H:Hp} (N:Nat) (Pv:Nat->St->Hp->Prop) (h0:Pv 0 σ H)
  (hs:∀i σ H,i<=N->Pv i σ H->c σ H λb H1=>if b=true then ∃Nx:St->Hp->Prop,(∀σ' H',Nx σ' H'->∃m',m'<N-i/\WI N Pv m' σ' H')/\tb {D with nx:=Nx,ct:=Nx,bk:=D.nx} σ H1 else D.nx σ H1):Zr7 c tb D σ H:=by
 refine⟨WI N Pv,⟨N,0,rfl,Ys _,h0⟩,?_⟩
 rintro m σ H ⟨i,rfl,hi,p⟩
 exact hs i σ H hi p
theorem Zf.Zaj {K:Frag}{H H':Hp}{a:Addr}{xs:List V} (e:Zf H H') (h:SqT K H a xs):SqT K H' a xs:=by
 rcases h with(h|⟨o,h⟩)|h
 ·exact .inl (.inl (e _ _ h))
 ·exact .inl (.inr ⟨o,e _ _ h⟩)
 ·exact .inr h
theorem Zf.q {K:Frag}{H H':Hp}{a:Addr}{xs:List V} (e:Zf H H') (h:SqL K H a xs\/SqT K H a xs):SqL K H' a xs\/SqT K H' a xs:=h.imp e.seq e.Zaj
theorem Exc.trans {p:Addr}{H H1 H2:Hp} (a:Exc p H H1) (b:Exc p H1 H2):Exc p H H2:=λc o n z=>b c o n (a c o n z)
theorem Exc.free {p q:Addr}{H H':Hp} (e:Exc p H H') (n:q≠p) (h:H' q=none):H q=none:=by
 cases z:H q with
 |none=>rfl
 |some o=>rw[e q o n z]at h;cases h
theorem Exc.Zqa {p q:Addr}{H H':Hp}{o:HO} (e:Exc p H H') (h:H q=none):Exc p H (L2.upd H' q o):=λb u n z=>by
 rw[Zh (Zu z h)];exact e b u n z
theorem Exc.same {p:Addr}{H H1 H2:Hp} (a:Exc p H H1) (s:Zf H1 H2):Exc p H H2:=a.trans s.Zfl
noncomputable def CA (n:Nat) (Pv:Nat->List V->Hp->Prop) (i m:Nat) (acc:List V) (H:Hp):Prop:=m=n-i/\i<=n/\acc.length<=i/\Pv i acc H
theorem CA.take {n:Nat}{Pv:Nat->List V->Hp->Prop}{i:Nat}{acc:List V}{v:V}{H:Hp} (hi:i<n) (hl:acc.length<=i) (h:Pv (i+1) (acc++[v]) H):∃m',m'<n-i/\CA n Pv (i+1) m' (acc++[v]) H:=⟨n-(i+1),by omega,rfl,hi,by simp;omega,h⟩
theorem Zhk {J:It}{n:Nat}{H1:Hp}{g:TG}{tt:TT}{te:TE}{σ0:St}{Q:VK} (Pv:Nat->List V->Hp->Prop) (hn:n<sizeLine) (h0:Pv 0 [] H1) (hgo:∀i acc H,Pv i acc H->i<n->J.go i H) (hstop:∀acc H,Pv n acc H->J.stop n H)
  (hb:∀i x acc H H',i<n->acc.length<=i->Pv i acc H->J.yld i H x H'->g x σ0 H' fun σ2 H2=>tt σ2 H2 λb H3=>if b=true then te σ2 H3 λv H4=>∃m',m'<n-i/\CA n Pv (i+1) m' (acc++[v]) H4 else ∃m',m'<n-i/\CA n Pv (i+1) m' acc H3)
  (hk:∀l acc H',Pv n acc H'->acc.length<=n->H' l=none->Q (.ref l) (upd H' l (.lst acc))):ZmT J g tt te σ0 Q H1:=by
 refine⟨CA n Pv,⟨n,rfl,Ys _,Yd _,h0⟩,?_⟩
 rintro i m acc H ⟨rfl,hi,hl,p⟩
 by_cases h:i<n
 ·exact .inr ⟨hgo i acc H p h,by omega,λx H' y=>hb i x acc H H' h hl p y⟩
 ·have e:i=n:=by omega
  subst e
  exact .inl ⟨hstop acc H p,by omega,λq hq=>hk q acc H p hl hq⟩
noncomputable def strip (p:Addr) (H:Hp):Hp:=λb=>if b=p then none else H b
theorem ZaK {p b:Addr}{H:Hp} (h:b≠p):strip p H b=H b:=by unfold strip;rw[Yb h]
theorem Zex {p:Addr}{H:Hp}:strip p H p=none:=by unfold strip;rw[Yc rfl]
section
variable {X:Cx}
noncomputable def Zps:V->List V->Hp->VK->Prop:=λx vs H Q=>∃l xs i y,x=.ref l/\vs=[.int i,y]/\H l=some (.lst xs)/\0<=i/\i<2 ^ 62/\xs.length<sizeLine/\Q .non (upd H l (.lst (xs.take i.toNat++y::xs.drop i.toNat)))
theorem Vals.Zse:∀{xs:List V}{us:List Value} (k:Nat),Vals xs us->Vals (xs.take k) (us.take k)
 |_,_,0,_=>by simp;exact .nil
 |_,_,_+1,.nil=>.nil
 |_,_,k+1,.cons r h=>.cons r (Vals.Zse k h)
theorem Vals.dropN:∀{xs:List V}{us:List Value} (k:Nat),Vals xs us->Vals (xs.drop k) (us.drop k)
 |_,_,0,h=>by simpa using h
 |_,_,_+1,.nil=>.nil
 |_,_,k+1,.cons _ h=>Vals.dropN k h
theorem Zqb:MtM X "list.insert" Zps:=by
 intro pins s σ H x vs v us Q I rx rv h
 obtain⟨l,xs,i,y,rfl,rfl,hH,h1,h2,hz,q⟩:=h
 cases rx
 obtain⟨u,u2,rfl,ru,ru2⟩:=rv.two
 obtain⟨t,rfl⟩:=ru
 obtain⟨z,its,n,r,hl,e⟩:=I.ZpY hH
 have hf:¬ (!Builtin.List.listFitsIndex i)=true:=by
  unfold Builtin.List.listFitsIndex
  have a1:decide (-(2 ^ 63:Int)<=i)=true:=YG (by omega)
  have a2:decide (i<(2 ^ 63:Int))=true:=YG (by omega)
  rw[a1,a2];decide
 refine call_meets F.slot_list_insert ⟨_,e,rfl⟩ F.entry_list_insert (F.args_list_insert_3 _ _ _) (AutoListH.list_insert_list_int_val_1 l its.toArray n i t u2 hf (by rw[Yp];omega)) ⟨e,?_⟩
 refine⟨.non,_,I.lset (its':=its.take i.toNat++u2::its.drop i.toNat) (ys:=xs.take i.toNat++y::xs.drop i.toNat) hH e ?_ ((r.Zse _).append (.cons ru2 (r.dropN _))) ?_,rfl,q⟩
 ·show((its.toArray.extract 0 (if i<0 then (i+((its.toArray.size:Nat):Int)).toNat else min i.toNat its.toArray.size)).push u2++its.toArray.extract (if i<0 then (i+((its.toArray.size:Nat):Int)).toNat else min i.toNat its.toArray.size))=_
  rw[Yb (by omega)]
  have e1:its.take (min i.toNat its.length)=its.take i.toNat:=by
   by_cases hh:i.toNat<=its.length
   ·rw[Nat.min_eq_left hh]
   ·rw[Nat.min_eq_right (by omega),List.take_of_length_le (by omega),List.take_of_length_le (by omega)]
  have e2:its.drop (min i.toNat its.length)=its.drop i.toNat:=by
   by_cases hh:i.toNat<=its.length
   ·rw[Nat.min_eq_left hh]
   ·rw[Nat.min_eq_right (by omega),List.drop_of_length_le (by omega),List.drop_of_length_le (by omega)]
  apply Array.ext'
  simp[e1,e2]
  exact List.take_of_length_le (by rw[Y7];omega)
 ·rw[YL,Yo,YY,Y7];omega
end
noncomputable def rIntB:List V->Hp->VK->Prop:=λxs H Q=>∃k,xs=[.bl k]/\Q (.int (if k=true then 1 else 0)) H
theorem Zlk {X:Cx}:Zcv X (.type "int") rIntB:=λpins s σ H xs us Q I r h=>ZpR pins s σ H xs us Q I r (.inr h)
noncomputable def ZQ (H:Hp) (p:Addr):Prop:=∃x:Int,H p=some (.lst [.int x])/\0<=x
theorem ZQ.ne {H:Hp}{p q:Addr} (P:ZQ H p) (h:H q=none):q≠p:=by
 obtain⟨x,e,_⟩:=P
 exact(Zu e h).symm
theorem ZQ.same {H H':Hp}{p:Addr} (P:ZQ H p) (s:Zf H H'):ZQ H' p:=by
 obtain⟨x,e,r⟩:=P
 exact⟨x,s _ _ e,r⟩
theorem ZQ.upd {H:Hp}{p q:Addr}{o:HO} (P:ZQ H p) (h:H q=none):ZQ (L2.upd H q o) p:=P.same ((Zf.refl H).upd h)
theorem ZQ.Zqa {H:Hp}{p q:Addr}{o:HO} (P:ZQ H p) (h:q≠p):ZQ (L2.upd H q o) p:=by
 obtain⟨x,e,r⟩:=P
 exact⟨x,by rw[Zh h.symm];exact e,r⟩
theorem cp50:ZlR 10 50:=by unfold ZlR;decide
end L2
namespace L2
noncomputable def Zaf (f:Nat->Int) (p q:Nat):Prop:=q<p/\f q<=f p/\∀r,q<r->r<p->f p<f r
noncomputable def Zac (f:Nat->Int) (n p r:Nat):Prop:=p<r/\r<n/\f r<f p/\∀s,p<s->s<r->f p<=f s
noncomputable def ZcE (f:Nat->Int) (p:Nat):Prop:=∀q,q<p->f p<f q
noncomputable def ZbN (f:Nat->Int) (n p:Nat):Prop:=∀r,p<r->r<n->f p<=f r
noncomputable def ZF (f:Nat->Int) (n p:Nat) (e:Int):Prop :=
 (ZcE f p/\ZbN f n p/\e=-1)\/(∃q,Zaf f p q/\ZbN f n p/\e=q)\/(∃r,ZcE f p/\Zac f n p r/\e=r) \/
 ∃q r,Zaf f p q/\Zac f n p r/\e=if f q<=f r then (r:Int)else q
theorem ZmX {P:Nat->Prop} [DecidablePred P] (i:Nat):∀d r,r+d=i->P r->∃t,r<=t/\t<=i/\P t/\∀s,t<s->s<=i->¬ P s:=by
 intro d
 induction d with
 |zero=>intro r e h;exact⟨r,Yd _,by omega,h,λs h1 h2=>by omega⟩
 |succ d ih =>
  intro r e h
  by_cases hx:∃t,r<t/\t<=i/\P t
  ·obtain⟨t,h1,h2,h3⟩:=hx
   -- step to r+1 by cases
   by_cases h4:P (r+1)
   ·obtain⟨u,u1,u2,u3,u4⟩:=ih (r+1) (by omega) h4
    exact⟨u,by omega,u2,u3,u4⟩
   ·-- go on from the next one
    have gen:∀k t,t+k=i->r<t->P t->∃u,r<=u/\u<=i/\P u/\∀s,u<s->s<=i->¬ P s:=by
     intro k
     induction k with
     |zero=>intro t e h1 h3;exact⟨t,by omega,by omega,h3,λs h1 h2=>by omega⟩
     |succ k ihk =>
      intro t e h1 h3
      by_cases hy:∃s,t<s/\s<=i/\P s
      ·-- the last one of the rest
       have key:∀m,m<=i->(∃s,t<s/\s<=m/\P s)->∃u,t<u/\u<=m/\P u/\∀s,u<s->s<=m->¬ P s:=by
        intro m
        induction m with
        |zero=>rintro _ ⟨s,h5,h6,_⟩;omega
        |succ m ihm =>
         rintro hm ⟨s,h5,h6,h7⟩
         by_cases hp:P (m+1)
         ·exact⟨m+1,by omega,Yd _,hp,λs h1 h2=>by omega⟩
         ·have hs:s<=m:=by
           rcases Nat.lt_or_ge m s with z|z
           ·have:s=m+1:=by omega
            rw[this]at h7;exact absurd h7 hp
           ·exact z
          obtain⟨u,u1,u2,u3,u4⟩:=ihm (by omega) ⟨s,h5,hs,h7⟩
          refine⟨u,u1,by omega,u3,λs' h1 h2=>?_⟩
          by_cases e:s'=m+1
          ·rw[e];exact hp
          ·exact u4 s' h1 (by omega)
       obtain⟨u,u1,u2,u3,u4⟩:=key i (Yd _) hy
       exact⟨u,by omega,u2,u3,u4⟩
      ·exact⟨t,by omega,by omega,h3,λs h1 h2 h5=>hy ⟨s,h1,h2,h5⟩⟩
    exact gen (i-t) t (by omega) h1 h3
  ·exact⟨r,Yd _,by omega,h,λs h1 h2 h3=>hx ⟨s,h1,h2,h3⟩⟩
theorem Zoo {P:Nat->Prop} [DecidablePred P] {n r:Nat} (hr:r<n) (h:P r):∃t,r<=t/\t<n/\P t/\∀s,t<s->s<n->¬ P s:=by
 obtain⟨t,h1,h2,h3,h4⟩:=ZmX (P:=P) (n-1) (n-1-r) r (by omega) h
 exact⟨t,h1,by omega,h3,λs a b=>h4 s a (by omega)⟩
noncomputable def Zsf (f:Nat->Int) (i:Nat) (sp:List Nat):Prop:=sp.Pairwise (· < ·)/\∀q,q∈sp↔q<i/\∀r,q<r->r<i->f q<=f r
theorem Zpt (f:Nat->Int) (p:Nat):ZcE f p\/∃q,Zaf f p q:=by
 by_cases h:∃q,q<p/\f q<=f p
 ·obtain⟨q,h1,h2⟩:=h
  obtain⟨t,_,t2,t3,t4⟩:=Zoo (P:=λq=>f q<=f p) h1 h2
  exact .inr ⟨t,t2,t3,λr a b=>by have:=t4 r a b;omega⟩
 ·exact .inl λq hq=>by
   have:¬ (f q<=f p):=λz=>h ⟨q,hq,z⟩
   omega
theorem Zqc {f:Nat->Int}{i p q:Nat} (hp:p<i) (ho:∀r,p<r->r<i->f p<=f r) (h:Zaf f p q):(∀r,q<r->r<i->f q<=f r)/\∀s,q<s->s<p->¬ ∀r,s<r->r<i->f s<=f r:=by
 obtain⟨h1,h2,h3⟩:=h
 refine⟨λr a b=>?_,λs a b z=>?_⟩
 ·rcases Nat.lt_trichotomy r p with c|c|c
  ·have:=h3 r a c;omega
  ·rw[c];exact h2
  ·have:=ho r c b;omega
 ·have:=z p b hp
  have:=h3 s a b
  omega
theorem Zop {f:Nat->Int}{i:Nat}{A B:List Nat} (hs:Zsf f i (A++B)) (hA:∀q∈A,f q<=f i) (hB:∀q∈B,f i<f q) :
  Zsf f (i+1) (A++[i])/\ZF f (i+1) i (match A.getLast? with|some q=>(q:Int)|none=>-1)/\∀p e,p<i->ZF f i p e->ZF f (i+1) p (if B.head?=some p then (i:Int)else e):=by
 obtain⟨hso,hm⟩:=hs
 have hAB:=List.pairwise_append.mp hso
 have noNx:ZbN f (i+1) i:=λr a b=>by omega
 refine⟨⟨?_,λq=>?_⟩,?_,λp e hp he=>?_⟩
 ·refine List.pairwise_append.mpr ⟨hAB.1,List.pairwise_singleton _ _,λa ha b hb=>?_⟩
  have:b=i:=by simpa using hb
  rw[this]
  exact((hm a).mp (YT _ ha)).1
 ·rw[YC,Y8]
  constructor
  ·rintro(h|h)
   ·obtain⟨h1,h2⟩:=(hm q).mp (YT _ h)
    refine⟨by omega,λr a b=>?_⟩
    by_cases e:r=i
    ·rw[e];exact hA q h
    ·exact h2 r a (by omega)
   ·subst h;exact⟨by omega,λr a b=>by omega⟩
  ·rintro⟨h1,h2⟩
   by_cases e:q=i
   ·exact .inr e
   ·have hq:q∈A++B:=(hm q).mpr ⟨by omega,λr a b=>h2 r a (by omega)⟩
    rcases YC.mp hq with h|h
    ·exact .inl h
    ·have:=hB q h
     have:=h2 i (by omega) (by omega)
     omega
 ·-- the elder of i
  rcases Zpt f i with h|⟨q,h⟩
  ·have hA0:A=[]:=by
    cases A with
    |nil=>rfl
    |cons a r =>
     have h1:=((hm a).mp (by simp)).1
     have:=hA a (by simp)
     have:=h a h1
     omega
   rw[hA0]
   exact .inl ⟨h,noNx,rfl⟩
  ·have ho:∀r,q<r->r<i->f q<=f r:=λr a b=>by have:=h.2.2 r a b;have:=h.2.1;omega
   have hqA:q∈A:=by
    rcases YC.mp ((hm q).mpr ⟨h.1,ho⟩)with z|z
    ·exact z
    ·have:=hB q z;have:=h.2.1;omega
   have hlast:A.getLast?=some q:=by
    have hne:A≠[]:=λz=>by rw[z]at hqA;cases hqA
    rw[List.getLast?_eq_some_getLast hne]
    congr 1
    have hl:A.getLast hne∈A:=List.getLast_mem hne
    -- q<=last,and last is not past q
    by_cases e:A.getLast hne=q
    ·exact e
    ·exfalso
     have hlt:q<A.getLast hne:=by
      have hd:=List.dropLast_concat_getLast hne
      have hq2:q∈A.dropLast:=by
       rw[<-hd]at hqA
       rcases YC.mp hqA with z|z
       ·exact z
       ·exact absurd (by simpa using z) (Ne.symm e)
      have hp2:=hAB.1
      rw[<-hd]at hp2
      exact(List.pairwise_append.mp hp2).2.2 q hq2 _ (by simp)
     have h1:=((hm (A.getLast hne)).mp (YT _ hl)).1
     have:=h.2.2 _ hlt h1
     have:=hA _ hl
     omega
   rw[hlast]
   exact .inr (.inl ⟨q,h,noNx,rfl⟩)
 ·-- the elder of an earlier place
  have nxt:∀r,Zac f i p r->Zac f (i+1) p r:=λr ⟨a,b,c,d⟩=>⟨a,by omega,c,d⟩
  by_cases hop:ZbN f i p
  ·have hmem:p∈A++B:=(hm p).mpr ⟨hp,hop⟩
   by_cases hlt:f i<f p
   ·have hnx:Zac f (i+1) p i:=⟨hp,by omega,hlt,λs a b=>hop s a b⟩
    have hpB:p∈B:=by
     rcases YC.mp hmem with z|z
     ·have:=hA p z;omega
     ·exact z
    obtain⟨b0,Br,rfl⟩:∃b0 Br,B=b0::Br:=by
     cases B with
     |nil=>cases hpB
     |cons b0 Br=>exact⟨b0,Br,rfl⟩
    have hhead:(b0::Br).head?=some b0:=rfl
    rw[hhead]
    rcases Zpt f p with hn|⟨q,hq⟩
    ·-- nothing ahead: p is the first of all
     have e0:b0=p:=by
      by_cases z:b0=p
      ·exact z
      ·exfalso
       have hpr:p∈Br:=by
        rcases Yl.mp hpB with y|y
        ·exact absurd y.symm z
        ·exact y
       have hlt2:b0<p:=(Y1.mp hAB.2.1).1 p hpr
       have:=((hm b0).mp (by simp)).2 p hlt2 hp
       have:=hn b0 hlt2
       omega
     rw[Yc (by rw[e0])]
     exact .inr (.inr (.inl ⟨i,hn,hnx,rfl⟩))
    ·obtain⟨hq1,hq2⟩:=Zqc hp hop hq
     have hqm:q∈A++b0::Br:=(hm q).mpr ⟨Nat.lt_trans hq.1 hp,hq1⟩
     by_cases hqi:f q<=f i
     ·-- q is kept: p is the first of B
      have e0:b0=p:=by
       by_cases z:b0=p
       ·exact z
       ·exfalso
        have hpr:p∈Br:=by
         rcases Yl.mp hpB with y|y
         ·exact absurd y.symm z
         ·exact y
        have hlt2:b0<p:=(Y1.mp hAB.2.1).1 p hpr
        have hb0:=(hm b0).mp (by simp)
        have hqA:q∈A:=by
         rcases YC.mp hqm with y|y
         ·exact y
         ·have:=hB q y;omega
        have hqb:q<b0:=hAB.2.2 q hqA b0 (by simp)
        exact hq2 b0 hqb hlt2 hb0.2
      rw[Yc (by rw[e0])]
      refine .inr (.inr (.inr ⟨q,i,hq,hnx,?_⟩))
      rw[Yc hqi]
     ·-- q goes,too: the elder stays
      have hqB:q∈b0::Br:=by
       rcases YC.mp hqm with y|y
       ·exact absurd (hA q y) hqi
       ·exact y
      have hne:b0≠p:=by
       intro z
       subst z
       rcases Yl.mp hqB with y|y
       ·have:=hq.1;omega
       ·have:=(Y1.mp hAB.2.1).1 q y
        have:=hq.1;omega
      rw[Yb (by intro z;exact hne (Yz z))]
      have ee:e=q:=by
       rcases he with⟨h1,_,_⟩|⟨q',h1,_,h3⟩|⟨r,h1,_,_⟩|⟨q',r,_,h2,_⟩
       ·have:=h1 q hq.1;have:=hq.2.1;omega
       ·have:q'=q:=by
         rcases Nat.lt_trichotomy q' q with y|y|y
         ·have:=h1.2.2 q y hq.1;have:=hq.2.1;omega
         ·exact y
         ·have:=hq.2.2 q' y h1.1;have:=h1.2.1;omega
        rw[h3,this]
       ·have:=h1 q hq.1;have:=hq.2.1;omega
       ·have:=hop r h2.1 h2.2.1;have:=h2.2.2.1;omega
      refine .inr (.inr (.inr ⟨q,i,hq,hnx,?_⟩))
      rw[Yb hqi,ee]
   ·-- still open: not of B
    have hnn:ZbN f (i+1) p:=λr a b=>by
     by_cases z:r=i
     ·rw[z];omega
     ·exact hop r a (by omega)
    have hne:B.head?≠some p:=λz=>by
     have:p∈B:=List.mem_of_head? z
     have:=hB p this
     omega
    rw[Yb hne]
    rcases he with⟨h1,_,h3⟩|⟨q,h1,_,h3⟩|⟨r,_,h2,_⟩|⟨q,r,_,h2,_⟩
    ·exact .inl ⟨h1,hnn,h3⟩
    ·exact .inr (.inl ⟨q,h1,hnn,h3⟩)
    ·have:=hop r h2.1 h2.2.1;have:=h2.2.2.1;omega
    ·have:=hop r h2.1 h2.2.1;have:=h2.2.2.1;omega
  ·-- shut already
   have hne:B.head?≠some p:=λz=>hop ((hm p).mp (Yv _ (List.mem_of_head? z))).2
   rw[Yb hne]
   rcases he with⟨_,h2,_⟩|⟨q,_,h2,_⟩|⟨r,h1,h2,h3⟩|⟨q,r,h1,h2,h3⟩
   ·exact absurd h2 hop
   ·exact absurd h2 hop
   ·exact .inr (.inr (.inl ⟨r,h1,nxt r h2,h3⟩))
   ·exact .inr (.inr (.inr ⟨q,r,h1,nxt r h2,h3⟩))
end L2
namespace L2
open PySem PySem.Spec PyProof.Rows PySem.W
theorem ZjI {α β:Type}{f g:α->Option β}:∀{l:List α},(∀x∈l,f x=g x)->l.filterMap f=l.filterMap g
 |[],_=>rfl
 |x::r,h=>by rw[List.filterMap_cons,List.filterMap_cons,h x (YI ..),ZjI λy hy=>h y (YJ _ hy)]
theorem Zqd (its:List Value) (k:Nat) (hk:k<=its.length) (start:Nat):(its.zipIdx start).filterMap (λxk=>if (decide (((start+k:Nat):Int)<=(xk.2:Int))&&decide ((xk.2:Int)<((start+its.length:Nat):Int))&&(((xk.2:Int)-((start+k:Nat):Int)) % 1==0))=true then none else some xk.1)=its.take k:=by
 induction its generalizing k start with
 |nil=>simp
 |cons x r ih =>
  rw[List.zipIdx_cons,List.filterMap_cons]
  cases k with
  |zero =>
   have h1:(decide (((start+0:Nat):Int)<=(start:Int))&&decide ((start:Int)<((start+(x::r).length:Nat):Int))&&(((start:Int)-((start+0:Nat):Int)) % 1==0))=true:=by
    simp;omega
   simp only[h1,if_true]
   have:=ih 0 (by omega) (start+1)
   rw[List.take_zero]at this⊢
   rw[<-this]
   refine ZjI λxk hxk=>?_
   have hm:=List.mem_zipIdx hxk
   have e1:(decide (((start+0:Nat):Int)<=(xk.2:Int)))=(decide (((start+1+0:Nat):Int)<=(xk.2:Int))):=by
    rw[decide_eq_decide];omega
   have e2:((start+(x::r).length:Nat):Int)=((start+1+r.length:Nat):Int):=by simp;omega
   have e3:(((xk.2:Int)-((start+0:Nat):Int)) % 1==0)=(((xk.2:Int)-((start+1+0:Nat):Int)) % 1==0):=by simp[Int.emod_one]
   rw[e1,e2,e3]
  |succ k =>
   have h1:(decide (((start+(k+1):Nat):Int)<=(start:Int))&&decide ((start:Int)<((start+(x::r).length:Nat):Int))&&(((start:Int)-((start+(k+1):Nat):Int)) % 1==0))=false:=by
    have:decide (((start+(k+1):Nat):Int)<=(start:Int))=false:=YD (by omega)
    rw[this];rfl
   simp only[h1,Bool.false_eq_true,if_false]
   rw[List.take_succ_cons]
   congr 1
   have:=ih k (by simpa using hk) (start+1)
   rw[<-this]
   refine ZjI λxk hxk=>?_
   have e1:((start+(k+1):Nat):Int)=((start+1+k:Nat):Int):=by omega
   have e2:((start+(x::r).length:Nat):Int)=((start+1+r.length:Nat):Int):=by simp;omega
   rw[e1,e2]
section
variable {X:Cx}{e st:Expr}{te ts:TE}{pos pos1 p2:Pos}
noncomputable def tDelT (te ts:TE):TS:=λD σ H=>te σ H λx H1=>ts σ H1 λz H2=>∃(l:Addr) (xs:List V) (k:Nat),x=.ref l/\z=.int k/\H2 l=some (.lst xs)/\k<=xs.length/\D.nx σ (upd H2 l (.lst (xs.take k)))
theorem Zoq (he:PE X e te) (hs:PE X st ts):PS X (.Delete [.Subscript e (.Slice (some st) none none p2) pos1] pos) (tDelT te ts):=by
 intro pins s σ H D I h
 refine wpAny_Delete (wpAny_deleteEach_cons ?_)
 show wpAny _ _ (eval e X.env >>= λov=>holding [ov] (eval (.Slice (some st) none none p2) X.env) >>= λiv=>(do standAt pos1;holding [ov,iv] (delItem ov iv);release [ov,iv] [])) _ _ _
 refine Ya (thn (he pins s σ H _ I h) λv s1 ⟨x,H1,I1,r1,q1⟩=>?_)
 refine Ya (wpAny_holding ?_)
 refine wpAny_Slice ?_
 rw[evalPart_some]
 refine thn (hs pins s1 σ H1 _ I1 q1) λvs s2 ⟨z,H2,I2,r2,l,xs,k,e1,e2,hx,hk,q⟩=>?_
 subst e1 e2
 obtain⟨tk,rfl⟩:=r2
 cases r1
 rw[evalPart_none]
 refine Ye ?_
 refine Ye ?_
 have I4:Inv X pins σ H2 {s2 with heap:=s2.heap.push {cls:=.type "slice",data:=.fields #[.int k tk,.none,.none]}}:=I2.kept (t':=s2.toks) λb ob q=>Yg _ q
 have hsl:({s2 with heap:=s2.heap.push {cls:=.type "slice",data:=.fields #[.int k tk,.none,.none]}}:Shared).heap.get? s2.heap.objs.size=some {cls:=.type "slice",data:=.fields #[.int k tk,.none,.none]}:=Yk _ rfl
 obtain⟨z,its,n,r,hlen,hob⟩:=I4.ZpY hx
 generalize ({s2 with heap:=s2.heap.push {cls:=.type "slice",data:=.fields #[.int k tk,.none,.none]}}:Shared)=s4 at I4 hsl hob⊢
 have hT:s4.TypeIs (.ref l) "list":=⟨_,hob,rfl⟩
 have hTs:s4.TypeIs (.ref s2.heap.objs.size) "slice":=⟨_,hsl,rfl⟩
 refine Ya (wpAny_standAt (Ya (wpAny_holding ?_)))
 refine wpAny_delItem_slot hT (by decide) F.slot_list_delitem (wpAny_call_entry F.slot_list_delitem hT F.entry_list_delitem ?_ (F.args_list_delitem_2 _ _))
 show wpAny _ _ (Builtin.List.listSubscript? (.ref s2.heap.objs.size) >>= _) _ _ s4
 refine Ya ?_;unfold Builtin.List.listSubscript?;refine Ya (wpAny_specialOf hTs slice_no_index ?_)
 simp only[Option.isNone_none,if_true];refine Ye ?_
 show wpAny _ _ (typeOf (.ref s2.heap.objs.size) >>= _) _ _ s4
 refine Ya (wpAny_typeOf hTs ?_);rw[Yb (by decide),listSliceParts_eq]
 refine Ya (Ya (wpAny_field hsl rfl (x:=.none) rfl (Ya (wpAny_listPart (k:=none) .none ?_))));rw[Yb (show ¬ ((rawPart none==rawInt 0)=true)from Yy)]
 refine Ya (wpAny_field hsl rfl (x:=.int k tk) rfl (Ya (wpAny_listPart (.int (k:Int) tk) ?_)))
 refine Ya (wpAny_field hsl rfl (x:=.none) rfl (Ya (wpAny_listPart (k:=none) .none (Ye ?_))))
 refine Ya (m:=Builtin.List.listItems (.ref l)) ?_;unfold Builtin.List.listItems
 refine Ya (wpAny_seqItems hob rfl (Ye ?_));refine Ya (wpAny_of_eq (sliceIndices_raw (some (k:Int)) none none its.toArray.size (by simp)) (Ya (wpAny_rule ?_)))
 have hb:sliceBounds (some (k:Int)) none none its.toArray.size=((k:Int),((its.length:Nat):Int),1):=by
  unfold sliceBounds
  simp
  omega
 rw[hb]
 have hf:∀f:Array Value->Array Value,(∀ys:Array Value,f ys=(ys.toList.zipIdx.filterMap λxk=>if (decide ((k:Int)<=(xk.2:Int))&&decide ((xk.2:Int)<((its.length:Nat):Int))&&(((xk.2:Int)-(k:Int)) % 1==0))=true then none else some xk.1).toArray)->f its.toArray=(its.take k).toArray:=λf h=>by
  rw[h]
  congr 1
  have:=Zqd its k (by omega) 0
  simpa using this
 refine Ya (m:=updateSeq l _) ?_
 refine wpAny_updateSeq (n:=n) hob rfl ?_ (by rw[Yp];omega) ?_
 ·refine Ya (wpAny_letGo (Ye ⟨_,rfl,?_⟩))
  refine wpAny_release (wpAny_deleteEach_nil ⟨σ,_,I4.lset hx hob (hf _ λys=>rfl) (r.Zse k) ?_,q⟩)
  rw[YY];omega
 ·rw[Yp]
  refine Yh (List.length_filterMap_le _ _) ?_
  rw[List.length_zipIdx]
  show its.length<=sizeLine+1
  omega
end
theorem Zaf.unique {f:Nat->Int}{p q q':Nat} (h:Zaf f p q) (k:Zaf f p q'):q=q':=by
 rcases Nat.lt_trichotomy q q' with z|z|z
 ·have:=h.2.2 q' z k.1;have:=k.2.1;omega
 ·exact z
 ·have:=k.2.2 q z h.1;have:=h.2.1;omega
theorem Zac.unique {f:Nat->Int}{n p r r':Nat} (h:Zac f n p r) (k:Zac f n p r'):r=r':=by
 rcases Nat.lt_trichotomy r r' with z|z|z
 ·have:=k.2.2.2 r h.1 z;have:=h.2.2.1;omega
 ·exact z
 ·have:=h.2.2.2 r' k.1 z;have:=k.2.2.1;omega
theorem Zaf.no {f:Nat->Int}{p q:Nat} (h:Zaf f p q) (k:ZcE f p):False:=by have:=k q h.1;have:=h.2.1;omega
theorem Zac.no {f:Nat->Int}{n p r:Nat} (h:Zac f n p r) (k:ZbN f n p):False:=by have:=k r h.1 h.2.1;have:=h.2.2.1;omega
theorem ZF.unique {f:Nat->Int}{n p:Nat}{e e':Int} (h:ZF f n p e) (k:ZF f n p e'):e=e':=by
 rcases h with⟨h1,h2,h3⟩|⟨q,h1,h2,h3⟩|⟨r,h1,h2,h3⟩|⟨q,r,h1,h2,h3⟩ <;>
 rcases k with⟨k1,k2,k3⟩|⟨q',k1,k2,k3⟩|⟨r',k1,k2,k3⟩|⟨q',r',k1,k2,k3⟩
 ·rw[h3,k3]
 ·exact(k1.no h1).elim
 ·exact(k2.no h2).elim
 ·exact(k1.no h1).elim
 ·exact(h1.no k1).elim
 ·rw[h3,k3,h1.unique k1]
 ·exact(h1.no k1).elim
 ·exact(k2.no h2).elim
 ·exact(h2.no k2).elim
 ·exact(k1.no h1).elim
 ·rw[h3,k3,h2.unique k2]
 ·exact(k1.no h1).elim
 ·exact(h1.no k1).elim
 ·exact(h2.no k2).elim
 ·exact(h1.no k1).elim
 ·rw[h3,k3,h1.unique k1,h2.unique k2]
noncomputable def Zi (ns:List Int) (es:List Int):Prop:=es.length=ns.length/\∀p,p<ns.length->ZF (nth ns) ns.length p (es.getD p 0)
theorem Zi.unique {ns es es':List Int} (h:Zi ns es) (k:Zi ns es'):es=es':=by
 refine List.ext_getElem (by rw[h.1,k.1]) λj h1 h2=>?_
 have hj:j<ns.length:=by rw[<-h.1];exact h1
 have:=(h.2 j hj).unique (k.2 j hj)
 simpa[Ym,h1,h2]using this
theorem Zfm {f:Nat->Int}{n p:Nat} (hp:p<n):ZF f n p
  (match ((List.range p).filter λq=>decide (f q<=f p)).getLast?,((List.range (n-(p+1))).filter λj=>decide (f (p+1+j)<f p)).head? with
   |none,none=>-1
   |none,some j=>((p+1+j:Nat):Int)
   |some q,none=>q
   |some q,some j=>if f q<=f (p+1+j)then ((p+1+j:Nat):Int)else q):=by
 have hA:(((List.range p).filter λq=>decide (f q<=f p)).getLast?=none/\ZcE f p)\/∃q,((List.range p).filter λq=>decide (f q<=f p)).getLast?=some q/\Zaf f p q:=by
  induction p with
  |zero=>exact .inl ⟨rfl,λq hq=>by omega⟩
  |succ p _ =>
   generalize p+1=P
   have key:∀m,m<=P->(((List.range m).filter λq=>decide (f q<=f P)).getLast?=none/\∀q,q<m->f P<f q)\/∃q,((List.range m).filter λq=>decide (f q<=f P)).getLast?=some q/\q<m/\f q<=f P/\∀r,q<r->r<m->f P<f r:=by
    intro m
    induction m with
    |zero=>intro _;exact .inl ⟨rfl,λq hq=>by omega⟩
    |succ m ih =>
     intro hm
     rw[YQ,List.filter_append]
     by_cases hle:f m<=f P
     ·refine .inr ⟨m,?_,by omega,hle,λr r1 r2=>by omega⟩
      simp[hle]
     ·have e:List.filter (λq=>decide (f q<=f P)) [m]=[]:=by simp[hle]
      rw[e,List.append_nil]
      rcases ih (by omega)with⟨i1,i2⟩|⟨q,i1,i2,i3,i4⟩
      ·refine .inl ⟨i1,λq hq=>?_⟩
       by_cases z:q=m
       ·rw[z];omega
       ·exact i2 q (by omega)
      ·refine .inr ⟨q,i1,by omega,i3,λr r1 r2=>?_⟩
       by_cases z:r=m
       ·rw[z];omega
       ·exact i4 r r1 (by omega)
   rcases key P (Yd _)with⟨i1,i2⟩|⟨q,i1,i2,i3,i4⟩
   ·exact .inl ⟨i1,i2⟩
   ·exact .inr ⟨q,i1,i2,i3,i4⟩
 have hB:(((List.range (n-(p+1))).filter λj=>decide (f (p+1+j)<f p)).head?=none/\ZbN f n p)\/∃j,((List.range (n-(p+1))).filter λj=>decide (f (p+1+j)<f p)).head?=some j/\Zac f n p (p+1+j):=by
  have key:∀m,(((List.range m).filter λj=>decide (f (p+1+j)<f p)).head?=none/\∀j,j<m->f p<=f (p+1+j))\/∃j,((List.range m).filter λj=>decide (f (p+1+j)<f p)).head?=some j/\j<m/\f (p+1+j)<f p/\∀i,i<j->f p<=f (p+1+i):=by
   intro m
   induction m with
   |zero=>exact .inl ⟨rfl,λq hq=>by omega⟩
   |succ m ih =>
    rw[YQ,List.filter_append]
    rcases ih with⟨i1,i2⟩|⟨j,i1,i2,i3,i4⟩
    ·have e0:List.filter (λj=>decide (f (p+1+j)<f p)) (List.range m)=[]:=List.head?_eq_none_iff.mp i1
     rw[e0,List.nil_append]
     by_cases hlt:f (p+1+m)<f p
     ·refine .inr ⟨m,by simp[hlt],by omega,hlt,λi hi=>i2 i hi⟩
     ·refine .inl ⟨by simp[hlt],λj hj=>?_⟩
      by_cases z:j=m
      ·rw[z];omega
      ·exact i2 j (by omega)
    ·refine .inr ⟨j,?_,by omega,i3,i4⟩
     rw[List.head?_append,i1];rfl
  rcases key (n-(p+1))with⟨i1,i2⟩|⟨j,i1,i2,i3,i4⟩
  ·refine .inl ⟨i1,λr r1 r2=>?_⟩
   have:=i2 (r-(p+1)) (by omega)
   have e:p+1+(r-(p+1))=r:=by omega
   rw[e]at this;exact this
  ·refine .inr ⟨j,i1,by omega,by omega,i3,λs s1 s2=>?_⟩
   have:=i4 (s-(p+1)) (by omega)
   have e:p+1+(s-(p+1))=s:=by omega
   rw[e]at this;exact this
 rcases hA with⟨a1,a2⟩|⟨q,a1,a2⟩<;>rcases hB with⟨b1,b2⟩|⟨j,b1,b2⟩<;>rw[a1,b1]
 ·exact .inl ⟨a2,b2,rfl⟩
 ·exact .inr (.inr (.inl ⟨_,a2,b2,rfl⟩))
 ·exact .inr (.inl ⟨_,a2,b2,rfl⟩)
 ·exact .inr (.inr (.inr ⟨_,_,a2,b2,rfl⟩))
end L2
namespace L2
noncomputable def Over (f:Nat->Int) (o p:Nat):Prop:=(o<p/\∀r,o<r->r<=p->f o<=f r)\/(p<o/\∀r,p<=r->r<o->f o<f r)
theorem Over.irrefl {f:Nat->Int}{p:Nat}:¬ Over f p p:=by rintro(⟨h,_⟩|⟨h,_⟩)<;>omega
theorem Over.ne {f:Nat->Int}{o p:Nat} (h:Over f o p):o≠p:=λz=>Over.irrefl (z▸h)
theorem Over.trans {f:Nat->Int}{o e p:Nat} (h:Over f o e) (k:Over f e p):Over f o p:=by
 rcases h with⟨h1,h2⟩|⟨h1,h2⟩<;>rcases k with⟨k1,k2⟩|⟨k1,k2⟩
 ·refine .inl ⟨by omega,λr r1 r2=>?_⟩
  by_cases z:r<=e
  ·exact h2 r r1 z
  ·have:=k2 r (by omega) r2;have:=h2 e h1 (Yd _);omega
 ·have he:=h2 e h1 (Yd _)
  rcases Nat.lt_trichotomy o p with z|z|z
  ·exact .inl ⟨z,λr r1 r2=>h2 r r1 (by omega)⟩
  ·have:=k2 p (Yd _) k1;subst z;omega
  ·exact .inr ⟨z,λr r1 r2=>by have:=k2 r r1 (by omega);omega⟩
 ·have he:=h2 e (Yd _) h1
  rcases Nat.lt_trichotomy o p with z|z|z
  ·exact .inl ⟨z,λr r1 r2=>by have:=k2 r (by omega) r2;omega⟩
  ·have:=k2 p k1 (Yd _);subst z;omega
  ·exact .inr ⟨z,λr r1 r2=>h2 r (by omega) r2⟩
 ·refine .inr ⟨by omega,λr r1 r2=>?_⟩
  by_cases z:r<e
  ·have:=k2 r r1 z;have:=h2 e (Yd _) h1;omega
  ·exact h2 r (by omega) r2
theorem Zc1 {f:Nat->Int}{n p:Nat}{e:Int} (hp:p<n) (h:ZF f n p e):e=-1\/∃q:Nat,e=q/\q<n/\Over f q p:=by
 have pv:∀q,Zaf f p q->Over f q p:=λq h=>.inl ⟨h.1,λr r1 r2=>by
  by_cases z:r=p
  ·rw[z];exact h.2.1
  ·have:=h.2.2 r r1 (by omega);have:=h.2.1;omega⟩
 have nx:∀q,Zac f n p q->Over f q p:=λq h=>.inr ⟨h.1,λr r1 r2=>by
  by_cases z:r=p
  ·rw[z];exact h.2.2.1
  ·have:=h.2.2.2 r (by omega) r2;have:=h.2.2.1;omega⟩
 rcases h with⟨_,_,h⟩|⟨q,h1,_,h⟩|⟨r,_,h1,h⟩|⟨q,r,h1,h2,h⟩
 ·exact .inl h
 ·exact .inr ⟨q,h,by have:=h1.1;omega,pv q h1⟩
 ·exact .inr ⟨r,h,h1.2.1,nx r h1⟩
 ·by_cases z:f q<=f r
  ·rw[Yc z]at h;exact .inr ⟨r,h,h2.2.1,nx r h2⟩
  ·rw[Yb z]at h;exact .inr ⟨q,h,by have:=h1.1;omega,pv q h1⟩
theorem Zll {f:Nat->Int}{n p o:Nat}{e:Int} (hp:p<n) (ho:o<n) (h:ZF f n p e) (hO:Over f o p):∃q:Nat,e=q/\q<n/\(o=q\/Over f o q):=by
 rcases hO with⟨o1,o2⟩|⟨o1,o2⟩
 ·have op:=o2 p o1 (Yd _)
  have pv:∀q,Zaf f p q->o=q\/(o<q/\Over f o q/\f o<=f q):=λq h=>by
   rcases Nat.lt_trichotomy o q with z|z|z
   ·have:=h.1;exact .inr ⟨z,.inl ⟨z,λr r1 r2=>o2 r r1 (by omega)⟩,o2 q z (by omega)⟩
   ·exact .inl z
   ·have:=h.2.2 o z o1;omega
  rcases h with⟨h1,_,h⟩|⟨q,h1,_,h⟩|⟨r,h1,_,h⟩|⟨q,r,h1,h2,h⟩
  ·have:=h1 o o1;omega
  ·refine⟨q,h,by have:=h1.1;omega,?_⟩
   rcases pv q h1 with z|z
   ·exact .inl z
   ·exact .inr z.2.1
  ·have:=h1 o o1;omega
  ·by_cases z:f q<=f r
   ·rw[Yc z]at h
    refine⟨r,h,h2.2.1,.inr (.inl ⟨by have:=h2.1;omega,λs s1 s2=>?_⟩)⟩
    by_cases sp:s<=p
    ·exact o2 s s1 sp
    ·by_cases sr:s=r
     ·rw[sr]
      rcases pv q h1 with y|y
      ·rw[y];exact z
      ·have:=y.2.2;omega
     ·have:=h2.2.2.2 s (by omega) (by omega);omega
   ·rw[Yb z]at h
    refine⟨q,h,by have:=h1.1;omega,?_⟩
    rcases pv q h1 with z|z
    ·exact .inl z
    ·exact .inr z.2.1
 ·have op:=o2 p (Yd _) o1
  have nx:∀r,Zac f n p r->o=r\/(r<o/\Over f o r/\f o<f r):=λr h=>by
   rcases Nat.lt_trichotomy o r with z|z|z
   ·have:=h.2.2.2 o o1 z;omega
   ·exact .inl z
   ·have:=h.1;exact .inr ⟨z,.inr ⟨z,λs s1 s2=>o2 s (by omega) s2⟩,o2 r (by omega) z⟩
  rcases h with⟨_,h1,h⟩|⟨q,_,h1,h⟩|⟨r,_,h1,h⟩|⟨q,r,h1,h2,h⟩
  ·have:=h1 o o1 ho;omega
  ·have:=h1 o o1 ho;omega
  ·refine⟨r,h,h1.2.1,?_⟩
   rcases nx r h1 with z|z
   ·exact .inl z
   ·exact .inr z.2.1
  ·by_cases z:f q<=f r
   ·rw[Yc z]at h
    refine⟨r,h,h2.2.1,?_⟩
    rcases nx r h2 with z|z
    ·exact .inl z
    ·exact .inr z.2.1
   ·rw[Yb z]at h
    refine⟨q,h,by have:=h1.1;omega,.inr (.inr ⟨by have:=h1.1;omega,λs s1 s2=>?_⟩)⟩
    by_cases sp:p<=s
    ·exact o2 s sp s2
    ·by_cases sq:s=q
     ·rw[sq]
      rcases nx r h2 with y|y
      ·rw[y];omega
      ·have:=y.2.2;omega
     ·have:=h1.2.2 s (by omega) (by omega);omega
theorem ZjJ {f:Nat->Int}{n p o q:Nat} (hp:p<n) (ho:o<n) (h:ZF f n p (q:Int)):Over f o p↔o=q\/Over f o q:=by
 refine⟨λk=>?_,λk=>?_⟩
 ·obtain⟨q',e,_,z⟩:=Zll hp ho h k
  have:q'=q:=by omega
  rw[this]at z;exact z
 ·rcases Zc1 hp h with z|⟨q',e,_,z⟩
  ·omega
  ·have:q'=q:=by omega
   rw[this]at z
   rcases k with k|k
   ·rw[k];exact z
   ·exact k.trans z
theorem Zgd {f:Nat->Int}{n p o:Nat} (hp:p<n) (ho:o<n) (h:ZF f n p (-1)):¬ Over f o p:=λk=>by
 obtain⟨q',e,_,z⟩:=Zll hp ho h k
 omega
theorem ZjK {P Q:Nat->Bool}:∀n,(∀o,o<n->P o=Q o)->(List.range n).countP P=(List.range n).countP Q
 |0,_=>rfl
 |n+1,h=>by
  rw[YQ,List.countP_append,List.countP_append,ZjK n (λo ho=>h o (by omega))]
  simp[List.countP_cons,h n (by omega)]
theorem Zey {P Q:Nat->Bool}{e:Nat}:∀n,e<n->(∀o,o<n->(P o=true↔o=e\/Q o=true))->Q e=false->(List.range n).countP P=(List.range n).countP Q+1
 |0,h,_,_=>by omega
 |n+1,h,hi,hq=>by
  rw[YQ,List.countP_append,List.countP_append]
  by_cases z:e=n
  ·have e1:(List.range n).countP P=(List.range n).countP Q:=ZjK n λo ho=>by
    have:=hi o (by omega)
    cases hP:P o<;>cases hQ:Q o<;>simp[hP,hQ]at this<;>first|rfl|omega
   have hPn:P n=true:=(hi n (by omega)).mpr (.inl z.symm)
   rw[z]at hq
   rw[e1];simp[List.countP_cons,hPn,hq]
  ·rw[Zey n (by omega) (λo ho=>hi o (by omega)) hq]
   have:=hi n (by omega)
   have hn:P n=Q n:=by
    cases hP:P n<;>cases hQ:Q n<;>simp[hP,hQ]at this<;>first|rfl|omega
   simp[List.countP_cons,hn];omega
theorem Zsg {P:Nat->Bool}{e n:Nat} (he:e<n) (h:P e=false):(List.range n).countP P<n:=by
 have h1:=Zey (P:=λo=>decide (o=e)||P o) (Q:=P) n he (λo _=>by simp) h
 have h2:=List.countP_le_length (p:=λo=>decide (o=e)||P o) (l:=List.range n)
 rw[h1,Y2]at h2
 omega
noncomputable def Zau (T:List Int):Nat->Int->List Nat
 |0,_=>[]
 |k+1,at_=>if 0<=at_/\at_<T.length then at_.toNat::Zau T k (nth T at_.toNat)else []
open Classical in
noncomputable def dep (f:Nat->Int) (n p:Nat):Nat:=(List.range n).countP λo=>decide (Over f o p)
theorem Zor {f:Nat->Int}{n p:Nat} (hp:p<n):dep f n p<n:=by
 classical
 exact Zsg hp (by simpa using Over.irrefl)
theorem Zh1 {f:Nat->Int}{n p q:Nat} (hp:p<n) (h:ZF f n p (q:Int)):dep f n p=dep f n q+1:=by
 classical
 have hq:q<n:=by
  rcases Zc1 hp h with z|⟨q',e,z,_⟩<;>omega
 exact Zey n hq (λo ho=>by simpa using ZjJ hp ho h) (by simpa using Over.irrefl)
theorem ZuM {f:Nat->Int}{n p:Nat} (hp:p<n) (h:ZF f n p (-1)):dep f n p=0:=by
 classical
 unfold dep
 rw[List.countP_eq_zero]
 intro o ho
 simpa using Zgd hp (by simpa using ho) h
theorem ZjL {P Q:Nat->Bool}:∀n,(∀o,o<n->P o=true->Q o=true)->(List.range n).countP P<=(List.range n).countP Q
 |0,_=>Yd _
 |n+1,h=>by
  rw[YQ,List.countP_append,List.countP_append]
  have:=ZjL n (λo ho=>h o (by omega))
  have hn:=h n (by omega)
  cases hP:P n<;>cases hQ:Q n<;>simp[List.countP_cons,hP,hQ]at hn⊢<;>omega
theorem Zsh {f:Nat->Int}{n p q:Nat} (hp:p<n) (hq:q<n) (h:Over f q p):dep f n q<dep f n p:=by
 classical
 have h1:=Zey (P:=λo=>decide (o=q)||decide (Over f o q)) (Q:=λo=>decide (Over f o q)) (e:=q) n hq (λo _=>by simp) (by simpa using Over.irrefl)
 have h2:=ZjL (P:=λo=>decide (o=q)||decide (Over f o q)) (Q:=λo=>decide (Over f o p)) n (λo _ ho=>by
  simp at ho⊢
  rcases ho with z|z
  ·rw[z];exact h
  ·exact z.trans h)
 rw[h1]at h2
 exact h2
theorem Zhl {ns T:List Int} (hT:Zi ns T):∀k p,p<ns.length->dep (nth ns) ns.length p<=k->(∀o,o∈Zau T k (nth T p)↔o<ns.length/\Over (nth ns) o p)/\(Zau T k (nth T p)).length=dep (nth ns) ns.length p
 |k,p,hp,hk=>by
  have hE:ZF (nth ns) ns.length p (nth T p):=hT.2 p hp
  rcases Zc1 hp hE with z|⟨q,e,hq,hO⟩
  ·have e0:Zau T k (nth T p)=[]:=by
    cases k with
    |zero=>rfl
    |succ k=>rw[Zau,Yb (by omega)]
   rw[e0]
   rw[z]at hE
   exact⟨λo=>⟨λh=>by simp at h,λh=>absurd h.2 (Zgd hp h.1 hE)⟩,by rw[ZuM hp hE];rfl⟩
  ·rw[e]at hE
   have hd:=Zh1 hp hE
   obtain⟨k',rfl⟩:∃k',k=k'+1:=⟨k-1,by omega⟩
   have ih:=Zhl hT k' q hq (by omega)
   have eT:((q:Nat):Int).toNat=q:=by omega
   rw[Zau,e,Yc ⟨by omega,by rw[hT.1];omega⟩,eT]
   refine⟨λo=>?_,by simp[ih.2,hd]⟩
   rw[Yl,ih.1 o]
   refine⟨λh=>?_,λh=>?_⟩
   ·rcases h with h|h
    ·rw[h];exact⟨hq,hO⟩
    ·exact⟨h.1,h.2.trans hO⟩
   ·rcases(ZjJ hp h.1 hE).mp h.2 with z|z
    ·exact .inl z
    ·exact .inr ⟨h.1,z⟩
noncomputable def ZgJ (T:List Int):List Int:=(List.range T.length).map λp=>((Zau T T.length (nth T p)).length:Int)
theorem Zhm (T:List Int):(ZgJ T).length=T.length:=by simp[ZgJ]
theorem ZmY {T:List Int}{p:Nat} (h:p<T.length):nth (ZgJ T) p=(Zau T T.length (nth T p)).length:=by
 simp[nth,ZgJ,Ym,h]
theorem Zqe {ns T:List Int} (hT:Zi ns T):Zi (ZgJ T) T:=by
 have eL:T.length=ns.length:=hT.1
 have hd:∀p,p<ns.length->nth (ZgJ T) p=(dep (nth ns) ns.length p:Int):=λp hp=>by
  rw[ZmY (by omega),eL,(Zhl hT ns.length p hp (YM (Zor hp))).2]
 refine⟨(Zhm T).symm,λp hp=>?_⟩
 rw[Zhm,eL]at hp⊢
 have lt:∀q p,q<ns.length->p<ns.length->Over (nth ns) q p->nth (ZgJ T) q<nth (ZgJ T) p:=λq p hq hp h=>by
  rw[hd q hq,hd p hp]
  have:=Zsh hp hq h;omega
 generalize nth (ZgJ T)=g at lt
 clear hd
 have pv:∀q,Zaf (nth ns) p q->Zaf g p q:=λq h=>by
  refine⟨h.1,Int.le_of_lt (lt q p (by have:=h.1;omega) hp (.inl ⟨h.1,λr r1 r2=>?_⟩)),λr r1 r2=>lt p r hp (by omega) (.inr ⟨r2,λs s1 s2=>h.2.2 s (by omega) s2⟩)⟩
  by_cases z:r=p
  ·rw[z];exact h.2.1
  ·have:=h.2.2 r r1 (by omega);have:=h.2.1;omega
 have nx:∀r,Zac (nth ns) ns.length p r->Zac g ns.length p r:=λq h=>by
  refine⟨h.1,h.2.1,lt q p h.2.1 hp (.inr ⟨h.1,λr r1 r2=>?_⟩),λs s1 s2=>Int.le_of_lt (lt p s hp (by have:=h.2.1;omega) (.inl ⟨s1,λr r1 r2=>h.2.2.2 r r1 (by omega)⟩))⟩
  by_cases z:r=p
  ·rw[z];exact h.2.2.1
  ·have:=h.2.2.2 r (by omega) r2;have:=h.2.2.1;omega
 have np:ZcE (nth ns) p->ZcE g p:=λh q hq=>lt p q hp (by omega) (.inr ⟨hq,λr r1 r2=>h r r2⟩)
 have nn:ZbN (nth ns) ns.length p->ZbN g ns.length p:=λh r r1 r2=>Int.le_of_lt (lt p r hp r2 (.inl ⟨r1,λs s1 s2=>h s s1 (by omega)⟩))
 have hE:ZF (nth ns) ns.length p (T.getD p 0):=hT.2 p hp
 rcases hE with⟨h1,h2,h⟩|⟨q,h1,h2,h⟩|⟨r,h1,h2,h⟩|⟨q,r,h1,h2,h⟩
 ·exact .inl ⟨np h1,nn h2,h⟩
 ·exact .inr (.inl ⟨q,pv q h1,nn h2,h⟩)
 ·exact .inr (.inr (.inl ⟨r,np h1,nx r h2,h⟩))
 ·refine .inr (.inr (.inr ⟨q,r,pv q h1,nx r h2,?_⟩))
  rw[h]
  have hq:q<ns.length:=by have:=h1.1;omega
  by_cases z:nth ns q<=nth ns r
  ·have:=lt q r hq h2.2.1 (.inl ⟨by have:=h1.1;have:=h2.1;omega,λs s1 s2=>by
    by_cases y:s=r
    ·rw[y];exact z
    ·by_cases y2:s=p
     ·rw[y2];exact h1.2.1
     ·have:=h1.2.1
      by_cases y3:s<p
      ·have:=h1.2.2 s s1 y3;omega
      ·have:=h2.2.2.2 s (by omega) (by omega);omega⟩)
   rw[Yc z,Yc (by omega)]
  ·have:=lt r q h2.2.1 hq (.inr ⟨by have:=h1.1;have:=h2.1;omega,λs s1 s2=>by
    have:=h1.2.1;have:=h2.2.2.1
    by_cases y:s=q
    ·rw[y];omega
    ·by_cases y2:s=p
     ·rw[y2];omega
     ·by_cases y3:s<p
      ·have:=h1.2.2 s (by omega) y3;omega
      ·have:=h2.2.2.2 s (by omega) (by omega);omega⟩)
   rw[Yb z,Yb (by omega)]
theorem Zqf (T:List Int):(∃ns,Zi ns T)↔Zi (ZgJ T) T:=⟨λ⟨_,h⟩=>Zqe h,λh=>⟨_,h⟩⟩
end L2
namespace L2
open PySem PySem.Spec PyProof.Rows PySem.W
noncomputable def Zi0 (es:List Int) (A B:List Nat) (i:Nat):List Int:=match A.getLast? with
 |some q=>(match B.head? with|some b=>es.set b i|none=>es).set i (q:Int)
 |none=>match B.head? with|some b=>es.set b i|none=>es
noncomputable def ZT (l:List Nat):List V:=l.map λq=>V.int (q:Nat)
theorem Zhn (l:List Int) (a p:Nat) (v:Int) (h:p<l.length):(l.set a v).getD p 0=if a=p then v else l.getD p 0:=by
 rw[Ym,Ym]
 by_cases e:a=p
 ·subst e;rw[Yc rfl,List.getElem?_set_self h];rfl
 ·rw[Yb e,List.getElem?_set_ne e]
theorem Zsi (es:List Int) (A B:List Nat) (i:Nat):(Zi0 es A B i).length=es.length:=by
 unfold Zi0
 cases A.getLast?<;>cases B.head?<;>simp
theorem Zpu (es:List Int) (A B:List Nat) (i p:Nat) (hp:p<es.length) (hb:∀b,B.head?=some b->b≠i):(Zi0 es A B i).getD p 0=if p=i then (match A.getLast? with|some q=>(q:Int)|none=>es.getD i 0)else if B.head?=some p then (i:Int)else es.getD p 0:=by
 unfold Zi0
 cases hA:A.getLast? with
 |none =>
  cases hB:B.head? with
  |none =>
   by_cases e:p=i
   ·rw[Yc e,e]
   ·rw[Yb e,Yb (by simp)]
  |some b =>
   show(es.set b i).getD p 0=_
   rw[Zhn _ _ _ _ hp]
   by_cases e:p=i
   ·rw[Yc e,Yb (by rw[e];exact hb b hB),e]
   ·rw[Yb e]
    by_cases e2:b=p
    ·rw[Yc e2,Yc (by rw[e2])]
    ·rw[Yb e2,Yb (by intro z;exact e2 (Yz z))]
 |some q =>
  cases hB:B.head? with
  |none =>
   show(es.set i q).getD p 0=_
   rw[Zhn _ _ _ _ hp]
   by_cases e:p=i
   ·rw[Yc e,Yc e.symm]
   ·rw[Yb e,Yb (λz=>e z.symm),Yb (by simp)]
  |some b =>
   show((es.set b i).set i q).getD p 0=_
   rw[Zhn _ _ _ _ (by simpa using hp),Zhn _ _ _ _ hp]
   by_cases e:p=i
   ·rw[Yc e,Yc e.symm]
   ·rw[Yb e,Yb (λz=>e z.symm)]
    by_cases e2:b=p
    ·rw[Yc e2,Yc (by rw[e2])]
    ·rw[Yb e2,Yb (by intro z;exact e2 (Yz z))]
theorem Zsj:∀(l:List Nat) (i lo:Nat),l.Pairwise (· < ·)->(∀q∈l,lo<=q/\q<i)->l.length+lo<=i\/l=[]
 |[],_,_,_,_=>.inr rfl
 |q::r,i,lo,h,hq=>by
  have h1:=hq q (by simp)
  have hr:=Y1.mp h
  rcases Zsj r i (q+1) hr.2 (λx hx=>⟨hr.1 x hx,(hq x (by simp[hx])).2⟩)with z|z
  ·left;simp;omega
  ·left;rw[z];simp;omega
theorem Zbu (l:List Nat):(ZT l).length=l.length:=by simp[ZT]
theorem Zh2 (a b:List Nat):ZT (a++b)=ZT a++ZT b:=by simp[ZT]
theorem Zfn {l:List Nat}{j q:Nat} (h:l[j]?=some q):atI (ZT l) (j:Int)=some (V.int (q:Nat)):=by
 have hj:=(Yq.mp h).1
 have e:=(Yq.mp h).2
 rw[Zl0 rfl (by rw[Zbu];exact hj)]
 simp[ZT,e]
theorem Zho {n j:Nat} (h:j<n):ixN n (j:Int)=some j:=by
 unfold ixN
 rw[Yc (by omega),Yc (by omega)];simp
noncomputable def Ze8 (T:List Int) (p:Nat):List Int:=(Zau T T.length (nth T p)).map λq=>((q:Nat):Int)
noncomputable def Zae (T:List Int):Prop:=T.length<=40/\∃ns,Zi ns T
theorem Zfo (T:List Int):∀k a,(Zau T k a).length<=k
 |0,_=>by simp[Zau]
 |k+1,a=>by
  rw[Zau]
  split
  ·have:=Zfo T k (nth T a.toNat);simp;omega
  ·simp
noncomputable def Zbg (T:List Int):Nat->Int->Int
 |0,a=>a
 |j+1,a=>if 0<=a/\a<T.length then Zbg T j (nth T a.toNat)else a
theorem Zlm (T:List Int):∀j a,0<=Zbg T j a->Zbg T j a<T.length->(Zau T j a).length=j->Zau T (j+1) a=Zau T j a++[(Zbg T j a).toNat]/\Zbg T (j+1) a=nth T (Zbg T j a).toNat
 |0,a,h0,h1,_=>by
  have h0':0<=a:=h0
  have h1':a<T.length:=h1
  constructor
  ·simp[Zau,Zbg,h0',h1']
  ·simp[Zbg,h0',h1']
 |j+1,a,h0,h1,hl=>by
  rw[Zau]at hl
  by_cases z:0<=a/\a<T.length
  ·rw[Yc z]at hl
   have e1:Zbg T (j+1) a=Zbg T j (nth T a.toNat):=by rw[Zbg,Yc z]
   rw[e1]at h0 h1
   have ih:=Zlm T j (nth T a.toNat) h0 h1 (by simpa using hl)
   constructor
   ·rw[Zau,Yc z,ih.1,Zau.eq_def T (j+1) a]
    simp only[Yc z,e1];simp
   ·rw[Zbg,Yc z,ih.2,e1]
  ·rw[Yb z]at hl;simp at hl
theorem Zln (T:List Int):∀j k a,j<=k->(Zau T j a).length=j->¬ (0<=Zbg T j a/\Zbg T j a<T.length)->Zau T k a=Zau T j a
 |0,k,a,_,_,h=>by
  have h':¬ (0<=a/\a<T.length):=h
  cases k with
  |zero=>rfl
  |succ k=>rw[show Zau T 0 a=[]from rfl,Zau,Yb h']
 |j+1,k,a,hk,hl,h=>by
  rw[Zau]at hl
  by_cases z:0<=a/\a<T.length
  ·rw[Yc z]at hl
   rw[Zbg,Yc z]at h
   obtain⟨k',rfl⟩:∃k',k=k'+1:=⟨k-1,by omega⟩
   rw[Zau,Yc z,Zln T j k' _ (by omega) (by simpa using hl) h,Zau,Yc z]
  ·rw[Yb z]at hl;simp at hl
section
variable {X:Cx}
theorem op_inK {K:Frag} (hK:X.K=K):OpR X (compareOp .In) (rIn K false):=hK▸ZpX
end
theorem Zqg (xs:List Int):(xs.map V.int).all flatV=true:=by
 induction xs with
 |nil=>rfl
 |cons x r ih=>rw[YE,List.all_cons,ih];rfl
theorem ZuN (x:Int) (xs:List Int):inV (.int x) (xs.map V.int)=decide (x∈xs):=by
 induction xs with
 |nil=>rfl
 |cons y r ih =>
  have:inV (.int x) ((y::r).map V.int)=(decide (y=x)||inV (.int x) (r.map V.int)):=rfl
  rw[this,ih]
  by_cases z:y=x
  ·simp[z]
  ·have:¬ x=y:=λh=>z h.symm
   simp[z,this]
theorem Zag {a b:TS}{D:Ends}{σ:St}{H:Hp} (Mid:St->Hp->Prop) (h1:∀R:St->Hp->Prop,(∀σ' H',Mid σ' H'->R σ' H')->a {D with nx:=R} σ H) (h2:∀σ' H',Mid σ' H'->b D σ' H'):tSeq a b D σ H:=h1 _ h2
theorem Zsk (xs:List V) (j:Nat):Zai xs none (some (j:Int))=xs.take j:=by
 have h:¬ ((j:Int)<0):=by omega
 unfold Zai HT.sIx
 simp only[Yb h,List.drop_zero,Nat.sub_zero]
 rw[List.take_eq_take_iff]
 omega
end L2
namespace L2
open PySem PySem.Spec PyProof.Rows
structure CellsOf (cl:List (Str×Addr)) (n0:Nat) (cs:List (Str×Addr)) (h0 h:Heap) (done:List (Str×NameKind)):Prop where
 old:∀b o,h0.get? b=some o->h.get? b=some o
 sz:n0<=h.objs.size
 mem:∀p∈cs,p∈cl\/(n0<=p.2/\p.2<h.objs.size/\h.IsCell p.2 none)
 inj:∀p∈cs,∀q∈cs,n0<=p.2->p.2=q.2->p.1=q.1
 own:∀y∈done,y.2=.cell->∃c,cs.lookup y.1=some c/\n0<=c
 oth:∀x,(∀y∈done,y.2=.cell->y.1≠x)->cs.lookup x=cl.lookup x
theorem Zh3 {M:Model}{A:Around}{E:Value->Shared->Prop}{cl:List (Str×Addr)}{n0:Nat}{h0:Heap} (hcl:∀p∈cl,p.2<n0):∀(names:List (Str×NameKind)) (cs:List (Str×Addr)) (done:List (Str×NameKind)) (s:Shared),CellsOf cl n0 cs h0 s.heap done ->
  wpAny M A (forIn names cs λ(x:Str×NameKind) (r:List (Str×Addr))=>(match x with
   |(name,kind)=>if (kind==NameKind.cell)=true then do
     let a <-alloc {cls:=.type "cell",data:=.cell none}
     pure (ForInStep.yield ((name,a)::r))
    else pure (ForInStep.yield r):Sem (ForInStep (List (Str×Addr))))) (λcs' s'=>∃h',s'={s with heap:=h'}/\CellsOf cl n0 cs' h0 h' (done++names)) E s
 |[],cs,done,s,I=>by
  rw[List.forIn_nil,List.append_nil]
  exact Ye ⟨s.heap,rfl,I⟩
 |(n,k)::r,cs,done,s,I=>by
  rw[List.forIn_cons]
  by_cases hk:k=.cell
  ·subst hk
   simp only[beq_self_eq_true,if_true]
   refine Ya (Ya (wpAny_alloc (Ye ?_)))
   have hget:(s.heap.push {cls:=.type "cell",data:=.cell none}).get? s.heap.objs.size=some {cls:=.type "cell",data:=.cell none}:=Yk _ rfl
   have I':CellsOf cl n0 ((n,s.heap.objs.size)::cs) h0 (s.heap.push {cls:=.type "cell",data:=.cell none}) (done++[(n,.cell)]):=by
    refine⟨λb o e=>Yg _ (I.old b o e),by rw[Heap.size_push];exact Nat.le_succ_of_le I.sz,λp hp=>?_,λp hp q hq hn e=>?_,λy hy hc=>?_,λx hx=>?_⟩
    ·rcases Yl.mp hp with z|z
     ·subst z
      exact .inr ⟨I.sz,by rw[Heap.size_push];exact Nat.lt_succ_self _,_,hget,rfl⟩
     ·rcases I.mem p z with w|⟨w1,w2,o,w3,w4⟩
      ·exact .inl w
      ·exact .inr ⟨w1,by rw[Heap.size_push];exact YN w2,o,Yg _ w3,w4⟩
    ·have lt:∀p∈cs,p.2<s.heap.objs.size:=λp hp=>by
      rcases I.mem p hp with w|w
      ·exact Yt (hcl p w) I.sz
      ·exact w.2.1
     rcases Yl.mp hp with z|z<;>rcases Yl.mp hq with z'|z'
     ·rw[z,z']
     ·subst z;exact absurd (show s.heap.objs.size<s.heap.objs.size from(show s.heap.objs.size=q.2 from e)▸lt q z') (YA _)
     ·subst z';exact absurd (show s.heap.objs.size<s.heap.objs.size from(show p.2=s.heap.objs.size from e)▸lt p z) (YA _)
     ·exact I.inj p z q z' hn e
    ·rcases YC.mp hy with z|z
     ·obtain⟨c,e1,e2⟩:=I.own y z hc
      by_cases hx:y.1=n
      ·exact⟨s.heap.objs.size,by rw[hx];simp,I.sz⟩
      ·have hb:(y.1==n)=false:=by simpa using hx
       exact⟨c,by simp only[List.lookup_cons,hb];exact e1,e2⟩
     ·have:y=(n,.cell):=by simpa using z
      subst this
      exact⟨s.heap.objs.size,by simp,I.sz⟩
    ·have hxn:n≠x:=hx (n,.cell) (by simp) rfl
     have hb:(x==n)=false:=by simpa using hxn.symm
     simp only[List.lookup_cons,hb]
     exact I.oth x λy hy=>hx y (YT _ hy)
   refine thn (Zh3 hcl r _ _ {s with heap:=s.heap.push {cls:=.type "cell",data:=.cell none}} I') λcs' s' ⟨h',e1,e2⟩=>⟨h',e1,?_⟩
   rw[YX]at e2
   exact e2
  ·have e1:(k==NameKind.cell)=false:=by cases k<;>first|rfl|exact absurd rfl hk
   simp only[e1,Bool.false_eq_true,if_false]
   refine Ya (Ye ?_)
   have I':CellsOf cl n0 cs h0 s.heap (done++[(n,k)]):=by
    refine⟨I.old,I.sz,I.mem,I.inj,λy hy hc=>?_,λx hx=>I.oth x λy hy=>hx y (YT _ hy)⟩
    rcases YC.mp hy with z|z
    ·exact I.own y z hc
    ·have:y=(n,k):=by simpa using z
     subst this
     exact absurd hc hk
   refine thn (Zh3 hcl r _ _ s I') λcs' s' ⟨h',e1,e2⟩=>⟨h',e1,?_⟩
   rw[YX]at e2
   exact e2
theorem Zos {M:Model}{A:Around}{E:Value->Shared->Prop}{s:Shared}{scope:Scope}{globals:Addr}{cl:List (Str×Addr)}{qual:Str}{around:Env}{Q:Env->Shared->Prop} (hcl:∀p∈cl,p.2<s.heap.objs.size)
  (h:∀cs h',CellsOf cl (s.heap.objs.size+1) cs (s.heap.push {cls:=.type "dict",data:=.dict #[]}) h' scope.names->Q {scope:=scope,locals:=s.heap.objs.size,globals:=globals,cells:=cs,qual:=qual,func:=none,code:=around.code,frame:=around.frame,builtins:=around.builtins} {s with heap:=h'}) :
  wpAny M A (newFunctionEnv scope globals cl [] qual none .none (some around)) Q E s:=by
 unfold newFunctionEnv
 refine Ya (wpAny_alloc ?_)
 refine Ya (thn (Zh3 (cl:=cl) (n0:=s.heap.objs.size+1) (h0:=s.heap.push {cls:=.type "dict",data:=.dict #[]}) (λp hp=>YN (hcl p hp)) scope.names cl [] {s with heap:=s.heap.push {cls:=.type "dict",data:=.dict #[]}} ⟨λb o e=>e,by rw[Heap.size_push];exact Yd _,λp hp=>.inl hp,λp hp q hq hn e=>absurd (hcl p hp) (Nat.not_lt_of_le (Nat.le_of_succ_le hn)),λy hy=>(nomatch hy),λx hx=>rfl⟩) λcs s' ⟨h',e1,e2⟩=>?_)
 subst e1
 rw[List.nil_append]at e2
 exact Ya (Ye (Ye (h cs h' e2)))
noncomputable def ZbO (around scope:Scope):Bool :=
 scope.kind==.function&&around.kind==.function&&scope.names.all λy=>match y.2 with
  |.local=>scope.names.lookup y.1==some .local
  |.cell=>scope.names.lookup y.1==some .cell
  |.free=>(scope.names.lookup y.1==some .free)&&(around.names.lookup y.1==some .cell||around.names.lookup y.1==some .free)
  |_=>true
theorem Zhp {a s:Scope} (h:ZbO a s=true):s.kind=.function:=by
 simp only[ZbO,Bool.and_eq_true,beq_iff_eq]at h;exact h.1.1
theorem ZgK {a s:Scope} (h:ZbO a s=true) {y:Str×NameKind} (hy:y∈s.names):(match y.2 with
  |.local=>s.names.lookup y.1==some .local
  |.cell=>s.names.lookup y.1==some .cell
  |.free=>(s.names.lookup y.1==some .free)&&(a.names.lookup y.1==some .cell||a.names.lookup y.1==some .free)
  |_=>true)=true:=by
 simp only[ZbO,Bool.and_eq_true]at h
 exact List.all_eq_true.mp h.2 y hy
theorem ZkS {a s:Scope} (h:ZbO a s=true):∀y∈s.names,y.2=.local->s.names.lookup y.1=some .local:=λy hy e=>by
 have q:=ZgK h hy
 rw[e]at q
 exact beq_iff_eq.mp q
theorem Zl4 {a s:Scope} (h:ZbO a s=true):∀y∈s.names,y.2=.cell->s.names.lookup y.1=some .cell:=λy hy e=>by
 have q:=ZgK h hy
 rw[e]at q
 exact beq_iff_eq.mp q
theorem Zez {a s:Scope} (h:ZbO a s=true):∀y∈s.names,y.2=.free->s.names.lookup y.1=some .free/\(a.names.lookup y.1=some .cell\/a.names.lookup y.1=some .free):=λy hy e=>by
 have q:=ZgK h hy
 rw[e]at q
 simp only[Bool.and_eq_true,Bool.or_eq_true,beq_iff_eq]at q
 exact q
noncomputable def Za8 (X:Cx) (Nc:List Str) (scope:Scope) (cs:List (Str×Addr)) (C:Addr) (s2:Shared) (H2:Hp) (fp:List Addr):Cx :=
 {Zr1 X Nc scope cs C s2 H2 fp with fn:=λx=>scope.names.lookup x==some .cell}
theorem ZmZ {env:Env}{scope:Scope} (h:∀y∈scope.names,y.2=.free->∃c,env.cells.lookup y.1=some c) :
  ∃cl,closureFor scope env=pure cl/\(∀p∈cl,env.cells.lookup p.1=some p.2)/\(∀y∈scope.names,y.2=.free->∃c,cl.lookup y.1=some c/\env.cells.lookup y.1=some c):=by
 obtain⟨cl,e,h1,h2,h3⟩:=Zev (env:=env) scope.names [] h
 have up:∀p∈cl,env.cells.lookup p.1=some p.2:=λp q=>by
  rcases h1 _ q with z|z
  ·cases z
  ·exact z
 refine⟨cl,?_,up,λy hy hf=>?_⟩
 ·unfold closureFor
  simp only[bind_pure_comp]at e⊢
  rw[e]
  exact pure_bind _ _
 ·obtain⟨c,hc⟩:=h3 y hy hf
  cases q:cl.lookup y.1 with
  |none=>exact absurd (List.lookup_eq_none_iff.mp q _ hc) (by simp)
  |some c'=>exact⟨c',rfl,up _ (PySem.mem_of_lookup q)⟩
section
variable {X:Cx}
theorem Zm0 {pins:List (Addr×Obj)}{σ:St}{H2:Hp}{s2:Shared}{Nc:List Str}{js:List (Option Nat)}{scope:Scope}{cs:List (Str×Addr)}{fp:List Addr}{h1:Heap}{tk:Nat}{D C:Addr}{oD:Obj}{m:Str->Option Value}
  (I:Inv X pins σ H2 s2) (hok:ZbO X.env.scope scope=true) (htk:takesC X.N Nc scope js 0=true) (up:∀x c,cs.lookup x=some c->X.env.cells.lookup x=some c\/(C<c/\h1.IsCell c none)) (hinj:∀x y c,cs.lookup x=some c->cs.lookup y=some c->x=y) (hown:∀y∈scope.names,y.2=.cell->∃c,cs.lookup y.1=some c/\C<c) (hfr:∀y∈scope.names,y.2=.free->∃c,cs.lookup y.1=some c/\X.env.cells.lookup y.1=some c)
  (hfp:∀b∈fp,FpOk X pins H2 b) (hfl:∀b∈fp,b<s2.heap.objs.size) (hD:D=s2.heap.objs.size) (hC:C=s2.heap.objs.size+1) (old:∀b o,s2.heap.get? b=some o->h1.get? b=some o) (hns:h1.Ns C m) (hoD:h1.get? D=some oD) (hdD:∀v,oD.data≠.cell v) :
  Inv (Za8 X Nc scope cs C s2 H2 fp) [(D,oD)] (ZbM js σ) H2 {s2 with heap:=h1,toks:=tk}:=by
 have leC:s2.heap.objs.size<=C:=by rw[hC];exact YZ _
 have leD:s2.heap.objs.size<=D:=Y4 hD.symm
 have kf:∀x,((compEnvC scope cs C X.env).kindOf x=some .cell\/(compEnvC scope cs C X.env).kindOf x=some .free)->∃c,cs.lookup x=some c:=λx hx=>by
  have:∃k,(compEnvC scope cs C X.env).kindOf x=some k/\(k=.cell\/k=.free):=hx.elim (λq=>⟨_,q,.inl rfl⟩) λq=>⟨_,q,.inr rfl⟩
  obtain⟨k,e,hk⟩:=this
  obtain⟨k',h1,h2⟩:=Zbr (show(scope.names.map _).lookup x=some k from e)
  have hm:=lookup_mem h1
  have:k'=.free\/k'=.cell:=by
   rcases h2 with q|q
   ·subst q
    exact hk.symm
   ·exact .inl q.1
  rcases this with z|z
  ·subst z
   obtain⟨c,q,_⟩:=hfr _ hm rfl
   exact⟨c,q⟩
  ·subst z
   obtain⟨c,q,_⟩:=hown _ hm rfl
   exact⟨c,q⟩
 have nC:∀c x,X.env.cells.lookup x=some c->c<s2.heap.objs.size:=λc x e=>by
  obtain⟨v,q⟩:=I.cell x c e
  exact q.lt
 have noB:∀b,b∈fp->b∉frs X.stack:=λb hb q=>by
  rcases Yl.mp (I.ZhS b q)with z|z
  ·exact(hfp b hb).2.1 z
  ·exact(hfp b hb).2.2.1 z
 have okX:(Za8 X Nc scope cs C s2 H2 fp).Ok:=by
  refine⟨I.ok.mod,(show scope.kind=.function from Zhp hok),I.ok.glob,I.ok.blt,?_,λx y c e1 e2=>hinj x y c e1 e2,λx hx=>?_,(λx c e1 e2=>?_),I.ok.hd,I.ok.frames,.inl rfl,λb hb=>⟨?_,λx c e=>(up _ _ e).elim (λz=>(hfp b hb).2.2.2.2.1 x c z) λz=>Nat.ne_of_gt (Nat.lt_trans (Yt (hfl b hb) leC) z.1)⟩,I.bs,Yh I.ok.bsz I.sz,λb o e hb=>?_,λb hb=>noB b hb,I.stack,I.Zja⟩
  ·show s2.heap.objs.size<=C;exact leC
  ·exact kf x hx
  ·have hm:=lookup_mem (beq_iff_eq.mp (show(scope.names.lookup x==some NameKind.cell)=true from e1))
   obtain⟨c',q1,q2⟩:=hown _ hm rfl
   have:c=c':=Yz ((show cs.lookup x=some c from e2).symm.trans q1)
   rw[this]
   exact Yh leC (YM q2)
  ·exact Yn (Yt (hfl b hb) leC)
  ·rcases(hfp b hb).2.2.2.1 with q|q
   ·exact I.ok.noex b o e q
   ·exact absurd (Yt (Yj e) (Yh I.ok.bsz q)) (YA _)
 refine⟨okX,rfl,I.bare,Un.kept old,⟨m,hns,λi x v e1 e2 e3=>?_⟩,λx c e=>?_,I.hok.fresh leC,λx c e=>(up _ _ e).elim (λz=>I.freeC x c z) λz=>I.hok.fresh (Yh leC (YM z.1)),λp hp=>?_,I.hok.kept old,?_⟩
 ·have e2':(ZbM js σ)[i]?=some (some v):=e2
  unfold ZbM at e2'
  rw[YF]at e2'
  cases q:js[i]? with
  |none=>rw[q]at e2';cases e2'
  |some j0 =>
   cases j0 with
   |none=>rw[q]at e2';cases e2'
   |some j =>
    rw[q]at e2'
    simp only[Option.map_some,Option.some.injEq]at e2'
    have e4:σ[j]?=some (some v):=by
     cases z:σ[j]? with
     |none=>rw[z]at e2';cases e2'
     |some o=>rw[z]at e2';simp only[Option.join_some]at e2';rw[e2']
    obtain⟨y,y1,y2,y3⟩:=Zgb htk q
    rw[Nat.zero_add]at y1
    have:x=y:=Yz ((show Nc[i]?=some x from e1).symm.trans y1)
    subst this
    have hm:=lookup_mem y3
    obtain⟨c,c1,c2⟩:=hfr _ hm rfl
    have hk:=(Zez hok _ hm rfl).2
    obtain⟨m0,hn0,hl0⟩:=I.loc
    obtain⟨u,r,l⟩:=hl0 j x v y2 e4 (hk.elim (λz=>.inr (.inl z)) λz=>.inr (.inr z))
    refine⟨u,r,.inr ⟨?_,c,c1,?_⟩⟩
    ·rcases e3 with z|z|z
     ·obtain⟨k',w1,w2⟩:=Zbr (show(scope.names.map _).lookup x=some NameKind.local from z)
      rw[y3]at w1;cases w1
      rcases w2 with w|w
      ·cases w
      ·cases w.2
     ·exact .inl z
     ·exact .inr z
    ·rcases l with⟨lk,_⟩|⟨_,c',c3,c4⟩
     ·rcases hk with z|z
      ·rw[show X.env.kindOf x=some .cell from z]at lk;cases lk
      ·rw[show X.env.kindOf x=some .free from z]at lk;cases lk
     ·rw[c2]at c3;cases c3
      obtain⟨oc,w1,w2⟩:=c4
      exact⟨oc,old _ _ w1,w2⟩
 ·rcases up _ _ e with z|z
  ·obtain⟨v,oc,w1,w2⟩:=I.cell x c z
   exact⟨v,oc,old _ _ w1,w2⟩
  ·exact⟨_,z.2⟩
 ·have:p=(D,oD):=by
   have hp':p∈([]++[(D,oD)]:List (Addr×Obj)):=hp
   simpa using hp'
  subst this
  refine⟨hoD,I.hok.fresh leD,(by show D≠C;rw[hD,hC];exact Yn (Nat.lt_succ_self _)),λhb=>?_,hdD⟩
  have hb':D∈frs X.stack:=hb
  obtain⟨_,o,ho,_⟩:=I.stack.mem hb'
  exact absurd (Yt (Yj ho) leD) (YA _)
 ·have:=Zew htk
  show(ZbM js σ).length=Nc.length
  unfold ZbM;rw[Yf];omega
theorem Zlo {pins:List (Addr×Obj)}{σ:St}{H:Hp}{s:Shared}{tg elt iter:Expr}{ifs:List Expr}{scope:Scope}{pos:Pos}{wi:TI}{g:TG}{tt:TT}{te:TE}{Nc:List Str}{js:List (Option Nat)}{use:Option (Value->Sem Unit)}{Q:VK}{QQ:Value->Shared->Prop}
  (hc:X.calm=true) (hok:ZbO X.env.scope scope=true) (htk:takesC X.N Nc scope js 0=true) (hi:PI X tg iter wi)
  (hg:∀cl C s2 H2 fp,PG (Za8 X Nc scope cl C s2 H2 fp) tg g) (ht:∀cl C s2 H2 fp,Zp1 (Za8 X Nc scope cl C s2 H2 fp) ifs tt) (he:∀cl C s2 H2 fp,PE (Za8 X Nc scope cl C s2 H2 fp) elt te)
  (hs:∀x,foldedSetIterable iter X.env x=pure x) {L:List Nat} (ho:Zlf g L) (hL:(L.all λk=>js[k]?==some none)=true) (I:Inv X pins σ H s) (h:Zpm wi g tt te js σ H Q)
  (fin:∀(D C:Addr) (H' H2:Hp) (s2 s':Shared) (xs:List V) (m:Str->Option Value),Inv X pins σ H2 s2->H' C=none->C=D+1->D=s2.heap.objs.size->s'.heap.Ns C m->(∀h',Heap.SameBut C s'.heap h'->Inv X pins σ (upd H' D (.lst xs)) {s' with heap:=h'})->Q (.ref D) (upd H' D (.lst xs)) ->
   compPost (model X.prog X.w) X.A X.xe use QQ (.ref D) C (.ok .next) s') :
  wpAny (model X.prog X.w) X.A (comprehension (.ListComp elt [⟨tg,iter,ifs,0⟩] scope pos) scope X.env (firstIterPos [⟨tg,iter,ifs,0⟩] pos) (newList []) false (eval iter X.env) use) QQ X.xe s:=by
 have hcells:∀y∈scope.names,y.2=.free->∃c,X.env.cells.lookup y.1=some c:=λy hy hf=>I.ok.has y.1 (Zez hok y hy hf).2
 obtain⟨cl,hcl,upM,hfr0⟩:=ZmZ hcells
 have hk:=Zhp hok
 refine wpAny_comprehension_free (use:=use) rfl hs hcl hk (ZkS hok) (thn (hi pins s σ H _ I h) λv s1 h1=>thn h1 λitv s2 h2=>?_)
 obtain⟨it,fp,tn,J,H2,e,I2,T,st2,f2,W,⟨m0,w0⟩,turn⟩:=h2
 subst e
 have clt:∀p∈cl,p.2<s2.heap.objs.size:=λp hp=>by
  obtain⟨v,q⟩:=I2.cell p.1 p.2 (upM p hp)
  exact q.lt
 refine wpAny_newObj_type (Zos (λp hp=>?_) λcs h₁ CO=>?_)
 ·show p.2<(s2.heap.push _).objs.size
  rw[Heap.size_push];exact YN (clt p hp)
 dsimp only at CO⊢
 generalize hH2:s2.heap.push {cls:=.type "list",dict:=none,data:=.seq ([]:List Value).toArray}=HH at CO⊢
 have hC:HH.objs.size=s2.heap.objs.size+1:=by rw[<-hH2,Heap.size_push]
 have hcl':∀p∈cl,p.2<HH.objs.size:=λp hp=>by rw[hC];exact YN (clt p hp)
 have hns₁:h₁.Ns HH.objs.size (λ_=>none):=⟨_,#[],_,CO.old _ _ (Yk _ rfl),rfl,λe he=>absurd he (by simp),λn=>rfl⟩
 have up:∀x c,cs.lookup x=some c->X.env.cells.lookup x=some c\/(HH.objs.size<c/\h₁.IsCell c none):=λx c e=>by
  rcases CO.mem _ (PySem.mem_of_lookup e)with z|z
  ·exact .inl (upM _ z)
  ·exact .inr ⟨z.1,z.2.2⟩
 have hinj:∀x y c,cs.lookup x=some c->cs.lookup y=some c->x=y:=λx y c e1 e2=>by
  have m1:=PySem.mem_of_lookup e1
  have m2:=PySem.mem_of_lookup e2
  rcases CO.mem _ m1 with z|z
  ·rcases CO.mem _ m2 with z'|z'
   ·exact I2.ok.inj x y c (upM _ z) (upM _ z')
   ·exact absurd (hcl' _ z) (Nat.not_lt_of_le (Nat.le_of_succ_le z'.1))
  ·exact CO.inj _ m1 _ m2 z.1 rfl
 have hfr:∀y∈scope.names,y.2=.free->∃c,cs.lookup y.1=some c/\X.env.cells.lookup y.1=some c:=λy hy hf=>by
  obtain⟨c,q1,q2⟩:=hfr0 y hy hf
  refine⟨c,?_,q2⟩
  rw[CO.oth y.1 λy' hy' hc' z=>?_]
  ·exact q1
  ·have w1:=Zl4 hok y' hy' hc'
   have w2:=(Zez hok y hy hf).1
   rw[z,w2]at w1;cases w1
 have hfl:∀b∈fp,b<s2.heap.objs.size:=λb hb=>by
  obtain⟨o,ho,_⟩:=T.obj 0 _ st2 b hb
  exact Yj ho
 have hDC:s2.heap.objs.size≠HH.objs.size:=by rw[hC];exact Yn (Nat.lt_succ_self _)
 have old:∀b o,s2.heap.get? b=some o->h₁.get? b=some o:=λb o e=>CO.old b o (Yg _ (hH2▸Yg _ e))
 have hacc:h₁.get? s2.heap.objs.size=some {cls:=.type "list",dict:=none,data:=.seq ([]:List Value).toArray}:=CO.old _ _ (Yg _ (hH2▸Yk _ rfl))
 have I4:=Zm0 (Nc:=Nc) (js:=js) (tk:=s2.toks) I2 hok htk up hinj (λy hy hc=>CO.own y hy hc) hfr f2 hfl rfl hC old hns₁ hacc (by intro v z;cases z)
 have st4:tn 0 h₁:=T.keep _ _ _ st2 λb _ o e=>old b o e
 generalize hXc:Za8 X Nc scope cs HH.objs.size s2 H2 fp=Xc at I4
 have hXA:Xc.A=X.A:=by rw[<-hXc];rfl
 have hXe:Xc.env=compEnvC scope cs HH.objs.size X.env:=by rw[<-hXc];rfl
 have hXp:Xc.prog=X.prog:=by rw[<-hXc];rfl
 have hXw:Xc.w=X.w:=by rw[<-hXc];rfl
 have hXx:Xc.xe=λ_ _=>False:=by rw[<-hXc];rfl
 have hXk:Xc.K=X.K:=by rw[<-hXc];rfl
 have hXcalm:Xc.calm=true:=by rw[<-hXc];exact hc
 have fpok:∀{pl:List (Addr×Obj)}{H':Hp},(∀p∈pl,s2.heap.objs.size<=p.1)->(∀b∈fp,H' b=none)->∀b∈fp,FpOk Xc pl H' b:=λ{pl H'} hpl hn b hb=>by
  have k1:b≠HH.objs.size:=Yn (by rw[hC];exact YN (hfl b hb))
  have k2:b∉frs X.stack:=λq=>by
   rcases Yl.mp (I2.ZhS b q)with z|z
   ·exact(f2 b hb).2.1 z
   ·exact(f2 b hb).2.2.1 z
  rw[<-hXc]
  refine⟨hn b hb,k1,k2,.inl hb,λx c e=>(up _ _ e).elim (λz=>(f2 b hb).2.2.2.2.1 x c z) λz=>Nat.ne_of_gt (Nat.lt_trans (by rw[hC];exact YN (hfl b hb)) z.1),λp hp=>?_⟩
  have hp':p∈pl:=by simpa[Za8,Zr1]using hp
  exact Nat.ne_of_gt (Yt (hfl b hb) (hpl p hp'))
 have gX:PG Xc tg g:=hXc▸hg cs HH.objs.size s2 H2 fp
 have tX:Zp1 Xc ifs tt:=hXc▸ht cs HH.objs.size s2 H2 fp
 have eX:PE Xc elt te:=hXc▸he cs HH.objs.size s2 H2 fp
 have hs0:Xc.s₀=s2:=by rw[<-hXc];rfl
 have hh0:Xc.H₀=H2:=by rw[<-hXc];rfl
 have hfs:Xc.fs=frs X.stack:=by rw[<-hXc];rfl
 have hex:Xc.ex=fp:=by rw[<-hXc];rfl
 have loop:codeAny (model X.prog X.w) X.A (.compLoop (.ListComp elt [⟨tg,iter,ifs,0⟩] scope pos) 0 (.ref it) (.ref s2.heap.objs.size) (compEnvC scope cs HH.objs.size X.env)) (compPost (model X.prog X.w) X.A X.xe use QQ (.ref s2.heap.objs.size) HH.objs.size)
   {s2 with heap:=h₁,toks:=s2.toks}:=by
  refine Zfj (λn s'=>∃i acc its nn H',Inv Xc [(s2.heap.objs.size,{cls:=.type "list",dict:=none,data:=.seq (its:List Value).toArray nn})] (ZbM js σ) H' s'/\Vals acc its/\acc.length<=sizeLine/\tn i s'.heap/\(∀b∈fp,H' b=none)/\W i n acc H') ?_ m0
   ⟨0,[],[],0,H2,I4,.nil,Ys _,st4,λb hb=>(f2 b hb).1,w0⟩
  rintro n s3 ⟨i,acc,its,nn,H3,I3,va,hlen,st3,fr3,w3⟩
  have pg:∀p∈([(s2.heap.objs.size,{cls:=.type "list",dict:=none,data:=.seq its.toArray nn})]:List (Addr×Obj)),s2.heap.objs.size<=p.1:=λp hp=>by
   simp only[Yl,List.not_mem_nil,or_false]at hp
   subst hp;exact Yd _
  rcases turn i n acc H3 w3 with⟨stop,hl,qn⟩|⟨go,hl,step⟩
  ·have q:=T.done Xc hXp hXw hXk hXcalm i _ s3 (ZbM js σ) H3 (λ_ _=>False) I3 (fpok pg fr3) st3 stop
   rw[hXA]at q
   refine thn q λr s4 ⟨hr,I5⟩=>?_
   subst hr
   have hpin:=I5.pin _ (Yv _ (.head _))
   obtain⟨m5,hn5,_⟩:=I5.loc
   rw[hXe]at hn5
   refine fin _ _ H3 H2 s2 s4 acc m5 I2 (by have:=I5.free;rw[hXe]at this;exact this) hC rfl hn5 (λh' hsb=>?_) (qn _ hpin.2.1)
   have same:∀b o,b≠HH.objs.size->s4.heap.get? b=some o->h'.get? b=some o:=λb o hb e=>hsb.extBut b o hb e
   have un:=I5.base
   rw[hfs,hex,hh0,hs0]at un
   have lt:∀b o,s2.heap.get? b=some o->b<s2.heap.objs.size:=λb o e=>Yj e
   have neC:∀b o,s2.heap.get? b=some o->b≠HH.objs.size:=λb o e=>Yn (by rw[hC];exact YN (lt b o e))
   have neD:∀b o,s2.heap.get? b=some o->b≠s2.heap.objs.size:=λb o e=>Yn (lt b o e)
   have trkC:∀b o,H3 b=some o->b≠HH.objs.size:=λb o e z=>by
    have:=I5.free;rw[hXe]at this;rw[z,show H3 HH.objs.size=none from this]at e;cases e
   refine I2.call' (s':={s4 with heap:=h'}) (ch:=fp) (I5.os.trans (by rw[hs0])) ⟨λb o e n hb hx=>same _ _ (neC b o e) (un.keep b o e n hb hx),λb o e n hb hx=>?_,λb o e n hx=>by rw[Zh (neD b o e)];exact un.free b o e n hx,λb o e hx=>?_,λb xs e=>?_,λb o u e=>?_,λb ps e=>?_⟩ (λa o e=>?_) I5.bare λb hb=>⟨(f2 b hb).2.2.2.1,(f2 b hb).2.1,(f2 b hb).2.2.2.2.1,(f2 b hb).2.2.2.2.2⟩
   ·obtain⟨sl,z⟩:=un.slot b o e n hb hx
    exact⟨sl,same _ _ (neC b o e) z⟩
   ·obtain⟨o',z⟩:=un.there b o e hx
    exact⟨o',same _ _ (neC b o e) z⟩
   ·rw[Zh (Yn (I2.hok.lt e))];exact un.tups b xs e
   ·rw[Zh (Yn (I2.hok.lt e))];exact un.frzs b o u e
   ·obtain⟨more,z⟩:=un.tbls b ps e
    exact⟨more,by rw[Zh (Yn (I2.hok.lt e))];exact z⟩
   ·by_cases ha:a=s2.heap.objs.size
    ·subst ha
     rw[Zb]at e;cases e
     exact⟨hl,its,nn,va,same _ _ hDC hpin.1⟩
    ·rw[Zh ha]at e
     have q:=I5.hok a o e
     rw[hXp,hXw]at q
     refine q.Zjs (λb u hb z=>same b u ?_ z) (λb z=>by rw[Zh];exact z;intro y;subst y;rw[hpin.2.1]at z;cases z) (λb xs z=>by rw[Zh];exact z;intro y;subst y;rw[hpin.2.1]at z;cases z) λb o u z=>by rw[Zh];exact z;intro y;subst y;rw[hpin.2.1]at z;cases z
     rcases hb with hb|hb
     ·subst hb;exact trkC _ _ e
     ·exact trkC _ _ hb
  ·have q:=T.item Xc hXp hXw hXk hXcalm i _ s3 (ZbM js σ) H3 (λ_ _=>False) I3 (fpok pg fr3) st3 go
   rw[hXA]at q
   refine thn q λr s4 ⟨u,hr,h4⟩=>?_
   subst hr
   refine thn h4 λ_ s5 ⟨x,H5,I5,r5,y5,st5,fr5⟩=>?_
   have I5':=I5.pinned (fpok pg fr5) (T.obj _ _ st5)
   have again:∀{σ7:St}{H7:Hp}{s7:Shared}{acc7:List V}{its7:List Value}{n7:Nat}{m:Nat},Inv Xc ([(s2.heap.objs.size,{cls:=.type "list",dict:=none,data:=.seq its7.toArray n7})]++Zff fp s5.heap) σ7 H7 s7->Vals acc7 its7->acc7.length<=sizeLine->W (i+1) m acc7 H7->σ7.length=(ZbM js σ).length->(∀(k:Nat) v,(ZbM js σ)[k]?=some (some v)->σ7[k]?=some (some v)) ->
     ∃i acc its nn H',Inv Xc [(s2.heap.objs.size,{cls:=.type "list",dict:=none,data:=.seq (its:List Value).toArray nn})] (ZbM js σ) H' s7/\Vals acc its/\acc.length<=sizeLine/\tn i s7.heap/\(∀b∈fp,H' b=none)/\W i m acc H':=λ{σ7 H7 s7 acc7 its7 n7 m} I7 v7 l7 w7 hl7 hw7=>by
    refine⟨i+1,acc7,its7,n7,H7,(I7.weak hl7.symm hw7).Zfg,v7,l7,T.keep _ _ _ st5 λb hb o e=>(I7.pin (b,o) (Yv _ (Yv _ (Zes hb e)))).1,λb hb=>?_,w7⟩
    obtain⟨o,e,d⟩:=T.obj _ _ st5 b hb
    exact(I7.pin (b,o) (Yv _ (Yv _ (Zes hb e)))).2.1
   have keep:∀{σ6:St},ZdI L (ZbM js σ) σ6->σ6.length=(ZbM js σ).length/\∀(k:Nat) v,(ZbM js σ)[k]?=some (some v)->σ6[k]?=some (some v):=λ{σ6} hk=>⟨hk.1,λk v e=>by
    rw[hk.2 k]
    ·exact e
    ·intro z
     have q:=List.all_eq_true.mp hL k z
     simp only[beq_iff_eq]at q
     unfold ZbM at e
     rw[YF,q]at e
     cases e⟩
   have q6:=gX _ s5 (ZbM js σ) H5 x u _ I5' r5 (ho _ _ _ _ _ (fun σ' H' kk z=>And.intro kk z) (step x H5 y5))
   rw[hXe,hXA,hXp,hXw,hXx]at q6
   refine thn q6 λ_ s6 ⟨σ6,H6,I6,k6,q6⟩=>?_
   obtain⟨kl,kv⟩:=keep k6
   have q7:=tX _ s6 σ6 H6 _ I6 q6
   rw[hXe,hXA,hXp,hXw,hXx]at q7
   refine thn q7 λb s7 ⟨H7,I7,q7⟩=>?_
   cases b with
   |false =>
    obtain⟨m',hm,w7⟩:=q7
    exact⟨m',hm,again I7 va hlen w7 kl kv⟩
   |true =>
    have q8:=eX _ s7 σ6 H7 _ I7 q7
    rw[hXe,hXA,hXp,hXw,hXx]at q8
    refine thn q8 λy s8 ⟨v8,H8,I8,r8,m',hm,w8⟩=>?_
    have pinD:=I8.pin _ (Yv _ (YT _ (.head _)))
    have hnf:∀p∈Zff fp s5.heap,p.1≠s2.heap.objs.size:=λp hp=>by
     obtain⟨z,_⟩:=Zk9 hp
     exact Yn (hfl _ z)
    have va':=va.length
    refine call_meets F.slot_list_append ⟨_,pinD.1,rfl⟩ F.entry_list_append (F.args_list_append_2 _ _) (PySem.list_append s2.heap.objs.size its.toArray nn y (by rw[Yp];omega)) ⟨pinD.1,?_⟩
    have e9:=PySem.IsL.update pinD.1 (λa=>a.push y)
    have e9':its.toArray.push y=(its++[y]).toArray:=by simp
    dsimp only at e9
    rw[e9']at e9
    have I8':Inv Xc (Zff fp s5.heap) σ6 H8 s8:=I8.ZbK λp hp=>I8.pin p (Yv _ (Yv _ hp))
    have hXpn:Xc.pn=[]:=by rw[<-hXc];rfl
    have hXs:s2.heap.objs.size∉frs X.stack:=by rw[<-hfs];exact pinD.2.2.2.1
    have I9:=I8'.turned (t':=s8.toks) (it:=s2.heap.objs.size) (h':=s8.heap.update s2.heap.objs.size (Obj.mapSeq λa=>a.push y)) (λb o hb e=>(Heap.get?_update_other s8.heap _ (Ne.symm hb)).trans e) pinD.2.1 pinD.2.2.1
     (.inr (by rw[hs0];exact Yd _)) (λx c e=>by
      rw[hXe]at e
      intro z
      rcases up _ _ e with y|y
      ·obtain⟨v,q⟩:=I2.cell x c y
       exact absurd q.lt (by rw[z];exact YA _)
      ·have:=y.1
       rw[z,hC]at this
       exact absurd this (Nat.not_lt_of_le (YZ _))) (λp hp=>by rw[hXpn,List.nil_append]at hp;exact hnf p hp)
    have I10:=I9.ZbK (pins':=[(s2.heap.objs.size,{cls:=.type "list",dict:=none,data:=.seq (its++[y]).toArray _})]++Zff fp s5.heap) λp hp=>by
     rcases YC.mp hp with z|z
     ·simp only[Yl,List.not_mem_nil,or_false]at z
      subst z
      exact⟨e9,pinD.2.1,pinD.2.2.1,pinD.2.2.2.1,by intro v z;cases z⟩
     ·exact I9.pin p (Yv _ z)
    exact⟨m',hm,again I10 (va.append (.cons r8 .nil)) (by rw[YL,List.length_singleton];omega) w8 kl kv⟩
 exact codeAny_compStart_list loop (T.self _ 0 _ _ _ st4 loop)
theorem Zec {tg elt iter:Expr}{ifs:List Expr}{scope:Scope}{pos:Pos}{wi:TI}{g:TG}{tt:TT}{te:TE} (Nc:List Str) (js:List (Option Nat)) {L:List Nat}
  (hc:X.calm=true) (hok:ZbO X.env.scope scope=true) (htk:takesC X.N Nc scope js 0=true) (hi:PI X tg iter wi)
  (hg:∀cl C s2 H2 fp,PG (Za8 X Nc scope cl C s2 H2 fp) tg g) (ht:∀cl C s2 H2 fp,Zp1 (Za8 X Nc scope cl C s2 H2 fp) ifs tt) (he:∀cl C s2 H2 fp,PE (Za8 X Nc scope cl C s2 H2 fp) elt te)
  (ho:Zlf g L) (hL:(L.all λk=>js[k]?==some none)=true:=by rfl) (hs:∀x,foldedSetIterable iter X.env x=pure x:=by intro _;rfl):PE X (.ListComp elt [⟨tg,iter,ifs,0⟩] scope pos) (Zpm wi g tt te js):=by
 intro pins s σ H Q I h
 rw[eval_ListComp]
 exact Zlo (use:=none) hc hok htk hi hg ht he hs ho hL I h λD C H' H2 s2 s' xs m I2 hHC e1 e2 hn hI q=>⟨m,hn,λh' hsb=>⟨.ref D,_,hI h' hsb,rfl,q⟩⟩
theorem Zak {i:Nat}{x:Str}{pos' spos:Pos}{tg elt iter:Expr}{ifs:List Expr}{scope:Scope}{pos:Pos}{wi:TI}{g:TG}{tt:TT}{te:TE} (Nc:List Str) (js:List (Option Nat)) {L:List Nat}
  (hN:X.N.Nodup) (hxi:X.N[i]?=some x) (hx:Loc X.env.scope x)
  (hc:X.calm=true) (hok:ZbO X.env.scope scope=true) (htk:takesC X.N Nc scope js 0=true) (hi:PI X tg iter wi)
  (hg:∀cl C s2 H2 fp,PG (Za8 X Nc scope cl C s2 H2 fp) tg g) (ht:∀cl C s2 H2 fp,Zp1 (Za8 X Nc scope cl C s2 H2 fp) ifs tt) (he:∀cl C s2 H2 fp,PE (Za8 X Nc scope cl C s2 H2 fp) elt te)
  (ho:Zlf g L) (hL:(L.all λk=>js[k]?==some none)=true:=by rfl) (hs:∀x,foldedSetIterable iter X.env x=pure x:=by intro _;rfl)
  (hsw:swapsWith (.ListComp elt [⟨tg,iter,ifs,0⟩] scope pos) (some (.Name x pos')) spos.line X.env=pure true:=by rfl)
  (hf:X.fn x=true\/X.env.scope.names.lookup x=some .local:=by first|exact .inl rfl|exact .inr rfl|assumption) :
  PS X (.Assign [.Name x pos'] (.ListComp elt [⟨tg,iter,ifs,0⟩] scope pos) spos) (tAsg (Zpm wi g tt te js) (Zju i)):=by
 intro pins s σ H D I h
 rw[exec_Assign_Name_used _ _ _ _ hsw]
 refine Ya (wpAny_standAt (Ya ?_))
 show wpAny _ _ (comprehension _ _ _ _ _ _ _ _ >>= _) _ _ _
 refine Ya (thn (Q:=λ_ s'=>∃σ' H',Inv X pins σ' H' s'/\D.nx σ' H') (Zlo (Q:=λv H1=>Zju i v σ H1 D.nx) (use:=some (assign (.Name x pos') X.env)) hc hok htk hi hg ht he hs ho hL I h ?_) λ_ s' ⟨σ',H',I',q⟩=>Ye (Ye ⟨σ',H',I',q⟩))
 intro D' C H' H2 s2 s' xs m I2 hHC e1 e2 hn hI q
 obtain⟨oC,es,ep,hoC,hdC,hrest⟩:=id hn
 have leC:s2.heap.objs.size<=C:=by rw[e1,e2];exact YZ _
 have ltC:s2.heap.objs.size<C:=by rw[e1,e2];exact Nat.lt_succ_self _
 have neDC:C≠D':=by rw[e2];exact Nat.ne_of_gt ltC
 have fresh:s2.heap.get? C=none:=by
  cases e:s2.heap.get? C with
  |none=>rfl
  |some o=>exact absurd (Yt (Yj e) leC) (YA _)
 have neL:C≠X.env.locals:=Nat.ne_of_gt (Yt I2.lt leC)
 have nfs:C∉X.fs:=I2.nofs leC
 have ncl:∀x c,X.env.cells.lookup x=some c->c≠C:=λx c e z=>by
  obtain⟨v,q⟩:=I2.cell x c e
  exact absurd (Yt q.lt leC) (by rw[z];exact YA _)
 have npn:∀p∈X.pn++pins,p.1≠C:=λp hp z=>by
  have:=(I2.pin p hp).1
  rw[z,fresh]at this;cases this
 have hH:(upd H' D' (HO.lst xs)) C=none:=by rw[Zh neDC];exact hHC
 have I0:=hI s'.heap ZlX
 have I1:Inv X (pins++[(C,oC)]) σ (upd H' D' (.lst xs)) s':=I0.ZbK λp hp=>by
  rcases YC.mp hp with z|z
  ·exact I0.pin p (Yv _ z)
  ·simp only[Yl,List.not_mem_nil,or_false]at z
   subst z
   exact⟨hoC,hH,neL,nfs,λv z=>by rw[hdC]at z;cases z⟩
 show wpAny _ _ _ _ _ _
 refine thn (Zk (X:=X) (i:=i) hN hxi hx hf (pins++[(C,oC)]) s' σ _ (.ref D') (.ref D') _ I1 rfl q) λ_ s3 ⟨σ3,H3,I3,q3⟩=>?_
 have pC:=I3.pin (C,oC) (Yv _ (Yv _ (.head _)))
 refine⟨m,⟨oC,es,ep,pC.1,hdC,hrest⟩,λh' hsb=>⟨σ3,H3,?_,q3⟩⟩
 exact I3.Zfg.turned (t':=s3.toks) (it:=C) (λb o hb e=>hsb.extBut b o hb e) pC.2.1 neL (.inr (Yh I2.sz leC)) ncl npn
end
end L2
namespace L2
open PySem PySem.Spec PyProof.Rows PySem.W
noncomputable def CF (n:Nat) (P:Nat->Bool) (vals:Nat->V) (H1:Hp) (i m:Nat) (acc:List V) (H:Hp):Prop:=m=n-i/\i<=n/\acc=((List.range i).filter P).map vals/\Zf H1 H
theorem CF.take {n:Nat}{P:Nat->Bool}{vals:Nat->V}{H1 H:Hp}{i:Nat}{v:V} (hi:i<n) (hP:P i=true) (hv:v=vals i) (s:Zf H1 H):∃m',m'<n-i/\CF n P vals H1 (i+1) m' (((List.range i).filter P).map vals++[v]) H :=
 ⟨n-(i+1),by omega,rfl,hi,by rw[YQ,List.filter_append,YU,hv];simp[hP],s⟩
theorem CF.skip {n:Nat}{P:Nat->Bool}{vals:Nat->V}{H1 H:Hp}{i:Nat} (hi:i<n) (hP:P i=false) (s:Zf H1 H):∃m',m'<n-i/\CF n P vals H1 (i+1) m' (((List.range i).filter P).map vals) H :=
 ⟨n-(i+1),by omega,rfl,hi,by rw[YQ,List.filter_append,YU];simp[hP],s⟩
theorem Zed {J:It}{n:Nat}{H1:Hp}{g:TG}{tt:TT}{te:TE}{σ0:St}{Q:VK} (P:Nat->Bool) (vals:Nat->V) (hn:n<sizeLine) (hgo:∀i H,Zf H1 H->i<n->J.go i H) (hstop:∀H,Zf H1 H->J.stop n H)
  (hb:∀i x H H',i<n->Zf H1 H->J.yld i H x H'->g x σ0 H' fun σ2 H2=>tt σ2 H2 λb H3=>if b=true then te σ2 H3 λv H4=>∃m',m'<n-i/\CF n P vals H1 (i+1) m' (((List.range i).filter P).map vals++[v]) H4 else ∃m',m'<n-i/\CF n P vals H1 (i+1) m' (((List.range i).filter P).map vals) H3)
  (hk:∀l H',Zf H1 H'->H' l=none->Q (.ref l) (upd H' l (.lst (((List.range n).filter P).map vals)))) :
  ZmT J g tt te σ0 Q H1:=by
 refine⟨CF n P vals H1,⟨n,rfl,Ys _,rfl,Zf.refl _⟩,?_⟩
 rintro i m acc H ⟨rfl,hi,rfl,s⟩
 have hlen:(((List.range i).filter P).map vals).length<=n:=by
  rw[Yf]
  have:=Y9 P (List.range i)
  rw[Y2]at this
  omega
 by_cases h:i<n
 ·exact .inr ⟨hgo i H s h,by omega,λx H' y=>hb i x H H' h s y⟩
 ·have:i=n:=by omega
  subst this
  exact .inl ⟨hstop H s,by omega,λp hp=>hk p H s hp⟩
theorem Zm1 {ns T:List Int}{g:Nat->Int} (hT:Zi ns T) (hg:∀q p,q<ns.length->p<ns.length->Over (nth ns) q p->(q<p->g q<=g p)/\(p<q->g q<g p)):∀p,p<ns.length->ZF g ns.length p (T.getD p 0):=by
 intro p hp
 have pv:∀q,Zaf (nth ns) p q->Zaf g p q:=λq h=>by
  refine⟨h.1,(hg q p (by have:=h.1;omega) hp (.inl ⟨h.1,λr r1 r2=>?_⟩)).1 h.1,λr r1 r2=>(hg p r hp (by omega) (.inr ⟨r2,λs s1 s2=>h.2.2 s (by omega) s2⟩)).2 r2⟩
  by_cases z:r=p
  ·rw[z];exact h.2.1
  ·have:=h.2.2 r r1 (by omega);have:=h.2.1;omega
 have nx:∀r,Zac (nth ns) ns.length p r->Zac g ns.length p r:=λq h=>by
  refine⟨h.1,h.2.1,(hg q p h.2.1 hp (.inr ⟨h.1,λr r1 r2=>?_⟩)).2 h.1,λs s1 s2=>(hg p s hp (by have:=h.2.1;omega) (.inl ⟨s1,λr r1 r2=>h.2.2.2 r r1 (by omega)⟩)).1 s1⟩
  by_cases z:r=p
  ·rw[z];exact h.2.2.1
  ·have:=h.2.2.2 r (by omega) r2;have:=h.2.2.1;omega
 have np:ZcE (nth ns) p->ZcE g p:=λh q hq=>(hg p q hp (by omega) (.inr ⟨hq,λr r1 r2=>h r r2⟩)).2 hq
 have nn:ZbN (nth ns) ns.length p->ZbN g ns.length p:=λh r r1 r2=>(hg p r hp r2 (.inl ⟨r1,λs s1 s2=>h s s1 (by omega)⟩)).1 r1
 have hE:ZF (nth ns) ns.length p (T.getD p 0):=hT.2 p hp
 rcases hE with⟨h1,h2,h⟩|⟨q,h1,h2,h⟩|⟨r,h1,h2,h⟩|⟨q,r,h1,h2,h⟩
 ·exact .inl ⟨np h1,nn h2,h⟩
 ·exact .inr (.inl ⟨q,pv q h1,nn h2,h⟩)
 ·exact .inr (.inr (.inl ⟨r,np h1,nx r h2,h⟩))
 ·refine .inr (.inr (.inr ⟨q,r,pv q h1,nx r h2,?_⟩))
  rw[h]
  have hq:q<ns.length:=by have:=h1.1;omega
  have hqr:q<r:=by have:=h1.1;have:=h2.1;omega
  by_cases z:nth ns q<=nth ns r
  ·have:=(hg q r hq h2.2.1 (.inl ⟨hqr,λs s1 s2=>by
    by_cases y:s=r
    ·rw[y];exact z
    ·by_cases y2:s=p
     ·rw[y2];exact h1.2.1
     ·have:=h1.2.1
      by_cases y3:s<p
      ·have:=h1.2.2 s s1 y3;omega
      ·have:=h2.2.2.2 s (by omega) (by omega);omega⟩)).1 hqr
   rw[Yc z,Yc (by omega)]
  ·have:=(hg r q h2.2.1 hq (.inr ⟨hqr,λs s1 s2=>by
    have:=h1.2.1;have:=h2.2.2.1
    by_cases y:s=q
    ·rw[y];omega
    ·by_cases y2:s=p
     ·rw[y2];omega
     ·by_cases y3:s<p
      ·have:=h1.2.2 s (by omega) y3;omega
      ·have:=h2.2.2.2 s (by omega) (by omega);omega⟩)).2 hqr
   rw[Yb z,Yb (by omega)]
end L2
namespace HT
open PySem PyProof.Rows
section
open PySem.SeqAt
open PySem.AutoSeq1 (wpAny_loadPart')
open PySem.MeetsSeq PySem.MeetsSeq2 PySem.MeetsSeq3
variable {prog:Program}{w:World}{A:Around}{E:Value->Shared->Prop}{s:Shared}
theorem Zhq {t sl:Addr}{items:Array Value}{vl vu:Value}{lo hi:Option Int}{Q:Value->Shared->Prop} (ht:IsTup s.heap t items) (hs:s.heap.IsSliceOf sl vl vu .none) (pl:IsPart vl lo) (pu:IsPart vu hi)
  (hw:sIx items.size 0 lo=0/\sIx items.size items.size hi=items.size) (h:Q (.ref t) s):wpAny (model prog w) A (getItem (.ref t) (.ref sl)) Q E s:=by
 obtain⟨os,hos,hcs,hds⟩:=id hs
 have hTs:s.TypeIs (.ref sl) "slice":=⟨os,hos,hcs⟩
 unfold getItem
 try with_reducible refine wpAny_holding ?_
 first|refine Ya (Ye ?_)|skip
 refine Ya (wpAny_sequenceKey ht.typeIs (by decide) ?_)
 refine Ya (wpAny_callSpecial?_slot (name:=Str.ofString "__getitem__") ht.typeIs PyProof.Rows.slot_tuple_getitem
  (wpAny_call_entry PyProof.Rows.slot_tuple_getitem ht.typeIs entry_tuple_getitem ?_ (args_tuple_getitem _ _)))
 show wpAny _ _ (Builtin.Tuple.tupleItemsOf (.ref t) >>= _) _ _ s
 refine Ya (tupleItemsOf_ ht ?_)
 refine Ya (wpAny_typeOf hTs ?_)
 rw[Yc (by decide)]
 refine Ya (Zd9 hs pl pu ?_)
 have hyes:(((sIx items.size 0 lo:Nat):Int)==0&&(1:Int)==1&&(sIx items.size items.size hi-sIx items.size 0 lo)==items.size)=true:=by
  rw[hw.1,hw.2];simp
 show wpAny _ _ (if (((sIx items.size 0 lo:Nat):Int)==0&&(1:Int)==1&&(sIx items.size items.size hi-sIx items.size 0 lo)==items.size)=true then _ else _) _ _ s
 rw[Yc hyes]
 refine Ya ?_
 unfold Builtin.Tuple.tupleIsExact
 refine Ya (wpAny_typeOf ht.typeIs (Ye ?_))
 rw[Yc (by decide)]
 refine Ya (wpAny_rule ?_)
 first
  |exact Ye ⟨_,rfl,Ye h⟩
  |exact Ya (Ye (Ye ⟨_,rfl,Ye h⟩))
  |exact Ya (Ye ⟨_,rfl,Ye h⟩)
end
end HT
namespace L2
open PySem PySem.Spec PyProof.Rows PySem.W
section
variable {X:Cx}
noncomputable def rSlQ (K:Frag):V->Option Int->Option Int->Hp->VK->Prop:=λx lo hi H Q=>∃a xs,x=.ref a/\((SqL K H a xs/\∀p,H p=none->Q (.ref p) (upd H p (.lst (Zai xs lo hi)))) \/
 (SqT K H a xs/\(HT.sIx xs.length 0 lo=0/\HT.sIx xs.length xs.length hi=xs.length->Q (.ref a) H)/\(¬ (HT.sIx xs.length 0 lo=0/\HT.sIx xs.length xs.length hi=xs.length)->∀p,H p=none->Q (.ref p) (upd H p (.tup (Zai xs lo hi))))))
theorem sl_q {K:Frag} (hK:X.K=K):SlR X (rSlQ K):=by
 subst hK
 intro pins s σ H x v vl vu lo hi sl Q I rx hs pl pu h
 obtain⟨a,xs,rfl,h|⟨hx,h1,h2⟩⟩:=h
 ·exact Zga pins s σ H _ v vl vu lo hi sl Q I rx hs pl pu ⟨a,xs,rfl,h⟩
 ·by_cases hw:HT.sIx xs.length 0 lo=0/\HT.sIx xs.length xs.length hi=xs.length
  ·cases rx
   obtain⟨its,r,ht,hz⟩:=I.tuple hx
   have hlen:its.toArray.size=xs.length:=by rw[Yp];exact r.length.symm
   refine⟨"tuple",_,PyProof.Rows.slot_tuple_getitem.lookup,ht.typeIs,?_⟩
   exact HT.Zhq ht hs pl pu (by rw[hlen];exact hw) ⟨.ref a,H,I,rfl,h1 hw⟩
  ·exact sl_tup pins s σ H _ v vl vu lo hi sl Q I rx hs pl pu ⟨a,xs,rfl,hx,hw,h2 hw⟩
end
theorem Zqh {xs:List V}{lo hi:Option Int} (h:HT.sIx xs.length 0 lo=0/\HT.sIx xs.length xs.length hi=xs.length):Zai xs lo hi=xs:=by
 unfold Zai
 rw[h.1,h.2];simp
theorem Zm2 (T:List Int):∀k a,(Zau T k a).length<k->Zau T (k+1) a=Zau T k a
 |0,_,h=>by omega
 |k+1,a,h=>by
  rw[Zau]at h⊢
  by_cases z:0<=a/\a<T.length
  ·rw[Yc z]at h⊢
   rw[Zm2 T k _ (by simpa using h),Zau,Yc z]
  ·rw[Yb z]at h⊢
   rw[Zau,Yb z]
noncomputable def way (T:List Int) (p:Nat):List Nat:=Zau T T.length (nth T p)
theorem Zjh {T:List Int}{p:Nat} (h:nth T p=-1):way T p=[]:=by
 unfold way
 rw[h]
 cases T.length with
 |zero=>rfl
 |succ k=>rw[Zau,Yb (by omega)]
theorem Zal {ns T:List Int} (hT:Zi ns T) {p q:Nat} (hp:p<ns.length) (h:nth T p=q):way T p=q::way T q:=by
 have hE:ZF (nth ns) ns.length p (q:Int):=h▸hT.2 p hp
 have hq:q<ns.length:=by
  rcases Zc1 hp hE with z|⟨q',e,z,_⟩<;>omega
 have hd:=Zh1 hp hE
 have hl:=Zor (f:=nth ns) hp
 unfold way
 rw[h,hT.1]
 obtain⟨k,hk⟩:∃k,ns.length=k+1:=⟨ns.length-1,by omega⟩
 rw[hk,Zau,Yc ⟨by omega,by rw[hT.1];omega⟩,show((q:Nat):Int).toNat=q by omega]
 rw[Zm2 T k (nth T q)]
 rw[(Zhl hT k q hq (by omega)).2]
 omega
theorem Zee (T:List Int) (p:Nat):Ze8 T p=(way T p).map λq=>((q:Nat):Int):=rfl
theorem ZU {ns T:List Int} (hT:Zi ns T) {p:Nat} (hp:p<ns.length):nth T p=-1\/∃q:Nat,nth T p=q/\q<ns.length/\Over (nth ns) q p/\dep (nth ns) ns.length p=dep (nth ns) ns.length q+1:=by
 rcases Zc1 hp (hT.2 p hp)with z|⟨q,e,hq,hO⟩
 ·exact .inl z
 ·have e':nth T p=(q:Int):=e
  have hE:ZF (nth ns) ns.length p (q:Int):=e'▸hT.2 p hp
  exact .inr ⟨q,e,hq,hO,Zh1 hp hE⟩
noncomputable def Zbh (T:List Int) (p:Nat):Nat:=((way T p).filter λo=>decide (p<o)).length
noncomputable def Zl (T:List Int):List Int:=(List.range T.length).map λp=>(Zbh T p:Int)
theorem ZcT (T:List Int):(Zl T).length=T.length:=by simp[Zl]
theorem Zbv {T:List Int}{p:Nat} (h:p<T.length):nth (Zl T) p=Zbh T p:=by simp[nth,Zl,Ym,h]
theorem Zef {P Q:Nat->Bool}{l:List Nat} (h:∀x∈l,P x=Q x):(l.filter P).length=(l.filter Q).length:=by
 rw[List.filter_congr h]
theorem Zam {ns T:List Int} (hT:Zi ns T) {p o:Nat} (hp:p<ns.length):o∈way T p↔o<ns.length/\Over (nth ns) o p:=by
 unfold way
 rw[hT.1]
 exact(Zhl hT ns.length p hp (YM (Zor hp))).1 o
theorem Zqi {f:Nat->Int}{o q p:Nat} (h:Over f o q) (k:Over f q p):(p<q->p<o->q<o)/\(q<p->q<o->p<o):=by
 refine⟨λh1 h2=>Nat.lt_of_not_le λz=>?_,λh1 h2=>Nat.lt_of_not_le λz=>?_⟩
 ·rcases h with⟨a,b⟩|⟨a,b⟩
  ·rcases k with⟨c,d⟩|⟨c,d⟩
   ·omega
   ·have:=d o (by omega) a;have:=b q a (Yd _);omega
  ·omega
 ·rcases h with⟨a,b⟩|⟨a,b⟩
  ·omega
  ·rcases k with⟨c,d⟩|⟨c,d⟩
   ·have:=d o h2 z;have:=b q (Yd _) a;omega
   ·omega
theorem Zh4 {ns T:List Int} (hT:Zi ns T) {p q:Nat} (hp:p<ns.length) (hq:q<ns.length) (h:nth T p=q) (hO:Over (nth ns) q p):Zbh T p=Zbh T q+if p<q then 1 else 0:=by
 unfold Zbh
 rw[Zal hT hp h,List.filter_cons]
 have e:((way T q).filter λo=>decide (p<o)).length=((way T q).filter λo=>decide (q<o)).length:=by
  refine Zef λo ho=>?_
  have ho':=((Zam hT hq).mp ho).2
  have hs:=Zqi ho' hO
  have hne:=hO.ne
  have hne2:=ho'.ne
  rw[Bool.eq_iff_iff,decide_eq_true_eq,decide_eq_true_eq]
  rcases Nat.lt_or_gt_of_ne hne with z|z
  ·exact⟨λy=>by omega,λy=>hs.2 z y⟩
  ·exact⟨λy=>hs.1 z y,λy=>by omega⟩
 by_cases z:p<q
 ·rw[Yc (by simpa using z),Yc z,Yo,e]
 ·rw[Yb (by simpa using z),Yb z,e,Nat.add_zero]
theorem Zhr {ns T:List Int} (hT:Zi ns T) {R:Nat->Nat->Prop} (h1:∀p q,p<ns.length->q<ns.length->nth T p=q->Over (nth ns) q p->R q p) (h2:∀o q p,Over (nth ns) o q->Over (nth ns) q p->R o q->R q p->R o p) :
  ∀d p o,p<ns.length->o<ns.length->dep (nth ns) ns.length p=d->Over (nth ns) o p->R o p:=by
 intro d
 induction d with
 |zero =>
  intro p o hp ho hd hO
  rcases ZU hT hp with z|⟨q,e,hq,hOq,hdq⟩
  ·exact absurd hO (Zgd hp ho (z▸hT.2 p hp))
  ·omega
 |succ d ih =>
  intro p o hp ho hd hO
  rcases ZU hT hp with z|⟨q,e,hq,hOq,hdq⟩
  ·exact absurd hO (Zgd hp ho (z▸hT.2 p hp))
  ·rcases(ZjJ hp ho (show ZF (nth ns) ns.length p (q:Int)from(show T.getD p 0=(q:Int)from e)▸hT.2 p hp)).mp hO with y|y
   ·rw[y];exact h1 p q hp hq e hOq
   ·exact h2 o q p y hOq (ih q o hq ho (by omega) y) (h1 p q hp hq e hOq)
theorem Zlp {ns T:List Int} (hT:Zi ns T) {p o:Nat} (hp:p<ns.length) (ho:o<ns.length) (hO:Over (nth ns) o p):Zbh T o<=Zbh T p/\(p<o->Zbh T o<Zbh T p):=by
 refine Zhr hT (R:=λo p=>Zbh T o<=Zbh T p/\(p<o->Zbh T o<Zbh T p)) (λp q hp hq e hO=>?_) (λo q p h1 h2 r1 r2=>?_) _ p o hp ho rfl hO
 ·have:=Zh4 hT hp hq e hO
  refine⟨by omega,λz=>?_⟩
  rw[Yc z]at this;omega
 ·refine⟨Yh r1.1 r2.1,λz=>?_⟩
  by_cases y:p<q
  ·have:=r2.2 y;have:=r1.1;omega
  ·have hne:=h2.ne
   have:=r1.2 (by omega);have:=r2.1;omega
section
variable {X:Cx}{pins:List (Addr×Obj)}{σ:St}{H:Hp}{s:Shared}{h':Heap}
theorem Inv.Zpv {t':Nat}{fp:List Addr}{T:Addr}{o:HO} (I:Inv X pins σ H s) (k:∀b u,b∉fp->s.heap.get? b=some u->h'.get? b=some u) (hf:∀b∈fp,FpOk X pins H b) (hT:s.heap.objs.size<=T) (new:ZY X.prog X.w (upd H T o) h' T o) :
  Inv X pins σ (upd H T o) {s with heap:=h',toks:=t'}:=by
 have nit:∀b u,H b=some u->b∉fp:=λb u e z=>by rw[(hf b z).1]at e;cases e
 have hfr:H T=none:=I.hok.fresh hT
 have neT:∀b u,s.heap.get? b=some u->b≠T:=λb u e z=>absurd (Yj e) (by rw[z];exact Nat.not_lt_of_le hT)
 have neH:∀b u,H b=some u->b≠T:=λb u e z=>by rw[z,hfr]at e;cases e
 refine I.step (g':=s.gens) (d':=s.drawn) (ch:=fp) (λb hb=>?_) (λb o _ _ hc e _=>k b o hc e) (λb o _ _ hc e _=>⟨o.slots,k b o hc e⟩) (λb u _ e n=>by rw[Zh (neT b u e)];exact n)
  (λb o hc e=>⟨o,k b o hc e⟩) (λb xs e=>by rw[Zh (neH b _ e)];exact e) (λb o u e=>by rw[Zh (neH b _ e)];exact e) (λb ps e=>⟨#[],by rw[Zh (neH b _ e),e];simp⟩) (λm hm=>?_) (λb u e=>?_) I.bare
 ·obtain⟨_,f1,_,f3,f4,f5⟩:=hf b hb
  exact⟨f3,f1,f4,f5⟩
 ·obtain⟨o,es,ep,ho,r⟩:=hm
  exact⟨o,es,ep,k _ o (λz=>(hf _ z).2.1 rfl) ho,r⟩
 ·by_cases z:b=T
  ·subst z
   rw[Zb]at e;cases e
   exact new
  ·rw[Zh z]at e
   refine(I.hok b u e).Zjs (λc v hc q=>k c v ?_ q) (λc q=>?_) (λc xs q=>?_) λc o u q=>?_
   ·rcases hc with y|y
    ·rw[y];exact nit b u e
    ·exact nit c _ y
   ·rw[Zh (neH _ _ q)];exact q
   ·rw[Zh (neH _ _ q)];exact q
   ·rw[Zh (neH _ _ q)];exact q
noncomputable def Ite (K : Frag) (a : Addr) : It :=
  ⟨fun i H => ∃ xs x, SqL K H a xs ∧ xs[i]? = some x,
   fun i H v H' => ∃ p x, H p = none ∧ v = .ref p ∧ H' = upd H p (.tup [.int (i : Int), x]) ∧ ∀ xs, SqL K H a xs → xs[i]? = some x,
   fun i H => ∃ xs, SqL K H a xs ∧ xs.length = i⟩
theorem Zlq {P:Program}{w:World}{K:Frag}{elts:List Expr} {x1}{pos:Pos}{a e it:Addr} (h1:e≠it) (h2:a≠e) (h3:a≠it) :
  Turn P w K (.Tuple elts x1 pos) (Ite K a) [e,it] e (λi h=>(∃old,IsEnum h e it (i:Int) old)/\h.IsListIter it a i) where
 mem:=by simp
 obj:=λi h st c hc=>by
  obtain⟨⟨old,q1⟩,⟨o4,q4,_,d4⟩⟩:=st
  simp at hc
  rcases hc with rfl|rfl
  ·exact⟨_,q1,λv z=>by cases z⟩
  ·exact⟨_,q4,λv z=>by rw[d4]at z;cases z⟩
 keep:=λi h h' st k=>by
  obtain⟨⟨old,q1⟩,q4⟩:=st
  exact⟨⟨old,k e (by simp) _ q1⟩,q4.at λo z=>k it (by simp) o z⟩
 item:=by
  intro X hP hw hK hc i pins s σ H E I hf st hg
  subst hP hw hK
  obtain⟨xs,x,qa,hx⟩:=hg
  obtain⟨is1,r1,p1,hz1⟩:=I.list qa
  obtain⟨u,hu,ru⟩:=r1.get hx
  have W:=WalksT.enumerate (prog:=X.prog) (w:=X.w) (I.ok.hd hc) e it a h1 h2 h3 is1.toArray
  have hi:i<is1.toArray.size:=by
   have:=(Yq.mp hu).1
   simpa using this
  refine W.item i s _ E hi ⟨st.1,st.2,p1.isList⟩ λT vals h' tk Pt hT hTup Mid keep=>⟨_,rfl,W.go elts x1 pos i T _ _ E Mid λh2' St2 keep2=>?_⟩
  obtain⟨t,y,hy,rfl⟩:=Pt
  have hyu:y=u:=by
   have:is1[i]?=some y:=by simpa using hy
   rw[hu]at this;exact(Yz this).symm
  subst hyu
  have nT:=W.apart i T h' Mid
  have hfr:H T=none:=I.hok.fresh hT
  have kk:∀b o,b∉[e,it]->s.heap.get? b=some o->h2'.get? b=some o:=λb o hb q=>keep2 b o hb (keep b o hb q)
  have nTe:∀c∈[e,it],c≠T:=λc hc z=>nT (z▸hc)
  refine⟨.ref T,_,Inv.Zpv (s:=s) (t':=tk) (o:=.tup [.int (i:Int),x]) I kk hf hT ?_,rfl,⟨T,x,hfr,rfl,rfl,λxs' q'=>?_⟩,⟨?_,St2.2.1⟩,λc hc=>?_⟩
  ·obtain⟨oT,q1,q2,n,q3⟩:=hTup
   exact⟨by show 2<=sizeLine;decide,[.int (i:Int) t,y],.cons ⟨t,rfl⟩ (.cons ru .nil),⟨oT,keep2 T oT nT q1,q2,n,q3⟩⟩
  ·rw[I.Zd7 q' qa];exact hx
  ·obtain⟨old,q⟩:=St2.1
   exact⟨old,by rw[show(((i+1:Nat)):Int)=(i:Int)+1 by omega]at *;exact q⟩
  ·rw[Zh (nTe c hc)];exact(hf c hc).1
 done:=by
  intro X hP hw hK hc i pins s σ H E I hf st hg
  subst hP hw hK
  obtain⟨xs,qa,hx⟩:=hg
  obtain⟨is1,r1,p1,_⟩:=I.list qa
  have W:=WalksT.enumerate (prog:=X.prog) (w:=X.w) (I.ok.hd hc) e it a h1 h2 h3 is1.toArray
  have hi:i=is1.toArray.size:=by
   have:=r1.length
   simp;omega
  refine W.done s _ E ?_ λh' tk keep=>⟨rfl,I.Zds (t':=tk) (fp:=[e,it]) (λc o hc q=>keep c o hc q) hf⟩
  rw[<-hi]
  exact⟨st.1,st.2,p1.isList⟩
 self:=λA i s Q E st h=>by
  obtain⟨⟨old,q⟩,_⟩:=st
  exact wpAny_pyIter_enum q h
noncomputable def iEnum (K:Frag) (ta:TA):TI:=fun σ H R=>ta σ H λvs H1=>∃a xs,vs=[.ref a]/\SqL K H1 a xs/\R (Ite K a) H1
theorem ZgL:bootBuiltins "enumerate"=some (.type "enumerate"):=by decide +kernel
theorem Zl5 {K:Frag}{elts:List Expr} {x1}{tp:Pos}{e1:Expr}{ta:TA}{p pos:Pos} (hK:X.K=K) (hg:Gl X "enumerate") (hm:X.mg "enumerate"=none) (ha:PA X [e1] ta) (hs:starEach [e1] X.env=[(false,eval e1 X.env)]:=by rfl) :
  PI X (.Tuple elts x1 tp) (.Call (.Name "enumerate" p) [e1] [] pos) (iEnum K ta):=by
 subst hK
 intro pins s σ H R I h
 refine wpAny_Call_Name_kw (Zbp I hg hm ZgL ?_)
 refine PyProof.Rows.callWith_type1 (thn (ha pos pins s σ H _ I h) λus s1 ⟨vs,H1,I1,r1,a,xs,e1,qa,q⟩=>?_) hs rfl
 subst e1
 obtain⟨u,rfl,ru⟩:=r1.one
 cases(show u=Value.ref a from ru)
 obtain⟨is1,rr1,p1,_⟩:=I1.list qa
 refine call_enumerate_list p1.isList λh' c1 c2 c3 c4=>?_
 have l1:a<s1.heap.objs.size:=by obtain⟨o,e,_⟩:=p1.isList;exact Yj e
 have sm:∀b,s1.heap.objs.size<=b->FpOk X pins H1 b:=λb hb=>I1.Zjw hb (I1.hok.fresh hb)
 have n1:s1.heap.objs.size+1≠s1.heap.objs.size:=by show ¬ ((_:Nat)=_);omega
 have n2:a≠s1.heap.objs.size+1:=Yn (YN l1)
 have n3:a≠s1.heap.objs.size:=Yn l1
 have T:=Zlq (P:=X.prog) (w:=X.w) (K:=X.K) (elts:=elts) (x1:=x1) (pos:=tp) n1 n2 n3
 refine T.self _ 0 _ _ _ ⟨⟨_,c1⟩,c2⟩ ?_
 refine⟨_,[s1.heap.objs.size+1,s1.heap.objs.size],_,_,H1,rfl,I1.kept (t':=s1.toks) c4,T,⟨⟨_,c1⟩,c2⟩,λc hc=>?_,q⟩
 simp at hc
 rcases hc with rfl|rfl<;>exact sm _ (by omega)
end
theorem Zlr {P:Nat->Prop}:∀n,¬ (∀j,j<n->P j)->∃j,j<n/\¬ P j/\∀i,i<j->P i
 |0,h=>absurd (λj hj=>by omega) h
 |n+1,h=>by
  by_cases z:∀j,j<n->P j
  ·exact⟨n,by omega,λy=>h λj hj=>by
    by_cases e:j=n
    ·rw[e];exact y
    ·exact z j (by omega),z⟩
  ·obtain⟨j,h1,h2,h3⟩:=Zlr n z
   exact⟨j,by omega,h2,h3⟩
theorem ifR {c:TT}{t u:TS}{D:Ends}{σ:St}{H:Hp} (T U:Hp->Prop) (ht:∀H1,T H1->t D σ H1) (hu:∀H1,U H1->u D σ H1) (hc:∀B:Bool->Hp->Prop,(∀H1,T H1->B true H1)->(∀H1,U H1->B false H1)->c σ H B):tIfS c t u D σ H :=
 hc _ (λH1 h=>by rw[Yc rfl];exact ht H1 h) (λH1 h=>by rw[Yb (by simp)];exact hu H1 h)
section
variable {X:Cx}
theorem Zqj:bootBuiltins "sorted"=some (.builtin "sorted"):=by decide +kernel
end
section
variable {prog:Program}{w:World}{A:Around}{E Q:Value->Shared->Prop}{s:Shared}{it t:Addr}{i:Nat}{items:Array Value}
theorem Zdt {x:Value} (hi:s.heap.IsTupleIter it t i) (ht:s.heap.IsTuple t items) (hx:items[i]?=some x) (h:∀h',h'.IsTupleIter it t (i+1)->Heap.SameBut it s.heap h'->Q x {s with heap:=h'}):wpAny (model prog w) A (Builtin.SmallTypes.nextOf (.ref it)) Q E s:=by
 obtain⟨o,ho,hc,hd⟩:=id hi
 obtain⟨ot,hot,hct,n,hdt⟩:=id ht
 have hT:s.TypeIs (.ref it) "tuple_iterator":=⟨o,ho,hc⟩
 unfold Builtin.SmallTypes.nextOf
 refine Ya (wpAny_callSpecial?_slot hT F.slot_tuple_iterator_next (wpAny_call_entry F.slot_tuple_iterator_next hT F.entry_tuple_iterator_next ?_ (F.args_tuple_iterator_next_1 _)))
 show wpAny _ _ (_ >>= _) _ _ _
 refine Ya (wpAny_of_eq (show slotArgs "__next__" 0 {pos:=[.ref it]}=pure (.ref it,[])from rfl) ?_)
 refine Ya (wpAny_field ho hd (x:=.ref t) rfl ?_)
 rw[Yb (by simp)]
 refine Ya (wpAny_field ho hd (x:=.int (i:Int) 0) rfl ?_)
 refine Ya (wpAny_seqItems hot hdt ?_)
 dsimp only
 rw[Ja,hx]
 refine Ya (wpAny_setField ho hd (by show 1<2;decide) (Ye ⟨x,rfl,?_⟩))
 refine Ye (h _ ?_ ⟨by simp,λb hb=>Heap.get?_update_other _ _ (Ne.symm hb)⟩)
 obtain⟨cls,dict,data,slots⟩:=o
 simp only at hc hd
 subst hc hd
 exact⟨_,Heap.get?_update_self _ ho rfl,rfl,rfl⟩
theorem Zeg (hA:A.handled=none) (hi:s.heap.IsTupleIter it t i) (ht:s.heap.IsTuple t items) (hx:items[i]?=none) (h:∀h' e,Heap.ExtBut it s.heap h'->(∃o,h'.get? e=some o/\o.cls=.type "StopIteration")->E (.ref e) {s with heap:=h'}):wpAny (model prog w) A (Builtin.SmallTypes.nextOf (.ref it)) Q E s:=by
 obtain⟨o,ho,hc,hd⟩:=id hi
 obtain⟨ot,hot,hct,n,hdt⟩:=id ht
 have hT:s.TypeIs (.ref it) "tuple_iterator":=⟨o,ho,hc⟩
 unfold Builtin.SmallTypes.nextOf
 refine Ya (wpAny_callSpecial?_slot hT F.slot_tuple_iterator_next (wpAny_call_entry F.slot_tuple_iterator_next hT F.entry_tuple_iterator_next ?_ (F.args_tuple_iterator_next_1 _)))
 show wpAny _ _ (_ >>= _) _ _ _
 refine Ya (wpAny_of_eq (show slotArgs "__next__" 0 {pos:=[.ref it]}=pure (.ref it,[])from rfl) ?_)
 refine Ya (wpAny_field ho hd (x:=.ref t) rfl ?_)
 rw[Yb (by simp)]
 refine Ya (wpAny_field ho hd (x:=.int (i:Int) 0) rfl ?_)
 refine Ya (wpAny_seqItems hot hdt ?_)
 dsimp only
 rw[Ja,hx]
 refine Ya (wpAny_rule (Ya (wpAny_setField ho hd (by show 0<2;decide) ?_)))
 unfold Builtin.SmallTypes.stopIteration
 refine Ya ?_
 unfold newExc
 refine Ya (wpAny_newTuple ?_ (Ys _))
 refine Ya (wpAny_of_eq (show firstArgMember (.type "StopIteration") []=pure .none by first|rfl|(unfold firstArgMember;rfl)) ?_)
 refine wpAny_newObj_type (wpAny_raiseNew_none hA (h _ _ (λb o' hb e=>?_) ⟨_,Yk _ rfl,rfl⟩))
 exact Yg _ (Yg _ ((Heap.get?_update_other _ _ (Ne.symm hb)).trans e))
theorem ZiC (hA:A.handled=none) (it t:Addr) (hne:t≠it) (items:Array Value):Draws prog w A it [it,t] items.size (λi v=>items[i]?=some v) (λi h=>h.IsTupleIter it t i/\h.IsTuple t items) where
 live:=λi h st=>by obtain⟨⟨o,ho,_⟩,_⟩:=st;exact⟨o,ho⟩
 frame:=λi h h' st k=>by
  obtain⟨⟨o,ho,r⟩,⟨ot,hot,rt⟩⟩:=st
  exact⟨⟨o,k it (by simp) o ho,r⟩,⟨ot,k t (by simp) ot hot,rt⟩⟩
 item:=λi s Q E hi st h=>by
  obtain⟨ot,hot,rt⟩:=st.2
  refine Zdt st.1 st.2 (Array.getElem?_eq_getElem hi) λh' hit hs=>h _ h' s.toks (Array.getElem?_eq_getElem hi) ⟨hit,⟨ot,(hs.2 t hne).trans hot,rt⟩⟩ hs
 done:=λs Q E st h=>Zeg hA st.1 st.2 (Array.getElem?_eq_none (Yd _)) h
end
section
variable {X:Cx}{pins:List (Addr×Obj)}{σ:St}{H:Hp}{s:Shared}{h':Heap}
noncomputable def IteT (K : Frag) (a : Addr) : It :=
  ⟨fun i H => ∃ xs x, SqT K H a xs ∧ xs[i]? = some x,
   fun i H v H' => ∃ p x, H p = none ∧ v = .ref p ∧ H' = upd H p (.tup [.int (i : Int), x]) ∧ ∀ xs, SqT K H a xs → xs[i]? = some x,
   fun i H => ∃ xs, SqT K H a xs ∧ xs.length = i⟩
theorem ZjM {P:Program}{w:World}{K:Frag}{elts:List Expr} {x1}{pos:Pos}{a e it:Addr} (h1:e≠it) (h2:a≠e) (h3:a≠it) :
  Turn P w K (.Tuple elts x1 pos) (IteT K a) [e,it] e (λi h=>(∃old,IsEnum h e it (i:Int) old)/\h.IsTupleIter it a i) where
 mem:=by simp
 obj:=λi h st c hc=>by
  obtain⟨⟨old,q1⟩,⟨o4,q4,_,d4⟩⟩:=st
  simp at hc
  rcases hc with rfl|rfl
  ·exact⟨_,q1,λv z=>by cases z⟩
  ·exact⟨_,q4,λv z=>by rw[d4]at z;cases z⟩
 keep:=λi h h' st k=>by
  obtain⟨⟨old,q1⟩,⟨o,ho,r⟩⟩:=st
  exact⟨⟨old,k e (by simp) _ q1⟩,⟨o,k it (by simp) o ho,r⟩⟩
 item:=by
  intro X hP hw hK hc i pins s σ H E I hf st hg
  subst hP hw hK
  obtain⟨xs,x,qa,hx⟩:=hg
  obtain⟨is1,r1,p1,hz1⟩:=I.tuple qa
  obtain⟨u,hu,ru⟩:=r1.get hx
  have W:=WalksT.enumerateD (prog:=X.prog) (w:=X.w) (A:=X.A) (ZiC (A:=X.A.in1) (I.ok.hd hc) it a h3 is1.toArray) e h1 (by simp;exact⟨h1,h2.symm⟩) (by simp)
  have hi:i<is1.toArray.size:=by
   have:=(Yq.mp hu).1
   simpa using this
  refine W.item i s _ E hi ⟨st.1,st.2,p1⟩ λT vals h' tk Pt hT hTup Mid keep=>⟨_,rfl,W.go elts x1 pos i T _ _ E Mid λh2' St2 keep2=>?_⟩
  obtain⟨t,y,hy,rfl⟩:=Pt
  have hyu:y=u:=by
   have:is1[i]?=some y:=by simpa using hy
   rw[hu]at this;exact(Yz this).symm
  subst hyu
  have nT:=W.apart i T h' Mid
  have hfr:H T=none:=I.hok.fresh hT
  have kk:∀b o,b∉[e,it]->s.heap.get? b=some o->h2'.get? b=some o:=λb o hb q=>keep2 b o hb (keep b o hb q)
  have nTe:∀c∈[e,it],c≠T:=λc hc z=>nT (z▸hc)
  refine⟨.ref T,_,Inv.Zpv (s:=s) (t':=tk) (o:=.tup [.int (i:Int),x]) I kk hf hT ?_,rfl,⟨T,x,hfr,rfl,rfl,λxs' q'=>?_⟩,⟨?_,St2.2.1⟩,λc hc=>?_⟩
  ·obtain⟨oT,q1,q2,n,q3⟩:=hTup
   exact⟨by show 2<=sizeLine;decide,[.int (i:Int) t,y],.cons ⟨t,rfl⟩ (.cons ru .nil),⟨oT,keep2 T oT nT q1,q2,n,q3⟩⟩
  ·rw[I.Zf9 q' qa];exact hx
  ·obtain⟨old,q⟩:=St2.1
   exact⟨old,by rw[show(((i+1:Nat)):Int)=(i:Int)+1 by omega]at *;exact q⟩
  ·rw[Zh (nTe c hc)];exact(hf c hc).1
 done:=by
  intro X hP hw hK hc i pins s σ H E I hf st hg
  subst hP hw hK
  obtain⟨xs,qa,hx⟩:=hg
  obtain⟨is1,r1,p1,_⟩:=I.tuple qa
  have W:=WalksT.enumerateD (prog:=X.prog) (w:=X.w) (A:=X.A) (ZiC (A:=X.A.in1) (I.ok.hd hc) it a h3 is1.toArray) e h1 (by simp;exact⟨h1,h2.symm⟩) (by simp)
  have hi:i=is1.toArray.size:=by
   have:=r1.length
   simp;omega
  refine W.done s _ E ?_ λh' tk keep=>⟨rfl,I.Zds (t':=tk) (fp:=[e,it]) (λc o hc q=>keep c o hc q) hf⟩
  rw[<-hi]
  exact⟨st.1,st.2,p1⟩
 self:=λA i s Q E st h=>by
  obtain⟨⟨old,q⟩,_⟩:=st
  exact wpAny_pyIter_enum q h
theorem Zot {M:Model}{A:Around}{E:Value->Shared->Prop}{s:Shared} (cls:Value):wpAny M A (Builtin.SmallTypes.calledThroughType cls) (λ_ s'=>s'=s) E s:=by
 unfold Builtin.SmallTypes.calledThroughType
 exact Ya (wpAny_stack λst _ _ _=>Ye rfl)
theorem ZiD {prog:Program}{w:World} (l:Addr) (items:Array Value):MeetsIn prog w (Builtin.«enumerate.__new__» {pos:=[.type "enumerate",.ref l]}) λA R s=>s.heap.IsTuple l items/\R (.ok (.ret (.ref (s.heap.objs.size+1)))) {s with heap:=(s.heap.push {cls:=.type "tuple_iterator",data:=.fields #[.ref l,.int 0 0]}).push {cls:=.type "enumerate",data:=.fields #[.none,.bool false,.ref s.heap.objs.size,rawInt 0,.none,.none]}}:=by
 intro A R s ⟨h,hR⟩
 unfold Builtin.«enumerate.__new__»
 refine Ya (wpAny_of_eq (show Builtin.SmallTypes.newClass "enumerate" {pos:=[.type "enumerate",.ref l]}=pure (.type "enumerate",[.ref l])from by first|rfl|(unfold Builtin.SmallTypes.newClass;rfl)) ?_)
 show wpAny _ _ (_ >>= _) _ _ _
 have hsz:(s.heap.push {cls:=.type "tuple_iterator",data:=.fields #[.ref l,.int 0 0]}).objs.size=s.heap.objs.size+1:=Heap.size_push _ _
 refine Ya (thn (Zot (.type "enumerate")) λb s' e=>?_)
 subst e
 cases b with
 |true =>
  show wpAny _ _ (_ >>= _) _ _ _
  refine Ya (wpAny_of_eq (show _=pure (.ref l,none)from rfl) ?_)
  show wpAny _ _ (_ >>= _) _ _ _
  refine Ya (wpAny_pyIter_tuple h ?_)
  show wpAny _ _ (newObj (.type "enumerate") (.fields #[.none,.bool false,.ref s'.heap.objs.size,rawInt 0,.none,.none]) >>= _) _ _ _
  refine Ya (wpAny_newObj_type (Ye ?_))
  rw[hsz];exact hR
 |false =>
  show wpAny _ _ (_ >>= _) _ _ _
  refine Ya (wpAny_of_eq (show _=pure (.ref l,none)from rfl) ?_)
  show wpAny _ _ (_ >>= _) _ _ _
  refine Ya (wpAny_pyIter_tuple h ?_)
  show wpAny _ _ (newObj (.type "enumerate") (.fields #[.none,.bool false,.ref s'.heap.objs.size,rawInt 0,.none,.none]) >>= _) _ _ _
  refine Ya (wpAny_newObj_type (Ye ?_))
  rw[hsz];exact hR
noncomputable def Zsl (K:Frag) (ta:TA):TI:=fun σ H R=>ta σ H λvs H1=>∃a xs,vs=[.ref a]/\SqT K H1 a xs/\R (IteT K a) H1
theorem Zm3 {K:Frag}{elts:List Expr} {x1}{tp:Pos}{e1:Expr}{ta:TA}{p pos:Pos} (hK:X.K=K) (hg:Gl X "enumerate") (hm:X.mg "enumerate"=none) (ha:PA X [e1] ta) (hs:starEach [e1] X.env=[(false,eval e1 X.env)]:=by rfl) :
  PI X (.Tuple elts x1 tp) (.Call (.Name "enumerate" p) [e1] [] pos) (Zsl K ta):=by
 subst hK
 intro pins s σ H R I h
 refine wpAny_Call_Name_kw (Zbp I hg hm ZgL ?_)
 refine PyProof.Rows.callWith_type1 (thn (ha pos pins s σ H _ I h) λus s1 ⟨vs,H1,I1,r1,a,xs,e1,qa,q⟩=>?_) hs rfl
 subst e1
 obtain⟨u,rfl,ru⟩:=r1.one
 cases(show u=Value.ref a from ru)
 obtain⟨is1,rr1,p1,_⟩:=I1.tuple qa
 have l1:a<s1.heap.objs.size:=by obtain⟨o,e,_⟩:=p1;exact Yj e
 have sm:∀b,s1.heap.objs.size<=b->FpOk X pins H1 b:=λb hb=>I1.Zjw hb (I1.hok.fresh hb)
 have n1:s1.heap.objs.size+1≠s1.heap.objs.size:=by show ¬ ((_:Nat)=_);omega
 have n2:a≠s1.heap.objs.size+1:=Yn (YN l1)
 have n3:a≠s1.heap.objs.size:=Yn l1
 have T:=ZjM (P:=X.prog) (w:=X.w) (K:=X.K) (elts:=elts) (x1:=x1) (pos:=tp) n1 n2 n3
 have hsz:(s1.heap.push {cls:=.type "tuple_iterator",data:=.fields #[.ref a,.int 0 0]}).objs.size=s1.heap.objs.size+1:=Heap.size_push _ _
 have c1:IsEnum ((s1.heap.push {cls:=.type "tuple_iterator",data:=.fields #[.ref a,.int 0 0]}).push {cls:=.type "enumerate",data:=.fields #[.none,.bool false,.ref s1.heap.objs.size,rawInt 0,.none,.none]}) (s1.heap.objs.size+1) s1.heap.objs.size 0 .none:=by
  show Heap.get? _ _=_
  rw[<-hsz];exact Yk _ rfl
 have c2:((s1.heap.push {cls:=.type "tuple_iterator",data:=.fields #[.ref a,.int 0 0]}).push {cls:=.type "enumerate",data:=.fields #[.none,.bool false,.ref s1.heap.objs.size,rawInt 0,.none,.none]}).IsTupleIter s1.heap.objs.size a 0:=⟨_,Yg _ (Yk _ rfl),rfl,rfl⟩
 refine callType_newIn F.called_enumerate rfl (by first|rfl|decide) (F.newCall_enumerate_1 _) (λobj=>by first|rfl|decide) F.entry_enumerate_new (ZiD a is1.toArray) ⟨p1,⟨_,c1,rfl⟩,?_⟩
 refine T.self _ 0 _ _ _ ⟨⟨_,c1⟩,c2⟩ ?_
 refine⟨_,[s1.heap.objs.size+1,s1.heap.objs.size],_,_,H1,rfl,I1.kept (t':=s1.toks) (λb o e=>Yg _ (Yg _ e)),T,⟨⟨_,c1⟩,c2⟩,λc hc=>?_,q⟩
 simp at hc
 rcases hc with rfl|rfl<;>exact sm _ (by omega)
end
open Classical in
noncomputable def ZeA (f:Nat->Int) (p:Nat):Int:=if h:∃q,Zaf f p q then (Classical.choose h:Nat)else -1
open Classical in
noncomputable def ZeB (f:Nat->Int) (n p:Nat):Int:=if h:∃r,Zac f n p r then (Classical.choose h:Nat)else (n:Int)
theorem Z9 {f:Nat->Int}{p q:Nat} (h:Zaf f p q):ZeA f p=q:=by
 have hx:∃q,Zaf f p q:=⟨q,h⟩
 unfold ZeA
 rw[dif_pos hx,(Classical.choose_spec hx).unique h]
theorem Zcl {f:Nat->Int}{p:Nat} (h:ZcE f p):ZeA f p=-1:=by
 unfold ZeA
 rw[dif_neg λ⟨q,hq⟩=>hq.no h]
theorem Zaa {f:Nat->Int}{n p r:Nat} (h:Zac f n p r):ZeB f n p=r:=by
 have hx:∃r,Zac f n p r:=⟨r,h⟩
 unfold ZeB
 rw[dif_pos hx,(Classical.choose_spec hx).unique h]
theorem ZbP {f:Nat->Int}{n p:Nat} (h:ZbN f n p):ZeB f n p=n:=by
 unfold ZeB
 rw[dif_neg λ⟨q,hq⟩=>hq.no h]
theorem ZbQ {f:Nat->Int}{n p:Nat}{e:Int} (h:ZF f n p e):(ZcE f p\/∃q,Zaf f p q)/\(ZbN f n p\/∃r,Zac f n p r):=by
 rcases h with⟨h1,h2,_⟩|⟨q,h1,h2,_⟩|⟨r,h1,h2,_⟩|⟨q,r,h1,h2,_⟩
 ·exact⟨.inl h1,.inl h2⟩
 ·exact⟨.inr ⟨q,h1⟩,.inl h2⟩
 ·exact⟨.inl h1,.inr ⟨r,h2⟩⟩
 ·exact⟨.inr ⟨q,h1⟩,.inr ⟨r,h2⟩⟩
theorem Zfp {J:It}{n:Nat}{g:TG}{tb:TS}{D:Ends}{σ:St}{H:Hp} (Pv:Nat->St->Hp->Prop) (h0:Pv 0 σ H) (hgo:∀i σ H,i<n->Pv i σ H->J.go i H) (hstop:∀σ H,Pv n σ H->J.stop n H)
  (hs:∀i x σ H H',i<n->Pv i σ H->J.yld i H x H'->g x σ H' fun σ2 H2=>tb {D with nx:=Pv (i+1),ct:=Pv (i+1),bk:=D.nx} σ2 H2) (hd:∀σ H,Pv n σ H->D.nx σ H):ZmS J g tb D σ H:=by
 refine⟨λi m σ H=>m=n-i/\i<=n/\Pv i σ H,⟨n,by simp,Ys _,h0⟩,?_⟩
 rintro i m σ H ⟨rfl,hi,p⟩
 by_cases hlt:i<n
 ·exact .inr ⟨hgo i σ H hlt p,Pv (i+1),fun σ' H' p'=>⟨n-(i+1),by omega,rfl,hlt,p'⟩,λx H' y=>hs i x σ H H' hlt p y⟩
 ·have:i=n:=by omega
  subst this
  exact .inl ⟨hstop σ H p,hd σ H p⟩
theorem ZuO {ns T:List Int} (hT:Zi ns T) {p o:Nat} (hp:p<ns.length) (ho:o<ns.length) (hO:Over (nth ns) o p):(Zbh T p:Int)-Zbh T o<=nth ns p-nth ns o:=by
 refine Zhr hT (R:=λo p=>(Zbh T p:Int)-Zbh T o<=nth ns p-nth ns o) (λp q hp hq e hO=>?_) (λo q p h1 h2 r1 r2=>by omega) _ p o hp ho rfl hO
 have:=Zh4 hT hp hq e hO
 rcases hO with⟨a,b⟩|⟨a,b⟩
 ·have:=b p a (Yd _)
  rw[Yb (by omega)]at *;omega
 ·have:=b p (Yd _) a
  rw[Yc a]at *;omega
end L2
namespace PySem
open Sem (wp)
end PySem
namespace L2
open PySem PySem.Spec PyProof.Rows PySem.W
noncomputable def QIt (h:Heap) (i l:Addr) (k:Nat) (xs:Array Value):Prop:=(h.IsListIter i l k/\h.IsList l xs)\/(h.IsTupleIter i l k/\h.IsTuple l xs)
theorem QIt.ext {h h':Heap}{i l b:Addr}{k:Nat}{xs:Array Value} (x:QIt h i l k xs) (hs:Heap.ExtBut b h h') (n1:i≠b) (n2:l≠b):QIt h' i l k xs:=by
 rcases x with⟨p,q⟩|⟨p,q⟩
 ·exact .inl ⟨p.extBut hs n1,q.extBut hs n2⟩
 ·obtain⟨o,ho,r⟩:=q
  exact .inr ⟨p.extBut hs n1,⟨o,hs _ _ n2 ho,r⟩⟩
theorem QIt.at {h h':Heap}{i l:Addr}{k:Nat}{xs:Array Value} (x:QIt h i l k xs) (e1:∀o,h.get? i=some o->h'.get? i=some o) (e2:∀o,h.get? l=some o->h'.get? l=some o):QIt h' i l k xs:=by
 rcases x with⟨p,⟨o,ho,r⟩⟩|⟨⟨o1,p1,r1⟩,⟨o,ho,r⟩⟩
 ·exact .inl ⟨p.at e1,⟨o,e2 o ho,r⟩⟩
 ·exact .inr ⟨⟨o1,e1 _ p1,r1⟩,⟨o,e2 o ho,r⟩⟩
section
variable {prog:Program}{w:World}{A:Around}{E Q:Value->Shared->Prop}{s:Shared}{it l:Addr}{k:Nat}{xs:Array Value}
theorem ZR {x:Value} (q:QIt s.heap it l k xs) (hn:l≠it) (hx:xs[k]?=some x) (h:∀h',QIt h' it l (k+1) xs->Heap.SameBut it s.heap h'->Q x {s with heap:=h'}):wpAny (model prog w) A (Builtin.SmallTypes.nextOf (.ref it)) Q E s:=by
 rcases q with⟨q1,q2⟩|⟨q1,q2⟩
 ·exact wpAny_nextOf_list_item q1 q2 hx λh' a b=>h h' (.inl ⟨a,q2.extBut b.extBut hn⟩) b
 ·refine Zdt q1 q2 hx λh' a b=>h h' (.inr ⟨a,?_⟩) b
  obtain⟨o,ho,r⟩:=q2
  exact⟨o,b.extBut _ _ hn ho,r⟩
theorem Za9 (hA:A.handled=none) (q:QIt s.heap it l k xs) (hx:xs[k]?=none) (h:∀h' e,Heap.ExtBut it s.heap h'->(∃o,h'.get? e=some o/\o.cls=.type "StopIteration")->E (.ref e) {s with heap:=h'}):wpAny (model prog w) A (Builtin.SmallTypes.nextOf (.ref it)) Q E s:=by
 rcases q with⟨q1,q2⟩|⟨q1,q2⟩
 ·exact wpAny_nextOf_list_end hA q1 q2 hx h
 ·exact Zeg hA q1 q2 hx h
end
section
variable {prog:Program}{w:World}{A:Around}{E:Value->Shared->Prop}{s:Shared}{z TI TO i1 i2 l1 l2:Addr}{k1 k2:Nat}{xs ys:Array Value}{a b:Value}
noncomputable def Zgr (z TO i1 i2:Addr) (h h':Heap):Prop:=∀c o,c≠z->c≠TO->c≠i1->c≠i2->h.get? c=some o->h'.get? c=some o
theorem Zqk {x y:Value}{Q:Value->Shared->Prop} (D:ZipApart z TI TO i1 i2 l1 l2) (hz:IsZip s.heap z TI TO .none) (hI:IsPair s.heap TI (.ref i1) (.ref i2)) (hO:IsPair s.heap TO a b)
  (q1:QIt s.heap i1 l1 k1 xs) (q2:QIt s.heap i2 l2 k2 ys) (hx:xs[k1]?=some x) (hy:ys[k2]?=some y)
  (hQ:∀h',IsZip h' z TI TO (rawInt s.heap.objs.size)->IsPair h' TO x y->QIt h' i1 l1 (k1+1) xs->QIt h' i2 l2 (k2+1) ys->IsPair h' s.heap.objs.size x y->Zgr z TO i1 i2 s.heap h'->Q (.ref s.heap.objs.size) {s with heap:=h'}) :
  wpAny (model prog w) A (Builtin.«zip.__next__» ⟨[.ref z],[]⟩) (λfin s'=>∃v,fin=.done (.ret v)/\Q v s') E s:=by
 show wpAny _ _ (field (.ref z) 2 >>= _) _ _ _;refine Ya (wpAny_field hz rfl (x:=.bool false) rfl ?_)
 show wpAny _ _ (field (.ref z) 3 >>= _) _ _ _;refine Ya (wpAny_field hz rfl (x:=.ref TI) rfl ?_);refine Ya (wpAny_seqItems hI rfl ?_)
 show wpAny _ _ (Builtin.SmallTypes.ownedTupleIsFree (.ref z) >>= _) _ _ _;refine Ya ?_;unfold Builtin.SmallTypes.ownedTupleIsFree
 refine Ya (wpAny_field hz rfl (x:=.none) rfl (Ye ?_));simp only[if_true];refine Ya (wpAny_rule ?_);refine Ya (wpAny_field hz rfl (x:=.ref TO) rfl ?_)
 refine Ya (wpAny_setField_rec hz (by simp) λg1 z1 m1=>?_);replace z1:IsZip g1 z TI TO .ellipsis:=z1
 refine Ya ?_;simp only[List.zipIdx_cons,List.zipIdx_nil,List.forIn_cons,List.forIn_nil];refine Ya (Ya (wpAny_onRaise ?_))
 show wpAny _ _ (Builtin.SmallTypes.nextOf (.ref i1) >>= _) _ _ _;refine Ya (ZR (q1.ext m1.extBut D.i1z D.l1z) D.l1i1 hx λg2 p1 m2=>Ye ?_)
 have o2:IsPair g2 TO a b:=m2.extBut _ _ D.TOi1 (m1.extBut _ _ D.TOz hO)
 refine Ya (wpAny_seqItems o2 rfl ?_);refine Ya (wpAny_updateSeq_pair o2 λg3 o3 m3=>?_);replace o3:IsPair g3 TO x b:=o3
 refine Ya (wpAny_letGo (Ye ?_));refine Ya (Ya (wpAny_onRaise ?_))
 show wpAny _ _ (Builtin.SmallTypes.nextOf (.ref i2) >>= _) _ _ _
 refine Ya (ZR (((q2.ext m1.extBut D.i2z D.l2z).ext m2.extBut D.i12.symm D.l2i1).ext m3.extBut D.TOi2.symm D.l2TO) D.l2i2 hy λg4 p2 m4=>Ye ?_)
 have o4:IsPair g4 TO x b:=m4.extBut _ _ D.TOi2 o3
 refine Ya (wpAny_seqItems o4 rfl ?_);refine Ya (wpAny_updateSeq_pair o4 λg5 o5 m5=>?_);replace o5:IsPair g5 TO x y:=o5
 refine Ya (wpAny_letGo (Ye (Ye ?_)));refine Ya (wpAny_seqItems o5 rfl ?_);refine Ya (wpAny_newTuple ?_)
 have hsz:g5.objs.size=s.heap.objs.size:=by rw[m5.1,m4.1,m3.1,m2.1,m1.1]
 have z5:IsZip g5 z TI TO .ellipsis:=m5.extBut _ _ D.TOz.symm (m4.extBut _ _ D.i2z.symm (m3.extBut _ _ D.TOz.symm (m2.extBut _ _ D.i1z.symm z1)))
 have kk:Zgr z TO i1 i2 s.heap g5:=λc o c1 c2 c3 c4 e=>m5.extBut _ _ c2 (m4.extBut _ _ c4 (m3.extBut _ _ c2 (m2.extBut _ _ c3 (m1.extBut _ _ c1 e))))
 have r1:QIt g5 i1 l1 (k1+1) xs:=((p1.ext m3.extBut D.TOi1.symm D.l1TO).ext m4.extBut D.i12 D.l1i2).ext m5.extBut D.TOi1.symm D.l1TO
 have r2:QIt g5 i2 l2 (k2+1) ys:=p2.ext m5.extBut D.TOi2.symm D.l2TO
 have lz:z<g5.objs.size:=Yj z5
 show wpAny _ _ (Builtin.SmallTypes.ownedTupleHandOut (.ref z) (.ref g5.objs.size) >>= _) _ _ _;refine Ya ?_;unfold Builtin.SmallTypes.ownedTupleHandOut
 have z6:IsZip (g5.push {cls:=.type "tuple",data:=.seq #[x,y]}) z TI TO .ellipsis:=Yg _ z5
 refine Ya (wpAny_setField_rec z6 (by simp) λg7 z7 m7=>?_);replace z7:IsZip g7 z TI TO (rawInt g5.objs.size):=z7
 refine wpAny_setField_rec z7 (by simp) λg8 z8 m8=>?_;replace z8:IsZip g8 z TI TO (rawInt g5.objs.size):=z8
 have up:∀c o,c≠z->g5.get? c=some o->g8.get? c=some o:=λc o c1 e=>m8.extBut _ _ c1 (m7.extBut _ _ c1 (Yg _ e))
 have t8:IsPair g8 g5.objs.size x y:=m8.extBut _ _ (Nat.ne_of_gt lz) (m7.extBut _ _ (Nat.ne_of_gt lz) (Yk _ rfl))
 rw[hsz]at z8 t8
 refine Ye ⟨_,rfl,?_⟩;show Q (.ref g5.objs.size) _;rw[hsz]
 exact hQ g8 z8 (up _ _ D.TOz o5) (r1.at (λo e=>up _ o D.i1z e) λo e=>up _ o D.l1z e) (r2.at (λo e=>up _ o D.i2z e) λo e=>up _ o D.l2z e) t8 λc o c1 c2 c3 c4 e=>up c o c1 (kk c o c1 c2 c3 c4 e)
theorem Zsm {Q:Fin->Shared->Prop} (hA:A.handled=none) (D:ZipApart z TI TO i1 i2 l1 l2) (hz:IsZip s.heap z TI TO .none) (hI:IsPair s.heap TI (.ref i1) (.ref i2)) (hO:IsPair s.heap TO a b)
  (q1:QIt s.heap i1 l1 k1 xs) (q2:QIt s.heap i2 l2 k2 ys) (hend:xs[k1]?=none\/ys[k2]?=none)
  (hE:∀h' e,Zgr z TO i1 i2 s.heap h'->(∃o,h'.get? e=some o/\o.cls=.type "StopIteration")->E (.ref e) {s with heap:=h'}) :
  wpAny (model prog w) A (Builtin.«zip.__next__» ⟨[.ref z],[]⟩) Q E s:=by
 show wpAny _ _ (field (.ref z) 2 >>= _) _ _ _;refine Ya (wpAny_field hz rfl (x:=.bool false) rfl ?_)
 show wpAny _ _ (field (.ref z) 3 >>= _) _ _ _;refine Ya (wpAny_field hz rfl (x:=.ref TI) rfl ?_);refine Ya (wpAny_seqItems hI rfl ?_)
 show wpAny _ _ (Builtin.SmallTypes.ownedTupleIsFree (.ref z) >>= _) _ _ _;refine Ya ?_;unfold Builtin.SmallTypes.ownedTupleIsFree
 refine Ya (wpAny_field hz rfl (x:=.none) rfl (Ye ?_));simp only[if_true];refine Ya (wpAny_rule ?_);refine Ya (wpAny_field hz rfl (x:=.ref TO) rfl ?_)
 refine Ya (wpAny_setField_rec hz (by simp) λg1 z1 m1=>?_);replace z1:IsZip g1 z TI TO .ellipsis:=z1
 refine Ya ?_;simp only[List.zipIdx_cons,List.zipIdx_nil,List.forIn_cons,List.forIn_nil];refine Ya (Ya (wpAny_onRaise ?_))
 show wpAny _ _ (Builtin.SmallTypes.nextOf (.ref i1) >>= _) _ _ _
 cases hx:xs[k1]? with
 |none =>
  refine Ya (Za9 hA (q1.ext m1.extBut D.i1z D.l1z) hx λg2 e m2 he=>?_)
  obtain⟨oe,e1,e2⟩:=he
  have z2:IsZip g2 z TI TO .ellipsis:=m2 _ _ D.i1z.symm z1
  have nz:e≠z:=λq=>by subst q;rw[z2]at e1;cases e1;simp at e2
  exact wpAny_setField_rec z2 (by simp) λg3 _ m3=>hE g3 e (λc o c1 _ c3 _ q=>m3.extBut _ _ c1 (m2 _ _ c3 (m1.extBut _ _ c1 q))) ⟨oe,m3.extBut _ _ nz e1,e2⟩
 |some x =>
  have hy:ys[k2]?=none:=by rcases hend with h|h;rw[hx]at h;cases h;exact h
  refine Ya (ZR (q1.ext m1.extBut D.i1z D.l1z) D.l1i1 hx λg2 p1 m2=>Ye ?_)
  have o2:IsPair g2 TO a b:=m2.extBut _ _ D.TOi1 (m1.extBut _ _ D.TOz hO)
  refine Ya (wpAny_seqItems o2 rfl ?_);refine Ya (wpAny_updateSeq_pair o2 λg3 o3 m3=>?_);refine Ya (wpAny_letGo (Ye ?_));refine Ya (Ya (wpAny_onRaise ?_))
  show wpAny _ _ (Builtin.SmallTypes.nextOf (.ref i2) >>= _) _ _ _
  refine Ya (Za9 hA (((q2.ext m1.extBut D.i2z D.l2z).ext m2.extBut D.i12.symm D.l2i1).ext m3.extBut D.TOi2.symm D.l2TO) hy λg4 e m4 he=>?_)
  obtain⟨oe,e1,e2⟩:=he
  have z4:IsZip g4 z TI TO .ellipsis:=m4 _ _ D.i2z.symm (m3.extBut _ _ D.TOz.symm (m2.extBut _ _ D.i1z.symm z1))
  have nz:e≠z:=λq=>by subst q;rw[z4]at e1;cases e1;simp at e2
  exact wpAny_setField_rec z4 (by simp) λg5 _ m5=>hE g5 e (λc o c1 c2 c3 c4 q=>m5.extBut _ _ c1 (m4 _ _ c4 (m3.extBut _ _ c2 (m2.extBut _ _ c3 (m1.extBut _ _ c1 q))))) ⟨oe,m5.extBut _ _ nz e1,e2⟩
theorem Zm4 {x y:Value}{Q:Option Value->Shared->Prop} (D:ZipApart z TI TO i1 i2 l1 l2) (hz:IsZip s.heap z TI TO .none) (hI:IsPair s.heap TI (.ref i1) (.ref i2)) (hO:IsPair s.heap TO a b)
  (q1:QIt s.heap i1 l1 k1 xs) (q2:QIt s.heap i2 l2 k2 ys) (hx:xs[k1]?=some x) (hy:ys[k2]?=some y)
  (hQ:∀h',IsZip h' z TI TO (rawInt s.heap.objs.size)->IsPair h' TO x y->QIt h' i1 l1 (k1+1) xs->QIt h' i2 l2 (k2+1) ys->IsPair h' s.heap.objs.size x y->Zgr z TO i1 i2 s.heap h'->Q (some (.ref s.heap.objs.size)) {s with heap:=h'}) :
  wpAny (model prog w) A (pyNext (.ref z)) Q E s:=by
 have ty:s.TypeIs (.ref z) "zip":=⟨_,hz,rfl⟩
 unfold pyNext
 exact Ya (wpAny_attempt (wpAny_callSpecial?_slot (name:=Str.ofString "__next__") ty F.slot_zip_next (wpAny_call_entry F.slot_zip_next ty F.entry_zip_next (Zqk D hz hI hO q1 q2 hx hy λh' a1 a2 a3 a4 a5 a6=>Ye (hQ h' a1 a2 a3 a4 a5 a6)) (F.args_zip_next_1 _))))
theorem Zou {Q:Option Value->Shared->Prop} (hA:A.handled=none) (D:ZipApart z TI TO i1 i2 l1 l2) (hz:IsZip s.heap z TI TO .none) (hI:IsPair s.heap TI (.ref i1) (.ref i2)) (hO:IsPair s.heap TO a b)
  (q1:QIt s.heap i1 l1 k1 xs) (q2:QIt s.heap i2 l2 k2 ys) (hend:xs[k1]?=none\/ys[k2]?=none) (hQ:∀h',Zgr z TO i1 i2 s.heap h'->Q none {s with heap:=h'}):wpAny (model prog w) A (pyNext (.ref z)) Q E s:=by
 have ty:s.TypeIs (.ref z) "zip":=⟨_,hz,rfl⟩
 unfold pyNext
 refine Ya (wpAny_attempt (wpAny_callSpecial?_slot (name:=Str.ofString "__next__") ty F.slot_zip_next (wpAny_call_entry F.slot_zip_next ty F.entry_zip_next (Zsm hA D hz hI hO q1 q2 hend λh' e hk he=>?_) (F.args_zip_next_1 _))))
 obtain⟨o,e1,e2⟩:=he
 exact Ya (wpAny_isInstance (T:="StopIteration") (b:=true) ⟨o,e1,e2⟩ isSubtype_stop (Ye (hQ _ hk)))
noncomputable def SqH (h:Heap) (l:Addr) (xs:Array Value):Prop:=h.IsList l xs\/h.IsTuple l xs
theorem SqH.push {h:Heap}{l:Addr}{xs:Array Value} (q:SqH h l xs) (o:Obj):SqH (h.push o) l xs:=by
 rcases q with q|⟨u,hu,r⟩
 ·exact .inl (q.push o)
 ·exact .inr ⟨u,Yg _ hu,r⟩
theorem SqH.obj {h:Heap}{l:Addr}{xs:Array Value} (q:SqH h l xs):∃o,h.get? l=some o:=by
 rcases q with⟨o,ho,_⟩|⟨o,ho,_⟩<;>exact⟨o,ho⟩
noncomputable def Zbs (h:Heap) (l:Addr):String:=match h.get? l with
 |some o=>if o.cls=.type "tuple" then "tuple_iterator" else "list_iterator"
 |none=>"list_iterator"
theorem Zm5 {Q:Value->Shared->Prop} (q:SqH s.heap l1 xs) (h:Q (.ref s.heap.objs.size) {s with heap:=s.heap.push {cls:=.type (Zbs s.heap l1),data:=.fields #[.ref l1,.int 0 0]}}):wpAny (model prog w) A (pyIter (.ref l1)) Q E s:=by
 rcases q with q|q
 ·have e:Zbs s.heap l1="list_iterator":=by
   obtain⟨o,ho,hc,_⟩:=q
   unfold Zbs;rw[ho];dsimp only;rw[Yb (by rw[hc];intro z;injection z with z;exact absurd z (by decide))]
  rw[e]at h;exact wpAny_pyIter_list q h
 ·have e:Zbs s.heap l1="tuple_iterator":=by
   obtain⟨o,ho,hc,_⟩:=q
   unfold Zbs;rw[ho];dsimp only;rw[Yc hc]
  rw[e]at h;exact wpAny_pyIter_tuple q h
theorem itQ {h h':Heap}{i:Addr} (q:SqH h l1 xs) (ho:h'.get? i=some {cls:=.type (Zbs h l1),data:=.fields #[.ref l1,.int 0 0]}) (hl:∀o,h.get? l1=some o->h'.get? l1=some o):QIt h' i l1 0 xs:=by
 rcases q with q|q
 ·have e:Zbs h l1="list_iterator":=by
   obtain⟨o,ho,hc,_⟩:=q
   unfold Zbs;rw[ho];dsimp only;rw[Yb (by rw[hc];intro z;injection z with z;exact absurd z (by decide))]
  rw[e]at ho
  obtain⟨o,q1,r⟩:=q
  exact .inl ⟨⟨_,ho,rfl,rfl⟩,⟨o,hl _ q1,r⟩⟩
 ·have e:Zbs h l1="tuple_iterator":=by
   obtain⟨o,ho,hc,_⟩:=q
   unfold Zbs;rw[ho];dsimp only;rw[Yc hc]
  rw[e]at ho
  obtain⟨o,q1,r⟩:=q
  exact .inr ⟨⟨_,ho,rfl,rfl⟩,⟨o,hl _ q1,r⟩⟩
noncomputable abbrev zq1 (h:Heap) (l1:Addr):Heap:=h.push {cls:=.type (Zbs h l1),data:=.fields #[.ref l1,.int 0 0]}
noncomputable abbrev zq2 (h:Heap) (l1 l2:Addr):Heap:=(zq1 h l1).push {cls:=.type (Zbs (zq1 h l1) l2),data:=.fields #[.ref l2,.int 0 0]}
noncomputable abbrev zq3 (h:Heap) (l1 l2:Addr):Heap:=(zq2 h l1 l2).push {cls:=.type "tuple",data:=.seq #[.ref h.objs.size,.ref (zq1 h l1).objs.size]}
noncomputable abbrev zq4 (h:Heap) (l1 l2:Addr):Heap:=(zq3 h l1 l2).push {cls:=.type "tuple",data:=.seq #[.none,.none]}
noncomputable abbrev zq5 (h:Heap) (l1 l2:Addr):Heap:=(zq4 h l1 l2).push {cls:=.type "zip",data:=.fields #[.none,.bool false,.bool false,.ref (zq2 h l1 l2).objs.size,.ref (zq3 h l1 l2).objs.size]}
theorem Zov (l1 l2:Addr) (xs ys:Array Value) :
  Meets (Builtin.«zip.__new__» ⟨[.type "zip",.ref l1,.ref l2],[]⟩) (λ_ R s=>SqH s.heap l1 xs/\SqH s.heap l2 ys/\R (.ok (.ret (.ref (zq4 s.heap l1 l2).objs.size))) {s with heap:=zq5 s.heap l1 l2}) :=
 .of_wp λprog w A R s h=>by
  obtain⟨hp,g,d,tk,os⟩:=s;obtain⟨b1,b2,h⟩:=h
  have hsub:=sub_zip
  have L1:SqH (Shared.heap ⟨hp,g,d,tk,os⟩) l1 xs:=b1
  have L2:SqH (Shared.heap ⟨zq1 hp l1,g,d,tk,os⟩) l2 ys:=SqH.push b2 _
  wp_walk using Zm5 L1,Zm5 L2
  exact⟨_,rfl,h⟩
theorem Zls {Q:Value->Shared->Prop} (b1:SqH s.heap l1 xs) (b2:SqH s.heap l2 ys)
  (h:∀h',IsZip h' (s.heap.objs.size+4) (s.heap.objs.size+2) (s.heap.objs.size+3) .none->IsPair h' (s.heap.objs.size+2) (.ref s.heap.objs.size) (.ref (s.heap.objs.size+1))->IsPair h' (s.heap.objs.size+3) .none .none ->
   QIt h' s.heap.objs.size l1 0 xs->QIt h' (s.heap.objs.size+1) l2 0 ys->(∀c o,s.heap.get? c=some o->h'.get? c=some o)->Q (.ref (s.heap.objs.size+4)) {s with heap:=h'}) :
  wpAny (model prog w) A (call (.type "zip") [.ref l1,.ref l2]) Q E s:=by
 refine callType_new F.called_zip (by decide) (F.typeCall_zip_2 _ _) (F.newCall_zip_2 _ _) (λobj=>F.args_object_init_3 obj _ _) F.entry_zip_new (Zov l1 l2 xs ys) ⟨b1,b2,?_⟩
 have z1:(zq1 s.heap l1).objs.size=s.heap.objs.size+1:=Heap.size_push ..
 have z2:(zq2 s.heap l1 l2).objs.size=s.heap.objs.size+2:=by rw[Heap.size_push,z1]
 have z3:(zq3 s.heap l1 l2).objs.size=s.heap.objs.size+3:=by rw[Heap.size_push,z2]
 have z4:(zq4 s.heap l1 l2).objs.size=s.heap.objs.size+4:=by rw[Heap.size_push,z3]
 have g5:(zq5 s.heap l1 l2).get? (zq4 s.heap l1 l2).objs.size=some _:=Yk _ rfl
 have g4:(zq5 s.heap l1 l2).get? (zq3 s.heap l1 l2).objs.size=some _:=Yg _ (Yk _ rfl)
 have g3:(zq5 s.heap l1 l2).get? (zq2 s.heap l1 l2).objs.size=some _:=Yg _ (Yg _ (Yk _ rfl))
 have g2:(zq5 s.heap l1 l2).get? (zq1 s.heap l1).objs.size=some _:=Yg _ (Yg _ (Yg _ (Yk _ rfl)))
 have g1:(zq5 s.heap l1 l2).get? s.heap.objs.size=some _:=Yg _ (Yg _ (Yg _ (Yg _ (Yk _ rfl))))
 have up1:∀c o,(zq1 s.heap l1).get? c=some o->(zq5 s.heap l1 l2).get? c=some o:=λc o x=>Yg _ (Yg _ (Yg _ (Yg _ x)))
 have up:∀c o,s.heap.get? c=some o->(zq5 s.heap l1 l2).get? c=some o:=λc o x=>up1 c o (Yg _ x)
 have r1:=itQ b1 g1 λo e=>up _ o e
 have r2:=itQ (b2.push _) g2 λo e=>up1 _ o e
 show _/\_
 rw[z2,z3,z4]at g5
 rw[z1,z2]at g3
 rw[z3]at g4
 rw[z1]at r2
 rw[z4]
 exact⟨⟨_,g5,rfl⟩,h _ g5 g3 g4 r1 r2 up⟩
end
section
variable {X:Cx}{pins:List (Addr×Obj)}{σ:St}{H:Hp}{s:Shared}
noncomputable def SqB (K:Frag) (t:Bool) (H:Hp) (a:Addr) (xs:List V):Prop:=match t with
 |true=>SqT K H a xs
 |false=>SqL K H a xs
noncomputable def ItB (t:Bool) (h:Heap) (i a:Addr) (k:Nat):Prop:=match t with
 |true=>h.IsTupleIter i a k
 |false=>h.IsListIter i a k
theorem SqB.of {K:Frag}{H:Hp}{a:Addr}{xs:List V} (h:SqL K H a xs\/SqT K H a xs):∃t,SqB K t H a xs:=by
 rcases h with h|h
 ·exact⟨false,h⟩
 ·exact⟨true,h⟩
theorem Zf.ZdJ {K:Frag}{t:Bool}{H H':Hp}{a:Addr}{xs:List V} (e:Zf H H') (h:SqB K t H a xs):SqB K t H' a xs:=by
 cases t
 ·exact e.seq h
 ·exact e.Zaj h
theorem ItB.keep {t:Bool}{h h':Heap}{i a:Addr}{k:Nat} (q:ItB t h i a k) (e:∀o,h.get? i=some o->h'.get? i=some o):ItB t h' i a k:=by
 cases t
 ·obtain⟨o,ho,r⟩:=q;exact⟨o,e o ho,r⟩
 ·obtain⟨o,ho,r⟩:=q;exact⟨o,e o ho,r⟩
theorem ItB.obj {t:Bool}{h:Heap}{i a:Addr}{k:Nat} (q:ItB t h i a k):∃o,h.get? i=some o/\∃v,o.data=.fields v:=by
 cases t
 ·obtain⟨o,ho,_,d⟩:=q;exact⟨o,ho,_,d⟩
 ·obtain⟨o,ho,_,d⟩:=q;exact⟨o,ho,_,d⟩
theorem Inv.sqb (I:Inv X pins σ H s) {t:Bool}{a:Addr}{xs:List V} (q:SqB X.K t H a xs):∃its:List Value,Vals xs its/\SqH s.heap a its.toArray/\∀i k,ItB t s.heap i a k->QIt s.heap i a k its.toArray:=by
 cases t
 ·obtain⟨its,r,p,_⟩:=I.list q;exact⟨its,r,.inl p.isList,λi k h=>.inl ⟨h,p.isList⟩⟩
 ·obtain⟨its,r,p,_⟩:=I.tuple q;exact⟨its,r,.inr p,λi k h=>.inr ⟨h,p⟩⟩
theorem Inv.itb (I:Inv X pins σ H s) {t:Bool}{a i:Addr}{xs:List V}{h':Heap}{k:Nat}{us:Array Value} (q:SqB X.K t H a xs) (kp:∀o,s.heap.get? a=some o->h'.get? a=some o) (u:QIt h' i a k us):ItB t h' i a k:=by
 cases t
 ·obtain⟨its,r,p,_⟩:=I.list q
  obtain⟨o,ho,hc,_⟩:=p.isList
  rcases u with⟨u,_⟩|⟨_,⟨o',ho',hc',_⟩⟩
  ·exact u
  ·rw[kp o ho]at ho'
   cases ho'
   rw[hc]at hc';injection hc' with z;exact absurd z (by decide)
 ·obtain⟨its,r,p,_⟩:=I.tuple q
  obtain⟨o,ho,hc,_⟩:=p
  rcases u with⟨_,⟨o',ho',hc',_⟩⟩|⟨u,_⟩
  ·rw[kp o ho]at ho'
   cases ho'
   rw[hc]at hc';injection hc' with z;exact absurd z (by decide)
  ·exact u
theorem Inv.ZeC (I:Inv X pins σ H s) {t:Bool}{a:Addr}{xs ys:List V} (q:SqB X.K t H a xs) (r:SqB X.K t H a ys):xs=ys:=by
 cases t
 ·exact I.Zd7 q r
 ·exact I.Zf9 q r
noncomputable def Itzq (K : Frag) (t u : Bool) (a b : Addr) : It :=
  ⟨fun i H => ∃ xs ys x y, SqB K t H a xs ∧ SqB K u H b ys ∧ xs[i]? = some x ∧ ys[i]? = some y,
   fun i H v H' => ∃ p x y, H p = none ∧ v = .ref p ∧ H' = upd H p (.tup [x, y]) ∧ (∀ xs, SqB K t H a xs → xs[i]? = some x) ∧ ∀ ys, SqB K u H b ys → ys[i]? = some y,
   fun i H => ∃ xs ys, SqB K t H a xs ∧ SqB K u H b ys ∧ (xs.length ≤ i ∨ ys.length ≤ i)⟩
theorem Zql {P:Program}{w:World}{K:Frag}{elts:List Expr} {x1}{pos:Pos}{t u:Bool}{a b z TI TO i1 i2:Addr} (D:ZipApart z TI TO i1 i2 a b) :
  Turn P w K (.Tuple elts x1 pos) (Itzq K t u a b) [z,TI,TO,i1,i2] z (λi h=>IsZip h z TI TO .none/\IsPair h TI (.ref i1) (.ref i2)/\(∃u v,IsPair h TO u v)/\ItB t h i1 a i/\ItB u h i2 b i) where
 mem:=by simp
 obj:=λi h st c hc=>by
  obtain⟨q1,q2,⟨u,v,q3⟩,q4,q5⟩:=st
  simp at hc
  rcases hc with rfl|rfl|rfl|rfl|rfl
  ·exact⟨_,q1,λv z=>by cases z⟩
  ·exact⟨_,q2,λv z=>by cases z⟩
  ·exact⟨_,q3,λv z=>by cases z⟩
  ·obtain⟨o,ho,v,d⟩:=q4.obj;exact⟨_,ho,λv z=>by rw[d]at z;cases z⟩
  ·obtain⟨o,ho,v,d⟩:=q5.obj;exact⟨_,ho,λv z=>by rw[d]at z;cases z⟩
 keep:=λi h h' st k=>by
  obtain⟨q1,q2,⟨u,v,q3⟩,q4,q5⟩:=st
  exact⟨k z (by simp) _ q1,k TI (by simp) _ q2,⟨u,v,k TO (by simp) _ q3⟩,q4.keep λo e=>k i1 (by simp) o e,q5.keep λo e=>k i2 (by simp) o e⟩
 item:=by
  intro X hP hw hK hc i pins s σ H E I hf st hg
  subst hP hw hK
  obtain⟨xs,ys,x,y,qa,qb,hx,hy⟩:=hg
  obtain⟨q1,q2,⟨u0,v0,q3⟩,q4,q5⟩:=st
  obtain⟨is1,r1,p1,w1⟩:=I.sqb qa
  obtain⟨is2,r2,p2,w2⟩:=I.sqb qb
  obtain⟨u',hu,ru⟩:=r1.get hx
  obtain⟨v,hv,rv⟩:=r2.get hy
  have oa:=p1.obj
  have ob:=p2.obj
  refine Zm4 D q1 q2 q3 (w1 _ _ q4) (w2 _ _ q5) (x:=u') (y:=v) (by simpa using hu) (by simpa using hv) λh' a1 a2 a3 a4 a5 a7=>?_
  refine⟨_,rfl,?_⟩
  refine wpAny_letOwnedTupleGo_zip (s:={s with heap:=h'}) a1 λh2 b1 b2=>?_
  have hfr:H s.heap.objs.size=none:=I.hok.fresh (Yd _)
  have I1:Inv X pins σ (upd H s.heap.objs.size (.tup [x,y])) {s with heap:=s.heap.push {cls:=.type "tuple",data:=.seq #[u',v]}}:=by
   refine I.laid (t':=s.toks) (λb u e=>Yg _ e) (Yd _) ?_
   exact⟨by show 2<=sizeLine;decide,[u',v],.cons ru (.cons rv .nil),⟨_,Yk _ rfl,rfl,_,rfl⟩⟩
  have nz:∀c∈[z,TI,TO,i1,i2],c≠s.heap.objs.size:=λc hc e=>by
   have:∃o,s.heap.get? c=some o:=by
    simp at hc
    rcases hc with rfl|rfl|rfl|rfl|rfl
    ·exact⟨_,q1⟩
    ·exact⟨_,q2⟩
    ·exact⟨_,q3⟩
    ·obtain⟨o,q,_⟩:=q4.obj;exact⟨o,q⟩
    ·obtain⟨o,q,_⟩:=q5.obj;exact⟨o,q⟩
   obtain⟨o,q⟩:=this
   exact absurd (Yj q) (by rw[e];exact YA _)
  have hf1:∀c∈[z,TI,TO,i1,i2],FpOk X pins (upd H s.heap.objs.size (.tup [x,y])) c:=λc hc=>by
   obtain⟨f0,f1,f2,f3,f4,f5⟩:=hf c hc
   exact⟨by rw[Zh (nz c hc)];exact f0,f1,f2,f3,f4,f5⟩
  have I2:Inv X pins σ (upd H s.heap.objs.size (.tup [x,y])) {s with heap:=h2}:=by
   refine Inv.Zds (s:={s with heap:=s.heap.push {cls:=.type "tuple",data:=.seq #[u',v]}}) (t':=s.toks) (fp:=[z,TI,TO,i1,i2]) I1 (λc o hc e=>?_) hf1
   simp only[Yl,List.not_mem_nil,or_false,not_or]at hc
   obtain⟨c1,c2,c3,c4,c5⟩:=hc
   refine b2.extBut _ _ c1 ?_
   by_cases hs:c=s.heap.objs.size
   ·subst hs
    have e':(s.heap.push {cls:=.type "tuple",data:=.seq #[u',v]}).get? s.heap.objs.size=some _:=Yk _ rfl
    have ee:o={cls:=.type "tuple",data:=.seq #[u',v]}:=by
     have:=e.symm.trans e'
     exact Yz this
    rw[ee];exact a5
   ·have:s.heap.get? c=some o:=by
     rcases Heap.get?_push_cases e with⟨q,_⟩|q
     ·exact absurd q hs
     ·exact q
    exact a7 c o c1 c3 c4 c5 this
  have ka:∀o,s.heap.get? a=some o->h'.get? a=some o:=λo e=>a7 a o D.l1z D.l1TO D.l1i1 D.l1i2 e
  have kb:∀o,s.heap.get? b=some o->h'.get? b=some o:=λo e=>a7 b o D.l2z D.l2TO D.l2i1 D.l2i2 e
  refine⟨.ref s.heap.objs.size,_,I2,rfl,⟨_,x,y,hfr,rfl,rfl,λxs' q'=>?_,λys' q'=>?_⟩,⟨b1,?_,⟨u',v,?_⟩,?_,?_⟩,λc hc=>(hf1 c hc).1⟩
  ·rw[I.ZeC q' qa];exact hx
  ·rw[I.ZeC q' qb];exact hy
  ·exact b2.extBut _ _ D.TIz (a7 _ _ D.TIz D.TITO D.TIi1 D.TIi2 q2)
  ·exact b2.extBut _ _ D.TOz a2
  ·exact(I.itb qa ka a3).keep λo e=>b2.extBut _ _ D.i1z e
  ·exact(I.itb qb kb a4).keep λo e=>b2.extBut _ _ D.i2z e
 done:=by
  intro X hP hw hK hc i pins s σ H E I hf st hg
  subst hP hw hK
  obtain⟨xs,ys,qa,qb,hx⟩:=hg
  obtain⟨q1,q2,⟨u0,v0,q3⟩,q4,q5⟩:=st
  obtain⟨is1,r1,p1,w1⟩:=I.sqb qa
  obtain⟨is2,r2,p2,w2⟩:=I.sqb qb
  refine Zou (I.ok.hd hc) D q1 q2 q3 (w1 _ _ q4) (w2 _ _ q5) ?_ λh' k=>⟨rfl,I.Zds (t':=s.toks) (fp:=[z,TI,TO,i1,i2]) (λc o hc e=>?_) hf⟩
  ·rcases hx with hx|hx
   ·left;simp;rw[<-r1.length];exact hx
   ·right;simp;rw[<-r2.length];exact hx
  ·simp only[Yl,List.not_mem_nil,or_false,not_or]at hc
   obtain⟨c1,c2,c3,c4,c5⟩:=hc
   exact k c o c1 c3 c4 c5 e
 self:=λ_ _ _ _ _ st h=>wpAny_pyIter_zip st.1 h
noncomputable def Zsn (K:Frag) (ta:TA):TI:=fun σ H R=>ta σ H λvs H1=>∃a b t u xs ys,vs=[.ref a,.ref b]/\SqB K t H1 a xs/\SqB K u H1 b ys/\R (Itzq K t u a b) H1
theorem Zpw {K:Frag}{elts:List Expr} {x1}{tp:Pos}{e1 e2:Expr}{ta:TA}{p pos:Pos} (hK:X.K=K) (hg:Gl X "zip") (hm:X.mg "zip"=none) (ha:PA X [e1,e2] ta) (he:starEach [e1,e2] X.env=(false,eval e1 X.env)::starEach [e2] X.env:=by rfl) (hpl:(backTo pos (starEach [e2] X.env)).any (·.1)=false:=by rfl) :
  PI X (.Tuple elts x1 tp) (.Call (.Name "zip" p) [e1,e2] [] pos) (Zsn K ta):=by
 subst hK
 intro pins s σ H R I h
 refine wpAny_Call_Name_kw (Zbp I hg hm Zh0 ?_)
 refine PyProof.Rows.callWith_type1 (thn (ha pos pins s σ H _ I h) λus s1 ⟨vs,H1,I1,r1,a,b,t,u,xs,ys,e1,qa,qb,q⟩=>?_) he hpl
 subst e1
 obtain⟨u',v,rfl,ru,rv⟩:=r1.two
 cases(show u'=Value.ref a from ru)
 cases(show v=Value.ref b from rv)
 obtain⟨is1,rr1,p1,_⟩:=I1.sqb qa
 obtain⟨is2,rr2,p2,_⟩:=I1.sqb qb
 refine Zls p1 p2 λh' c1 c2 c3 c4 c5 c7=>?_
 refine wpAny_pyIter_zip c1 ?_
 have l1:a<s1.heap.objs.size:=by obtain⟨o,e⟩:=p1.obj;exact Yj e
 have l2:b<s1.heap.objs.size:=by obtain⟨o,e⟩:=p2.obj;exact Yj e
 have sm:∀b,s1.heap.objs.size<=b->FpOk X pins H1 b:=λb hb=>I1.Zjw hb (I1.hok.fresh hb)
 refine⟨_,[s1.heap.objs.size+4,s1.heap.objs.size+2,s1.heap.objs.size+3,s1.heap.objs.size,s1.heap.objs.size+1],_,_,H1,rfl,I1.kept (t':=s1.toks) c7,Zql (t:=t) (u:=u) (a:=a) (b:=b) ?_,⟨c1,c2,⟨_,_,c3⟩,I1.itb qa (λo e=>c7 _ o e) c4,I1.itb qb (λo e=>c7 _ o e) c5⟩,λc hc=>?_,q⟩
 ·exact Zr6 _ _ _ l1 l2
 ·simp at hc
  rcases hc with rfl|rfl|rfl|rfl|rfl<;>exact sm _ (by omega)
end
theorem Zhs {f:Nat->Int}{n p:Nat} (hp:p<n):-1<=ZeA f p/\ZeA f p<p/\(p:Int)<ZeB f n p/\ZeB f n p<=n:=by
 obtain⟨hA,hB⟩:=ZbQ (Zfm (f:=f) hp)
 have a1:-1<=ZeA f p/\ZeA f p<p:=by
  rcases hA with hA|⟨q,hA⟩
  ·rw[Zcl hA];omega
  ·rw[Z9 hA];have:=hA.1;omega
 have a2:(p:Int)<ZeB f n p/\ZeB f n p<=n:=by
  rcases hB with hB|⟨q,hB⟩
  ·rw[ZbP hB];omega
  ·rw[Zaa hB];have:=hB.1;have:=hB.2.1;omega
 exact⟨a1.1,a1.2,a2.1,a2.2⟩
theorem pmz3:(0:Int)<10 ^ Int.toNat 64*10 ^ Int.toNat 64*10 ^ Int.toNat 64:=by decide +kernel
theorem Zpx {K:Frag}{Hx:Hp}{l q:Addr}{L:List Nat} (h1:Hx l=some (.lst (ZT L))) (h2:Hx q=some (.lst [])):EqD K Hx 3 (V.ref l) (V.ref q) (decide (L=[])):=by
 have hh:=ZuK (n:=2) (K:=K) (H:=Hx) Zjg (V.ref l) (V.ref q) (L.map λ(q:Nat)=>(q:Int)) [] (ZmV (SqL.of (by rw[h1];simp[ZT,Function.comp_def]))) (ZmV (ns:=[]) (SqL.of h2))
 have e:decide (L.map (λ(q:Nat)=>(q:Int))=[])=decide (L=[]):=by cases L<;>simp
 rw[e]at hh;exact hh
noncomputable def CDivL (i j:Int):Prop:=0<j/\j<18446744073709551616
theorem Zm6 {X:Cx}:OpR X (binaryOp .FloorDiv) (rI CDivL λi j=>.int (i / j)):=opI λi j _ _ _ _ _ hc q=>by
 have h1:(0:Int)<j:=hc.1
 have h2:j<18446744073709551616:=hc.2
 refine floordiv_int (by omega) (by rw[Int.fdiv_eq_ediv_of_nonneg i (by omega)];exact q) (.inl (PyProof.noPylong_of_log2 ?_))
 have h3:j.natAbs<2 ^ 64:=by omega
 have:j.natAbs.log2<64:=(Nat.log2_lt (by omega)).mpr h3
 omega
end L2
namespace L2
theorem snoc_cases {α:Type} (xs:List α):xs=[]\/∃ys y,xs=ys++[y]:=by
 rcases List.eq_nil_or_concat xs with h|⟨ys,y,h⟩
 ·exact .inl h
 ·exact .inr ⟨ys,y,by rw[h,List.concat_eq_append]⟩
end L2
namespace L2
open PySem PySem.Spec PyProof.Rows PySem.W
end L2
namespace L2
open PySem PySem.Spec PyProof.Rows PySem.W
noncomputable def Once (k:Nat) (ss ls:List Int):Prop:=ss=((List.range k).map λ(j:Nat)=>(j:Int)).filter (λj=>decide (j∉ls))/\ls=((List.range k).map λ(j:Nat)=>(j:Int)).filter (λj=>decide (j∈ls))
noncomputable instance (k:Nat) (ss ls:List Int):Decidable (Once k ss ls):=inferInstanceAs (Decidable (_/\_))
theorem Zlt {K:Frag}{H:Hp}{n:Nat}{a c:Addr}{xs:List V} (h1:H a=some (.lst xs)) (h2:H c=some (.lst [])):EqD K H (n+1) (.ref a) (.ref c) (decide (xs=[])):=by
 cases xs with
 |nil =>
  have:=EqD.lst (K:=K) (H:=H) (n:=n) (λ_=>true) (SqL.of h1) (SqL.of h2) rfl λj x y e1 e2=>by simp at e1
  simpa using this
 |cons x xs =>
  have:=EqD.len (K:=K) (H:=H) (n:=n) (SqL.of h1) (SqL.of h2) (by simp)
  simpa using this
section
variable {X:Cx}
theorem ZuP:OpR X (compareOp .IsNot) (λx y H Q=>∃a b,x=.bl a/\y=.bl b/\Q (.bl (a != b)) H):=by
 intro pins s σ H x y v u Q I rx ry h
 obtain⟨a,b,rfl,rfl,q⟩:=h
 cases rx
 cases ry
 exact isnot_bool (ZO I q rfl)
end
section
variable {N:Nat}{k:Nat->Int}{cmp:Nat->Nat->(Bool->Shared->Prop)->Shared->Prop}{s:Shared}{p:Array Nat}
noncomputable def kk (k:Nat->Int) (p:Array Nat) (i:Nat):Int:=k (p.getD i 0)
end
noncomputable def goN:Nat->Nat->Int
 |0,_=>1
 |r+1,j=>((List.range (j+1)).map λi=>goN r (i+1)).sum
theorem Zm7 (r j:Nat):goN (r+1) (j+1)=goN (r+1) j+goN r (j+2):=by
 show((List.range (j+1+1)).map λi=>goN r (i+1)).sum=_
 rw[YQ,YU,List.sum_append]
 simp[goN]
theorem Zqm (r:Nat):goN (r+1) 0=goN r 1:=by simp[goN]
noncomputable def Zgs (r st d:Nat):Int:=((List.range d).map λf=>goN r (st+1-f)).sum
theorem Zi1:isSubtype (.type "range_iterator") (.type "reversed")=pure false:=by rw[isSubtype_type];kernel_rfl
section
variable {prog:Program}{w:World}{A:Around}{E:Value->Shared->Prop}{s:Shared}
noncomputable def ZjN (a n:Int):Obj:={cls:=.type "range_iterator",data:=.fields #[rawInt a,rawInt n,rawInt (-1)]}
noncomputable def Zeh (a b:Int):Prop:=(Builtin.Range.rangeFitsLong a&&Builtin.Range.rangeFitsLong b&&Builtin.Range.rangeFitsLong 1&&Builtin.Range.rangeFitsLong (-1)&&Builtin.Range.rangeFitsLong (a-1)&&Builtin.Range.rangeFitsLong (Builtin.Range.rangeSize a b 1))=true
theorem ZjO {r:Addr}{a b:Int}{t u v:Tok}{Q:Value->Shared->Prop} (hr:IsRange s.heap r a b 1 t u v) (hsm:Zeh a b)
  (h:Q (.ref s.heap.objs.size) {s with heap:=s.heap.push (ZjN (a+(Builtin.Range.rangeSize a b 1-1)*1) (Builtin.Range.rangeSize a b 1))}):wpAny (model prog w) A (call (.builtin "range.__reversed__") [.ref r]) Q E s:=by
 have hT:s.TypeIs (.ref r) "range":=⟨_,hr,rfl⟩
 have hr':s.heap.get? r=some {cls:=.type "range",dict:=none,data:=.fields #[.int a t,.int b u,.int 1 v],slots:=#[]}:=hr
 refine wpAny_call_entry F.slot_range_reversed hT F.entry_range_reversed ?_ (F.args_range_reversed_1 _)
 unfold Builtin.«range.__reversed__»
 refine Ya (wpAny_of_eq (a:=Value.ref r) rfl ?_)
 obtain⟨hp,g,d,tk,os⟩:=s
 have hl:=hr'
 unfold Zeh at hsm
 simp only[Builtin.Range.rangeFields]
 wp_walk
 refine⟨_,rfl,?_⟩
 unfold ZjN at h
 dsimp only at h⊢
 rw[Yc hsm]
 exact h
theorem Zht {r:Addr}{a b:Int}{t u v:Tok}{Q₁:Value->Shared->Prop} (hr:IsRange s.heap r a b 1 t u v) (hsm:Zeh a b)
  (h:Q₁ (.ref s.heap.objs.size) {s with heap:=s.heap.push (ZjN (a+(Builtin.Range.rangeSize a b 1-1)*1) (Builtin.Range.rangeSize a b 1))}) :
  codeAny (model prog w) A (.call (.builtin "reversed.__new__") ⟨[.type "reversed",.ref r],[]⟩) (wants Q₁ E) s:=by
 have hT:s.TypeIs (.ref r) "range":=⟨_,hr,rfl⟩
 refine codeAny_of_tree ?_
 show wpAny _ A.in1 (do checkBuiltinCall "reversed.__new__" ⟨[.type "reversed",.ref r],[]⟩;again (.builtin "reversed.__new__" ⟨[.type "reversed",.ref r],[]⟩)) _ _ s
 refine Ya (wpAny_of_eq (F.newCall_reversed_1 _) (Ye ⟨plainId_quiet F.plain_reversed_new _,codeAny_builtin F.entry_reversed_new ?_⟩))
 rw[Around.under_plainId F.plain_reversed_new _]
 unfold Builtin.«reversed.__new__»
 refine Ya (wpAny_of_eq (newClass_reversed _) ?_)
 try dsimp only
 refine Ya (wpAny_of_eq (a:=()) (by first|rfl|kernel_rfl) ?_)
 refine Ya (wpAny_of_eq (a:=()) (by first|rfl|kernel_rfl) ?_)
 try dsimp only
 refine Ya (wpAny_specialOf hT F.slot_range_reversed.lookup ?_)
 try dsimp only
 refine Ya (wpAny_of_eq (F.slot_range_reversed.bind _) ?_)
 try dsimp only
 first
 |rw[Yb (show ¬ ((Value.builtin "range.__reversed__"==Value.none)=true)from Yy)]
 |(show wpAny _ _ (if (Value.builtin "range.__reversed__"==Value.none)=true then _ else _) _ _ _;rw[Yb (show ¬ ((Value.builtin "range.__reversed__"==Value.none)=true)from Yy)])
 refine Ya (wpAny_rule ?_)
 refine Ya (m:=runValue (.call (.builtin "range.__reversed__") ⟨[.ref r],[]⟩)) (show wpAny _ _ (call (.builtin "range.__reversed__") [.ref r]) _ _ _ from ZjO hr hsm ?_)
 first
 |exact Ye h
 |exact Ya (Ye (Ye h))
theorem Zhu {r:Addr}{a b:Int}{t u v:Tok}{Q:Value->Shared->Prop} (hr:IsRange s.heap r a b 1 t u v) (hsm:Zeh a b)
  (h:Q (.ref s.heap.objs.size) {s with heap:=s.heap.push (ZjN (a+(Builtin.Range.rangeSize a b 1-1)*1) (Builtin.Range.rangeSize a b 1))}):wpAny (model prog w) A (call (.type "reversed") [.ref r]) Q E s:=by
 refine callType_other (U:="range_iterator") (Q₁:=λobj s₁=>obj=.ref s.heap.objs.size/\s₁={s with heap:=s.heap.push (ZjN (a+(Builtin.Range.rangeSize a b 1-1)*1) (Builtin.Range.rangeSize a b 1))}) (by decide +kernel) F.create_reversed ⟨_,_,F.mro_reversed⟩ F.made_reversed Zi1 (F.typeCall_reversed_1 _) (Zht hr hsm ⟨rfl,rfl⟩) ?_
 rintro obj s₁ ⟨rfl,rfl⟩
 exact⟨⟨_,Yk _ rfl,rfl⟩,h⟩
end
theorem Zqn {a b:Int} (ha:-(2 ^ 62)<=a) (ha':a<2 ^ 62) (hb:-(2 ^ 62)<=b) (hb':b<2 ^ 62):Zeh a b:=by
 unfold Zeh
 rw[rangeSize_one]
 simp only[Builtin.Range.rangeFitsLong,Bool.and_eq_true,Bool.or_eq_true,decide_eq_true_eq,beq_iff_eq]
 split<;>omega
noncomputable def Itrv (lo:Int) (n:Nat):It:=⟨λi _=>i<n,λi H x H'=>H'=H/\x=.int (lo+n-1-i),λi _=>n<=i⟩
theorem ZiE {P:Program}{w:World}{K:PySem.W.Frag}{tg:Expr} (it:Addr) (lo:Int) (n:Nat):Turn P w K tg (Itrv lo n) [it] it (λi h=>IsRangeIter h it (lo+n-1+(i:Nat)*(-1)) ((n:Int)-(i:Nat)) (-1)) where
 mem:=by simp
 obj:=λi h st b hb=>by
  have e:b=it:=by simpa using hb
  subst e
  exact⟨_,st,λv z=>by
   have z':Data.fields _=Data.cell v:=z
   cases z'⟩
 keep:=λi h h' st k=>k it (by simp) _ st
 item:=by
  intro X hP hw hK hc i pins s σ H E I hf st hg
  subst hP hw hK
  obtain⟨f0,f1,f2,f3,f4,f5⟩:=hf it (by simp)
  have W:=Walks.range (prog:=X.prog) (w:=X.w) (I.ok.hd hc) it (lo+n-1) (-1) n
  refine W.item i s _ _ hg st λv h' tk hv st' kk=>?_
  obtain⟨t,rfl⟩:=hv
  have I1:Inv X pins σ H {s with heap:=h',toks:=tk}:=I.turned (λb o hb e=>kk b o (by simpa using hb) e) f0 f1 f3 f4 f5
  refine⟨_,rfl,Zpb (s:={s with heap:=h',toks:=tk}) (n:="range_iterator") st' rfl rfl (by decide) ⟨.int (lo+n-1-i),H,I1,⟨t,?_⟩,⟨rfl,rfl⟩,st',λb hb=>(hf b hb).1⟩⟩
  congr 1;omega
 done:=by
  intro X hP hw hK hc i pins s σ H E I hf st hg
  subst hP hw hK
  obtain⟨f0,f1,f2,f3,f4,f5⟩:=hf it (by simp)
  exact wpAny_pyNext_range_end (I.ok.hd hc) st (by have:n<=i:=hg;omega) λh' eb=>⟨rfl,I.turned (t':=s.toks) (λb o hb e=>eb b o hb e) f0 f1 f3 f4 f5⟩
 self:=λ_ _ _ _ _ st h=>wpAny_pyIter_rangeiter st h
section
variable {X:Cx}{tg:Expr}
noncomputable def iRevR (ta:TA):TI:=fun σ H R=>ta σ H λvs H1=>∃(a:Addr) (lo hi:Int),vs=[.ref a]/\H1 a=some (.rng lo hi)/\-(2 ^ 62)<=lo/\lo<2 ^ 62/\-(2 ^ 62)<=hi/\hi<2 ^ 62/\R (Itrv lo (hi-lo).toNat) H1
theorem ZuQ {e:Expr}{ta:TA}{p pos:Pos} (hg:Gl X "reversed") (hm:X.mg "reversed"=none) (ha:PA X [e] ta) (hs:starEach [e] X.env=[(false,eval e X.env)]:=by rfl):PI X tg (.Call (.Name "reversed" p) [e] [] pos) (iRevR ta):=by
 intro pins s σ H R I h
 refine wpAny_Call_Name_kw (Zbp I hg hm PyProof.Rows.boot_reversed ?_)
 refine PyProof.Rows.callWith_type1 (thn (ha pos pins s σ H _ I h) λus s1 ⟨vs,H1,I1,r1,a,lo,hi,e1,hq,h1,h2,h3,h4,q⟩=>?_) hs (by rfl)
 subst e1
 obtain⟨u,rfl,ru⟩:=r1.one
 cases(show u=Value.ref a from ru)
 obtain⟨t,u,v,hob⟩:=(show ∃t u v,s1.heap.get? a=some {cls:=.type "range",data:=.fields #[.int lo t,.int hi u,.int 1 v]}from I1.hok a _ hq)
 refine Zhu hob (Zqn h1 h2 h3 h4) ?_
 refine wpAny_pyIter_rangeiter (it:=s1.heap.objs.size) (x:=lo+(Builtin.Range.rangeSize lo hi 1-1)*1) (left:=Builtin.Range.rangeSize lo hi 1) (step:=-1) (Yk _ rfl) ?_
 refine⟨s1.heap.objs.size,[s1.heap.objs.size],_,_,H1,rfl,I1.kept (t':=s1.toks) λb o e=>Yg _ e,ZiE _ lo (hi-lo).toNat,?_,λb hb=>?_,q⟩
 ·have e2:(((hi-lo).toNat:Nat):Int)-((0:Nat):Int)=Builtin.Range.rangeSize lo hi 1:=by rw[rangeSize_one];split<;>omega
  have e1:lo+((hi-lo).toNat:Nat)-1+((0:Nat):Int)*(-1)=lo+(Builtin.Range.rangeSize lo hi 1-1)*1:=by rw[<-e2];omega
  show IsRangeIter _ _ (lo+((hi-lo).toNat:Nat)-1+((0:Nat):Int)*(-1)) ((((hi-lo).toNat:Nat):Int)-((0:Nat):Int)) (-1)
  rw[e1,e2]
  exact Yk _ rfl
 ·have e:b=s1.heap.objs.size:=by simpa using hb
  subst e
  exact I1.Zjw (Yd _) (I1.hok.fresh (Yd _))
end
end L2
namespace L2
noncomputable def ZaL:List Int->Int->Nat×Int
 |[],x=>(0,x)
 |a::ws,x=>if a<=x then ((ZaL ws (x-a)).1+1,(ZaL ws (x-a)).2)else (0,x)
theorem Zm8:∀(ws:List Int) (x:Int),0<=x->x<ws.sum->(ZaL ws x).1<ws.length/\0<=(ZaL ws x).2/\(ZaL ws x).2<ws.getD (ZaL ws x).1 0
 |[],x,h0,h1=>by simp at h1;omega
 |a::ws,x,h0,h1=>by
  rw[List.sum_cons]at h1
  unfold ZaL
  by_cases h:a<=x
  ·rw[Yc h]
   have ih:=Zm8 ws (x-a) (by omega) (by omega)
   refine⟨by simp;omega,ih.2.1,?_⟩
   simpa using ih.2.2
  ·rw[Yb h]
   exact⟨by simp,h0,by simp;omega⟩
noncomputable def ZjP (r st:Nat):List Int:=(List.range (st+1)).map λf=>goN r (st+1-f)
theorem Zqo (r st:Nat):(ZjP r st).length=st+1:=by simp[ZjP]
theorem Zlu (r:Nat):∀st,(ZjP r st).sum=goN (r+1) st
 |0=>by simp[ZjP,goN]
 |st+1=>by
  rw[Zm7,<-Zlu r st]
  unfold ZjP
  rw[List.range_succ_eq_map,YE,List.sum_cons,YV,Int.add_comm]
  congr 2
  refine List.map_congr_left λf _=>?_
  show goN r (st+1+1-(f+1))=_
  congr 1;omega
theorem Zji:∀r j,1<=goN r j
 |0,_=>by simp[goN]
 |r+1,0=>by rw[Zqm];exact Zji r 1
 |r+1,j+1=>by
  rw[Zm7]
  have:=Zji (r+1) j
  have:=Zji r (j+2)
  omega
theorem Zow {ws:List Int}{i:Nat}{x a:Int} (h:ws[i]?=some a):ZaL (ws.drop i) x=if a<=x then ((ZaL (ws.drop (i+1)) (x-a)).1+1,(ZaL (ws.drop (i+1)) (x-a)).2)else (0,x):=by
 obtain⟨h1,h2⟩:=Yq.mp h
 rw[List.drop_eq_getElem_cons h1,h2];rfl
end L2
namespace L2
open PySem PySem.Spec PyProof.Rows PySem.W
end L2
namespace L2
theorem Zge:∀(ws:List Int) (x:Int),x=(ws.take (ZaL ws x).1).sum+(ZaL ws x).2
 |[],x=>by simp[ZaL]
 |a::ws,x=>by
  unfold ZaL
  by_cases h:a<=x
  ·rw[Yc h]
   have:=Zge ws (x-a)
   show x=((a::ws).take ((ZaL ws (x-a)).1+1)).sum+_
   rw[List.take_succ_cons,List.sum_cons]
   omega
  ·rw[Yb h];simp
theorem Zox {r st d:Nat} (h:d<=st+1):((ZjP r st).take d).sum=Zgs r st d:=by
 unfold ZjP Zgs
 rw[<-List.map_take,List.take_range,Nat.min_eq_left h]
theorem ZeD (r st d:Nat):Zgs r st (d+1)=Zgs r st d+goN r (st+1-d):=by
 unfold Zgs
 rw[YQ,YU,List.sum_append];simp
theorem ZeE (r st:Nat) {d e:Nat} (h:d<=e):Zgs r st d<=Zgs r st e:=by
 induction h with
 |refl=>exact Int.le_refl _
 |@step m _ ih =>
  rw[ZeD]
  have:=Zji r (st+1-m)
  omega
theorem Zqp (r st:Nat):Zgs r st (st+1)=goN (r+1) st:=by
 rw[<-Zlu,<-Zox (Yd _),List.take_of_length_le (by rw[Zqo];exact Yd _)]
noncomputable def rk:Nat->List Nat->Int
 |_,[]=>0
 |st,d::ds=>Zgs ds.length st d+rk (st-d+1) ds
noncomputable def Ok:Nat->List Nat->Prop
 |_,[]=>True
 |st,d::ds=>d<=st/\Ok (st-d+1) ds
theorem Zso:∀(ds:List Nat) (st:Nat),Ok st ds->0<=rk st ds/\rk st ds<goN ds.length st
 |[],st,_=>by simp[rk,goN]
 |d::ds,st,h=>by
  obtain⟨h1,h2⟩:=Zso ds (st-d+1) h.2
  have hd:d<=st:=h.1
  unfold rk
  rw[Yo]
  have h3:=ZeE ds.length st (Ys d)
  have h4:=ZeE ds.length st (show d+1<=st+1 by omega)
  rw[Zqp,ZeD]at h4
  have h5:Zgs ds.length st 0=0:=rfl
  rw[show st-d+1=st+1-d by omega]at h1 h2⊢
  omega
open PySem in
theorem Zsp:∀(ds es:List Nat) (st:Nat),ds.length=es.length->Ok st ds->Ok st es->(HT.lexLt (ds.map λ(d:Nat)=>(d:Int)) (es.map λ(d:Nat)=>(d:Int))=true↔rk st ds<rk st es)
 |[],[],st,_,_,_=>by simp[rk,HT.lexLt]
 |d::ds,e::es,st,hl0,h1,h2=>by
  have hl:ds.length=es.length:=by simpa using hl0
  clear hl0
  obtain⟨a0,a1⟩:=Zso ds (st-d+1) h1.2
  obtain⟨b0,b1⟩:=Zso es (st-e+1) h2.2
  have hd:d<=st:=h1.1
  have he:e<=st:=h2.1
  rw[rk,rk,YE,YE,HT.Zoj]
  rcases Nat.lt_trichotomy d e with z|z|z
  ·have h3:=ZeE ds.length st (show d+1<=e by omega)
   rw[ZeD]at h3
   rw[Yb (by omega),decide_eq_true_iff]
   rw[show st-d+1=st+1-d by omega]at a1 a0⊢
   rw[<-hl]
   exact⟨λ_=>by omega,λ_=>by omega⟩
  ·subst z
   have ih:=Zsp ds es (st-d+1) hl h1.2 h2.2
   rw[Yc rfl,ih,<-hl]
   exact⟨λh=>by omega,λh=>by omega⟩
  ·have h3:=ZeE ds.length st (show e+1<=d by omega)
   rw[ZeD]at h3
   rw[Yb (by omega),decide_eq_true_iff]
   rw[show st-e+1=st+1-e by omega,<-hl]at b1
   rw[show st-e+1=st+1-e by omega,<-hl]
   rw[show st-e+1=st+1-e by omega]at b0
   exact⟨λh=>by omega,λh=>by omega⟩
end L2
namespace L2
open PySem PySem.Spec PyProof.Rows PySem.W
end L2
namespace L2
open PySem PySem.Spec PyProof.Rows PySem.W
noncomputable def Zjj (P:Program) (w:World) (K:Frag) (mg:Str->Option Value) (base:Heap) (c:Str) (k:Nat) (ps:List Str) (sp:Sp):Prop :=
 ∃f fd,Mk K (clsAt mg c) f/\mg c=some (.ref (clsAt mg c))/\Binds K fd ps []/\FnOk P w K mg base (CXE P w) k f fd ps sp
noncomputable def ZaF (P:Program) (w:World) (K:Frag) (mg:Str->Option Value) (base:Heap) (c m:Str) (k:Nat) (ps:List Str) (sp:Sp):Prop :=
 ∃f fd,Cls K (clsAt mg c)/\Meth K (clsAt mg c) m f/\Binds K fd ps []/\FnOk P w K mg base (CXE P w) k f fd ps sp
section
variable {X:Cx}{a:Expr}{ta:TE}{pos:Pos}
noncomputable def tFldC (C:Addr) (ta:TE) (f:Str):TE:=fun σ H Q=>ta σ H λx H1=>∃(o dx:Addr) (fs:List (Str×V)) (v:V),x=.ref o/\H1 o=some (.ins C dx fs)/\fs.lookup f=some v/\Q v H1
theorem Z5 {K:Frag}{C:Addr}{f:Str} (hK:X.K=K) (c:Cls K C) (n:NoAttr K C f) (he:PE X a ta) (hb:attributeBase a f X.env (eval a X.env)=eval a X.env:=by rfl):PE X (.Attribute a f pos) (tFldC C ta f):=by
 subst hK
 intro pins s σ H Q I h
 refine Zuu hb (thn (he pins s σ H _ I h) λu s1 ⟨x,H1,I1,rx,o,dx,fs,v,ex,ea,l,q⟩=>?_)
 subst ex
 obtain rfl:u=Value.ref o:=rx
 exact Zoe I1 ea c n l λu' s2 I2 ru=>⟨v,H1,I2,ru,q⟩
noncomputable def sFldC (C:Addr) (ta tv:TE) (f:Str):TS:=λD σ H=>tv σ H λy H1=>ta σ H1 λx H2=>∃(o dx:Addr) (fs:List (Str×V)),x=.ref o/\H2 o=some (.ins C dx fs)/\fs.length<1000/\D.nx σ (upd H2 o (.ins C dx (Zbq f y fs)))
theorem Zgf {K:Frag}{C:Addr}{f:Str}{value:Expr}{tv:TE}{pos':Pos} (hK:X.K=K) (c:Cls K C) (n:NoAttr K C f) (ha:PE X a ta) (hv:PE X value tv) (hs:swapsWith value (some (.Attribute a f pos')) pos.line X.env=pure false:=by rfl):PS X (.Assign [.Attribute a f pos'] value pos) (sFldC C ta tv f):=by
 subst hK
 intro pins s σ H D I h
 refine plainObj_wpAny_Assign_Attribute (thn (hv pins s σ H _ I h) λu s1 ⟨y,H1,I1,ry,q⟩=>thn (ha pins s1 σ H1 _ I1 q) λov s2 ⟨x,H2,I2,rx,o,dx,fs,ex,ea,l,q2⟩=>?_) hs
 subst ex
 obtain rfl:ov=Value.ref o:=rx
 exact Zof I2 ea c n l ry λs3 I3=>⟨σ,_,I3,q2⟩
theorem Zm9 {x:Str}{k:Nat}{ps:List Str}{sp:Sp}{E:XK}{e:Expr}{es:List Expr}{t:TA}{p:Pos}{mg:Str->Option Value} (hmg:X.mg=mg) (C:Zjj X.prog X.w X.K mg X.base x k ps sp) (hr:Room (k+1) X.A) (hg:Gl X x) (hx:Passes (CXE X.prog X.w) X E)
  (ha:PA X (e::es) t) (hdb:(x==("__debug__":Str))=false:=by decide) (he:starEach (e::es) X.env=(false,eval e X.env)::starEach es X.env:=by rfl) (hpl:(backTo pos (starEach es X.env)).any (·.1)=false:=by rfl) :
  PE X (.Call (.Name x p) (e::es) [] pos) (ZrT (clsAt mg x) sp [] E t):=by
 subst hmg
 obtain⟨f,fd,hM,hm,hb,F⟩:=C
 exact Zux hM F hr hg hm hb .nil hx ha hdb he hpl
theorem Zfq {c m:Str}{k:Nat}{ps:List Str}{sp:Sp}{E:XK}{e:Expr}{es:List Expr}{t:TA}{apos:Pos}{mg:Str->Option Value} (hmg:X.mg=mg) {pl:Sem Bool} (C:ZaF X.prog X.w X.K mg X.base c m k ps sp) (hr:Room k X.A) (hx:Passes (CXE X.prog X.w) X E) (he:PE X a ta)
  (ha:PA X (e::es) t) (hst:starEach (e::es) X.env=(false,eval e X.env)::starEach es X.env:=by rfl) (hpl:(backTo pos (starEach es X.env)).any (·.1)=false:=by rfl)
  (ht:eval (.Call (.Attribute a m apos) (e::es) [] pos) X.env=(do
   let ov <-eval a X.env
   standAt apos.atName
   let (f,first) <-holding [ov] (getMethod ov m pl)
   callWith pos f first (backTo pos (starEach (e::es) X.env)) (backToKw pos (keywordEach [] X.env))):=by rfl) :
  PE X (.Call (.Attribute a m apos) (e::es) [] pos) (ZmN (clsAt mg c) m sp [] E ta t):=by
 subst hmg
 obtain⟨f,fd,hc,hm,hb,F⟩:=C
 exact Zuw he hc hm F hr hb .nil hx ha hst hpl ht
theorem Zh5 {c m:Str}{k:Nat}{ps:List Str}{sp:Sp}{E:XK}{apos:Pos}{mg:Str->Option Value} (hmg:X.mg=mg) {pl:Sem Bool} (C:ZaF X.prog X.w X.K mg X.base c m k ps sp) (hr:Room k X.A) (hx:Passes (CXE X.prog X.w) X E) (he:PE X a ta)
  (ht:eval (.Call (.Attribute a m apos) [] [] pos) X.env=(do
   let ov <-eval a X.env
   standAt apos.atName
   let (f,first) <-holding [ov] (getMethod ov m pl)
   callWith pos f first (backTo pos (starEach [] X.env)) (backToKw pos (keywordEach [] X.env))):=by rfl) :
  PE X (.Call (.Attribute a m apos) [] [] pos) (ZmN (clsAt mg c) m sp [] E ta tNil):=by
 subst hmg
 obtain⟨f,fd,hc,hm,hb,F⟩:=C
 exact ZrU he hc hm F hr hb .nil hx ht
end
end L2
namespace L2
open PySem PySem.Spec PyProof.Rows
section
variable {κ:Type} [DecidableEq κ]
noncomputable def Zav (kvs:List (κ×V)) (k:κ):Option V:=(kvs.find? λkv=>decide (kv.1=k)).map (·.2)
noncomputable def putK (kvs:List (κ×V)) (k:κ) (v:V):List (κ×V) :=
 if (kvs.any λkv=>decide (kv.1=k))=true then kvs.map (λkv=>if kv.1=k then (kv.1,v)else kv)else kvs++[(k,v)]
theorem ZaZ {p:κ×V}{r:List (κ×V)}{k:κ} (e:p.1=k):Zav (p::r) k=some p.2:=by simp[Zav,List.find?_cons,e]
theorem Za0 {p:κ×V}{r:List (κ×V)}{k:κ} (e:¬ p.1=k):Zav (p::r) k=Zav r k:=by simp[Zav,List.find?_cons,e]
theorem Zfr (k:κ):∀kvs:List (κ×V),(kvs.any λkv=>decide (kv.1=k))=(Zav kvs k).isSome
 |[]=>rfl
 |p::r=>by
  rw[List.any_cons]
  by_cases e:p.1=k
  ·simp only[ZaZ e,YG e,Bool.true_or,Option.isSome_some]
  ·rw[Za0 e,YD e,Bool.false_or];exact Zfr k r
theorem Zna (k j:κ) (y:V):∀kvs:List (κ×V),Zav (kvs.map λkv=>if kv.1=k then (kv.1,y)else kv) j=(Zav kvs j).map λx=>if j=k then y else x
 |[]=>rfl
 |p::r=>by
  have ih:=Zna k j y r
  rw[YE]
  by_cases h:p.1=k
  ·rw[Yc h]
   by_cases e:p.1=j
   ·rw[ZaZ (p:=(p.1,y)) e,ZaZ e,Option.map_some,Yc (e.symm.trans h)]
   ·rw[Za0 (p:=(p.1,y)) e,Za0 e,ih]
  ·rw[Yb h]
   by_cases e:p.1=j
   ·rw[ZaZ (p:=p) e,ZaZ e,Option.map_some,Yb (λz=>h (e.trans z))]
   ·rw[Za0 (p:=p) e,Za0 e,ih]
theorem Zlv (k j:κ) (y:V):∀kvs:List (κ×V),Zav kvs k=none->Zav (kvs++[(k,y)]) j=if j=k then some y else Zav kvs j
 |[],_=>by
  by_cases e:k=j
  ·rw[Yc e.symm];exact ZaZ (p:=(k,y)) e
  ·rw[Yb (λz=>e z.symm)];exact Za0 (p:=(k,y)) e
 |p::r,hn=>by
  rw[List.cons_append]
  have hk:¬ p.1=k:=λz=>by rw[ZaZ z]at hn;cases hn
  rw[Za0 hk]at hn
  have ih:=Zlv k j y r hn
  by_cases e:p.1=j
  ·rw[ZaZ e,ZaZ e,Yb (λz=>hk (e.trans z))]
  ·rw[Za0 e,Za0 e,ih]
theorem Zc2 (kvs:List (κ×V)) (k j:κ) (y:V):Zav (putK kvs k y) j=if j=k then some y else Zav kvs j:=by
 unfold putK
 by_cases a:(kvs.any λkv=>decide (kv.1=k))=true
 ·rw[Yc a,Zna]
  rw[Zfr]at a
  by_cases e:j=k
  ·obtain⟨x,hx⟩:=Option.isSome_iff_exists.mp a
   rw[Yc e,e,hx,Option.map_some,Yc rfl]
  ·rw[Yb e]
   cases Zav kvs j with
   |none=>rfl
   |some x=>rw[Option.map_some,Yb e]
 ·rw[Yb a]
  refine Zlv k j y kvs ?_
  rw[Zfr]at a
  cases q:Zav kvs k with
  |none=>rfl
  |some x=>rw[q]at a;exact(a rfl).elim
theorem Zcy (kvs:List (κ×V)) (k:κ) (v:V):(putK kvs k v).length<=kvs.length+1:=by
 unfold putK
 split
 ·rw[Yf];omega
 ·rw[YL,Yo,List.length_nil];omega
theorem Zfa.Zh6 {o:Option V}{u:Option Value} (r:Zfa o u):o.isSome=u.isSome:=by
 cases o with
 |none=>cases u with
  |none=>rfl
  |some _=>exact(show False from r).elim
 |some _=>cases u with
  |none=>exact(show False from r).elim
  |some _=>rfl
theorem KV.val {kvs:List (κ×V)}{vs:List (κ×Value)} (r:KV kvs vs) (k:κ):Zfa (Zav kvs k) (valueAt vs k):=by
 unfold KV at r
 induction r with
 |nil=>exact True.intro
 |@cons p q ps qs h t ih =>
  obtain⟨h1,h2⟩:=h
  by_cases e:p.1=k
  ·have e':q.1=k:=h1.symm.trans e
   have b:valueAt (q::qs) k=some q.2:=by simp[valueAt,List.find?_cons,e']
   rw[ZaZ e,b];exact h2
  ·have e':¬ q.1=k:=λz=>e (h1.trans z)
   have b:valueAt (q::qs) k=valueAt qs k:=by simp[valueAt,List.find?_cons,e']
   rw[Za0 e,b];exact ih
theorem KV.any {kvs:List (κ×V)}{vs:List (κ×Value)} (r:KV kvs vs) (k:κ):(kvs.any λkv=>decide (kv.1=k))=vs.any λkv=>decide (kv.1=k):=by
 unfold KV at r
 induction r with
 |nil=>rfl
 |cons h t ih=>rw[List.any_cons,List.any_cons,ih,h.1]
theorem KV.repl {kvs:List (κ×V)}{vs:List (κ×Value)} (r:KV kvs vs) (k:κ) {y:V}{u:Value} (ry:RelV y u) :
  KV (kvs.map λkv=>if kv.1=k then (kv.1,y)else kv) (vs.map λkv=>if kv.1=k then (kv.1,u)else kv):=by
 unfold KV at r⊢
 induction r with
 |nil=>exact .nil
 |@cons p q ps qs h t ih =>
  rw[YE,YE]
  refine .cons ?_ ih
  obtain⟨h1,h2⟩:=h
  by_cases e:p.1=k
  ·rw[Yc e,Yc (h1.symm.trans e)];exact⟨h1,ry⟩
  ·rw[Yb e,Yb (λz=>e (h1.trans z))];exact⟨h1,h2⟩
theorem KV.put {kvs:List (κ×V)}{vs:List (κ×Value)} (r:KV kvs vs) (k:κ) {y:V}{u:Value} (ry:RelV y u):KV (putK kvs k y) (stored vs k u):=by
 unfold putK stored
 rw[r.any k]
 by_cases e:(vs.any λkv=>decide (kv.1=k))=true
 ·rw[Yc e,Yc e];exact r.repl k ry
 ·rw[Yb e,Yb e];exact Paired.snoc r ⟨rfl,ry⟩
theorem KV.length {kvs:List (κ×V)}{vs:List (κ×Value)} (r:KV kvs vs):kvs.length=vs.length:=Paired.length r
end
theorem Zpy {P:Program}{w:World}{k:Key}{u:Value} (r:RelV (kV k) u):(ZaW P w).is k u=true:=by
 cases k with
 |inl i=>obtain⟨t,e⟩:=(show ∃t,u=Value.int i t from r);subst e;exact ZmH P w i t
 |inr x=>obtain⟨t,e⟩:=(show ∃t,u=Value.str x t from r);subst e;exact ZmI P w x t
theorem Zlw {P:Program}{w:World}:∀{ks:List Key}{us:List Value},Vals (ks.map kV) us->ItemsAre (ZaW P w) ks us
 |[],_,r=>by rw[List.map_nil]at r;cases r;exact .nil
 |k::ks,_,r=>by
  rw[YE]at r
  cases r with
  |cons h t=>exact .cons (Zpy h) (Zlw t)
noncomputable abbrev KT (H:Hp):List (List Key×V)->List (List Key×Addr×Value)->Prop:=Paired λp q=>p.1=q.1/\H q.2.1=some (.tup (p.1.map kV))/\RelV p.2 q.2.2
theorem KT.val {H:Hp}{kvs:List (List Key×V)}{xs:List (List Key×Addr×Value)} (r:KT H kvs xs) (k:List Key):Zfa (Zav kvs k) ((atKey xs k).map (·.2)):=by
 induction r with
 |nil=>exact True.intro
 |@cons p q ps qs h t ih =>
  obtain⟨h1,_,h2⟩:=h
  by_cases e:p.1=k
  ·have e':q.1=k:=h1.symm.trans e
   have b:atKey (q::qs) k=some q.2:=by simp[atKey,List.find?_cons,e']
   rw[ZaZ e,b];exact h2
  ·have e':¬ q.1=k:=λz=>e (h1.trans z)
   have b:atKey (q::qs) k=atKey qs k:=by simp[atKey,List.find?_cons,e']
   rw[Za0 e,b];exact ih
theorem KT.repl {H:Hp}{kvs:List (List Key×V)}{xs:List (List Key×Addr×Value)} (r:KT H kvs xs) (k:List Key) {y:V}{u:Value} (ry:RelV y u) :
  KT H (kvs.map λkv=>if kv.1=k then (kv.1,y)else kv) (xs.map (putAt k u)):=by
 induction r with
 |nil=>exact .nil
 |@cons p q ps qs h t ih =>
  rw[YE,YE]
  refine .cons ?_ ih
  obtain⟨h1,h2,h3⟩:=h
  unfold putAt
  by_cases e:p.1=k
  ·rw[Yc e,Yc (h1.symm.trans e)];exact⟨h1,h2,ry⟩
  ·rw[Yb e,Yb (λz=>e (h1.trans z))];exact⟨h1,h2,h3⟩
theorem KT.put {H:Hp}{kvs:List (List Key×V)}{xs:List (List Key×Addr×Value)} (r:KT H kvs xs) (k:List Key) {b:Addr}{y:V}{u:Value} (hb:H b=some (.tup (k.map kV))) (ry:RelV y u) :
  KT H (putK kvs k y) (storedH xs k b u):=by
 have e:(kvs.any λkv=>decide (kv.1=k))=(atKey xs k).isSome:=by
  rw[Zfr,(r.val k).Zh6,Option.isSome_map]
 unfold putK storedH
 rw[e]
 by_cases q:(atKey xs k).isSome=true
 ·rw[Yc q,Yc q];exact r.repl k ry
 ·rw[Yb q,Yb q];exact Paired.snoc r ⟨rfl,hb,ry⟩
theorem KT.keeps {H H':Hp}{kvs:List (List Key×V)}{xs:List (List Key×Addr×Value)} (r:KT H kvs xs) (ht:∀b ys,H b=some (.tup ys)->H' b=some (.tup ys)):KT H' kvs xs :=
 Paired.mapP r λ_ _ z=>⟨z.1,ht _ _ z.2.1,z.2.2⟩
section
variable {P:Program}{w:World}{H:Hp}{h:Heap}{a:Addr}
theorem rd_of {u:HO} (ok:HOk P w H h) (e:Rd H a u):ZY P w H h a u:=e.ok ok
theorem Zpz {kvs:List (Key×V)} (ok:HOk P w H h) (e:Rd H a (.dK kvs)):kvs.length<=sizeLine/\(a==sysModules)=false/\∃vs,KV kvs vs/\h.DictOf (ZaW P w) a vs :=
 show ZY P w H h a (.dK kvs)from rd_of ok e
theorem dk_of {kvs:List (Key×V)} (ok:HOk P w H h) (e:H a=some (.dK kvs)):kvs.length<=sizeLine/\(a==sysModules)=false/\∃vs,KV kvs vs/\h.DictOf (ZaW P w) a vs:=Zpz ok (.inl e)
theorem Zl6 {ks:List Key} (ok:HOk P w H h) (e:H a=some (.tup (ks.map kV))):(tupleKind (ZaW P w)).is h ks a:=by
 obtain⟨_,its,r,o,h1,h2,n,h3⟩:=(show ZY P w H h a (.tup (ks.map kV))from ok a _ e)
 exact⟨o,its.toArray,n,h1,h2,h3,by simpa using Zlw r⟩
theorem ZpA {kvs:List (List Key×V)} (ok:HOk P w H h) (e:Rd H a (.dT kvs)):kvs.length<=sizeLine/\(a==sysModules)=false /\
  ∃xs,KT H kvs xs/\h.DictOfH (tupleKind (ZaW P w)) a xs:=by
 obtain⟨z,y,xs,r,o,es,ep,h1,h2,h3,h4,h5⟩:=(show ZY P w H h a (.dT kvs)from rd_of ok e)
 refine⟨z,y,xs,r,o,es,ep,h1,h2,h3,h4,λx hx=>?_,h5⟩
 have all:∀{l:List (List Key×V)}{m:List (List Key×Addr×Value)},KT H l m->∀x∈m,(tupleKind (ZaW P w)).is h x.1 x.2.1:=by
  intro l m q
  induction q with
  |nil=>intro x hx;exact nomatch hx
  |@cons p q ps qs hq t ih =>
   intro x hx
   rcases Yl.mp hx with e|hx
   ·subst e
    exact Zl6 ok (by rw[<-hq.1];exact hq.2.1)
   ·exact ih x hx
 exact all r x hx
theorem dt_of {kvs:List (List Key×V)} (ok:HOk P w H h) (e:H a=some (.dT kvs)):kvs.length<=sizeLine/\(a==sysModules)=false /\
  ∃xs,KT H kvs xs/\h.DictOfH (tupleKind (ZaW P w)) a xs:=ZpA ok (.inl e)
end
noncomputable def Znb (H:Hp) (a:Addr) (y:V) (r:Option V):Prop :=
 (∃kvs k,Rd H a (.dK kvs)/\y=kV k/\r=Zav kvs k)\/∃kvs k b,Rd H a (.dT kvs)/\y=.ref b/\H b=some (.tup (k.map kV))/\r=Zav kvs k
noncomputable def DPut (H:Hp) (a:Addr) (y v:V) (H':Hp):Prop :=
 (∃kvs k,H a=some (.dK kvs)/\y=kV k/\kvs.length<sizeLine/\H'=upd H a (.dK (putK kvs k v))) \/
 ∃kvs k b,H a=some (.dT kvs)/\y=.ref b/\H b=some (.tup (k.map kV))/\kvs.length<sizeLine/\H'=upd H a (.dT (putK kvs k v))
theorem Znb.k {H:Hp}{a:Addr}{kvs:List (Key×V)}{k:Key} (e:H a=some (.dK kvs)):Znb H a (kV k) (Zav kvs k):=.inl ⟨kvs,k,.inl e,rfl,rfl⟩
section
variable {X:Cx}{pins:List (Addr×Obj)}{σ:St}{H:Hp}{s:Shared}{a:Addr}{y v:V}{u r:Value}{o:Option V}{A:Around}{E:Value->Shared->Prop}
theorem Inv.big (I:Inv X pins σ H s):sysModules<s.heap.objs.size:=by
 have h:mainGlobals<s.heap.objs.size:=(I.mod.glob.keeps I.bk).lt
 exact Nat.lt_trans (by decide) h
theorem Zqq {Q:Value->Shared->Prop} (hu:A.units+1<cLine) (I:Inv X pins σ H s) (g:Znb H a y (some v)) (ry:RelV y u) (h:∀w' s',Inv X pins σ H s'->RelV v w'->Q w' s') :
  wpAny (model X.prog X.w) A (getItem (.ref a) u) Q E s:=by
 rcases g with⟨kvs,k,e,ey,l⟩|⟨kvs,k,b,e,ey,eb,l⟩
 ·subst ey
  obtain⟨z,hd,vs,rel,dd⟩:=Zpz I.hok e
  obtain⟨w',hw,rw'⟩:=Zfa.some_of (v:=v) (o:=valueAt vs k) (by rw[l];exact rel.val k)
  exact wpAny_getItem_of (Zpy ry) dd.mapOf hw (h w' _ (I.tok _) rw')
 ·subst ey
  cases(show u=Value.ref b from ry)
  obtain⟨z,hd,xs,rel,dd⟩:=ZpA I.hok e
  obtain⟨w',hw,rw'⟩:=Zfa.some_of (v:=v) (o:=(atKey xs k).map (·.2)) (by rw[l];exact rel.val k)
  obtain⟨p,hp,hp2⟩:=Option.map_eq_some_iff.mp hw
  refine wpAny_getItem_heap (tupleKind_room_in1 hu) (Zl6 I.hok eb) dd hp ?_
  rw[hp2]
  exact h w' _ (I.tok _) rw'
theorem ZuR {Q:Value->Shared->Prop} (hu:A.units+1<cLine) (I:Inv X pins σ H s) (g:Znb H a y o) (ry:RelV y u) (h:∀s',Inv X pins σ H s'->Q (.bool (!o.isSome)) s') :
  wpAny (model X.prog X.w) A (compareOp .NotIn u (.ref a)) Q E s:=by
 rcases g with⟨kvs,k,e,ey,l⟩|⟨kvs,k,b,e,ey,eb,l⟩
 ·subst ey
  obtain⟨z,hd,vs,rel,dd⟩:=Zpz I.hok e
  refine wpAny_notIn_of (Zpy ry) hd dd.mapOf ?_
  rw[<-(rel.val k).Zh6,<-l]
  exact h _ (I.tok _)
 ·subst ey
  cases(show u=Value.ref b from ry)
  obtain⟨z,hd,xs,rel,dd⟩:=ZpA I.hok e
  refine wpAny_notIn_heap (tupleKind_room_in1 hu) (Zl6 I.hok eb) hd dd ?_
  have q:=(rel.val k).Zh6
  rw[Option.isSome_map]at q
  rw[<-q,<-l]
  exact h _ (I.tok _)
theorem Zjk {h':Heap}{t':Nat}{ob:HO} (I:Inv X pins σ H s) (mu:Mut (H a)) (hs:Heap.SameBut a s.heap h') (he:∃q,h'.get? a=some q) (new:ZY X.prog X.w (upd H a ob) h' a ob) :
  Inv X pins σ (upd H a ob) {s with heap:=h',toks:=t'} :=
 I.write (x:=a) (e:=a) mu (.inl rfl) (λb q hb z=>(hs.2 b hb).trans z) he new
theorem dk_new {P:Program}{w:World}{H':Hp}{h':Heap}{kvs:List (Key×V)}{vs:List (Key×Value)} (z:kvs.length<=sizeLine) (hd:(a==sysModules)=false) (rel:KV kvs vs) (dd:h'.DictOf (ZaW P w) a vs) :
  ZY P w H' h' a (.dK kvs):=⟨z,hd,vs,rel,dd⟩
theorem Zqr {H':Hp}{Q:Unit->Shared->Prop} (hu:A.units+1<cLine) (I:Inv X pins σ H s) (g:DPut H a y v H') (ry:RelV y u) (rv:RelV v r) (h:∀s',Inv X pins σ H' s'->Q () s') :
  wpAny (model X.prog X.w) A (setItem (.ref a) u r) Q E s:=by
 rcases g with⟨kvs,k,e,ey,l,eH⟩|⟨kvs,k,b,e,ey,eb,l,eH⟩
 ·subst ey eH
  obtain⟨z,hd,vs,rel,dd⟩:=dk_of I.hok e
  have hz:vs.length<=sizeLine:=by rw[<-rel.length];exact z
  have hl:(putK kvs k v).length<=sizeLine:=by have:=Zcy kvs k v;omega
  refine wpAny_setItem_pairs (hsz:=hz) (Zpy ry) dd λh' dd' hs=>h _ ?_
  have he:∃q,h'.get? a=some q:=let ⟨q,_,_,hq,_⟩:=dd';⟨q,hq⟩
  exact Zjk I (by rw[e];exact True.intro) hs he (dk_new hl hd (rel.put k rv) dd')
 ·subst ey eH
  cases(show u=Value.ref b from ry)
  obtain⟨z,hd,xs,rel,dd⟩:=dt_of I.hok e
  have hz:xs.length<=sizeLine:=by rw[<-Paired.length rel];exact z
  have hl:(putK kvs k v).length<=sizeLine:=by have:=Zcy kvs k v;omega
  refine wpAny_setItem_heap (hsz:=hz) (tupleKind_room_in1 hu) (Zl6 I.hok eb) dd λh' dd' hs=>h _ ?_
  obtain⟨q,es,ep,hq,h2,h3,h4,_,h5⟩:=dd'
  refine Zjk I (by rw[e];exact True.intro) hs ⟨q,hq⟩ ⟨hl,hd,_,(rel.put k eb rv).keeps λc ys ec=>?_,q,es,ep,hq,h2,h3,h4,h5⟩
  rw[Zh (ne_of ec e (λz=>nomatch z))]
  exact ec
end
noncomputable def NoSl (i:Expr):Prop:=∀ov iv,subscripted i false ov iv=operate [ov,iv] (getItem ov iv)
theorem ZpB {prog:Program}{w:World}{A:Around}{E:Value->Shared->Prop}{s:Shared}{env:Env}{value slice:Expr}{pos:Pos}{T id:String}{Q:Value->Shared->Prop}
  (hl:typeLookup (.type T) "__getitem__"=pure (some (.builtin id))) (hs:NoSl slice)
  (h:wpAny (model prog w) A (eval value env) (λo s₁=>wpAny (model prog w) A (eval slice env) (λi s₂=>s₂.TypeIs o T/\wpAny (model prog w) A (getItem o i) Q E s₂) E s₁) E s) :
  wpAny (model prog w) A (eval (.Subscript value slice pos) env) Q E s:=by
 refine Subscript_ (YK h (λo s₁ h₁=>YK h₁ (λi s₂ h₂=>?_) λ_ _ x=>x) λ_ _ x=>x)
 obtain⟨hT,h₂⟩:=h₂
 unfold subscriptTail
 refine Ya ?_
 rw[getitemInPython_of_ne hT.not_modules]
 refine Ya (wpAny_specialOf hT hl ?_)
 have fin:wpAny (model prog w) A (subscripted slice false o i) (λr s₃=>wpAny (model prog w) A (letTemporaryGo value o r >>= λ_=>pure r) Q E s₃) E s₂:=by
  rw[hs o i]
  exact wpAny_operating (YK h₂ (λr s₃ h₃=>Ya (wpAny_letTemporaryGo (Ye h₃))) λ_ _ x=>x)
 first
  |exact Ye (Ya fin)
  |exact Ya (Ye (Ya fin))
  |exact Ya fin
theorem Znc {X:Cx}{pins:List (Addr×Obj)}{σ:St}{H:Hp}{s:Shared}{a:Addr}{y:V}{o:Option V} (I:Inv X pins σ H s) (g:Znb H a y o):s.TypeIs (.ref a) "dict":=by
 rcases g with⟨kvs,k,e,_,_⟩|⟨kvs,k,b,e,_,_,_⟩
 ·obtain⟨_,_,vs,_,dd⟩:=Zpz I.hok e
  exact dd.typeIs
 ·obtain⟨_,_,xs,_,dd⟩:=ZpA I.hok e
  exact dd.typeIs
noncomputable def tDGet (td ty:TE):TE:=fun σ H Q=>td σ H λx H1=>ty σ H1 λy H2=>∃a v,x=.ref a/\Znb H2 a y (some v)/\Q v H2
noncomputable def ZpC (ty td:TE):TE:=fun σ H Q=>ty σ H λy H1=>td σ H1 λx H2=>∃a o,x=.ref a/\Znb H2 a y o/\Q (.bl (!o.isSome)) H2
noncomputable def sDPut (td ty tv:TE):TS:=λD σ H=>tv σ H λv H1=>td σ H1 λx H2=>ty σ H2 λy H3=>∃a H4,x=.ref a/\DPut H3 a y v H4/\D.nx σ H4
section
variable {X:Cx}{o i e value:Expr}{pos pos' tpos:Pos}{td ty tv:TE}
theorem ZuS (hu:X.A.units+1<cLine) (ho:PE X o td) (hi:PE X i ty) (hs:NoSl i):PE X (.Subscript o i pos) (tDGet td ty):=by
 intro pins s σ H Q I h
 refine ZpB PySem.F.slot_dict_getitem.lookup hs (thn (ho pins s σ H _ I h) λu s1 ⟨x,H1,I1,rx,q1⟩=>thn (hi pins s1 σ H1 _ I1 q1) λiv s2 ⟨y,H2,I2,ry,a,v,ex,g,q2⟩=>?_)
 subst ex
 obtain rfl:u=Value.ref a:=rx
 exact⟨Znc I2 g,Zqq hu I2 g ry λw' s3 I3 rw'=>⟨v,H2,I3,rw',q2⟩⟩
theorem Zqs (hu:X.A.units+1<cLine) (hi:PE X i ty) (ho:PE X o td):PC X .NotIn i o (ZpC ty td):=by
 intro pins s σ H Q I h
 refine thn (hi pins s σ H _ I h) λiv s1 ⟨y,H1,I1,ry,q1⟩=>thn (ho pins s1 σ H1 _ I1 q1) λu s2 ⟨x,H2,I2,rx,a,ov,ex,g,q2⟩=>?_
 subst ex
 obtain rfl:u=Value.ref a:=rx
 exact ZuR hu I2 g ry λs3 I3=>⟨.bl (!ov.isSome),H2,I3,rfl,q2⟩
theorem ZuT (hu:X.A.units+1<cLine) (ho:PE X o td) (hi:PE X i ty) (hv:PE X value tv) (hs:swapsWith value (some (.Subscript o i pos')) pos.line X.env=pure false) :
  PS X (.Assign [.Subscript o i pos'] value pos) (sDPut td ty tv):=by
 intro pins s σ H D I h
 refine wpAny_Assign_Subscript (thn (hv pins s σ H _ I h) λr s1 ⟨v,H1,I1,rv,q1⟩=>thn (ho pins s1 σ H1 _ I1 q1) λu s2 ⟨x,H2,I2,rx,q2⟩=>thn (hi pins s2 σ H2 _ I2 q2) λiv s3 ⟨y,H3,I3,ry,a,H4,ex,g,q3⟩=>?_) hs
 subst ex
 obtain rfl:u=Value.ref a:=rx
 exact Zqr hu I3 g ry rv λs4 I4=>⟨σ,H4,I4,q3⟩
end
theorem Zsq {P:Program}{w:World}{H:Hp} (h:Heap) (hb:sysModules<h.objs.size):ZY P w H (h.push {cls:=.type "dict",data:=.dict #[]}) h.objs.size (.dK []) :=
 ⟨Ys _,beq_eq_false_iff_ne.mpr (Ne.symm (Yn hb)),[],.nil,Heap.DictOf.new h⟩
noncomputable def Zsr:TE:=λ_ H Q=>∀p,H p=none->Q (.ref p) (upd H p (.dK []))
section
variable {X:Cx}{pos:Pos}
theorem Zss:PE X (.Dict [] [] pos) Zsr:=λpins s σ H Q I h =>
 wpAny_Dict_empty ⟨.ref s.heap.objs.size,_,I.laid (a:=s.heap.objs.size) (o:=.dK []) (t':=s.toks) (λ_ _ q=>Yg _ q) (Yd _) (Zsq s.heap I.big),rfl,h _ (I.hok.fresh (Yd _))⟩
end
noncomputable def Zst:List (TE×TE)->St->Hp->(List (V×V)->Hp->Prop)->Prop
 |[],_,H,Q=>Q [] H
 |(tk,tv)::r,σ,H,Q=>tk σ H λx H1=>tv σ H1 λy H2=>Zst r σ H2 λps H3=>Q ((x,y)::ps) H3
noncomputable abbrev VV:List (V×V)->List (Value×Value)->Prop:=Paired λp q=>RelV p.1 q.1/\RelV p.2 q.2
noncomputable def PPs (X:Cx) (pos:Pos) (keys:List (Option Expr)) (values:List Expr) (trs:List (TE×TE)):Prop :=
 ∀(pins:List (Addr×Obj)) (s:Shared) (σ:St) (H:Hp) (Q:List (V×V)->Hp->Prop),Inv X pins σ H s->Zst trs σ H Q ->
  wpAny (model X.prog X.w) X.A (evalPairs (pairTrees keys values X.env pos)) (λvs s'=>∃ps H',Inv X pins σ H' s'/\VV ps vs/\Q ps H') X.xe s
theorem ZuU {X:Cx}{pos:Pos}:PPs X pos [] [] []:=λpins s σ H Q I h=>pairTrees_nil_walk ⟨[],H,I,.nil,h⟩
theorem Zsu {X:Cx}{pos:Pos}{k v:Expr}{ks:List (Option Expr)}{vs:List Expr}{tk tv:TE}{trs:List (TE×TE)} (hk:PE X k tk) (hv:PE X v tv) (hr:PPs X pos ks vs trs) :
  PPs X pos (some k::ks) (v::vs) ((tk,tv)::trs):=λpins s σ H Q I h =>
 pairTrees_cons_walk (thn (hk pins s σ H _ I h) λu s1 ⟨x,H1,I1,rx,q1⟩=>thn (hv pins s1 σ H1 _ I1 q1) λw2 s2 ⟨y,H2,I2,ry,q2⟩ =>
  thn (hr pins s2 σ H2 _ I2 q2) λws s3 ⟨ps,H3,I3,rel,q3⟩=>⟨(x,y)::ps,H3,I3,.cons ⟨rx,ry⟩ rel,q3⟩)
end L2
namespace L2
open PySem PySem.Spec PyProof.Rows PySem.W PySem.Calls
end L2
namespace L2
open PySem PySem.Spec PyProof.Rows PySem.W
section
variable {X:Cx}
noncomputable def rSlV:V->Option Int->Option Int->Hp->VK->Prop:=λx lo hi H Q=>∃a xs,x=.ref a/\H a=some (.tup xs)/\∀p H',Zf H H'->H' p=some (.tup (Zai xs lo hi))->Q (.ref p) H'
theorem sl_v {K:Frag} (hK:X.K=K):SlR X rSlV:=by
 intro pins s σ H x v vl vu lo hi sl Q I rx hs pl pu h
 obtain⟨a,xs,rfl,hx,q⟩:=h
 refine sl_q hK pins s σ H _ v vl vu lo hi sl Q I rx hs pl pu ⟨a,xs,rfl,.inr ⟨SqT.of hx,λhw=>?_,λ_ p hp=>?_⟩⟩
 ·exact q a H (Zf.refl H) (by rw[Zqh hw];exact hx)
 ·exact q p _ ((Zf.refl H).upd hp) Zb
noncomputable def rCatK (K:Frag):R2:=λx y H Q=>∃(a b:Addr) (xs ys:List V),x=.ref a/\y=.ref b/\SqL K H a xs/\SqL K H b ys/\xs.length+ys.length<=sizeLine/\∀p,H p=none->Q (.ref p) (upd H p (.lst (xs++ys)))
theorem ZuV {K:Frag} (hK:X.K=K):OpR X (binaryOp .Add) (rCatK K):=by
 subst hK
 intro pins s σ H x y v u Q I rx ry h
 obtain⟨a,b,xs,ys,rfl,rfl,ha,hb,hz,q⟩:=h
 cases rx
 cases ry
 obtain⟨its,r1,p1,_⟩:=I.list ha
 obtain⟨its2,r2,p2,_⟩:=I.list hb
 obtain⟨⟨c1,d1,x1,l1⟩,e1,k1,n1,y1⟩:=p1.isList
 obtain⟨⟨c2,d2,x2,l2⟩,e2,k2,n2,y2⟩:=p2.isList
 simp only at k1 y1 k2 y2
 subst k1 y1 k2 y2
 refine concat_meets ⟨_,e1,rfl⟩ ⟨_,e2,rfl⟩ noFill_list_add seq_list_add PySem.F.slot_list_add PySem.F.entry_list_add (PySem.F.args_list_add_2 _ _) (list_addW a b its.toArray its2.toArray n1 n2 d1 d2 l1 l2 (by rw[Yp,Yp,<-r1.length,<-r2.length];exact hz)) ⟨e1,e2,?_⟩
 have ea:its.toArray++its2.toArray=(its++its2).toArray:=by simp
 rw[ea]
 exact⟨.ref _,_,I.lnew (t':=s.toks) (r1.append r2) (by rw[YL];exact hz),rfl,q _ I.fresh⟩
end
noncomputable def sF (r:Addr) (f:Int) (t:Addr):List (Str×V):=Zbq "tree" (.ref t) (Zbq "first" (.int f) (Zbq "row" (.ref r) []))
noncomputable def up1 (e:Int):Int:=if e<0 then e else e+1
noncomputable abbrev Zb8 (h:Heap) (T:Addr) (a b c:Value):Prop:=h.get? T=some {cls:=.type "tuple",data:=.seq #[a,b,c]}
structure Apart3 (z TI TO i j k a b c:Addr):Prop where
 own:z≠TI/\z≠TO/\z≠i/\z≠j/\z≠k/\TI≠TO/\TI≠i/\TI≠j/\TI≠k/\TO≠i/\TO≠j/\TO≠k/\i≠j/\i≠k/\j≠k
 la:a≠z/\a≠TO/\a≠i/\a≠j/\a≠k
 lb:b≠z/\b≠TO/\b≠i/\b≠j/\b≠k
 lc:c≠z/\c≠TO/\c≠i/\c≠j/\c≠k
section
variable {s:Shared}{prog:Program}{w:World}{A:Around}{E:Value->Shared->Prop}
theorem Zfs {T:Addr}{a b c x:Value}{n:Nat}{Q:Unit->Shared->Prop} (e:Zb8 s.heap T a b c)
  (h:∀h',h'.get? T=some {cls:=.type "tuple",data:=.seq ((#[a,b,c]:Array Value).setIfInBounds n x)}->Heap.SameBut T s.heap h'->Q () {s with heap:=h'}) :
  wpAny (model prog w) A (updateSeq T (·.setIfInBounds n x)) Q E s:=by
 refine wpAny_updateSeq e rfl (h _ ?_ (Heap.SameBut.update ..))
 rw[Heap.get?_update_self _ e rfl]
 simp[Obj.mapSeq]
end
theorem ZuW (a b c:Value):checkTypeCall "zip" ⟨[a,b,c],[]⟩=pure ():=by kernel_rfl
theorem ZuX (a b c:Value):checkBuiltinCall "zip.__new__" ⟨[.type "zip",a,b,c],[]⟩=pure ():=by kernel_rfl
theorem ZuY (a b c d:Value):argsOk "object.__init__" ⟨[a,b,c,d],[]⟩:=by
 delta argsOk
 rw[signature?_of (n:=['_','_','t','i','n','i','_','_']) (o:=['t','c','e','j','b','o']) (id:="object.__init__") (by kernel_rfl) F.owner_object]
 kernel_rfl
theorem Zoy:∀{x y z:V}{us:List Value},Vals [x,y,z] us->∃u v t,us=[u,v,t]/\RelV x u/\RelV y v/\RelV z t
 |_,_,_,_,.cons r (.cons q (.cons t .nil))=>⟨_,_,_,rfl,r,q,t⟩
theorem apart3 (n a b c:Nat) (h1:a<n) (h2:b<n) (h3:c<n):Apart3 (n+5) (n+3) (n+4) n (n+1) (n+2) a b c:=by
 have N:∀u v:Nat,u<v\/v<u->(u:Addr)≠v:=λu v h e=>by have e:u=v:=e;omega
 exact⟨⟨N _ _ (by omega),N _ _ (by omega),N _ _ (by omega),N _ _ (by omega),N _ _ (by omega),N _ _ (by omega),N _ _ (by omega),N _ _ (by omega),N _ _ (by omega),N _ _ (by omega),N _ _ (by omega),N _ _ (by omega),N _ _ (by omega),N _ _ (by omega),N _ _ (by omega)⟩,
  ⟨N _ _ (by omega),N _ _ (by omega),N _ _ (by omega),N _ _ (by omega),N _ _ (by omega)⟩,⟨N _ _ (by omega),N _ _ (by omega),N _ _ (by omega),N _ _ (by omega),N _ _ (by omega)⟩,⟨N _ _ (by omega),N _ _ (by omega),N _ _ (by omega),N _ _ (by omega),N _ _ (by omega)⟩⟩
end L2
namespace L2
open PySem PySem.Spec PyProof.Rows PySem.W PySem.Calls
end L2
namespace L2
open PySem PySem.Spec PyProof.Rows PySem.W
noncomputable def Zqt (K:Frag) (f:Addr):Option Addr:=match K.lookup f with
 |some ⟨_,_,.func fd,_⟩=>(match fd.code with|.ref c=>some c|_=>none)
 |_=>none
noncomputable def tabOf (K:Frag) (c:Addr):Addr:=match K.lookup c with
 |some ⟨_,_,.fields vs,_⟩=>(match (vs[11]?:Option Value)with|some (.ref P)=>P|_=>0)
 |_=>0
noncomputable def Zl7 (K:Frag) (mg:Str->Option Value) (x:Str):Addr:=match mg x with
 |some (.ref f)=>(match Zqt K f with|some c=>tabOf K c|none=>0)
 |_=>0
noncomputable def ZjQ (q:Str):HO:=.tbl #[.str q 0]
noncomputable def BM (mg:Str->Option Value) (base:Heap):Prop :=
 ∃bm o,mg "__builtins__"=some (.ref bm)/\bm≠builtinsNs/\bm≠mainGlobals/\base.get? bm=some o/\o.cls=.type "module"/\o.dict=some builtinsNs/\o.data=.plain
noncomputable def Zoz (env:Env) (P:Addr) (q:Str) (params:Arguments) (body:Expr) (scope:Scope) (H:Hp) (f:Addr):Prop :=
 ∃c oc vs t cl pm ctv,H f=some (.frz (kla_obj "<lambda>" q params body scope cl pm c ctv) (.own f))/\H c=some (.frz oc (.own P))/\oc.data=.fields vs/\vs[1]?=some (.str q t) /\
  (∀x c,cl.lookup x=some c->env.cells.lookup x=some c)/\(∀y∈scope.names,y.2=.free->∃c,cl.lookup y.1=some c/\env.cells.lookup y.1=some c)
theorem Zoz.same {env:Env}{P:Addr}{q:Str}{params:Arguments}{body:Expr}{scope:Scope}{H H':Hp}{f:Addr} (h:Zoz env P q params body scope H f) (s:Zf H H'):Zoz env P q params body scope H' f:=by
 obtain⟨c,oc,vs,t,cl,pm,ctv,e1,e2,r⟩:=h
 exact⟨c,oc,vs,t,cl,pm,ctv,s _ _ e1,s _ _ e2,r⟩
structure LamIn (X:Cx) (P:Addr) (q:Str):Prop where
 code:∃c,X.env.code=.ref c/\codeHdIn X.K c P=true
 bm:BM X.mg X.base
 ql:X.env.qual++"<lambda>"=q
theorem ZoA {pos:Pos}{a b:Int}{c cv:Value}:∀(l:List Value),TriplesOk l->codeAmong pos (l++[rawInt a,rawInt b,c])=some cv->codeAmong pos l=some cv\/cv=c:=by
 intro l h e
 fun_induction TriplesOk l with
 |case1 =>
  simp only[List.nil_append,codeAmong,rawInt]at e
  split at e
  ·cases e;exact .inr rfl
  ·cases e
 |case2 a' t b' u x rest ih =>
  simp only[List.cons_append,codeAmong]at e⊢
  split at e
  ·rename_i hc;rw[Yc hc];exact .inl e
  ·rename_i hc;rw[Yb hc];exact ih h e
 |case3 l h1 h2=>exact h.elim
section
variable {X:Cx}
theorem Inv.lam {pins:List (Addr×Obj)}{σ:St}{H:Hp}{s:Shared}{h':Heap}{t':Nat}{P c f:Addr}{q:Str}{oc fo:Obj}{ts:Array Value}{vs:Array Value}{tq:Tok}
  (I:Inv X pins σ H s) (hP:H P=some (ZjQ q)) (k:∀b o,b≠P->s.heap.get? b=some o->h'.get? b=some o) (hts:h'.get? P=some (tabObj ts)) (h3:TriplesOk ts.toList)
  (hc:H c=some (.frz oc (.own P))\/s.heap.objs.size<=c) (hcP:c≠P) (hoc:h'.get? c=some oc) (hd:oc.data=.fields vs) (hv:vs[1]?=some (.str q tq)) (hf:s.heap.objs.size<=f) (hfc:f≠c) (hfo:h'.get? f=some fo)
  (hcodes:∀pos cv,codeAmong pos ts.toList=some cv->cv=.ref c\/∃c2 oc vs t t',cv=.ref c2/\H c2=some (.frz oc (.own P))/\oc.data=.fields vs/\vs[1]?=some (.str q t)/\t'=(0:Tok)) :
  Inv X pins σ (upd (upd H c (.frz oc (.own P))) f (.frz fo (.own f))) {s with heap:=h',toks:=t'}:=by
 have hPlt:P<s.heap.objs.size:=I.hok.lt hP
 have hfP:f≠P:=λz=>by rw[z]at hf;exact absurd (Yt hPlt hf) (YA _)
 have hfn:H f=none:=I.hok.fresh hf
 have up:∀b o,H b=some o->upd (upd H c (.frz oc (.own P))) f (.frz fo (.own f)) b=some o:=λb o e=>by
  have nf:b≠f:=Zu e hfn
  rw[Zh nf]
  rcases hc with hc|hc
  ·by_cases z:b=c
   ·subst z;rw[Zb,<-e,hc]
   ·rw[Zh z];exact e
  ·rw[Zh (Zu e (I.hok.fresh hc))];exact e
 have un:Un X.fs [] H (upd (upd H c (.frz oc (.own P))) f (.frz fo (.own f))) s.heap h':=by
  have nP:∀b,H b=none->b≠P:=λb n z=>by rw[z,hP]at n;cases n
  refine⟨λb o e n _ _=>k b o (nP b n) e,λb o e n _ _=>⟨o.slots,k b o (nP b n) e⟩,λb o e n _=>?_,λb o e _=>?_,λb xs e=>up _ _ e,λb o u e=>up _ _ e,λb ps e=>⟨#[],by rw[up _ _ e];simp⟩⟩
  ·have lt:=Yj e
   have nf:b≠f:=λz=>by rw[z]at lt;exact absurd (Yt lt hf) (YA _)
   have nc:b≠c:=λz=>by
    rcases hc with hc|hc
    ·rw[z,hc]at n;cases n
    ·rw[z]at lt;exact absurd (Yt lt hc) (YA _)
   rw[Zh nf,Zh nc];exact n
  ·by_cases z:b=P
   ·subst z;exact⟨_,hts⟩
   ·exact⟨o,k b o z e⟩
 refine I.un un λb o e=>?_
 by_cases zf:b=f
 ·subst zf
  rw[Zb]at e;cases e
  exact⟨hfo,_,hfo⟩
 rw[Zh zf]at e
 by_cases zc:b=c
 ·subst zc
  rw[Zb]at e;cases e
  exact⟨hoc,_,hoc⟩
 rw[Zh zc]at e
 by_cases zP:b=P
 ·subst zP
  rw[hP]at e;cases e
  refine⟨ts,hts,h3,λpos cv hcv=>?_⟩
  rcases hcodes pos cv hcv with rfl|⟨c2,oc2,vs2,t2,t2',e1,e2,e3,e4,_⟩
  ·exact⟨c,oc,vs,q,0,tq,rfl,by rw[Zh (Ne.symm hfc),Zb],hd,rfl,hv⟩
  ·exact⟨c2,oc2,vs2,q,0,t2,e1,up _ _ e2,e3,rfl,e4⟩
 ·refine(I.hok b o e).Zjs (λb2 u hb z=>k b2 u ?_ z) (λb2 z=>up _ _ z) (λb2 xs z=>up _ _ z) λb2 o2 u2 z=>up _ _ z
  rcases hb with rfl|hb
  ·exact zP
  ·intro z;rw[z,hP]at hb;cases hb
noncomputable def tLam (env:Env) (P:Addr) (q:Str) (params:Arguments) (body:Expr) (scope:Scope):TE:=λ_ H Q=>H P=some (ZjQ q)/\∀f H',H f=none->Zf H H'->Zoz env P q params body scope H' f->Q (.ref f) H'
theorem pe_lam {P:Addr}{q:Str}{params:Arguments}{body:Expr}{scope:Scope}{pos:Pos} (L:LamIn X P q) (hok:compOk X.env.scope scope=true) (hdef:defaultsOf params X.env=([],[]):=by rfl) :
  PE X (.Lambda params body scope pos) (tLam X.env P q params body scope):=by
 intro pins s σ H Q I h
 obtain⟨hP,h⟩:=h
 obtain⟨c0,hc0,hcd⟩:=L.code
 have C:CodeHd s.heap c0 P:=codeHd_of_K I.kIn hcd
 obtain⟨bm,ob,b1,b2,b3,b4,b5,b6,b7⟩:=L.bm
 have hbm:=I.bs bm ob b4
 have bP:bm≠P:=λz=>by rw[z,hP]at hbm;cases hbm.2
 have gP:mainGlobals≠P:=λz=>by
  obtain⟨o,es,ep,e,_⟩:=I.ok.mod.glob
  have:=(I.bs _ _ e).2
  rw[z,hP]at this;cases this
 have hg:s.heap.Ns mainGlobals X.mg:=I.ok.mod.glob.keeps I.bk
 have hb:s.heap.BuiltinsAt X.mg P:=⟨bm,ob,b1,b2,b3,bP,hbm.1,b5,b6,b7⟩
 obtain⟨ts,hts,h3,hco⟩:=I.hok P _ hP
 obtain⟨cl,hcl,up,hfr⟩:=Zon (env:=X.env) (scope:=scope) λy hy hf=>I.ok.has y.1 ((ZiB hok y hy hf).elim (λz=>.inl z) λz=>.inr z)
 have hco':∀pos cv,codeAmong pos ts.toList=some cv->∃c2 oc vs t t',cv=.ref c2/\H c2=some (.frz oc (.own P))/\oc.data=.fields vs/\vs[1]?=some (.str q t)/\t'=(0:Tok):=λpos cv e=>by
  obtain⟨c,oc,vs,q',t,t',e1,e2,e3,e4,e5⟩:=hco pos cv e
  have e4':some (Value.str q (0:Tok))=some (Value.str q' t):=e4
  cases e4'
  exact⟨c,oc,vs,t',0,e1,e2,e3,e5,rfl⟩
 refine kla_eval hdef ?_
 rw[L.ql]
 cases hca:codeAmong pos ts.toList with
 |some cv =>
  obtain⟨c,oc,vs,tq,t',rfl,e2,e3,e4,_⟩:=hco' pos cv hca
  refine kla_makeFunctionHit (mg:=X.mg) hcl I.ok.glob hg hc0 C hts h3 hca hb λctv h' tk hk hsz=>?_
  have hoc:s.heap.get? c=some oc:=(I.hok c _ e2).1
  have hcP:c≠P:=λz=>by rw[z,hP]at e2;cases e2
  have lt:=Yj hoc
  have kk:∀b o,s.heap.get? b=some o->(h'.push {cls:=.type "function",data:=.func (kla_fn "<lambda>" q params body scope cl ((X.mg "__name__").getD .none) (.ref c) ctv)}).get? b=some o:=λb o e=>Yg _ (hk b o e)
  have J:=I.lam (t':=tk) (f:=h'.objs.size) hP (λb o _ e=>kk b o e) (kk _ _ hts) h3 (.inl e2) hcP (kk _ _ hoc) e3 e4 hsz (λz=>by rw[<-z]at lt;exact absurd (Yt lt hsz) (YA _)) (Yk _ rfl) λp2 cv2 z=>.inr (hco' p2 cv2 z)
  have hfn:H h'.objs.size=none:=I.hok.fresh hsz
  have ne:c≠h'.objs.size:=Yn (Yt lt hsz)
  refine⟨.ref h'.objs.size,_,J,rfl,h _ _ hfn (λb o e=>?_) ⟨c,oc,vs,tq,cl,_,ctv,Zb,by rw[Zh ne,Zb],e3,e4,up,hfr⟩⟩
  rw[Zh (Zu e hfn)]
  by_cases z:b=c
  ·subst z;rw[Zb,<-e,e2]
  ·rw[Zh z];exact e
 |none =>
  refine kla_makeFunction (mg:=X.mg) hcl I.ok.glob hg hc0 C hts h3 hca gP hb λc ctv h' tk hx hge hlt hrec htb=>?_
  obtain⟨c2,oc,vs,tq,e2,hoc,e3,e4⟩:=hrec
  cases e2
  have hsz:s.heap.objs.size<=h'.objs.size:=Yh hge (YM hlt)
  have kk:∀b o,h'.get? b=some o->(h'.push (kla_obj "<lambda>" q params body scope cl ((X.mg "__name__").getD .none) c ctv)).get? b=some o:=λb o e=>Yg _ e
  have hPlt:P<s.heap.objs.size:=I.hok.lt hP
  have hcP:c≠P:=λz=>by rw[z]at hge;exact absurd (Yt hPlt hge) (YA _)
  have tl:(ts++#[rawInt pos.line,rawInt pos.col,Value.ref c]).toList=ts.toList++[rawInt pos.line,rawInt pos.col,Value.ref c]:=by simp
  have J:=I.lam (t':=tk) (f:=h'.objs.size) (ts:=ts++#[rawInt pos.line,rawInt pos.col,.ref c]) hP (λb o nb e=>kk b o (hx b o nb e)) (kk _ _ htb) (by rw[tl];exact TriplesOk_snoc _ _ _ _ h3) (.inr hge) hcP (kk _ _ hoc) e3 e4 hsz (Nat.ne_of_gt hlt) (Yk _ rfl) λp2 cv2 z=>by
   rw[tl]at z
   rcases ZoA ts.toList h3 z with y|y
   ·exact .inr (hco' p2 cv2 y)
   ·exact .inl y
  have hfn:H h'.objs.size=none:=I.hok.fresh hsz
  have hcn:H c=none:=I.hok.fresh hge
  refine⟨.ref h'.objs.size,_,J,rfl,h _ _ hfn (λb o e=>?_) ⟨c,oc,vs,tq,cl,_,ctv,Zb,by rw[Zh (Yn hlt),Zb],e3,e4,up,hfr⟩⟩
  rw[Zh (Zu e hfn),Zh (Zu e hcn)];exact e
end
noncomputable def Znd (X:Cx) (A':Around) (Nc:List Str) (q:Str) (scope:Scope) (cl:List (Str×Addr)) (L f c:Addr) (s:Shared) (H:Hp):Cx where
 prog:=X.prog
 w:=X.w
 K:=X.K
 mg:=X.mg
 base:=X.base
 A:=A'.deeper (envX q scope L f (.ref c) cl)
 N:=Nc
 s₀:=s
 H₀:=H
 env:=envX q scope L f (.ref c) cl
 outer:=X.stack
 stack:=envX q scope L f (.ref c) cl::X.stack
 ex:=[]
 fn:=λ_=>false
 calm:=X.calm
 pn:=[]
 xe:=λ_ _=>False
section
variable {X:Cx}
theorem Zqu {pins:List (Addr×Obj)}{σ:St}{H:Hp}{s:Shared}{A':Around}{Nc:List Str}{js:List (Option Nat)}{q pn:Str}{scope:Scope}{cl:List (Str×Addr)}{h1:Heap}{tk:Nat}{f c:Addr}{v:V}{u:Value}
  (I:Inv X pins σ H s) (hA:A'.frames=some X.stack) (hh:X.calm=true->A'.handled=none) (hok:compOk X.env.scope scope=true) (htk:takesC X.N Nc scope js 0=true) (hp0:Nc[0]?=some pn) (hj0:js[0]?=some none) (hpl:scope.names.lookup pn=some .local)
  (up:∀x c,cl.lookup x=some c->X.env.cells.lookup x=some c) (hfr:∀y∈scope.names,y.2=.free->∃c,cl.lookup y.1=some c/\X.env.cells.lookup y.1=some c)
  (r:RelV v u) (old:∀b o,s.heap.get? b=some o->h1.get? b=some o) (hns:h1.Ns s.heap.objs.size λy=>[(pn,u)].reverse.lookup y) :
  Inv (Znd X A' Nc q scope cl s.heap.objs.size f c s H) [] ((ZbM js σ).set 0 (some v)) H {s with heap:=h1,toks:=tk}:=by
 have noA:∀b:Addr,b∉(Znd X A' Nc q scope cl s.heap.objs.size f c s H).ex:=λb z=>absurd (show b∈([]:List Addr)from z) (by simp)
 have kf:∀x,((envX q scope s.heap.objs.size f (.ref c) cl).kindOf x=some .cell\/(envX q scope s.heap.objs.size f (.ref c) cl).kindOf x=some .free)->∃c,cl.lookup x=some c:=λx hx=>by
  rcases hx with z|z
  ·exact absurd rfl (ZiA hok _ (lookup_mem (show scope.names.lookup x=some .cell from z)))
  ·obtain⟨c,q,_⟩:=hfr _ (lookup_mem (show scope.names.lookup x=some .free from z)) rfl
   exact⟨c,q⟩
 refine⟨⟨I.ok.mod,Ziz hok,rfl,rfl,Yd _,λx y c e1 e2=>I.ok.inj x y c (up _ _ e1) (up _ _ e2),λx hx=>kf x hx,(λx c e=>nomatch e),hh,Around.frames_deeper hA,.inr ⟨rfl,rfl⟩,λb z=>absurd z (noA b),I.bs,Yh I.ok.bsz I.sz,λb _ _=>noA b,λb z=>absurd z (noA b),I.stack,I.Zja⟩,
  rfl,I.bare,Un.kept old,⟨_,hns,λi x v' e1 e2 e3=>?_⟩,λx c e=>?_,I.hok.fresh (Yd _),λx c e=>I.freeC x c (up _ _ e),λp hp=>absurd (show p∈([]:List (Addr×Obj))from hp) (by simp),I.hok.kept old,?_⟩
 ·by_cases hi:i=0
  ·subst hi
   have ex:x=pn:=Yz ((show Nc[0]?=some x from e1).symm.trans hp0)
   subst ex
   have hl:0<(ZbM js σ).length:=by
    unfold ZbM
    rw[Yf]
    exact(Yq.mp hj0).1
   rw[List.getElem?_set_self hl]at e2
   cases e2
   exact⟨u,r,.inl ⟨hpl,by simp⟩⟩
  ·rw[List.getElem?_set_ne (Ne.symm hi)]at e2
   have e2':(ZbM js σ)[i]?=some (some v'):=e2
   unfold ZbM at e2'
   rw[YF]at e2'
   cases hq:js[i]? with
   |none=>rw[hq]at e2';cases e2'
   |some j0 =>
    cases j0 with
    |none=>rw[hq]at e2';cases e2'
    |some j =>
     rw[hq]at e2'
     simp only[Option.map_some,Option.some.injEq]at e2'
     have e4:σ[j]?=some (some v'):=by
      cases z:σ[j]? with
      |none=>rw[z]at e2';cases e2'
      |some o=>rw[z]at e2';simp only[Option.join_some]at e2';rw[e2']
     obtain⟨y,y1,y2,y3⟩:=Zgb htk hq
     rw[Nat.zero_add]at y1
     have:x=y:=Yz ((show Nc[i]?=some x from e1).symm.trans y1)
     subst this
     have hm:=lookup_mem y3
     obtain⟨c1,h1',h2'⟩:=hfr _ hm rfl
     have hk:=ZiB hok _ hm rfl
     obtain⟨m0,hn0,hl0⟩:=I.loc
     obtain⟨u',r',l⟩:=hl0 j x v' y2 e4 (hk.elim (λz=>.inr (.inl z)) λz=>.inr (.inr z))
     refine⟨u',r',.inr ⟨.inr y3,c1,h1',?_⟩⟩
     rcases l with⟨lk,_⟩|⟨_,c',c3,c4⟩
     ·rcases hk with z|z
      ·rw[show X.env.kindOf x=some .cell from z]at lk;cases lk
      ·rw[show X.env.kindOf x=some .free from z]at lk;cases lk
     ·rw[h2']at c3;cases c3
      obtain⟨oc,w1,w2⟩:=c4
      exact⟨oc,old _ _ w1,w2⟩
 ·obtain⟨v,oc,w1,w2⟩:=I.cell x c (up _ _ e)
  exact⟨v,oc,old _ _ w1,w2⟩
 ·show((ZbM js σ).set 0 (some v)).length=Nc.length
  unfold ZbM
  have:=Zew htk
  rw[List.length_set,Yf]
  omega
structure LamSc (X:Cx) (Nc:List Str) (js:List (Option Nat)) (params:Arguments) (body:Expr) (scope:Scope) (pn:Str):Prop where
 ok:compOk X.env.scope scope=true
 tk:takesC X.N Nc scope js 0=true
 p0:Nc[0]?=some pn
 j0:js[0]?=some none
 pl:scope.names.lookup pn=some .local
 co:scope.isCoroutine=false
 gen:scope.isGenerator=false
 bd:∀(q:Str) (cl:List (Str×Addr)) (pm cd ctv u:Value),bindArgs (kla_fn "<lambda>" q params body scope cl pm cd ctv) ⟨[u],[]⟩=pure [(pn,u)]
theorem Zsv {pins:List (Addr×Obj)}{σ:St}{H:Hp}{s:Shared}{A':Around}{Nc:List Str}{js:List (Option Nat)}{q pn:Str}{params:Arguments}{body:Expr}{scope:Scope}{P f:Addr}{v:V}{u:Value}{tb:TE}{Q:VK}{E:Value->Shared->Prop}
  (S:LamSc X Nc js params body scope pn) (hbody:∀cl L f c s H,PE (Znd X A' Nc q scope cl L f c s H) body tb) (I:Inv X pins σ H s) (hA:A'.frames=some X.stack) (hh:X.calm=true->A'.handled=none) (hroom:A'.depth<recursionLimit) (L:Zoz X.env P q params body scope H f)
  (r:RelV v u) (h:tb ((ZbM js σ).set 0 (some v)) H Q):wpAny (model X.prog X.w) A' (call (.ref f) [u]) (EP X pins σ Q) E s:=by
 obtain⟨c,oc,vs,t,cl,pm,ctv,e1,e2,e3,e4,up,hfr⟩:=L
 have hfo:=(I.hok f _ e1).1
 have hoc:=(I.hok c _ e2).1
 refine wpAny_call (codeAny_mono (R:=λr s'=>∃u',r=.ok (.ret u')/\EP X pins σ Q u' s') (kla_callFunE hroom hfo rfl S.co S.gen rfl ⟨c,oc,vs,t,rfl,hoc,e3,e4⟩ ?_) λr s' ⟨u',hr,z⟩=>by subst hr;exact z)
 show wpAny _ _ (bindArgs (kla_fn "<lambda>" q params body scope cl pm (.ref c) ctv) ⟨[u],[]⟩) _ _ _
 rw[S.bd]
 refine Ye (wpAny_newFunctionEnv (λx hx=>ZiA S.ok x hx) (λx hx=>?_) (λh₁ hns hsb=>⟨I.nolimit.fresh _ hsb,?_⟩) (Ziz S.ok))
 ·have:x=(pn,u):=by simpa using hx
  subst this;exact S.pl
 show codeAny _ _ (.expr body (envX q scope s.heap.objs.size f (.ref c) cl)) _ _
 have old:∀b o,s.heap.get? b=some o->h₁.get? b=some o:=λb o e=>hsb.extBut b o (Yn (Yj e)) (Yg _ e)
 have J:=Zqu (q:=q) (f:=f) (c:=c) (tk:=s.toks+[(pn,u)].length) I hA hh S.ok S.tk S.p0 S.j0 S.pl up hfr r old hns
 refine kla_codeExpr (YK (hbody cl _ f c s H [] _ _ H Q J h) (λv' s' ⟨x,H',J',r',q'⟩=>⟨v',rfl,x,H',?_,r',q'⟩) λ_ _ z=>z.elim)
 exact I.call' (ch:=[]) J'.os J'.base J'.hok J'.bare λb z=>absurd z (by simp)
end
section
variable {prog:Program}{w:World}{A:Around}{E:Value->Shared->Prop}{s:Shared}
noncomputable def Zsw (b:Bool) (st:SortSt):Array Value:=if b then ((arrOf st).map (·.2)).reverse else (arrOf st).map (·.2)
noncomputable def ZoB (h:Heap) (kS a:Addr) (out:Array Value):Heap:=(h.update kS (Obj.mapSeq λ_=>(#[]:Array Value))).update a (Obj.mapSeq λ_=>out)
theorem ZuZ {a kS:Addr}{b:Bool}{e e1:Nat}{keys:Array Value}{st:SortSt}{R:PySem.Fin->Shared->Prop} (ok:s.heap.get? kS=some (seqObj "list" keys e)) (oa:s.heap.get? a=some (seqObj "list" #[] e1)) (ne:a≠kS) (z1:keys.size<=1000) (z2:(arrOf st).size<=1000) (hf:failedOf st=none)
  (h:R (.done (.ret .none)) {s with heap:=ZoB s.heap kS a (Zsw b st)}):wpAny (model prog w) A (ksk_tail a b e1 (.ref kS) st) R E s:=by
 have oa1:(s.heap.update kS (Obj.mapSeq λ_=>(#[]:Array Value))).get? a=some (seqObj "list" #[] e1):=(Heap.get?_update_ne _ _ _ _ ne).trans oa
 have zo:(Zsw b st).size<=sizeLine+1:=by
  unfold Zsw
  cases b
  ·rw[Yb Yy,Array.size_map];exact Nat.le_succ_of_le (Yh z2 (by decide))
  ·rw[Yc rfl,Array.size_reverse,Array.size_map];exact Nat.le_succ_of_le (Yh z2 (by decide))
 unfold ksk_tail
 dsimp only
 refine Ya (listUpdate_at ok rfl (Ya (wpAny_letGo (Ya (seqEpoch_at oa1 rfl (Ya (listUpdate_at oa1 rfl ?_ (Ys _) zo)))))) (Yh z1 (by decide)) (Ys _))
 rw[hf]
 simp only[bne_self_eq_false,Bool.false_eq_true,if_false]
 exact Ye h
theorem sk_end {a kS:Addr}{b:Bool}{e e1:Nat}{keys:Array Value}{vs:List Value}{kz:List Int}{R:PySem.Fin->Shared->Prop} (ok:s.heap.get? kS=some (seqObj "list" keys e)) (oa:s.heap.get? a=some (seqObj "list" #[] e1)) (ne:a≠kS) (hk:IntsAre keys.toList kz) (hl:kz.length=vs.length) (h64:vs.length<64)
  (h:∀out:Array Value,KskOut b kz vs out.toList->R (.done (.ret .none)) {s with heap:=ZoB s.heap kS a out}):wpAny (model prog w) A (ksk_end a b vs.toArray e1 (.ref kS) keys) R E s:=by
 have hz:keys.size=vs.length:=by
  have q:=hk.length
  rw[YO]at q;omega
 have hzz:(keys.zip vs.toArray).size=vs.length:=by rw[Array.size_zip,hz,Yp,Nat.min_self]
 have go:∀t:Sem PySem.Fin,wpAny (model prog w) A t R E s->wpAny (model prog w) A (if b=true then (rule "list.sort.reverse" >>= λ_=>t)else t) R E s:=λt ht=>by
  cases b
  ·exact ht
  ·exact Ya (wpAny_rule ht)
 have hst:(if b=true then (keys.zip vs.toArray).reverse else keys.zip vs.toArray).Perm (keys.zip vs.toArray):=by
  cases b
  ·exact .refl _
  ·exact Array.perm_iff_toList_perm.mpr (by rw[Yc rfl,Array.toList_reverse];exact List.reverse_perm _)
 have done:∀st:SortSt,(arrOf st).Perm (keys.zip vs.toArray)->failedOf st=none->SortedTo (arrOf st) (arrOf st).size->wpAny (model prog w) A (ksk_tail a b e1 (.ref kS) st) R E s:=λst q1 q2 q3 =>
  ZuZ ok oa ne (by omega) (by rw[q1.size_eq,hzz];omega) q2 (h _ (ksk_out hk q1 q3))
 unfold ksk_end
 refine go _ ?_
 by_cases h2:vs.length<2
 ·have h2':vs.toArray.size<2:=by rw[Yp];exact h2
  rw[Yc h2',Yc h2']
  refine Ya (Ye ?_)
  dsimp only
  rw[StateT.run_pure]
  refine Ya (Ye (done (SortSt.mk' general' (if b=true then (keys.zip vs.toArray).reverse else keys.zip vs.toArray) #[] 7 none) hst rfl λi j hij hj=>?_))
  have hj':j<(if b=true then (keys.zip vs.toArray).reverse else keys.zip vs.toArray).size:=hj
  rw[hst.size_eq,hzz]at hj'
  rw[show i=j by omega]
  exact Int.le_refl _
 ·have h2':¬ vs.toArray.size<2:=by rw[Yp];exact h2
  rw[Yb h2',Yb h2',ksk_kind hk (by omega)]
  refine Ya (Ye (Ya (YK (wpS_sortRuns (a₀:=keys.zip vs.toArray) (st:=SortSt.mk' oneType' (if b=true then (keys.zip vs.toArray).reverse else keys.zip vs.toArray) #[] 7 none)
   (Q:=λ_ st=>(arrOf st).Perm (keys.zip vs.toArray)/\failedOf st=none/\SortedTo (arrOf st) (keys.zip vs.toArray).size) (ksk_intKeys hk) ⟨hst,rfl,rfl,rfl⟩ (by omega) (by omega) λst q1 q2 q3=>⟨q1,q2,q3⟩) ?_ λ_ _ z=>z)))
  rintro⟨⟨⟩,st⟩ s' ⟨rfl,q1,q2,q3⟩
  exact done st q1 q2 (by rw[q1.size_eq];exact q3)
end
section
variable {X:Cx}
theorem Inv.track {pins:List (Addr×Obj)}{σ:St}{H:Hp}{s:Shared}{a:Addr}{o:HO} (I:Inv X pins σ H s) (hn:H a=none) (hL:a≠X.env.locals) (h1:a∈X.ex\/X.s₀.heap.objs.size<=a) (h2:∀x c,X.env.cells.lookup x=some c->c≠a) (h3:∀p∈X.pn++pins,p.1≠a)
  (new:ZY X.prog X.w (upd H a o) s.heap a o):Inv X pins σ (upd H a o) s:=by
 have up:∀b u,H b=some u->upd H a o b=some u:=λb u e=>by rw[Zh (Zu e hn)];exact e
 have J:=I.step (g':=s.gens) (d':=s.drawn) (t':=s.toks) (h':=s.heap) (H':=upd H a o) (ch:=[a]) (λb hb=>?_) (λb o _ _ _ e _=>e) (λb o _ _ _ e _=>⟨o.slots,e⟩) (λb o hb e n=>?_) (λb o _ e=>⟨o,e⟩) (λb xs e=>up _ _ e) (λb o u e=>up _ _ e) (λb ps e=>⟨#[],by rw[up _ _ e];simp⟩) (λm hm=>hm) (λb u e=>?_) I.bare
 ·exact J
 ·have e:b=a:=by simpa using hb
  subst e
  exact⟨h1,hL,h2,h3⟩
 ·rw[Zh (λz=>hb (by simp[z]))];exact n
 ·by_cases z:b=a
  ·subst z;rw[Zb]at e;cases e;exact new
  ·rw[Zh z]at e
   exact(I.hok b u e).Zjs (λc v _ q=>q) (λc q=>up _ _ q) (λc xs q=>up _ _ q) λc o' u' q=>up _ _ q
theorem Zu0 {pins:List (Addr×Obj)}{σ:St}{H:Hp}{s:Shared}{A':Around}{E:Value->Shared->Prop}{f:Value}{b:Bool}{a kS:Addr}{e1:Nat}{vs:List Value}{ns:List Int}{kz:Int->Int}{R:PySem.Fin->Shared->Prop}
  (I:Inv X ((kS,seqObj "list" #[] 0)::(a,seqObj "list" #[] e1)::pins) σ H s) (hk0:X.s₀.heap.objs.size<=kS) (ha0:X.s₀.heap.objs.size<=a) (ne:a≠kS) (hp:∀p∈X.pn++pins,p.1≠kS/\p.1≠a) (hv:IntsAre vs ns) (h64:vs.length<64)
  (turn:∀(H':Hp) (s':Shared) (pins':List (Addr×Obj)) (n:Int) (u:Value),n∈ns->Inv X pins' σ H' s'->Zf H H'->RelV (.int n) u->wpAny (model X.prog X.w) A' (call f [u]) (EP X pins' σ λv H2=>v=.int (kz n)/\Zf H' H2) (λ_ _=>False) s')
  (fin:∀(H':Hp) (s':Shared) (out:Array Value) (c:Nat),Inv X pins σ H' s'->Zf H H'->H' a=none->s'.heap.get? a=some (seqObj "list" out c)->KskOut b (ns.map kz) vs out.toList->R (.done (.ret .none)) s') :
  wpAny (model X.prog X.w) A' (ksk_rest a f b vs.toArray e1 (.ref kS)) R E s:=by
 have hlen:vs.length=ns.length:=hv.length
 have facts:∀{H':Hp}{s':Shared}{ps:List (Addr×Obj)}{x:Addr}{xs:Array Value}{c:Nat},Inv X ps σ H' s'->(x,seqObj "list" xs c)∈ps->s'.heap.get? x=some (seqObj "list" xs c)/\H' x=none/\x≠X.env.locals/\x∉X.fs/\∀y cc,X.env.cells.lookup y=some cc->cc≠x:=λ{H' s' ps x xs c} J hm=>by
  obtain⟨q1,q2,q3,q4,_⟩:=J.pin _ (Yv _ hm)
  refine⟨q1,q2,q3,q4,λy cc hc z=>?_⟩
  obtain⟨v,oc,w1,w2⟩:=J.cell y cc hc
  rw[z,q1]at w1;cases w1;cases w2
 unfold ksk_rest
 refine Ya (wpAny_rule ?_)
 first
  |rw[List.forIn_toArray]
  |(rw[<-Array.forIn_toList];simp only[List.toList_toArray])
 refine Ya (ksk_fold (λi s'=>∃H' kA e,Inv X ((kS,seqObj "list" kA e)::(a,seqObj "list" #[] e1)::pins) σ H' s'/\Zf H H'/\IntsAre kA.toList ((ns.take i).map kz)) vs 0 s ⟨H,#[],0,I,Zf.refl H,by simpa using IntsAre.nil⟩ ?step ?done)
 case step =>
  rintro j x s' hx ⟨H',kA,e,J,sm,hk⟩
  simp only[Nat.zero_add]at hk⊢
  have hj:j<vs.length:=(Yq.mp hx).1
  have hnj:ns[j]?=some ns[j]:=Yi (by omega)
  obtain⟨t,ht⟩:=hv.get j _ hnj
  rw[hx]at ht
  cases ht
  have hz:kA.size<=64:=by
   have h1:=hk.length
   rw[YO,Yf,YY]at h1
   omega
  refine Ya (wpAny_attempt (YK (turn H' s' _ ns[j] _ (YH _) J sm ⟨t,rfl⟩) (λv s'' he=>?_) λ_ _ hF=>hF.elim))
  obtain⟨x2,H2,J2,r2,rfl,sm2⟩:=he
  obtain⟨t2,rfl⟩:=r2
  obtain⟨o1,n1,l1,_,c1⟩:=facts J2 (YI ..)
  try dsimp only
  obtain⟨c2,hc2⟩:∃c2,(s''.heap.update kS (Obj.mapSeq (·.push (.int (kz ns[j]) t2)))).get? kS=some (seqObj "list" (kA.push (.int (kz ns[j]) t2)) c2):=⟨_,get?_update_seq o1 (·.push (.int (kz ns[j]) t2))⟩
  refine Ya (listUpdate_at o1 rfl ?_ (Yh hz (by decide)) (Yh (Y4 (Array.size_push ..)) (Nat.le_succ_of_le (Yh (Nat.succ_le_succ hz) (by decide)))))
  have J3:Inv X ((a,seqObj "list" #[] e1)::pins) σ H2 s'':=J2.ZbK λp hp'=>by
   obtain⟨q1,q2,q3,q4,q5⟩:=J2.pin p (Yv _ (YJ _ hp'))
   exact⟨q1,q2,q3,q4,q5⟩
  have J4:=J3.turned (t':=s''.toks) (h':=s''.heap.update kS (Obj.mapSeq (·.push (.int (kz ns[j]) t2)))) (it:=kS) (λb o nb e=>(Heap.get?_update_ne _ _ _ _ nb).trans e) n1 l1 (.inr hk0) c1 (λp hp'=>by
   rcases YC.mp hp' with z|z
   ·exact(hp p (YT _ z)).1
   ·rcases Yl.mp z with rfl|z
    ·exact ne
    ·exact(hp p (Yv _ z)).1)
  have o1f:=(facts J2 (YI ..)).2.2.2.1
  have J5:Inv X ((kS,seqObj "list" (kA.push (.int (kz ns[j]) t2)) c2)::(a,seqObj "list" #[] e1)::pins) σ H2 {s'' with heap:=s''.heap.update kS (Obj.mapSeq (·.push (.int (kz ns[j]) t2)))}:=J4.ZbK λp hp'=>by
   rcases Yl.mp hp' with rfl|hp'
   ·exact⟨hc2,n1,l1,o1f,λv z=>by cases z⟩
   ·exact J4.pin p (Yv _ hp')
  refine Ye ⟨rfl,H2,_,_,J5,sm.trans sm2,?_⟩
  have ek:(ns.take (j+1)).map kz=(ns.take j).map kz++[kz ns[j]]:=by rw[Y6,hnj,YU];rfl
  have ea:(kA.push (Value.int (kz ns[j]) t2)).toList=kA.toList++[Value.int (kz ns[j]) t2]:=by simp
  rw[ea,ek];exact ksk_snoc hk
 case done =>
  rintro s' ⟨H',kA,e,J,sm,hk⟩
  have hk':IntsAre kA.toList (ns.map kz):=by
   rw[List.take_of_length_le (by omega)]at hk
   exact hk
  obtain⟨o1,n1,l1,f1,c1⟩:=facts J (YI ..)
  obtain⟨o2,n2,l2,f2,c2⟩:=facts J (YJ _ (YI ..))
  refine Ya (listItems_at o1 rfl ?_)
  refine sk_end o1 o2 ne hk' (by rw[Yf];exact hlen.symm) h64 λout ho=>?_
  have J3:Inv X pins σ H' s':=J.ZbK λp hp'=>J.pin p (Yv _ (YJ _ (YJ _ hp')))
  have J4:=J3.turned (t':=s'.toks) (h':=s'.heap.update kS (Obj.mapSeq λ_=>(#[]:Array Value))) (it:=kS) (λb o nb e=>(Heap.get?_update_ne _ _ _ _ nb).trans e) n1 l1 (.inr hk0) c1 λp hp'=>(hp p hp').1
  have J5:=J4.turned (t':=s'.toks) (h':=ZoB s'.heap kS a out) (it:=a) (λb o nb e=>(Heap.get?_update_ne _ _ _ _ nb).trans e) n2 l2 (.inr ha0) c2 λp hp'=>(hp p hp').2
  have o3:(s'.heap.update kS (Obj.mapSeq λ_=>(#[]:Array Value))).get? a=some (seqObj "list" #[] e1):=(Heap.get?_update_ne _ _ _ _ ne).trans o2
  exact fin H' _ out _ J5 sm n2 (get?_update_seq o3 λ_=>out) ho
theorem Zu1 {pins:List (Addr×Obj)}{σ:St}{H:Hp}{s:Shared}{A':Around}{E:Value->Shared->Prop}{f:Value}{b:Bool}{a:Addr}{e0:Nat}{vs:List Value}{ns:List Int}{kz:Int->Int}{R:PySem.Fin->Shared->Prop}
  (I:Inv X ((a,seqObj "list" vs.toArray e0)::pins) σ H s) (ha0:X.s₀.heap.objs.size<=a) (hp:∀p∈X.pn++pins,p.1≠a) (hv:IntsAre vs ns) (h64:vs.length<64)
  (turn:∀(H':Hp) (s':Shared) (pins':List (Addr×Obj)) (n:Int) (u:Value),n∈ns->Inv X pins' σ H' s'->Zf H H'->RelV (.int n) u->wpAny (model X.prog X.w) A' (call f [u]) (EP X pins' σ λv H2=>v=.int (kz n)/\Zf H' H2) (λ_ _=>False) s')
  (fin:∀(H':Hp) (s':Shared) (out:Array Value) (c:Nat),Inv X pins σ H' s'->Zf H H'->H' a=none->s'.heap.get? a=some (seqObj "list" out c)->KskOut b (ns.map kz) vs out.toList->R (.done (.ret .none)) s') :
  wpAny (model X.prog X.w) A' (ksk_tree a f b) R E s:=by
 obtain⟨oa,na,la,fa,da⟩:=I.pin _ (Yv _ (YI ..))
 have ca:∀y cc,X.env.cells.lookup y=some cc->cc≠a:=λy cc hc z=>by
  obtain⟨v,oc,w1,w2⟩:=I.cell y cc hc
  rw[z,oa]at w1;cases w1;cases w2
 have lt:=Yj oa
 obtain⟨e1,oa1⟩:∃e1,(s.heap.update a (Obj.mapSeq λ_=>(#[]:Array Value))).get? a=some (seqObj "list" #[] e1):=⟨_,get?_update_seq oa λ_=>#[]⟩
 have I0:Inv X pins σ H s:=I.ZbK λp hp'=>I.pin p (Yv _ (YJ _ hp'))
 have I1:=I0.turned (t':=s.toks) (h':=s.heap.update a (Obj.mapSeq λ_=>(#[]:Array Value))) (it:=a) (λb o nb e=>(Heap.get?_update_ne _ _ _ _ nb).trans e) na la (.inr ha0) ca hp
 have sz:(s.heap.update a (Obj.mapSeq λ_=>(#[]:Array Value))).objs.size=s.heap.objs.size:=Heap.size_update ..
 have I2:=I1.kept (h':=((s.heap.update a (Obj.mapSeq λ_=>(#[]:Array Value))).push (seqObj "tuple" vs.toArray 0)).push (seqObj "list" #[] 0)) (t':=s.toks) λb o e=>Yg _ (Yg _ e)
 have sz2:((s.heap.update a (Obj.mapSeq λ_=>(#[]:Array Value))).push (seqObj "tuple" vs.toArray 0)).objs.size=s.heap.objs.size+1:=(size_push' ..).trans (congrArg (·+1) sz)
 have hge:X.s₀.heap.objs.size<=s.heap.objs.size:=I.sz
 have hkL:X.env.locals<s.heap.objs.size:=I.lt
 have nk:H (s.heap.objs.size+1)=none:=I.hok.fresh (YZ _)
 unfold ksk_tree
 refine Ya (listItems_at oa rfl (Ya (listUpdate_at oa rfl (Ya (seqEpoch_at oa1 rfl (Ya (wpAny_newTuple (Ya (wpAny_newList (wpAny_holding ?_) (Ys _))) ?_)))) ?_ (Ys _))))
 ·rw[sz2]
  refine Zu0 (kS:=s.heap.objs.size+1) (e1:=e1) (I2.ZbK λp hp'=>?_) (Nat.le_succ_of_le hge) ha0 (Yn (YN lt)) (λp hp'=>⟨?_,hp p hp'⟩) hv h64 turn fin
  ·rcases Yl.mp hp' with rfl|hp'
   ·exact⟨by rw[<-sz2];exact Yk _ rfl,nk,Nat.ne_of_gt (YN hkL),I.nofs (YZ _),λv z=>by cases z⟩
   ·rcases Yl.mp hp' with rfl|hp'
    ·exact⟨Yg _ (Yg _ oa1),na,la,fa,λv z=>by cases z⟩
    ·exact I2.pin p (Yv _ hp')
  ·have:=Yj (I0.pin p hp').1
   exact Yn (YN this)
 ·exact Yh (show vs.length<=64 by omega) (by decide)
 ·rw[Yp];exact Yh (show vs.length<=64 by omega) (by decide)
end
theorem Zsx {prog:Program}{w:World}{A:Around}{R:Result->Shared->Prop}{s:Shared}{r S:Addr}{a b c:Int}{t u v:Tok}{n c₀:Nat} (hh:A.handled=none) (hr:IsRange s.heap r a b c t u v) (hsmall:Builtin.Range.small a b c=true)
  (hn:Builtin.Range.rangeSize a b c=n) (hlen:n<=2 ^ 24) (hS:s.heap.get? S=some {cls:=.type "list",data:=.seq #[] c₀})
  (hR:∀h' tk acc' c',(∀b o,b≠S->s.heap.get? b=some o->h'.get? b=some o)->h'.get? S=some {cls:=.type "list",dict:=none,data:=.seq acc' c',slots:=#[]}->ItemsOf (λi v=>∃t,v=.int (a+i*c) t) acc' n->R (.ok (.ret (.ref S))) {s with heap:=h',toks:=tk}) :
  codeAny (model prog w) A (.builtin "list.__iadd__" ⟨[.ref S,.ref r],[]⟩) R s :=
 codeAny_builtin entry_list_iadd' (wpAny_extend_range hh hr hsmall hn hlen S (.ref S) c₀ hS hR)
theorem Zne {prog:Program}{w:World}{A:Around}{E:Value->Shared->Prop}{s:Shared}{r:Addr}{a b c:Int}{t u v:Tok}{n:Nat}{Q:List Value->Shared->Prop} (hh:A.handled=none) (hr:IsRange s.heap r a b c t u v) (hsmall:Builtin.Range.small a b c=true)
  (hn:Builtin.Range.rangeSize a b c=n) (hlen:n<=2 ^ 24) (h:∀(h':Heap) (tk:Nat) (acc:Array Value),(∀b o,s.heap.get? b=some o->h'.get? b=some o)->ItemsOf (λi v=>∃t,v=.int (a+i*c) t) acc n->Q acc.toList {s with heap:=h',toks:=tk}) :
  wpAny (model prog w) A (collect (.ref r)) Q E s:=by
 unfold collect
 refine Ya (wpAny_runValue (codeAny_builtin entry_proto_collect' ?_))
 show wpAny _ _ (newList [] >>= λl=>again (.builtin "list.__iadd__" ⟨[l,.ref r],[]⟩)) _ _ s
 refine Ya (wpAny_newList (Ye ⟨Code.quiet_builtin _ (by decide +kernel),?_⟩))
 refine Zsx (s:={s with heap:=s.heap.push (seqObj "list" #[] 0)}) hh (Yg _ hr) hsmall hn hlen (Yk _ rfl) λh' tk acc c' hk hS hacc=>?_
 refine Ya (wpAny_load hS (Ye (h h' tk acc (λb o e=>hk b o (Yn (Yj e)) (Yg _ e)) hacc)))
theorem Znf (g:Int->Int):∀vs:List Value,((vs.map numOf).map g).zip vs=vs.map λv=>(g (numOf v),v)
 |[]=>rfl
 |v::vs=>by
  simp only[YE,List.zip_cons_cons]
  rw[Znf g vs]
theorem ZoC {b:Bool}{g:Int->Int}{vs out:List Value}{ns:List Int} (hv:IntsAre vs ns) (h:KskOut b (ns.map g) vs out):∃ns',IntsAre out ns'/\ns'.Perm ns/\ns'.Pairwise λx y=>if b then g y<=g x else g x<=g y:=by
 obtain⟨ps,hp,rfl,hs⟩:=h
 have en:ns=vs.map numOf:=hv.nums.symm
 rw[en,Znf]at hp
 have mem:∀p∈ps,p.1=g (numOf p.2)/\p.2∈vs:=λp hp'=>by
  obtain⟨v,hv',rfl⟩:=YB.mp (hp.mem_iff.mp hp')
  exact⟨rfl,hv'⟩
 refine⟨(ps.map Prod.snd).map numOf,intsAre_map _ λv hv'=>?_,?_,?_⟩
 ·obtain⟨p,hp',rfl⟩:=YB.mp hv'
  exact hv.all _ (mem p hp').2
 ·have:=(hp.map Prod.snd).map numOf
  rw[YV (l:=vs),show(Prod.snd ∘ λv=>(g (numOf v),v))=(id:Value->Value)from rfl,List.map_id]at this
  rw[en];exact this
 ·rw[List.pairwise_map,List.pairwise_map]
  refine hs.imp_of_mem λ{p q} hp' hq' hr=>?_
  rw[<-(mem p hp').1,<-(mem q hq').1]
  exact hr
noncomputable def nats (n:Int):List Int:=(List.range n.toNat).map λ(i:Nat)=>(i:Int)
section
variable {X:Cx}
theorem ZoD {pins:List (Addr×Obj)}{σ:St}{H:Hp}{s:Shared}{kw:List (Str×Value)}{f:Value}{b:Bool}{p:Addr}{n:Int}{kz:Int->Int}{Q:VK} (I:Inv X pins σ H s) (hc:X.calm=true) (hp:H p=some (.rng 0 n)) (h0:0<=n) (h64:n<64)
  (ha1:argsOk "sorted" ⟨[.ref p],kw⟩) (ha2:∀x,argsOk "list.sort" ⟨[.ref x],kw⟩) (ht:∀x,Builtin.«list.sort» ⟨[.ref x],kw⟩=ksk_tree x f b)
  (turn:∀(H':Hp) (s':Shared) (pins':List (Addr×Obj)) (i:Int) (u:Value),0<=i->i<n->Inv X pins' σ H' s'->Zf H H'->RelV (.int i) u->wpAny (model X.prog X.w) X.A.in1.in1 (call f [u]) (EP X pins' σ λv H2=>v=.int (kz i)/\Zf H' H2) (λ_ _=>False) s')
  (fin:∀(ns:List Int) (l:Addr) (H':Hp),ns.Perm (nats n)->(ns.Pairwise λx y=>if b then kz y<=kz x else kz x<=kz y)->Zf H H'->H l=none->H' l=some (.lst (ns.map V.int))->Q (.ref l) H') :
  wpAny (model X.prog X.w) X.A (call (.builtin "sorted") [.ref p] kw) (EP X pins σ Q) X.xe s:=by
 obtain⟨t,u,v,hob⟩:=(show ∃t u v,s.heap.get? p=some {cls:=.type "range",data:=.fields #[.int 0 t,.int n u,.int 1 v]}from I.hok p _ hp)
 refine call_function_entry_kw kind_sorted plain_sorted entry_sorted ha1 ?_
 unfold Builtin.«sorted»
 refine Ya (m:=checkCount "sorted" 1 1 _) (Ye (Ya (Zne (n:=n.toNat) (I.ok.hd hc) hob (small_one (by omega) (by omega) (by omega) (by omega)) (by rw[rangeSize_one];split<;>omega) (by omega) λh1 tk acc k1 hacc=>Ya (wpAny_newList ?_ ?_))))
 case refine_2=>rw[YO,hacc.1];exact Yh (show n.toNat<=1000 by omega) (by decide)
 have hia:IntsAre acc.toList (nats n):=by
  have hv:Vals ((nats n).map V.int) acc.toList:=by
   unfold nats
   rw[YV]
   exact ZuL (g:=λ(i:Nat)=>V.int (i:Int)) (P:=λ(i:Nat) v=>∃t,v=.int (0+(i:Int)*1) t) (λi v h=>by obtain⟨t,e⟩:=h;exact⟨t,by rw[e];simp⟩) _ _ (by rw[YO];exact hacc.1) λk v hk=>hacc.2 k v (by simpa using hk)
  exact intsAre_of hv
 have I1:=I.kept (t':=tk) k1
 show wpAny _ _ _ _ _ {s with heap:=h1.push (seqObj "list" acc.toList.toArray 0),toks:=tk}
 have oa:(h1.push (seqObj "list" acc.toList.toArray 0)).get? h1.objs.size=some (seqObj "list" acc.toList.toArray 0):=Yk _ rfl
 have I2:=I1.kept (h':=h1.push (seqObj "list" acc.toList.toArray 0)) (t':=tk) λb o e=>Yg _ e
 have na:H h1.objs.size=none:=I1.hok.fresh (Yd _)
 have la:h1.objs.size≠X.env.locals:=Nat.ne_of_gt I1.lt
 have a0:X.s₀.heap.objs.size<=h1.objs.size:=I1.sz
 have hl:acc.toList.length<64:=by rw[YO,hacc.1];omega
 refine Ya (wpAny_holding (wpAny_call_entry_kw slot_list_sort ⟨_,oa,rfl⟩ entry_list_sort ?body (ha2 _)))
 case body =>
  show wpAny (model X.prog X.w) X.A.in1.in1 (Builtin.«list.sort» ⟨[.ref h1.objs.size],kw⟩) _ _ _
  rw[ht]
  refine Zu1 (e0:=0) (pins:=pins) (ns:=nats n) (kz:=kz) (I2.ZbK λq hq=>?_) a0 (λq hq=>?_) hia hl (λH' s' pins' i u hi J sm r=>?_) λH' s' out c J sm n2 o2 ko=>⟨_,rfl,Ye ⟨_,rfl,?_⟩⟩
  ·rcases Yl.mp hq with rfl|hq
   ·exact⟨oa,na,la,I1.nofs (Yd _),λv z=>by cases z⟩
   ·exact I2.pin q (Yv _ hq)
  ·exact Yn (Yj (I1.pin q hq).1)
  ·obtain⟨k,hk,rfl⟩:=YB.mp hi
   have:=Yu.mp hk
   exact turn H' s' pins' _ u (by omega) (by omega) J sm r
  ·obtain⟨ns,hi,hpm,hpw⟩:=ZoC hia ko
   have ca:∀y cc,X.env.cells.lookup y=some cc->cc≠h1.objs.size:=λy cc hc' z=>by
    obtain⟨v,oc,w1,w2⟩:=I1.cell y cc hc'
    exact absurd (Yj w1) (by rw[z];exact YA _)
   have K:=J.track (a:=h1.objs.size) (o:=.lst (ns.map V.int)) n2 la (.inr a0) ca (λq hq=>Yn (Yj (I1.pin q hq).1)) ⟨?_,out.toList,c,ZhY hi,by rw[Array.toArray_toList];exact o2⟩
   ·exact⟨.ref h1.objs.size,_,K,rfl,fin ns _ _ hpm hpw (λb o e=>by rw[Zh (Zu e na)];exact sm _ _ e) na Zb⟩
   ·rw[Yf,hpm.length_eq]
    unfold nats
    rw[Yf,Y2]
    exact Yh (show n.toNat<=1000 by omega) (by decide)
noncomputable def ZpD (ta td:TA) (tb:TE) (js:List (Option Nat)) (env:Env) (P:Addr) (q:Str) (params:Arguments) (body:Expr) (scope:Scope):TE:=fun σ H Q=>ta σ H λvs H1=>td σ H1 λzs H2=>∃(p f:Addr) (n:Int) (kz:Int->Int),
 vs=[.ref p]/\zs=[.ref f,.bl true]/\H2 p=some (.rng 0 n)/\0<=n/\n<64/\Zoz env P q params body scope H2 f /\
 (∀i H3,0<=i->i<n->Zf H2 H3->tb ((ZbM js σ).set 0 (some (.int i))) H3 λv H4=>v=.int (kz i)/\Zf H3 H4) /\
 ∀(ns:List Int) (l:Addr) (H3:Hp),ns.Perm (nats n)->(ns.Pairwise λx y=>kz y<=kz x)->Zf H2 H3->H2 l=none->H3 l=some (.lst (ns.map V.int))->Q (.ref l) H3
theorem Zsy {pins':List (Addr×Obj)}{σ:St}{H':Hp}{s':Shared}{Nc:List Str}{js:List (Option Nat)}{q pn:Str}{params:Arguments}{body:Expr}{scope:Scope}{P f:Addr}{tb:TE}{Q:VK}{m:Nat}{i:Int}{u:Value} (hr:Room m X.A)
  (S:LamSc X Nc js params body scope pn) (hbody:∀cl L f c s H,PE (Znd X X.A.in1.in1 Nc q scope cl L f c s H) body tb) (J:Inv X pins' σ H' s') (L:Zoz X.env P q params body scope H' f) (r:RelV (.int i) u)
  (h:tb ((ZbM js σ).set 0 (some (.int i))) H' Q):wpAny (model X.prog X.w) X.A.in1.in1 (call (.ref f) [u]) (EP X pins' σ Q) (λ_ _=>False) s' :=
 Zsv S hbody J J.ok.frames J.ok.hd hr.depth L r h
theorem Zqv {Nc:List Str}{js:List (Option Nat)}{q pn:Str}{params:Arguments}{body:Expr}{scope:Scope}{P:Addr}{ta td:TA}{tb:TE}{m:Nat}{e:Expr}{e2:Expr}{p pos lpos kp1 kp2:Pos} (hc:X.calm=true) (hr:Room m X.A) (S:LamSc X Nc js params body scope pn)
  (hbody:∀cl L f c s H,PE (Znd X X.A.in1.in1 Nc q scope cl L f c s H) body tb) (hg:Gl X "sorted") (hm:X.mg "sorted"=none) (ha:PA X [e] ta) (hd:PK X [⟨some (Str.ofString "key"),.Lambda params body scope lpos,kp1⟩,⟨some (Str.ofString "reverse"),e2,kp2⟩] td)
  (hpl:(backTo pos (starEach [e] X.env)).any (·.1)=false:=by rfl) (hall:(backToKw pos (keywordEach [⟨some (Str.ofString "key"),.Lambda params body scope lpos,kp1⟩,⟨some (Str.ofString "reverse"),e2,kp2⟩] X.env)).all (·.1.isSome)=true:=by rfl)
  (hnn:(backToKw pos (keywordEach [⟨some (Str.ofString "key"),.Lambda params body scope lpos,kp1⟩,⟨some (Str.ofString "reverse"),e2,kp2⟩] X.env)).any (·.1.isNone)=false:=by rfl) (hks:(backToKw pos (keywordEach [⟨some (Str.ofString "key"),.Lambda params body scope lpos,kp1⟩,⟨some (Str.ofString "reverse"),e2,kp2⟩] X.env)).filterMap (·.1)=[Str.ofString "key",Str.ofString "reverse"]:=by rfl) (hb:backTo pos (starEach [e] X.env)=(false,eval e X.env)::backTo pos (starEach [] X.env):=by rfl) :
  PE X (.Call (.Name "sorted" p) [e] [⟨some (Str.ofString "key"),.Lambda params body scope lpos,kp1⟩,⟨some (Str.ofString "reverse"),e2,kp2⟩] pos) (ZpD ta td tb js X.env P q params body scope):=by
 intro pins s σ H Q I h
 refine wpAny_Call_Name_kw (Zbp I hg hm Zqj ?_)
 refine PyProof.Rows.callWith_kw (thn (ha pos pins s σ H _ I h) λus s1 ⟨vs,H1,I1,r1,q1⟩=>?_) hb hpl hall hnn
 refine thn (hd pos pins s1 σ H1 _ I1 q1) λws s2 ⟨zs,H2,I2,r2,pp,f,n,kz,e1,e2,hp,h0,h64,L,tn,fin⟩=>?_
 subst e1 e2
 obtain⟨u,rfl,ru⟩:=r1.one
 cases(show u=Value.ref pp from ru)
 rw[hks]
 obtain⟨v,v2,rfl,rv,rv2⟩:=r2.two
 cases(show v=Value.ref f from rv)
 cases(show v2=Value.bool true from rv2)
 exact ZoD (f:=.ref f) (b:=true) (kz:=kz) I2 hc hp h0 h64 (ksk_s2 _ _ _) (λx=>ksk_l2 _ _ _) (λx=>ksk_t2 _ _ _) (λH' s' pins' i u hi0 hi1 J sm r=>Zsy hr S hbody J (L.same sm) r (tn i H' hi0 hi1 sm)) (λns l H' a1 a2=>fin ns l H' a1 a2)
end
noncomputable def lamQ (x:Str):Str:=(x++".<locals>.")++"<lambda>"
noncomputable def Zcz (K:Frag) (mg:Str->Option Value) (x:Str) (H:Hp):Prop:=H (Zl7 K mg x)=some (ZjQ (lamQ x))
theorem Zcz.same {K:Frag}{mg:Str->Option Value}{x:Str}{H H':Hp} (h:Zcz K mg x H) (s:Zf H H'):Zcz K mg x H':=s _ _ h
noncomputable def LamD (K:Frag) (mg:Str->Option Value) (x:Str) (f:Addr):Prop:=∃c,Zqt K f=some c/\codeHdIn K c (Zl7 K mg x)=true
section
variable {P:Program}{w:World}{K:Frag}{mg:Str->Option Value}{base:Heap}
theorem Fun.okL {x qual:Str}{st:Stmt}{f:Addr}{fd:FuncData}{N ps:List Str}{k:Nat}{sp:Sp} (F:Fun K x qual st f fd) (L:LamD K mg qual f) (B:BM mg base) (S:FnScope N ps (defScope st)) (len:∀vs H Q E,sp vs H Q E->vs.length=ps.length)
  (hbody:∀(cdv:Value) (A:Around) (outer:List Env) (s:Shared) (H:Hp) (vs:List V) (Q:VK) (E:XK),LamIn (Zhf (CXE P w) P w K mg base N qual (defScope st) f cdv A outer s H E) (Zl7 K mg qual) (lamQ qual)->Room k (A.deeper (envOfC qual (defScope st) s.heap.objs.size f cdv))->sp vs H Q E ->
   ∃t,PSs (Zhf (CXE P w) P w K mg base N qual (defScope st) f cdv A outer s H E) (defBody st) t/\t {nx:=λ_ H'=>Q .non H',rt:=Q} (start N vs) H):FnOk P w K mg base (CXE P w) (k+1) f fd ps sp:=by
 obtain⟨oc,od,kV,doc,pm,an,cdv,ct,osl,rfl,lk,hcd⟩:=F.ex
 obtain⟨c,h1,h2⟩:=L
 have e:cdv=.ref c:=by
  unfold Zqt at h1
  rw[lk]at h1
  dsimp only at h1
  cases cdv<;>first|(cases h1;rfl)|(cases h1;done)
 exact fn_of lk hcd S len λA outer s H vs Q E hr hsp=>hbody cdv A outer s H vs Q E ⟨⟨c,e,h2⟩,B,rfl⟩ hr hsp
end
theorem Zsz {b:Addr}{q:Str}:∀{l:List (Addr×Str)},l.lookup b=some q->(b,q)∈l
 |[],e=>by cases e
 |(c,y)::r,e=>by
  rw[List.lookup_cons]at e
  cases hb:b==c with
  |true=>rw[hb]at e;cases e;rw[eq_of_beq hb];exact YI
  |false=>rw[hb]at e;exact YJ _ (Zsz e)
theorem Zu2 {K:Frag}{mg:Str->Option Value}{x:Str}{f c T:Addr}{oc1 oc2:Value}{od1 od2:Option Addr}{fd:FuncData}{sl1 sl2:Array (Option Value)}{vs:Array Value} (hm:mg x=some (.ref f)) (l1:K.lookup f=some ⟨oc1,od1,.func fd,sl1⟩) (e:fd.code=.ref c) (l2:K.lookup c=some ⟨oc2,od2,.fields vs,sl2⟩) (h11:vs[11]?=some (.ref T)):Zl7 K mg x=T/\Zqt K f=some c:=by
 have h1:Zqt K f=some c:=by
  unfold Zqt
  rw[l1]
  dsimp only
  rw[e]
 refine⟨?_,h1⟩
 unfold Zl7
 rw[hm]
 dsimp only
 rw[h1]
 dsimp only
 unfold tabOf
 rw[l2]
 dsimp only
 rw[h11]
theorem Zqw {P:Program}{w:World}{K:Frag}{mg mb:Str->Option Value}{CX:CXT}{k:Nat}{fa a:Addr}{fd:FuncData}{x:Str}{sp:Sp}{s₁:Shared}{vs:List Value}{ns:List Int}{tabs:List (Addr×Str)}
  (KX:K.In s₁.heap) (hns:s₁.heap.Ns mainGlobals mg) (hb:s₁.heap.Ns builtinsNs mb) (hbb:∀x:Str,x≠"__name__"->mb x=bootBuiltins x) (hlim:s₁.heap.NoLimit) (hg:s₁.gens=#[]) (hbm:BM mg s₁.heap)
  (ha:s₁.heap.get? a=some {cls:=.type "list",data:=.seq vs.toArray}) (hi:IntsAre vs ns) (hl:ns.length<=sizeLine) (hr:Room k callerA)
  (hT:∀p∈tabs,s₁.heap.get? p.1=some (tabObj #[])/\K.lookup p.1=none/\∃c,codeHdIn K c p.1=true) (nd:(tabs.map (·.1)).Nodup)
  (F:∀base:Heap,K.In base->base.Ns mainGlobals mg->BM mg base->FnOk P w K mg base CX k fa fd [x] sp) (hbind:∀(s:Shared) (u:Value),BindsTo s fd ⟨[u],[]⟩ [(x,u)])
  (hsp:∀H:Hp,SqL K H a (ns.map V.int)->(∀p∈tabs,H p.1=some (ZjQ p.2))->sp [.ref a] H (λv _=>v=.bl true) λ_ _ _=>False)
  (hCX:∀H e s',CX [] H s₁ (λ_ _ _=>False) e s'->False) :
  codeAny (model P w) callerA (.call (.ref fa) ⟨[.ref a],[]⟩) (λr s'=>r=.ok (.ret (.bool true))/\OldK s₁.heap s'.heap/\s'.os=s₁.os/\AllBare s'.gens) s₁:=by
 have rv:=ZhY hi
 have lenV:=hi.length
 have tmem:∀b q,tabs.lookup b=some q->(b,q)∈tabs:=λb q e=>Zsz e
 have tlook:∀p∈tabs,tabs.lookup p.1=some p.2:=by
  clear hT hsp tmem
  induction tabs with
  |nil=>intro p hp;cases hp
  |cons t r ih =>
   intro p hp
   rw[YE,List.nodup_cons]at nd
   rcases Yl.mp hp with rfl|hp
   ·rw[List.lookup_cons,beq_self_eq_true]
   ·have:(p.1==t.1)=false:=beq_eq_false_iff_ne.mpr λz=>nd.1 (YB.mpr ⟨p,hp,z⟩)
    rw[List.lookup_cons,this]
    exact ih nd.2 p hp
 have core:∀H:Hp,SqL K H a (ns.map V.int)->HOk P w H s₁.heap->(∀b,H b=none\/(b=a/\K.lookup a=none/\∃o xs,H b=some (.frz o (.lst xs)))\/∃q,(b,q)∈tabs/\H b=some (ZjQ q))->(∀p∈tabs,H p.1=some (ZjQ p.2)) ->
   codeAny (model P w) callerA (.call (.ref fa) ⟨[.ref a],[]⟩) (λr s'=>r=.ok (.ret (.bool true))/\OldK s₁.heap s'.heap/\s'.os=s₁.os/\AllBare s'.gens) s₁:=by
  intro H hS hok hA hTb
  have base_of:∀{b:Addr}{o:Obj},s₁.heap.get? b=some o->H b=none->(ZkO s₁.heap H).get? b=some o:=λe n=>ZrH e n
  have noA:∀{b:Addr}{o:Obj},s₁.heap.get? b=some o->o.cls≠.type "list"->o.cls≠.none->H b=none:=λ{b o} e d1 d2=>by
   rcases hA b with z|⟨z,_⟩|⟨q,z,_⟩
   ·exact z
   ·subst z;rw[ha]at e;cases e;exact absurd rfl d1
   ·rw[(hT _ z).1]at e;cases e;exact absurd rfl d2
  have noD:∀{b:Addr}{o:Obj}{es:Array DictEntry}{ep:Nat},s₁.heap.get? b=some o->o.data=.dict es ep->H b=none:=λ{b o es ep} e d=>by
   rcases hA b with z|⟨z,_⟩|⟨q,z,_⟩
   ·exact z
   ·subst z;rw[ha]at e;cases e;cases d
   ·rw[(hT _ z).1]at e;cases e;cases d
  have nsK:∀{b:Addr}{m:Str->Option Value},s₁.heap.Ns b m->(ZkO s₁.heap H).Ns b m:=λ{b m} ⟨o,es,ep,e,d,r⟩=>⟨o,es,ep,base_of e (noD e d),d,r⟩
  have hKb:K.In (ZkO s₁.heap H):=λb o e=>base_of (KX b o e) (by
   rcases hA b with z|⟨z,zk,_⟩|⟨q,z,_⟩
   ·exact z
   ·subst z;rw[zk]at e;cases e
   ·rw[(hT _ z).2.1]at e;cases e)
  have hM:Mod K mg (ZkO s₁.heap H):=⟨hKb,nsK hns,⟨mb,nsK hb,hbb⟩,let ⟨mc,h1,h2⟩:=hlim;⟨mc,nsK h1,h2⟩⟩
  have hB:BM mg (ZkO s₁.heap H):=by
   obtain⟨bm,ob,b1,b2,b3,b4,b5,b6,b7⟩:=hbm
   exact⟨bm,ob,b1,b2,b3,base_of b4 (noA b4 (by rw[b5];decide) (by rw[b5];nofun)),b5,b6,b7⟩
  have e0:Env0 P w K mg (ZkO s₁.heap H) callerA [] s₁ H:=⟨rfl,hM,λb o e=>Zur e,Y4 (ZpN _ _),trivial,λb hb=>absurd (show b∈([]:List Addr)from hb) (by simp),hok,.of_eq hg⟩
  refine codeAny_mono ((F _ hKb (nsK hns) hB).run callerA [] s₁ H ⟨[.ref a],[]⟩ [.ref a] [.ref a] _ _ hr e0 (hbind s₁ (.ref a)) (.cons rfl .nil) (hsp H hS hTb)) λr s' h=>?_
  cases r with
  |error e=>exact(hCX H e s' h).elim
  |ok fl =>
   cases fl with
   |next=>exact False.elim h
   |brk=>exact False.elim h
   |cont=>exact False.elim h
   |ret u =>
    obtain⟨v,H',os,bare,un,hok',r',q⟩:=h
    have q':v=.bl true:=q
    subst q'
    obtain rfl:u=Value.bool true:=r'
    have old:∀b o,s₁.heap.get? b=some o->asItWas s₁.heap s'.heap b o/\∃o',s'.heap.get? b=some o':=λb o e=>by
     rcases hA b with z|⟨_,_,ob,xs,z⟩|⟨q,zm,z⟩
     ·have:=un.keep b o e z (by intro y;exact absurd (show b∈([]:List Addr)from y) (by simp)) (by simp)
      exact⟨.inl this,o,this⟩
     ·have z2:=un.frzs b ob _ z
      obtain⟨e1,_⟩:=hok b _ z
      obtain⟨e2,_⟩:=hok' b _ z2
      rw[e]at e1;cases e1
      exact⟨.inl e2,o,e2⟩
     ·obtain⟨more,z2⟩:=un.tbls b _ z
      obtain⟨ts,e2,_⟩:=hok' b _ z2
      obtain⟨t1,_,c,t3⟩:=hT _ zm
      have t1':s₁.heap.get? b=some (tabObj #[]):=t1
      rw[e]at t1';cases t1'
      refine⟨.inr (.inl ⟨((codeHd_of_K KX t3).tab t1).isCodeTable,rfl,#[],ts,rfl,by rw[Array.empty_append];exact e2⟩),_,e2⟩
    exact⟨rfl,⟨λb o e=>(old b o e).1,λb o e=>(old b o e).2⟩,os,bare⟩
 have neA:∀q,(a,q)∉tabs:=λq z=>by
  have:=(hT _ z).1
  rw[show((a,q):Addr×Str).1=a from rfl,ha]at this;cases this
 have tabok:∀(H:Hp) (b:Addr) (q:Str),(b,q)∈tabs->ZY P w H s₁.heap b (ZjQ q):=λH b q z=>⟨#[],(hT _ z).1,trivial,λpos cv e=>by cases e⟩
 cases hk:K.lookup a with
 |some o =>
  have e:=KX a o hk
  rw[ha]at e
  cases e
  refine core (λb=>(tabs.lookup b).map ZjQ) (.inr ⟨_,vs.toArray,_,hk,rfl,rfl,rfl,by rw[Yp,lenV];exact hl,by simpa using rv⟩) (λb u z=>?_) (λb=>?_) λp hp=>by rw[tlook p hp];rfl
  ·dsimp only at z
   cases q:tabs.lookup b with
   |none=>rw[q]at z;cases z
   |some y=>rw[q]at z;cases z;exact tabok _ b y (tmem b y q)
  ·cases q:tabs.lookup b with
   |none=>exact .inl rfl
   |some y=>exact .inr (.inr ⟨y,tmem b y q,rfl⟩)
 |none =>
  refine core (λb=>if b=a then some (.frz {cls:=.type "list",data:=.seq vs.toArray} (.lst (ns.map V.int)))else (tabs.lookup b).map ZjQ) (.inl (.inr ⟨{cls:=.type "list",data:=.seq vs.toArray},Yc rfl⟩)) (λb u z=>?_) (λb=>?_) λp hp=>?_
  ·by_cases hb:b=a
   ·have z':=(Yc hb).symm.trans z
    cases z'
    subst hb
    exact⟨ha,by rw[Yf];exact hl,vs,_,rv,ha⟩
   ·have z':=(Yb hb).symm.trans z
    cases q:tabs.lookup b with
    |none=>rw[q]at z';cases z'
    |some y=>rw[q]at z';cases z';exact tabok _ b y (tmem b y q)
  ·by_cases hb:b=a
   ·exact .inr (.inl ⟨hb,hk,_,_,Yc hb⟩)
   ·cases q:tabs.lookup b with
    |none=>exact .inl (by rw[Yb hb];rfl)
    |some y=>exact .inr (.inr ⟨y,tmem b y q,by rw[Yb hb];rfl⟩)
  ·have:p.1≠a:=λz=>neA p.2 (by rw[<-z];exact hp)
   rw[Yb this,tlook p hp];rfl
theorem ZsA {l:OpenLaw}{n k:Nat}{q:Program}{loose:List Str}{XP:(Str->Option Value)->Heap->Prop}{YP:World->Heap->Prop}{d:DefRec}{K:Params->Frag}{CX:World->CXT}{sp:World->(Str->Option Value)->Sp}{x:Str}{ts:List Addr}{tabs:Frag->(Str->Option Value)->List (Addr×Str)}
  (hn:l.most=some n) (hn2:n<=sizeLine) (hdf:d.params.defaults=[]) (hr:Room k callerA)
  (hY:∀(w:World) (h:Heap),YP w h->(K w.params).In h) (hY2:∀(w:World) (h:Heap),YP w h->∀P∈ts,h.get? P=some (tabObj #[]))
  (F:∀(w:World) (mg:Str->Option Value) (fa:Addr) (h:Heap),(K w.params).In h->h.Ns mainGlobals mg->mg d.name=some (.ref fa) ->
   ∃fd:FuncData,(∀(s:Shared) (u:Value),BindsTo s fd ⟨[u],[]⟩ [(x,u)])/\(∀p∈tabs (K w.params) mg,p.1∈ts/\(K w.params).lookup p.1=none/\∃c,codeHdIn (K w.params) c p.1=true)/\((tabs (K w.params) mg).map (·.1)).Nodup /\
    ∀base:Heap,(K w.params).In base->base.Ns mainGlobals mg->BM mg base->FnOk l.prog w (K w.params) mg base (CX w) k fa fd [x] (sp w mg))
  (hsp:∀(w:World) (mg:Str->Option Value) (H:Hp) (a:Addr) (ns:List Int),ns.length<=n->SqL (K w.params) H a (ns.map V.int)->(∀p∈tabs (K w.params) mg,H p.1=some (ZjQ p.2))->sp w mg [.ref a] H (λv _=>v=.bl true) λ_ _ _=>False)
  (hCX:∀(w:World) (H:Hp) (s:Shared) (e:Value) (s':Shared),CX w [] H s (λ_ _ _=>False) e s'->False) :
  WalkO q loose XP YP l.row.toRowW d [] (λf vs=>PySem.call f vs):=by
 refine Att.ZmP hn hdf λw s₀ s₁ mg mb fa o pm cd doc a vs ns G Y ho hd hcd hmg hobj hints hlen hg=>?_
 have KX:=hY w _ Y
 have TX:=hY2 w _ Y
 obtain⟨fd,hb,hT,nd,hF⟩:=F w mg fa _ KX G.T.g hmg
 have hbm:BM mg s₁.heap:=by
  obtain⟨bm,ob,b1,b2,b3,b4,b5,b6⟩:=G.T.bmain
  have bG:bm≠mainGlobals:=λz=>by
   obtain⟨o,es,ep,e,hd,_⟩:=G.T.g
   rw[z,e]at b3;cases b3;rw[hd]at b6;cases b6
  exact⟨bm,ob,b1,b2,bG,b3,b4,b5,b6⟩
 exact Zqw KX G.T.g G.T.b G.T.builtins G.T.nolimit hg hbm hobj hints (Yh hlen hn2) hr (λp hp=>⟨TX _ (hT p hp).1,(hT p hp).2⟩) nd hF hb (λH hS hTb=>hsp w mg H a ns hlen hS hTb) λH e s'=>hCX w H s₁ e s'
section
variable {prog:Program}{w:World}{A:Around}{E:Value->Shared->Prop}{s:Shared}
theorem Zlx {it t:Addr}{items:Array Value} (hh:A.handled=none) (hne:t≠it):∀(n i:Nat) (s:Shared) (Q:List Value->Shared->Prop),s.heap.IsListIter it t i->s.heap.IsList t items->i+n<=items.size ->
  (∀h' tk,h'.IsListIter it t (i+n)->h'.IsList t items->(∀b o,b≠it->s.heap.get? b=some o->h'.get? b=some o)->Q ((items.toList.drop i).take n) {s with heap:=h',toks:=tk})->wpAny (model prog w) A (draw (.ref it) n) Q E s
 |0,i,s,Q,hit,hl,_,hQ=>by
  show wpAny _ _ (pure []) Q E s
  exact Ye (by simpa using hQ s.heap s.toks hit hl λb o _ e=>e)
 |n+1,i,s,Q,hit,hl,hle,hQ=>by
  have hlt:i<items.size:=by omega
  have W:=Walks.list (prog:=prog) (w:=w) (A:=A) hh it t hne items
  show wpAny _ _ (pyNext (.ref it) >>= _) Q E s
  refine Ya (W.item i _ _ _ hlt ⟨hit,hl⟩ λv h₁ tk₁ hP hst hk=>?_)
  have hv:items[i]?=some v:=hP
  rw[getElem?_pos items i hlt]at hv
  cases hv
  refine Ya (wpAny_holding (Zlx hh hne n (i+1) _ _ hst.1 hst.2 (by omega) λh₂ tk₂ hit₂ hl₂ hk₂=>Ye ?_))
  have hd:items.toList.drop i=items[i]::items.toList.drop (i+1):=by simp[List.drop_eq_getElem_cons,hlt]
  have:=hQ h₂ tk₂ (by rw[show i+(n+1)=i+1+n by omega];exact hit₂) hl₂ λb o hb e=>hk₂ b o hb (hk b o (by simpa using hb) e)
  rw[hd,List.take_succ_cons]at this
  exact this
theorem Zh7 {t:Addr}{items:Array Value}{Q:List Value->Shared->Prop} (hh:A.handled=none) (ht:s.heap.IsList t items)
  (hQ:∀h' tk,(∀b o,s.heap.get? b=some o->h'.get? b=some o)->Q items.toList {s with heap:=h',toks:=tk}):wpAny (model prog w) A (unpackItems (.ref t) items.size none) Q E s:=by
 have hlt:t≠s.heap.objs.size:=by obtain⟨o,ho,_⟩:=ht;exact Yn (Yj ho)
 have old:∀b o,s.heap.get? b=some o->b≠s.heap.objs.size:=λb o e=>Yn (Yj e)
 unfold unpackItems
 refine Ya ?_
 ·unfold notIterableAtAll
  refine Ya (wpAny_specialOf ht.typeIs slot_list_iter.lookup ?_)
  refine Ye ?_
  simp only[Bool.false_eq_true,if_false]
  refine Ya (wpAny_holding (wpAny_pyIter_list ht ?_))
  have hl2:(s.heap.push {cls:=.type "list_iterator",data:=.fields #[.ref t,.int 0 0]}).IsList t items:=by
   obtain⟨o,e,r⟩:=ht
   exact⟨o,Yg _ e,r⟩
  refine Ya (wpAny_holding (Zlx hh hlt items.size 0 _ _ ⟨_,Yk _ rfl,rfl,rfl⟩ hl2 (by omega) λh₁ tk₁ hit₁ hl₁ hk₁=>?_))
  have hall:List.take items.size (List.drop 0 items.toList)=items.toList:=by
   rw[List.drop_zero];exact List.take_of_length_le (by simp)
  rw[hall]
  rw[Yb (by simp)]
  have W:=Walks.list (prog:=prog) (w:=w) (A:=A) hh s.heap.objs.size t hlt items
  refine Ya (wpAny_holding (W.done _ _ _ ⟨by rw[Nat.zero_add]at hit₁;exact hit₁,hl₁⟩ λh₂ tk₂ hk₂=>?_))
  simp only[Option.isSome_none,Bool.false_eq_true,if_false]
  exact Ye (hQ h₂ tk₂ λb o e=>hk₂ b o (by simpa using old b o e) (hk₁ b o (old b o e) (Yg _ e)))
end
section
variable {X:Cx}
noncomputable def gLst (K:PySem.W.Frag) (n:Nat) (t:TGs):TG:=λv σ H Q=>∃a xs,v=.ref a/\SqL K H a xs/\xs.length=n/\t xs σ H Q
theorem pg_lst {K:Frag}{es:List Expr}{pos:Pos}{k:Nat}{t:TGs}{n:Nat} (hK:X.K=K) (hc:X.calm=true) (h:PGs X es t)
  (hn:(assignEach es X.env).length=n:=by rfl) (hst:(assignEach es X.env).findIdx? (·.1)=none:=by rfl):PG X (.Tuple es k pos) (gLst K n t):=by
 subst hK
 intro pins s σ H v u Q I r hw
 obtain⟨a,xs,e1,hq,hl,hw⟩:=hw
 subst e1
 cases r
 obtain⟨its,rv,pl,hz⟩:=I.list hq
 have hlen:(assignEach es X.env).length=its.toArray.size:=by
  have:=rv.length
  rw[hn,Yp];omega
 rw[assign_Tuple]
 refine Ya (wpAny_standAt ?_)
 unfold unpack
 rw[hlen,hst]
 refine Ya (wpAny_holding (Zh7 (I.ok.hd hc) pl.isList λh' tk kp=>?_))
 exact h pins _ σ H xs _ Q (I.kept kp) (by simpa using rv) hw
end
section
variable {ky:Keyed->Int}
noncomputable def Srt (ky:Keyed->Int) (l:List Keyed):Prop:=l.Pairwise (λx y=>ky x<=ky y)
variable {a b out:List Keyed}{ia ib:Nat}
noncomputable def Gd (ky:Keyed->Int) (a b res:List Keyed):Prop:=res.Perm (a++b)/\Srt ky res
variable {prog:Program}{w:World}{A:Around}{E:Value->Shared->Prop}{s:Shared}{κ:SortKind}{P:Keyed->Prop}
end
section
variable {ky:Keyed->Int}
noncomputable def kp (ky:Keyed->Int) (a:Array Keyed) (i:Nat):Int:=ky (a.getD i (Value.none,Value.none))
theorem kp_at {a:Array Keyed}{i:Nat} (h:i<a.size):kp ky a i=ky a[i]:=by unfold kp;simp[Array.getD,h]
noncomputable def SoR (ky:Keyed->Int) (a:Array Keyed) (l r:Nat):Prop:=∀i j,l<=i->i<=j->j<r->kp ky a i<=kp ky a j
structure Chg (a a':Array Keyed) (l r:Nat):Prop where
 perm:a'.Perm a
 same:∀i,i<l\/r<=i->a'[i]?=a[i]?
variable {prog:Program}{w:World}{A:Around}{E:Value->Shared->Prop}{s:Shared}{κ:SortKind}{P:Keyed->Prop}
end
section
variable {ky:Keyed->Int}
variable {a a':Array Keyed}
theorem ZpE (base:Nat):∀(m:List Keyed) (n:Nat) (a:Array Keyed),base+n+m.length<=a.size ->
  (List.foldl (λ(a:Array Keyed) (x:Keyed×Nat)=>a.setIfInBounds (base+x.2) x.1) a (m.zipIdx n)).toList=a.toList.take (base+n)++m++a.toList.drop (base+n+m.length)
 |[],n,a,h=>by simp
 |x::m,n,a,h=>by
  simp only[Yo]at h
  rw[List.zipIdx_cons,List.foldl_cons,ZpE base m (n+1) _ (by simp;omega)]
  simp only[Array.toList_setIfInBounds,Yo]
  have e1:(a.toList.set (base+n) x).take (base+(n+1))=a.toList.take (base+n)++[x]:=by
   rw[<-Nat.add_assoc,Y6,List.take_set,List.getElem?_set]
   rw[List.set_eq_of_length_le (by simp;omega)]
   simp[show base+n<a.size by omega]
  have e2:(a.toList.set (base+n) x).drop (base+(n+1)+m.length)=a.toList.drop (base+n+(m.length+1)):=by
   rw[List.drop_set_of_lt (by omega)]
   congr 1;omega
  rw[e1,e2]
  simp
variable {prog:Program}{w:World}{A:Around}{E:Value->Shared->Prop}{s:Shared}{κ:SortKind}{P:Keyed->Prop}
theorem laid {base mid r:Nat}{res:Array Keyed} (h1:base<=mid) (h2:mid<=r) (h3:r<=a.size) (hg:Gd ky (a.extract base mid).toList (a.extract mid r).toList res.toList) :
  ∃a':Array Keyed,List.foldl (λ(a:Array Keyed) (x:Keyed×Nat)=>a.setIfInBounds (base+x.2) x.1) a res.toList.zipIdx=a'/\Chg a a' base r/\SoR ky a' base r/\∀j,base<=j->j<r->∃t,base<=t/\t<r/\kp ky a' j=kp ky a t:=by
 have hlen:res.toList.length=r-base:=by
  have:=hg.1.length_eq
  simp only[YL,YO,Array.size_extract]at this⊢;omega
 have key:=ZpE base res.toList 0 a (by omega)
 have hb:base+0+res.toList.length=r:=by omega
 rw[hb,Nat.add_zero]at key
 refine⟨_,rfl,⟨?_,?_⟩,?_,?_⟩
 ·rw[Array.perm_iff_toList_perm,key]
  have e:a.toList=a.toList.take base++((a.extract base mid).toList++(a.extract mid r).toList)++a.toList.drop r:=by
   simp only[Array.toList_extract,List.extract_eq_drop_take]
   have:(a.toList.drop base).take (mid-base)++(a.toList.drop mid).take (r-mid)=(a.toList.drop base).take (r-base):=by
    have e2:r-base=(mid-base)+(r-mid):=by omega
    rw[e2,List.take_add,List.drop_drop]
    congr 3;omega
   rw[this]
   have e3:a.toList.drop r=(a.toList.drop base).drop (r-base):=by rw[List.drop_drop];congr 1;omega
   rw[e3,YX,List.take_append_drop,List.take_append_drop]
  conv=>rhs;rw[e]
  exact List.Perm.append_right _ (List.Perm.append_left _ hg.1)
 ·intro i hi
  rw[<-Array.getElem?_toList,<-Array.getElem?_toList,key]
  have hl0:(a.toList.take base).length=base:=by simp;omega
  rcases hi with hi|hi
  ·rw[YX,YW (by omega),List.getElem?_take_of_lt hi]
  ·rw[Y5 (by simp;simp at hlen;omega),List.getElem?_drop]
   congr 1
   simp only[YL,hl0,hlen];omega
 all_goals
  have atm:∀j,(hj0:base<=j)->(hj:j<r)->kp ky (List.foldl (λ(a:Array Keyed) (x:Keyed×Nat)=>a.setIfInBounds (base+x.2) x.1) a res.toList.zipIdx) j=ky (res.toList[j-base]'(by omega)):=by
   intro j j1 j2
   have hl0:(a.toList.take base).length=base:=by simp;omega
   have:(List.foldl (λ(a:Array Keyed) (x:Keyed×Nat)=>a.setIfInBounds (base+x.2) x.1) a res.toList.zipIdx)[j]?=some (res.toList[j-base]'(by omega)):=by
    rw[<-Array.getElem?_toList,key,YX,Y5 (by omega),YW (by omega),hl0,Yi (by omega)]
   unfold kp
   rw[Array.getD_eq_getD_getElem?,this];rfl
 ·intro i j hi hij hj
  rw[atm i hi (by omega),atm j (by omega) hj]
  by_cases e:i=j
  ·subst e;exact Int.le_refl _
  ·exact List.pairwise_iff_getElem.mp hg.2 _ _ _ _ (by omega)
 ·intro j j1 j2
  rw[atm j j1 j2]
  have hm:(res.toList[j-base]'(by omega))∈(a.extract base mid).toList++(a.extract mid r).toList:=(List.Perm.mem_iff hg.1).mp (YH _)
  rcases YC.mp hm with hm|hm
  ·obtain⟨t,ht,e⟩:=List.mem_iff_getElem.mp hm
   simp only[YO,Array.size_extract]at ht
   simp only[Array.getElem_toList,Array.getElem_extract]at e
   exact⟨base+t,by omega,by omega,by rw[kp_at (by omega),e,Array.getElem_toList]⟩
  ·obtain⟨t,ht,e⟩:=List.mem_iff_getElem.mp hm
   simp only[YO,Array.size_extract]at ht
   simp only[Array.getElem_toList,Array.getElem_extract]at e
   exact⟨mid+t,by omega,by omega,by rw[kp_at (by omega),e,Array.getElem_toList]⟩
end
end L2
namespace L2
open PySem PySem.Spec PyProof.Rows
end L2
namespace L2
open PySem PySem.Spec PyProof.Rows PySem.W
end L2
namespace L2
open PySem PySem.Spec PyProof.Rows PySem.W PySem.Calls
end L2
namespace L2
open PySem PySem.Spec PyProof.Rows PySem.W
section
variable {prog:Program}{w:World}{A:Around}{E:Value->Shared->Prop}{s:Shared}{z TI TO i1 i2 l1 l2:Addr}{k1 k2:Nat}{xs ys:Array Value}{a b f0:Value}{b0:Bool}
theorem ZjR {c:Addr}{Q:Option Obj->Shared->Prop} (h:Q (s.heap.get? c) s):wpAny (model prog w) A (loadIfAlive c) Q E s:=fun Γ p _=>by
 unfold loadIfAlive
 simpa using h
noncomputable abbrev ZaG (h:Heap) (z TI TO:Addr) (f0:Value) (b0:Bool):Prop:=h.get? z=some {cls:=.type "zip",dict:=none,data:=.fields #[f0,.bool b0,.bool false,.ref TI,.ref TO],slots:=#[]}
noncomputable def Zng (f0:Value):Prop:=f0=.none\/∃c:Nat,f0=rawInt c
theorem Zly (hz:ZaG s.heap z TI TO f0 b0) (hf:Zng f0):wpAny (model prog w) A (Builtin.SmallTypes.ownedTupleIsFree (.ref z)) (λr s'=>(r=true/\s'=s)\/(r=false/\∃h' b',ZaG h' z TI TO f0 b'/\Heap.SameBut z s.heap h'/\s'={s with heap:=h'})) E s:=by
 unfold Builtin.SmallTypes.ownedTupleIsFree
 refine Ya (wpAny_field hz rfl (x:=f0) rfl ?_)
 rcases hf with rfl|⟨c,rfl⟩
 ·exact Ye (.inl ⟨rfl,rfl⟩)
 ·refine Ya (ZjR ?_)
  show wpAny _ _ _ _ _ _
  cases hc:s.heap.get? ((c:Int).toNat)with
  |none=>exact Ye (.inl ⟨rfl,rfl⟩)
  |some o =>
   refine Ya (wpAny_field hz rfl (x:=.bool b0) rfl ?_)
   cases b0 with
   |true=>exact Ye (.inr ⟨rfl,s.heap,true,hz,⟨rfl,λ_ _=>rfl⟩,rfl⟩)
   |false=>exact Ya (wpAny_setField_rec hz (by simp) λh' z' m'=>Ye (.inr ⟨rfl,h',true,z',m',rfl⟩))
theorem Zqx {x y:Value}{Q:Value->Shared->Prop} (D:ZipApart z TI TO i1 i2 l1 l2) (hz:ZaG s.heap z TI TO f0 b0) (hf:Zng f0) (hI:IsPair s.heap TI (.ref i1) (.ref i2)) (hO:IsPair s.heap TO a b)
  (q1:QIt s.heap i1 l1 k1 xs) (q2:QIt s.heap i2 l2 k2 ys) (hx:xs[k1]?=some x) (hy:ys[k2]?=some y)
  (hQ:∀h' f' b',Zng f'->ZaG h' z TI TO f' b'->(∃u v,IsPair h' TO u v)->QIt h' i1 l1 (k1+1) xs->QIt h' i2 l2 (k2+1) ys->IsPair h' s.heap.objs.size x y->Zgr z TO i1 i2 s.heap h'->Q (.ref s.heap.objs.size) {s with heap:=h'}) :
  wpAny (model prog w) A (Builtin.«zip.__next__» ⟨[.ref z],[]⟩) (λfin s'=>∃v,fin=.done (.ret v)/\Q v s') E s:=by
 show wpAny _ _ (field (.ref z) 2 >>= _) _ _ _;refine Ya (wpAny_field hz rfl (x:=.bool false) rfl ?_)
 show wpAny _ _ (field (.ref z) 3 >>= _) _ _ _;refine Ya (wpAny_field hz rfl (x:=.ref TI) rfl ?_);refine Ya (wpAny_seqItems hI rfl ?_)
 show wpAny _ _ (Builtin.SmallTypes.ownedTupleIsFree (.ref z) >>= _) _ _ _
 refine Ya (YK (Zly hz hf) ?_ λ_ _ h=>h)
 rintro r s' (⟨rfl,e⟩|⟨rfl,h0,b1,z0,m0,rfl⟩)
 ·rw[e]
  clear e s'
  simp only[if_true]
  refine Ya (wpAny_rule ?_);refine Ya (wpAny_field hz rfl (x:=.ref TO) rfl ?_)
  refine Ya (wpAny_setField_rec hz (by simp) λg1 z1 m1=>?_);replace z1:ZaG g1 z TI TO .ellipsis b0:=z1
  refine Ya ?_;simp only[List.zipIdx_cons,List.zipIdx_nil,List.forIn_cons,List.forIn_nil];refine Ya (Ya (wpAny_onRaise ?_))
  show wpAny _ _ (Builtin.SmallTypes.nextOf (.ref i1) >>= _) _ _ _;refine Ya (ZR (q1.ext m1.extBut D.i1z D.l1z) D.l1i1 hx λg2 p1 m2=>Ye ?_)
  have o2:IsPair g2 TO a b:=m2.extBut _ _ D.TOi1 (m1.extBut _ _ D.TOz hO)
  refine Ya (wpAny_seqItems o2 rfl ?_);refine Ya (wpAny_updateSeq_pair o2 λg3 o3 m3=>?_);replace o3:IsPair g3 TO x b:=o3
  refine Ya (wpAny_letGo (Ye ?_));refine Ya (Ya (wpAny_onRaise ?_))
  show wpAny _ _ (Builtin.SmallTypes.nextOf (.ref i2) >>= _) _ _ _
  refine Ya (ZR (((q2.ext m1.extBut D.i2z D.l2z).ext m2.extBut D.i12.symm D.l2i1).ext m3.extBut D.TOi2.symm D.l2TO) D.l2i2 hy λg4 p2 m4=>Ye ?_)
  have o4:IsPair g4 TO x b:=m4.extBut _ _ D.TOi2 o3
  refine Ya (wpAny_seqItems o4 rfl ?_);refine Ya (wpAny_updateSeq_pair o4 λg5 o5 m5=>?_);replace o5:IsPair g5 TO x y:=o5
  refine Ya (wpAny_letGo (Ye (Ye ?_)));refine Ya (wpAny_seqItems o5 rfl ?_);refine Ya (wpAny_newTuple ?_)
  have hsz:g5.objs.size=s.heap.objs.size:=by rw[m5.1,m4.1,m3.1,m2.1,m1.1]
  have z5:ZaG g5 z TI TO .ellipsis b0:=m5.extBut _ _ D.TOz.symm (m4.extBut _ _ D.i2z.symm (m3.extBut _ _ D.TOz.symm (m2.extBut _ _ D.i1z.symm z1)))
  have kk:Zgr z TO i1 i2 s.heap g5:=λc o c1 c2 c3 c4 e=>m5.extBut _ _ c2 (m4.extBut _ _ c4 (m3.extBut _ _ c2 (m2.extBut _ _ c3 (m1.extBut _ _ c1 e))))
  have r1:QIt g5 i1 l1 (k1+1) xs:=((p1.ext m3.extBut D.TOi1.symm D.l1TO).ext m4.extBut D.i12 D.l1i2).ext m5.extBut D.TOi1.symm D.l1TO
  have r2:QIt g5 i2 l2 (k2+1) ys:=p2.ext m5.extBut D.TOi2.symm D.l2TO
  have lz:z<g5.objs.size:=Yj z5
  show wpAny _ _ (Builtin.SmallTypes.ownedTupleHandOut (.ref z) (.ref g5.objs.size) >>= _) _ _ _;refine Ya ?_;unfold Builtin.SmallTypes.ownedTupleHandOut
  have z6:ZaG (g5.push {cls:=.type "tuple",data:=.seq #[x,y]}) z TI TO .ellipsis b0:=Yg _ z5
  refine Ya (wpAny_setField_rec z6 (by simp) λg7 z7 m7=>?_);replace z7:ZaG g7 z TI TO (rawInt g5.objs.size) b0:=z7
  refine wpAny_setField_rec z7 (by simp) λg8 z8 m8=>?_;replace z8:ZaG g8 z TI TO (rawInt g5.objs.size) false:=z8
  have up:∀c o,c≠z->g5.get? c=some o->g8.get? c=some o:=λc o c1 e=>m8.extBut _ _ c1 (m7.extBut _ _ c1 (Yg _ e))
  have t8:IsPair g8 g5.objs.size x y:=m8.extBut _ _ (Nat.ne_of_gt lz) (m7.extBut _ _ (Nat.ne_of_gt lz) (Yk _ rfl))
  rw[hsz]at z8 t8
  refine Ye ⟨_,rfl,?_⟩;show Q (.ref g5.objs.size) _;rw[hsz]
  exact hQ g8 _ _ (.inr ⟨_,rfl⟩) z8 ⟨_,_,up _ _ D.TOz o5⟩ (r1.at (λo e=>up _ o D.i1z e) λo e=>up _ o D.l1z e) (r2.at (λo e=>up _ o D.i2z e) λo e=>up _ o D.l2z e) t8 λc o c1 c2 c3 c4 e=>up c o c1 (kk c o c1 c2 c3 c4 e)
 ·simp only[Bool.false_eq_true,if_false]
  refine Ya ?_
  simp only[List.forIn_toArray,List.forIn_cons,List.forIn_nil]
  refine Ya (Ya (wpAny_holding ?_))
  show wpAny _ _ (Builtin.SmallTypes.nextOf (.ref i1) >>= _) _ _ _
  refine Ya (ZR (q1.ext m0.extBut D.i1z D.l1z) D.l1i1 hx λg1 p1 m1=>Ye (Ye ?_))
  refine Ya (Ya (wpAny_holding ?_))
  show wpAny _ _ (Builtin.SmallTypes.nextOf (.ref i2) >>= _) _ _ _
  refine Ya (ZR ((q2.ext m0.extBut D.i2z D.l2z).ext m1.extBut D.i12.symm D.l2i1) D.l2i2 hy λg2 p2 m2=>Ye (Ye (Ye ?_)))
  refine Ya (wpAny_newTuple ?_ (show 2<=sizeLine by decide))
  have hsz:g2.objs.size=s.heap.objs.size:=by rw[m2.1,m1.1,m0.1]
  have up:∀c o,c≠z->c≠i1->c≠i2->s.heap.get? c=some o->(g2.push {cls:=.type "tuple",data:=.seq #[x,y]}).get? c=some o:=λc o c1 c2 c3 e=>Yg _ (m2.extBut _ _ c3 (m1.extBut _ _ c2 (m0.extBut _ _ c1 e)))
  have z2:ZaG (g2.push {cls:=.type "tuple",data:=.seq #[x,y]}) z TI TO f0 b1:=Yg _ (m2.extBut _ _ D.i2z.symm (m1.extBut _ _ D.i1z.symm z0))
  refine Ye ⟨_,rfl,?_⟩
  show Q (.ref g2.objs.size) _
  rw[hsz]
  refine hQ _ f0 b1 hf z2 ⟨_,_,up _ _ D.TOz D.TOi1 D.TOi2 hO⟩ ?_ ?_ ?_ λc o c1 c2 c3 c4 e=>up c o c1 c3 c4 e
  ·exact(p1.ext m2.extBut D.i12 D.l1i2).at (λo e=>Yg _ e) λo e=>Yg _ e
  ·exact p2.at (λo e=>Yg _ e) λo e=>Yg _ e
  ·rw[<-hsz];exact Yk _ rfl
theorem ZsB {Q:Fin->Shared->Prop} (hA:A.handled=none) (D:ZipApart z TI TO i1 i2 l1 l2) (hz:ZaG s.heap z TI TO f0 b0) (hf:Zng f0) (hI:IsPair s.heap TI (.ref i1) (.ref i2)) (hO:IsPair s.heap TO a b)
  (q1:QIt s.heap i1 l1 k1 xs) (q2:QIt s.heap i2 l2 k2 ys) (hend:xs[k1]?=none\/ys[k2]?=none)
  (hE:∀h' e,Zgr z TO i1 i2 s.heap h'->(∃o,h'.get? e=some o/\o.cls=.type "StopIteration")->E (.ref e) {s with heap:=h'}) :
  wpAny (model prog w) A (Builtin.«zip.__next__» ⟨[.ref z],[]⟩) Q E s:=by
 show wpAny _ _ (field (.ref z) 2 >>= _) _ _ _;refine Ya (wpAny_field hz rfl (x:=.bool false) rfl ?_)
 show wpAny _ _ (field (.ref z) 3 >>= _) _ _ _;refine Ya (wpAny_field hz rfl (x:=.ref TI) rfl ?_);refine Ya (wpAny_seqItems hI rfl ?_)
 show wpAny _ _ (Builtin.SmallTypes.ownedTupleIsFree (.ref z) >>= _) _ _ _
 refine Ya (YK (Zly hz hf) ?_ λ_ _ h=>h)
 rintro r s' (⟨rfl,e⟩|⟨rfl,h0,b1,z0,m0,rfl⟩)
 ·rw[e]
  clear e s'
  simp only[if_true]
  refine Ya (wpAny_rule ?_);refine Ya (wpAny_field hz rfl (x:=.ref TO) rfl ?_)
  refine Ya (wpAny_setField_rec hz (by simp) λg1 z1 m1=>?_);replace z1:ZaG g1 z TI TO .ellipsis b0:=z1
  refine Ya ?_;simp only[List.zipIdx_cons,List.zipIdx_nil,List.forIn_cons,List.forIn_nil];refine Ya (Ya (wpAny_onRaise ?_))
  show wpAny _ _ (Builtin.SmallTypes.nextOf (.ref i1) >>= _) _ _ _
  cases hx:xs[k1]? with
  |none =>
   refine Ya (Za9 hA (q1.ext m1.extBut D.i1z D.l1z) hx λg2 e m2 he=>?_)
   obtain⟨oe,e1,e2⟩:=he
   have z2:ZaG g2 z TI TO .ellipsis b0:=m2 _ _ D.i1z.symm z1
   have nz:e≠z:=λq=>by subst q;rw[z2]at e1;cases e1;simp at e2
   exact wpAny_setField_rec z2 (by simp) λg3 _ m3=>hE g3 e (λc o c1 _ c3 _ q=>m3.extBut _ _ c1 (m2 _ _ c3 (m1.extBut _ _ c1 q))) ⟨oe,m3.extBut _ _ nz e1,e2⟩
  |some x =>
   have hy:ys[k2]?=none:=by rcases hend with h|h;rw[hx]at h;cases h;exact h
   refine Ya (ZR (q1.ext m1.extBut D.i1z D.l1z) D.l1i1 hx λg2 p1 m2=>Ye ?_)
   have o2:IsPair g2 TO a b:=m2.extBut _ _ D.TOi1 (m1.extBut _ _ D.TOz hO)
   refine Ya (wpAny_seqItems o2 rfl ?_);refine Ya (wpAny_updateSeq_pair o2 λg3 o3 m3=>?_);refine Ya (wpAny_letGo (Ye ?_));refine Ya (Ya (wpAny_onRaise ?_))
   show wpAny _ _ (Builtin.SmallTypes.nextOf (.ref i2) >>= _) _ _ _
   refine Ya (Za9 hA (((q2.ext m1.extBut D.i2z D.l2z).ext m2.extBut D.i12.symm D.l2i1).ext m3.extBut D.TOi2.symm D.l2TO) hy λg4 e m4 he=>?_)
   obtain⟨oe,e1,e2⟩:=he
   have z4:ZaG g4 z TI TO .ellipsis b0:=m4 _ _ D.i2z.symm (m3.extBut _ _ D.TOz.symm (m2.extBut _ _ D.i1z.symm z1))
   have nz:e≠z:=λq=>by subst q;rw[z4]at e1;cases e1;simp at e2
   exact wpAny_setField_rec z4 (by simp) λg5 _ m5=>hE g5 e (λc o c1 c2 c3 c4 q=>m5.extBut _ _ c1 (m4 _ _ c4 (m3.extBut _ _ c2 (m2.extBut _ _ c3 (m1.extBut _ _ c1 q))))) ⟨oe,m5.extBut _ _ nz e1,e2⟩
 ·simp only[Bool.false_eq_true,if_false]
  refine Ya ?_
  simp only[List.forIn_toArray,List.forIn_cons,List.forIn_nil]
  refine Ya (Ya (wpAny_holding ?_))
  show wpAny _ _ (Builtin.SmallTypes.nextOf (.ref i1) >>= _) _ _ _
  cases hx:xs[k1]? with
  |none=>exact Ya (Za9 hA (q1.ext m0.extBut D.i1z D.l1z) hx λg2 e m2 he=>hE g2 e (λc o c1 _ c3 _ q=>m2 _ _ c3 (m0.extBut _ _ c1 q)) he)
  |some x =>
   have hy:ys[k2]?=none:=by rcases hend with h|h;rw[hx]at h;cases h;exact h
   refine Ya (ZR (q1.ext m0.extBut D.i1z D.l1z) D.l1i1 hx λg1 p1 m1=>Ye (Ye ?_))
   refine Ya (Ya (wpAny_holding ?_))
   show wpAny _ _ (Builtin.SmallTypes.nextOf (.ref i2) >>= _) _ _ _
   exact Ya (Za9 hA ((q2.ext m0.extBut D.i2z D.l2z).ext m1.extBut D.i12.symm D.l2i1) hy λg2 e m2 he=>hE g2 e (λc o c1 c2 c3 c4 q=>m2 _ _ c4 (m1.extBut _ _ c3 (m0.extBut _ _ c1 q))) he)
theorem Znh {x y:Value}{Q:Option Value->Shared->Prop} (D:ZipApart z TI TO i1 i2 l1 l2) (hz:ZaG s.heap z TI TO f0 b0) (hf:Zng f0) (hI:IsPair s.heap TI (.ref i1) (.ref i2)) (hO:IsPair s.heap TO a b)
  (q1:QIt s.heap i1 l1 k1 xs) (q2:QIt s.heap i2 l2 k2 ys) (hx:xs[k1]?=some x) (hy:ys[k2]?=some y)
  (hQ:∀h' f' b',Zng f'->ZaG h' z TI TO f' b'->(∃u v,IsPair h' TO u v)->QIt h' i1 l1 (k1+1) xs->QIt h' i2 l2 (k2+1) ys->IsPair h' s.heap.objs.size x y->Zgr z TO i1 i2 s.heap h'->Q (some (.ref s.heap.objs.size)) {s with heap:=h'}) :
  wpAny (model prog w) A (pyNext (.ref z)) Q E s:=by
 have ty:s.TypeIs (.ref z) "zip":=⟨_,hz,rfl⟩
 unfold pyNext
 exact Ya (wpAny_attempt (wpAny_callSpecial?_slot (name:=Str.ofString "__next__") ty F.slot_zip_next (wpAny_call_entry F.slot_zip_next ty F.entry_zip_next (Zqx D hz hf hI hO q1 q2 hx hy λh' f' b' a0 a1 a2 a3 a4 a5 a6=>Ye (hQ h' f' b' a0 a1 a2 a3 a4 a5 a6)) (F.args_zip_next_1 _))))
theorem ZoE {Q:Option Value->Shared->Prop} (hA:A.handled=none) (D:ZipApart z TI TO i1 i2 l1 l2) (hz:ZaG s.heap z TI TO f0 b0) (hf:Zng f0) (hI:IsPair s.heap TI (.ref i1) (.ref i2)) (hO:IsPair s.heap TO a b)
  (q1:QIt s.heap i1 l1 k1 xs) (q2:QIt s.heap i2 l2 k2 ys) (hend:xs[k1]?=none\/ys[k2]?=none) (hQ:∀h',Zgr z TO i1 i2 s.heap h'->Q none {s with heap:=h'}):wpAny (model prog w) A (pyNext (.ref z)) Q E s:=by
 have ty:s.TypeIs (.ref z) "zip":=⟨_,hz,rfl⟩
 unfold pyNext
 refine Ya (wpAny_attempt (wpAny_callSpecial?_slot (name:=Str.ofString "__next__") ty F.slot_zip_next (wpAny_call_entry F.slot_zip_next ty F.entry_zip_next (ZsB hA D hz hf hI hO q1 q2 hend λh' e hk he=>?_) (F.args_zip_next_1 _))))
 obtain⟨o,e1,e2⟩:=he
 exact Ya (wpAny_isInstance (T:="StopIteration") (b:=true) ⟨o,e1,e2⟩ isSubtype_stop (Ye (hQ _ hk)))
theorem Zqy {Q:Value->Shared->Prop} (hz:ZaG s.heap z TI TO f0 b0) (h:Q (.ref z) s):wpAny (model prog w) A (pyIter (.ref z)) Q E s:=by
 have hZ:s.TypeIs (.ref z) "zip":=⟨_,hz,rfl⟩
 refine wpAny_pyIter_slot hZ F.slot_zip_iter (wpAny_call_entry F.slot_zip_iter hZ F.entry_zip_iter (Ye ⟨_,rfl,"zip",_,hZ,F.slot_zip_next.lookup,h⟩) (F.args_zip_iter_1 _))
end
section
variable {X:Cx}{pins:List (Addr×Obj)}{σ:St}{H:Hp}{s:Shared}
theorem Zqz {P:Program}{w:World}{K:Frag}{nm:Str}{pos:Pos}{t u:Bool}{a b z TI TO i1 i2:Addr} (D:ZipApart z TI TO i1 i2 a b) :
  Turn P w K (.Name nm pos) (Itzq K t u a b) [z,TI,TO,i1,i2] z (λi h=>(∃f b,Zng f/\ZaG h z TI TO f b)/\IsPair h TI (.ref i1) (.ref i2)/\(∃u v,IsPair h TO u v)/\ItB t h i1 a i/\ItB u h i2 b i) where
 mem:=by simp
 obj:=λi h st c hc=>by
  obtain⟨⟨f,b',qf,q1⟩,q2,⟨u,v,q3⟩,q4,q5⟩:=st
  simp at hc
  rcases hc with rfl|rfl|rfl|rfl|rfl
  ·exact⟨_,q1,λv z=>by cases z⟩
  ·exact⟨_,q2,λv z=>by cases z⟩
  ·exact⟨_,q3,λv z=>by cases z⟩
  ·obtain⟨o,ho,v,d⟩:=q4.obj;exact⟨_,ho,λv z=>by rw[d]at z;cases z⟩
  ·obtain⟨o,ho,v,d⟩:=q5.obj;exact⟨_,ho,λv z=>by rw[d]at z;cases z⟩
 keep:=λi h h' st k=>by
  obtain⟨⟨f,b',qf,q1⟩,q2,⟨u,v,q3⟩,q4,q5⟩:=st
  exact⟨⟨f,b',qf,k z (by simp) _ q1⟩,k TI (by simp) _ q2,⟨u,v,k TO (by simp) _ q3⟩,q4.keep λo e=>k i1 (by simp) o e,q5.keep λo e=>k i2 (by simp) o e⟩
 item:=by
  intro X hP hw hK hc i pins s σ H E I hf st hg
  subst hP hw hK
  obtain⟨xs,ys,x,y,qa,qb,hx,hy⟩:=hg
  obtain⟨⟨f,b',qf,q1⟩,q2,⟨u0,v0,q3⟩,q4,q5⟩:=st
  obtain⟨is1,r1,p1,w1⟩:=I.sqb qa
  obtain⟨is2,r2,p2,w2⟩:=I.sqb qb
  obtain⟨u',hu,ru⟩:=r1.get hx
  obtain⟨v,hv,rv⟩:=r2.get hy
  have oa:=p1.obj
  have ob:=p2.obj
  refine Znh D q1 qf q2 q3 (w1 _ _ q4) (w2 _ _ q5) (x:=u') (y:=v) (by simpa using hu) (by simpa using hv) λh' f1 b1' a0 a1 a2 a3 a4 a5 a7=>?_
  refine⟨_,rfl,?_⟩
  refine Ye ?_
  have hfr:H s.heap.objs.size=none:=I.hok.fresh (Yd _)
  have I1:Inv X pins σ (upd H s.heap.objs.size (.tup [x,y])) {s with heap:=s.heap.push {cls:=.type "tuple",data:=.seq #[u',v]}}:=by
   refine I.laid (t':=s.toks) (λb u e=>Yg _ e) (Yd _) ?_
   exact⟨by show 2<=sizeLine;decide,[u',v],.cons ru (.cons rv .nil),⟨_,Yk _ rfl,rfl,_,rfl⟩⟩
  have nz:∀c∈[z,TI,TO,i1,i2],c≠s.heap.objs.size:=λc hc e=>by
   have:∃o,s.heap.get? c=some o:=by
    simp at hc
    rcases hc with rfl|rfl|rfl|rfl|rfl
    ·exact⟨_,q1⟩
    ·exact⟨_,q2⟩
    ·exact⟨_,q3⟩
    ·obtain⟨o,q,_⟩:=q4.obj;exact⟨o,q⟩
    ·obtain⟨o,q,_⟩:=q5.obj;exact⟨o,q⟩
   obtain⟨o,q⟩:=this
   exact absurd (Yj q) (by rw[e];exact YA _)
  have hf1:∀c∈[z,TI,TO,i1,i2],FpOk X pins (upd H s.heap.objs.size (.tup [x,y])) c:=λc hc=>by
   obtain⟨f0,f1,f2,f3,f4,f5⟩:=hf c hc
   exact⟨by rw[Zh (nz c hc)];exact f0,f1,f2,f3,f4,f5⟩
  have I2:Inv X pins σ (upd H s.heap.objs.size (.tup [x,y])) {s with heap:=h'}:=by
   refine Inv.Zds (s:={s with heap:=s.heap.push {cls:=.type "tuple",data:=.seq #[u',v]}}) (t':=s.toks) (fp:=[z,TI,TO,i1,i2]) I1 (λc o hc e=>?_) hf1
   simp only[Yl,List.not_mem_nil,or_false,not_or]at hc
   obtain⟨c1,c2,c3,c4,c5⟩:=hc
   by_cases hs:c=s.heap.objs.size
   ·subst hs
    have e':(s.heap.push {cls:=.type "tuple",data:=.seq #[u',v]}).get? s.heap.objs.size=some _:=Yk _ rfl
    have ee:o={cls:=.type "tuple",data:=.seq #[u',v]}:=by
     have:=e.symm.trans e'
     exact Yz this
    rw[ee];exact a5
   ·have:s.heap.get? c=some o:=by
     rcases Heap.get?_push_cases e with⟨q,_⟩|q
     ·exact absurd q hs
     ·exact q
    exact a7 c o c1 c3 c4 c5 this
  have ka:∀o,s.heap.get? a=some o->h'.get? a=some o:=λo e=>a7 a o D.l1z D.l1TO D.l1i1 D.l1i2 e
  have kb:∀o,s.heap.get? b=some o->h'.get? b=some o:=λo e=>a7 b o D.l2z D.l2TO D.l2i1 D.l2i2 e
  refine⟨.ref s.heap.objs.size,_,I2,rfl,⟨_,x,y,hfr,rfl,rfl,λxs' q'=>?_,λys' q'=>?_⟩,⟨⟨f1,b1',a0,a1⟩,?_,a2,?_,?_⟩,λc hc=>(hf1 c hc).1⟩
  ·rw[I.ZeC q' qa];exact hx
  ·rw[I.ZeC q' qb];exact hy
  ·exact a7 _ _ D.TIz D.TITO D.TIi1 D.TIi2 q2
  ·exact I.itb qa ka a3
  ·exact I.itb qb kb a4
 done:=by
  intro X hP hw hK hc i pins s σ H E I hf st hg
  subst hP hw hK
  obtain⟨xs,ys,qa,qb,hx⟩:=hg
  obtain⟨⟨f,b',qf,q1⟩,q2,⟨u0,v0,q3⟩,q4,q5⟩:=st
  obtain⟨is1,r1,p1,w1⟩:=I.sqb qa
  obtain⟨is2,r2,p2,w2⟩:=I.sqb qb
  refine ZoE (I.ok.hd hc) D q1 qf q2 q3 (w1 _ _ q4) (w2 _ _ q5) ?_ λh' k=>⟨rfl,I.Zds (t':=s.toks) (fp:=[z,TI,TO,i1,i2]) (λc o hc e=>?_) hf⟩
  ·rcases hx with hx|hx
   ·left;simp;rw[<-r1.length];exact hx
   ·right;simp;rw[<-r2.length];exact hx
  ·simp only[Yl,List.not_mem_nil,or_false,not_or]at hc
   obtain⟨c1,c2,c3,c4,c5⟩:=hc
   exact k c o c1 c3 c4 c5 e
 self:=λ_ _ _ _ _ ⟨⟨_,_,_,q⟩,_⟩ h=>Zqy q h
theorem Zu3 {K:Frag}{nm:Str}{tp:Pos}{e1 e2:Expr}{ta:TA}{p pos:Pos} (hK:X.K=K) (hg:Gl X "zip") (hm:X.mg "zip"=none) (ha:PA X [e1,e2] ta) (he:starEach [e1,e2] X.env=(false,eval e1 X.env)::starEach [e2] X.env:=by rfl) (hpl:(backTo pos (starEach [e2] X.env)).any (·.1)=false:=by rfl) :
  PI X (.Name nm tp) (.Call (.Name "zip" p) [e1,e2] [] pos) (Zsn K ta):=by
 subst hK
 intro pins s σ H R I h
 refine wpAny_Call_Name_kw (Zbp I hg hm Zh0 ?_)
 refine PyProof.Rows.callWith_type1 (thn (ha pos pins s σ H _ I h) λus s1 ⟨vs,H1,I1,r1,a,b,t,u,xs,ys,e1,qa,qb,q⟩=>?_) he hpl
 subst e1
 obtain⟨u',v,rfl,ru,rv⟩:=r1.two
 cases(show u'=Value.ref a from ru)
 cases(show v=Value.ref b from rv)
 obtain⟨is1,rr1,p1,_⟩:=I1.sqb qa
 obtain⟨is2,rr2,p2,_⟩:=I1.sqb qb
 refine Zls p1 p2 λh' c1 c2 c3 c4 c5 c7=>?_
 refine wpAny_pyIter_zip c1 ?_
 have l1:a<s1.heap.objs.size:=by obtain⟨o,e⟩:=p1.obj;exact Yj e
 have l2:b<s1.heap.objs.size:=by obtain⟨o,e⟩:=p2.obj;exact Yj e
 have sm:∀b,s1.heap.objs.size<=b->FpOk X pins H1 b:=λb hb=>I1.Zjw hb (I1.hok.fresh hb)
 refine⟨_,[s1.heap.objs.size+4,s1.heap.objs.size+2,s1.heap.objs.size+3,s1.heap.objs.size,s1.heap.objs.size+1],_,_,H1,rfl,I1.kept (t':=s1.toks) c7,Zqz (t:=t) (u:=u) (a:=a) (b:=b) ?_,⟨⟨_,_,.inl rfl,c1⟩,c2,⟨_,_,c3⟩,I1.itb qa (λo e=>c7 _ o e) c4,I1.itb qb (λo e=>c7 _ o e) c5⟩,λc hc=>?_,q⟩
 ·exact Zr6 _ _ _ l1 l2
 ·simp at hc
  rcases hc with rfl|rfl|rfl|rfl|rfl<;>exact sm _ (by omega)
end
theorem le1 {n:Nat}{us:List Value} (e:us.length=n+1):∃a t,us=a::t/\t.length=n:=by
 cases us with
 |nil=>cases e
 |cons a t=>exact⟨a,t,rfl,Nat.succ.inj e⟩
theorem le0 {us:List Value} (e:us.length=0):us=[]:=List.length_eq_zero_iff.mp e
section
variable {X:Cx}{tg:Expr}
noncomputable def iRngD (ta:TA):TI:=fun σ H R=>ta σ H λvs H1=>∃i j:Int,vs=[.int i,.int j,.int (-1)]/\(-(2 ^ 62)<=i/\i<2 ^ 62/\-(2 ^ 62)<=j/\j<2 ^ 62)/\R (Itrv (i+1-(i-j).toNat) (i-j).toNat) H1
theorem ZqA {a b c:Expr}{ta:TA}{p pos:Pos} (hg:Gl X "range") (hm:X.mg "range"=none) (ha:PA X [a,b,c] ta) (hs:starEach [a,b,c] X.env=(false,eval a X.env)::starEach [b,c] X.env:=by rfl) (hpl:(backTo pos (starEach [b,c] X.env)).any (·.1)=false:=by rfl) :
  PI X tg (.Call (.Name "range" p) [a,b,c] [] pos) (iRngD ta):=by
 intro pins s σ H R I h
 refine Call_ (Zbp I hg hm boot_range (PyProof.Rows.callWith_type1 (thn (ha pos pins s σ H _ I h) λus s1 z=>?_) hs hpl))
 obtain⟨vs,H1,I1,r1,i,j,e,⟨q1,q2,q3,q4⟩,q⟩:=z
 subst e
 cases r1 with
 |cons r rr =>
  cases rr with
  |cons r' rr =>
   cases rr with
   |cons r'' rr =>
    cases rr
    obtain⟨t,rfl⟩:=r
    obtain⟨t',rfl⟩:=r'
    obtain⟨t'',rfl⟩:=r''
    refine call_range_3 (by decide) ?_
    refine wpAny_pyIter_range (IsRange.new ..) (small_down q1 q2 q3 q4) ?_
    have I2:Inv X pins σ H1 {s1 with heap:=s1.heap.push {cls:=.type "range",data:=.fields #[.int i t,.int j t',.int (-1) t'']}}:=I1.kept (t':=s1.toks) λb o e=>Yg _ e
    generalize s1.heap.push {cls:=.type "range",data:=.fields #[.int i t,.int j t',.int (-1) t'']}=h2 at I2⊢
    refine⟨h2.objs.size,[h2.objs.size],_,_,H1,rfl,I2.kept (t':=s1.toks) λb o e=>Yg _ e,ZiE _ (i+1-(i-j).toNat) (i-j).toNat,?_,λb hb=>?_,q⟩
    ·have e1:(i+1-((i-j).toNat:Nat))+((i-j).toNat:Nat)-1+((0:Nat):Int)*(-1)=i:=by omega
     have e2:(((i-j).toNat:Nat):Int)-((0:Nat):Int)=Builtin.Range.rangeSize i j (-1):=by rw[rangeSize_downNat];omega
     show IsRangeIter _ _ ((i+1-((i-j).toNat:Nat))+((i-j).toNat:Nat)-1+((0:Nat):Int)*(-1)) ((((i-j).toNat:Nat):Int)-((0:Nat):Int)) (-1)
     rw[e1,e2]
     exact Yk _ rfl
    ·have e:b=h2.objs.size:=by simpa using hb
     subst e
     exact I2.Zjw (Yd _) (I2.hok.fresh (Yd _))
end
section
variable {X:Cx}
noncomputable def ZsC (K:Frag) (ta:TA):TI:=fun σ H R=>ta σ H λvs H1=>∃a xs,vs=[.ref a]/\((SqL K H1 a xs/\R (Ite K a) H1)\/(SqT K H1 a xs/\R (IteT K a) H1))
theorem ZsD {K:Frag}{elts:List Expr} {x1}{tp:Pos}{e1:Expr}{ta:TA}{p pos:Pos} (hK:X.K=K) (hg:Gl X "enumerate") (hm:X.mg "enumerate"=none) (ha:PA X [e1] ta) (hs:starEach [e1] X.env=[(false,eval e1 X.env)]:=by rfl) :
  PI X (.Tuple elts x1 tp) (.Call (.Name "enumerate" p) [e1] [] pos) (ZsC K ta):=by
 subst hK
 intro pins s σ H R I h
 refine wpAny_Call_Name_kw (Zbp I hg hm ZgL ?_)
 refine PyProof.Rows.callWith_type1 (thn (ha pos pins s σ H _ I h) λus s1 z=>?_) hs rfl
 obtain⟨vs,H1,I1,r1,a,xs,rfl,qq⟩:=z
 obtain⟨u,rfl,ru⟩:=r1.one
 cases(show u=Value.ref a from ru)
 have sm:∀b,s1.heap.objs.size<=b->FpOk X pins H1 b:=λb hb=>I1.Zjw hb (I1.hok.fresh hb)
 have n1:s1.heap.objs.size+1≠s1.heap.objs.size:=by show ¬ ((_:Nat)=_);omega
 rcases qq with⟨qa,q⟩|⟨qa,q⟩
 ·obtain⟨is1,rr1,p1,_⟩:=I1.list qa
  refine call_enumerate_list p1.isList λh' c1 c2 c3 c4=>?_
  have l1:a<s1.heap.objs.size:=by obtain⟨o,e,_⟩:=p1.isList;exact Yj e
  have T:=Zlq (P:=X.prog) (w:=X.w) (K:=X.K) (elts:=elts) (x1:=x1) (pos:=tp) n1 (Yn (YN l1)) (Yn l1)
  refine T.self _ 0 _ _ _ ⟨⟨_,c1⟩,c2⟩ ?_
  refine⟨_,[s1.heap.objs.size+1,s1.heap.objs.size],_,_,H1,rfl,I1.kept (t':=s1.toks) c4,T,⟨⟨_,c1⟩,c2⟩,λc hc=>?_,q⟩
  simp at hc
  rcases hc with rfl|rfl<;>exact sm _ (by omega)
 ·obtain⟨is1,rr1,p1,_⟩:=I1.tuple qa
  have l1:a<s1.heap.objs.size:=by obtain⟨o,e,_⟩:=p1;exact Yj e
  have T:=ZjM (P:=X.prog) (w:=X.w) (K:=X.K) (elts:=elts) (x1:=x1) (pos:=tp) n1 (Yn (YN l1)) (Yn l1)
  have hsz:(s1.heap.push {cls:=.type "tuple_iterator",data:=.fields #[.ref a,.int 0 0]}).objs.size=s1.heap.objs.size+1:=Heap.size_push _ _
  have c1:IsEnum ((s1.heap.push {cls:=.type "tuple_iterator",data:=.fields #[.ref a,.int 0 0]}).push {cls:=.type "enumerate",data:=.fields #[.none,.bool false,.ref s1.heap.objs.size,rawInt 0,.none,.none]}) (s1.heap.objs.size+1) s1.heap.objs.size 0 .none:=by
   show Heap.get? _ _=_
   rw[<-hsz];exact Yk _ rfl
  have c2:((s1.heap.push {cls:=.type "tuple_iterator",data:=.fields #[.ref a,.int 0 0]}).push {cls:=.type "enumerate",data:=.fields #[.none,.bool false,.ref s1.heap.objs.size,rawInt 0,.none,.none]}).IsTupleIter s1.heap.objs.size a 0:=⟨_,Yg _ (Yk _ rfl),rfl,rfl⟩
  refine callType_newIn F.called_enumerate rfl (by first|rfl|decide) (F.newCall_enumerate_1 _) (λobj=>by first|rfl|decide) F.entry_enumerate_new (ZiD a is1.toArray) ⟨p1,⟨_,c1,rfl⟩,?_⟩
  refine T.self _ 0 _ _ _ ⟨⟨_,c1⟩,c2⟩ ?_
  refine⟨_,[s1.heap.objs.size+1,s1.heap.objs.size],_,_,H1,rfl,I1.kept (t':=s1.toks) (λb o e=>Yg _ (Yg _ e)),T,⟨⟨_,c1⟩,c2⟩,λc hc=>?_,q⟩
  simp at hc
  rcases hc with rfl|rfl<;>exact sm _ (by omega)
end
noncomputable def Zlz (f:Nat->Int) (p:Nat):Nat:=((p:Int)-ZeA f p-1).toNat
noncomputable def ZlA (f:Nat->Int) (n p:Nat):Nat:=(ZeB f n p-p-1).toNat
section
variable {ns T:List Int}
theorem Zbw (hT:Zi ns T) {p:Nat} (hp:p<ns.length):(Zlz (nth ns) p:Int)=p-ZeA (nth ns) p-1/\(ZlA (nth ns) ns.length p:Int)=ZeB (nth ns) ns.length p-p-1/\Zlz (nth ns) p<=p/\p+ZlA (nth ns) ns.length p<ns.length:=by
 unfold Zlz ZlA
 obtain⟨h1,h2⟩:=ZbQ (hT.2 p hp)
 rcases h1 with h1|⟨q,h1⟩<;>rcases h2 with h2|⟨r,h2⟩
 ·rw[Zcl h1,ZbP h2];omega
 ·rw[Zcl h1,Zaa h2];have:=h2.1;have:=h2.2.1;omega
 ·rw[Z9 h1,ZbP h2];have:=h1.1;omega
 ·rw[Z9 h1,Zaa h2];have:=h1.1;have:=h2.1;have:=h2.2.1;omega
theorem Zhv (hT:Zi ns T) {q e:Nat} (hq:q<ns.length) (h:nth T q=e) (hl:q<e):e<ns.length/\ZeA (nth ns) q=ZeA (nth ns) e/\ZeB (nth ns) ns.length q=e/\(∀s,q<s->s<e->nth ns q<=nth ns s)/\∀s:Nat,ZeA (nth ns) e<s->s<q->nth ns q<nth ns s:=by
 have hE:=hT.2 q hq
 rw[show T.getD q 0=e from h]at hE
 rcases hE with⟨_,_,z⟩|⟨x,h1,_,z⟩|⟨r,h1,h2,z⟩|⟨x,r,h1,h2,z⟩
 ·omega
 ·have:=h1.1;omega
 ·obtain rfl:e=r:=by omega
  have hN:ZcE (nth ns) e:=λr' r1=>by
   have:=h2.2.2.1
   by_cases z1:r'<q
   ·have:=h1 r' z1;omega
   ·by_cases z2:r'=q
    ·subst z2;omega
    ·have:=h2.2.2.2 r' (by omega) r1;omega
  exact⟨h2.2.1,by rw[Zcl h1,Zcl hN],Zaa h2,h2.2.2.2,λs _ s2=>h1 s s2⟩
 ·by_cases c:nth ns x<=nth ns r
  ·rw[Yc c]at z
   obtain rfl:e=r:=by omega
   have hP:Zaf (nth ns) e x:=⟨by have:=h1.1;omega,c,λr' r1 r2=>by
    have:=h2.2.2.1
    by_cases z1:r'<q
    ·have:=h1.2.2 r' r1 z1;omega
    ·by_cases z2:r'=q
     ·subst z2;omega
     ·have:=h2.2.2.2 r' (by omega) r2;omega⟩
   refine⟨h2.2.1,by rw[Z9 h1,Z9 hP],Zaa h2,h2.2.2.2,λs s1 s2=>h1.2.2 s ?_ s2⟩
   rw[Z9 hP]at s1;omega
  ·rw[Yb c]at z
   have:=h1.1;omega
theorem Zei (hT:Zi ns T) {q e:Nat} (hq:q<ns.length) (h:nth T q=e) (hl:e<q):ZeA (nth ns) q=e/\ZeB (nth ns) ns.length q=ZeB (nth ns) ns.length e/\(∀s,e<s->s<q->nth ns q<nth ns s)/\∀s:Nat,q<s->s<ZeB (nth ns) ns.length e->nth ns q<=nth ns s:=by
 have hE:=hT.2 q hq
 rw[show T.getD q 0=e from h]at hE
 rcases hE with⟨_,_,z⟩|⟨x,h1,h2,z⟩|⟨r,h1,h2,z⟩|⟨x,r,h1,h2,z⟩
 ·omega
 ·obtain rfl:e=x:=by omega
  have hN:ZbN (nth ns) ns.length e:=λr r1 r2=>by
   have:=h1.2.1
   by_cases z1:r<q
   ·have:=h1.2.2 r r1 z1;omega
   ·by_cases z2:r=q
    ·subst z2;omega
    ·have:=h2 r (by omega) r2;omega
  exact⟨Z9 h1,by rw[ZbP h2,ZbP hN],h1.2.2,λs s1 s2=>h2 s s1 (by rw[ZbP hN]at s2;omega)⟩
 ·have:=h2.1;omega
 ·by_cases c:nth ns x<=nth ns r
  ·rw[Yc c]at z
   have:=h2.1;omega
  ·rw[Yb c]at z
   obtain rfl:e=x:=by omega
   have hP:Zac (nth ns) ns.length e r:=⟨by have:=h2.1;omega,h2.2.1,by omega,λs s1 s2=>by
    have:=h1.2.1
    by_cases z1:s<q
    ·have:=h1.2.2 s s1 z1;omega
    ·by_cases z2:s=q
     ·subst z2;omega
     ·have:=h2.2.2.2 s (by omega) s2;omega⟩
   exact⟨Z9 h1,by rw[Zaa h2,Zaa hP],h1.2.2,λs s1 s2=>h2.2.2.2 s s1 (by rw[Zaa hP]at s2;omega)⟩
theorem ZsE (hT:Zi ns T) {q p e:Nat} (hq:q<ns.length) (hp:p<ns.length) (h:nth T q=e) (k:nth T p=e) (h1:q<e) (k1:p<e):q=p:=by
 obtain⟨he,a1,a2,a3,a4⟩:=Zhv hT hq h h1
 obtain⟨_,b1,b2,b3,b4⟩:=Zhv hT hp k k1
 have c1:=(Zbw hT hq)
 have c2:=(Zbw hT hp)
 rcases Nat.lt_trichotomy q p with z|z|z
 ·have x:=a3 p z k1
  have y:=b4 q (by rw[<-a1];omega) z
  omega
 ·exact z
 ·have x:=b3 q z h1
  have y:=a4 p (by rw[<-b1];omega) z
  omega
theorem ZqB (hT:Zi ns T) {q p e:Nat} (hq:q<ns.length) (hp:p<ns.length) (h:nth T q=e) (k:nth T p=e) (h1:e<q) (k1:e<p):q=p:=by
 obtain⟨a1,a2,a3,a4⟩:=Zei hT hq h h1
 obtain⟨b1,b2,b3,b4⟩:=Zei hT hp k k1
 have c1:=(Zbw hT hq)
 have c2:=(Zbw hT hp)
 rcases Nat.lt_trichotomy q p with z|z|z
 ·have x:=a4 p z (by rw[<-b2];omega)
  have y:=b3 q h1 z
  omega
 ·exact z
 ·have x:=b4 q z (by rw[<-a2];omega)
  have y:=a3 p k1 z
  omega
theorem ZsF (hT:Zi ns T) {p:Nat} (hp:p<ns.length) (h:0<Zlz (nth ns) p):∃q,q<p/\nth T q=p:=by
 obtain⟨c1,_,c3,_⟩:=Zbw hT hp
 obtain⟨h1,_⟩:=ZbQ (hT.2 p hp)
 generalize hs:Zlz (nth ns) p=s at *
 have hL:=Zpr (nth ns) (p-s) (s-1)
 generalize Zp9 (nth ns) (p-s) (s-1)=q at hL
 obtain⟨l1,l2,l3,l4⟩:=hL
 have hqp:q<p:=by omega
 have big:∀r,p-s<=r->r<p->nth ns p<nth ns r:=λr r1 r2=>by
  rcases h1 with h1|⟨x,h1⟩
  ·exact h1 r r2
  ·rw[Z9 h1]at c1;exact h1.2.2 r (by omega) r2
 have hN:Zac (nth ns) ns.length q p:=⟨hqp,hp,big q l1 hqp,λr r1 r2=>l4 r r1 (by omega)⟩
 refine⟨q,hqp,?_⟩
 refine ZF.unique (hT.2 q (by omega)) ?_
 rcases h1 with h1|⟨x,h1⟩
 ·rw[Zcl h1]at c1
  exact .inr (.inr (.inl ⟨p,λr r1=>l3 r (by omega) r1,hN,rfl⟩))
 ·have hx:=c1
  rw[Z9 h1]at hx
  refine .inr (.inr (.inr ⟨x,p,⟨by omega,?_,λr r1 r2=>l3 r (by omega) r2⟩,hN,by rw[Yc h1.2.1]⟩))
  have:=h1.2.1;have:=big q l1 hqp;omega
theorem ZqC (hT:Zi ns T) {p:Nat} (hp:p<ns.length) (h:0<ZlA (nth ns) ns.length p):∃q,p<q/\q<ns.length/\nth T q=p:=by
 obtain⟨_,c1,_,c3⟩:=Zbw hT hp
 obtain⟨_,h1⟩:=ZbQ (hT.2 p hp)
 generalize hs:ZlA (nth ns) ns.length p=s at *
 have hL:=Zpr (nth ns) (p+1) (s-1)
 generalize Zp9 (nth ns) (p+1) (s-1)=q at hL
 obtain⟨l1,l2,l3,l4⟩:=hL
 have hqp:p<q:=by omega
 have big:∀r,p<r->r<=p+s->nth ns p<=nth ns r:=λr r1 r2=>by
  rcases h1 with h1|⟨x,h1⟩
  ·exact h1 r r1 (by omega)
  ·rw[Zaa h1]at c1;exact h1.2.2.2 r r1 (by omega)
 have hN:Zaf (nth ns) q p:=⟨hqp,big q hqp (by omega),λr r1 r2=>l3 r (by omega) r2⟩
 refine⟨q,hqp,by omega,?_⟩
 refine ZF.unique (hT.2 q (by omega)) ?_
 rcases h1 with h1|⟨x,h1⟩
 ·rw[ZbP h1]at c1
  exact .inr (.inl ⟨p,hN,λr r1 r2=>l4 r r1 (by omega),rfl⟩)
 ·have hx:=c1
  rw[Zaa h1]at hx
  have g:=h1.2.2.1
  refine .inr (.inr (.inr ⟨p,x,hN,⟨by omega,h1.2.1,?_,λr r1 r2=>l4 r r1 (by omega)⟩,by rw[Yb (by omega)]⟩))
  have:=big q hqp (by omega);omega
end
noncomputable def insAt (m:Nat) (row:List Int) (i:Nat):List Int:=row.take i++[(m:Int)]++row.drop i
noncomputable def allO:Nat->List (List Int)
 |0=>[[]]
 |m+1=>(allO m).flatMap λrow=>(List.range (m+1)).map λi=>insAt m row i
noncomputable def prC (f:Nat->Int) (p:Nat):Nat->Int
 |0=>-1
 |q+1=>if f q<=f p then (q:Int)else prC f p q
noncomputable def nxC (f:Nat->Int) (n p:Nat):Nat->Int
 |0=>n
 |c+1=>if f (n-(c+1))<f p then ((n-(c+1):Nat):Int)else nxC f n p c
theorem ZsG (f:Nat->Int) (p:Nat):∀q,q<=p->(∀r,q<=r->r<p->f p<f r)->ZeA f p=prC f p q
 |0,_,h=>Zcl λr hr=>h r (by omega) hr
 |q+1,hq,h=>by
  unfold prC
  by_cases c:f q<=f p
  ·rw[Yc c];exact Z9 ⟨by omega,c,λr r1 r2=>h r (by omega) r2⟩
  ·rw[Yb c]
   exact ZsG f p q (by omega) λr r1 r2=>by
    by_cases e:r=q
    ·subst e;omega
    ·exact h r (by omega) r2
theorem ZsH (f:Nat->Int) (n p:Nat):∀c,c+p<n->(∀r,p<r->r<n-c->f p<=f r)->ZeB f n p=nxC f n p c
 |0,_,h=>ZbP λr r1 r2=>h r r1 (by omega)
 |c+1,hq,h=>by
  unfold nxC
  by_cases z:f (n-(c+1))<f p
  ·rw[Yc z];exact Zaa ⟨by omega,by omega,z,λr r1 r2=>h r r1 (by omega)⟩
  ·rw[Yb z]
   exact ZsH f n p c (by omega) λr r1 r2=>by
    by_cases e:r=n-(c+1)
    ·subst e;omega
    ·exact h r r1 (by omega)
noncomputable def elC (f:Nat->Int) (n p:Nat):Int :=
 let a:=prC f p p
 let b:=nxC f n p (n-(p+1))
 if a<0 then (if b<n then b else -1)else if b<n then (if f a.toNat<=f b.toNat then b else a)else a
noncomputable def Zni (r:List Int):List Int:=(List.range r.length).map (elC (nth r) r.length)
theorem Zu4 (f:Nat->Int) {n p:Nat} (hp:p<n):ZeB f n p=nxC f n p (n-(p+1)):=ZsH f n p _ (by omega) λr r1 r2=>by omega
theorem Zu5 (f:Nat->Int) (p:Nat):ZeA f p=prC f p p:=ZsG f p p (Yd _) λr r1 r2=>by omega
theorem ZsI (f:Nat->Int) {n p:Nat} (hp:p<n):∃e,ZF f n p e:=⟨_,Zfm hp⟩
theorem elC_is (f:Nat->Int) {n p:Nat} (hp:p<n):ZF f n p (elC f n p):=by
 unfold elC
 rw[<-Zu4 f hp,<-Zu5 f p]
 obtain⟨e,he⟩:=ZsI f hp
 obtain⟨h1,h2⟩:=ZbQ he
 rcases h1 with h1|⟨q,h1⟩<;>rcases h2 with h2|⟨r,h2⟩
 ·rw[Zcl h1,ZbP h2];exact .inl ⟨h1,h2,by simp⟩
 ·rw[Zcl h1,Zaa h2]
  have:=h2.2.1
  exact .inr (.inr (.inl ⟨r,h1,h2,by dsimp only;rw[Yc (by omega),Yc (by omega)]⟩))
 ·rw[Z9 h1,ZbP h2];exact .inr (.inl ⟨q,h1,h2,by dsimp only;rw[Yb (by omega),Yb (by omega)]⟩)
 ·rw[Z9 h1,Zaa h2]
  have:=h2.2.1
  exact .inr (.inr (.inr ⟨q,r,h1,h2,by dsimp only;rw[Yb (by omega),Yc (by omega)];simp⟩))
theorem Znj (r:List Int):Zi r (Zni r):=⟨by simp[Zni],λp hp=>by
 have:(Zni r).getD p 0=elC (nth r) r.length p:=by simp[Zni,Ym,hp]
 rw[this];exact elC_is _ hp⟩
theorem loopQ {K:Frag}{r:Addr}{H H1:Hp}{xs:List V}{g:TG}{tb:TS}{D:Ends}{σ:St} (hr:SqL K H r xs\/SqT K H r xs) (s1:Zf H H1)
  (key:∀J:It,(∀i Hx,Zf H Hx->i<xs.length->J.go i Hx)->(∀Hx,Zf H Hx->J.stop xs.length Hx)->(∀i Hx x Hx',Zf H Hx->J.yld i Hx x Hx'->∃q y,Hx q=none/\x=.ref q/\Hx'=upd Hx q (.tup [.int i,y])/\xs[i]?=some y)->ZmS J g tb D σ H1) :
  SqL K H1 r xs/\ZmS (Ite K r) g tb D σ H1\/SqT K H1 r xs/\ZmS (IteT K r) g tb D σ H1:=by
 rcases hr with hr|hr
 ·refine .inl ⟨s1.seq hr,key _ (λi Hx s hi=>⟨_,_,s.seq hr,Yi hi⟩) (λHx s=>⟨_,s.seq hr,rfl⟩) λi Hx x Hx' s ⟨q,y,h1,h2,h3,h4⟩=>⟨q,y,h1,h2,h3,h4 _ (s.seq hr)⟩⟩
 ·refine .inr ⟨s1.Zaj hr,key _ (λi Hx s hi=>⟨_,_,s.Zaj hr,Yi hi⟩) (λHx s=>⟨_,s.Zaj hr,rfl⟩) λi Hx x Hx' s ⟨q,y,h1,h2,h3,h4⟩=>⟨q,y,h1,h2,h3,h4 _ (s.Zaj hr)⟩⟩
end L2
namespace L2
open PySem PySem.Spec PyProof.Rows PySem.W PyProof
theorem ZkT (l:Addr) (items:Array Value) (n:Nat) (dd:Option Addr) (sl:Array (Option Value)) (x:Value) (e:Value->Bool) (j:Nat) (hj:j<items.size)
  (hit:e items[j]=true) (hno:∀m (hm:m<items.size),m<j->e items[m]=false) :
  Meets (Builtin.«tuple.index» ⟨[.ref l,x],[]⟩)
   (λA R s=>s.heap.get? l=some {cls:=.type "tuple",dict:=dd,data:=.seq items n,slots:=sl}/\(∀y,y∈items->SeqAt.EqAt A.in1 s y x (e y))/\R (.ok (.ret (.int j s.toks))) {s with toks:=s.toks+1}) :=
 .of_wp λprog w A R s h=>by
  obtain⟨hp,g,d,tk,os⟩:=s;obtain⟨hl,he,h⟩:=h
  unfold Builtin.«tuple.index»
  simp only[Std.Legacy.Range.forIn_eq_forIn_range',Std.Legacy.Range.size,Nat.sub_zero,Nat.add_sub_cancel,Nat.div_one]
  wp_walk using wpAny_loadPart' hl,wpAny_forIn_list _ (λrest b s'=>b.1=none/\s'=⟨hp,g,d,tk,os⟩/\∃i,rest=List.range' i (items.size-i)/\i<=j) _
  case turn =>
   rintro y rest b s' ⟨hb,rfl,i,hr,hi⟩
   have hlt:i<items.size:=by omega
   obtain⟨rfl,hrest⟩:y=i/\rest=List.range' (i+1) (items.size-(i+1)):=by
    have e:items.size-i=(items.size-(i+1))+1:=by omega
    rw[e,List.range'_succ]at hr
    injection hr with h1 h2
    exact⟨h1,h2⟩
   rw[Array.getElem?_eq_getElem hlt]
   refine Ya (he items[y] (Array.getElem_mem hlt) prog w _ _ ?_)
   by_cases c:y=j
   ·subst c
    rw[hit]
    wp_walk
    exact⟨_,rfl,h⟩
   ·rw[hno y hlt (by omega)]
    wp_walk
    exact⟨rfl,rfl,y+1,hrest,by omega⟩
  case fin =>
   rintro⟨b1,b2⟩ s' ⟨hb,rfl,i,hr,hi⟩
   have e:items.size-i=(items.size-(i+1))+1:=by omega
   rw[e,List.range'_succ]at hr
   cases hr
  case h =>
   exact⟨rfl,rfl,0,by simp,Ys _⟩
section
variable {X:Cx}
noncomputable def Zl8 (K:Frag):V->List V->Hp->VK->Prop:=λx vs H Q=>∃(l:Addr) (ns:List Int) (k:Int),x=.ref l/\vs=[.int k]/\SqT K H l (ns.map V.int)/\k∈ns/\Q (.int (ns.idxOf k:Nat)) H
theorem ZlB {K:Frag} (hK:X.K=K):MtM X "tuple.index" (Zl8 K):=by
 subst hK
 intro pins s σ H x vs v us Q I rx rv h
 obtain⟨l,ns,k,rfl,rfl,hH,hk,q⟩:=h
 cases rx
 obtain⟨u,rfl,ru⟩:=rv.one
 obtain⟨t,rfl⟩:=ru
 obtain⟨its,r,pl⟩:=I.tuple hH
 have hi:IntsAre its ns:=intsAre_of r
 have hlen:=r.length
 rw[Yf]at hlen
 obtain⟨⟨cls,dd,data,sl⟩,ho,hc,n,hd⟩:=pl.1
 simp only at hc hd
 subst hc hd
 have hj:ns.idxOf k<ns.length:=List.idxOf_lt_length_iff.mpr hk
 refine call_meets F.slot_tuple_index ⟨_,ho,rfl⟩ F.entry_tuple_index (F.args_tuple_index_2 _ _)
  (ZkT l its.toArray n dd sl (.int k t) (isInt k) (ns.idxOf k) (by rw[Yp];omega) ?_ ?_) ⟨ho,λy hy=>(eq_isInt k t hi y (by simpa using hy)).at _ _,⟨.int _,H,I.tok _,⟨_,rfl⟩,q⟩⟩
 ·show isInt k its[ns.idxOf k]=true
  rw[isInt_at k hi _ (by omega) hj]
  simpa using List.getElem_idxOf hj
 ·intro j hjs hlt
  show isInt k its[j]=false
  rw[isInt_at k hi j (by simpa using hjs) (by omega)]
  exact ne_of_lt_idxOf hlt _
end
noncomputable def ZbR (H:Hp) (t:Addr) (ys:List V):Prop:=∃ob:Obj,ob.dict=none/\H t=some (.frz ob (.tup ys))
theorem ZbR.same {H H':Hp}{t:Addr}{ys:List V} (h:ZbR H t ys) (s:Zf H H'):ZbR H' t ys:=let ⟨ob,d,e⟩:=h;⟨ob,d,s _ _ e⟩
theorem ZbR.sq {K:Frag}{H:Hp}{t:Addr}{ys:List V} (h:ZbR H t ys):SqT K H t ys:=let ⟨ob,_,e⟩:=h;.inl (.inr ⟨ob,e⟩)
section
variable {X:Cx}
noncomputable def ZsJ (K:Frag):List V->Hp->VK->Prop:=λxs H Q=>∃p ys,xs=[.ref p]/\SqL K H p ys/\∀l H',H l=none->Zf H H'->ZbR H' l ys->Q (.ref l) H'
theorem ZqD {K:Frag} (hK:X.K=K):Zcv X (.type "tuple") (ZsJ K):=by
 subst hK
 intro pins s σ H xs us Q I r h
 obtain⟨p,ys,rfl,hq,q⟩:=h
 obtain⟨u,rfl,rx⟩:=vals1 r
 cases rx
 obtain⟨its,r',pl,hz⟩:=I.list hq
 have hlen:=r'.length
 refine call_tuple_list pl.isList (λh' kp=>?_) (by simp only[Yp]<;>omega)
 have I1:Inv X pins σ H {s with heap:=h'}:=I.kept (t':=s.toks) kp
 have hn:=I1.hok.fresh (Yd h'.objs.size)
 have I2:Inv X pins σ (upd H h'.objs.size (.frz {cls:=.type "tuple",data:=.seq its.toArray} (.tup ys))) {s with heap:=h'.push {cls:=.type "tuple",data:=.seq its.toArray}} :=
  I1.laid (t':=s.toks) (λb o e=>Yg _ e) (Yd _) (show ZY X.prog X.w _ _ _ (.frz _ (.tup ys))from⟨Yk _ rfl,hz,its,r',IsTup.new _ _⟩)
 exact⟨.ref h'.objs.size,_,I2,rfl,q _ _ hn ((Zf.refl H).upd hn) ⟨_,rfl,Zb⟩⟩
noncomputable def tBMH (r:V->List V->Hp->VK->Prop) (to:TE) (t:TA):TE:=fun σ H Q=>to σ H λx H1=>(∃p xs,x=.ref p/\ZbR H1 p xs)/\t σ H1 λxs H2=>r x xs H2 Q
variable {o e:Expr}{es:List Expr}{to:TE}{t:TA}{name:Str}{apos cpos:Pos}{id:String}{r:V->List V->Hp->VK->Prop}
theorem ZsK (slot:Slot "tuple" name id) (hty:typeOf (.builtin id)=pure (.type "method_descriptor")) (hm:MtM X id r) (ho:PE X o to) (ha:PA X (e::es) t)
  (hbase:attributeBase o name X.env (eval o X.env)=eval o X.env:=by rfl)
  (hfew:((backTo cpos (starEach (e::es) X.env)).all (λx=>!x.1)&&(backToKw cpos (keywordEach [] X.env)).all (λx=>x.1.isSome)
   && decide ((e::es).length+([]:List Keyword).length+(if ([]:List Keyword).isEmpty then 0 else 1)<30))=true:=by rfl)
  (hline:(apos.endLine==cpos.line)=true:=by rfl) (hs:starEach (e::es) X.env=(false,eval e X.env)::starEach es X.env:=by rfl) (hplain:(backTo cpos (starEach es X.env)).any (·.1)=false:=by rfl) :
  PE X (.Call (.Attribute o name apos) (e::es) [] cpos) (tBMH r to t):=by
 intro pins s σ H Q I h
 refine wpAny_Call_method_late hbase hfew hline rfl (thn (ho pins s σ H _ I h) λv s1 ⟨x,H1,I1,r1,⟨p,xs,ex,ob,hd,hp⟩,q1⟩=>?_)
 subst ex
 cases r1
 obtain⟨e1,_,its,_,ob2,e2,e3,_⟩:=(show ZY X.prog X.w H1 s1.heap p (.frz ob (.tup xs))from I1.hok p _ hp)
 rw[e1]at e2
 cases e2
 refine⟨"tuple",id,PySem.F.plainAttrs_tuple,slot,hty,⟨ob,e1,e3⟩,(λa z=>by cases z;exact⟨ob,e1,hd⟩),?_⟩
 have hA:=ha cpos pins s1 σ H1 _ I1 q1
 rw[hs]at hA⊢
 refine Calls.callWith_builtin (by show(false||(backTo cpos (starEach es X.env)).any (·.1))=false;rw[hplain]<;>rfl) (Calls.evalArgs_plain ?_)
 exact thn hA λus s2 ⟨vs,H2,I2,r2,q2⟩=>hm pins s2 σ H2 (.ref p) vs (.ref p) us Q I2 rfl r2 q2
end
section
variable {X:Cx}
noncomputable def ZsL (K:Frag):List V->Hp->VK->Prop:=λxs H Q=>∃p ys v,xs=[.ref p,v]/\cOf v=some (.type "tuple")/\SqT K H p ys/\Q (.bl true) H
theorem ZqE {K:Frag} (hK:X.K=K):Zcv X (.builtin "isinstance") (ZsL K):=by
 subst hK
 intro pins s σ H xs us Q I r h
 obtain⟨p,ys,v,rfl,hc,ht,q⟩:=h
 obtain⟨u,u2,rfl,ru,ru2⟩:=r.two
 have e2:u2=.type "tuple":=by
  cases v with
  |ref a=>cases hc
  |ty n=>have:=(show u2=Value.type n from ru2);cases hc;exact this
  |_=>cases hc
 subst e2
 cases(show u=Value.ref p from ru)
 obtain⟨its,_,⟨o,h1,h2,_⟩,_⟩:=I.tuple ht
 exact kia_one kitx_tuple I.kIn ⟨o,h1,h2⟩ (show kitOne X.K (.type "tuple") (.type "tuple")=some true by with_unfolding_all rfl) (λz=>nomatch z) λtk=>⟨.bl true,H,I.tok tk,rfl,q⟩
end
noncomputable abbrev KO:=Option Int
noncomputable def koIs:KO->Value->Bool
 |some k,v=>Value.isInt k v
 |none,.none=>true
 |none,_=>false
noncomputable def koH:KO->Int
 |some k=>hashInt k
 |none=>0xFCA86420
theorem ZaH:∀{k:KO}{v:Value},koIs k v=true->(∃i t,k=some i/\v=Value.int i t)\/(k=none/\v=Value.none)
 |some i,v,h=>by
  obtain⟨t,e⟩:=Value.isInt_shape (k:=i) (v:=v) h
  exact .inl ⟨i,t,rfl,e⟩
 |none,v,h=>by
  cases v<;>first|exact .inr ⟨rfl,rfl⟩|exact absurd h (by simp[koIs])
theorem ZsM (i:Int) (t:Tok):koIs (some i) (.int i t)=true:=by simp[koIs,Value.isInt]
theorem ZqF {prog:Program}{w:World}{A:Around}{E:Value->Shared->Prop}{s:Shared}{Q:Int->Shared->Prop} (h:Q 0xFCA86420 {s with toks:=s.toks+1}):wpAny (model prog w) A (pyHash .none) Q E s:=by
 unfold pyHash
 have hv:[Value.none].any Value.onHeap=false:=rfl
 refine Ya ?_
 rw[cRoomFor,Yb (by rw[hv];exact Yy)];refine Ye ?_
 refine Ya (wpAny_specialOf (typeIs_none s) PySem.F.slot_NoneType_hash.lookup ?_)
 show wpAny _ _ (if (some (Value.builtin "NoneType.__hash__")==some Value.none)=true then _ else _) Q E s
 rw[Yb (by rw[beq_builtin_none];exact Yy)]
 refine Ya (wpAny_specialOf (typeIs_none s) PySem.F.slot_NoneType_hash.lookup ?_)
 show wpAny _ _ (callSpecialIfBoundUnlessNone? .none "__hash__" _ >>= _) Q E s
 refine Ya (wpAny_callSpecialIfBoundUnlessNone?_slot (typeIs_none s) PySem.F.slot_NoneType_hash
  (wpAny_call_entry PySem.F.slot_NoneType_hash (typeIs_none s) PySem.F.entry_NoneType_hash
   (show wpAny _ _ (do ret (<-mkInt 0xFCA86420)) _ _ s from wpAny_ret_mkInt ?_) (PySem.F.args_NoneType_hash_1 _)))
 exact Ye h
noncomputable def optKind (prog:Program) (w:World):PySem.KeyKind prog w KO where
 is:=koIs
 hash:=koH
 inj:=λv a b ha hb=>by
  rcases ZaH ha with⟨i,t,rfl,rfl⟩|⟨rfl,rfl⟩
  ·rcases ZaH hb with⟨j,u,rfl,e⟩|⟨rfl,e⟩
   ·injection e with e1 _;rw[e1]
   ·exact nomatch e
  ·rcases ZaH hb with⟨j,u,rfl,e⟩|⟨rfl,e⟩
   ·exact nomatch e
   ·rfl
 byValue:=λk v h=>by
  rcases ZaH h with⟨i,t,rfl,rfl⟩|⟨rfl,rfl⟩<;>rfl
 pyHash:=λhv h=>by
  rcases ZaH hv with⟨i,t,rfl,rfl⟩|⟨rfl,rfl⟩
  ·exact wpAny_pyHash_int h
  ·exact ZqF h
 eqBool:=λ{A E s a b u v Q} hu hv h=>by
  rcases ZaH hu with⟨i,t,rfl,rfl⟩|⟨rfl,rfl⟩
  ·rcases ZaH hv with⟨j,u,rfl,rfl⟩|⟨rfl,rfl⟩
   ·rw[show decide ((some i:KO)=some j)=(i==j) by by_cases e:i=j<;>simp[e]]at h
    exact wpAny_eqBool_int h
   ·exact SeqAt.EqAt.int_none i t _ _ _ _ h
  ·rcases ZaH hv with⟨j,u,rfl,rfl⟩|⟨rfl,rfl⟩
   ·exact SeqAt.EqAt.none_int j u _ _ _ _ h
   ·exact SeqAt.EqAt.same .none _ _ _ _ h
 «strs»:=λk x t v h=>by
  rcases ZaH h with⟨i,u,rfl,e⟩|⟨rfl,e⟩<;>exact nomatch e
noncomputable def oV:KO->V
 |some i=>.int i
 |none=>.non
theorem ZsN {P:Program}{w:World}{k:KO}{u:Value} (r:RelV (oV k) u):(optKind P w).is k u=true:=by
 cases k with
 |some i=>obtain⟨t,e⟩:=(show ∃t,u=Value.int i t from r);subst e;exact ZsM i t
 |none=>cases(show u=Value.none from r);rfl
theorem pairsO {P P':Program}{w w':World}{es:List DictEntry}{kvs:List (KO×Value)} (h:Pairs (optKind P w) es kvs):Pairs (optKind P' w') es kvs:=by
 induction h with
 |nil=>exact .nil
 |cons a b _ ih=>exact .cons a b ih
theorem dictO {P P':Program}{w w':World}{h:Heap}{a:Addr}{kvs:List (KO×Value)} (d:h.DictOf (optKind P w) a kvs):h.DictOf (optKind P' w') a kvs:=by
 obtain⟨o,es,ep,h1,h2,h3,h4,h5,h6⟩:=d
 exact⟨o,es,ep,h1,h2,h3,h4,pairsO h5,h6⟩
noncomputable def Ze9 (a:Addr) (kvs:List (KO×V)):Heap->Prop:=λh=>kvs.length<=sizeLine/\(a==sysModules)=false/\∃vs,KV kvs vs/\∀(P:Program) (w:World),h.DictOf (optKind P w) a vs
theorem Zl9 {P:Program}{w:World}{H:Hp}{h:Heap}{a:Addr}{kvs:List (KO×V)}{vs:List (KO×Value)} (z:kvs.length<=sizeLine) (hd:(a==sysModules)=false) (rel:KV kvs vs) (dd:h.DictOf (optKind P w) a vs):ZY P w H h a (.ext (Ze9 a kvs)):=by
 refine⟨⟨z,hd,vs,rel,λ_ _=>dictO dd⟩,?_,λh1 h2 p k=>?_⟩
 ·obtain⟨o,_,_,e,_⟩:=dd
  exact⟨o,e⟩
 ·obtain⟨a1,a2,vs,a3,a4⟩:=p
  refine⟨a1,a2,vs,a3,λP w=>?_⟩
  obtain⟨o,es,ep,e,r⟩:=a4 P w
  exact⟨o,es,ep,k o e,r⟩
section
variable {X:Cx}{pins:List (Addr×Obj)}{σ:St}{H:Hp}{s:Shared}{a:Addr}
theorem Zma {kvs:List (KO×V)} (I:Inv X pins σ H s) (e:H a=some (.ext (Ze9 a kvs))):kvs.length<=sizeLine/\(a==sysModules)=false/\∃vs,KV kvs vs/\s.heap.DictOf (optKind X.prog X.w) a vs:=by
 obtain⟨⟨a1,a2,vs,a3,a4⟩,_⟩:=(show ZY X.prog X.w H s.heap a (.ext (Ze9 a kvs))from I.hok a _ e)
 exact⟨a1,a2,vs,a3,a4 _ _⟩
end
noncomputable def ZsO (td ty:TE):TE:=fun σ H Q=>td σ H λx H1=>ty σ H1 λy H2=>∃a kvs k v,x=.ref a/\H2 a=some (.ext (Ze9 a kvs))/\y=oV k/\Zav kvs k=some v/\Q v H2
noncomputable def ZsP (td ty tv:TE):TS:=λD σ H=>tv σ H λv H1=>td σ H1 λx H2=>ty σ H2 λy H3=>∃a kvs k,x=.ref a/\H3 a=some (.ext (Ze9 a kvs))/\y=oV k/\kvs.length<sizeLine/\D.nx σ (upd H3 a (.ext (Ze9 a (putK kvs k v))))
noncomputable def ZsQ (tk tv:TE):TE:=fun σ H Q=>∀p,H p=none->tk σ (upd H p (.ext (Ze9 p []))) λx H1=>tv σ H1 λy H2=>H2 p=some (.ext (Ze9 p []))/\∃k z,[(x,y)]=[(oV k,z)]/\Q (.ref p) (upd H2 p (.ext (Ze9 p [(k,z)])))
section
variable {X:Cx}{o i e value:Expr}{pos pos' tpos:Pos}{td ty tv tk:TE}
theorem Zhw (ho:PE X o td) (hi:PE X i ty) (hs:NoSl i):PE X (.Subscript o i pos) (ZsO td ty):=by
 intro pins s σ H Q I h
 refine ZpB PySem.F.slot_dict_getitem.lookup hs (thn (ho pins s σ H _ I h) λu s1 ⟨x,H1,I1,rx,q1⟩=>thn (hi pins s1 σ H1 _ I1 q1) λiv s2 ⟨y,H2,I2,ry,a,kvs,k,v,ex,g,ey,l,q2⟩=>?_)
 subst ex ey
 obtain rfl:u=Value.ref a:=rx
 obtain⟨z,hd,vs,rel,dd⟩:=Zma I2 g
 obtain⟨w',hw,rw'⟩:=Zfa.some_of (v:=v) (o:=valueAt vs k) (by rw[<-l];exact rel.val k)
 exact⟨dd.typeIs,wpAny_getItem_of (ZsN ry) dd.mapOf hw ⟨v,H2,I2.tok _,rw',q2⟩⟩
theorem ZsR (ho:PE X o td) (hi:PE X i ty) (hv:PE X value tv) (hs:swapsWith value (some (.Subscript o i pos')) pos.line X.env=pure false) :
  PS X (.Assign [.Subscript o i pos'] value pos) (ZsP td ty tv):=by
 intro pins s σ H D I h
 refine wpAny_Assign_Subscript (thn (hv pins s σ H _ I h) λr s1 ⟨v,H1,I1,rv,q1⟩=>thn (ho pins s1 σ H1 _ I1 q1) λu s2 ⟨x,H2,I2,rx,q2⟩=>thn (hi pins s2 σ H2 _ I2 q2) λiv s3 ⟨y,H3,I3,ry,a,kvs,k,ex,g,ey,hl0,q3⟩=>?_) hs
 subst ex ey
 obtain rfl:u=Value.ref a:=rx
 obtain⟨z,hd,vs,rel,dd⟩:=Zma I3 g
 have hz:vs.length<=sizeLine:=by rw[<-rel.length];exact z
 have hl:(putK kvs k v).length<=sizeLine:=by have:=Zcy kvs k v;omega
 refine wpAny_setItem_pairs (hsz:=hz) (ZsN ry) dd λh' dd' hs=>?_
 have he:∃q,h'.get? a=some q:=let ⟨q,_,_,hq,_⟩:=dd';⟨q,hq⟩
 exact⟨σ,_,Zjk I3 (by rw[g];exact True.intro) hs he (Zl9 hl hd (rel.put k rv) dd'),q3⟩
theorem ZsS {P:Program}{w:World}{H:Hp} (h:Heap) (hb:sysModules<h.objs.size):ZY P w H (h.push {cls:=.type "dict",data:=.dict #[]}) h.objs.size (.ext (Ze9 h.objs.size [])) :=
 Zl9 (vs:=[]) (Ys _) (beq_eq_false_iff_ne.mpr (Ne.symm (Yn hb))) .nil (Heap.DictOf.new h)
theorem ZsT {k v:Expr} (hk:PE X k tk) (hv:PE X v tv):PE X (.Dict [some k] [v] pos) (ZsQ tk tv):=by
 intro pins s σ H Q I q
 have hn:=I.hok.fresh (Yd s.heap.objs.size)
 have I1:=I.laid (a:=s.heap.objs.size) (o:=.ext (Ze9 s.heap.objs.size [])) (h':=s.heap.push {cls:=.type "dict",data:=.dict #[]}) (t':=s.toks) (λ_ _ q=>Yg _ q) (Yd _) (ZsS s.heap I.big)
 have hp:PPs X pos [some k] [v] [(tk,tv)]:=Zsu hk hv ZuU
 refine wpAny_Dict_walk (knd:=optKind X.prog X.w) rfl rfl (by simp) (by show 1<=15;decide) (thn (hp pins _ σ _ (λps H2=>H2 s.heap.objs.size=some (.ext (Ze9 s.heap.objs.size []))/\∃k y,ps=[(oV k,y)]/\Q (.ref s.heap.objs.size) (upd H2 s.heap.objs.size (.ext (Ze9 s.heap.objs.size [(k,y)])))) I1 ?_) λws s2 ⟨ps,H2,I2,rel,e,kk,y,ep,q2⟩=>?_)
 ·have:=q _ hn
  show tk σ _ _
  exact this
 subst ep
 cases rel with
 |@cons a b as bs h t =>
  cases t
  obtain⟨b1,b2⟩:=b
  obtain⟨z,hd,vs0,r0,dd⟩:=Zma I2 e
  cases r0
  refine⟨[(kk,b2)],⟨ZsN h.1,rfl,True.intro⟩,dd,λh' dd' hs=>⟨.ref s.heap.objs.size,_,?_,rfl,q2⟩⟩
  have he:∃q,h'.get? s.heap.objs.size=some q:=let ⟨q,_,_,hq,_⟩:=dd';⟨q,hq⟩
  exact Zjk I2 (by rw[e];exact True.intro) hs he (Zl9 (vs:=[(kk,b2)]) (by show 1<=sizeLine;decide) hd (.cons ⟨rfl,h.2⟩ .nil) dd')
end
end L2
namespace L2
open PySem PySem.Spec PyProof.Rows PySem.W
end L2
namespace HT
open PySem PyProof.Rows
section
open PySem.SeqAt
open PySem.AutoSeq1 (wpAny_loadPart')
open PySem.MeetsSeq PySem.MeetsSeq2 PySem.MeetsSeq3
end
end HT
namespace L2
open PySem PySem.Spec PyProof.Rows PySem.W
end L2
namespace L2
open PySem PySem.Spec PyProof.Rows PySem.W PyProof
end L2
namespace PySem.SeqAt
open PySem Sem
open MeetsSeq PyProof.Rows
end PySem.SeqAt
namespace L2
open PySem PySem.Spec PyProof.Rows PySem.W
section
variable {s:Shared}{prog:Program}{w:World}{A:Around}{E:Value->Shared->Prop}
theorem ZoF {z TI TO i j k a b c:Addr}{n:Nat}{xs ys us:Array Value}{x y u p q r:Value}{Q:Value->Shared->Prop} (D:Apart3 z TI TO i j k a b c)
  (zz:IsZip s.heap z TI TO .none) (tI:Zb8 s.heap TI (.ref i) (.ref j) (.ref k)) (tO:Zb8 s.heap TO p q r)
  (gi:QIt s.heap i a n xs) (gj:QIt s.heap j b n ys) (gk:QIt s.heap k c n us) (ex:xs[n]?=some x) (ey:ys[n]?=some y) (eu:us[n]?=some u)
  (hQ:∀h',IsZip h' z TI TO (rawInt s.heap.objs.size)->Zb8 h' TO x y u->QIt h' i a (n+1) xs->QIt h' j b (n+1) ys->QIt h' k c (n+1) us->Zb8 h' s.heap.objs.size x y u ->
   (∀d o,d≠z->d≠TO->d≠i->d≠j->d≠k->s.heap.get? d=some o->h'.get? d=some o)->Q (.ref s.heap.objs.size) {s with heap:=h'}):wpAny (model prog w) A (Builtin.«zip.__next__» ⟨[.ref z],[]⟩) (λfin s'=>∃v,fin=.done (.ret v)/\Q v s') E s:=by
 obtain⟨⟨zI,zO,zi,zj,zk,IO,Ii,Ij,Ik,Oi,Oj,Ok,ij,ik,jk⟩,⟨az,aO,ai,aj,ak⟩,⟨bz,bO,bi,bj,bk⟩,⟨cz,cO,ci,cj,ck⟩⟩:=D
 refine show wpAny _ _ (field (.ref z) 2 >>= _) _ _ _ from Ya (wpAny_field zz rfl (x:=.bool false) rfl ?_)
 refine show wpAny _ _ (field (.ref z) 3 >>= _) _ _ _ from Ya (wpAny_field zz rfl (x:=.ref TI) rfl ?_)
 refine Ya (wpAny_seqItems tI rfl ?_)
 refine show wpAny _ _ (Builtin.SmallTypes.ownedTupleIsFree (.ref z) >>= _) _ _ _ from Ya ?_
 delta Builtin.SmallTypes.ownedTupleIsFree
 refine Ya (wpAny_field zz rfl (x:=.none) rfl (Ye ?_))
 simp only[if_true]
 refine Ya <| wpAny_rule ?_
 refine Ya (wpAny_field zz rfl (x:=.ref TO) rfl ?_)
 refine Ya (wpAny_setField_rec zz (by simp) λh1 z1 s1=>?_)
 replace z1:IsZip h1 z TI TO .ellipsis:=z1
 refine Ya ?_
 simp only[List.forIn_cons,List.forIn_nil,List.zipIdx_cons,List.zipIdx_nil]
 refine Ya <| Ya <| wpAny_onRaise ?_
 show wpAny _ _ (Builtin.SmallTypes.nextOf (.ref i) >>= _) _ _ _
 refine Ya (ZR (gi.ext s1.extBut zi.symm az) ai ex λh2 i2 s2=>Ye ?_)
 have o2:Zb8 h2 TO p q r:=s2.extBut _ _ Oi (s1.extBut _ _ zO.symm tO)
 refine Ya (wpAny_seqItems o2 rfl ?_)
 refine Ya (Zfs o2 λh3 o3 s3=>?_)
 replace o3:Zb8 h3 TO x q r:=o3
 refine Ya <| wpAny_letGo <| Ye ?_
 refine Ya <| Ya <| wpAny_onRaise ?_
 show wpAny _ _ (Builtin.SmallTypes.nextOf (.ref j) >>= _) _ _ _
 refine Ya (ZR (((gj.ext s1.extBut zj.symm bz).ext s2.extBut ij.symm bi).ext s3.extBut Oj.symm bO) bj ey λh4 j4 s4=>Ye ?_)
 have o4:Zb8 h4 TO x q r:=s4.extBut _ _ Oj o3
 refine Ya (wpAny_seqItems o4 rfl ?_)
 refine Ya (Zfs o4 λh5 o5 s5=>?_)
 replace o5:Zb8 h5 TO x y r:=o5
 refine Ya <| wpAny_letGo <| Ye ?_
 refine Ya <| Ya <| wpAny_onRaise ?_
 show wpAny _ _ (Builtin.SmallTypes.nextOf (.ref k) >>= _) _ _ _
 refine Ya (ZR (((((gk.ext s1.extBut zk.symm cz).ext s2.extBut ik.symm ci).ext s3.extBut Ok.symm cO).ext s4.extBut jk.symm cj).ext s5.extBut Ok.symm cO) ck eu λh6 k6 s6=>Ye ?_)
 have o6:Zb8 h6 TO x y r:=s6.extBut _ _ Ok o5
 refine Ya (wpAny_seqItems o6 rfl ?_)
 refine Ya (Zfs o6 λh7 o7 s7=>?_)
 replace o7:Zb8 h7 TO x y u:=o7
 refine Ya <| wpAny_letGo <| Ye <| Ye ?_
 refine Ya (wpAny_seqItems o7 rfl ?_)
 refine Ya <| wpAny_newTuple ?_
 have size:h7.objs.size=s.heap.objs.size:=by rw[s7.1,s6.1,s5.1,s4.1,s3.1,s2.1,s1.1]
 have z7:IsZip h7 z TI TO .ellipsis:=s7.extBut _ _ zO (s6.extBut _ _ zk (s5.extBut _ _ zO (s4.extBut _ _ zj (s3.extBut _ _ zO (s2.extBut _ _ zi z1)))))
 have keep:∀d o,d≠z->d≠TO->d≠i->d≠j->d≠k->s.heap.get? d=some o->h7.get? d=some o:=λd o d1 d2 d3 d4 d5 e =>
  s7.extBut _ _ d2 (s6.extBut _ _ d5 (s5.extBut _ _ d2 (s4.extBut _ _ d4 (s3.extBut _ _ d2 (s2.extBut _ _ d3 (s1.extBut _ _ d1 e))))))
 have i7:QIt h7 i a (n+1) xs:=((((i2.ext s3.extBut Oi.symm aO).ext s4.extBut ij aj).ext s5.extBut Oi.symm aO).ext s6.extBut ik ak).ext s7.extBut Oi.symm aO
 have j7:QIt h7 j b (n+1) ys:=((j4.ext s5.extBut Oj.symm bO).ext s6.extBut jk bk).ext s7.extBut Oj.symm bO
 have k7:QIt h7 k c (n+1) us:=k6.ext s7.extBut Ok.symm cO
 have zlt:z<h7.objs.size:=Yj z7
 show wpAny _ _ (Builtin.SmallTypes.ownedTupleHandOut (.ref z) (.ref h7.objs.size) >>= _) _ _ _
 refine Ya ?_
 delta Builtin.SmallTypes.ownedTupleHandOut
 have z8:IsZip (h7.push {cls:=.type "tuple",data:=.seq #[x,y,u]}) z TI TO .ellipsis:=Yg _ z7
 refine Ya (wpAny_setField_rec z8 (by simp) λh9 z9 s9=>?_)
 replace z9:IsZip h9 z TI TO (rawInt h7.objs.size):=z9
 refine wpAny_setField_rec z9 (by simp) λh10 z10 s10=>?_
 replace z10:IsZip h10 z TI TO (rawInt h7.objs.size):=z10
 have up:∀d o,d≠z->h7.get? d=some o->h10.get? d=some o:=λd o d1 e=>s10.extBut _ _ d1 (s9.extBut _ _ d1 (Yg _ e))
 have t10:Zb8 h10 h7.objs.size x y u:=s10.extBut _ _ (Nat.ne_of_gt zlt) (s9.extBut _ _ (Nat.ne_of_gt zlt) (Yk _ rfl))
 rw[size]at z10 t10
 refine Ye ⟨.ref h7.objs.size,rfl,?_⟩
 show Q (.ref h7.objs.size) _
 rw[size]
 exact hQ h10 z10 (up _ _ zO.symm o7) (i7.at (λo e=>up _ o zi.symm e) λo e=>up _ o az e) (j7.at (λo e=>up _ o zj.symm e) λo e=>up _ o bz e) (k7.at (λo e=>up _ o zk.symm e) λo e=>up _ o cz e) t10 λd o d1 d2 d3 d4 d5 e=>up d o d1 (keep d o d1 d2 d3 d4 d5 e)
theorem ZqG {z TI TO i j k a b c:Addr}{n:Nat}{xs ys us:Array Value}{p q r:Value}{Q:Fin->Shared->Prop} (hh:A.handled=none) (D:Apart3 z TI TO i j k a b c)
  (zz:IsZip s.heap z TI TO .none) (tI:Zb8 s.heap TI (.ref i) (.ref j) (.ref k)) (tO:Zb8 s.heap TO p q r)
  (gi:QIt s.heap i a n xs) (gj:QIt s.heap j b n ys) (gk:QIt s.heap k c n us) (no:xs[n]?=none\/ys[n]?=none\/us[n]?=none)
  (hE:∀h' e,(∀d o,d≠z->d≠TO->d≠i->d≠j->d≠k->s.heap.get? d=some o->h'.get? d=some o)->(∃o,h'.get? e=some o/\o.cls=.type "StopIteration")->E (.ref e) {s with heap:=h'}):wpAny (model prog w) A (Builtin.«zip.__next__» ⟨[.ref z],[]⟩) Q E s:=by
 obtain⟨⟨zI,zO,zi,zj,zk,IO,Ii,Ij,Ik,Oi,Oj,Ok,ij,ik,jk⟩,⟨az,aO,ai,aj,ak⟩,⟨bz,bO,bi,bj,bk⟩,⟨cz,cO,ci,cj,ck⟩⟩:=D
 refine show wpAny _ _ (field (.ref z) 2 >>= _) _ _ _ from Ya (wpAny_field zz rfl (x:=.bool false) rfl ?_)
 refine show wpAny _ _ (field (.ref z) 3 >>= _) _ _ _ from Ya (wpAny_field zz rfl (x:=.ref TI) rfl ?_)
 refine Ya (wpAny_seqItems tI rfl ?_)
 refine show wpAny _ _ (Builtin.SmallTypes.ownedTupleIsFree (.ref z) >>= _) _ _ _ from Ya ?_
 delta Builtin.SmallTypes.ownedTupleIsFree
 refine Ya (wpAny_field zz rfl (x:=.none) rfl (Ye ?_))
 simp only[if_true]
 refine Ya <| wpAny_rule ?_
 refine Ya (wpAny_field zz rfl (x:=.ref TO) rfl ?_)
 refine Ya (wpAny_setField_rec zz (by simp) λh1 z1 s1=>?_)
 replace z1:IsZip h1 z TI TO .ellipsis:=z1
 refine Ya ?_
 simp only[List.forIn_cons,List.forIn_nil,List.zipIdx_cons,List.zipIdx_nil]
 refine Ya <| Ya <| wpAny_onRaise ?_
 show wpAny _ _ (Builtin.SmallTypes.nextOf (.ref i) >>= _) _ _ _
 rcases ex:xs[n]? with _|x
 ·refine Ya (Za9 hh (gi.ext s1.extBut zi.symm az) ex λh2 e s2 ⟨oe,he,ce⟩=>?_)
  have z2:IsZip h2 z TI TO .ellipsis:=s2 _ _ zi z1
  have ez:e≠z:=λy=>by subst y;rw[z2]at he;cases he;simp at ce
  exact wpAny_setField_rec z2 (by simp) λh3 _ s3=>hE h3 e (λd o d1 _ d3 _ _ y=>s3.extBut _ _ d1 (s2 _ _ d3 (s1.extBut _ _ d1 y))) ⟨oe,s3.extBut _ _ ez he,ce⟩
 refine Ya (ZR (gi.ext s1.extBut zi.symm az) ai ex λh2 i2 s2=>Ye ?_)
 have o2:Zb8 h2 TO p q r:=s2.extBut _ _ Oi (s1.extBut _ _ zO.symm tO)
 refine Ya (wpAny_seqItems o2 rfl ?_)
 refine Ya (Zfs o2 λh3 o3 s3=>?_)
 replace o3:Zb8 h3 TO x q r:=o3
 refine Ya <| wpAny_letGo <| Ye ?_
 refine Ya <| Ya <| wpAny_onRaise ?_
 show wpAny _ _ (Builtin.SmallTypes.nextOf (.ref j) >>= _) _ _ _
 have gj3:=((gj.ext s1.extBut zj.symm bz).ext s2.extBut ij.symm bi).ext s3.extBut Oj.symm bO
 have z3:IsZip h3 z TI TO .ellipsis:=s3.extBut _ _ zO (s2.extBut _ _ zi z1)
 have k3:∀d o,d≠z->d≠TO->d≠i->s.heap.get? d=some o->h3.get? d=some o:=λd o d1 d2 d3 y=>s3.extBut _ _ d2 (s2.extBut _ _ d3 (s1.extBut _ _ d1 y))
 rcases ey:ys[n]? with _|y
 ·refine Ya (Za9 hh gj3 ey λh4 e s4 ⟨oe,he,ce⟩=>?_)
  have z4:IsZip h4 z TI TO .ellipsis:=s4 _ _ zj z3
  have ez:e≠z:=λy=>by subst y;rw[z4]at he;cases he;simp at ce
  exact wpAny_setField_rec z4 (by simp) λh5 _ s5=>hE h5 e (λd o d1 d2 d3 d4 _ y=>s5.extBut _ _ d1 (s4 _ _ d4 (k3 d o d1 d2 d3 y))) ⟨oe,s5.extBut _ _ ez he,ce⟩
 refine Ya (ZR gj3 bj ey λh4 j4 s4=>Ye ?_)
 have o4:Zb8 h4 TO x q r:=s4.extBut _ _ Oj o3
 refine Ya (wpAny_seqItems o4 rfl ?_)
 refine Ya (Zfs o4 λh5 o5 s5=>?_)
 refine Ya <| wpAny_letGo <| Ye ?_
 refine Ya <| Ya <| wpAny_onRaise ?_
 show wpAny _ _ (Builtin.SmallTypes.nextOf (.ref k) >>= _) _ _ _
 have eu:us[n]?=none:=by
  rcases no with h|h|h
  ·rw[ex]at h;cases h
  ·rw[ey]at h;cases h
  ·exact h
 refine Ya (Za9 hh (((((gk.ext s1.extBut zk.symm cz).ext s2.extBut ik.symm ci).ext s3.extBut Ok.symm cO).ext s4.extBut jk.symm cj).ext s5.extBut Ok.symm cO) eu λh6 e s6 ⟨oe,he,ce⟩=>?_)
 have z6:IsZip h6 z TI TO .ellipsis:=s6 _ _ zk (s5.extBut _ _ zO (s4.extBut _ _ zj z3))
 have ez:e≠z:=λy=>by subst y;rw[z6]at he;cases he;simp at ce
 exact wpAny_setField_rec z6 (by simp) λh7 _ s7=>hE h7 e (λd o d1 d2 d3 d4 d5 y=>s7.extBut _ _ d1 (s6 _ _ d5 (s5.extBut _ _ d2 (s4.extBut _ _ d4 (k3 d o d1 d2 d3 y))))) ⟨oe,s7.extBut _ _ ez he,ce⟩
theorem ZoG {z TI TO i j k a b c:Addr}{n:Nat}{xs ys us:Array Value}{x y u p q r:Value}{Q:Option Value->Shared->Prop} (D:Apart3 z TI TO i j k a b c)
  (zz:IsZip s.heap z TI TO .none) (tI:Zb8 s.heap TI (.ref i) (.ref j) (.ref k)) (tO:Zb8 s.heap TO p q r)
  (gi:QIt s.heap i a n xs) (gj:QIt s.heap j b n ys) (gk:QIt s.heap k c n us) (ex:xs[n]?=some x) (ey:ys[n]?=some y) (eu:us[n]?=some u)
  (hQ:∀h',IsZip h' z TI TO (rawInt s.heap.objs.size)->Zb8 h' TO x y u->QIt h' i a (n+1) xs->QIt h' j b (n+1) ys->QIt h' k c (n+1) us->Zb8 h' s.heap.objs.size x y u ->
   (∀d o,d≠z->d≠TO->d≠i->d≠j->d≠k->s.heap.get? d=some o->h'.get? d=some o)->Q (some (.ref s.heap.objs.size)) {s with heap:=h'}):wpAny (model prog w) A (pyNext (.ref z)) Q E s:=by
 have ty:s.TypeIs (.ref z) "zip":=⟨_,zz,rfl⟩
 delta pyNext
 exact Ya (wpAny_attempt (wpAny_callSpecial?_slot (name:=Str.ofString "__next__") ty F.slot_zip_next (wpAny_call_entry F.slot_zip_next ty F.entry_zip_next
  (ZoF D zz tI tO gi gj gk ex ey eu λh' a1 a2 a3 a4 a5 a6 a7=>Ye (hQ h' a1 a2 a3 a4 a5 a6 a7)) (F.args_zip_next_1 _))))
theorem ZoH {z TI TO i j k a b c:Addr}{n:Nat}{xs ys us:Array Value}{p q r:Value}{Q:Option Value->Shared->Prop} (hh:A.handled=none) (D:Apart3 z TI TO i j k a b c)
  (zz:IsZip s.heap z TI TO .none) (tI:Zb8 s.heap TI (.ref i) (.ref j) (.ref k)) (tO:Zb8 s.heap TO p q r)
  (gi:QIt s.heap i a n xs) (gj:QIt s.heap j b n ys) (gk:QIt s.heap k c n us) (no:xs[n]?=none\/ys[n]?=none\/us[n]?=none)
  (hQ:∀h',(∀d o,d≠z->d≠TO->d≠i->d≠j->d≠k->s.heap.get? d=some o->h'.get? d=some o)->Q none {s with heap:=h'}):wpAny (model prog w) A (pyNext (.ref z)) Q E s:=by
 have ty:s.TypeIs (.ref z) "zip":=⟨_,zz,rfl⟩
 delta pyNext
 refine Ya (wpAny_attempt (wpAny_callSpecial?_slot (name:=Str.ofString "__next__") ty F.slot_zip_next (wpAny_call_entry F.slot_zip_next ty F.entry_zip_next
  (ZqG hh D zz tI tO gi gj gk no λh' e hk ⟨o,ho,hc⟩=>?_) (F.args_zip_next_1 _))))
 exact Ya (wpAny_isInstance (T:="StopIteration") (b:=true) ⟨o,ho,hc⟩ isSubtype_stop (Ye (hQ _ hk)))
end
noncomputable abbrev yA (h:Heap) (a:Addr):Heap:=h.push {cls:=.type (Zbs h a),data:=.fields #[.ref a,.int 0 0]}
noncomputable abbrev yB (h:Heap) (a b:Addr):Heap:=(yA h a).push {cls:=.type (Zbs (yA h a) b),data:=.fields #[.ref b,.int 0 0]}
noncomputable abbrev yC (h:Heap) (a b c:Addr):Heap:=(yB h a b).push {cls:=.type (Zbs (yB h a b) c),data:=.fields #[.ref c,.int 0 0]}
noncomputable abbrev yD (h:Heap) (a b c:Addr):Heap:=(yC h a b c).push {cls:=.type "tuple",data:=.seq #[.ref h.objs.size,.ref (yA h a).objs.size,.ref (yB h a b).objs.size]}
noncomputable abbrev yE (h:Heap) (a b c:Addr):Heap:=(yD h a b c).push {cls:=.type "tuple",data:=.seq #[.none,.none,.none]}
noncomputable abbrev yF (h:Heap) (a b c:Addr):Heap:=(yE h a b c).push {cls:=.type "zip",data:=.fields #[.none,.bool false,.bool false,.ref (yC h a b c).objs.size,.ref (yD h a b c).objs.size]}
theorem ZqH (a b c:Addr) (xs ys us:Array Value) :
  Meets (Builtin.«zip.__new__» ⟨[.type "zip",.ref a,.ref b,.ref c],[]⟩) (λ_ R s=>SqH s.heap a xs/\SqH s.heap b ys/\SqH s.heap c us /\
   R (.ok (.ret (.ref (yE s.heap a b c).objs.size))) {s with heap:=yF s.heap a b c}) :=
 .of_wp λpg wd A R s h=>by
  obtain⟨hp,gs,dn,tk,os⟩:=s
  obtain⟨la,lb,lc,h⟩:=h
  have hsub:=sub_zip
  have A1:SqH (Shared.heap ⟨hp,gs,dn,tk,os⟩) a xs:=la
  have B1:SqH (Shared.heap ⟨yA hp a,gs,dn,tk,os⟩) b ys:=SqH.push lb _
  have C1:SqH (Shared.heap ⟨yB hp a b,gs,dn,tk,os⟩) c us:=SqH.push (SqH.push lc _) _
  wp_walk using Zm5 A1,Zm5 B1,Zm5 C1
  exact⟨_,rfl,h⟩
section
variable {s:Shared}{prog:Program}{w:World}{A:Around}{E:Value->Shared->Prop}
theorem ZoI {a b c:Addr}{xs ys us:Array Value}{Q:Value->Shared->Prop} (la:SqH s.heap a xs) (lb:SqH s.heap b ys) (lc:SqH s.heap c us)
  (h:∀h',IsZip h' (s.heap.objs.size+5) (s.heap.objs.size+3) (s.heap.objs.size+4) .none->Zb8 h' (s.heap.objs.size+3) (.ref s.heap.objs.size) (.ref (s.heap.objs.size+1)) (.ref (s.heap.objs.size+2)) ->
   Zb8 h' (s.heap.objs.size+4) .none .none .none->QIt h' s.heap.objs.size a 0 xs->QIt h' (s.heap.objs.size+1) b 0 ys->QIt h' (s.heap.objs.size+2) c 0 us ->
   (∀d o,s.heap.get? d=some o->h'.get? d=some o)->Q (.ref (s.heap.objs.size+5)) {s with heap:=h'}) :
  wpAny (model prog w) A (call (.type "zip") [.ref a,.ref b,.ref c]) Q E s:=by
 refine callType_new F.called_zip (by decide) (ZuW _ _ _) (ZuX _ _ _) (λobj=>ZuY obj _ _ _) F.entry_zip_new (ZqH a b c xs ys us) ⟨la,lb,lc,?_⟩
 have n1:(yA s.heap a).objs.size=s.heap.objs.size+1:=Heap.size_push ..
 have n2:(yB s.heap a b).objs.size=s.heap.objs.size+2:=by rw[Heap.size_push,n1]
 have n3:(yC s.heap a b c).objs.size=s.heap.objs.size+3:=by rw[Heap.size_push,n2]
 have n4:(yD s.heap a b c).objs.size=s.heap.objs.size+4:=by rw[Heap.size_push,n3]
 have n5:(yE s.heap a b c).objs.size=s.heap.objs.size+5:=by rw[Heap.size_push,n4]
 have up:∀(h:Heap) (o':Obj) d o,h.get? d=some o->(h.push o').get? d=some o:=λ_ _ _ _ e=>Yg _ e
 have g6:(yF s.heap a b c).get? (yE s.heap a b c).objs.size=some _:=Yk _ rfl
 have g5:(yF s.heap a b c).get? (yD s.heap a b c).objs.size=some _:=up _ _ _ _ (Yk _ rfl)
 have g4:(yF s.heap a b c).get? (yC s.heap a b c).objs.size=some _:=up _ _ _ _ (up _ _ _ _ (Yk _ rfl))
 have g3:(yF s.heap a b c).get? (yB s.heap a b).objs.size=some _:=up _ _ _ _ (up _ _ _ _ (up _ _ _ _ (Yk _ rfl)))
 have g2:(yF s.heap a b c).get? (yA s.heap a).objs.size=some _:=up _ _ _ _ (up _ _ _ _ (up _ _ _ _ (up _ _ _ _ (Yk _ rfl))))
 have g1:(yF s.heap a b c).get? s.heap.objs.size=some _:=up _ _ _ _ (up _ _ _ _ (up _ _ _ _ (up _ _ _ _ (up _ _ _ _ (Yk _ rfl)))))
 have upC:∀d o,(yC s.heap a b c).get? d=some o->(yF s.heap a b c).get? d=some o:=λd o e=>up _ _ _ _ (up _ _ _ _ (up _ _ _ _ e))
 have upB:∀d o,(yB s.heap a b).get? d=some o->(yF s.heap a b c).get? d=some o:=λd o e=>upC d o (up _ _ _ _ e)
 have upA:∀d o,(yA s.heap a).get? d=some o->(yF s.heap a b c).get? d=some o:=λd o e=>upB d o (up _ _ _ _ e)
 have up0:∀d o,s.heap.get? d=some o->(yF s.heap a b c).get? d=some o:=λd o e=>upA d o (up _ _ _ _ e)
 have r1:=itQ la g1 λo e=>up0 _ o e
 have r2:=itQ (lb.push _) g2 λo e=>upA _ o e
 have r3:=itQ ((lc.push _).push _) g3 λo e=>upB _ o e
 show _/\_
 rw[n3,n4,n5]at g6
 rw[n1,n2,n3]at g4
 rw[n4]at g5
 rw[n2]at r3
 rw[n1]at r2
 rw[n5]
 exact⟨⟨_,g6,rfl⟩,h _ g6 g4 g5 r1 r2 r3 up0⟩
end
noncomputable def Itz3q (K : Frag) (t1 t2 t3 : Bool) (a b c : Addr) : It :=
  ⟨fun i H => ∃ xs ys us x y u, SqB K t1 H a xs ∧ SqB K t2 H b ys ∧ SqB K t3 H c us ∧ xs[i]? = some x ∧ ys[i]? = some y ∧ us[i]? = some u,
   fun i H v H' => ∃ p x y u, H p = none ∧ v = .ref p ∧ H' = upd H p (.tup [x, y, u]) ∧ (∀ xs, SqB K t1 H a xs → xs[i]? = some x) ∧ (∀ ys, SqB K t2 H b ys → ys[i]? = some y) ∧ ∀ us, SqB K t3 H c us → us[i]? = some u,
   fun i H => ∃ xs ys us, SqB K t1 H a xs ∧ SqB K t2 H b ys ∧ SqB K t3 H c us ∧ (xs.length ≤ i ∨ ys.length ≤ i ∨ us.length ≤ i)⟩
theorem ZoJ {P:Program}{w:World}{K:Frag}{elts:List Expr} {x1}{pos:Pos}{t1 t2 t3:Bool}{a b c z TI TO i1 i2 i3:Addr} (D:Apart3 z TI TO i1 i2 i3 a b c) :
  Turn P w K (.Tuple elts x1 pos) (Itz3q K t1 t2 t3 a b c) [z,TI,TO,i1,i2,i3] z (λi h=>IsZip h z TI TO .none/\Zb8 h TI (.ref i1) (.ref i2) (.ref i3)/\(∃u v t,Zb8 h TO u v t)/\ItB t1 h i1 a i/\ItB t2 h i2 b i/\ItB t3 h i3 c i) where
 mem:=by simp
 obj:=λi h st d hd=>by
  obtain⟨q1,q2,⟨u,v,t,q3⟩,q4,q5,q6⟩:=st
  simp at hd
  rcases hd with rfl|rfl|rfl|rfl|rfl|rfl
  ·exact⟨_,q1,λv z=>by cases z⟩
  ·exact⟨_,q2,λv z=>by cases z⟩
  ·exact⟨_,q3,λv z=>by cases z⟩
  ·obtain⟨o,ho,v,d⟩:=q4.obj;exact⟨_,ho,λv z=>by rw[d]at z;cases z⟩
  ·obtain⟨o,ho,v,d⟩:=q5.obj;exact⟨_,ho,λv z=>by rw[d]at z;cases z⟩
  ·obtain⟨o,ho,v,d⟩:=q6.obj;exact⟨_,ho,λv z=>by rw[d]at z;cases z⟩
 keep:=λi h h' st k=>by
  obtain⟨q1,q2,⟨u,v,t,q3⟩,q4,q5,q6⟩:=st
  exact⟨k z (by simp) _ q1,k TI (by simp) _ q2,⟨u,v,t,k TO (by simp) _ q3⟩,q4.keep λo e=>k i1 (by simp) o e,q5.keep λo e=>k i2 (by simp) o e,q6.keep λo e=>k i3 (by simp) o e⟩
 item:=by
  intro X hP hw hK hc i pins s σ H E I hf st hg
  subst hP hw hK
  obtain⟨xs,ys,us,x,y,u,qa,qb,qc,hx,hy,hu⟩:=hg
  obtain⟨q1,q2,⟨u0,v0,t0,q3⟩,q4,q5,q6⟩:=st
  obtain⟨is1,r1,p1,w1⟩:=I.sqb qa
  obtain⟨is2,r2,p2,w2⟩:=I.sqb qb
  obtain⟨is3,r3,p3,w3⟩:=I.sqb qc
  obtain⟨vx,gx,rx⟩:=r1.get hx
  obtain⟨vy,gy,ry⟩:=r2.get hy
  obtain⟨vu,gu,ru⟩:=r3.get hu
  refine ZoG D q1 q2 q3 (w1 _ _ q4) (w2 _ _ q5) (w3 _ _ q6) (x:=vx) (y:=vy) (u:=vu) (by simpa using gx) (by simpa using gy) (by simpa using gu) λh' a1 a2 a3 a4 a5 a6 a7=>?_
  refine⟨_,rfl,?_⟩
  refine wpAny_letOwnedTupleGo_zip (s:={s with heap:=h'}) a1 λh2 b1 b2=>?_
  have hfr:H s.heap.objs.size=none:=I.hok.fresh (Yd _)
  have I1:Inv X pins σ (upd H s.heap.objs.size (.tup [x,y,u])) {s with heap:=s.heap.push {cls:=.type "tuple",data:=.seq #[vx,vy,vu]}}:=by
   refine I.laid (t':=s.toks) (λb u e=>Yg _ e) (Yd _) ?_
   exact⟨by show 3<=sizeLine;decide,[vx,vy,vu],.cons rx (.cons ry (.cons ru .nil)),⟨_,Yk _ rfl,rfl,_,rfl⟩⟩
  have nz:∀d∈[z,TI,TO,i1,i2,i3],d≠s.heap.objs.size:=λd hd e=>by
   have:∃o,s.heap.get? d=some o:=by
    simp at hd
    rcases hd with rfl|rfl|rfl|rfl|rfl|rfl
    ·exact⟨_,q1⟩
    ·exact⟨_,q2⟩
    ·exact⟨_,q3⟩
    ·obtain⟨o,q,_⟩:=q4.obj;exact⟨o,q⟩
    ·obtain⟨o,q,_⟩:=q5.obj;exact⟨o,q⟩
    ·obtain⟨o,q,_⟩:=q6.obj;exact⟨o,q⟩
   obtain⟨o,q⟩:=this
   exact absurd (Yj q) (by rw[e];exact YA _)
  have hf1:∀d∈[z,TI,TO,i1,i2,i3],FpOk X pins (upd H s.heap.objs.size (.tup [x,y,u])) d:=λd hd=>by
   obtain⟨f0,f1,f2,f3,f4,f5⟩:=hf d hd
   exact⟨by rw[Zh (nz d hd)];exact f0,f1,f2,f3,f4,f5⟩
  obtain⟨⟨zI,zO,zi,zj,zk,IO,Ii,Ij,Ik,Oi,Oj,Ok,ij,ik,jk⟩,⟨az,aO,ai,aj,ak⟩,⟨bz,bO,bi,bj,bk⟩,⟨cz,cO,ci,cj,ck⟩⟩:=D
  have I2:Inv X pins σ (upd H s.heap.objs.size (.tup [x,y,u])) {s with heap:=h2}:=by
   refine Inv.Zds (s:={s with heap:=s.heap.push {cls:=.type "tuple",data:=.seq #[vx,vy,vu]}}) (t':=s.toks) (fp:=[z,TI,TO,i1,i2,i3]) I1 (λd o hd e=>?_) hf1
   simp only[Yl,List.not_mem_nil,or_false,not_or]at hd
   obtain⟨c1,c2,c3,c4,c5,c6⟩:=hd
   refine b2.extBut _ _ c1 ?_
   by_cases hs:d=s.heap.objs.size
   ·subst hs
    have e':(s.heap.push {cls:=.type "tuple",data:=.seq #[vx,vy,vu]}).get? s.heap.objs.size=some _:=Yk _ rfl
    have ee:o={cls:=.type "tuple",data:=.seq #[vx,vy,vu]}:=Yz (e.symm.trans e')
    rw[ee];exact a6
   ·have:s.heap.get? d=some o:=by
     rcases Heap.get?_push_cases e with⟨q,_⟩|q
     ·exact absurd q hs
     ·exact q
    exact a7 d o c1 c3 c4 c5 c6 this
  refine⟨.ref s.heap.objs.size,_,I2,rfl,⟨_,x,y,u,hfr,rfl,rfl,λxs' q'=>?_,λys' q'=>?_,λus' q'=>?_⟩,⟨b1,?_,⟨vx,vy,vu,?_⟩,?_,?_,?_⟩,λd hd=>(hf1 d hd).1⟩
  ·rw[I.ZeC q' qa];exact hx
  ·rw[I.ZeC q' qb];exact hy
  ·rw[I.ZeC q' qc];exact hu
  ·exact b2.extBut _ _ zI.symm (a7 _ _ zI.symm IO Ii Ij Ik q2)
  ·exact b2.extBut _ _ zO.symm a2
  ·exact(I.itb qa (λo e=>a7 a o az aO ai aj ak e) a3).keep λo e=>b2.extBut _ _ zi.symm e
  ·exact(I.itb qb (λo e=>a7 b o bz bO bi bj bk e) a4).keep λo e=>b2.extBut _ _ zj.symm e
  ·exact(I.itb qc (λo e=>a7 c o cz cO ci cj ck e) a5).keep λo e=>b2.extBut _ _ zk.symm e
 done:=by
  intro X hP hw hK hc i pins s σ H E I hf st hg
  subst hP hw hK
  obtain⟨xs,ys,us,qa,qb,qc,hx⟩:=hg
  obtain⟨q1,q2,⟨u0,v0,t0,q3⟩,q4,q5,q6⟩:=st
  obtain⟨is1,r1,p1,w1⟩:=I.sqb qa
  obtain⟨is2,r2,p2,w2⟩:=I.sqb qb
  obtain⟨is3,r3,p3,w3⟩:=I.sqb qc
  refine ZoH (I.ok.hd hc) D q1 q2 q3 (w1 _ _ q4) (w2 _ _ q5) (w3 _ _ q6) ?_ λh' k=>⟨rfl,I.Zds (t':=s.toks) (fp:=[z,TI,TO,i1,i2,i3]) (λd o hd e=>?_) hf⟩
  ·rcases hx with hx|hx|hx
   ·left;simp;rw[<-r1.length];exact hx
   ·right;left;simp;rw[<-r2.length];exact hx
   ·right;right;simp;rw[<-r3.length];exact hx
  ·simp only[Yl,List.not_mem_nil,or_false,not_or]at hd
   obtain⟨c1,c2,c3,c4,c5,c6⟩:=hd
   exact k d o c1 c3 c4 c5 c6 e
 self:=λ_ _ _ _ _ st h=>wpAny_pyIter_zip st.1 h
section
variable {X:Cx}
noncomputable def ZsU (K:Frag) (ta:TA):TI:=fun σ H R=>ta σ H λvs H1=>∃a b c t1 t2 t3 xs ys us,vs=[.ref a,.ref b,.ref c]/\SqB K t1 H1 a xs/\SqB K t2 H1 b ys/\SqB K t3 H1 c us/\R (Itz3q K t1 t2 t3 a b c) H1
theorem ZsV {K:Frag}{elts:List Expr} {x1}{tp:Pos}{e1 e2 e3:Expr}{ta:TA}{p pos:Pos} (hK:X.K=K) (hg:Gl X "zip") (hm:X.mg "zip"=none) (ha:PA X [e1,e2,e3] ta) (he:starEach [e1,e2,e3] X.env=(false,eval e1 X.env)::starEach [e2,e3] X.env:=by rfl) (hpl:(backTo pos (starEach [e2,e3] X.env)).any (·.1)=false:=by rfl) :
  PI X (.Tuple elts x1 tp) (.Call (.Name "zip" p) [e1,e2,e3] [] pos) (ZsU K ta):=by
 subst hK
 intro pins s σ H R I h
 refine wpAny_Call_Name_kw (Zbp I hg hm Zh0 ?_)
 refine PyProof.Rows.callWith_type1 (thn (ha pos pins s σ H _ I h) λus s1 ⟨vs,H1,I1,r1,a,b,c,t1,t2,t3,xs,ys,zs,e1,qa,qb,qc,q⟩=>?_) he hpl
 subst e1
 obtain⟨u,v,t,rfl,ru,rv,rt⟩:=Zoy r1
 cases(show u=Value.ref a from ru)
 cases(show v=Value.ref b from rv)
 cases(show t=Value.ref c from rt)
 obtain⟨is1,rr1,p1,_⟩:=I1.sqb qa
 obtain⟨is2,rr2,p2,_⟩:=I1.sqb qb
 obtain⟨is3,rr3,p3,_⟩:=I1.sqb qc
 refine ZoI p1 p2 p3 λh' c1 c2 c3 c4 c5 c6 c7=>?_
 refine wpAny_pyIter_zip c1 ?_
 have l1:a<s1.heap.objs.size:=by obtain⟨o,e⟩:=p1.obj;exact Yj e
 have l2:b<s1.heap.objs.size:=by obtain⟨o,e⟩:=p2.obj;exact Yj e
 have l3:c<s1.heap.objs.size:=by obtain⟨o,e⟩:=p3.obj;exact Yj e
 have sm:∀b,s1.heap.objs.size<=b->FpOk X pins H1 b:=λb hb=>I1.Zjw hb (I1.hok.fresh hb)
 refine⟨_,[s1.heap.objs.size+5,s1.heap.objs.size+3,s1.heap.objs.size+4,s1.heap.objs.size,s1.heap.objs.size+1,s1.heap.objs.size+2],_,_,H1,rfl,I1.kept (t':=s1.toks) c7,ZoJ (t1:=t1) (t2:=t2) (t3:=t3) (a:=a) (b:=b) (c:=c) ?_,⟨c1,c2,⟨_,_,_,c3⟩,I1.itb qa (λo e=>c7 _ o e) c4,I1.itb qb (λo e=>c7 _ o e) c5,I1.itb qc (λo e=>c7 _ o e) c6⟩,λd hd=>?_,q⟩
 ·exact apart3 _ _ _ _ l1 l2 l3
 ·simp at hd
  rcases hd with rfl|rfl|rfl|rfl|rfl|rfl<;>exact sm _ (by omega)
end
theorem ZoK {prog:Program}{w:World}{A:Around}{E Q:Value->Shared->Prop}{s:Shared}{l:Addr}{xs:Array (Int×Tok)} (hA:A.handled=none) (hl:s.heap.IsTuple l (intItems xs)) (hne:0<xs.size)
  (h:∀v h' tk,(intItems xs)[argBest (λi j=>decide (numAt xs i>numAt xs j)) (xs.size-1)]?=some v->(∀b o,s.heap.get? b=some o->h'.get? b=some o)->Q v {s with heap:=h',toks:=tk}) :
  wpAny (model prog w) A (call (.builtin "max") [.ref l]) Q E s:=by
 have hlt:l<s.heap.objs.size:=by obtain⟨o,e,_⟩:=hl;exact Yj e
 refine call_max_walk (wpAny_pyIter_tuple hl ?_)
 refine⟨_,_,_,_,_,_,_,rfl,Walks.tuple (A:=A.in1) hA s.heap.objs.size l (Yn hlt) (intItems xs),⟨⟨_,Yk _ rfl,rfl,rfl⟩,hl.push _⟩,λb hb=>?_,by simpa[intItems]using hne,CmpOf.ints_gt (numAt xs) (λ_ _=>intItems_at),λv h' tk hv hk=>?_⟩
 ·have e:(s.heap.push {cls:=.type "tuple_iterator",data:=.fields #[.ref l,.int 0 0]}).objs.size=s.heap.objs.size+1:=Heap.size_push ..
  show b<(s.heap.push _).objs.size
  rw[e]
  simp only[Yl,List.not_mem_nil,or_false]at hb
  rcases hb with rfl|rfl
  ·exact Nat.lt_succ_self _
  ·exact YN hlt
 ·refine h v h' tk (by simpa[intItems]using hv) λb o e=>hk b o (λhm=>?_) (Yg _ e)
  have eb:b=s.heap.objs.size:=by simpa using hm
  exact absurd (eb▸Yj e) (YA _)
section
variable {X:Cx}
theorem ZoL {K:Frag} (hK:X.K=K) (hc:X.calm=true):Zcv X (.builtin "max") (λxs H Q=>∃(p:Addr) (ns:List Int),xs=[.ref p]/\SqT K H p (ns.map V.int)/\ns≠[]/\∀m,m∈ns->(∀a∈ns,a<=m)->Q (.int m) H):=by
 subst hK
 intro pins s σ H xs us Q I r h
 obtain⟨p,ns,rfl,hp,hne,q⟩:=h
 obtain⟨u,rfl,ru⟩:=r.one
 cases(show u=Value.ref p from ru)
 obtain⟨its,rv,pl,hz⟩:=I.tuple hp
 obtain⟨ys,e1,e2⟩:=Zpn rv
 have hsz:0<ys.size:=by
  have:=congrArg List.length e2
  rw[Yf,YO]at this
  cases ns with
  |nil=>exact absurd rfl hne
  |cons=>simp at this;omega
 refine ZoK (xs:=ys) (I.ok.hd hc) (e1▸pl) hsz λv h' tk hv k=>?_
 obtain⟨t,rfl⟩:=intItems_at hv
 obtain⟨h1,h2⟩:=argBest_gt (numAt ys) (ys.size-1)
 refine⟨.int _,H,I.kept k,⟨t,rfl⟩,q _ ?_ λa ha=>?_⟩
 ·rw[numAt_eq,e2];exact getD_mem (by rw[<-e2,Yf,YO];omega)
 ·obtain⟨j,hj,rfl⟩:=mem_getD ha
  rw[<-e2,Yf,YO]at hj
  rw[<-e2,<-numAt_eq];exact h2 j (by omega)
end
end L2
namespace K93
open PySem PySem.Spec PyProof.Rows L2
open PySem.W (nsIn mg_of fnOf keepIn codeIn mg_none_of)
local macro_rules | `(tactic| walk_at "rd") => `(tactic| simp only [tIfS, tNot, Zpf, Zoc, rI0, rI, rU, ZpP, tC, tB, tIf, tAndV, tOrV, ZrS, ZrR, tNil, tAsg, tSeq, tRet, tNext, tOp, tUn, tAnd, tOr, tDrop, Zju, gSub, tAug, tCB, tSl, Zr4, tLst, tTup, L2.start, tYes, gTup, ZrJ, gNil, ZbM, Option.join_some, Option.join_none, rEq, rNe, ZuC, ZuD, ZuE, ZuF, ZuG, ZuH, tBM, Bool.true_eq_false, YE, List.map_nil, List.cons_append, List.nil_append, Yo, List.length_nil, List.replicate, List.append_nil, List.set_cons_zero, List.set_cons_succ, List.getElem?_cons_zero, List.getElem?_cons_succ, Option.some.injEq, V.int.injEq, V.bl.injEq, V.ref.injEq, List.cons.injEq, and_true, true_and, exists_eq_left, exists_eq_left', exists_and_left, exists_eq, decide_eq_true_eq, Bool.not_eq_true', decide_eq_false_iff_not, cxK, and_assoc, Bool.false_eq_true, ↓reduceIte, ZuB, Zp6, Zr8, iRng1, iRng2, iList, iTup, ZpW, rIxT, rSetL, rCat, rIsi, tDelT, rIntB, Zps, rLen, rLof, rTof, ZsJ, ZsL, tBMH, Zl8, rEqD, tRngV, rIn, rSlQ, iEnum, Zsl, rAll, rIxQ, tRev, rSlL, tPart, Zpi, tSl, ipI, Zpl, rRep, ZuI, cOf_ty, Zsn, iRevR, V.str.injEq, tFldC, sFldC, ZmN, ZrT, Zsr, tDGet, sDPut, ZpC, rSlV, rCatK, tLam, ZpD, gLst, Zl8, ZsJ, ZsL, tBMH, iRngD, ZsC, ZsO, ZsP, ZsQ, ZsU])
noncomputable def top (i:Nat):Stmt:=PySem.Challenge.pw_dipkin_k93_whole_rows_within_bounds.main.body.getD i (.Pass ⟨0,0,0,0⟩)
noncomputable abbrev Zej:Stmt:=top 8
noncomputable abbrev ZcU:Stmt:=top 9
noncomputable abbrev Zek:Stmt:=top 10
noncomputable abbrev ZcV:Stmt:=top 11
noncomputable abbrev Zbx:Stmt:=top 12
noncomputable abbrev Zb9:Stmt:=top 13
noncomputable abbrev Zba:Stmt:=top 14
noncomputable abbrev Zaw:Stmt:=top 16
noncomputable abbrev Zh8:Stmt:=top 18
noncomputable abbrev Zca:Stmt:=top 21
noncomputable abbrev Zby:Stmt:=top 22
noncomputable abbrev ZW:Stmt:=inClass (top 23) 0
noncomputable abbrev ZH:Stmt:=inClass (top 23) 1
noncomputable abbrev ZL:Stmt:=inClass (top 23) 2
noncomputable abbrev Zy:Stmt:=inClass (top 23) 3
noncomputable abbrev ZN:Stmt:=inClass (top 23) 4
noncomputable abbrev ZS:Stmt:=inClass (top 23) 5
noncomputable abbrev Zbz:Stmt:=top 24
noncomputable abbrev Zel:Stmt:=top 25
noncomputable abbrev ZaQ:Stmt:=top 27
noncomputable abbrev Zcb:Stmt:=top 28
noncomputable abbrev Zbb:Stmt:=top 30
noncomputable abbrev Zem:Stmt:=top 31
noncomputable abbrev Zen:Stmt:=top 32
noncomputable abbrev ZcW:Stmt:=top 33
noncomputable abbrev Zeo:Stmt:=top 35
noncomputable abbrev Zbc:Stmt:=top 36
noncomputable abbrev Zcc:Stmt:=top 37
noncomputable abbrev Zax:Stmt:=top 38
noncomputable abbrev ZbA:Stmt:=top 40
noncomputable abbrev ZbB:Stmt:=top 41
noncomputable abbrev ZaR:Stmt:=top 42
noncomputable abbrev Zcd:Stmt:=top 43
noncomputable abbrev ZbC:Stmt:=top 44
noncomputable abbrev Zay:Stmt:=top 45
noncomputable abbrev ZbD:Stmt:=top 46
noncomputable abbrev Zaz:Stmt:=top 47
noncomputable abbrev ZaS:Stmt:=top 48
noncomputable abbrev Zbd:Stmt:=top 49
noncomputable abbrev Zhx:Stmt:=top 50
structure Txt (K:PySem.W.Frag) (mg:Str->Option Value):Prop where
 b_all:mg "all"=none
 b_enumerate:mg "enumerate"=none
 b_int:mg "int"=none
 b_isinstance:mg "isinstance"=none
 b_len:mg "len"=none
 b_list:mg "list"=none
 b_max:mg "max"=none
 b_range:mg "range"=none
 b_reversed:mg "reversed"=none
 b_sorted:mg "sorted"=none
 b_tuple:mg "tuple"=none
 b_zip:mg "zip"=none
 c_DipError:mg "DipError"=some (.ref (clsAt mg "DipError"))
 x_DipError:PySem.W.excIn K (clsAt mg "DipError") bmV newV=true
 c_Unlike:mg "Unlike"=some (.ref (clsAt mg "Unlike"))
 x_Unlike:PySem.W.excIn K (clsAt mg "Unlike") bmV newV=true
 c_TooMany:mg "TooMany"=some (.ref (clsAt mg "TooMany"))
 x_TooMany:PySem.W.excIn K (clsAt mg "TooMany") bmV newV=true
 c_NoTree:mg "NoTree"=some (.ref (clsAt mg "NoTree"))
 x_NoTree:PySem.W.excIn K (clsAt mg "NoTree") bmV newV=true
 c_NoNumber:mg "NoNumber"=some (.ref (clsAt mg "NoNumber"))
 x_NoNumber:PySem.W.excIn K (clsAt mg "NoNumber") bmV newV=true
 c_Filling:mg "Filling"=some (.ref (clsAt mg "Filling"))
 cl_Filling:Cls K (clsAt mg "Filling")
 n_Filling_tree:NoAttr K (clsAt mg "Filling") "tree"
 n_Filling_most:NoAttr K (clsAt mg "Filling") "most"
 n_Filling_young:NoAttr K (clsAt mg "Filling") "young"
 n_Filling_spans:NoAttr K (clsAt mg "Filling") "spans"
 n_Filling_outsides:NoAttr K (clsAt mg "Filling") "outsides"
 n_Filling_row:NoAttr K (clsAt mg "Filling") "row"
 m_MOST_PLACES:mg "MOST_PLACES"=some (.int 40 (tokAt mg "MOST_PLACES"))
 m_MOST_FILLED:mg "MOST_FILLED"=some (.int 12 (tokAt mg "MOST_FILLED"))
noncomputable def Zhy (K:PySem.W.Frag) (mg:Str->Option Value):List (Addr×Str):=[(Zl7 K mg "from_below",lamQ "from_below")]
noncomputable abbrev SpT:=PySem.W.Frag->(Str->Option Value)->Sp
noncomputable def ZpF (K:PySem.W.Frag) (mg:Str->Option Value):Sp:=λvs H Q E=>∃(a:Addr) (ns:List Int),vs=[.ref a]/\SqL K H a (ns.map V.int)/\ns.length<=63/\(∀p∈Zhy K mg,H p.1=some (ZjQ p.2))/\∀H',Q (.bl true) H'
noncomputable def ZeF:SpT:=λK mg vs H Q E=>∃cell:Int,vs=[.int cell]/\∀p H',H p=none->Zf H H'->ZQ H' p->Q (.ref p) H'
noncomputable def ZbS:SpT:=λK mg vs H Q E=>∃(p:Addr) (many:Int),vs=[.ref p,.int many]/\0<many/\many<=4000000000/\ZQ H p/\∀d H',0<=d->d<many->ZQ H' p->Exc p H H'->Q (.int d) H'
noncomputable def Zc3:SpT:=λK mg vs H Q E=>∃(p:Addr) (many:Int),vs=[.ref p,.int many]/\0<=many/\many<=1000/\ZQ H p/\∀(r:Addr) (ns:List Int) H',H r=none->(ns.length:Int)=many->H' r=some (.lst (ns.map V.int))->ZQ H' p->Exc p H H'->Q (.ref r) H'
noncomputable def Zft:SpT:=λK mg vs H Q E=>∃(p:Addr) (most:Int),vs=[.ref p,.int most]/\0<=most/\most<=1000/\ZQ H p/\∀(r:Addr) (ns:List Int) H',H r=none->(ns.length:Int)<=most->H' r=some (.lst (ns.map V.int))->ZQ H' p->Exc p H H'->Q (.ref r) H'
noncomputable def Zh9:SpT:=λK mg vs H Q E=>∃(el sp:Addr) (es:List Int) (A B:List Nat) (i:Nat),vs=[.ref el,.ref sp,.int i,.int A.length]/\H el=some (.lst (es.map V.int))/\H sp=some (.lst (ZT (A++B)))/\el≠sp/\i<es.length/\(∀q∈A++B,q<es.length)/\(A++B).length<=1000 /\
 ∀H',(∀b o,b≠el->b≠sp->H b=some o->H' b=some o)->H' el=some (.lst ((Zi0 es A B i).map V.int))->H' sp=some (.lst (ZT (A++[i])))->Q .non H'
noncomputable def ZgM:SpT:=λK mg vs H Q E=>∃(r:Addr) (ns:List Int),vs=[.ref r]/\(SqL K H r (ns.map V.int)\/SqT K H r (ns.map V.int))/\ns.length<=1000/\∀(t:Addr) (es:List Int) H',Zi ns es->Zf H H'->H' t=some (.tup (es.map V.int))->Q (.ref t) H'
noncomputable def Zce:SpT:=λK mg vs H Q E=>∃(t:Addr) (T:List Int) (p:Nat),vs=[.ref t,.int p]/\SqT K H t (T.map V.int)/\T.length<=1000/\p<T.length/\∀(w:Addr) H',H w=none->Zf H H'->H' w=some (.lst ((Ze8 T p).map V.int))->Q (.ref w) H'
noncomputable def ZgN:SpT:=λK mg vs H Q E=>∃(t:Addr) (T:List Int),vs=[.ref t]/\SqT K H t (T.map V.int)/\T.length<=1000/\(Zae T->∀H',Zf H H'->Q (.bl true) H')/\(¬ Zae T->∀H',Zf H H'->Q (.bl false) H')
noncomputable def ZbT:SpT:=λK mg vs H Q E=>∃(t:Addr) (T:List Int),vs=[.ref t]/\SqT K H t (T.map V.int)/\T.length<=1000/\(Zae T->∀H',Zf H H'->Q .non H')/\(¬ Zae T->∀H',Zf H H'->E (.ref (clsAt mg "NoTree")) none H')
noncomputable def optN:Option Nat->V
 |none=>.non
 |some i=>.int (i:Int)
noncomputable def Zcm (T:List Int) (v:Nat):Option Nat->Prop
 |none=>∀c,c<v->c<T.length->nth T c≠v
 |some c=>c<v/\c<T.length/\nth T c=v
noncomputable def ZcA (T:List Int) (v:Nat):Option Nat->Prop
 |none=>∀c,v<c->c<T.length->nth T c≠v
 |some c=>v<c/\c<T.length/\nth T c=v
noncomputable def ZbU (H:Hp) (y:Addr) (T:List Int):Prop:=∃as:List Addr,H y=some (.lst (as.map V.ref))/\as.length=T.length/\∀(v:Nat) (a:Addr),as[v]?=some a->∃ah bh,Zcm T v ah/\ZcA T v bh/\H a=some (.lst [optN ah,optN bh])
noncomputable def Zfu:SpT:=λK mg vs H Q E=>∃(t:Addr) (T:List Int),vs=[.ref t]/\SqT K H t (T.map V.int)/\Zae T/\∀(y:Addr) H',H y=none->ZbU H' y T->Zf H H'->Q (.ref y) H'
noncomputable def dpI (T:List Int) (i:Int):Int:=((Ze8 T i.toNat).length:Int)
noncomputable def Zcn:SpT:=λK mg vs H Q E=>∃(t:Addr) (T:List Int),vs=[.ref t]/\SqT K H t (T.map V.int)/\Zae T/\Zcz K mg "from_below" H/\∀(l:Addr) (ps:List Int) H',H l=none->Zf H H'->ps.Perm (nats (T.length:Int))->(ps.Pairwise λx y=>dpI T y<=dpI T x)->H' l=some (.lst (ps.map V.int))->Q (.ref l) H'
noncomputable def cOf (c:Nat->Nat->Nat):Option Nat->Nat->Nat
 |none,_=>1
 |some p,j=>c p j
noncomputable def WayOf (T:List Int) (m:Nat) (c:Nat->Nat->Nat) (p:Nat):Prop:=∃ah bh,Zcm T p ah/\ZcA T p bh/\∀j,j<=m->c p j=if j=m then 0 else cOf c ah (j+1)*cOf c bh j+c p (j+1)
noncomputable def ZX (T:List Int) (m:Nat) (c:Nat->Nat->Nat):Prop:=∀p,p<T.length->WayOf T m c p
noncomputable def ZaV (m:Nat) (f:Nat->Nat):List V:=(List.range (m+1)).map λj=>V.int ((f j:Nat):Int)
noncomputable def Za1 (H:Hp) (d:Addr) (b m:Nat) (c:Nat->Nat->Nat) (P:Nat->Prop):Prop:=∃kvs:List (KO×V),H d=some (.ext (Ze9 d kvs))/\kvs.length<=b/\(∃l,Zav kvs none=some (.ref l)/\H l=some (.lst (ZaV m λ_=>1)))/\∀p,P p->∃l,Zav kvs (some (p:Int))=some (.ref l)/\H l=some (.lst (ZaV m (c p)))
noncomputable def Zdu:SpT:=λK mg vs H Q E=>∃(n m:Nat),vs=[.int n,.int m]/\n<=12/\m<=12/\Q .non H
noncomputable def ZeG:SpT:=λK mg vs H Q E=>∃(t y:Addr) (T:List Int) (m:Nat),vs=[.ref t,.ref y,.int m]/\SqT K H t (T.map V.int)/\ZbU H y T/\Zae T/\T.length<=12/\m<=12/\Zcz K mg "from_below" H/\∀(d:Addr) (c:Nat->Nat->Nat) H',H d=none->Zf H H'->ZX T m c->Za1 H' d 13 m c (λp=>p<T.length)->Q (.ref d) H'
noncomputable def Zbm:SpT:=λK mg vs H Q E=>∃(a:Addr) (ns:List Int),vs=[.ref a]/\SqL K H a (ns.map V.int)/\ns.length<=100/\∀l H',Zf H H'->H' l=some (.lst ((ZC 0 ns).map V.int))->Q (.ref l) H'
noncomputable def cFi (mg:Str->Option Value):Addr:=clsAt mg "Filling"
noncomputable def ZsW (H:Hp) (x t:Addr) (T:List Int) (m:Nat) (c:Nat->Nat->Nat) (mg:Str->Option Value):Prop:=∃(dx d:Addr) (fs:List (Str×V)),H x=some (.ins (cFi mg) dx fs)/\fs.lookup (Str.ofString "tree")=some (.ref t)/\fs.lookup (Str.ofString "spans")=some (.ref d)/\fs.lookup (Str.ofString "how_many_rows")=none/\ZbR H t (T.map V.int)/\Za1 H d 13 m c (λp=>p<T.length)
noncomputable def topC (T:List Int) (c:Nat->Nat->Nat):Nat:=if T=[]then 1 else c (T.idxOf (-1)) 0
noncomputable def ZZ:SpT:=λK mg vs H Q E=>∃(x t:Addr) (T:List Int) (m:Nat) (c:Nat->Nat->Nat),vs=[.ref x]/\ZsW H x t T m c mg/\Zae T/\T.length<=12/\Q (.int ((topC T c:Nat):Int)) H
noncomputable def ZeH:SpT:=λK mg vs H Q E=>∃(t:Addr) (T:List Int) (m:Nat),vs=[.ref t,.int m]/\ZbR H t (T.map V.int)/\Zae T/\T.length<=12/\m<=12/\Zcz K mg "from_below" H/\∀(c:Nat->Nat->Nat) H',Zf H H'->ZX T m c->Q (.int ((topC T c:Nat):Int)) H'
theorem Z2 {ns T:List Int} (hT:Zi ns T) {p:Nat} (hp:p<T.length):(nth T p=-1/\way T p=[])\/∃q:Nat,nth T p=q/\q<T.length/\way T p=q::way T q:=by
 have e:=hT.1
 rcases ZU hT (p:=p) (by omega)with z|⟨q,z,hq,_,_⟩
 ·exact .inl ⟨z,Zjh z⟩
 ·exact .inr ⟨q,z,by omega,Zal hT (by omega) z⟩
theorem way_dp {ns T:List Int} (hT:Zi ns T) {a:Nat}:∀(k b:Nat),b<T.length->(way T b).length<=k->a∈way T b->(way T a).length<(way T b).length:=by
 intro k
 induction k with
 |zero =>
  intro b hb hk h
  have:way T b=[]:=List.length_eq_zero_iff.mp (by omega)
  rw[this]at h;cases h
 |succ k ih =>
  intro b hb hk h
  rcases Z2 hT hb with⟨_,e⟩|⟨q,_,hq,e⟩
  ·rw[e]at h;cases h
  ·rw[e,Yo]at hk⊢
   rw[e]at h
   rcases Yl.mp h with rfl|h
   ·omega
   ·have:=ih q hq (by omega) h
    omega
theorem ZjS {L:List Nat}{n:Nat} (nd:L.Nodup) (h:∀q∈L,q<n):L.length<=n:=by
 have pm:L.Perm ((List.range n).filter λx=>decide (x∈L)):=(List.perm_ext_iff_of_nodup nd (List.nodup_range.filter _)).mpr λx=>by
  rw[YS]
  exact⟨λz=>⟨Yu.mpr (h x z),YG z⟩,λz=>Y3 z.2⟩
 have l2:=Y9 (λx=>decide (x∈L)) (List.range n)
 rw[Y2,<-pm.length_eq]at l2
 exact l2
theorem ZeI {nsT T:List Int} (hT:Zi nsT T):∀k b,b<T.length->(way T b).length<=k->(way T b).Nodup/\b∉way T b:=by
 have e:=hT.1
 intro k
 induction k with
 |zero =>
  intro b hb hk
  have:way T b=[]:=List.length_eq_zero_iff.mp (by omega)
  rw[this];simp
 |succ k ih =>
  intro b hb hk
  rcases Z2 hT hb with⟨_,z⟩|⟨q,_,hq,z⟩
  ·rw[z];simp
  ·rw[z,Yo]at hk
   obtain⟨h1,h2⟩:=ih q hq (by omega)
   have nb:b∉q::way T q:=λy=>by
    have:=way_dp hT _ b hb (Yd _) (z▸y)
    omega
   rw[z]
   exact⟨List.nodup_cons.mpr ⟨h2,h1⟩,nb⟩
theorem ZdK {ns:List Int}{i:Nat} (h:i<ns.length):(ns.map V.int)[i]?=some (V.int (nth ns i)):=by
 unfold nth
 rw[YF,Yi h,Ym,Yi h];rfl
theorem Zia {ns T:List Int} (hT:Zi ns T) {p q:Nat} (hp:p<ns.length) (h:nth T p=q):dpI T (p:Int)=dpI T (q:Int)+1:=by
 unfold dpI
 simp only[Ja,Zee,Yf]
 rw[Zal hT hp h,Yo];omega
theorem Zdv {ns:List Int}{i:Nat} (h:i<ns.length):nth ns i∈ns:=by
 unfold nth
 rw[Ym,Yi h];exact YH h
noncomputable def ZcI (a b:Nat->Nat) (m:Nat):Nat->Nat
 |0=>0
 |k+1=>ZcI a b m k+a (m-k)*b (m-1-k)
noncomputable def Zb6 (a b:Nat->Nat) (m:Nat):List Int:=(List.range m).map λk=>((a (m-k)*b (m-1-k):Nat):Int)
theorem ZlC (a b:Nat->Nat) (m:Nat):∀k,k<=m->ZC 0 ((Zb6 a b m).take k)=(List.range k).map (λi=>((ZcI a b m (i+1):Nat):Int))/\((Zb6 a b m).take k).sum=((ZcI a b m k:Nat):Int)
 |0,_=>by simp[ZC,ZcI]
 |k+1,h=>by
  obtain⟨h1,h2⟩:=ZlC a b m k (by omega)
  have e:(Zb6 a b m).take (k+1)=(Zb6 a b m).take k++[((a (m-k)*b (m-1-k):Nat):Int)]:=by
   rw[Y6]
   simp[Zb6,show k<m by omega]
  rw[e,ZcC,h1,h2,List.sum_append,h2,YQ,YU]
  constructor
  ·simp[ZC,ZcI]
  ·simp[ZcI]
theorem Zu6 (a b:Nat->Nat) (m:Nat):(((0:Int)::ZC 0 (Zb6 a b m)).reverse).map V.int=ZaV m λj=>ZcI a b m (m-j):=by
 have el:(Zb6 a b m).length=m:=by simp[Zb6]
 have h1:=(ZlC a b m m (Yd _)).1
 rw[List.take_of_length_le (by omega)]at h1
 rw[h1]
 unfold ZaV
 refine List.ext_getElem (by simp) λj j1 j2=>?_
 have hj:j<=m:=by simp at j2;omega
 rw[List.getElem_map,List.getElem_map,List.getElem_reverse,List.getElem_range]
 congr 1
 by_cases e:j=m
 ·subst e;simp[ZcI]
 ·have:((0:Int)::(List.range m).map λi=>((ZcI a b m (i+1):Nat):Int)).length-1-j=(m-j-1)+1:=by simp;omega
  simp only[this,List.getElem_cons_succ,List.getElem_map,List.getElem_range]
  rw[show m-j-1+1=m-j by omega]
noncomputable def Znk (T:List Int) (m:Nat) (c:Nat->Nat->Nat) (P:Nat->Prop) (p:Nat):Prop:=∃ah bh,Zcm T p ah/\ZcA T p bh/\(∀q,ah=some q->P q)/\(∀q,bh=some q->P q)/\∀j,j<=m->c p j=if j=m then 0 else cOf c ah (j+1)*cOf c bh j+c p (j+1)
noncomputable def setC (c:Nat->Nat->Nat) (v:Nat) (f:Nat->Nat):Nat->Nat->Nat:=λp=>if p=v then f else c p
theorem ZlD (c:Nat->Nat->Nat) (v:Nat) (f:Nat->Nat):setC c v f v=f:=Yc rfl
theorem Zmb {c:Nat->Nat->Nat}{v p:Nat}{f:Nat->Nat} (h:p≠v):setC c v f p=c p:=Yb h
theorem Zjl {c:Nat->Nat->Nat}{v:Nat}{f:Nat->Nat}{o:Option Nat} (h:∀q,o=some q->q≠v):cOf (setC c v f) o=cOf c o:=by
 cases o with
 |none=>rfl
 |some q=>funext j;show setC c v f q j=c q j;rw[Zmb (h q rfl)]
theorem Znk.keep {T:List Int}{m:Nat}{c:Nat->Nat->Nat}{P P':Nat->Prop}{p v:Nat}{f:Nat->Nat} (h:Znk T m c P p) (hp:p≠v) (hv:¬ P v) (hs:∀q,P q->P' q):Znk T m (setC c v f) P' p:=by
 obtain⟨ah,bh,h1,h2,h3,h4,h5⟩:=h
 refine⟨ah,bh,h1,h2,λq e=>hs q (h3 q e),λq e=>hs q (h4 q e),λj hj=>?_⟩
 rw[Zjl (v:=v) (λq e z=>hv (by rw[<-z];exact h3 q e)),Zjl (v:=v) (λq e z=>hv (by rw[<-z];exact h4 q e)),Zmb hp]
 exact h5 j hj
theorem Znk.new {T:List Int}{m:Nat}{c:Nat->Nat->Nat}{P P':Nat->Prop}{v:Nat}{ah bh:Option Nat} (h1:Zcm T v ah) (h2:ZcA T v bh) (h3:∀q,ah=some q->P q) (h4:∀q,bh=some q->P q) (hv:¬ P v) (hs:∀q,P q->P' q):Znk T m (setC c v λj=>ZcI (cOf c ah) (cOf c bh) m (m-j)) P' v:=by
 refine⟨ah,bh,h1,h2,λq e=>hs q (h3 q e),λq e=>hs q (h4 q e),λj hj=>?_⟩
 rw[Zjl (v:=v) (λq e z=>hv (by rw[<-z];exact h3 q e)),Zjl (v:=v) (λq e z=>hv (by rw[<-z];exact h4 q e)),ZlD]
 by_cases e:j=m
 ·subst e;simp[ZcI]
 ·rw[Yb e]
  show ZcI _ _ m (m-j)=_
  rw[show m-j=(m-(j+1))+1 by omega]
  show ZcI _ _ m (m-(j+1))+_=_
  rw[show m-(m-(j+1))=j+1 by omega,show m-1-(m-(j+1))=j by omega]
  omega
theorem ZlE {ns T ps:List Int} (hT:Zi ns T) (hpm:ps.Perm (nats (T.length:Int))) (hpw:ps.Pairwise λx y=>dpI T y<=dpI T x) {q v i:Nat} (hq:q<T.length) (h:nth T q=v) (hi:ps[i]?=some (v:Int)):∃k,k<i/\ps[k]?=some (q:Int):=by
 have e:=hT.1
 have dp:=Zia hT (p:=q) (by omega) h
 have hm:(q:Int)∈ps:=hpm.mem_iff.mpr (YB.mpr ⟨q,Yu.mpr (by omega),rfl⟩)
 obtain⟨k,hk,ek⟩:=YR hm
 refine⟨k,?_,by rw[Yi hk,ek]⟩
 obtain⟨hi1,hi2⟩:=Yq.mp hi
 rcases Nat.lt_trichotomy k i with z|z|z
 ·exact z
 ·subst z
  rw[ek]at hi2
  have:q=v:=by omega
  subst this;omega
 ·have:=List.pairwise_iff_getElem.mp hpw i k hi1 hk z
  rw[hi2,ek]at this
  omega
theorem Za1.same {H H':Hp}{d:Addr}{b m:Nat}{c:Nat->Nat->Nat}{P:Nat->Prop} (h:Za1 H d b m c P) (s:Zf H H'):Za1 H' d b m c P:=by
 obtain⟨kvs,w1,w0,⟨l0,w2,w3⟩,w4⟩:=h
 exact⟨kvs,s _ _ w1,w0,⟨l0,w2,s _ _ w3⟩,λp hp=>let ⟨l,a,e⟩:=w4 p hp;⟨l,a,s _ _ e⟩⟩
theorem Za1.put {H:Hp}{d e:Addr}{b m v:Nat}{c:Nat->Nat->Nat}{P P':Nat->Prop}{f:Nat->Nat}{kvs:List (KO×V)} (hk:H d=some (.ext (Ze9 d kvs))) (hb:kvs.length<=b) (h0:∃l,Zav kvs none=some (.ref l)/\H l=some (.lst (ZaV m λ_=>1))) (hP:∀p,P p->∃l,Zav kvs (some (p:Int))=some (.ref l)/\H l=some (.lst (ZaV m (c p)))) (he:H e=some (.lst (ZaV m f))) (hv:¬ P v) (hs:∀p,P' p->P p\/p=v):Za1 (upd H d (.ext (Ze9 d (putK kvs (some (v:Int)) (.ref e))))) d (b+1) m (setC c v f) P':=by
 have nd:∀{l:Addr}{xs:List V},H l=some (.lst xs)->l≠d:=λ{l xs} h z=>by rw[z,hk]at h;cases h
 refine⟨_,Zb,Yh (Zcy kvs (some (v:Int)) (.ref e)) (by omega),?_,λp hp=>?_⟩
 ·obtain⟨l,h1,h2⟩:=h0
  exact⟨l,by rw[Zc2,Yb (λz=>nomatch z)];exact h1,by rw[Zh (nd h2)];exact h2⟩
 ·by_cases z:p=v
  ·subst z
   exact⟨e,by rw[Zc2,Yc rfl],by rw[Zh (nd he),ZlD];exact he⟩
  ·rcases hs p hp with y|y
   ·obtain⟨l,h1,h2⟩:=hP p y
    exact⟨l,by rw[Zc2,Yb (λw=>z (by have:=Yz w;omega))];exact h1,by rw[Zh (nd h2),Zmb z];exact h2⟩
   ·exact absurd y z
noncomputable def Zhz:Nat->Nat
 |0=>1
 |h+1=>2*Zhz h+4
theorem ZpG:∀h,h<=13->Zhz h<=100000:=by decide
theorem ZsX {T:List Int}{m:Nat}{c:Nat->Nat->Nat}{p X:Nat}{ah bh:Option Nat} (h:∀j,j<=m->c p j=if j=m then 0 else cOf c ah (j+1)*cOf c bh j+c p (j+1)) (hX:∀j,j<m->cOf c ah (j+1)*cOf c bh j<=X):∀k,k<=m->c p (m-k)<=k*X
 |0,_=>by rw[h (m-0) (by omega),Yc (by omega)];exact Ys _
 |k+1,hk=>by
  have ih:=ZsX (T:=T) h hX k (by omega)
  rw[h (m-(k+1)) (by omega),Yb (by omega),show m-(k+1)+1=m-k by omega,Nat.add_mul,Nat.one_mul]
  have:=hX (m-(k+1)) (by omega)
  rw[show m-(k+1)+1=m-k by omega]at this
  omega
theorem ZjT {ns T:List Int}{m:Nat}{c:Nat->Nat->Nat}{P:Nat->Prop} (hT:Zi ns T) (hm:m<=12) (hP:∀p,P p->p<T.length/\Znk T m c P p):∀h p,P p->T.length-(way T p).length<=h->∀j,j<=m->c p j<2 ^ Zhz h:=by
 intro h
 induction h with
 |zero =>
  intro p hp hl
  have:=(hP p hp).1
  have hw:(way T p).length<=T.length:=Zfo _ _ _
  exfalso
  have e:=hT.1
  have h2:=ZeI hT _ p this (Yd _)
  have nd:(p::way T p).Nodup:=List.nodup_cons.mpr ⟨h2.2,h2.1⟩
  have:=ZjS (n:=T.length) nd (λq hq=>by
   rcases Yl.mp hq with z|z
   ·rw[z];omega
   ·have:=((Zam hT (by omega)).mp z).1;omega)
  rw[Yo]at this
  omega
 |succ h ih =>
  intro p hp hl j hj
  obtain⟨hpT,ah,bh,hA,hB,hA2,hB2,heq⟩:=hP p hp
  have e:=hT.1
  have kid:∀o:Option Nat,(∀q,o=some q->P q/\nth T q=p/\q<T.length)->∀j,j<=m->cOf c o j<2 ^ Zhz h:=λo ho j hj=>by
   cases o with
   |none =>
    show 1<2 ^ Zhz h
    have:1<=Zhz h:=by cases h<;>simp[Zhz]<;>omega
    exact Nat.one_lt_two_pow (by omega)
   |some q =>
    obtain⟨a1,a2,a3⟩:=ho q rfl
    refine ih q a1 ?_ j hj
    rw[Zal hT (by omega) a2,Yo];omega
  have k1:=kid ah (λq e=>by subst e;exact⟨hA2 q rfl,hA.2.2,hA.2.1⟩)
  have k2:=kid bh (λq e=>by subst e;exact⟨hB2 q rfl,hB.2.2,hB.2.1⟩)
  have:=ZsX (T:=T) heq (X:=2 ^ Zhz h*2 ^ Zhz h) (λj hj=>Nat.mul_le_mul (YM (k1 (j+1) (by omega))) (YM (k2 j (by omega)))) (m-j) (by omega)
  rw[show m-(m-j)=j by omega]at this
  refine Yr this ?_
  rw[<-Nat.pow_add,show Zhz (h+1)=(Zhz h+Zhz h)+4 by simp[Zhz];omega,Nat.pow_add _ _ 4,Nat.mul_comm]
  exact Nat.mul_lt_mul_of_pos_left (by omega) (Nat.two_pow_pos _)
theorem ZsY {a b:Nat} (ha:a<2 ^ 100000) (hb:b<2 ^ 100000):IntMulOk (a:Int) (b:Int) :=
 Zjf (Yh ((intBits_le_iff (m:=100000)).mpr ha) (by decide)) (Yh ((intBits_le_iff (m:=100000)).mpr hb) (by decide))
theorem Zjm {m j:Nat}{f:Nat->Nat} (h:j<=m):atI (ZaV m f) (j:Int)=some (V.int ((f j:Nat):Int)):=ZaE (by simp[ZaV,show j<m+1 by omega])
theorem ZjU {ns T:List Int} (hT:Zi ns T):∀k p,p<T.length->(way T p).length<=k->(-1:Int)∈T:=by
 intro k
 induction k with
 |zero =>
  intro p hp hk
  rcases Z2 hT hp with⟨z,_⟩|⟨q,_,_,z⟩
  ·rw[<-z];exact Zdv hp
  ·rw[z]at hk;simp at hk
 |succ k ih =>
  intro p hp hk
  rcases Z2 hT hp with⟨z,_⟩|⟨q,_,hq,z⟩
  ·rw[<-z];exact Zdv hp
  ·exact ih q hq (by rw[z,Yo]at hk;omega)
theorem Za1.Znl {H:Hp}{x C dx d:Addr}{fs:List (Str×V)}{o:HO}{b m:Nat}{c:Nat->Nat->Nat}{P:Nat->Prop} (h:Za1 H d b m c P) (hx:H x=some (.ins C dx fs)):Za1 (upd H x o) d b m c P:=by
 obtain⟨kvs,w1,w0,⟨l0,w2,w3⟩,w4⟩:=h
 have n1:d≠x:=λz=>by rw[z,hx]at w1;cases w1
 have n2:∀{l:Addr}{xs:List V},H l=some (.lst xs)->l≠x:=λ{l xs} e z=>by rw[z,hx]at e;cases e
 exact⟨kvs,by rw[Zh n1];exact w1,w0,⟨l0,w2,by rw[Zh (n2 w3)];exact w3⟩,λp hp=>let ⟨l,a,e⟩:=w4 p hp;⟨l,a,by rw[Zh (n2 e)];exact e⟩⟩
theorem ZbU.Znl {H:Hp}{x C dx y:Addr}{fs:List (Str×V)}{o:HO}{T:List Int} (h:ZbU H y T) (hx:H x=some (.ins C dx fs)):ZbU (upd H x o) y T:=by
 obtain⟨as,h1,h2,h3⟩:=h
 have n2:∀{l:Addr}{xs:List V},H l=some (.lst xs)->l≠x:=λ{l xs} e z=>by rw[z,hx]at e;cases e
 exact⟨as,by rw[Zh (n2 h1)];exact h1,h2,λv a e=>let ⟨ah,bh,p1,p2,p3⟩:=h3 v a e;⟨ah,bh,p1,p2,by rw[Zh (n2 p3)];exact p3⟩⟩
theorem ZjV {m j:Nat}{f:Nat->Nat}{z:V} (h:j<=m):atI (ZaV m f++[z]) (j:Int)=some (V.int ((f j:Nat):Int)):=ZaE (by rw[YW (by simp[ZaV];omega)];simp[ZaV,show j<m+1 by omega])
theorem ZcX {ns T:List Int} (hT:Zi ns T) {v:Nat}{a b:Option Nat} (h1:Zcm T v a) (h2:Zcm T v b):a=b:=by
 have e:=hT.1
 cases a with
 |none =>
  cases b with
  |none=>rfl
  |some q=>exact absurd h2.2.2 (h1 q h2.1 h2.2.1)
 |some p =>
  cases b with
  |none=>exact absurd h1.2.2 (h2 p h1.1 h1.2.1)
  |some q=>rw[ZsE hT (by have:=h1.2.1;omega) (by have:=h2.2.1;omega) h1.2.2 h2.2.2 h1.1 h2.1]
theorem ZeJ {ns T:List Int} (hT:Zi ns T) {v:Nat}{a b:Option Nat} (h1:ZcA T v a) (h2:ZcA T v b):a=b:=by
 have e:=hT.1
 cases a with
 |none =>
  cases b with
  |none=>rfl
  |some q=>exact absurd h2.2.2 (h1 q h2.1 h2.2.1)
 |some p =>
  cases b with
  |none=>exact absurd h1.2.2 (h2 p h1.1 h1.2.1)
  |some q=>rw[ZqB hT (by have:=h1.2.1;omega) (by have:=h2.2.1;omega) h1.2.2 h2.2.2 h1.1 h2.1]
theorem Znm {ns T:List Int}{m:Nat}{c d:Nat->Nat->Nat} (hT:Zi ns T) (h1:ZX T m c) (h2:ZX T m d):∀h p,p<T.length->T.length-(way T p).length<=h->∀j,j<=m->c p j=d p j:=by
 have e:=hT.1
 intro h
 induction h with
 |zero =>
  intro p hp hl
  exfalso
  have h3:=ZeI hT _ p hp (Yd _)
  have nd:(p::way T p).Nodup:=List.nodup_cons.mpr ⟨h3.2,h3.1⟩
  have:=ZjS (n:=T.length) nd (λq hq=>by
   rcases Yl.mp hq with z|z
   ·rw[z];omega
   ·have:=((Zam hT (by omega)).mp z).1;omega)
  rw[Yo]at this
  omega
 |succ h ih =>
  intro p hp hl
  obtain⟨ah,bh,a1,a2,a3⟩:=h1 p hp
  obtain⟨ah',bh',b1,b2,b3⟩:=h2 p hp
  obtain rfl:=ZcX hT a1 b1
  obtain rfl:=ZeJ hT a2 b2
  have kid:∀o:Option Nat,(∀q,o=some q->nth T q=p/\q<T.length)->∀j,j<=m->cOf c o j=cOf d o j:=λo ho j hj=>by
   cases o with
   |none=>rfl
   |some q =>
    obtain⟨x1,x2⟩:=ho q rfl
    refine ih q x2 ?_ j hj
    rw[Zal hT (by omega) x1,Yo];omega
  have k1:=kid ah (λq e=>by subst e;exact⟨a1.2.2,a1.2.1⟩)
  have k2:=kid bh (λq e=>by subst e;exact⟨a2.2.2,a2.2.1⟩)
  have all:∀k,k<=m->c p (m-k)=d p (m-k):=by
   intro k
   induction k with
   |zero=>intro _;rw[a3 _ (by omega),b3 _ (by omega),Yc (by omega),Yc (by omega)]
   |succ k ihk =>
    intro hk
    rw[a3 _ (by omega),b3 _ (by omega),Yb (by omega),Yb (by omega),show m-(k+1)+1=m-k by omega,ihk (by omega),k1 (m-k) (by omega),k2 (m-(k+1)) (by omega)]
  intro j hj
  have:=all (m-j) (by omega)
  rw[show m-(m-j)=j by omega]at this
  exact this
theorem Zu7 {ns T:List Int}{m:Nat}{c d:Nat->Nat->Nat} (hT:Zi ns T) (h1:ZX T m c) (h2:ZX T m d):topC T c=topC T d:=by
 unfold topC
 by_cases z:T=[]
 ·rw[Yc z,Yc z]
 ·rw[Yb z,Yb z]
  have hm1:=ZjU hT _ 0 (List.length_pos_iff.mpr z) (Yd _)
  exact Znm hT h1 h2 _ _ (List.idxOf_lt_length_of_mem hm1) (Yd _) 0 (Ys _)
noncomputable def ZbH (T:List Int) (p:Nat):Option Nat:=(List.range T.length).find? λc=>decide (c<p)&&(nth T c==(p:Int))
noncomputable def ZbI (T:List Int) (p:Nat):Option Nat:=(List.range T.length).find? λc=>decide (p<c)&&(nth T c==(p:Int))
theorem Zdw (T:List Int) (p:Nat):Zcm T p (ZbH T p):=by
 unfold ZbH
 cases e:(List.range T.length).find? λc=>decide (c<p)&&(nth T c==(p:Int))with
 |none =>
  intro c c1 c2 z
  have:=List.find?_eq_none.mp e c (Yu.mpr c2)
  simp[c1,z]at this
 |some c =>
  have h1:=List.find?_some e
  have h2:=Yu.mp (List.mem_of_find?_eq_some e)
  simp at h1
  exact⟨h1.1,h2,h1.2⟩
theorem Zgg (T:List Int) (p:Nat):ZcA T p (ZbI T p):=by
 unfold ZbI
 cases e:(List.range T.length).find? λc=>decide (p<c)&&(nth T c==(p:Int))with
 |none =>
  intro c c1 c2 z
  have:=List.find?_eq_none.mp e c (Yu.mpr c2)
  simp[c1,z]at this
 |some c =>
  have h1:=List.find?_some e
  have h2:=Yu.mp (List.mem_of_find?_eq_some e)
  simp at h1
  exact⟨h1.1,h2,h1.2⟩
noncomputable def cF (T:List Int) (m:Nat):Nat->Nat->Nat->Nat
 |0,_,_=>0
 |h+1,p,j=>ZcI (cOf (cF T m h) (ZbH T p)) (cOf (cF T m h) (ZbI T p)) m (m-j)
theorem Zu8 {ns T:List Int} (hT:Zi ns T) (m:Nat):∀h p,p<T.length->T.length-(way T p).length<=h->cF T m (h+1) p=cF T m h p:=by
 have e:=hT.1
 intro h
 induction h with
 |zero =>
  intro p hp hl
  exfalso
  have h3:=ZeI hT _ p hp (Yd _)
  have nd:(p::way T p).Nodup:=List.nodup_cons.mpr ⟨h3.2,h3.1⟩
  have:=ZjS (n:=T.length) nd (λq hq=>by
   rcases Yl.mp hq with z|z
   ·rw[z];omega
   ·have:=((Zam hT (by omega)).mp z).1;omega)
  rw[Yo]at this
  omega
 |succ h ih =>
  intro p hp hl
  have kid:∀o:Option Nat,(∀q,o=some q->nth T q=p/\q<T.length)->cOf (cF T m (h+1)) o=cOf (cF T m h) o:=λo ho=>by
   cases o with
   |none=>rfl
   |some q =>
    obtain⟨x1,x2⟩:=ho q rfl
    have:=ih q x2 (by rw[Zal hT (by omega) x1,Yo];omega)
    funext j
    exact congrFun this j
  have k1:=kid (ZbH T p) (λq e=>by have:=Zdw T p;rw[e]at this;exact⟨this.2.2,this.2.1⟩)
  have k2:=kid (ZbI T p) (λq e=>by have:=Zgg T p;rw[e]at this;exact⟨this.2.2,this.2.1⟩)
  funext j
  show ZcI (cOf (cF T m (h+1)) _) (cOf (cF T m (h+1)) _) m _=ZcI (cOf (cF T m h) _) (cOf (cF T m h) _) m _
  rw[k1,k2]
theorem ZcJ {ns T:List Int} (hT:Zi ns T) (m:Nat):ZX T m (cF T m T.length):=λp hp=>by
 refine⟨ZbH T p,ZbI T p,Zdw T p,Zgg T p,λj hj=>?_⟩
 have ef:=Zu8 hT m T.length p hp (by omega)
 have e1:∀j,cF T m T.length p j=ZcI (cOf (cF T m T.length) (ZbH T p)) (cOf (cF T m T.length) (ZbI T p)) m (m-j):=λj=>by
  conv=>lhs;rw[<-ef]
  rfl
 rw[e1 j,e1 (j+1)]
 by_cases z:j=m
 ·subst z;simp[ZcI]
 ·rw[Yb z,show m-j=(m-(j+1))+1 by omega]
  show ZcI _ _ m (m-(j+1))+_=_
  rw[show m-(m-(j+1))=j+1 by omega,show m-1-(m-(j+1))=j by omega]
  omega
noncomputable def sumTo (f:Nat->Nat):Nat->Nat
 |0=>0
 |k+1=>sumTo f k+f k
theorem ZbE {f g:Nat->Nat}:∀k,(∀i,i<k->f i=g i)->sumTo f k=sumTo g k
 |0,_=>rfl
 |k+1,h=>by
  show sumTo f k+f k=sumTo g k+g k
  rw[ZbE k λi hi=>h i (by omega),h k (by omega)]
theorem ZgO {f:Nat->Nat}{a:Nat}:∀b,a<=b->sumTo f a<=sumTo f b
 |0,h=>by rw[show a=0 by omega];exact Yd _
 |b+1,h=>by
  by_cases e:a=b+1
  ·rw[e];exact Yd _
  ·exact Yh (ZgO b (by omega)) (Nat.le_add_right _ _)
theorem ZoM {g al C:Nat->Nat}{m:Nat} (hC:∀j,j<m->C j=al j+C (j+1)) (h0:C m=0):sumTo (λz=>sumTo g z*al z) m=sumTo (λy=>g y*C (y+1)) m:=by
 have key:∀k,k<=m->sumTo (λz=>sumTo g z*al z) k+sumTo g k*C k=sumTo (λy=>g y*C (y+1)) k:=by
  intro k
  induction k with
  |zero=>intro _;simp[sumTo]
  |succ k ih =>
   intro hk
   have h1:=ih (by omega)
   rw[hC k (by omega),Nat.mul_add]at h1
   show sumTo (λz=>sumTo g z*al z) k+sumTo g k*al k+(sumTo g k+g k)*C (k+1)=sumTo (λy=>g y*C (y+1)) k+g k*C (k+1)
   rw[<-h1,Nat.add_mul]
   omega
 have:=key m (Yd _)
 rw[h0,Nat.mul_zero,Nat.add_zero]at this
 exact this
theorem ZjW {al C:Nat->Nat}{m x N:Nat} (hx:x<=m) (hC:∀j,j<m->C j=al j+C (j+1)) (h0:C m=0):sumTo (λy=>(if y<x then 0 else N)*al y) m=N*C x:=by
 have key:∀k,k<=m->sumTo (λy=>(if y<x then 0 else N)*al y) k+N*C (max k x)=N*C x:=by
  intro k
  induction k with
  |zero=>intro _;simp[sumTo]
  |succ k ih =>
   intro hk
   have h1:=ih (by omega)
   show sumTo (λy=>(if y<x then 0 else N)*al y) k+(if k<x then 0 else N)*al k+N*C (max (k+1) x)=N*C x
   by_cases z:k<x
   ·rw[Yc z,Nat.zero_mul,Nat.add_zero,show max (k+1) x=max k x by omega];exact h1
   ·rw[show max k x=k by omega,hC k (by omega),Nat.mul_add]at h1
    rw[Yb z,show max (k+1) x=k+1 by omega]
    omega
 have:=key m (Yd _)
 rw[show max m x=m by omega,h0,Nat.mul_zero,Nat.add_zero]at this
 exact this
noncomputable def OF (T:List Int) (c:Nat->Nat->Nat) (f:Nat->Nat):Nat->Nat->Nat->Nat
 |0,_,_=>0
 |h+1,p,x=>if nth T p=-1 then 1 else if (p:Int)<nth T p then sumTo (λy=>OF T c f h (nth T p).toNat y*cOf c (ZbI T (nth T p).toNat) y) x else if x<f (nth T p).toNat then 0 else OF T c f h (nth T p).toNat (f (nth T p).toNat)
theorem Zu9 {ns T:List Int} (hT:Zi ns T) (c:Nat->Nat->Nat) (f:Nat->Nat):∀h p,p<T.length->(way T p).length<h->OF T c f (h+1) p=OF T c f h p:=by
 have e:=hT.1
 intro h
 induction h with
 |zero=>intro p _ z;omega
 |succ h ih =>
  intro p hp hl
  funext x
  show(if _ then _ else _)=(if _ then _ else _)
  rcases Z2 hT hp with⟨z,_⟩|⟨q,z,hq,zw⟩
  ·rw[Yc z,Yc z]
  ·have n1:nth T p≠-1:=by omega
   have i1:=ih q hq (by rw[zw,Yo]at hl;omega)
   rw[Yb n1,Yb n1,z,show((q:Nat):Int).toNat=q by omega,i1]
noncomputable def oW (T:List Int) (c:Nat->Nat->Nat) (f:Nat->Nat) (p x:Nat):Nat:=OF T c f (T.length+1) p x
noncomputable def nW (T:List Int) (c:Nat->Nat->Nat) (f:Nat->Nat) (p x:Nat):Nat:=oW T c f p x*cOf c (ZbI T p) x
theorem ZoN {ns T:List Int} (hT:Zi ns T) {p:Nat} (hp:p<T.length):(way T p).length<T.length:=by
 have e:=hT.1
 have h3:=ZeI hT _ p hp (Yd _)
 have nd:(p::way T p).Nodup:=List.nodup_cons.mpr ⟨h3.2,h3.1⟩
 have:=ZjS (n:=T.length) nd (λq hq=>by
  rcases Yl.mp hq with z|z
  ·rw[z];omega
  ·have:=((Zam hT (by omega)).mp z).1;omega)
 rw[Yo]at this
 omega
theorem Zmc {ns T:List Int} (hT:Zi ns T) (c:Nat->Nat->Nat) (f:Nat->Nat) {p:Nat} (hp:p<T.length) (x:Nat):oW T c f p x=if nth T p=-1 then 1 else if (p:Int)<nth T p then sumTo (nW T c f (nth T p).toNat) x else if x<f (nth T p).toNat then 0 else oW T c f (nth T p).toNat (f (nth T p).toNat):=by
 show(if _ then _ else _)=(if _ then _ else _)
 rcases Z2 hT hp with⟨z,_⟩|⟨q,z,hq,zw⟩
 ·rw[Yc z,Yc z]
 ·have n1:nth T p≠-1:=by omega
  have i1:=Zu9 hT c f T.length q hq (ZoN hT hq)
  unfold nW oW
  rw[Yb n1,Yb n1,z,show((q:Nat):Int).toNat=q by omega,<-i1]
theorem ZbV {ns T:List Int} (hT:Zi ns T) {c:Nat->Nat->Nat}{f:Nat->Nat}{p x:Nat} (hp:p<T.length) (h:nth T p=-1):oW T c f p x=1:=by
 rw[Zmc hT c f hp,Yc h]
theorem Zdx {ns T:List Int} (hT:Zi ns T) {c:Nat->Nat->Nat}{f:Nat->Nat}{p x e:Nat} (hp:p<T.length) (h:nth T p=e) (hl:p<e):oW T c f p x=sumTo (nW T c f e) x:=by
 rw[Zmc hT c f hp,Yb (by omega),Yc (by omega),h,show((e:Nat):Int).toNat=e by omega]
theorem ZbW {ns T:List Int} (hT:Zi ns T) {c:Nat->Nat->Nat}{f:Nat->Nat}{p x e:Nat} (hp:p<T.length) (h:nth T p=e) (hl:e<=p):oW T c f p x=if x<f e then 0 else oW T c f e (f e):=by
 rw[Zmc hT c f hp,Yb (by omega),Yb (by omega),h,show((e:Nat):Int).toNat=e by omega]
noncomputable def ZhA (T:List Int) (p k:Nat):Prop:=∀q∈p::way T p,∀e:Nat,nth T q=e->e<q->e<k
theorem ZhA.mono {T:List Int}{p k k':Nat} (h:ZhA T p k) (hk:k<=k'):ZhA T p k':=λq hq e he hl=>Yt (h q hq e he hl) hk
theorem ZhA.up {ns T:List Int} (hT:Zi ns T) {p e k:Nat} (hp:p<T.length) (he:nth T p=e) (h:ZhA T p k):ZhA T e k:=λq hq=>h q (by
 have:=hT.1
 rw[Zal hT (by omega) he];exact YJ _ hq)
theorem Znn {ns T:List Int} (hT:Zi ns T) {c:Nat->Nat->Nat}{f g:Nat->Nat}{k:Nat} (hf:∀i,i<k->f i=g i):∀d p,p<T.length->(way T p).length<=d->ZhA T p k->oW T c f p=oW T c g p:=by
 have eT:=hT.1
 intro d
 induction d with
 |zero =>
  intro p hp hd _
  funext x
  rcases Z2 hT hp with⟨z,_⟩|⟨q,z,hq,zw⟩
  ·rw[ZbV hT hp z,ZbV hT hp z]
  ·rw[zw]at hd;simp at hd
 |succ d ih =>
  intro p hp hd hu
  funext x
  rcases Z2 hT hp with⟨z,_⟩|⟨q,z,hq,zw⟩
  ·rw[ZbV hT hp z,ZbV hT hp z]
  ·have i1:=ih q hq (by rw[zw,Yo]at hd;omega) (hu.up hT hp z)
   by_cases hl:p<q
   ·rw[Zdx hT hp z hl,Zdx hT hp z hl]
    exact ZbE x λy _=>by unfold nW;rw[i1]
   ·have npq:q≠p:=λy=>by
     subst y
     have:=(ZeI hT _ q hp (Yd _)).2
     rw[zw]at this
     exact this (by simp)
    have:=hu p (by simp) q z (by omega)
    rw[ZbW hT hp z (by omega),ZbW hT hp z (by omega),hf q this,i1]
theorem ZjX {ns T:List Int} (hT:Zi ns T) {c:Nat->Nat->Nat}{f g:Nat->Nat}{k p:Nat} (hf:∀i,i<k->f i=g i) (hp:p<T.length) (hu:ZhA T p k):nW T c f p=nW T c g p:=by
 funext x;unfold nW;rw[Znn hT hf _ p hp (Yd _) hu]
theorem Zjn {ns T:List Int} (hT:Zi ns T) {k:Nat} (hk:k<T.length):ZhA T k k:=λq hq e he hl=>by
 have eT:=hT.1
 rcases Yl.mp hq with rfl|hq
 ·exact hl
 ·obtain⟨h1,h2⟩:=(Zam hT (by omega)).mp hq
  rcases Nat.lt_or_ge e k with z|z
  ·exact z
  ·exfalso
   obtain⟨a1,a2,a3,a4⟩:=Zei hT h1 he hl
   have:=Zhs (f:=nth ns) (n:=ns.length) h1
   rcases h2 with⟨y1,y2⟩|⟨y1,y2⟩
   ·omega
   ·have hO:Over (nth ns) e q:=((Zam hT h1).mp (by rw[Zal hT h1 he];simp)).2
    rcases hO with⟨w1,w2⟩|⟨w1,w2⟩
    ·rcases Nat.eq_or_lt_of_le z with rfl|z
     ·have:=y2 k (Yd _) y1
      have:=w2 q (by omega) (Yd _)
      omega
     ·have h3:=y2 e (by omega) hl
      have h4:=w2 q (by omega) (Yd _)
      omega
    ·omega
noncomputable def abV (T:List Int) (m:Nat) (f:Nat->Nat) (k:Nat):Nat:=match ZbH T k with|none=>m|some a=>f a
noncomputable def vW (T:List Int) (m:Nat) (c:Nat->Nat->Nat) (f:Nat->Nat) (k:Nat):Nat:=if k=T.length then 1 else sumTo (nW T c f k) (abV T m f k)
noncomputable def ZaM (T:List Int) (m:Nat) (f:Nat->Nat) (k:Nat):Prop:=∀q,q<k->f q<m/\∀e:Nat,nth T q=e->(e<q->f e<=f q)/\(q<e->e<k->f e<f q)
theorem ZqI {T:List Int}{p:Nat} (h:ZbH T p=none):∀c,c<p->c<T.length->nth T c≠p:=by
 have:=Zdw T p;rw[h]at this;exact this
theorem ZqJ {T:List Int}{p:Nat} (h:ZbI T p=none):∀c,p<c->c<T.length->nth T c≠p:=by
 have:=Zgg T p;rw[h]at this;exact this
theorem Zcf {T:List Int}{p a:Nat} (h:ZbH T p=some a):a<p/\a<T.length/\nth T a=p:=by
 have:=Zdw T p;rw[h]at this;exact this
theorem Zgh {T:List Int}{p a:Nat} (h:ZbI T p=some a):p<a/\a<T.length/\nth T a=p:=by
 have:=Zgg T p;rw[h]at this;exact this
theorem Zjo {ns T:List Int}{m:Nat}{c:Nat->Nat->Nat} (hT:Zi ns T) (hW:ZX T m c) {p:Nat} (hp:p<T.length):(∀j,j<m->c p j=cOf c (ZbH T p) (j+1)*cOf c (ZbI T p) j+c p (j+1))/\c p m=0:=by
 obtain⟨ah,bh,h1,h2,h3⟩:=hW p hp
 obtain rfl:=ZcX hT h1 (Zdw T p)
 obtain rfl:=ZeJ hT h2 (Zgg T p)
 exact⟨λj hj=>by rw[h3 j (by omega),Yb (by omega)],by rw[h3 m (Yd _),Yc rfl]⟩
theorem Zva {ns T:List Int} (hT:Zi ns T) {p:Nat} (hp:p<T.length) (h:ZbH T p=none):ZeA (nth ns) p=(p:Int)-1:=by
 have eT:=hT.1
 obtain⟨c1,_,c3,_⟩:=Zbw hT (p:=p) (by omega)
 have:¬ 0<Zlz (nth ns) p:=λz=>by
  obtain⟨q,q1,q2⟩:=ZsF hT (by omega) z
  exact ZqI h q q1 (by omega) q2
 omega
theorem ZsZ {ns T:List Int} (hT:Zi ns T) {p:Nat} (hp:p<T.length) (h:ZbI T p=none):ZeB (nth ns) ns.length p=(p:Int)+1:=by
 have eT:=hT.1
 obtain⟨_,c1,_,c3⟩:=Zbw hT (p:=p) (by omega)
 have:¬ 0<ZlA (nth ns) ns.length p:=λz=>by
  obtain⟨q,q1,q2,q3⟩:=ZqC hT (by omega) z
  exact ZqJ h q q1 (by omega) q3
 omega
theorem Zmd {ns T:List Int} (hT:Zi ns T) {p:Nat} (hp:p<T.length) (h:nth T p=-1):ZeA (nth ns) p=-1/\ZeB (nth ns) ns.length p=ns.length:=by
 have eT:=hT.1
 have hE:=hT.2 p (by omega)
 rw[show T.getD p 0=-1 from h]at hE
 rcases hE with⟨z1,z2,_⟩|⟨x,_,_,z⟩|⟨r,_,_,z⟩|⟨x,r,_,_,z⟩
 ·exact⟨Zcl z1,ZbP z2⟩
 ·omega
 ·omega
 ·split at z<;>omega
theorem down {ns T:List Int}{m:Nat}{c:Nat->Nat->Nat} (hT:Zi ns T) (hW:ZX T m c) (f:Nat->Nat) {k:Nat} (hk:k<T.length):∀d p,p<T.length->p<=d->ZeA (nth ns) p=(k:Int)-1->sumTo (λy=>oW T c f p y*(cOf c (ZbH T p) (y+1)*cOf c (ZbI T p) y)) m=vW T m c f k:=by
 have eT:=hT.1
 intro d
 induction d with
 |zero =>
  intro p hp hd hF
  have b:=Zhs (f:=nth ns) (n:=ns.length) (p:=p) (by omega)
  have e0:p=k:=by omega
  subst e0
  cases hA:ZbH T p with
  |some a=>have:=(Zcf hA).1;omega
  |none =>
   unfold vW abV
   rw[Yb (by omega),hA]
   exact ZbE m λy _=>by unfold nW;simp[cOf]
 |succ d ih =>
  intro p hp hd hF
  cases hA:ZbH T p with
  |none =>
   have:=Zva hT hp hA
   have e0:p=k:=by omega
   subst e0
   unfold vW abV
   rw[Yb (by omega),hA]
   exact ZbE m λy _=>by unfold nW;simp[cOf]
  |some a =>
   obtain⟨a1,a2,a3⟩:=Zcf hA
   obtain⟨_,b1,_⟩:=Zhv hT (q:=a) (by omega) a3 a1
   rw[<-ih a a2 (by omega) (by rw[b1,hF])]
   have e1:(λy=>oW T c f a y*(cOf c (ZbH T a) (y+1)*cOf c (ZbI T a) y))=λy=>sumTo (nW T c f p) y*(cOf c (ZbH T a) (y+1)*cOf c (ZbI T a) y):=by
    funext y;rw[Zdx hT a2 a3 a1]
   obtain⟨w1,w2⟩:=Zjo hT hW a2
   rw[e1,ZoM (C:=c a) w1 w2]
   refine ZbE m λy _=>?_
   show oW T c f p y*(c a (y+1)*cOf c (ZbI T p) y)=oW T c f p y*cOf c (ZbI T p) y*c a (y+1)
   rw[Nat.mul_assoc,Nat.mul_comm (c a (y+1))]
theorem upward {ns T:List Int}{m:Nat}{c:Nat->Nat->Nat} (hT:Zi ns T) {f:Nat->Nat}{k:Nat} (hk:k<T.length) (hf:ZaM T m f (k+1)):∀d p,p<=k->(way T p).length<=d->ZeB (nth ns) ns.length p=(k:Int)+1->oW T c f p (f p)=vW T m c f (k+1):=by
 have eT:=hT.1
 intro d
 induction d with
 |zero =>
  intro p hp hd hF
  rcases Z2 hT (p:=p) (by omega)with⟨z,_⟩|⟨q,z,hq,zw⟩
  ·have:=(Zmd hT (p:=p) (by omega) z).2
   rw[ZbV hT (by omega) z]
   unfold vW;rw[Yc (by omega)]
  ·rw[zw]at hd;simp at hd
 |succ d ih =>
  intro p hp hd hF
  rcases Z2 hT (p:=p) (by omega)with⟨z,_⟩|⟨q,z,hq,zw⟩
  ·have:=(Zmd hT (p:=p) (by omega) z).2
   rw[ZbV hT (by omega) z]
   unfold vW;rw[Yc (by omega)]
  ·by_cases hl:p<q
   ·obtain⟨_,_,b2,_⟩:=Zhv hT (q:=p) (by omega) z hl
    have e1:q=k+1:=by omega
    subst e1
    rw[Zdx hT (by omega) z hl]
    unfold vW abV
    have:ZbH T (k+1)=some p:=ZcX hT (Zdw T (k+1)) (show Zcm T (k+1) (some p)from⟨hl,by omega,z⟩)
    rw[Yb (by omega),this]
   ·have npq:q≠p:=λy=>by
     subst y
     have:=(ZeI hT _ q (by omega) (Yd _)).2
     rw[zw]at this
     exact this (by simp)
    obtain⟨_,b2,_⟩:=Zei hT (q:=p) (by omega) z (by omega)
    have h1:=((hf p (by omega)).2 q z).1 (by omega)
    rw[ZbW hT (by omega) z (by omega),Yb (by omega)]
    exact ih q (by omega) (by rw[zw,Yo]at hd;omega) (by rw[<-b2,hF])
theorem Zme {ns T:List Int}{m:Nat}{c:Nat->Nat->Nat} (hT:Zi ns T) (hW:ZX T m c) {f:Nat->Nat}{k:Nat} (hk:k<T.length) (hf:ZaM T m f (k+1)):vW T m c f (k+1)=nW T c f k (f k):=by
 have eT:=hT.1
 have hm:=(hf k (by omega)).1
 unfold nW
 cases hB:ZbI T k with
 |none =>
  rw[show cOf c none (f k)=1 from rfl,Nat.mul_one]
  exact(upward hT hk hf _ k (Yd _) (Yd _) (ZsZ hT hk hB)).symm
 |some b =>
  obtain⟨b1,b2,b3⟩:=Zgh hB
  obtain⟨f1,_⟩:=Zei hT (q:=b) (by omega) b3 b1
  rw[<-down hT hW f (k:=k+1) (by omega) b b b2 (Yd _) (by rw[f1];omega)]
  obtain⟨w1,w2⟩:=Zjo hT hW b2
  have e1:(λy=>oW T c f b y*(cOf c (ZbH T b) (y+1)*cOf c (ZbI T b) y))=λy=>(if y<f k then 0 else oW T c f k (f k))*(cOf c (ZbH T b) (y+1)*cOf c (ZbI T b) y):=by
   funext y;rw[ZbW hT b2 b3 (by omega)]
  rw[e1,ZjW (C:=c b) (by omega) w1 w2]
  rfl
theorem Zmf {ns T:List Int}{m:Nat}{c:Nat->Nat->Nat} (hT:Zi ns T) (hW:ZX T m c) (f:Nat->Nat):vW T m c f 0=topC T c:=by
 have eT:=hT.1
 unfold topC
 by_cases z:T=[]
 ·rw[Yc z];unfold vW;rw[Yc (by rw[z];rfl)]
 ·have h0:=List.length_pos_iff.mpr z
  have hm1:=ZjU hT _ 0 h0 (Yd _)
  have ht:=List.idxOf_lt_length_of_mem hm1
  have ht2:nth T (T.idxOf (-1))=-1:=by
   unfold nth
   rw[Ym,Yi ht]
   simp
  rw[Yb z]
  have f1:=(Zmd hT ht ht2).1
  rw[<-down hT hW f h0 _ _ ht (Yd _) (by rw[f1];rfl)]
  obtain⟨w1,w2⟩:=Zjo hT hW ht
  have:=ZjW (x:=0) (N:=1) (Ys m) w1 w2
  rw[Nat.one_mul]at this
  rw[<-this]
  refine ZbE m λy _=>?_
  rw[ZbV hT ht ht2,Yb (by omega)]
noncomputable def rkT (T:List Int) (c:Nat->Nat->Nat) (f:Nat->Nat) (k:Nat):Nat->Nat
 |0=>0
 |j+1=>sumTo (nW T c f k) (f k)+rkT T c f (k+1) j
noncomputable def rkF (T:List Int) (c:Nat->Nat->Nat) (f:Nat->Nat):Nat->Nat
 |0=>0
 |k+1=>rkF T c f k+sumTo (nW T c f k) (f k)
theorem ZhB (T:List Int) (c:Nat->Nat->Nat) (f:Nat->Nat):∀j k,rkF T c f (k+j)=rkF T c f k+rkT T c f k j
 |0,k=>by simp[rkT]
 |j+1,k=>by
  rw[show k+(j+1)=(k+1)+j by omega,ZhB T c f j (k+1)]
  show rkF T c f k+_+_=rkF T c f k+(_+_)
  omega
theorem ZaM.le {T:List Int}{m:Nat}{f:Nat->Nat}{k j:Nat} (h:ZaM T m f k) (hj:j<=k):ZaM T m f j:=λq hq=>⟨(h q (by omega)).1,λe he=>⟨((h q (by omega)).2 e he).1,λh1 h2=>((h q (by omega)).2 e he).2 h1 (by omega)⟩⟩
theorem ZaM.ab {ns T:List Int} (hT:Zi ns T) {m:Nat}{f:Nat->Nat}{k:Nat} (h:ZaM T m f (k+1)):f k<abV T m f k:=by
 unfold abV
 cases hA:ZbH T k with
 |none=>exact(h k (by omega)).1
 |some a =>
  obtain⟨a1,a2,a3⟩:=Zcf hA
  exact((h a (by omega)).2 k a3).2 a1 (by omega)
theorem Zmg {ns T:List Int}{m:Nat}{c:Nat->Nat->Nat} (hT:Zi ns T) (hW:ZX T m c) {f:Nat->Nat} (hf:ZaM T m f T.length):∀j k,k+j=T.length->rkT T c f k j<vW T m c f k
 |0,k,h=>by unfold vW;rw[Yc (by omega)];exact Nat.zero_lt_one
 |j+1,k,h=>by
  have ih:=Zmg hT hW hf j (k+1) (by omega)
  rw[Zme hT hW (by omega) (hf.le (by omega))]at ih
  have h1:=(hf.le (show k+1<=T.length by omega)).ab hT
  have h2:sumTo (nW T c f k) (f k+1)<=sumTo (nW T c f k) (abV T m f k):=ZgO _ h1
  show sumTo (nW T c f k) (f k)+_ < _
  rw[show vW T m c f k=sumTo (nW T c f k) (abV T m f k) by unfold vW;rw[Yb (by omega)]]
  have h3:sumTo (nW T c f k) (f k+1)=sumTo (nW T c f k) (f k)+nW T c f k (f k):=rfl
  omega
theorem Zsp {ns T:List Int}{m:Nat}{c:Nat->Nat->Nat} (hT:Zi ns T) (hW:ZX T m c) {f:Nat->Nat} (hf:ZaM T m f T.length):rkF T c f T.length<topC T c:=by
 have:=Zmg hT hW hf T.length 0 (by omega)
 rw[Zmf hT hW]at this
 have e:=ZhB T c f T.length 0
 rw[Nat.zero_add]at e
 rw[e]
 show 0+_ < _
 omega
theorem Zib {ns T:List Int} (hT:Zi ns T) {c:Nat->Nat->Nat}{f g:Nat->Nat}:∀k,k<=T.length->(∀i,i<k->f i=g i)->rkF T c f k=rkF T c g k
 |0,_,_=>rfl
 |k+1,hk,h=>by
  show rkF T c f k+sumTo (nW T c f k) (f k)=rkF T c g k+sumTo (nW T c g k) (g k)
  rw[Zib hT k (by omega) λi hi=>h i (by omega),h k (by omega),ZjX hT (λi hi=>h i (by omega)) (by omega) (Zjn hT (by omega))]
theorem Zjp {ns T:List Int}{m:Nat}{c:Nat->Nat->Nat} (hT:Zi ns T) (hW:ZX T m c) {f g:Nat->Nat} (hf:ZaM T m f T.length) (d:Nat) (hd:d<T.length) (he:∀i,i<d->f i=g i) (hl:f d<g d):rkF T c f T.length<rkF T c g T.length:=by
 have e1:=ZhB T c f (T.length-(d+1)) (d+1)
 have e2:=ZhB T c g (T.length-(d+1)) (d+1)
 rw[show d+1+(T.length-(d+1))=T.length by omega]at e1 e2
 have t1:=Zmg hT hW hf (T.length-(d+1)) (d+1) (by omega)
 rw[Zme hT hW hd (hf.le (by omega))]at t1
 have f1:rkF T c f (d+1)=rkF T c f d+sumTo (nW T c f d) (f d):=rfl
 have f2:rkF T c g (d+1)=rkF T c g d+sumTo (nW T c g d) (g d):=rfl
 rw[<-Zib hT d (by omega) he,<-ZjX hT he hd (Zjn hT hd)]at f2
 have h2:sumTo (nW T c f d) (f d+1)<=sumTo (nW T c f d) (g d):=ZgO _ hl
 have h3:sumTo (nW T c f d) (f d+1)=sumTo (nW T c f d) (f d)+nW T c f d (f d):=rfl
 omega
theorem Zs0 {ns T:List Int}{m:Nat}{c:Nat->Nat->Nat} (hT:Zi ns T) (hW:ZX T m c) {f g:Nat->Nat} (hf:ZaM T m f T.length) (hg:ZaM T m g T.length) (h:rkF T c f T.length=rkF T c g T.length):∀d,d<=T.length->∀i,i<d->f i=g i
 |0,_,i,hi=>by omega
 |d+1,hd,i,hi=>by
  have ih:=Zs0 hT hW hf hg h d (by omega)
  by_cases e:i<d
  ·exact ih i e
  ·have:i=d:=by omega
   subst this
   rcases Nat.lt_trichotomy (f i) (g i)with z|z|z
   ·have:=Zjp hT hW hf i hd ih z;omega
   ·exact z
   ·have:=Zjp hT hW hg i hd (λj hj=>(ih j hj).symm) z;omega
theorem ZaM.more {ns T:List Int} (hT:Zi ns T) {m:Nat}{c:Nat->Nat->Nat}{f:Nat->Nat}{k:Nat} (hk:k<T.length) (h:ZaM T m f k) (hx:f k<abV T m f k) (hp:0<nW T c f k (f k)):ZaM T m f (k+1):=by
 have hab:abV T m f k<=m:=by
  unfold abV
  cases hA:ZbH T k with
  |none=>exact Yd _
  |some a=>exact YM (h a (Zcf hA).1).1
 intro q hq
 by_cases z:q=k
 ·subst z
  refine⟨by omega,λe he=>⟨λh1=>?_,λh1 h2=>by omega⟩⟩
  rcases Nat.lt_or_ge (f q) (f e)with y|y
  ·exfalso
   unfold nW at hp
   rw[ZbW hT hk he (by omega),Yc y]at hp
   omega
  ·exact y
 ·obtain⟨h1,h2⟩:=h q (by omega)
  refine⟨h1,λe he=>⟨(h2 e he).1,λh3 h4=>?_⟩⟩
  by_cases y:e=k
  ·subst y
   have:ZbH T e=some q:=ZcX hT (Zdw T e) (show Zcm T e (some q)from⟨h3,by omega,he⟩)
   unfold abV at hx
   rw[this]at hx
   exact hx
  ·exact(h2 e he).2 h3 (by omega)
noncomputable def fnR (r:List Nat):Nat->Nat:=λi=>r.getD i 0
noncomputable def ZbJ (m:Nat) (g:Nat->Nat):List V:=(List.range m).map λj=>V.int ((g j:Nat):Int)
noncomputable def ZgP (r:List Nat):List V:=r.map λi=>V.int ((i:Nat):Int)
noncomputable def cntK (kvs:List (Key×V)):Nat->Nat
 |0=>0
 |n+1=>cntK kvs n+if (Zav kvs (.inl (n:Int))).isSome then 1 else 0
theorem ZpH (kvs:List (Key×V)):∀n,cntK kvs n<=n
 |0=>Yd _
 |n+1=>by
  have:=ZpH kvs n
  show cntK kvs n+(if _ then 1 else 0)<=n+1
  split<;>omega
theorem ZjY {kvs kvs':List (Key×V)}:∀n,(∀q:Nat,q<n->(Zav kvs' (.inl (q:Int))).isSome=(Zav kvs (.inl (q:Int))).isSome)->cntK kvs' n=cntK kvs n
 |0,_=>rfl
 |n+1,h=>by
  show cntK kvs' n+_=cntK kvs n+_
  rw[ZjY n λq hq=>h q (by omega),h n (by omega)]
theorem Zno {kvs kvs':List (Key×V)}{p:Nat} (h0:Zav kvs (.inl (p:Int))=none) (h1:(Zav kvs' (.inl (p:Int))).isSome=true):∀n,(∀q:Nat,q≠p->(Zav kvs' (.inl (q:Int))).isSome=(Zav kvs (.inl (q:Int))).isSome)->p<n->cntK kvs' n=cntK kvs n+1
 |0,_,z=>by omega
 |n+1,h,hp=>by
  show cntK kvs' n+_=cntK kvs n+_+1
  by_cases e:p=n
  ·subst e
   rw[ZjY (kvs:=kvs) (kvs':=kvs') p λq hq=>h q (by omega),h0,h1]
   simp
  ·rw[Zno h0 h1 n h (by omega),h n (λz=>e z.symm)]
   omega
theorem Zvb {kvs:List (Key×V)}{n p:Nat}{v:V} (h:kvs.length<=cntK kvs n) (hp:p<n):(putK kvs (.inl (p:Int)) v).length<=cntK (putK kvs (.inl (p:Int)) v) n:=by
 have hv:∀q:Nat,q≠p->(Zav (putK kvs (.inl (p:Int)) v) (.inl (q:Int))).isSome=(Zav kvs (.inl (q:Int))).isSome:=λq hq=>by
  rw[Zc2,Yb (λz=>hq (by have:=Sum.inl.inj z;omega))]
 have hp2:(Zav (putK kvs (.inl (p:Int)) v) (.inl (p:Int))).isSome=true:=by rw[Zc2,Yc rfl];rfl
 cases e:Zav kvs (.inl (p:Int))with
 |none =>
  rw[Zno e hp2 n hv hp]
  have:=Zcy kvs (.inl (p:Int)) v
  omega
 |some y =>
  have hs:(Zav kvs (.inl (p:Int))).isSome=true:=by rw[e];rfl
  have hl:(putK kvs (.inl (p:Int)) v).length=kvs.length:=by
   have ha:=Zfr (.inl (p:Int)) kvs
   unfold putK
   rw[Yc (by rw[ha,hs]),Yf]
  rw[hl,ZjY (kvs:=kvs) n λq _=>by
   by_cases z:q=p
   ·subst z;rw[hp2,hs]
   ·exact hv q z]
  exact h
noncomputable def OutsAt (H:Hp) (kvs:List (Key×V)) (T:List Int) (m:Nat) (c:Nat->Nat->Nat) (r:List Nat):Prop:=∀p:Nat,p<T.length->∀v,Zav kvs (.inl (p:Int))=some v->ZhA T p r.length/\∃l:Addr,v=.ref l/\H l=some (.lst (ZbJ m (oW T c (fnR r) p)))
structure Fa where
 x:Addr
 t:Addr
 y:Addr
 d:Addr
 o:Addr
 rl:Addr
noncomputable def FldsOk (fs:List (Str×V)) (a:Fa) (m:Nat):Prop:=fs.lookup (Str.ofString "tree")=some (.ref a.t)/\fs.lookup (Str.ofString "most")=some (.int m)/\fs.lookup (Str.ofString "young")=some (.ref a.y)/\fs.lookup (Str.ofString "spans")=some (.ref a.d)/\fs.lookup (Str.ofString "outsides")=some (.ref a.o)/\fs.lookup (Str.ofString "row")=some (.ref a.rl)/\fs.lookup (Str.ofString "how_many_rows")=none/\fs.lookup (Str.ofString "outside_ways")=none/\fs.lookup (Str.ofString "outside_by_elder")=none/\fs.lookup (Str.ofString "onward_ways")=none/\fs.lookup (Str.ofString "next_ways")=none
noncomputable def ZqK (H:Hp) (t:Addr) (ys:List V):Prop:=H t=some (.tup ys)\/ZbR H t ys
theorem ZlF {H H':Hp}{t:Addr}{ys:List V} (h:ZqK H t ys) (s:Zf H H'):ZqK H' t ys:=h.elim (λe=>.inl (s _ _ e)) λe=>.inr (e.same s)
theorem Zmh {K:PySem.W.Frag}{H:Hp}{t:Addr}{ys:List V} (h:ZqK H t ys):SqT K H t ys:=h.elim SqT.of ZbR.sq
theorem ZcK {H H':Hp}{y:Addr}{T:List Int} (h:ZbU H y T) (s:Zf H H'):ZbU H' y T:=by
 obtain⟨as,h1,h2,h3⟩:=h
 exact⟨as,s _ _ h1,h2,λv a e=>let ⟨ah,bh,p1,p2,p3⟩:=h3 v a e;⟨ah,bh,p1,p2,s _ _ p3⟩⟩
noncomputable def ZiF (mg:Str->Option Value) (S:Hp) (a:Fa) (T:List Int) (m:Nat) (c:Nat->Nat->Nat) (r:List Nat):Prop:=∃(dx:Addr) (fs:List (Str×V)) (kvs:List (Key×V)),S a.x=some (.ins (cFi mg) dx fs)/\FldsOk fs a m/\ZqK S a.t (T.map V.int)/\ZbU S a.y T/\Za1 S a.d 13 m c (λp=>p<T.length)/\S a.o=some (.dK kvs)/\kvs.length<=cntK kvs T.length/\OutsAt S kvs T m c r
noncomputable def Zc4 (mg:Str->Option Value) (H:Hp) (a:Fa) (T:List Int) (m:Nat) (c:Nat->Nat->Nat) (r:List Nat):Prop:=ZiF mg (strip a.rl H) a T m c r/\H a.rl=some (.lst (ZgP r))
theorem Zw {p:Addr}{H:Hp}:Zf (strip p H) H:=λb o z=>by
 by_cases e:b=p
 ·subst e;rw[Zex]at z;cases z
 ·rw[ZaK e]at z;exact z
theorem ZoO {p:Addr}{H H':Hp} (s:Zf H H'):Zf (strip p H) (strip p H'):=λb o z=>by
 by_cases e:b=p
 ·subst e;rw[Zex]at z;cases z
 ·rw[ZaK e]at z⊢;exact s _ _ z
theorem Zic {p b:Addr}{H:Hp}{o:HO} (h:b≠p):strip p (upd H b o)=upd (strip p H) b o:=by
 funext d
 by_cases e:d=p
 ·subst e;rw[Zex,Zh (λz=>h z.symm),Zex]
 ·rw[ZaK e]
  by_cases y:d=b
  ·subst y;rw[Zb,Zb]
  ·rw[Zh y,Zh y,ZaK e]
theorem ZlG {p:Addr}{H:Hp}{o:HO}:strip p (upd H p o)=strip p H:=by
 funext d
 by_cases e:d=p
 ·subst e;rw[Zex,Zex]
 ·rw[ZaK e,ZaK e,Zh e]
theorem ZgQ {mg:Str->Option Value}{S S':Hp}{a:Fa}{T:List Int}{m:Nat}{c:Nat->Nat->Nat}{r:List Nat} (h:ZiF mg S a T m c r) (s:Zf S S'):ZiF mg S' a T m c r:=by
 obtain⟨dx,fs,kvs,h1,h2,h3,h4,h5,h6,h7,h8⟩:=h
 exact⟨dx,fs,kvs,s _ _ h1,h2,ZlF h3 s,ZcK h4 s,h5.same s,s _ _ h6,h7,λp hp v e=>let ⟨a,l,b,z⟩:=h8 p hp v e;⟨a,l,b,s _ _ z⟩⟩
theorem Za2 {mg:Str->Option Value}{H H':Hp}{a:Fa}{T:List Int}{m:Nat}{c:Nat->Nat->Nat}{r:List Nat} (h:Zc4 mg H a T m c r) (s:Zf H H'):Zc4 mg H' a T m c r:=⟨ZgQ h.1 (ZoO s),s _ _ h.2⟩
theorem ZqL {mg:Str->Option Value}{S:Hp}{a:Fa}{T:List Int}{m:Nat}{c:Nat->Nat->Nat}{r:List Nat}{kvs:List (Key×V)}{p:Nat}{l:Addr} (h:ZiF mg S a T m c r) (hk:S a.o=some (.dK kvs)) (hp:p<T.length) (hU:ZhA T p r.length) (hl:S l=some (.lst (ZbJ m (oW T c (fnR r) p)))):ZiF mg (upd S a.o (.dK (putK kvs (.inl (p:Int)) (.ref l)))) a T m c r:=by
 obtain⟨dx,fs,kvs',h1,h2,h3,h4,h5,h6,h7,h8⟩:=h
 rw[hk]at h6;cases h6
 have nl:∀{b:Addr}{xs:List V},S b=some (.lst xs)->b≠a.o:=λ{b xs} e z=>by rw[z,hk]at e;cases e
 refine⟨dx,fs,_,by rw[Zh (λz=>by rw[z,hk]at h1;cases h1)];exact h1,h2,?_,?_,?_,Zb,Zvb h7 hp,λq hq v e=>?_⟩
 ·rcases h3 with h3|⟨ob,o1,o2⟩
  ·exact .inl (by rw[Zh (λz=>by rw[z,hk]at h3;cases h3)];exact h3)
  ·exact .inr ⟨ob,o1,by rw[Zh (λz=>by rw[z,hk]at o2;cases o2)];exact o2⟩
 ·obtain⟨as,y1,y2,y3⟩:=h4
  exact⟨as,by rw[Zh (nl y1)];exact y1,y2,λv b e=>let ⟨ah,bh,p1,p2,p3⟩:=y3 v b e;⟨ah,bh,p1,p2,by rw[Zh (nl p3)];exact p3⟩⟩
 ·obtain⟨ks,w1,w0,⟨l0,w2,w3⟩,w4⟩:=h5
  exact⟨ks,by rw[Zh (λz=>by rw[z,hk]at w1;cases w1)];exact w1,w0,⟨l0,w2,by rw[Zh (nl w3)];exact w3⟩,λp hp=>let ⟨l,x,e⟩:=w4 p hp;⟨l,x,by rw[Zh (nl e)];exact e⟩⟩
 ·rw[Zc2]at e
  by_cases z:q=p
  ·subst z
   rw[Yc rfl]at e;cases e
   exact⟨hU,l,rfl,by rw[Zh (nl hl)];exact hl⟩
  ·rw[Yb (λy=>z (by have:=Sum.inl.inj y;omega))]at e
   obtain⟨a1,l1,a2,a3⟩:=h8 q hq v e
   exact⟨a1,l1,a2,by rw[Zh (nl a3)];exact a3⟩
theorem ZoP {ns:List Int}{mg:Str->Option Value}{S:Hp}{a:Fa}{T:List Int}{m:Nat}{c:Nat->Nat->Nat}{r:List Nat} (hT:Zi ns T) (h:ZiF mg S a T m c r) (x:Nat):ZiF mg S a T m c (r++[x]):=by
 obtain⟨dx,fs,kvs,h1,h2,h3,h4,h5,h6,h7,h8⟩:=h
 refine⟨dx,fs,kvs,h1,h2,h3,h4,h5,h6,h7,λp hp v e=>?_⟩
 obtain⟨a1,l,a2,a3⟩:=h8 p hp v e
 refine⟨a1.mono (by rw[YL];omega),l,a2,?_⟩
 rw[a3,Znn hT (f:=fnR r) (g:=fnR (r++[x])) (k:=r.length) (λi hi=>by unfold fnR;simp[Ym,YW hi]) _ p hp (Yd _) a1]
noncomputable def Znp (T:List Int) (m:Nat) (c:Nat->Nat->Nat) (r:List Nat):Prop:=Zae T/\T.length<=12/\0<m/\m<=12/\ZX T m c/\(∀i∈r,i<m)/\r.length<=T.length
noncomputable def ZV (n:Nat):SpT:=λK mg vs H Q E=>match n with
 |0=>False
 |n+1=>∃(a:Fa) (T:List Int) (m:Nat) (c:Nat->Nat->Nat) (r:List Nat) (p:Nat),vs=[.ref a.x,.int p]/\Zc4 mg H a T m c r/\Znp T m c r/\p<T.length/\ZhA T p r.length/\3*(way T p).length+1<=n/\∀(l:Addr) H',Exc a.o H H'->Zc4 mg H' a T m c r->strip a.rl H' l=some (.lst (ZbJ m (oW T c (fnR r) p)))->Q (.ref l) H'
noncomputable def Z3 (n:Nat):SpT:=λK mg vs H Q E=>match n with
 |0=>False
 |n+1=>∃(a:Fa) (T:List Int) (m:Nat) (c:Nat->Nat->Nat) (r:List Nat) (p:Nat),vs=[.ref a.x,.int p,.int (nth T p)]/\Zc4 mg H a T m c r/\Znp T m c r/\p<T.length/\ZhA T p r.length/\3*(way T p).length<=n/\∀(l:Addr) H',Exc a.o H H'->Zc4 mg H' a T m c r->strip a.rl H' l=some (.lst (ZbJ m (oW T c (fnR r) p)))->Q (.ref l) H'
noncomputable def Z0 (n:Nat):SpT:=λK mg vs H Q E=>match n with
 |0=>False
 |n+1=>∃(a:Fa) (T:List Int) (m:Nat) (c:Nat->Nat->Nat) (r:List Nat) (p:Nat),vs=[.ref a.x,.int p]/\Zc4 mg H a T m c r/\Znp T m c r/\p<T.length/\ZhA T p r.length/\3*(way T p).length+2<=n/\∀(l:Addr) H',Exc a.o H H'->Zc4 mg H' a T m c r->strip a.rl H' l=some (.lst (ZbJ m (nW T c (fnR r) p)))->Q (.ref l) H'
noncomputable def ZeK:SpT:=Z0 40
noncomputable def Za3:SpT:=λK mg vs H Q E=>∃(a:Fa) (T:List Int) (m:Nat) (c:Nat->Nat->Nat) (r:List Nat),vs=[.ref a.x]/\Zc4 mg H a T m c r/\Znp T m c r/\r.length<T.length/\∀(l:Addr) H',Exc a.o H H'->Zc4 mg H' a T m c r->strip a.rl H' l=some (.lst (ZbJ (abV T m (fnR r) r.length) (nW T c (fnR r) r.length)))->Q (.ref l) H'
theorem ZpI (m:Nat) (g:Nat->Nat):ZbJ m g=((List.range m).map λj=>((g j:Nat):Int)).map V.int:=by simp[ZbJ,YV,Function.comp_def]
theorem Zfv (g:Nat->Nat):∀k,ZC 0 ((List.range k).map λj=>((g j:Nat):Int))=(List.range k).map (λi=>((sumTo g (i+1):Nat):Int))/\((List.range k).map λj=>((g j:Nat):Int)).sum=((sumTo g k:Nat):Int)
 |0=>by simp[ZC,sumTo]
 |k+1=>by
  obtain⟨h1,h2⟩:=Zfv g k
  rw[YQ,YU,ZcC,h1,h2,List.sum_append,h2,YU]
  constructor
  ·simp[ZC,sumTo]
  ·simp[sumTo]
theorem Zvc {T us:List Int} (hG:Zae T) (hl:us.length=T.length) (h:∀p q:Nat,p<T.length->nth T p=q->nth us q-nth (Zl T) q<=nth us p-nth (Zl T) p):Zi us T:=by
 obtain⟨_,nsT,hT⟩:=hG
 have eT:=hT.1
 have hup:∀o p,o<nsT.length->p<nsT.length->Over (nth nsT) o p->nth us o-nth (Zl T) o<=nth us p-nth (Zl T) p:=λo p ho hp hO =>
  Zhr hT (R:=λo p=>nth us o-nth (Zl T) o<=nth us p-nth (Zl T) p) (λp q hp hq e _=>h p q (by omega) e) (λo q p _ _ r1 r2=>by omega) _ p o hp ho rfl hO
 refine⟨hl.symm,λp hp=>?_⟩
 rw[show us.length=nsT.length by omega]at hp⊢
 refine Zm1 hT (λq p hq hp hO=>?_) p hp
 have h1:=hup q p hq hp hO
 have h2:=Zlp hT hp hq hO
 rw[Zbv (by omega),Zbv (by omega)]at h1
 exact⟨λ_=>by omega,λz=>by have:=h2.2 z;omega⟩
theorem Zs1 {T:List Int}{m:Nat}{c d:Nat->Nat->Nat} (h:∀p j,p<T.length->j<=m->c p j=d p j) (p:Nat) {j:Nat} (hj:j<=m):cOf c (ZbI T p) j=cOf d (ZbI T p) j:=by
 cases e:ZbI T p with
 |none=>rfl
 |some q=>exact h q j (Zgh e).2.1 hj
theorem oW_cc {ns T:List Int} (hT:Zi ns T) {c d:Nat->Nat->Nat}{f:Nat->Nat}{m:Nat} (h:∀p j,p<T.length->j<=m->c p j=d p j) (hf:∀e,f e<=m):∀k p x,p<T.length->(way T p).length<=k->x<=m->oW T c f p x=oW T d f p x:=by
 intro k
 induction k with
 |zero =>
  intro p x hp hd _
  rcases Z2 hT hp with⟨z,_⟩|⟨q,z,hq,zw⟩
  ·rw[ZbV hT hp z,ZbV hT hp z]
  ·rw[zw]at hd;simp at hd
 |succ k ih =>
  intro p x hp hd hx
  rcases Z2 hT hp with⟨z,_⟩|⟨q,z,hq,zw⟩
  ·rw[ZbV hT hp z,ZbV hT hp z]
  ·have hd2:(way T q).length<=k:=by rw[zw,Yo]at hd;omega
   by_cases hl:p<q
   ·rw[Zdx hT hp z hl,Zdx hT hp z hl]
    exact ZbE x λy hy=>by unfold nW;rw[ih q y hq hd2 (by omega),Zs1 h q (by omega)]
   ·rw[ZbW hT hp z (by omega),ZbW hT hp z (by omega),ih q _ hq hd2 (hf q)]
theorem Zs2 {ns T:List Int} (hT:Zi ns T) {c d:Nat->Nat->Nat}{f:Nat->Nat}{m:Nat} (h:∀p j,p<T.length->j<=m->c p j=d p j) (hf:∀e,f e<=m):∀k,k<=T.length->rkF T c f k=rkF T d f k
 |0,_=>rfl
 |k+1,hk=>by
  show rkF T c f k+sumTo (nW T c f k) (f k)=rkF T d f k+sumTo (nW T d f k) (f k)
  rw[Zs2 hT h hf k (by omega)]
  congr 1
  have:=hf k
  exact ZbE _ λy hy=>by unfold nW;rw[oW_cc hT h hf _ k y (by omega) (Yd _) (by omega),Zs1 h k (by omega)]
noncomputable def cT (T:List Int) (m:Nat):Nat->Nat->Nat:=cF T m T.length
noncomputable def ZbX (T:List Int) (m:Nat):Nat:=topC T (cT T m)
noncomputable def rk (T:List Int) (m:Nat) (r:List Nat):Nat:=rkF T (cT T m) (fnR r) T.length
noncomputable def Zfw (T:List Int) (m:Nat) (r:List Nat):Prop:=r.length=T.length/\ZaM T m (fnR r) T.length
theorem Zfw.all {T:List Int}{m:Nat}{r:List Nat} (h:Zfw T m r):∀i∈r,i<m:=λi hi=>by
 obtain⟨j,hj,e⟩:=YR hi
 have:=(h.2 j (by rw[<-h.1];exact hj)).1
 have e2:fnR r j=r[j]:=by simp[fnR,Ym,hj]
 omega
theorem Zvd {r:List Nat}{m:Nat} (hr:∀i∈r,i<m) (j:Nat):fnR r j<=m:=by
 by_cases h:j<r.length
 ·have e:fnR r j=r[j]:=by simp[fnR,Ym,h]
  rw[e];exact YM (hr _ (YH h))
 ·simp[fnR,Ym,List.getElem?_eq_none (Nat.le_of_not_lt h)]
theorem rk_of {ns T:List Int} (hT:Zi ns T) {m:Nat}{c:Nat->Nat->Nat} (hW:ZX T m c) {r:List Nat} (h:∀i∈r,i<m):rkF T c (fnR r) T.length=rk T m r :=
 Zs2 hT (λp j hp hj=>Znm hT hW (ZcJ hT m) _ p hp (Yd _) j hj) (Zvd h) _ (Yd _)
theorem Zjq {ns T:List Int} (hT:Zi ns T) {m:Nat}{c:Nat->Nat->Nat} (hW:ZX T m c):topC T c=ZbX T m:=Zu7 hT hW (ZcJ hT m)
theorem ZpJ {ns T:List Int} (hT:Zi ns T) {m:Nat}{r:List Nat} (h:Zfw T m r):rk T m r<ZbX T m:=Zsp hT (ZcJ hT m) h.2
theorem Zve {r s:List Nat} (hl:r.length=s.length) (h:∀i,i<r.length->fnR r i=fnR s i):r=s:=by
 refine List.ext_getElem hl λi h1 h2=>?_
 have:=h i h1
 simpa[fnR,Ym,h1,h2]using this
theorem rk_eq {ns T:List Int} (hT:Zi ns T) {m:Nat}{r s:List Nat} (h:Zfw T m r) (k:Zfw T m s) (e:rk T m r=rk T m s):r=s:=by
 refine Zve (by rw[h.1,k.1]) λi hi=>?_
 exact Zs0 hT (ZcJ hT m) h.2 k.2 e _ (Yd _) i (by rw[<-h.1];exact hi)
noncomputable def Za4 (r:List Nat):List Int:=r.map λi=>((i:Nat):Int)
theorem ZbY {r:List Nat}{i:Nat} (h:i<r.length):nth (Za4 r) i=((fnR r i:Nat):Int):=by
 simp[nth,Za4,fnR,Ym,h]
theorem ZjZ (r:List Nat):ZgP r=(Za4 r).map V.int:=by simp[ZgP,Za4,YV,Function.comp_def]
theorem Zj0 {ns T:List Int} (hT:Zi ns T) (h40:T.length<=40) {m:Nat}{r:List Nat} (h:Zfw T m r):Zi (Za4 r) T:=by
 have eN:=hT.1
 refine Zvc ⟨h40,ns,hT⟩ (by simp[Za4,h.1]) λp q hp e=>?_
 have hq:q<T.length:=by
  rcases Z2 hT hp with⟨z,_⟩|⟨q',z,hq',_⟩
  ·omega
  ·have:q=q':=by omega
   omega
 have hO:Over (nth ns) q p:=((Zam hT (by omega)).mp (by rw[Zal hT (by omega) e];simp)).2
 have h1:=Zh4 hT (by omega) (by omega) e hO
 have hn:=hO.ne
 rw[Zbv (by omega),Zbv (by omega),ZbY (by rw[h.1];exact hq),ZbY (by rw[h.1];exact hp)]
 obtain⟨k1,k2⟩:=(h.2 p hp).2 q e
 by_cases z:p<q
 ·have:=k2 z hq
  rw[Yc z]at h1
  omega
 ·have:=k1 (by omega)
  rw[Yb z]at h1
  omega
theorem ZiG {T:List Int}{m:Nat}{r:List Nat} (h:Zi (Za4 r) T) (hm:∀i∈r,i<m):Zfw T m r:=by
 have hl:(Za4 r).length=r.length:=by simp[Za4]
 have eN:=h.1
 refine⟨by omega,λq hq=>⟨?_,λe he=>?_⟩⟩
 ·have e2:fnR r q=r[q]'(by omega):=by simp[fnR,Ym,show q<r.length by omega]
  rw[e2];exact hm _ (YH _)
 ·have hO:=(Zam h (by omega)).mp (show e∈way T q by rw[Zal h (by omega) he];simp)
  obtain⟨h1,h2⟩:=hO
  refine⟨λz=>?_,λz z2=>?_⟩
  ·rcases h2 with⟨y1,y2⟩|⟨y1,y2⟩
   ·have:=y2 q z (Yd _)
    rw[ZbY (by omega),ZbY (by omega)]at this;omega
   ·omega
  ·rcases h2 with⟨y1,y2⟩|⟨y1,y2⟩
   ·omega
   ·have:=y2 q (Yd _) z
    rw[ZbY (by omega),ZbY (by omega)]at this;omega
theorem Zc5 {r:List Nat}{x i:Nat} (h:i<r.length):fnR (r++[x]) i=fnR r i:=by simp[fnR,Ym,YW h]
theorem Zc6 {r:List Nat}{x:Nat}:fnR (r++[x]) r.length=x:=by simp[fnR,Ym]
theorem ZaM.ext {T:List Int}{m k:Nat}{f g:Nat->Nat} (h:ZaM T m f k) (e:∀i,i<k->f i=g i):ZaM T m g k:=λq hq=>⟨by rw[<-e q hq];exact(h q hq).1,λd hd=>⟨λz=>by rw[<-e q hq,<-e d (by omega)];exact((h q hq).2 d hd).1 z,λz z2=>by rw[<-e q hq,<-e d z2];exact((h q hq).2 d hd).2 z z2⟩⟩
theorem Zvf {T:List Int}{m k:Nat}{f g:Nat->Nat} (e:∀i,i<k->f i=g i):abV T m f k=abV T m g k:=by
 unfold abV
 cases h:ZbH T k with
 |none=>rfl
 |some a=>exact e a (Zcf h).1
theorem Znq {ns T:List Int}{m:Nat}{c:Nat->Nat->Nat} (hT:Zi ns T) (hW:ZX T m c) {r:List Nat}{x rest:Nat} (hk:r.length<T.length) (h:ZaM T m (fnR r) r.length) (hx:x<abV T m (fnR r) r.length) (hr:rest<nW T c (fnR r) r.length x):ZaM T m (fnR (r++[x])) (r.length+1)/\rest<vW T m c (fnR (r++[x])) (r.length+1)/\rkF T c (fnR (r++[x])) (r.length+1)=rkF T c (fnR r) r.length+sumTo (nW T c (fnR r) r.length) x/\x<m:=by
 have e:∀i,i<r.length->fnR r i=fnR (r++[x]) i:=λi hi=>(Zc5 hi).symm
 have e1:=ZjX hT (c:=c) e hk (Zjn hT hk)
 have hP:ZaM T m (fnR (r++[x])) (r.length+1):=by
  refine ZaM.more hT (c:=c) hk (h.ext e) ?_ ?_
  ·rw[Zc6,<-Zvf e];exact hx
  ·rw[Zc6,<-e1];omega
 have hm:=(hP r.length (by omega)).1
 rw[Zc6]at hm
 refine⟨hP,?_,?_,hm⟩
 ·rw[Zme hT hW hk hP,Zc6,<-e1];exact hr
 ·show rkF T c (fnR (r++[x])) r.length+sumTo (nW T c (fnR (r++[x])) r.length) (fnR (r++[x]) r.length)=_
  rw[Zc6,<-e1,Zib hT r.length (by omega) e]
theorem Zge:∀(ws:List Int) (x:Int),0<=x->x<ws.sum->x=(ws.take (ZaL ws x).1).sum+(ZaL ws x).2
 |[],x,h0,h1=>by simp at h1;omega
 |a::ws,x,h0,h1=>by
  rw[List.sum_cons]at h1
  unfold ZaL
  by_cases z:a<=x
  ·rw[Yc z]
   have ih:=Zge ws (x-a) (by omega) (by omega)
   simp only[List.take_succ_cons,List.sum_cons]
   omega
  ·rw[Yb z];simp
theorem Znr {g:Nat->Nat}{k:Nat}{x:Int} (h0:0<=x) (h1:x<(sumTo g k:Nat)):∃i rest:Nat,ZaL ((List.range k).map λj=>((g j:Nat):Int)) x=(i,(rest:Int))/\i<k/\rest<g i/\x=((sumTo g i+rest:Nat):Int):=by
 have hs:x<((List.range k).map λj=>((g j:Nat):Int)).sum:=by rw[(Zfv g k).2];exact h1
 obtain⟨p1,p2,p3⟩:=Zm8 _ x h0 hs
 have p4:=Zge _ x h0 hs
 generalize ZaL ((List.range k).map λj=>((g j:Nat):Int)) x=p at *
 obtain⟨i,y⟩:=p
 simp only[Yf,Y2]at p1
 refine⟨i,y.toNat,by simp only[Prod.mk.injEq,true_and];omega,p1,?_,?_⟩
 ·simp[Ym,p1]at p3
  simp only at p2
  omega
 ·simp only at p4 p2
  rw[<-List.map_take,List.take_range,show min i k=i by omega,(Zfv g i).2]at p4
  omega
noncomputable def Zat:SpT:=λK mg vs H Q E=>∃(x dx t:Addr) (T:List Int) (m:Nat),vs=[.ref x,.ref t,.int m]/\H x=some (.ins (cFi mg) dx [])/\ZqK H t (T.map V.int)/\Zae T/\T.length<=12/\m<=12/\Zcz K mg "from_below" H/\∀(a:Fa) (c:Nat->Nat->Nat) H',a.x=x->a.t=t->H a.rl=none->H a.o=none->Exc x H H'->ZX T m c->Zc4 mg H' a T m c []->Q .non H'
noncomputable def Zmi:SpT:=λK mg vs H Q E=>∃(a:Addr) (ws:List Int) (x:Int),vs=[.ref a,.int x]/\H a=some (.lst (ws.map V.int))/\0<=x/\x<ws.sum/\∀(u:Addr) H',Zf H H'->H' u=some (.tup [.int ((ZaL ws x).1:Nat),.int (ZaL ws x).2])->Q (.ref u) H'
noncomputable def Zid:SpT:=λK mg vs H Q E=>∃(t:Addr) (T:List Int) (m:Nat) (x:Int),vs=[.ref t,.int m,.int x]/\ZbR H t (T.map V.int)/\Zae T/\T.length<=12/\m<=12/\Zcz K mg "from_below" H/\((0<=x/\x<(ZbX T m:Nat))->∀(u:Addr) (r:List Nat) H',H u=none->Zf H H'->Zfw T m r->(rk T m r:Int)=x->H' u=some (.tup (ZgP r))->Q (.ref u) H')/\(¬ (0<=x/\x<(ZbX T m:Nat))->∀H',Zf H H'->E (.ref (clsAt mg "NoNumber")) none H')
noncomputable def ZpK (T:List Int) (n:Nat):Option Nat->Prop
 |none=>0<n
 |some p=>p<T.length/\T.length+1<=n+(way T p).length
noncomputable def ZaX (n:Nat):SpT:=λK mg vs H Q E=>match n with
 |0=>False
 |n+1=>∃(t:Addr) (T:List Int) (o:Option Nat) (m:Nat) (c:Nat->Nat->Nat),vs=[.ref t,optN o,.int 0,.int m]/\SqT K H t (T.map V.int)/\Zae T/\T.length<=12/\m<=12/\ZX T m c/\ZpK T (n+1) o/\∀(l:Addr) (z:Int) H',H l=none->Zf H H'->H' l=some (.lst (ZaV m (cOf c o)++[.int z]))->Q (.ref l) H'
noncomputable def Ze7:SpT:=ZaX 13
noncomputable def ZeL:SpT:=λK mg vs H Q E=>∃(t:Addr) (T:List Int) (m:Nat) (c:Nat->Nat->Nat),vs=[.ref t,.int m]/\ZbR H t (T.map V.int)/\Zae T/\T.length<=12/\m<=12/\ZX T m c/\∀H',Zf H H'->Q (.int ((topC T c:Nat):Int)) H'
noncomputable def ZeM:SpT:=λK mg vs H Q E=>∃(r:Addr) (ns:List Int),vs=[.ref r]/\(SqL K H r (ns.map V.int)\/SqT K H r (ns.map V.int))/\ns.length<=1000/\∀(t:Addr) (es:List Int) H',H t=none->Zi ns es->Zf H H'->ZbR H' t (es.map V.int)->Q (.ref t) H'
noncomputable def Zns (m:Nat):Nat->List (List Nat)
 |0=>[[]]
 |k+1=>(Zns m k).flatMap λr=>(List.range m).map λx=>r++[x]
theorem Zj1 (m:Nat):∀k s,s∈Zns m k↔s.length=k/\∀i∈s,i<m
 |0,s=>by
  simp only[Zns,Y8]
  constructor
  ·rintro rfl;simp
  ·rintro⟨h,_⟩;exact List.length_eq_zero_iff.mp h
 |k+1,s=>by
  simp only[Zns,List.mem_flatMap,YB,Yu]
  constructor
  ·rintro⟨r,hr,x,hx,rfl⟩
   obtain⟨h1,h2⟩:=(Zj1 m k r).mp hr
   refine⟨by simp[h1],λi hi=>?_⟩
   rcases YC.mp hi with z|z
   ·exact h2 i z
   ·simp at z;omega
  ·rintro⟨h1,h2⟩
   have hne:s≠[]:=λz=>by rw[z]at h1;simp at h1
   refine⟨s.dropLast,(Zj1 m k _).mpr ⟨by simp[h1],λi hi=>h2 i ((List.dropLast_subset s hi))⟩,s.getLast hne,h2 _ (List.getLast_mem hne),List.dropLast_concat_getLast hne⟩
noncomputable def LexN (r s:List Nat):Prop:=r.length=s.length/\∃d,d<r.length/\(∀i,i<d->fnR r i=fnR s i)/\fnR r d<fnR s d
theorem ZiH (m:Nat):∀k,(Zns m k).Pairwise LexN
 |0=>by simp[Zns]
 |k+1=>by
  simp only[Zns]
  rw[List.pairwise_flatMap]
  refine⟨λr _=>?_,(ZiH m k).imp λ{r s} h x hx y hy=>?_⟩
  ·rw[List.pairwise_map]
   refine List.pairwise_lt_range.imp λ{a b} h=>⟨by simp,r.length,by simp,λi hi=>by rw[Zc5 hi,Zc5 hi],by rw[Zc6,Zc6];exact h⟩
  ·obtain⟨a,_,rfl⟩:=YB.mp hx
   obtain⟨b,_,rfl⟩:=YB.mp hy
   obtain⟨h1,d,h2,h3,h4⟩:=h
   refine⟨by simp[h1],d,by simp;omega,λi hi=>?_,?_⟩
   ·rw[Zc5 (by omega),Zc5 (by omega)];exact h3 i hi
   ·rw[Zc5 h2,Zc5 (by omega)];exact h4
theorem ZlH {ns T:List Int} (hT:Zi ns T) {m x:Nat} (hx:x<ZbX T m):∃r,Zfw T m r/\rk T m r=x:=by
 have hW:ZX T m (cT T m):=ZcJ hT m
 have key:∀k,k<=T.length->∃(r:List Nat) (rest:Nat),r.length=k/\ZaM T m (fnR r) k/\rest<vW T m (cT T m) (fnR r) k/\x=rkF T (cT T m) (fnR r) k+rest:=by
  intro k
  induction k with
  |zero =>
   intro _
   refine⟨[],x,rfl,(λq hq=>absurd hq (by omega)),?_,?_⟩
   ·rw[Zmf hT hW];exact hx
   ·show x=0+x
    omega
  |succ k ih =>
   intro hk
   obtain⟨r,rest,rfl,hP,hrest,hx⟩:=ih (by omega)
   rw[show vW T m (cT T m) (fnR r) r.length=sumTo (nW T (cT T m) (fnR r) r.length) (abV T m (fnR r) r.length) by unfold vW;rw[Yb (by omega)]]at hrest
   obtain⟨i,rest2,pk,p1,p2,p3⟩:=Znr (g:=nW T (cT T m) (fnR r) r.length) (k:=abV T m (fnR r) r.length) (x:=(rest:Int)) (by omega) (by omega)
   obtain⟨q1,q2,q3,q4⟩:=Znq hT hW (by omega) hP p1 p2
   refine⟨r++[i],rest2,by simp,q1,q2,?_⟩
   rw[hx,q3]
   omega
 obtain⟨r,rest,h1,h2,h3,h4⟩:=key T.length (Yd _)
 have:rest=0:=by
  unfold vW at h3
  rw[Yc rfl]at h3;omega
 exact⟨r,⟨h1,h2⟩,by rw[h4,this];rfl⟩
noncomputable def ZE (T:List Int) (m:Nat):List (List Nat):=(Zns m T.length).filter λs=>decide (Zni (Za4 s)=T)
theorem ZaA {ns T:List Int} (hT:Zi ns T) (h40:T.length<=40) {m:Nat}{s:List Nat}:s∈ZE T m↔Zfw T m s:=by
 unfold ZE
 rw[YS,Zj1,decide_eq_true_eq]
 constructor
 ·rintro⟨⟨h1,h2⟩,h3⟩
  exact ZiG (by rw[<-h3];exact Znj _) h2
 ·intro h
  exact⟨⟨h.1,h.all⟩,Zi.unique (Znj _) (Zj0 hT h40 h)⟩
theorem ZhC {ns T:List Int} (hT:Zi ns T) (h40:T.length<=40) {m:Nat}:∀j (h:j<(ZE T m).length),rk T m (ZE T m)[j]=j:=by
 have hs:(ZE T m).Pairwise LexN:=(ZiH m T.length).filter _
 have mono:∀i j (hi:i<(ZE T m).length) (hj:j<(ZE T m).length),i<j->rk T m (ZE T m)[i]<rk T m (ZE T m)[j]:=λi j hi hj h=>by
  obtain⟨_,d,d1,d2,d3⟩:=List.pairwise_iff_getElem.mp hs i j hi hj h
  have r1:=(ZaA hT h40).mp (YH hi)
  exact Zjp hT (ZcJ hT m) r1.2 d (by rw[<-r1.1];exact d1) d2 d3
 intro j
 induction j using Nat.strongRecOn with
 |_ j ih =>
  intro hj
  rcases Nat.lt_trichotomy (rk T m (ZE T m)[j]) j with z|z|z
  ·have h1:=ih _ z (by omega)
   have h2:=mono _ j (by omega) hj z
   omega
  ·exact z
  ·exfalso
   have hlt:=ZpJ hT ((ZaA hT h40).mp (YH hj))
   obtain⟨r,hr,e⟩:=ZlH hT (m:=m) (x:=j) (by omega)
   obtain⟨i,hi,ei⟩:=YR ((ZaA hT h40).mpr hr)
   rw[<-ei]at e
   rcases Nat.lt_trichotomy i j with y|y|y
   ·have:=ih i y hi;omega
   ·subst y;omega
   ·have:=mono j i hj hi y;omega
theorem Znt {ns T:List Int} (hT:Zi ns T) (h40:T.length<=40) (m:Nat):(ZE T m).length=ZbX T m:=by
 rcases Nat.lt_trichotomy (ZE T m).length (ZbX T m)with z|z|z
 ·exfalso
  obtain⟨r,hr,e⟩:=ZlH hT z
  obtain⟨i,hi,ei⟩:=YR ((ZaA hT h40).mpr hr)
  have:=ZhC hT h40 i hi
  rw[ei]at this
  omega
 ·exact z
 ·exfalso
  have h1:=ZhC (m:=m) hT h40 (ZbX T m) z
  have h2:=ZpJ hT ((ZaA hT h40).mp (YH z))
  omega
noncomputable def ZcF:SpT:=λK mg vs H Q E=>∃(t:Addr) (T:List Int),vs=[.ref t]/\ZbR H t (T.map V.int)/\Zae T/\T.length<=12/\∀(m:Nat) H',m<=12->ZbX T m<=30->Zf H H'->Q (.int m) H'
noncomputable def ZiI (T ls ds:List Int):Prop:=ds.length=T.length/\∀p,p<T.length->(∃o∈p::way T p,nth ds p=nth ls o+nth (Zl T) p-nth (Zl T) o)/\∀o∈p::way T p,nth ls o+nth (Zl T) p-nth (Zl T) o<=nth ds p
noncomputable def Zie (T ls gs:List Int) (a b:Int):Prop:=0<=a/\0<=b/\a<T.length/\b<T.length/\(a=b\/a∈Ze8 T b.toNat)/\nth gs b.toNat<nth ls a.toNat+nth (Zl T) b.toNat-nth (Zl T) a.toNat
noncomputable def Zc7:SpT:=λK mg vs H Q E=>∃(t:Addr) (T:List Int) (p:Nat),vs=[.ref t,.int p]/\SqT K H t (T.map V.int)/\T.length<=1000/\p<T.length/\∀H',Zf H H'->Q (.int (Zbh T p:Nat)) H'
noncomputable def Zdy:SpT:=λK mg vs H Q E=>∃(t:Addr) (T:List Int),vs=[.ref t]/\SqT K H t (T.map V.int)/\T.length<=1000/\(Zae T->∀(t':Addr) H',Zf H H'->H' t'=some (.tup ((Zl T).map V.int))->Q (.ref t') H')/\(¬ Zae T->∀H',Zf H H'->E (.ref (clsAt mg "NoTree")) none H')
noncomputable def hgt (F ns:List Int):List Int:=(List.range F.length).map λi=>nth ns i-nth F i
noncomputable def Zco:SpT:=λK mg vs H Q E=>∃(f r:Addr) (F ns:List Int),vs=[.ref f,.ref r]/\H f=some (.tup (F.map V.int))/\(SqL K H r (ns.map V.int)\/SqT K H r (ns.map V.int))/\F.length<=1000/\ns.length<=1000/\(ns.length=F.length->∀(l:Addr) H',H l=none->Zf H H'->H' l=some (.lst ((hgt F ns).map V.int))->Q (.ref l) H')/\(ns.length≠F.length->∀H',Zf H H'->E (.ref (clsAt mg "Unlike")) none H')
noncomputable def ZgR:SpT:=λK mg vs H Q E=>∃(t:Addr) (T:List Int) (a b:Int),vs=[.ref t,.int a,.int b]/\SqT K H t (T.map V.int)/\T.length<=1000/\∀H',Zf H H'->Q (.bl (decide (0<=b/\b<T.length/\a∈Ze8 T b.toNat))) H'
noncomputable def Zc8 (T fl rf hs:List Int) (p:Nat):Prop:=nth hs p=(if nth T p=-1 then nth fl p else max (nth fl p) (nth hs (nth T p).toNat))/\nth hs p<=nth rf p
noncomputable instance (T fl rf hs:List Int) (p:Nat):Decidable (Zc8 T fl rf hs p):=by unfold Zc8;exact inferInstance
noncomputable def ZdL:SpT:=λK mg vs H Q E=>∃(t a b c:Addr) (T fl rf hs:List Int),vs=[.ref t,.ref a,.ref b,.ref c]/\SqT K H t (T.map V.int)/\H a=some (.lst (fl.map V.int))/\H b=some (.lst (rf.map V.int))/\H c=some (.lst (hs.map V.int))/\Zae T/\fl.length=T.length/\rf.length=T.length/\hs.length=T.length/\∀H',Zf H H'->Q (.bl (decide (∀p,p<T.length->Zc8 T fl rf hs p))) H'
noncomputable def Zfx (T fl rf:List Int) (a b:Int):Prop:=(0<=b/\b<T.length/\a∈Ze8 T b.toNat\/a=b/\0<=a/\a<T.length)/\nth rf b.toNat<nth fl a.toNat
noncomputable instance (T fl rf:List Int) (a b:Int):Decidable (Zfx T fl rf a b):=by unfold Zfx;exact inferInstance
noncomputable def Zfy:SpT:=λK mg vs H Q E=>∃(t c d:Addr) (T fl rf:List Int) (a b:Int),vs=[.ref t,.ref c,.ref d,.int a,.int b]/\SqT K H t (T.map V.int)/\H c=some (.lst (fl.map V.int))/\H d=some (.lst (rf.map V.int))/\Zae T/\fl.length=T.length/\rf.length=T.length/\∀H',Zf H H'->Q (.bl (decide (Zfx T fl rf a b))) H'
inductive Td where
 |row (ns:List Int)
 |clash (a b:Int)
noncomputable def ZgS (H:Hp) (t:Addr):Td->Prop
 |.row ns=>ns.length<=1000/\∃r:Addr,H t=some (.tup [.str (Str.ofString "row"),.ref r])/\H r=some (.tup (ns.map V.int))
 |.clash a b=>H t=some (.tup [.str (Str.ofString "clash"),.int a,.int b])
noncomputable def ZgT (T ls gs:List Int):Td->Prop
 |.row ns=>ns.length=T.length/\∀p,p<T.length->Zc8 T (hgt (Zl T) ls) (hgt (Zl T) gs) (hgt (Zl T) ns) p
 |.clash a b=>Zfx T (hgt (Zl T) ls) (hgt (Zl T) gs) a b
noncomputable instance (T ls gs:List Int) (d:Td):Decidable (ZgT T ls gs d):=by cases d<;>(unfold ZgT;exact inferInstance)
noncomputable def ZcG:SpT:=λK mg vs H Q E=>∃(t a b c:Addr) (T ls gs:List Int) (d:Td),vs=[.ref t,.ref a,.ref b,.ref c]/\SqT K H t (T.map V.int)/\(SqL K H a (ls.map V.int)\/SqT K H a (ls.map V.int))/\(SqL K H b (gs.map V.int)\/SqT K H b (gs.map V.int))/\Zae T/\ls.length=T.length/\gs.length=T.length/\ZgS H c d/\∀H',Zf H H'->Q (.bl (decide (ZgT T ls gs d))) H'
noncomputable def Zif (F us:List Int):List Int:=(List.range F.length).map λi=>nth F i+nth us i
noncomputable def Zig:SpT:=λK mg vs H Q E=>∃(f h:Addr) (F us:List Int),vs=[.ref f,.ref h]/\H f=some (.tup (F.map V.int))/\H h=some (.lst (us.map V.int))/\F.length=us.length/\us.length<=1000/\∀(t:Addr) H',Zf H H'->H' t=some (.tup ((Zif F us).map V.int))->Q (.ref t) H'
noncomputable def ZoQ (T hs us:List Int):Prop:=us.length=T.length/\∀p,p<T.length->nth us p=if nth T p=-1 then nth hs p else max (nth hs p) (nth us (nth T p).toNat)
noncomputable def Zih:SpT:=λK mg vs H Q E=>∃(t h:Addr) (T hs:List Int),vs=[.ref t,.ref h]/\SqT K H t (T.map V.int)/\H h=some (.lst (hs.map V.int))/\Zae T/\hs.length=T.length/\Zcz K mg "from_below" H/\∀(l:Addr) (us:List Int) H',H l=none->Zf H H'->ZoQ T hs us->H' l=some (.lst (us.map V.int))->Q (.ref l) H'
noncomputable def FirstC (T ls gs ds:List Int) (i j:Nat):Prop:=i<T.length/\(∀p,p<i->nth ds p<=nth gs p)/\¬ nth ds i<=nth gs i/\j<(i::way T i).length/\nth (hgt (Zl T) ls) ((i::way T i).getD j 0)=nth ds i-nth (Zl T) i/\∀j',j'<j->nth (hgt (Zl T) ls) ((i::way T i).getD j' 0)≠nth ds i-nth (Zl T) i
noncomputable def Znu (T ls gs:List Int):Td->Prop
 |.row ds=>ZiI T ls ds/\∀p,p<T.length->nth ds p<=nth gs p
 |.clash a b=>Zie T ls gs a b/\∃(ds:List Int) (i j:Nat),ZiI T ls ds/\FirstC T ls gs ds i j/\a=((i::way T i).getD j 0:Nat)/\b=(i:Int)
noncomputable def Zii:SpT:=λK mg vs H Q E=>∃(t a b:Addr) (T ls gs:List Int),vs=[.ref t,.ref a,.ref b]/\SqT K H t (T.map V.int)/\(SqL K H a (ls.map V.int)\/SqT K H a (ls.map V.int))/\(SqL K H b (gs.map V.int)\/SqT K H b (gs.map V.int))/\Zae T/\ls.length=T.length/\gs.length=T.length/\Zcz K mg "from_below" H/\∀(c:Addr) (d:Td) H',Zf H H'->ZgS H' c d->Znu T ls gs d->Q (.ref c) H'
noncomputable def soT (T ls gs:List Int):Td->Prop
 |.row ns=>∃ds,ZiI T ls ds/\ns=ds/\∀p,p<T.length->nth ds p<=nth gs p
 |.clash a b=>Zie T ls gs a b
noncomputable def ZbZ (H:Hp) (l:Addr) (T:List Int) (m:Nat):Prop:=∃as:List Addr,H l=some (.lst (as.map V.ref))/\as.length=(ZE T m).length/\∀j (h1:j<as.length) (h2:j<(ZE T m).length),H as[j]=some (.tup (ZgP (ZE T m)[j]))
theorem ZbZ.same {H H':Hp}{l:Addr}{T:List Int}{m:Nat} (h:ZbZ H l T m) (s:Zf H H'):ZbZ H' l T m:=by
 obtain⟨as,h1,h2,h3⟩:=h
 exact⟨as,s _ _ h1,h2,λj a b=>s _ _ (h3 j a b)⟩
noncomputable def InB (ls gs ns:List Int):Prop:=∀p,p<ns.length->nth ls p<=nth ns p/\nth ns p<=nth gs p
noncomputable instance (ls gs ns:List Int):Decidable (InB ls gs ns):=by unfold InB;exact inferInstance
noncomputable def Zc9:SpT:=λK mg vs H Q E=>∃(r a b:Addr) (ns ls gs:List Int),vs=[.ref r,.ref a,.ref b]/\H r=some (.tup (ns.map V.int))/\(SqL K H a (ls.map V.int)\/SqT K H a (ls.map V.int))/\(SqL K H b (gs.map V.int)\/SqT K H b (gs.map V.int))/\ls.length=ns.length/\gs.length=ns.length/\ns.length<=12/\∀H',Zf H H'->Q (.bl (decide (InB ls gs ns))) H'
noncomputable def ZdM:SpT:=λK mg vs H Q E=>∃(t l a b:Addr) (T ls gs:List Int) (m:Nat),vs=[.ref t,.ref l,.ref a,.ref b]/\ZbR H t (T.map V.int)/\Zae T/\T.length<=12/\m<=12/\ZbX T m<=30/\ZbZ H l T m/\SqL K H a (ls.map V.int)/\(SqL K H b (gs.map V.int)\/SqT K H b (gs.map V.int))/\ls.length=T.length/\gs.length=T.length/\(∀q∈ls,0<=q)/\(∀q∈gs,q<(m:Int))/\Zcz K mg "from_below" H/\∀H',Zf H H'->Q (.bl true) H'
section
variable {P:Program}{w:World}{K:PySem.W.Frag}{mg:Str->Option Value}{base:Heap}
theorem ZqM:FnScope ["elders","spine","place","keep"] ["elders","spine","place","keep"] (defScope Zej):=⟨rfl,rfl,rfl,by decide +kernel,rfl,by decide +kernel,by decide +kernel⟩
theorem Zcg:FnScope ["row","elders","spine","place","keep"] ["row"] (defScope ZcU):=⟨rfl,rfl,rfl,by decide +kernel,rfl,by decide +kernel,by decide +kernel⟩
theorem Zgi:FnScope ["tree","place","way","at"] ["tree","place"] (defScope Zek):=⟨rfl,rfl,rfl,by decide +kernel,rfl,by decide +kernel,by decide +kernel⟩
theorem Zj2:FnScope ["tree","depths"] ["tree"] (defScope ZcV):=⟨rfl,rfl,rfl,by decide +kernel,rfl,by decide +kernel,by decide +kernel⟩
theorem Zmj:FnScope ["tree"] ["tree"] (defScope Zbx):=⟨rfl,rfl,rfl,by decide +kernel,rfl,by decide +kernel,by decide +kernel⟩
theorem Zdz:FnScope ["tree","young","place","elder"] ["tree"] (defScope Zb9):=⟨rfl,rfl,rfl,by decide +kernel,rfl,by decide +kernel,by decide +kernel⟩
theorem ZkU:FnScope ["tree"] ["tree"] (defScope Zba):=⟨rfl,rfl,rfl,by decide +kernel,rfl,by decide +kernel,by decide +kernel⟩
theorem ZaN:FnScope ["numbers","sums","total","number"] ["numbers"] (defScope Zaw):=⟨rfl,rfl,rfl,by decide +kernel,rfl,by decide +kernel,by decide +kernel⟩
theorem Zjr:FnScope ["ways","number","at"] ["ways","number"] (defScope Zh8):=⟨rfl,rfl,rfl,by decide +kernel,rfl,by decide +kernel,by decide +kernel⟩
theorem Znv:FnScope ["many","m"] ["many","m"] (defScope Zca):=⟨rfl,rfl,rfl,by decide +kernel,rfl,by decide +kernel,by decide +kernel⟩
theorem Zbe:FnScope ["tree","young","m","ways","place","ahead","behind","each"] ["tree","young","m"] (defScope Zby):=⟨rfl,rfl,rfl,by decide +kernel,rfl,by decide +kernel,by decide +kernel⟩
theorem Zgn:FnScope ["self","tree","m"] ["self","tree","m"] (defScope ZW):=⟨rfl,rfl,rfl,by decide +kernel,rfl,by decide +kernel,by decide +kernel⟩
theorem ZdN:FnScope ["self"] ["self"] (defScope ZH):=⟨rfl,rfl,rfl,by decide +kernel,rfl,by decide +kernel,by decide +kernel⟩
theorem ZbF:FnScope ["self","place"] ["self","place"] (defScope ZL):=⟨rfl,rfl,rfl,by decide +kernel,rfl,by decide +kernel,by decide +kernel⟩
theorem Z6:FnScope ["self","place","elder","least"] ["self","place","elder"] (defScope Zy):=⟨rfl,rfl,rfl,by decide +kernel,rfl,by decide +kernel,by decide +kernel⟩
theorem ZaI:FnScope ["self","place","behind"] ["self","place"] (defScope ZN):=⟨rfl,rfl,rfl,by decide +kernel,rfl,by decide +kernel,by decide +kernel⟩
theorem Zan:FnScope ["self","place","ahead","above"] ["self"] (defScope ZS):=⟨rfl,rfl,rfl,by decide +kernel,rfl,by decide +kernel,by decide +kernel⟩
theorem Zmk:FnScope ["tree","m"] ["tree","m"] (defScope Zbz):=⟨rfl,rfl,rfl,by decide +kernel,rfl,by decide +kernel,by decide +kernel⟩
theorem Zep:FnScope ["tree","m","number","filling","place","chosen"] ["tree","m","number"] (defScope Zel):=⟨rfl,rfl,rfl,by decide +kernel,rfl,by decide +kernel,by decide +kernel⟩
theorem Zj3:FnScope ["tree","place"] ["tree","place"] (defScope ZaQ):=⟨rfl,rfl,rfl,by decide +kernel,rfl,by decide +kernel,by decide +kernel⟩
theorem Znw:FnScope ["tree"] ["tree"] (defScope Zcb):=⟨rfl,rfl,rfl,by decide +kernel,rfl,by decide +kernel,by decide +kernel⟩
theorem ZkV:FnScope ["flat","row"] ["flat","row"] (defScope Zbb):=⟨rfl,rfl,rfl,by decide +kernel,rfl,by decide +kernel,by decide +kernel⟩
theorem ZqN:FnScope ["flat","heights"] ["flat","heights"] (defScope Zem):=⟨rfl,rfl,rfl,by decide +kernel,rfl,by decide +kernel,by decide +kernel⟩
theorem Zij:FnScope ["tree","heights","up","place"] ["tree","heights"] (defScope Zen):=⟨rfl,rfl,rfl,by decide +kernel,rfl,by decide +kernel,by decide +kernel⟩
theorem ZoR:FnScope ["tree","a","b"] ["tree","a","b"] (defScope ZcW):=⟨rfl,rfl,rfl,by decide +kernel,rfl,by decide +kernel,by decide +kernel⟩
theorem ZbG:FnScope ["tree","least","greatest","flat","floors","roofs","needed","b","height","lifting"] ["tree","least","greatest"] (defScope Zeo):=⟨rfl,rfl,rfl,by decide +kernel,rfl,by decide +kernel,by decide +kernel⟩
theorem Zbj:FnScope ["tree","floors","roofs","heights","place","height","elder","needed"] ["tree","floors","roofs","heights"] (defScope Zbc):=⟨rfl,rfl,rfl,by decide +kernel,rfl,by decide +kernel,by decide +kernel⟩
theorem ZiJ:FnScope ["tree","floors","roofs","a","b","there"] ["tree","floors","roofs","a","b"] (defScope Zcc):=⟨rfl,rfl,rfl,by decide +kernel,rfl,by decide +kernel,by decide +kernel⟩
theorem Zbn:FnScope ["tree","least","greatest","told","flat","floors","roofs"] ["tree","least","greatest","told"] (defScope Zax):=⟨rfl,rfl,rfl,by decide +kernel,rfl,by decide +kernel,by decide +kernel⟩
theorem ZaJ:FnScope ["cell","great","one","k","two"] ["cell"] (defScope ZbA):=⟨rfl,rfl,rfl,by decide +kernel,rfl,by decide +kernel,by decide +kernel⟩
theorem ZhD:FnScope ["pot","many","digit"] ["pot","many"] (defScope ZbB):=⟨rfl,rfl,rfl,by decide +kernel,rfl,by decide +kernel,by decide +kernel⟩
theorem Zda:FnScope ["pot","many","order","number"] ["pot","many"] (defScope ZaR):=⟨rfl,rfl,rfl,by decide +kernel,rfl,by decide +kernel,by decide +kernel⟩
theorem Zao:FnScope ["pot","most","many","kind","row","place","few","great"] ["pot","most"] (defScope Zcd):=⟨rfl,rfl,rfl,by decide +kernel,rfl,by decide +kernel,by decide +kernel⟩
theorem Zap:FnScope ["row","elders","place","number","earlier","later","elder"] ["row"] (defScope ZbC):=⟨rfl,rfl,rfl,by decide +kernel,rfl,by decide +kernel,by decide +kernel⟩
theorem ZJ:FnScope ["tree","place","least","m","hands","other","elder","ahead","behind","many","number","one"] ["tree","place","least","m"] (defScope Zay):=⟨rfl,rfl,rfl,by decide +kernel,rfl,by decide +kernel,by decide +kernel⟩
theorem Zml:FnScope ["tree","m"] ["tree","m"] (defScope ZbD):=⟨rfl,rfl,rfl,by decide +kernel,rfl,by decide +kernel,by decide +kernel⟩
theorem Zbo:FnScope ["tree","m","more"] ["tree"] (defScope Zaz):=⟨rfl,rfl,rfl,by decide +kernel,rfl,by decide +kernel,by decide +kernel⟩
theorem Zj4:FnScope ["row","least","most"] ["row","least","most"] (defScope ZaS):=⟨rfl,rfl,rfl,by decide +kernel,rfl,by decide +kernel,by decide +kernel⟩
theorem ZdO:FnScope ["tree","rows","least","most","found","some"] ["tree","rows","least","most"] (defScope Zbd):=⟨rfl,rfl,rfl,by decide +kernel,rfl,by decide +kernel,by decide +kernel⟩
theorem Zb0:FnScope ["script","cell","pot","tree","m","rows","turn","least","most","row"] ["script"] (defScope Zhx):=⟨rfl,rfl,rfl,by decide +kernel,rfl,by decide +kernel,by decide +kernel⟩
theorem Zmm {f:Addr}{fd:FuncData} (F:Fun K "_law_deal" "_law_deal" ZbA f fd) (T:Txt K mg):FnOk P w K mg base (CXE P w) 1 f fd ["cell"] (ZeF K mg):=by
 refine F.okX ZaJ (λvs H Q E h=>?_) (λcdv A outer s H vs Q E hr h=>?_)
 ·obtain⟨c,rfl,_⟩:=h;rfl
 obtain⟨cell,rfl,k1⟩:=h
 refine⟨_,(Zd (Z8 (Zs ZmM (pv 0) (Zp Zfh Ze Ze) (Zr _)) (Zg (Zt (Z1 (Za (Zp ZgF (Zp ZcY (pv 0) (Zp Zfh Ze Ze)) (Zp Zbl (Zp Zbl (Zp Zfh Ze Ze) (Zp Zfh Ze Ze)) (Zp Zfh Ze Ze))) Zc)))) Zz)
   (Zd (Zn (i:=1) ZaJ.nd rfl (Or.inl rfl) Ze)
   (Zd (Zn (i:=2) ZaJ.nd rfl (Or.inl rfl) (Zp ZaD (Zp ZgF (pv 0) Ze) Ze))
   (Zd (Zar (ZaU PassesOwn.never rfl (ZaO rfl T.b_range (Za Ze Zc)) (Zk (i:=3) ZaJ.nd rfl (Or.inl rfl)) (Zd (Zn (i:=2) ZaJ.nd rfl (Or.inl rfl) (Zp ZgF (Zp ZaD (Zp ZaD (Zp Zbl (pv 2) Ze) (Zp Zbl Ze (pv 3))) Ze) Ze))
   (Zd (Zn (i:=4) ZaJ.nd rfl (Or.inl rfl) (Zp ZgF (Zp Zbl (pv 2) (pv 2)) Ze))
   (Zg (Zn (i:=1) ZaJ.nd rfl (Or.inl rfl) (Zp ZaD (Zp Zbl (pv 1) Ze) (Zp ZgF (Zp Zm6 (pv 4) Ze) Ze))))))))
   (Zg (Zt (Z1 (Za (pv 1) Zc)))))))),?_⟩
 walk_at "rd"
 have fin:∀g:Int,0<=g->∀p,H p=none->Q (V.ref p) (upd H p (.lst [V.int g])):=λg hg p hp=>k1 p _ hp ((Zf.refl H).upd hp) ⟨_,Zb,hg⟩
 refine⟨cp18,ZK (λ_=>⟨cp18,cp64,cp64,pm1,cp64,pm2,pmz3,by decide,fin _ (Int.emod_nonneg _ (Int.ne_of_gt pmz3))⟩) λ_=>⟨by decide,by decide,by decide,?_⟩⟩
 refine Zb7 (λi σ H'=>∃g o v3 v4,σ=[some (.int cell),some (.int g),some (.int o),v3,v4]/\0<=g/\H'=H) ⟨0,_,none,none,rfl,Int.le_refl _,rfl⟩ ?_ ?_
 ·rintro i σ H' hi ⟨g,o,v3,v4,rfl,hg,rfl⟩
  walk_at "rd"
  have b1:=Int.emod_nonneg (o*48271+7919*(0+(i:Int))+12345) (b:=2147483647) (by decide)
  have b2:=Int.emod_lt_of_pos (o*48271+7919*(0+(i:Int))+12345) (b:=2147483647) (by decide)
  refine⟨mul_r (by decide) (by decide),Zpq (by decide) (by decide),by decide,Zpq (by omega) (by omega),by decide,mul_r (by decide) (by decide),⟨by decide,by decide⟩,by decide,?_⟩
  have b3:=Int.emod_nonneg ((o*48271+7919*(0+(i:Int))+12345) % 2147483647*((o*48271+7919*(0+(i:Int))+12345) % 2147483647) % 2147483629 / 256) (b:=4194304) (by decide)
  have b4:=Int.mul_nonneg hg (show(0:Int)<=4194304 by decide)
  omega
 ·rintro σ H' ⟨g,o,v3,v4,rfl,hg,rfl⟩
  walk_at "rd"
  exact⟨by decide,fin g hg⟩
theorem Zmn {f:Addr}{fd:FuncData} (F:Fun K "_law_take" "_law_take" ZbB f fd) (T:Txt K mg):FnOk P w K mg base (CXE P w) 1 f fd ["pot","many"] (ZbS K mg):=by
 refine F.okX ZhD (λvs H Q E h=>?_) (λcdv A outer s H vs Q E hr h=>?_)
 ·obtain⟨p,many,rfl,_⟩:=h;rfl
 obtain⟨p,many,rfl,h0,h1,⟨x,hp,hx⟩,k1⟩:=h
 refine⟨_,(Zd (Zn (i:=2) ZhD.nd rfl (Or.inl rfl) (Zp ZgF (Zv Zq (pv 0) Ze (λ_ _=>rfl)) (pv 1)))
   (Zd (ZdH (Zp Zm6 (Zv Zq (pv 0) Ze (λ_ _=>rfl)) (pv 1)) (Zfe (pv 0) Ze set_list (λ_=>rfl)))
   (Zg (Zt (pv 2))))),?_⟩
 walk_at "rd"
 refine⟨_,SqL.of hp,_,rfl,_,rfl,h0,?_⟩
 refine⟨_,SqL.of hp,_,rfl,_,rfl,⟨h0,by omega⟩,_,hp,_,rfl,?_⟩
 exact k1 _ _ (Int.emod_nonneg _ (by omega)) (Int.emod_lt_of_pos _ h0) ⟨_,Zb,Int.ediv_nonneg hx (by omega)⟩ Exc.upd
theorem Zj5 {f:Addr}{fd:FuncData} (F:Fun K "_law_unlike" "_law_unlike" ZaR f fd) (ZM:Callee P w K mg base "_law_take" 1 ["pot","many"] (ZbS K mg)) (T:Txt K mg):FnOk P w K mg base (CXE P w) 2 f fd ["pot","many"] (Zc3 K mg):=by
 refine F.okX Zda (λvs H Q E h=>?_) (λcdv A outer s H vs Q E hr h=>?_)
 ·obtain⟨p,many,rfl,_⟩:=h;rfl
 obtain⟨p,many,rfl,h0,h1,hP,k1⟩:=h
 refine⟨_,(Zd (Zn (i:=2) Zda.nd rfl (Or.inl rfl) (Z1 Zc))
   (Zd (Zar (ZaU PassesOwn.never rfl (ZaO rfl T.b_range (Za (pv 1) Zc)) (Zk (i:=3) Zda.nd rfl (Or.inl rfl)) (Zg (Za6 (ZjG PySem.F.plainAttrs_list PySem.F.slot_list_insert PySem.F.type_list_insert Zqb (pv 2) (Za (Zj ZM (hr.mono (by decide)) rfl ZD (Za (pv 0) (Za (Zp ZaD (pv 3) Ze) Zc))) (Za (pv 3) Zc)))))))
   (Zg (Zt (pv 2))))),?_⟩
 walk_at "rd"
 refine⟨Ys _,λq hq=>⟨by omega,by omega,?_⟩⟩
 have hqp:q≠p:=hP.ne hq
 refine Zb7 (λi σ H'=>∃(ns:List Int) (v3:Option V),σ=[some (.ref p),some (.int many),some (.ref q),v3]/\ns.length=i/\H' q=some (.lst (ns.map V.int))/\ZQ H' p/\Exc p H H') ⟨[],none,rfl,rfl,Zb,hP.upd hq,(Zf.refl H).Zfl.Zqa hq⟩ ?_ ?_
 ·rintro i σ H' hi ⟨ns,v3,rfl,hlen,hq',P',e'⟩
  walk_at "rd"
  refine⟨Zc0 hq',p,_,rfl,by omega,by omega,P',λd H2 d0 d1 P2 e2=>⟨_,d,rfl,e2 _ _ hqp hq',d0,by omega,Yr (show _<=1000 by rw[Yf];omega) (by decide),ns.take d.toNat++(0+(i:Int))::ns.drop d.toNat,?_,?_,P2.Zqa hqp,(e'.trans e2).Zqa hq⟩⟩
  ·simp;omega
  ·rw[Zb];simp
 ·rintro σ H' ⟨ns,v3,rfl,hlen,hq',P',e'⟩
  walk_at "rd"
  exact k1 q ns H' hq (by omega) hq' P' e'
theorem Znx {f:Addr}{fd:FuncData} (F:Fun K "_law_row" "_law_row" Zcd f fd) (ZM:Callee P w K mg base "_law_take" 1 ["pot","many"] (ZbS K mg)) (ZdQ:Callee P w K mg base "_law_unlike" 2 ["pot","many"] (Zc3 K mg)) (T:Txt K mg):FnOk P w K mg base (CXE P w) 3 f fd ["pot","most"] (Zft K mg):=by
 refine F.okX Zao (λvs H Q E h=>?_) (λcdv A outer s H vs Q E hr h=>?_)
 ·obtain⟨p,most,rfl,_⟩:=h;rfl
 obtain⟨p,most,rfl,h0,h1,hP,k1⟩:=h
 refine⟨_,(Zd (Zn (i:=2) Zao.nd rfl (Or.inl rfl) (Zj ZM (hr.mono (by decide)) rfl ZD (Za (pv 0) (Za (Zp ZaD (pv 1) Ze) Zc))))
   (Zd (Z8 (Zs Zdr (Zj ZM (hr.mono (by decide)) rfl ZD (Za (pv 0) (Za Ze Zc))) Ze (Zr _)) (Zg (Zn (i:=2) Zao.nd rfl (Or.inl rfl) (pv 1))) Zz)
   (Zd (Zn (i:=3) Zao.nd rfl (Or.inl rfl) (Zj ZM (hr.mono (by decide)) rfl ZD (Za (pv 0) (Za Ze Zc))))
   (Zd (Z8 (Zs Zdr (pv 3) Ze (Zr _)) (Zg (Zt (Zj ZdQ (hr.mono (by decide)) rfl ZD (Za (pv 0) (Za (pv 2) Zc))))) Zz)
   (Zd (Zn (i:=4) Zao.nd rfl (Or.inl rfl) (Z1 Zc))
   (Zd (Zar (ZaU PassesOwn.never rfl (ZaO rfl T.b_range (Za (pv 2) Zc)) (Zk (i:=5) Zao.nd rfl (Or.inl rfl)) (Zd (Zn (i:=6) Zao.nd rfl (Or.inl rfl) (Zj ZM (hr.mono (by decide)) rfl ZD (Za (pv 0) (Za (Zv Zbi (Zfi (Za Ze (Za Ze Zc))) (ZaP Zlk rfl T.b_int Zr5 (Za (Zbk ZcH (pv 3) Ze (Zr _)) Zc)) (λ_ _=>rfl)) Zc))))
   (Zd (Zn (i:=7) Zao.nd rfl (Or.inl rfl) Ze)
   (Zd (Z8 (Zs Zdr (pv 3) Ze (Zr _)) (Zg (Zn (i:=7) Zao.nd rfl (Or.inl rfl) (Zp Zbl (Zp ZcY (Zj ZM (hr.mono (by decide)) rfl ZD (Za (pv 0) (Za (Zp ZaD (Zp Zbl Ze (Zp Zfh Ze Ze)) Ze) Zc))) (Zp Zfh Ze Ze)) (Zp Zfh Ze Ze)))) Zz)
   (Zg (Za6 (ZjG PySem.F.plainAttrs_list PySem.F.slot_list_append PySem.F.type_list_append ZcS (pv 4) (Za (Zv Zbi (Zfi (Za (pv 6) (Za (Zp ZaD (pv 5) (pv 6)) (Za (Zp ZaD (Zp ZcY (pv 2) (pv 5)) (pv 6)) (Za (Zp ZaD (Zp Zbl (Zp ZgF (pv 5) Ze) Ze) (pv 6)) (Za (pv 7) Zc)))))) (pv 3) (λ_ _=>rfl)) Zc)))))))))
   (Zg (Zt (pv 4))))))))),?_⟩
 refine Zag (fun σ Hx=>∃m:Int,σ=[some (.ref p),some (.int most),some (.int m),none,none,none,none,none]/\0<=m/\m<=most/\ZQ Hx p/\Exc p H Hx) (λR hR=>?_) ?_
 ·walk_at "rd"
  exact⟨p,_,rfl,by omega,by omega,hP,λd H1 d0 d1 P1 e1=>hR _ _ ⟨d,rfl,d0,by omega,P1,e1⟩⟩
 rintro σ H1 ⟨m1,rfl,m10,m11,P1,e1⟩
 refine Zag (fun σ Hx=>∃m:Int,σ=[some (.ref p),some (.int most),some (.int m),none,none,none,none,none]/\0<=m/\m<=most/\ZQ Hx p/\Exc p H Hx) (λR hR=>?_) ?_
 ·walk_at "rd"
  refine⟨p,_,rfl,by decide,by decide,P1,λd H2 d0 d1 P2 e2=>⟨rfl,ZK (λ_=>hR _ _ ⟨most,rfl,h0,Int.le_refl _,P2,e1.trans e2⟩) λ_=>hR _ _ ⟨m1,rfl,m10,m11,P2,e1.trans e2⟩⟩⟩
 clear P1 e1 m10 m11 m1 H1
 rintro σ H1 ⟨many,rfl,m0,m1,P1,e1⟩
 refine Zag (fun σ Hx=>∃k:Int,σ=[some (.ref p),some (.int most),some (.int many),some (.int k),none,none,none,none]/\0<=k/\k<6/\ZQ Hx p/\Exc p H Hx) (λR hR=>?_) ?_
 ·walk_at "rd"
  exact⟨p,_,rfl,by decide,by decide,P1,λd H2 d0 d1 P2 e2=>hR _ _ ⟨d,rfl,d0,d1,P2,e1.trans e2⟩⟩
 clear P1 e1 H1
 rintro σ H1 ⟨kd,rfl,d0,d1,P1,e1⟩
 refine Zag (fun σ Hx=>σ=[some (.ref p),some (.int most),some (.int many),some (.int kd),none,none,none,none]/\kd<5/\Hx=H1) (λR hR=>?_) ?_
 ·walk_at "rd"
  refine ZK (λ_=>⟨p,_,rfl,m0,by omega,P1,λr ns H2 hr2 hl h2 P2 e2=>k1 r ns _ (e1.free (P1.ne hr2) hr2) (by omega) h2 P2 (e1.trans e2)⟩) λz=>hR _ _ ⟨rfl,by omega,rfl⟩
 rintro σ H2 ⟨rfl,d2,rfl⟩
 walk_at "rd"
 refine⟨Ys _,λq hq=>⟨by omega,by omega,?_⟩⟩
 have hqp:q≠p:=P1.ne hq
 have hqH:H q=none:=e1.free hqp hq
 refine Zb7 (λi σ H'=>∃(ns:List Int) (v5 v6 v7:Option V),σ=[some (.ref p),some (.int most),some (.int many),some (.int kd),some (.ref q),v5,v6,v7]/\ns.length=i/\H' q=some (.lst (ns.map V.int))/\ZQ H' p/\Exc p H H') ⟨[],none,none,none,rfl,rfl,Zb,P1.upd hq,e1.same ((Zf.refl H2).upd hq)⟩ ?_ ?_
 ·rintro i σ H' hi ⟨ns,v5,v6,v7,rfl,hlen,hq',P',e'⟩
  refine Zag (fun σ Hx=>∃f:Int,σ=[some (.ref p),some (.int most),some (.int many),some (.int kd),some (.ref q),some (.int (0+(i:Int))),some (.int f),v7]/\Hx q=some (.lst (ns.map V.int))/\ZQ Hx p/\Exc p H Hx) (λR hR=>?_) ?_
  ·walk_at "rd"
   refine⟨by decide,λu hu=>?_⟩
   obtain⟨v,hv,y,rfl,y0,y1⟩:=Zpp (xs:=[V.int 4,V.int 2]) (i:=if 0<kd then 1 else 0) (λv=>∃y:Int,v=V.int y/\0<y/\y<=4) (by split<;>decide) (by split<;>decide) (by
    intro x hx
    simp at hx
    rcases hx with rfl|rfl<;>exact⟨_,rfl,by decide,by decide⟩)
   have g:=(Zf.refl H').upd (o:=.tup [V.int 4,V.int 2]) hu
   exact⟨_,SqT.of Zb,_,hv,p,y,rfl,y0,by omega,P'.same g,λd H2 d0 d1 P2 e2=>hR _ _ ⟨d,rfl,e2 _ _ hqp (g _ _ hq'),P2,(e'.same g).trans e2⟩⟩
  clear hq' P' e' H'
  rintro σ H' ⟨f,rfl,hq',P',e'⟩
  refine Zag (fun σ Hx=>∃g:Int,σ=[some (.ref p),some (.int most),some (.int many),some (.int kd),some (.ref q),some (.int (0+(i:Int))),some (.int f),some (.int g)]/\Hx q=some (.lst (ns.map V.int))/\ZQ Hx p/\Exc p H Hx) (λR hR=>?_) ?_
  ·walk_at "rd"
   exact hR _ _ ⟨0,rfl,hq',P',e'⟩
  clear hq' P' e' H'
  rintro σ H' ⟨g0,rfl,hq',P',e'⟩
  refine Zag (fun σ Hx=>∃g:Int,σ=[some (.ref p),some (.int most),some (.int many),some (.int kd),some (.ref q),some (.int (0+(i:Int))),some (.int f),some (.int g)]/\Hx q=some (.lst (ns.map V.int))/\ZQ Hx p/\Exc p H Hx) (λR hR=>?_) ?_
  ·walk_at "rd"
   have e9:(10:Int) ^ Int.toNat 9=1000000000:=by decide
   rw[e9]
   exact ZK (λ_=>⟨cp9,Zpq (by decide) (by decide),p,_,rfl,by decide,by decide,P',λd H2 d0 d1 P2 e2=>⟨cp9,d,rfl,cp50,Zpq (by omega) (by omega),hR _ _ ⟨_,rfl,e2 _ _ hqp hq',P2,e'.trans e2⟩⟩⟩) λ_=>hR _ _ ⟨g0,rfl,hq',P',e'⟩
  clear hq' P' e' H'
  rintro σ H' ⟨g1,rfl,hq',P',e'⟩
  walk_at "rd"
  refine⟨Zc0 hq',by decide,mul_r (by decide) (by decide),by decide,λu hu=>?_⟩
  obtain⟨v,hv,y,rfl⟩:=Zpp (xs:=[V.int f,V.int (0+(i:Int)+f),V.int (many-(0+(i:Int))+f),V.int ((0+(i:Int)) % 4*2+f),V.int g1]) (i:=kd) (λv=>∃y:Int,v=V.int y) d0 d2 (by
   intro x hx
   simp only[Yl,List.not_mem_nil,or_false]at hx
   rcases hx with rfl|rfl|rfl|rfl|rfl<;>exact⟨_,rfl⟩)
  have g:=(Zf.refl H').upd (o:=.tup [V.int f,V.int (0+(i:Int)+f),V.int (many-(0+(i:Int))+f),V.int ((0+(i:Int)) % 4*2+f),V.int g1]) hu
  refine⟨_,SqT.of Zb,_,hv,_,g _ _ hq',Yr (show _<=1000 by rw[Yf];omega) (by decide),ns++[y],by simp[hlen],by rw[Zb];simp,(P'.same g).Zqa hqp,(e'.same g).Zqa hqH⟩
 ·rintro σ H' ⟨ns,v5,v6,v7,rfl,hlen,hq',P',e'⟩
  walk_at "rd"
  exact k1 q ns H' hqH (by omega) hq' P' e'
theorem Zmo {f:Addr}{fd:FuncData} (F:Fun K "_law_tree" "_law_tree" ZbC f fd) (T:Txt K mg):FnOk P w K mg base (CXE P w) 1 f fd ["row"] (ZeM K mg):=by
 refine F.okX Zap (λvs H Q E h=>?_) (λcdv A outer s H vs Q E hr h=>?_)
 ·obtain⟨r,ns,rfl,_⟩:=h;rfl
 obtain⟨r,ns,rfl,hr0,hn,k1⟩:=h
 refine⟨_,(Zd (Zn (i:=1) Zap.nd rfl (Or.inl rfl) (Z1 Zc))
   (Zd (Zar (ZaU PassesOwn.never rfl (ZsD (K:=K) rfl rfl T.b_enumerate (Za (pv 0) Zc)) (ZgE (n:=2) rfl (ZI (Zk (i:=2) Zap.nd rfl (Or.inl rfl)) (ZI (Zk (i:=3) Zap.nd rfl (Or.inr rfl)) ZbL))) (Zd (Zak (i:=4) ["other","number","row"] [none,some 3,some 0] Zap.nd rfl (Or.inl rfl) rfl rfl rfl (ZaO rfl T.b_range (Za (pv 2) Zc)) (λ_ _ _ _ _=>(Zk (i:=0) (show(["other","number","row"]:List Str).Nodup from by decide +kernel) rfl (Or.inl rfl))) (λ_ _ _ _ _=>Zfk (Zs Zgp (Zv (Zp8 (K:=K) rfl) (pv 2) (pv 0) (λ_ _=>rfl)) (pv 1) (Zr _))) (λ_ _ _ _ _=>(pv 0)) Zx)
   (Zd (Zak (i:=5) ["other","number","row"] [none,some 3,some 0] Zap.nd rfl (Or.inl rfl) rfl rfl rfl (Zk8 rfl T.b_range (Za (Zp ZaD (pv 2) Ze) (Za (Zm (Zo (K:=K) rfl) rfl T.b_len Yw (Za (pv 0) Zc)) Zc))) (λ_ _ _ _ _=>(Zk (i:=0) (show(["other","number","row"]:List Str).Nodup from by decide +kernel) rfl (Or.inl rfl))) (λ_ _ _ _ _=>Zfk (Zs Zjy (Zv (Zp8 (K:=K) rfl) (pv 2) (pv 0) (λ_ _=>rfl)) (pv 1) (Zr _))) (λ_ _ _ _ _=>(pv 0)) Zx)
   (Zd (Zn (i:=6) Zap.nd rfl (Or.inl rfl) (Zv Zq (Zp ZhX (Z1 (Za (Ze6 ZcB Ze) Zc)) (pv 4)) (Ze6 ZcB Ze) (λ_ _=>rfl)))
   (Zd (Z8 (PW.pt (ZhU (Zs (op_neD (K:=K) rfl hr) (pv 5) (Z1 Zc) (Zr _)) (Zf8 (PW.pt (Zpa (Zs (ZgI (K:=K) rfl hr) (pv 4) (Z1 Zc) (Zr _)) (ZlP (Zs ZmM (Zv (Zp8 (K:=K) rfl) (pv 0) (Zv Zq (pv 5) Ze (λ_ _=>rfl)) (λ_ _=>rfl)) (Zv (Zp8 (K:=K) rfl) (pv 0) (pv 6) (λ_ _=>rfl)) (Zr _)))))))) (Zg (Zn (i:=6) Zap.nd rfl (Or.inl rfl) (Zv Zq (pv 5) Ze (λ_ _=>rfl)))) Zz)
   (Zg (Za6 (ZjG PySem.F.plainAttrs_list PySem.F.slot_list_append PySem.F.type_list_append ZcS (pv 1) (Za (pv 6) Zc))))))))))
   (Zg (Zt (ZaP (ZqD (K:=K) rfl) rfl T.b_tuple Zcx (Za (pv 1) Zc)))))),?_⟩
 walk_at "rd"
 have eL:(ns.map V.int).length=ns.length:=Yf ..
 refine⟨Ys _,λl hl=>⟨_,loopQ hr0 ((Zf.refl H).upd hl) λJ go st yl=>?_⟩⟩
 rw[eL]at st
 refine Zfp (n:=ns.length) (λi σ Hx=>∃(L:List Int) (v2 v3 v4 v5 v6:Option V),σ=[some (.ref r),some (.ref l),v2,v3,v4,v5,v6]/\L.length=i/\Zf H Hx/\Hx l=some (.lst (L.map V.int))/\∀p,p<i->ZF (nth ns) ns.length p (L.getD p 0)) ⟨[],none,none,none,none,none,rfl,rfl,(Zf.refl H).upd hl,Zb,λp hp=>absurd hp (by omega)⟩ (λi σ Hx hi ⟨_,_,_,_,_,_,_,_,sx,_⟩=>go i Hx sx (by omega)) (fun σ Hx ⟨_,_,_,_,_,_,_,_,sx,_⟩=>st Hx sx) ?_ ?_
 ·rintro i x σ Hx Hx' hi ⟨L,v2,v3,v4,v5,v6,rfl,hL,sx,hxl,hF⟩ y
  obtain⟨q,x,hq,rfl,rfl,ex⟩:=yl i Hx x Hx' sx y
  clear y
  rw[YF,Yi hi]at ex
  cases ex
  have eg:ns[i]=nth ns i:=by simp[nth,Ym,hi]
  rw[eg]
  have g:=(Zf.refl Hx).upd (o:=.tup [.int (i:Int),.int (nth ns i)]) hq
  have tq:(upd Hx q (.tup [.int (i:Int),.int (nth ns i)])) q=some (.tup [.int (i:Int),.int (nth ns i)]):=Zb
  replace sx:=sx.trans g
  replace hxl:=g _ _ hxl
  generalize upd Hx q (.tup [.int (i:Int),.int (nth ns i)])=Hy at sx hxl tq⊢
  clear g hq Hx
  have EE:=Zfm (f:=nth ns) hi
  generalize hA:((List.range i).filter λq=>decide (nth ns q<=nth ns i))=A at EE
  generalize hB:((List.range (ns.length-(i+1))).filter λj=>decide (nth ns (i+1+j)<nth ns i))=B at EE
  have hqa:∀q∈A,q<ns.length:=λq hq=>by
   rw[<-hA]at hq
   have:=Yu.mp (YS.mp hq).1;omega
  have hqb:∀j∈B,i+1+j<ns.length:=λj hq=>by
   rw[<-hB]at hq
   have:=Yu.mp (YS.mp hq).1;omega
  have lA:A.length<=1000:=by rw[<-hA];exact Yh (Y9 _ _) (by simp;omega)
  have lB:B.length<=1000:=by rw[<-hB];exact Yh (Y9 _ _) (by simp;omega)
  refine⟨q,_,rfl,SqT.of tq,rfl,_,_,rfl,_,_,rfl,rfl,?_⟩
  clear tq
  refine Zag (fun σ Hz=>∃a,σ=[some (.ref r),some (.ref l),some (.int (i:Int)),some (.int (nth ns i)),some (.ref a),v5,v6]/\Zf H Hz/\Hz l=some (.lst (L.map V.int))/\Hz a=some (.lst (ZT A))) (λR hR=>?_) ?_
  ·walk_at "rd"
   refine⟨by omega,by omega,?_⟩
   have e1:((i:Int)).toNat=i:=by omega
   rw[e1]
   refine Zed (n:=i) (λq=>decide (nth ns q<=nth ns i)) (λq=>V.int ((q:Nat):Int)) (Yr (show _<=1000 by omega) (by decide)) (λj Hx s hj=>hj) (λHx s=>Yd _) ?_ ?_
   ·rintro j x Hx Hz hj s ⟨rfl,rfl⟩
    have e0:((0:Int)+(j:Int))=(j:Int):=by omega
    rw[e0]
    walk_at "rd"
    exact⟨_,(sx.trans s).q hr0,_,Z4 (by omega),_,rfl,ZK (λh=>CF.take hj (YG h) rfl s) (λh=>CF.skip hj (YD h) s)⟩
   ·intro l1 H1 s1 hl1
    exact hR _ _ ⟨l1,rfl,(sx.trans s1).ZG hl1,(s1.ZG hl1) _ _ hxl,by rw[Zb,hA];rfl⟩
  clear sx hxl Hy
  rintro σ Hx ⟨a,rfl,sx,hxl,hxa⟩
  refine Zag (fun σ Hy=>∃b,σ=[some (.ref r),some (.ref l),some (.int (i:Int)),some (.int (nth ns i)),some (.ref a),some (.ref b),v6]/\Zf H Hy/\Hy l=some (.lst (L.map V.int))/\Hy a=some (.lst (ZT A))/\Hy b=some (.lst (ZT (B.map λj=>i+1+j)))) (λR hR=>?_) ?_
  ·walk_at "rd"
   refine⟨_,sx.q hr0,by omega,by omega,by omega,by rw[eL];omega,?_⟩
   have e1:((((ns.map V.int).length:Nat):Int)-((i:Int)+1)).toNat=ns.length-(i+1):=by rw[eL];omega
   rw[e1]
   refine Zed (n:=ns.length-(i+1)) (λq=>decide (nth ns (i+1+q)<nth ns i)) (λq=>V.int ((i+1+q:Nat):Int)) (Yr (show _<=1000 by omega) (by decide)) (λj Hx s hj=>hj) (λHx s=>Yd _) ?_ ?_
   ·rintro j x Hy Hz hj s ⟨rfl,rfl⟩
    have e0:((i:Int)+1+(j:Int))=((i+1+j:Nat):Int):=by omega
    rw[e0]
    walk_at "rd"
    exact⟨_,(sx.trans s).q hr0,_,Z4 (by omega),_,rfl,ZK (λh=>CF.take hj (YG h) rfl s) (λh=>CF.skip hj (YD h) s)⟩
   ·intro l1 H1 s1 hl1
    exact hR _ _ ⟨l1,rfl,(sx.trans s1).ZG hl1,(s1.ZG hl1) _ _ hxl,(s1.ZG hl1) _ _ hxa,by rw[Zb,hB];simp[ZT,Function.comp_def]⟩
  clear sx hxl hxa Hx
  rintro σ Hx ⟨b,rfl,sx,hxl,hxa,hxb⟩
  have lA':([V.int (-1)]++ZT A).length<=1001:=by rw[YL,Zbu];simp;omega
  refine Zag (fun σ Hy=>σ=[some (.ref r),some (.ref l),some (.int (i:Int)),some (.int (nth ns i)),some (.ref a),some (.ref b),some (.int (match A.getLast? with|some q=>((q:Nat):Int)|none=>-1))]/\Zf H Hy/\Hy l=some (.lst (L.map V.int))/\Hy a=some (.lst (ZT A))/\Hy b=some (.lst (ZT (B.map λj=>i+1+j)))) (λR hR=>?_) ?_
  ·walk_at "rd"
   refine⟨by decide,λc1 h1=>?_⟩
   have u1:=(Zf.refl Hx).upd (o:=.lst [V.int (-1)]) h1
   refine⟨_,Zb,_,u1 _ _ hxa,Yh (show _<=1001 by rw[<-YL];exact lA') (by decide),λc2 h2=>?_⟩
   have u2:=u1.ZG (o:=.lst ([V.int (-1)]++ZT A)) h2
   refine⟨_,SqL.of Zb,V.int (match A.getLast? with|some q=>((q:Nat):Int)|none=>-1),?_,hR _ _ ⟨rfl,sx.trans u2,u2 _ _ hxl,u2 _ _ hxa,u2 _ _ hxb⟩⟩
   have e:[V.int (-1)]++ZT A=([-1]++A.map λ(q:Nat)=>(q:Int)).map V.int:=by simp[ZT,Function.comp_def]
   rw[e]
   refine ZuJ ?_
   rcases snoc_cases A with rfl|⟨ys,y,rfl⟩
   ·rfl
   ·rw[YU,<-YX,List.map_singleton,List.getLast?_concat];simp
  clear sx hxl hxa hxb Hx
  rintro σ Hx ⟨rfl,sx,hxl,hxa,hxb⟩
  refine Zag (fun σ Hy=>∃e,σ=[some (.ref r),some (.ref l),some (.int (i:Int)),some (.int (nth ns i)),some (.ref a),some (.ref b),some (.int e)]/\Zf H Hy/\Hy l=some (.lst (L.map V.int))/\ZF (nth ns) ns.length i e) (λR hR=>?_) ?_
  ·refine ifR (λH1=>Zf Hx H1/\∃j B',B=j::B'/\∀q,A.getLast?=some q->nth ns q<=nth ns (i+1+j)) (λH1=>Zf Hx H1/\(B=[]\/∃j B' q,B=j::B'/\A.getLast?=some q/\nth ns (i+1+j)<nth ns q)) ?_ ?_ ?_
   ·rintro H1 ⟨s1,j,B',rfl,hle⟩
    walk_at "rd"
    refine⟨_,SqL.of (s1 _ _ hxb),V.int ((i+1+j:Nat):Int),Zfn (j:=0) rfl,hR _ _ ⟨((i+1+j:Nat):Int),rfl,sx.trans s1,s1 _ _ hxl,?_⟩⟩
    cases hl:A.getLast? with
    |none=>rw[hl]at EE;simpa using EE
    |some q =>
     rw[hl]at EE
     simp only[List.head?_cons,Yc (hle q hl)]at EE
     simpa using EE
   ·rintro H1 ⟨s1,hc⟩
    walk_at "rd"
    refine hR _ _ ⟨_,rfl,sx.trans s1,s1 _ _ hxl,?_⟩
    rcases hc with rfl|⟨j,B',q,rfl,hl,hlt⟩
    ·cases hl:A.getLast? with
     |none=>rw[hl]at EE;simpa using EE
     |some q=>rw[hl]at EE;simpa using EE
    ·rw[hl]at EE⊢
     simp only[List.head?_cons,Yb (show ¬ nth ns q<=nth ns (i+1+j) by omega)]at EE
     simpa using EE
   ·intro B0 hT hU
    walk_at "rd"
    refine⟨Ys _,λc hc=>?_⟩
    have u1:=(Zf.refl Hx).upd (o:=.lst []) hc
    refine⟨_,Zpx (u1 _ _ hxb) Zb,?_⟩
    cases B with
    |nil=>simpa using hU _ ⟨u1,.inl rfl⟩
    |cons j B' =>
     refine ZK (λ_=>⟨Ys _,λd hd=>?_⟩) λz=>absurd z (by simp)
     have u2:=u1.ZG (o:=.lst []) hd
     refine⟨_,Zpx (u2 _ _ hxa) Zb,?_⟩
     rcases snoc_cases A with rfl|⟨ys,y,rfl⟩
     ·exact ZK (λ_=>hT _ ⟨u2,j,B',rfl,λq e=>nomatch e⟩) λz=>absurd z (by simp)
     ·refine ZK (λz=>absurd z (by simp)) λ_=>?_
      have hy:y<ns.length:=hqa y (by simp)
      have hj:i+1+j<ns.length:=hqb j (by simp)
      have ey:(ys++[y]).getLast?=some y:=by simp
      refine⟨_,SqL.of (u2 _ _ hxb),V.int ((i+1+j:Nat):Int),Zfn (j:=0) rfl,_,_,rfl,(sx.trans u2).q hr0,_,Z4 hj,_,(sx.trans u2).q hr0,V.int (nth ns y),by rw[ey];exact Z4 hy,_,rfl,_,rfl,?_⟩
      by_cases h:nth ns y<=nth ns (i+1+j)
      ·rw[YG h];exact hT _ ⟨u2,j,B',rfl,λq e=>by rw[ey]at e;cases e;exact h⟩
      ·rw[YD h];exact hU _ ⟨u2,.inr ⟨j,B',y,rfl,ey,by omega⟩⟩
  clear sx hxl hxa hxb Hx
  rintro σ Hx ⟨ee,rfl,sx,hxl,hE⟩
  walk_at "rd"
  refine⟨Zc0 hxl,_,hxl,Yr (show _<=1000 by rw[Yf];omega) (by decide),L++[ee],by simp[hL],sx.upd hl,by rw[Zb];simp,λp hp=>?_⟩
  by_cases e:p=i
  ·subst e
   have:(L++[ee]).getD p 0=ee:=by rw[<-hL];simp[Ym]
   rw[this];exact hE
  ·have:(L++[ee]).getD p 0=L.getD p 0:=by
    simp only[Ym]
    rw[YW (by omega)]
   rw[this];exact hF p (by omega)
 ·rintro σ Hx ⟨L,v2,v3,v4,v5,v6,rfl,hL,sx,hxl,hF⟩
  walk_at "rd"
  exact⟨_,SqL.of hxl,λu H9 zu s9 hu=>k1 u L _ (sx.free zu) ⟨hL,hF⟩ (sx.trans s9) hu⟩
theorem ZqO {f:Addr}{fd:FuncData} (F:Fun K "settle" "settle" Zej f fd) (T:Txt K mg):FnOk P w K mg base (CXE P w) 1 f fd ["elders","spine","place","keep"] (Zh9 K mg):=by
 refine F.okX ZqM (λvs H Q E h=>?_) (λcdv A outer s H vs Q E hr h=>?_)
 ·obtain⟨el,sp,es,A,B,i,rfl,_⟩:=h;rfl
 obtain⟨el,sp,es,A',B,i,rfl,hel,hsp,hne,hi,hq,hlen,k1⟩:=h
 refine⟨_,(Zd (Z8 (Zs Zjy (pv 3) (Zm (Zo (K:=K) rfl) rfl T.b_len Yw (Za (pv 1) Zc)) (Zr _)) (Zg (ZdH (pv 2) (Zfe (pv 0) (Zv Zq (pv 1) (pv 3) (λ_ _=>rfl)) set_list (λ_=>rfl)))) Zz)
   (Zd (Z8 (Zs ZcH (pv 3) Ze (Zr _)) (Zg (ZdH (Zv Zq (pv 1) (Zp ZcY (pv 3) Ze) (λ_ _=>rfl)) (Zfe (pv 0) (pv 2) set_list (λ_=>rfl)))) Zz)
   (Zd (Zoq (pv 1) (pv 3))
   (Zg (Za6 (ZjG PySem.F.plainAttrs_list PySem.F.slot_list_append PySem.F.type_list_append ZcS (pv 1) (Za (pv 2) Zc))))))),?_⟩
 walk_at "rd"
 have hb1:(ZT A').length<sizeLine:=by
  rw[Zbu]
  rw[YL]at hlen
  exact Yr (show _<=1000 by omega) (by decide)
 have etk:List.take A'.length (ZT (A'++B))=ZT A':=by
  rw[Zh2]
  have:A'.length=(ZT A').length:=(Zbu A').symm
  rw[this,List.take_left]
 have hle:A'.length<=(ZT (A'++B)).length:=by rw[Zbu,YL];omega
 have esn:ZT A'++[V.int (i:Nat)]=ZT (A'++[i]):=by rw[Zh2];rfl
 refine⟨_,.inl (SqL.of hsp),?_⟩
 rw[Zbu,YL]
 -- the end: behind the two stores
 have fin:∀(es1:List Int) (Hx:Hp),(∀b o,b≠el->b≠sp->H b=some o->Hx b=some o)->Hx el=some (.lst (es1.map V.int))->Hx sp=some (.lst (ZT (A'++B)))->es1=Zi0 es A' B i ->
   ∃(xs:List V) (k:Nat),(A'.length:Int)=(k:Int)/\Hx sp=some (HO.lst xs)/\k<=xs.length/\tyV K "list" (V.ref sp) (upd Hx sp (HO.lst (List.take k xs)))/\∃x,upd Hx sp (HO.lst (List.take k xs)) sp=some (HO.lst x)/\x.length<sizeLine/\Q V.non (upd (upd Hx sp (HO.lst (List.take k xs))) sp (HO.lst (x++[V.int (i:Nat)]))):=by
  intro es1 Hx h1 h2 h3 h4
  refine⟨_,A'.length,rfl,h3,hle,Zc0 Zb,_,Zb,by rw[etk];exact hb1,k1 _ (λb o n1 n2 z=>by rw[Zh n2,Zh n2];exact h1 b o n1 n2 z) (by rw[Zh hne,Zh hne,h2,h4]) (by rw[Zb,etk,esn])⟩
 -- elders[place]=spine[keep-1]
 have mid:∀(es1:List Int) (Hx:Hp),(∀b o,b≠el->b≠sp->H b=some o->Hx b=some o)->Hx el=some (.lst (es1.map V.int))->es1.length=es.length->Hx sp=some (.lst (ZT (A'++B)))->∀q,A'.getLast?=some q->es1.set i (q:Int)=Zi0 es A' B i ->
   ∃x,SqL K Hx sp x/\∃x_1,atI x ((A'.length:Int)-1)=some x_1/\∃x,Hx el=some (HO.lst x)/\∃x_2,ixN x.length (i:Int)=some x_2/\∃(xs:List V) (k:Nat),(A'.length:Int)=(k:Int)/\upd Hx el (HO.lst (x.set x_2 x_1)) sp=some (HO.lst xs)/\k<=xs.length/\tyV K "list" (V.ref sp) (upd (upd Hx el (HO.lst (x.set x_2 x_1))) sp (HO.lst (List.take k xs))) /\
    ∃x_3,upd (upd Hx el (HO.lst (x.set x_2 x_1))) sp (HO.lst (List.take k xs)) sp=some (HO.lst x_3)/\x_3.length<sizeLine/\Q V.non (upd (upd (upd Hx el (HO.lst (x.set x_2 x_1))) sp (HO.lst (List.take k xs))) sp (HO.lst (x_3++[V.int (i:Nat)]))):=by
  intro es1 Hx h1 h2 hl1 h3 q hq h4
  have hpos:0<A'.length:=by
   cases A' with
   |nil=>cases hq
   |cons _ _=>simp
  have hat:(A'++B)[A'.length-1]?=some q:=by
   rw[YW (by omega)]
   rw[List.getLast?_eq_getElem?]at hq;exact hq
  have ei:((A'.length:Int)-1)=((A'.length-1:Nat):Int):=by omega
  refine⟨_,SqL.of h3,_,by rw[ei];exact Zfn hat,_,h2,i,by rw[Yf,hl1];exact Zho hi,?_⟩
  have em:(es1.map V.int).set i (V.int (q:Nat))=(es1.set i (q:Int)).map V.int:=by rw[List.map_set]
  rw[em]
  exact fin _ _ (λb o n1 n2 z=>by rw[Zh n1];exact h1 b o n1 n2 z) Zb (by rw[Zh hne.symm];exact h3) h4
 cases B with
 |nil =>
  rw[Yb (by simp)]
  cases hq:A'.getLast? with
  |none =>
   have:A'=[]:=List.getLast?_eq_none_iff.mp hq
   rw[Yb (by rw[this];simp)]
   exact fin es H (λb o _ _ z=>z) hel hsp (by unfold Zi0;rw[hq];rfl)
  |some q =>
   have:A'≠[]:=λz=>by rw[z]at hq;cases hq
   rw[Yc (by have:=List.length_pos_iff.mpr this;omega)]
   exact mid es H (λb o _ _ z=>z) hel rfl hsp q hq (by unfold Zi0;rw[hq];rfl)
 |cons b Br =>
  rw[Yc (by simp;omega)]
  have hat:(A'++b::Br)[A'.length]?=some b:=by rw[Y5 (Yd _)];simp
  have hbn:b<es.length:=hq b (by simp)
  refine⟨_,SqL.of hsp,_,Zfn hat,_,_,rfl,hel,b,by rw[Yf];exact Zho hbn,?_⟩
  have em:(es.map V.int).set b (V.int (i:Nat))=(es.set b (i:Int)).map V.int:=by rw[List.map_set]
  rw[em]
  cases hq2:A'.getLast? with
  |none =>
   have:A'=[]:=List.getLast?_eq_none_iff.mp hq2
   rw[Yb (by rw[this];simp)]
   exact fin (es.set b i) _ (λc o n1 n2 z=>by rw[Zh n1];exact z) Zb (by rw[Zh hne.symm];exact hsp) (by unfold Zi0;rw[hq2];rfl)
  |some q =>
   have:A'≠[]:=λz=>by rw[z]at hq2;cases hq2
   rw[Yc (by have:=List.length_pos_iff.mpr this;omega)]
   exact mid (es.set b i) _ (λc o n1 n2 z=>by rw[Zh n1];exact z) Zb (by simp) (by rw[Zh hne.symm];exact hsp) q hq2 (by unfold Zi0;rw[hq2];rfl)
theorem ZoS {f:Addr}{fd:FuncData} (F:Fun K "tree_of" "tree_of" ZcU f fd) (Zka:Callee P w K mg base "settle" 1 ["elders","spine","place","keep"] (Zh9 K mg)) (T:Txt K mg):FnOk P w K mg base (CXE P w) 2 f fd ["row"] (ZgM K mg):=by
 refine F.okX Zcg (λvs H Q E h=>?_) (λcdv A outer s H vs Q E hr h=>?_)
 ·obtain⟨r,ns,rfl,_⟩:=h;rfl
 obtain⟨r,ns,rfl,hS,hn,k1⟩:=h
 refine⟨_,(Zd (Zn (i:=1) Zcg.nd rfl (Or.inl rfl) (Zp ZgG (Z1 (Za (Ze6 ZcB Ze) Zc)) (Zm (Zo (K:=K) rfl) rfl T.b_len Yw (Za (pv 0) Zc))))
   (Zd (Zn (i:=2) Zcg.nd rfl (Or.inl rfl) (Z1 Zc))
   (Zd (Zar (ZaU PassesOwn.never rfl (ZaO rfl T.b_range (Za (Zm (Zo (K:=K) rfl) rfl T.b_len Yw (Za (pv 0) Zc)) Zc)) (Zk (i:=3) Zcg.nd rfl (Or.inl rfl)) (Zd (Zn (i:=4) Zcg.nd rfl (Or.inl rfl) (Zm (Zo (K:=K) rfl) rfl T.b_len Yw (Za (pv 2) Zc)))
   (Zd (Zar (Zjv PassesOwn.never (PW.pt (ZhU (Zs ZcH (pv 4) Ze (Zr _)) (Zf8 (Zs ZcH (Zv (Zp8 (K:=K) rfl) (pv 0) (Zv Zq (pv 2) (Zp ZcY (pv 4) Ze) (λ_ _=>rfl)) (λ_ _=>rfl)) (Zv (Zp8 (K:=K) rfl) (pv 0) (pv 3) (λ_ _=>rfl)) (Zr _))))) (Zg (ZlQ (i:=4) Zcg.nd rfl (Or.inl rfl) Ze ZrL))))
   (Zg (Za6 (Zj Zka (hr.mono (by decide)) rfl ZD (Za (pv 1) (Za (pv 2) (Za (pv 3) (Za (pv 4) Zc)))))))))))
   (Zg (Zt (ZaP (Zea (K:=K) rfl) rfl T.b_tuple Zcx (Za (pv 1) Zc))))))),?_⟩
 walk_at "rd"
 have eL:(ns.map V.int).length=ns.length:=Yf ..
 refine⟨by decide,λp hp=>⟨_,((Zf.refl H).upd hp).q hS,_,Zb,by omega,by rw[eL];omega,?_,λel hel=>⟨Ys _,λsp hsp=>?_⟩⟩⟩
 ·exact Yh (show _<=1000 by simp;omega) (by decide)
 have s0:Zf H (upd (upd (upd H p (.lst [V.int (-1)])) el (.lst (List.replicate (((ns.map V.int).length:Nat):Int).toNat [V.int (-1)]).flatten)) sp (.lst [])):=(((Zf.refl H).upd hp).ZG hel).ZG hsp
 refine⟨_,s0.q hS,by omega,by rw[eL];omega,?_⟩
 have en:(((ns.map V.int).length:Nat):Int).toNat=ns.length:=by rw[eL];omega
 have hel0:(upd (upd (upd H p (.lst [V.int (-1)])) el (.lst (List.replicate (((ns.map V.int).length:Nat):Int).toNat [V.int (-1)]).flatten)) sp (.lst [])) el=some (.lst ((List.replicate ns.length (-1:Int)).map V.int)):=by
  have:=((Zf.refl _).ZG (o:=.lst []) hsp) el _ Zb
  rw[this,en];simp
 have hsp0:(upd (upd (upd H p (.lst [V.int (-1)])) el (.lst (List.replicate (((ns.map V.int).length:Nat):Int).toNat [V.int (-1)]).flatten)) sp (.lst [])) sp=some (.lst (ZT [])):=Zb
 have nes:el≠sp:=λz=>by
  subst z
  rw[Zb]at hsp;cases hsp
 have zel:H el=none:=((Zf.refl H).upd hp).free hel
 have zsp:H sp=none:=(((Zf.refl H).upd hp).ZG hel).free hsp
 rw[en]at hel0 hsp0 s0⊢
 generalize (upd (upd (upd H p (.lst [V.int (-1)])) el (.lst (List.replicate ns.length [V.int (-1)]).flatten)) sp (.lst []))=H0 at s0 hel0 hsp0⊢
 refine Zb7 (λi σ Hx=>∃(es:List Int) (S:List Nat) (v3 v4:Option V),σ=[some (.ref r),some (.ref el),some (.ref sp),v3,v4]/\Zf H Hx/\Hx el=some (.lst (es.map V.int))/\Hx sp=some (.lst (ZT S))/\es.length=ns.length/\Zsf (nth ns) i S/\(∀p e,p<i->e=es.getD p 0->ZF (nth ns) i p e)/\∀p,i<=p->p<ns.length->es.getD p 0=-1)
  ⟨List.replicate ns.length (-1),[],none,none,rfl,s0,hel0,hsp0,by simp,⟨List.Pairwise.nil,λq=>by simp⟩,λp e hp=>by omega,λp _ hp=>by simp[Ym,hp]⟩ ?_ ?_
 ·rintro i σ Hx hi ⟨es,S,v3,v4,rfl,sx,hxe,hxs,hesl,hS2,hE,hE2⟩
  walk_at "rd"
  have hin:i<ns.length:=by omega
  have hSl:S.length<=1000:=by
   rcases Zsj S i 0 hS2.1 (λq hq=>⟨Ys _,((hS2.2 q).mp hq).1⟩)with z|z
   ·omega
   ·rw[z];simp
  refine⟨_,.inl (SqL.of hxs),?_⟩
  rw[Zbu]
  refine Zl3 S.length (λj σ Hy=>∃A B,S=A++B/\B.length=j/\(∀q∈B,nth ns i<nth ns q)/\σ=[some (.ref r),some (.ref el),some (.ref sp),some (.int (0+(i:Int))),some (.int (A.length:Nat))]/\Hy=Hx) ⟨S,[],by simp,rfl,(λq hq=>absurd hq (by simp)),rfl,rfl⟩ ?_
  rintro j σ Hy hj ⟨A,B,hAB,hBl,hBg,rfl,rfl⟩
  walk_at "rd"
  have hmem:∀q,q∈A++B->q<i:=λq hq=>((hS2.2 q).mp (by rw[hAB];exact hq)).1
  have hix:(0+(i:Int))=(i:Int):=by omega
  rw[hix]
  by_cases hA0:A=[]
  case' pos =>
   rw[Yb (by rw[hA0];simp)]
   have hA:∀q∈A,nth ns q<=nth ns i:=λq hq=>absurd hq (by rw[hA0];simp)
  case' neg =>
   obtain⟨q,Al,rfl⟩:∃q Al,A=Al++[q]:=⟨A.getLast hA0,A.dropLast,(List.dropLast_concat_getLast hA0).symm⟩
   have hal:(Al++[q]).length=Al.length+1:=by simp
   rw[Yc (by rw[hal];omega)]
   have eiA:(((Al++[q]).length:Nat):Int)-1=(Al.length:Int):=by rw[hal];omega
   have hat:S[Al.length]?=some q:=by
    rw[hAB,YX,Y5 (Yd _)];simp
   have hqi:q<i:=hmem q (by simp)
   refine⟨_,SqL.of hxs,_,by rw[eiA];exact Zfn hat,_,_,rfl,sx.q hS,_,Z4 (by omega),_,sx.q hS,_,Z4 hin,_,rfl,_,rfl,ZK (λhlt=>?_) (λhge=>?_)⟩
   ·have hj2:j+1<=S.length:=by rw[hAB,YL,hal];omega
    refine⟨_,WI.next,hj2,Al,q::B,by rw[hAB];simp,by simp[hBl],λx hx=>?_,by rw[eiA],rfl⟩
    rcases Yl.mp hx with z|z
    ·rw[z];exact hlt
    ·exact hBg x z
   have hA:∀x∈Al++[q],nth ns x<=nth ns i:=λx hx=>by
    by_cases z:x=q
    ·rw[z];omega
    ·have hxa:x∈Al:=by
      rcases YC.mp hx with y|y
      ·exact y
      ·exact absurd (by simpa using y) z
     have hpw:=hS2.1
     rw[hAB]at hpw
     have hxq:x<q:=(List.pairwise_append.mp (List.pairwise_append.mp hpw).1).2.2 x hxa q (by simp)
     have:=((hS2.2 x).mp (by rw[hAB];exact YT _ hx)).2 q hxq hqi
     omega
   generalize Al++[q]=A at hA hAB hmem hA0⊢
  all_goals
   have SS:=Zop (f:=nth ns) (i:=i) (A:=A) (B:=B) (by rw[<-hAB];exact hS2) hA hBg
   refine⟨el,sp,es,A,B,i,rfl,hxe,by rw[<-hAB];exact hxs,nes,by omega,λq hq=>by have:=hmem q hq;omega,by rw[<-hAB];exact hSl,λH' q1 q2 q3=>?_⟩
   have hbi:∀b,B.head?=some b->b≠i:=λb hb=>by
    have:=hmem b (Yv _ (List.mem_of_head? hb));omega
   refine⟨λb o z=>q1 b o (Zu z zel) (Zu z zsp) (sx b o z),Zi0 es A B i,q2,A++[i],q3,by rw[Zsi];exact hesl,SS.1,λp e hp he=>?_,λp hp1 hp2=>?_⟩
   ·rw[Zpu _ _ _ _ _ (by omega) hbi]at he
    by_cases z:p=i
    ·subst z
     rw[Yc rfl,hE2 p (Yd _) (by omega)]at he
     rw[he];exact SS.2.1
    ·rw[Yb z]at he
     rw[he]
     exact SS.2.2 p _ (by omega) (hE p _ (by omega) rfl)
   ·rw[Zpu _ _ _ _ _ (by omega) hbi,Yb (by omega),Yb (λz=>?_)]
    ·exact hE2 p (by omega) hp2
    ·have:=hmem p (Yv _ (List.mem_of_head? z));omega
 ·rintro σ Hx ⟨es,S,v3,v4,rfl,sx,hxe,hxs,hesl,hS2,hE,hE2⟩
  walk_at "rd"
  exact⟨_,.inl ⟨SqL.of hxe,λt ht=>k1 t es _ ⟨hesl,λp hp=>hE p _ hp rfl⟩ (sx.ZG ht) Zb⟩⟩
theorem ZqP {f:Addr}{fd:FuncData} (F:Fun K "way_up" "way_up" Zek f fd) (T:Txt K mg):FnOk P w K mg base (CXE P w) 1 f fd ["tree","place"] (Zce K mg):=by
 refine F.okX Zgi (λvs H Q E h=>?_) (λcdv A outer s H vs Q E hr h=>?_)
 ·obtain⟨t,T,p,rfl,_⟩:=h;rfl
 obtain⟨t,T',p,rfl,ht,hn,hp,k1⟩:=h
 refine⟨_,(Zd (Zn (i:=2) Zgi.nd rfl (Or.inl rfl) (Z1 Zc))
   (Zd (Zn (i:=3) Zgi.nd rfl (Or.inl rfl) (Zv Zbi (pv 0) (pv 1) (λ_ _=>rfl)))
   (Zd (Zar (Zjv PassesOwn.never (PW.pt (ZhU (ZjA Zgp Zjy Ze (pv 3) (Zm (Zo (K:=K) rfl) rfl T.b_len Yw (Za (pv 0) Zc))) (Zf8 (Zs Zjy (Zm (Zo (K:=K) rfl) rfl T.b_len Yw (Za (pv 2) Zc)) (Zm (Zo (K:=K) rfl) rfl T.b_len Yw (Za (pv 0) Zc)) (Zr _))))) (Zd (Za6 (ZjG PySem.F.plainAttrs_list PySem.F.slot_list_append PySem.F.type_list_append ZcS (pv 2) (Za (pv 3) Zc)))
   (Zg (Zn (i:=3) Zgi.nd rfl (Or.inl rfl) (Zv Zbi (pv 0) (pv 3) (λ_ _=>rfl)))))))
   (Zg (Zt (pv 2)))))),?_⟩
 walk_at "rd"
 refine⟨Ys _,λl hl=>⟨_,(((Zf.refl H).upd hl).Zaj ht),_,Z4 hp,?_⟩⟩
 refine Zl3 T'.length (λj σ Hx=>Zf H Hx/\Hx l=some (.lst (ZT (Zau T' j (nth T' p))))/\(Zau T' j (nth T' p)).length=j/\σ=[some (.ref t),some (.int p),some (.ref l),some (.int (Zbg T' j (nth T' p)))]) ⟨(Zf.refl H).upd hl,Zb,rfl,rfl⟩ ?_
 rintro j σ Hx hj ⟨sx,hxl,hjl,rfl⟩
 walk_at "rd"
 have hlen:(ZT (Zau T' j (nth T' p))).length=j:=by rw[Zbu];exact hjl
 have eL:(T'.map V.int).length=T'.length:=Yf ..
 have done:(j=T'.length\/¬ (0<=Zbg T' j (nth T' p)/\Zbg T' j (nth T' p)<T'.length))->Q (.ref l) Hx:=λz=>by
  refine k1 l Hx hl sx ?_
  have:Zau T' T'.length (nth T' p)=Zau T' j (nth T' p):=by
   rcases z with z|z
   ·rw[<-z]
   ·exact Zln T' j _ _ hj hjl z
  rw[hxl];unfold Ze8;rw[this];simp[ZT]
 refine ZK (λh0=>⟨_,.inr ((sx.Zaj ht)),ZK (λh1=>⟨_,.inl (SqL.of hxl),_,.inr ((sx.Zaj ht)),ZK (λh2=>?_) λh2=>done (.inl (by rw[hlen,eL]at h2;omega))⟩) λh1=>done (.inr (by rw[eL]at h1;omega))⟩) λh0=>done (.inr (by omega))
 rw[eL]at h1;rw[hlen,eL]at h2
 obtain⟨a1,a2⟩:=Zlm T' j (nth T' p) h0 h1 hjl
 have ei:Zbg T' j (nth T' p)=(((Zbg T' j (nth T' p)).toNat:Nat):Int):=by omega
 refine⟨_,WI.next,Zc0 hxl,_,hxl,by rw[hlen];exact Yr (show _<=1000 by omega) (by decide),_,(sx.upd hl).Zaj ht,_,(congrArg (atI _) ei).trans (Z4 (by omega)),by omega,sx.upd hl,?_,?_,?_⟩
 ·rw[Zb,a1,Zh2]
  have:ZT [(Zbg T' j (nth T' p)).toNat]=[V.int (Zbg T' j (nth T' p))]:=by rw[ei];simp[ZT]
  rw[this]
 ·rw[a1];simp[hjl]
 ·rw[a2]
theorem ZoT {f:Addr}{fd:FuncData} (F:Fun K "is_tree" "is_tree" ZcV f fd) (Zim:Callee P w K mg base "tree_of" 2 ["row"] (ZgM K mg)) (Zad:Callee P w K mg base "way_up" 1 ["tree","place"] (Zce K mg)) (T:Txt K mg):FnOk P w K mg base (CXE P w) 3 f fd ["tree"] (ZgN K mg):=by
 refine F.okX Zj2 (λvs H Q E h=>?_) (λcdv A outer s H vs Q E hr h=>?_)
 ·obtain⟨t,T,rfl,_⟩:=h;rfl
 obtain⟨t,T',rfl,ht,hn,k1,k2⟩:=h
 refine⟨_,(Zd (Z8 (PW.pt (Zpa (Zfc (ZgB (Zm (ZqE (K:=K) rfl) rfl T.b_isinstance Zgq (Za (pv 0) (Za (Zo9 (v:=.ty "tuple") rfl T.b_tuple Zcx rfl) Zc))))) (ZlP (Zs ZcH (Zm (Zo (K:=K) rfl) rfl T.b_len Yw (Za (pv 0) Zc)) (Zhd (v:=.int 40) rfl T.m_MOST_PLACES ⟨_,rfl⟩) (Zr _))))) (Zg (Zt Zfb)) Zz)
   (Zd (Zak (i:=1) ["place","tree"] [none,some 0] Zj2.nd rfl (Or.inl rfl) rfl rfl rfl (ZaO rfl T.b_range (Za (Zm (Zo (K:=K) rfl) rfl T.b_len Yw (Za (pv 0) Zc)) Zc)) (λ_ _ _ _ _=>(Zk (i:=0) (show(["place","tree"]:List Str).Nodup from by decide +kernel) rfl (Or.inl rfl))) (λ_ _ _ _ _=>Zab) (λ_ _ _ _ _=>(Zm (Zo (K:=K) rfl) rfl T.b_len Yw (Za (Zj Zad (hr.mono (by decide)) rfl ZD (Za (pv 1) (Za (pv 0) Zc))) Zc))) Zx)
   (Zg (Zt (Zbk (ZgI (K:=K) rfl hr) (Zj Zim (hr.mono (by decide)) rfl ZD (Za (pv 1) Zc)) (pv 0) (Zr _)))))),?_⟩
 walk_at "rd"
 have eL:(T'.map V.int).length=T'.length:=Yf ..
 refine⟨_,ht,_,.inr ht,ZK (λz=>k2 (λg=>?_) _ (Zf.refl H)) λz=>⟨_,.inr ht,by omega,by rw[eL];omega,?_⟩⟩
 ·rw[eL]at z;have:=g.1;omega
 rw[eL]at z⊢
 have en:((T'.length:Nat):Int).toNat=T'.length:=by omega
 rw[en]
 refine comp_map (n:=T'.length) (λq=>V.int (nth (ZgJ T') q)) (Yr hn (by decide)) (λj Hx s hj=>hj) (λHx s=>Yd _) ?_ ?_
 ·rintro j x Hx Hy hj s ⟨rfl,rfl⟩
  walk_at "rd"
  refine⟨t,T',j,by simp,s.Zaj ht,hn,hj,λl H9 hl s9 h9=>⟨l,rfl,_,.inl (SqL.of h9),CW.next hj ?_ (s.trans s9)⟩⟩
  rw[ZmY hj,Yf];simp[Ze8]
 ·intro l' Hx s hl'
  have ed:(List.range T'.length).map (λq=>V.int (nth (ZgJ T') q))=(ZgJ T').map V.int:=by
   rw[<-Zhm T'];exact range_getD _ _ V.int _ rfl
  rw[ed]
  have u:=s.ZG (o:=.lst ((ZgJ T').map V.int)) hl'
  refine⟨l',ZgJ T',rfl,.inl (SqL.of Zb),by rw[Zhm];exact hn,λt2 es H2 hT2 s2 ht2=>⟨t2,rfl,_,Zl2 (n:=2) Zjg _ _ es T' (Zeb (SqT.of ht2)) (Zeb (((u.trans s2).Zaj ht))),?_⟩⟩
  by_cases g:es=T'
  ·rw[YG g];exact k1 ⟨by omega,_,g▸hT2⟩ _ (u.trans s2)
  ·rw[YD g];exact k2 (λgg=>g (hT2.unique ((Zqf T').mp gg.2))) _ (u.trans s2)
theorem Zmp {f:Addr}{fd:FuncData} (F:Fun K "need_tree" "need_tree" Zbx f fd) (Zin:Callee P w K mg base "is_tree" 3 ["tree"] (ZgN K mg)) (T:Txt K mg):FnOk P w K mg base (CXE P w) 4 f fd ["tree"] (ZbT K mg):=by
 refine F.okX Zmj (λvs H Q E h=>?_) (λcdv A outer s H vs Q E hr h=>?_)
 ·obtain⟨t,T,rfl,_⟩:=h;rfl
 obtain⟨t,T',rfl,ht,hn,k1,k2⟩:=h
 refine⟨_,(Zg (Z8 (Zfc (ZgB (Zj Zin (hr.mono (by decide)) rfl ZD (Za (pv 0) Zc)))) (Zg (Zhj rfl rfl T.c_NoTree T.x_NoTree (Za (Zgc (Zck (by decide) (ZgH (Zm (Zo (K:=K) rfl) rfl T.b_len Yw (Za (pv 0) Zc)) (Zck (by decide) ZlZ)))) Zc) Zjd)) Zz)),?_⟩
 walk_at "rd"
 exact⟨t,T',rfl,ht,hn,λg H1 s1=>⟨true,rfl,ZK (λz=>nomatch z) λ_=>k1 g _ s1⟩,λg H1 s1=>⟨false,rfl,ZK (λ_=>⟨_,.inr ((s1.Zaj ht)),by omega,by rw[Yf];omega,λy=>⟨by decide,k2 g _ s1⟩⟩) λz=>absurd rfl z⟩⟩
noncomputable def ZeN (T:List Int) (j v:Nat):Option Nat->Prop
 |none=>∀c,c<v->c<j->nth T c≠v
 |some c=>c<v/\c<j/\nth T c=v
noncomputable def Zdb (T:List Int) (j v:Nat):Option Nat->Prop
 |none=>∀c,v<c->c<j->nth T c≠v
 |some c=>v<c/\c<j/\nth T c=v
noncomputable def YTo (H:Hp) (as:List Addr) (T:List Int) (j:Nat):Prop:=∀(v:Nat) (a:Addr),as[v]?=some a->∃ah bh,ZeN T j v ah/\Zdb T j v bh/\H a=some (.lst [optN ah,optN bh])
theorem ZeN.skip {T:List Int}{j v:Nat}{o:Option Nat} (h:ZeN T j v o) (n:¬ (j<v/\nth T j=v)):ZeN T (j+1) v o:=by
 cases o with
 |none =>
  intro c c1 c2 e
  by_cases z:c=j
  ·subst z;exact n ⟨c1,e⟩
  ·exact h c c1 (by omega) e
 |some c=>exact⟨h.1,by have:=h.2.1;omega,h.2.2⟩
theorem Zdb.skip {T:List Int}{j v:Nat}{o:Option Nat} (h:Zdb T j v o) (n:¬ (v<j/\nth T j=v)):Zdb T (j+1) v o:=by
 cases o with
 |none =>
  intro c c1 c2 e
  by_cases z:c=j
  ·subst z;exact n ⟨c1,e⟩
  ·exact h c c1 (by omega) e
 |some c=>exact⟨h.1,by have:=h.2.1;omega,h.2.2⟩
theorem YTo.same {H H':Hp}{as:List Addr}{T:List Int}{j:Nat} (h:YTo H as T j) (s:Zf H H'):YTo H' as T j:=λv a e=>by
 obtain⟨ah,bh,h1,h2,h3⟩:=h v a e
 exact⟨ah,bh,h1,h2,s _ _ h3⟩
theorem YTo.skip {H:Hp}{as:List Addr}{T:List Int}{j:Nat} (h:YTo H as T j) (n:∀v:Nat,v<as.length->nth T j≠v):YTo H as T (j+1):=λv a e=>by
 obtain⟨ah,bh,h1,h2,h3⟩:=h v a e
 have hv:=(Yq.mp e).1
 exact⟨ah,bh,h1.skip λz=>n v hv z.2,h2.skip λz=>n v hv z.2,h3⟩
theorem YTo.set {H:Hp}{as:List Addr}{T:List Int}{j q:Nat}{a:Addr}{ah bh:Option Nat} (h:YTo H as T j) (nd:as.Nodup) (ea:as[q]?=some a) (hA:ZeN T (j+1) q ah) (hB:Zdb T (j+1) q bh) (eq:nth T j=q):YTo (upd H a (.lst [optN ah,optN bh])) as T (j+1):=λv b e=>by
 by_cases c:v=q
 ·subst c
  rw[ea]at e;cases e
  exact⟨ah,bh,hA,hB,Zb⟩
 ·have nb:b≠a:=λz=>by
   subst z
   obtain⟨h1,e1⟩:=Yq.mp ea
   obtain⟨h2,e2⟩:=Yq.mp e
   exact c ((List.getElem_inj nd (h₀:=h2) (h₁:=h1)).mp (e2.trans e1.symm))
  obtain⟨ah',bh',h1,h2,h3⟩:=h v b e
  exact⟨ah',bh',h1.skip λz=>c (by have:=z.2;omega),h2.skip λz=>c (by have:=z.2;omega),by rw[Zh nb];exact h3⟩
theorem Zny {f:Addr}{fd:FuncData} (F:Fun K "young_of" "young_of" Zb9 f fd) (T:Txt K mg):FnOk P w K mg base (CXE P w) 1 f fd ["tree"] (Zfu K mg):=by
 refine F.okX Zdz (λvs H Q E h=>?_) (λcdv A outer s H vs Q E hr h=>?_)
 ·obtain⟨t,T,rfl,_⟩:=h;rfl
 obtain⟨t,T',rfl,ht,hG,k1⟩:=h
 refine⟨_,(Zd (Zak (i:=1) ["place"] [none] Zdz.nd rfl (Or.inl rfl) rfl rfl rfl (ZhV (pv 0)) (λ_ _ _ _ _=>(Zk (i:=0) (show(["place"]:List Str).Nodup from by decide +kernel) rfl (Or.inl rfl))) (λ_ _ _ _ _=>Zab) (λ_ _ _ _ _=>(Z1 (Za ZgA (Za ZgA Zc)))) Zx)
   (Zd (Zar (ZaU PassesOwn.never rfl (Zm3 (K:=K) rfl rfl T.b_enumerate (Za (pv 0) Zc)) (ZgE (n:=2) rfl (ZI (Zk (i:=2) Zdz.nd rfl (Or.inl rfl)) (ZI (Zk (i:=3) Zdz.nd rfl (Or.inl rfl)) ZbL))) (Zg (Z8 (Zs ZmM (pv 3) Ze (Zr _)) (Zg (ZdH (pv 2) (Zfe (Zv Zq (pv 1) (pv 3) (λ_ _=>rfl)) (Zhe (Zs ZcH (pv 2) (pv 3) (Zr _)) Ze Ze) set_list (λ_=>rfl)))) Zz))))
   (Zg (Zt (pv 1))))),?_⟩
 have h40:=hG.1
 obtain⟨_,nsT,hT⟩:=id hG
 have eT:=hT.1
 have eL:(T'.map V.int).length=T'.length:=Yf ..
 walk_at "rd"
 refine⟨⟨_,ht⟩,Zhk (n:=T'.length) (λj acc Hz=>∃as:List Addr,acc=as.map V.ref/\as.length=j/\as.Nodup/\(∀a∈as,Hz a=some (.lst [.non,.non])/\H a=none)/\Zf H Hz) (Yr (show _<=1000 by omega) (by decide)) ⟨[],rfl,rfl,List.nodup_nil,(λa ha=>absurd ha (by simp)),Zf.refl H⟩ (λj acc Hz ⟨_,_,_,_,_,e⟩ hj=>⟨_,_,(e.Zaj ht),ZdK hj⟩) (λacc Hz ⟨_,_,_,_,_,e⟩=>⟨_,(e.Zaj ht),Y4 eL⟩) ?_ ?_⟩
 ·rintro j x acc Hz Hw hj hla ⟨as,rfl,hal,hnd,has,sz⟩ ⟨rfl,hx⟩
  walk_at "rd"
  refine⟨by decide,λp zp=>CA.take hj hla ⟨as++[p],by simp,by simp[hal],?_,λa ha=>?_,sz.ZG zp⟩⟩
  ·rw[List.nodup_append]
   refine⟨hnd,by simp,λa ha b hb=>?_⟩
   have:b=p:=by simpa using hb
   subst this
   exact λz=>by rw[z]at ha;rw[(has _ ha).1]at zp;cases zp
  ·rcases YC.mp ha with z|z
   ·exact⟨((Zf.refl _).upd zp) _ _ (has a z).1,(has a z).2⟩
   ·have:a=p:=by simpa using z
    subst this
    exact⟨Zb,sz.free zp⟩
 rintro y acc Hz ⟨as,rfl,hal,hnd,has,sz⟩ _ zy
 have gy:=(Zf.refl Hz).upd (o:=.lst (as.map V.ref)) zy
 have hyy:=Zb (H:=Hz) (a:=y) (o:=.lst (as.map V.ref))
 have s1:=sz.trans gy
 have zy0:=sz.free zy
 have ny:y∉as:=λz=>by rw[(has _ z).1]at zy;cases zy
 have Y0:YTo (upd Hz y (.lst (as.map V.ref))) as T' 0:=λv a e=>⟨none,none,(λc _ h=>absurd h (by omega)),(λc _ h=>absurd h (by omega)),gy _ _ (has a (List.mem_of_getElem? e)).1⟩
 generalize upd Hz y (.lst (as.map V.ref))=H1 at gy hyy s1 Y0⊢
 refine⟨_,(s1.Zaj ht),?_⟩
 refine Zfp (n:=T'.length) (λj σ Hx=>∃v2 v3:Option V,σ=[some (.ref t),some (.ref y),v2,v3]/\Hx y=some (.lst (as.map V.ref))/\YTo Hx as T' j/\Zf H Hx) ⟨none,none,rfl,hyy,Y0,s1⟩ (λj σ Hx hj ⟨_,_,_,_,_,e⟩=>⟨_,_,(e.Zaj ht),ZdK hj⟩) (fun σ Hx ⟨_,_,_,_,_,e⟩=>⟨_,(e.Zaj ht),eL⟩) ?_ ?_
 ·rintro j x σ Hx Hw hj ⟨v2,v3,rfl,hyx,Yx,sx⟩ ⟨p,w,zp,rfl,rfl,hx⟩
  have ex:=hx _ ((sx.Zaj ht))
  rw[ZdK hj]at ex
  cases ex
  walk_at "rd"
  have gp:=(Zf.refl Hx).upd (o:=.tup [V.int (j:Int),V.int (nth T' j)]) zp
  have hp:=Zb (H:=Hx) (a:=p) (o:=.tup [V.int (j:Int),V.int (nth T' j)])
  generalize upd Hx p (.tup [V.int (j:Int),V.int (nth T' j)])=H2 at gp hp⊢
  refine⟨_,SqT.of hp,rfl,_,_,rfl,_,_,rfl,rfl,_,rfl,?_⟩
  have sx2:=sx.trans gp
  have hyx2:=gp _ _ hyx
  have Yx2:=Yx.same gp
  refine ZK (λc0=>?_) λc0=>⟨hyx2,Yx2.skip λv _=>by omega,sx2⟩
  have hq:∃q:Nat,nth T' j=q/\q<T'.length/\q≠j:=by
   rcases ZU hT (p:=j) (by omega)with z|⟨q,ez,hq,hO,hd⟩
   ·omega
   ·refine⟨q,ez,by omega,λe=>?_⟩
    subst e;omega
  obtain⟨q,eq,hqT,nqj⟩:=hq
  obtain⟨a,ea⟩:∃a,as[q]?=some a:=⟨_,Yi (by omega)⟩
  obtain⟨ah,bh,hA,hB,ha⟩:=Yx2 q a ea
  have na:a≠y:=λz=>ny (z▸List.mem_of_getElem? ea)
  have za:H a=none:=(has a (List.mem_of_getElem? ea)).2
  refine⟨_,_,rfl,SqL.of hyx2,V.ref a,by rw[eq];exact ZaE (by rw[YF,ea];rfl),_,rfl,_,rfl,ZK (λc1=>?_) λc1=>?_⟩
  ·refine⟨a,rfl,_,ha,1,rfl,by rw[Zh na.symm];exact hyx2,?_,sx2.upd za⟩
   exact Yx2.set (ah:=ah) (bh:=some j) hnd ea (hA.skip λz=>by omega) ⟨by omega,by omega,eq⟩ eq
  ·refine⟨a,rfl,_,ha,0,rfl,by rw[Zh na.symm];exact hyx2,?_,sx2.upd za⟩
   exact Yx2.set (ah:=some j) (bh:=bh) hnd ea ⟨by omega,by omega,eq⟩ (hB.skip λz=>by omega) eq
 ·rintro σ Hx ⟨v2,v3,rfl,hyx,Yx,sx⟩
  walk_at "rd"
  refine k1 y Hx zy0 ⟨as,hyx,hal,λv a e=>?_⟩ sx
  obtain⟨ah,bh,h1,h2,h3⟩:=Yx v a e
  refine⟨ah,bh,?_,?_,h3⟩
  ·cases ah with
   |none=>exact h1
   |some c=>exact h1
  ·cases bh with
   |none=>exact h2
   |some c=>exact h2
theorem ZkW {f:Addr}{fd:FuncData} (F:Fun K "from_below" "from_below" Zba f fd) (Zad:Callee P w K mg base "way_up" 1 ["tree","place"] (Zce K mg)) (L:LamD K mg "from_below" f) (B:BM mg base) (T:Txt K mg):FnOk P w K mg base (CXE P w) 5 f fd ["tree"] (Zcn K mg):=by
 refine F.okL L B ZkU (λvs H Q E h=>?_) (λcdv A outer s H vs Q E LI hr h=>?_)
 ·obtain⟨t,T,rfl,_⟩:=h;rfl
 obtain⟨t,T',rfl,ht,hG,hTb,k1⟩:=h
 refine⟨_,(Zg (Zt (Zqv (Nc:=["place","tree"]) (js:=[none,some 0]) (pn:="place") (q:=lamQ "from_below") (P:=Zl7 K mg "from_below") rfl hr ⟨rfl,rfl,rfl,rfl,rfl,rfl,rfl,λ_ _ _ _ _ _=>rfl⟩ (λ_ _ _ _ _ _=>(Zm (Zo (K:=K) rfl) rfl T.b_len Yw (Za (Zj Zad ((hr.in1.in1.deeper _).mono (by decide)) rfl ZD (Za (pv 1) (Za (pv 0) Zc))) Zc))) rfl T.b_sorted (Za (Zlh rfl T.b_range (Za (Zm (Zo (K:=K) rfl) rfl T.b_len Yw (Za (pv 0) Zc)) Zc)) Zc) (Zpg (pe_lam ⟨LI.code,LI.bm,LI.ql⟩ rfl) (Zpg Zfb pk_nil))))),?_⟩
 walk_at "rd"
 have eL:(T'.map V.int).length=T'.length:=Yf ..
 have h40:=hG.1
 refine⟨_,.inr (ht),by omega,by omega,λp1 hp1=>?_⟩
 rw[eL]
 have g1:=(Zf.refl H).ZG (o:=.rng 0 (T'.length:Int)) hp1
 have h1:=Zb (H:=H) (a:=p1) (o:=.rng 0 (T'.length:Int))
 generalize upd H p1 (.rng 0 (T'.length:Int))=H4 at g1 h1⊢
 refine⟨g1 _ _ hTb,λf1 H5 zf s5 LO=>⟨_,s5 _ _ h1,by omega,by omega,LO,dpI T',λi H6 i0 i1 s6=>?_,λps l H6 hpm hpw s6 zl hl=>k1 l ps H6 ((g1.trans s5).free zl) ((g1.trans s5).trans s6) hpm hpw hl⟩⟩
 obtain⟨j,rfl⟩:=Jc i0
 have g6:=(g1.trans s5).trans s6
 exact⟨t,T',j,rfl,g6.Zaj ht,by omega,by omega,λw H7 zw s7 hw=>⟨w,rfl,_,.inl (SqL.of hw),by rw[Yf];rfl,s7⟩⟩
theorem Zi2 {f:Addr}{fd:FuncData} (F:Fun K "running_sums" "running_sums" Zaw f fd) (T:Txt K mg):FnOk P w K mg base (CXE P w) 1 f fd ["numbers"] (Zbm K mg):=by
 refine F.okX ZaN (λvs H Q E h=>?_) (λcdv A outer s H vs Q E hr h=>?_)
 ·obtain⟨a,ns,rfl,_⟩:=h;rfl
 obtain⟨a,ns,rfl,hS,hl,k1⟩:=h
 refine⟨_,(Zd (Zn (i:=1) ZaN.nd rfl (Or.inl rfl) (Z1 Zc))
   (Zd (Zn (i:=2) ZaN.nd rfl (Or.inl rfl) Ze)
   (Zd (Zar (ZaU PassesOwn.never rfl (Zdq (pv 0)) (Zk (i:=3) ZaN.nd rfl (Or.inl rfl)) (Zd (ZlQ (i:=2) ZaN.nd rfl (Or.inl rfl) (pv 3) ZrK)
   (Zg (Za6 (ZjG PySem.F.plainAttrs_list PySem.F.slot_list_append PySem.F.type_list_append ZcS (pv 1) (Za (pv 2) Zc)))))))
   (Zg (Zt (pv 1)))))),?_⟩
 walk_at "rd"
 refine⟨Ys _,λp hp=>⟨⟨_,((Zf.refl H).upd hp).seq hS⟩,Zjx (K:=K) (a:=a) (xs:=ns.map V.int) (λi σ H'=>∃v,σ=[some (.ref a),some (.ref p),some (.int (ns.take i).sum),v]/\Zf H H'/\H' p=some (.lst ((ZC 0 (ns.take i)).map V.int)))
  ⟨none,rfl,(Zf.refl H).upd hp,Zb⟩ (λi σ H' _ ⟨_,_,s,_⟩=>s.seq hS) ?_ ?_⟩⟩
 ·rintro i y σ H' hi ⟨v,rfl,hs,hq⟩
  obtain⟨z,hz,rfl⟩:∃z,ns[i]?=some z/\y=V.int z:=by
   rw[YF]at hi
   cases e:ns[i]? with
   |none=>rw[e]at hi;cases hi
   |some z=>rw[e]at hi;exact⟨z,rfl,(Yz hi).symm⟩
  have hil:i<ns.length:=(Yq.mp hz).1
  have et:ns.take (i+1)=ns.take i++[z]:=by rw[Y6,hz];rfl
  walk_at "rd"
  refine⟨Zc0 hq,_,hq,?_,?_,hs.upd hp,?_⟩
  ·rw[Yf,ZcD,YY]
   exact Yr (Yh (Nat.min_le_right _ _) hl) (by decide)
  ·rw[et];simp
  ·rw[Zb,et,ZcC];simp[ZC]
 ·rintro σ H' ⟨v,rfl,hs,hq⟩
  walk_at "rd"
  rw[Yf,List.take_length]at hq
  exact k1 p H' hs hq
theorem Znz {f:Addr}{fd:FuncData} (F:Fun K "need_few" "need_few" Zca f fd) (T:Txt K mg):FnOk P w K mg base (CXE P w) 1 f fd ["many","m"] (Zdu K mg):=by
 refine F.okX Znv (λvs H Q E h=>?_) (λcdv A outer s H vs Q E hr h=>?_)
 ·obtain⟨n,m,rfl,_⟩:=h;rfl
 obtain⟨n,m,rfl,hn,hm,k1⟩:=h
 refine⟨_,(Zg (Z8 (PW.pt (Zpa (Zs ZcH (pv 0) (Zhd (v:=.int 12) rfl T.m_MOST_FILLED ⟨_,rfl⟩) (Zr _)) (ZlP (Zfc (ZjA Zgp Zgp Ze (pv 1) (Zhd (v:=.int 12) rfl T.m_MOST_FILLED ⟨_,rfl⟩)))))) (Zg (Zhj rfl rfl T.c_TooMany T.x_TooMany (Za (Zgc (Zck (by decide) (ZgH (Zhd (v:=.int 12) rfl T.m_MOST_FILLED ⟨_,rfl⟩) (Zck (by decide) (ZgH (Zhd (v:=.int 12) rfl T.m_MOST_FILLED ⟨_,rfl⟩) ZlZ))))) Zc) Zjd)) Zz)),?_⟩
 walk_at "rd"
 rw[Yb (by omega),Yc (by omega),Yb (by omega)]
 exact k1
theorem Zmq {f:Addr}{fd:FuncData} (F:Fun K "span_ways" "span_ways" Zby f fd) (Zbf:Callee P w K mg base "from_below" 5 ["tree"] (Zcn K mg)) (ZaB:Callee P w K mg base "running_sums" 1 ["numbers"] (Zbm K mg)) (T:Txt K mg):FnOk P w K mg base (CXE P w) 6 f fd ["tree","young","m"] (ZeG K mg):=by
 refine F.okX Zbe (λvs H Q E h=>?_) (λcdv A outer s H vs Q E hr h=>?_)
 ·obtain⟨t,y,T,m,rfl,_⟩:=h;rfl
 obtain⟨t,y,T',m,rfl,ht,hy,hG,hl,hm,hTb,k1⟩:=h
 refine⟨_,(Zd (Zn (i:=3) Zbe.nd rfl (Or.inr rfl) (ZsT ZgA (Zp ZgG (Z1 (Za Ze Zc)) (Zp ZaD (pv 2) Ze))))
   (Zd (Zar (ZaU PassesOwn.never rfl (Zdq (Zj Zbf (hr.mono (by decide)) rfl ZD (Za (pv 0) Zc))) (Zk (i:=4) Zbe.nd rfl (Or.inl rfl)) (Zd (ZdH (Zv Zq (pv 1) (pv 4) (λ_ _=>rfl)) (pg_lst (K:=K) rfl (n:=2) rfl (ZI (Zk (i:=5) Zbe.nd rfl (Or.inr rfl)) (ZI (Zk (i:=6) Zbe.nd rfl (Or.inr rfl)) ZbL))))
   (Zd (Zak (i:=7) ["number","ways","ahead","behind"] [none,some 3,some 5,some 6] Zbe.nd rfl (Or.inl rfl) rfl rfl rfl (ZuQ rfl T.b_reversed (Za (Zlh rfl T.b_range (Za (pv 2) Zc)) Zc)) (λ_ _ _ _ _=>(Zk (i:=0) (show(["number","ways","ahead","behind"]:List Str).Nodup from by decide +kernel) rfl (Or.inl rfl))) (λ_ _ _ _ _=>Zab) (λ_ _ _ _ _=>(Zp Zbl (Zv (r:=ZpW K) Zq (Zhw (pv 1) (pv 2) (λ_ _=>rfl)) (Zp ZaD (pv 0) Ze) (λ_ _=>rfl)) (Zv (r:=ZpW K) Zq (Zhw (pv 1) (pv 3) (λ_ _=>rfl)) (pv 0) (λ_ _=>rfl)))) Zx)
   (Zg (ZsR (pv 3) (pv 4) (Zlg (K:=K) rfl (Zp ZhX (Z1 (Za Ze Zc)) (Zj ZaB (hr.mono (by decide)) rfl ZD (Za (pv 7) Zc))) (Ze6 ZcB Ze)) rfl))))))
   (Zg (Zt (pv 3))))),?_⟩
 obtain⟨h40,nsT,hT⟩:=id hG
 refine Zag (fun σ Hx=>∃d:Addr,σ=[some (.ref t),some (.ref y),some (.int m),some (.ref d),none,none,none,none]/\H d=none/\Za1 Hx d 1 m (λ_ _=>0) (λ_=>False)/\Zf H Hx) (λR hR=>?_) ?_
 ·walk_at "rd"
  refine λd hd=>⟨by decide,λp1 h1=>⟨_,Zb,by omega,by omega,?_,λp2 h2=>⟨?_,none,.ref p2,rfl,hR _ _ ⟨d,rfl,hd,⟨_,Zb,Yd 1,⟨p2,rfl,?_⟩,λp z=>z.elim⟩,?_⟩⟩⟩⟩
  ·exact Yh (show _<=1000 by simp;omega) (by decide)
  ·exact((Zf.refl _).ZG h2) _ _ (((Zf.refl _).ZG h1) _ _ Zb)
  ·rw[Zh (λz=>by rw[z]at h2;rw[((Zf.refl _).ZG h1) _ _ Zb]at h2;cases h2),Zb]
   congr 1
   unfold ZaV
   rw[show((m:Int)+1).toNat=m+1 by omega]
   congr 1
   refine List.ext_getElem (by simp) λj j1 j2=>?_
   simp
  ·exact((((Zf.refl H).upd hd).ZG h1).ZG h2).upd hd
 rintro σ H1 ⟨d,rfl,zd,hW,s1⟩
 walk_at "rd"
 refine⟨t,T',rfl,s1.Zaj ht,hG,Zcz.same hTb s1,λl ps H2 zl s2 hpm hpw hl2=>⟨l,rfl,⟨_,SqL.of hl2⟩,?_⟩⟩
 have elp:ps.length=T'.length:=by rw[hpm.length_eq];simp[nats]
 have s12:=s1.trans s2
 have ndp:ps.Nodup:=hpm.nodup_iff.mpr (by unfold nats;exact List.pairwise_map.mpr (List.nodup_range.imp λh e=>h (by omega)))
 refine Zfp (n:=ps.length) (λi σ Hx=>∃(c:Nat->Nat->Nat) (v4 v5 v6 v7:Option V),σ=[some (.ref t),some (.ref y),some (.int m),some (.ref d),v4,v5,v6,v7]/\Za1 Hx d (i+1) m c (λp=>∃k,k<i/\ps[k]?=some (p:Int))/\(∀p:Nat,(∃k,k<i/\ps[k]?=some (p:Int))->Znk T' m c (λp=>∃k,k<i/\ps[k]?=some (p:Int)) p)/\Hx l=some (.lst (ps.map V.int))/\Zf H Hx) ⟨λ_ _=>0,none,none,none,none,rfl,?_,(λp ⟨k,hk,_⟩=>absurd hk (by omega)),hl2,s12⟩ (λi σ Hx hi ⟨_,_,_,_,_,_,_,_,h,_⟩=>⟨_,_,SqL.of h,ZdK hi⟩) (fun σ Hx ⟨_,_,_,_,_,_,_,_,h,_⟩=>⟨_,SqL.of h,by rw[Yf];exact Yd _⟩) ?_ ?_
 ·obtain⟨kvs,w1,w0,⟨l0,w2,w3⟩,_⟩:=hW
  exact⟨kvs,s2 _ _ w1,w0,⟨l0,w2,s2 _ _ w3⟩,λp ⟨k,hk,_⟩=>absurd hk (by omega)⟩
 ·rintro i x σ Hx Hx' hi ⟨c,v4,v5,v6,v7,rfl,hWx,hC,hlx,sx⟩ ⟨rfl,hx⟩
  have e1:=hx _ (SqL.of hlx)
  rw[ZdK hi]at e1
  cases e1
  have hpi:ps[i]?=some (nth ps i):=by unfold nth;rw[Ym,Yi hi];rfl
  have mq:=hpm.mem_iff.mp (Zdv hi)
  unfold nats at mq
  obtain⟨v,hv,ev⟩:=YB.mp mq
  have hv2:v<T'.length:=by have:=Yu.mp hv;omega
  rw[<-ev]at hpi⊢
  have hnP:¬ ∃k,k<i/\ps[k]?=some (v:Int):=λ⟨k,hk,ek⟩=>by
   obtain⟨a1,a2⟩:=Yq.mp ek
   obtain⟨b1,b2⟩:=Yq.mp hpi
   exact List.pairwise_iff_getElem.mp ndp k i a1 b1 hk (a2.trans b2.symm)
  obtain⟨as,y1,y2,y3⟩:=id hy
  obtain⟨a,ha⟩:∃a,as[v]?=some a:=⟨_,Yi (by omega)⟩
  obtain⟨ah,bh,hA,hB,hab⟩:=y3 v a ha
  have hAp:∀q,ah=some q->∃k,k<i/\ps[k]?=some (q:Int):=λq e=>by
   subst e;exact ZlE hT hpm hpw hA.2.1 hA.2.2 hpi
  have hBp:∀q,bh=some q->∃k,k<i/\ps[k]?=some (q:Int):=λq e=>by
   subst e;exact ZlE hT hpm hpw hB.2.1 hB.2.2 hpi
  clear mq hx ev hv
  refine Zag (fun σ Hy=>σ=[some (.ref t),some (.ref y),some (.int m),some (.ref d),some (.int v),some (optN ah),some (optN bh),v7]/\Hy=Hx') (λR hR=>?_) ?_
  ·walk_at "rd"
   exact⟨_,SqL.of (sx _ _ y1),V.ref a,ZaE (by rw[YF,ha];rfl),a,rfl,_,SqL.of (sx _ _ hab),rfl,_,_,rfl,_,_,rfl,rfl,hR _ _ ⟨rfl,rfl⟩⟩
  rintro σ Hy ⟨rfl,rfl⟩
  have hcol:∀(o:Option Nat),(∀q,o=some q->∃k,k<i/\ps[k]?=some (q:Int))->∀Hz,Zf Hy Hz->∃(kvs:List (KO×V)) (k:KO) (b:Addr),Hz d=some (.ext (Ze9 d kvs))/\optN o=oV k/\Zav kvs k=some (.ref b)/\Hz b=some (.lst (ZaV m (cOf c o))):=λo ho Hz s=>by
   obtain⟨kvs,w1,_,⟨l0,w2,w3⟩,w4⟩:=id hWx
   cases o with
   |none=>exact⟨kvs,none,l0,s _ _ w1,rfl,w2,s _ _ w3⟩
   |some q =>
    obtain⟨b,b1,b2⟩:=w4 q (ho q rfl)
    exact⟨kvs,some (q:Int),b,s _ _ w1,rfl,b1,s _ _ b2⟩
  refine Zag (fun σ Hz=>∃e:Addr,σ=[some (.ref t),some (.ref y),some (.int m),some (.ref d),some (.int v),some (optN ah),some (optN bh),some (.ref e)]/\Hz e=some (.lst ((Zb6 (cOf c ah) (cOf c bh) m).map V.int))/\Zf Hy Hz) (λR hR=>?_) ?_
  ·walk_at "rd"
   refine⟨by omega,by omega,λp hp=>⟨0,m,Zb,by decide,by decide,by omega,by omega,?_⟩⟩
   rw[show((m:Int)-0).toNat=m by omega]
   have g:=(Zf.refl Hy).upd (o:=.rng 0 (m:Int)) hp
   have hbits:∀o:Option Nat,(∀q,o=some q->∃k,k<i/\ps[k]?=some (q:Int))->∀j,j<=m->cOf c o j<2 ^ 100000:=λo ho j hj=>by
    cases o with
    |none=>exact Nat.one_lt_two_pow (n:=100000) (by decide)
    |some q =>
     have:=ZjT hT hm (P:=λp=>∃k,k<i/\ps[k]?=some (p:Int)) (λp hp=>⟨by
      obtain⟨k,_,ek⟩:=hp
      have:=hpm.mem_iff.mp (List.mem_of_getElem? ek)
      unfold nats at this
      obtain⟨z,hz,ez⟩:=YB.mp this
      have:=Yu.mp hz
      omega,hC p hp⟩) 12 q (ho q rfl) (by omega) j hj
     exact Yt this (Nat.pow_le_pow_right (by decide) (ZpG 12 (by decide)))
   refine comp_map (n:=m) (λk=>V.int ((cOf c ah (m-k)*cOf c bh (m-1-k):Nat):Int)) (Yr (show _<=1000 by omega) (by decide)) (λj Hz s hj=>hj) (λHz s=>Yd _) ?_ ?_
   ·rintro k x Hz Hw hk s ⟨rfl,rfl⟩
    rw[show((0:Int)+(m:Int)-1-(k:Int))=((m-1-k:Nat):Int) by omega]
    walk_at "rd"
    obtain⟨kvs1,k1',b1,u1,u2,u3,u4⟩:=hcol ah hAp Hw (g.trans s)
    obtain⟨kvs2,k2',b2,u5,u6,u7,u8⟩:=hcol bh hBp Hw (g.trans s)
    refine⟨_,u1,_,u2,_,u3,b1,rfl,_,SqL.of u4,_,by rw[show(((m-1-k:Nat):Int)+1)=((m-k:Nat):Int) by omega];exact Zjm (by omega),_,u5,_,u6,_,u7,b2,rfl,_,SqL.of u8,_,Zjm (by omega),_,rfl,_,rfl,ZsY (hbits ah hAp _ (by omega)) (hbits bh hBp _ (by omega)),CW.next hk (by rw[Int.natCast_mul]) s⟩
   ·intro l2 Hz s hl2
    have e1:(List.range m).map (λk=>V.int ((cOf c ah (m-k)*cOf c bh (m-1-k):Nat):Int))=(Zb6 (cOf c ah) (cOf c bh) m).map V.int:=by simp[Zb6,Function.comp_def]
    exact hR _ _ ⟨l2,rfl,by rw[Zb,e1],(g.trans s).ZG hl2⟩
  rintro σ Hz ⟨e,rfl,he,sz⟩
  walk_at "rd"
  refine⟨by decide,λp hp=>⟨e,Zb6 (cOf c ah) (cOf c bh) m,rfl,SqL.of (((Zf.refl Hz).upd hp) _ _ he),by simp[Zb6];omega,λl2 H2' s2' hl2'=>⟨l2,rfl,_,s2' _ _ Zb,_,hl2',?_,λp2 hp2=>⟨_,SqL.of Zb,λp3 hp3=>?_⟩⟩⟩⟩
  ·rw[Yf,ZcD]
   exact Yh (show _<=1000 by simp[Zb6];omega) (by decide)
  have eR:([V.int 0]++(ZC 0 (Zb6 (cOf c ah) (cOf c bh) m)).map V.int).reverse=ZaV m λj=>ZcI (cOf c ah) (cOf c bh) m (m-j):=by
   rw[<-Zu6,List.map_reverse];rfl
  rw[eR]at *
  have sA:=((((sz.ZG (o:=.lst [V.int 0]) hp).trans s2').ZG (o:=.lst ([V.int 0]++(ZC 0 (Zb6 (cOf c ah) (cOf c bh) m)).map V.int)) hp2).ZG (o:=.lst (ZaV m λj=>ZcI (cOf c ah) (cOf c bh) m (m-j))) hp3)
  have h3:=Zb (H:=upd H2' p2 (.lst ([V.int 0]++(ZC 0 (Zb6 (cOf c ah) (cOf c bh) m)).map V.int))) (a:=p3) (o:=.lst (ZaV m λj=>ZcI (cOf c ah) (cOf c bh) m (m-j)))
  generalize upd (upd H2' p2 (.lst ([V.int 0]++(ZC 0 (Zb6 (cOf c ah) (cOf c bh) m)).map V.int))) p3 (.lst (ZaV m λj=>ZcI (cOf c ah) (cOf c bh) m (m-j)))=Hc at sA h3⊢
  obtain⟨kvs,w1,w0,⟨l0,w2,w3⟩,w4⟩:=id hWx
  have split:∀p:Nat,(∃k,k<i+1/\ps[k]?=some (p:Int))->(∃k,k<i/\ps[k]?=some (p:Int))\/p=v:=λp ⟨k,hk,ek⟩=>by
   by_cases z:k=i
   ·subst z;rw[hpi]at ek;exact .inr (by have:=Yz ek;omega)
   ·exact .inl ⟨k,by omega,ek⟩
  have up:∀p:Nat,(∃k,k<i/\ps[k]?=some (p:Int))->∃k,k<i+1/\ps[k]?=some (p:Int):=λp ⟨k,hk,ek⟩=>⟨k,by omega,ek⟩
  refine⟨kvs,sA _ _ w1,some (v:Int),rfl,Yr (show _<=1000 by omega) (by decide),setC c v λj=>ZcI (cOf c ah) (cOf c bh) m (m-j),?_,λp hp2=>?_,?_,(sx.trans sA).upd zd⟩
  ·exact Za1.put (sA _ _ w1) w0 ⟨l0,w2,sA _ _ w3⟩ (λp hp=>let ⟨l,a1,a2⟩:=w4 p hp;⟨l,a1,sA _ _ a2⟩) h3 hnP split
  ·by_cases z:p=v
   ·subst z
    exact Znk.new hA hB hAp hBp hnP up
   ·exact(hC p ((split p hp2).resolve_right z)).keep z hnP up
  ·have hlc:=sA _ _ hlx
   rw[Zh (λz=>by rw[z,sA _ _ w1]at hlc;cases hlc)]
   exact hlc
 ·rintro σ Hx ⟨c,v4,v5,v6,v7,rfl,hWx,hC,hlx,sx⟩
  walk_at "rd"
  have hall:∀p:Nat,p<T'.length->∃k,k<ps.length/\ps[k]?=some (p:Int):=λp hp=>by
   have hm:(p:Int)∈ps:=hpm.mem_iff.mpr (YB.mpr ⟨p,Yu.mpr (by omega),rfl⟩)
   obtain⟨k,hk,ek⟩:=YR hm
   exact⟨k,hk,by rw[Yi hk,ek]⟩
  refine k1 d c Hx zd sx (λp hp=>?_) ?_
  ·obtain⟨ah,bh,h1,h2,_,_,h5⟩:=hC p (hall p hp)
   exact⟨ah,bh,h1,h2,h5⟩
  ·obtain⟨kvs,w1,w0,w2,w3⟩:=hWx
   exact⟨kvs,w1,by omega,w2,λp hp=>w3 p (hall p hp)⟩
theorem Zvg {m j:Nat}{g:Nat->Nat} (h:j<m):atI (ZbJ m g) (j:Int)=some (V.int ((g j:Nat):Int)):=ZaE (by simp[ZbJ,h])
theorem ZnA (m:Nat) (g:Nat->Nat):(ZbJ m g).length=m:=by simp[ZbJ]
theorem ZnB {r:List Nat}{j:Nat} (h:j<r.length):atI (ZgP r) (j:Int)=some (V.int ((fnR r j:Nat):Int)):=ZaE (by simp[ZgP,fnR,Ym,h])
theorem Zs3 {r:List Nat}{m j:Nat} (hr:∀i∈r,i<m) (h:j<r.length):fnR r j<m:=by
 have e:fnR r j=r[j]:=by simp[fnR,Ym,h]
 rw[e];exact hr _ (YH h)
theorem ZnC {p:Addr}{H:Hp}:Exc p H H:=λ_ _ _ z=>z
theorem Zch {p:Addr}{H H1 H2:Hp} (a:Exc p H H1) (b:Exc p H1 H2):Exc p H H2:=λd o n z=>b d o n (a d o n z)
theorem Zs4 {m:Nat}{g:Nat->Nat} (h:∀j,g j=1):(List.replicate ((m:Nat):Int).toNat [V.int 1]).flatten=ZbJ m g:=by
 rw[show((m:Nat):Int).toNat=m by omega]
 refine List.ext_getElem (by simp[ZbJ]) λj j1 j2=>?_
 have e1:(List.replicate m [V.int 1]).flatten=List.replicate m (V.int 1):=by simp
 simp only[e1,List.getElem_replicate]
 simp[ZbJ,h]
theorem Zs5 {m:Nat} (h:0<m) (g:Nat->Nat):[V.int 0]++Zai ((ZC 0 ((List.range m).map λj=>((g j:Nat):Int))).map V.int) none (some (-1))=ZbJ m (sumTo g):=by
 rw[(Zfv g m).1,Zsb]
 refine List.ext_getElem (by simp[ZbJ];omega) λj j1 j2=>?_
 cases j with
 |zero=>simp[ZbJ,sumTo]
 |succ j=>simp[ZbJ]
theorem ZqQ {m x v:Nat} (h:x<=m):(List.replicate ((x:Nat):Int).toNat [V.int 0]).flatten++(List.replicate ((m:Int)-(x:Int)).toNat [V.int (v:Int)]).flatten=ZbJ m (λy=>if y<x then 0 else v):=by
 rw[show((x:Nat):Int).toNat=x by omega,show((m:Int)-(x:Int)).toNat=m-x by omega]
 have e1:(List.replicate x [V.int 0]).flatten=List.replicate x (V.int 0):=by simp
 have e2:(List.replicate (m-x) [V.int (v:Int)]).flatten=List.replicate (m-x) (V.int (v:Int)):=by simp
 rw[e1,e2]
 refine List.ext_getElem (by simp[ZbJ];omega) λj j1 j2=>?_
 by_cases z:j<x
 ·rw[Jb (by simpa using z)]
  simp[ZbJ,z]
 ·rw[Jd (by simp;omega)]
  simp[ZbJ,z]
theorem Zeq {f:Addr}{fd:FuncData}{n:Nat} (F:Fun K "outside_ways" "Filling.outside_ways" ZL f fd) (GM_Filling_outside_by_elder:ZaF P w K mg base "Filling" "outside_by_elder" (2+n) ["self","place","elder"] (Z3 n K mg)) (T:Txt K mg):FnOk P w K mg base (CXE P w) (2+n+1) f fd ["self","place"] (ZV (n+1) K mg):=by
 refine F.okX ZbF (λvs H Q E h=>?_) (λcdv A outer s H vs Q E hr h=>?_)
 ·obtain⟨a,T,m,c,r,p,rfl,_⟩:=h;rfl
 obtain⟨a,T',m,c,r,p,rfl,hF,hG,hp,hU,hn,k1⟩:=h
 refine⟨_,(Zd (Z8 (pt_cmp (Zqs (Zr0 hr) (pv 1) (Z5 (K:=K) rfl T.cl_Filling T.n_Filling_outsides (pv 0)))) (Zg (ZuT (Zr0 hr) (Z5 (K:=K) rfl T.cl_Filling T.n_Filling_outsides (pv 0)) (pv 1) (Zfq (mg:=mg) rfl GM_Filling_outside_by_elder (hr.mono (by omega)) ZD (pv 0) (Za (pv 1) (Za (Zv Zbi (Z5 (K:=K) rfl T.cl_Filling T.n_Filling_tree (pv 0)) (pv 1) (λ_ _=>rfl)) Zc))) rfl)) Zz)
   (Zg (Zt (ZuS (Zr0 hr) (Z5 (K:=K) rfl T.cl_Filling T.n_Filling_outsides (pv 0)) (pv 1) (λ_ _=>rfl))))),?_⟩
 obtain⟨n,rfl⟩:∃n',n=n'+1:=⟨n-1,by omega⟩
 obtain⟨dx,fs,kvs,h1,⟨f1,f2,f3,f4,f5,f6,f7,f8,f9,f10,f11⟩,h3,h4,h5,h6,h7,h8⟩:=hF.1
 have x1:=Zw _ _ h1
 have o1:=Zw _ _ h6
 walk_at "rd"
 refine⟨dx,fs,x1,_,f5,_,rfl,_,Znb.k o1 (k:=.inl (p:Int)),ZK (λz=>?_) λz=>?_⟩
 ·refine⟨dx,fs,x1,f9,dx,fs,x1,_,f1,_,rfl,_,Zmh (ZlF h3 Zw),_,ZaE (ZdK hp),a,T',m,c,r,p,rfl,hF,hG,hp,hU,by omega,λl H1 e1 hF1 hl=>?_⟩
  obtain⟨dx1,fs1,kvs1,g1,⟨j1,j2,j3,j4,j5,j6,j7,j8,j9,j10,j11⟩,g3,g4,g5,g6,g7,g8⟩:=id hF1.1
  have x2:=Zw _ _ g1
  have o2:=Zw _ _ g6
  have nor:a.o≠a.rl:=λz=>by rw[z,Zex]at g6;cases g6
  have hlen:kvs1.length<sizeLine:=Yr (Yh g7 (Yh (ZpH _ _) hG.2.1)) (by decide)
  have nx:a.x≠a.o:=λz=>by rw[z,o2]at x2;cases x2
  have hF2:Zc4 mg (upd H1 a.o (.dK (putK kvs1 (.inl (p:Int)) (.ref l)))) a T' m c r:=⟨by rw[Zic nor];exact ZqL hF1.1 g6 hp hU hl,by rw[Zh (λz=>nor z.symm)];exact hF1.2⟩
  refine⟨dx1,fs1,x2,_,j5,_,rfl,_,.inl ⟨kvs1,.inl (p:Int),o2,rfl,hlen,rfl⟩,dx1,fs1,by rw[Zh nx];exact x2,_,j5,_,rfl,_,.inl ⟨_,.inl (p:Int),.inl Zb,rfl,by rw[Zc2,Yc rfl]⟩,k1 l _ (Zch e1 λb u n z=>by rw[Zh n];exact z) hF2 ?_⟩
  rw[Zic nor,Zh (λz=>by rw[z,g6]at hl;cases hl)]
  exact hl
 ·cases e:Zav kvs (.inl (p:Int))with
  |none=>rw[e]at z;exact absurd rfl z
  |some v =>
   obtain⟨a1,l,rfl,a3⟩:=h8 p hp v e
   exact⟨dx,fs,x1,_,f5,_,rfl,_,.inl ⟨kvs,.inl (p:Int),.inl o1,rfl,e.symm⟩,k1 l H ZnC hF a3⟩
theorem ZcL {f:Addr}{fd:FuncData}{n:Nat} (F:Fun K "outside_by_elder" "Filling.outside_by_elder" Zy f fd) (ZaB:Callee P w K mg base "running_sums" 1 ["numbers"] (Zbm K mg)) (GM_Filling_outside_ways:ZaF P w K mg base "Filling" "outside_ways" (2+n) ["self","place"] (ZV n K mg)) (GM_Filling_onward_ways:ZaF P w K mg base "Filling" "onward_ways" (2+n) ["self","place"] (Z0 n K mg)) (T:Txt K mg):FnOk P w K mg base (CXE P w) (2+n+1) f fd ["self","place","elder"] (Z3 (n+1) K mg):=by
 refine F.okX Z6 (λvs H Q E h=>?_) (λcdv A outer s H vs Q E hr h=>?_)
 ·obtain⟨a,T,m,c,r,p,rfl,_⟩:=h;rfl
 obtain⟨a,T',m,c,r,p,rfl,hF,hG,hp,hU,hn,k1⟩:=h
 refine⟨_,(Zd (Z8 (Zs Zdr (pv 2) (Ze6 ZcB Ze) (Zr _)) (Zg (Zt (Zp ZgG (Z1 (Za Ze Zc)) (Z5 (K:=K) rfl T.cl_Filling T.n_Filling_most (pv 0))))) Zz)
   (Zd (Z8 (Zs ZcH (pv 2) (pv 1) (Zr _)) (Zg (Zt (Zp ZhX (Z1 (Za Ze Zc)) (ZcZ Zga (Zj ZaB (hr.mono (by omega)) rfl ZD (Za (Zfq (mg:=mg) rfl GM_Filling_onward_ways (hr.mono (by omega)) ZD (pv 0) (Za (pv 2) Zc)) Zc)) Zet (Zeu (Ze6 ZcB Ze)))))) Zz)
   (Zd (Zn (i:=3) Z6.nd rfl (Or.inl rfl) (Zv Zq (Z5 (K:=K) rfl T.cl_Filling T.n_Filling_row (pv 0)) (pv 2) (λ_ _=>rfl)))
   (Zg (Zt (Zp ZhX (Zp ZgG (Z1 (Za Ze Zc)) (pv 3)) (Zp ZgG (Z1 (Za (Zv Zq (Zfq (mg:=mg) rfl GM_Filling_outside_ways (hr.mono (by omega)) ZD (pv 0) (Za (pv 2) Zc)) (pv 3) (λ_ _=>rfl)) Zc)) (Zp ZcY (Z5 (K:=K) rfl T.cl_Filling T.n_Filling_most (pv 0)) (pv 3))))))))),?_⟩
 obtain⟨dx,fs,kvs,h1,⟨f1,f2,f3,f4,f5,f6,f7,f8,f9,f10,f11⟩,h3,h4,h5,h6,h7,h8⟩:=id hF.1
 obtain⟨hGT,hl12,hm0,hm12,hW,hrm,hrl⟩:=id hG
 obtain⟨_,ns,hT⟩:=id hGT
 have eN:=hT.1
 have x1:=Zw _ _ h1
 have rl1:=hF.2
 have fresh:∀{b:Addr},H b=none->b≠a.rl:=λ{b} z y=>by rw[y,rl1]at z;cases z
 walk_at "rd"
 refine ZK (λz=>?_) λz=>ZK (λz2=>?_) λz2=>?_
 ·refine⟨by decide,λb hb=>?_⟩
  have g:=(Zf.refl H).upd (o:=.lst [V.int 1]) hb
  refine⟨dx,fs,g _ _ x1,_,f2,_,rfl,_,Zb,by omega,by omega,?_,λb1 hb1=>?_⟩
  ·exact Yh (show _<=1000 by simp;omega) (by decide)
  ·have g2:=g.ZG (o:=.lst (List.replicate ((m:Nat):Int).toNat [V.int 1]).flatten) hb1
   refine k1 b1 _ g2.Zfl (Za2 hF g2) ?_
   rw[ZaK (fresh (g.free hb1)),Zb,Zs4 (λj=>ZbV hT hp z)]
 ·rcases Z2 hT hp with⟨y,_⟩|⟨e,ye,he,yw⟩
  ·exact absurd y z
  have hpe:p<e:=by omega
  rw[ye]
  refine⟨by decide,λb hb=>?_⟩
  have g:=(Zf.refl H).upd (o:=.lst [V.int 0]) hb
  have hbr:=fresh hb
  refine⟨dx,fs,g _ _ x1,f10,?_⟩
  obtain⟨n,rfl⟩:∃n',n=n'+1:=⟨n-1,by rw[yw,Yo]at hn;omega⟩
  refine⟨a,T',m,c,r,e,rfl,Za2 hF g,hG,he,hU.up hT hp ye,by rw[yw,Yo]at hn;omega,λl H1 e1 hF1 hl=>?_⟩
  have nbo:b≠a.o:=λy=>by rw[y,Zw _ _ h6]at hb;cases hb
  have hb1:=e1 _ _ nbo (Zb (H:=H) (a:=b) (o:=.lst [V.int 0]))
  refine⟨l,(List.range m).map (λj=>((nW T' c (fnR r) e j:Nat):Int)),rfl,SqL.of (by rw[<-ZpI];exact Zw _ _ hl),by simp;omega,λl2 H2 s2 hl2=>⟨l2,rfl,_,SqL.of hl2,λb2 hb2=>?_⟩⟩
  have g2:=s2.ZG (o:=.lst (Zai ((ZC 0 ((List.range m).map λj=>((nW T' c (fnR r) e j:Nat):Int))).map V.int) none (some (-1)))) hb2
  refine⟨_,g2 _ _ hb1,_,Zb,?_,λb3 hb3=>?_⟩
  ·refine Yh (show _<=1000 from ?_) (by decide)
   have:=Zbt ((ZC 0 ((List.range m).map λj=>((nW T' c (fnR r) e j:Nat):Int))).map V.int) none (some (-1))
   rw[Yf,ZcD,Yf,Y2]at this
   simp only[Yo,List.length_nil];omega
  ·have g3:=g2.ZG (o:=.lst ([V.int 0]++Zai ((ZC 0 ((List.range m).map λj=>((nW T' c (fnR r) e j:Nat):Int))).map V.int) none (some (-1)))) hb3
   refine k1 b3 _ (Zch (Zch g.Zfl e1) g3.Zfl) (Za2 hF1 g3) ?_
   rw[ZaK (λy=>by rw[y,g2 _ _ hF1.2]at hb3;cases hb3),Zb,Zs5 hm0]
   congr 2
   exact congrArg (ZbJ m) (funext λx=>(Zdx hT hp ye hpe).symm)
 ·rcases Z2 hT hp with⟨y,_⟩|⟨e,ye,he,yw⟩
  ·exact absurd y z
  rw[ye]
  have npe:e≠p:=λy=>by
   subst y
   have:=(ZeI hT _ e hp (Yd _)).2
   rw[yw]at this
   exact this (by simp)
  have hep:e<p:=by omega
  have her:=hU p (by simp) e ye hep
  have hrem:=Zs3 hrm her
  obtain⟨n,rfl⟩:∃n',n=n'+1:=⟨n-1,by rw[yw,Yo]at hn;omega⟩
  refine⟨dx,fs,x1,_,f6,_,rfl,_,SqL.of rl1,_,ZnB her,by decide,λb hb=>⟨_,rfl,_,Zb,by omega,by omega,?_,λb1 hb1=>?_⟩⟩
  ·exact Yh (show _<=1000 by simp;omega) (by decide)
  have g:=(Zf.refl H).upd (o:=.lst [V.int 0]) hb
  have g1:=g.ZG (o:=.lst (List.replicate ((fnR r e:Nat):Int).toNat [V.int 0]).flatten) hb1
  refine⟨dx,fs,g1 _ _ x1,f8,a,T',m,c,r,e,rfl,Za2 hF g1,hG,he,hU.up hT hp ye,by rw[yw,Yo]at hn;omega,λl H1 e1 hF1 hl=>⟨l,rfl,_,_,rfl,SqL.of (Zw _ _ hl),_,Zvg hrem,by decide,λb2 hb2=>?_⟩⟩
  have nbo:b1≠a.o:=λy=>by rw[y,g _ _ (Zw _ _ h6)]at hb1;cases hb1
  have hc1:=e1 _ _ nbo (Zb (H:=upd H b (.lst [V.int 0])) (a:=b1) (o:=.lst (List.replicate ((fnR r e:Nat):Int).toNat [V.int 0]).flatten))
  have xx:=hF1
  obtain⟨⟨dx1,fs1,kvs1,i1,⟨_,j2,_⟩,_⟩,rl2⟩:=xx
  have g2:=(Zf.refl H1).upd (o:=.lst [V.int ((oW T' c (fnR r) e (fnR r e):Nat):Int)]) hb2
  refine⟨dx1,fs1,g2 _ _ (Zw _ _ i1),_,j2,_,rfl,_,rfl,_,Zb,by omega,by omega,?_,λb3 hb3=>?_⟩
  ·exact Yh (show _<=1000 by simp;omega) (by decide)
  have g3:=g2.ZG (o:=.lst (List.replicate ((m:Int)-((fnR r e:Nat):Int)).toNat [V.int ((oW T' c (fnR r) e (fnR r e):Nat):Int)]).flatten) hb3
  refine⟨_,g3 _ _ hc1,_,Zb,?_,λb4 hb4=>?_⟩
  ·exact Yh (show _<=1000 by simp;omega) (by decide)
  have g4:=g3.ZG (o:=.lst ((List.replicate ((fnR r e:Nat):Int).toNat [V.int 0]).flatten++(List.replicate ((m:Int)-((fnR r e:Nat):Int)).toNat [V.int ((oW T' c (fnR r) e (fnR r e):Nat):Int)]).flatten)) hb4
  refine k1 b4 _ (Zch (Zch g1.Zfl e1) g4.Zfl) (Za2 hF1 g4) ?_
  rw[ZaK (λy=>by rw[y,g3 _ _ rl2]at hb4;cases hb4),Zb,ZqQ (by omega)]
  congr 2
  exact congrArg (ZbJ m) (funext λx=>(ZbW hT hp ye (by omega)).symm)
theorem ZnD {g:Nat->Nat}{M:Nat}:∀x,(∀y,y<x->g y<=M)->sumTo g x<=x*M
 |0,_=>Ys _
 |x+1,h=>by
  have h1:=ZnD x λy hy=>h y (by omega)
  have h2:=h x (by omega)
  show sumTo g x+g x<=(x+1)*M
  rw[Nat.add_mul,Nat.one_mul];omega
theorem oW_le {ns T:List Int} (hT:Zi ns T) {c:Nat->Nat->Nat}{f:Nat->Nat}{m B X:Nat} (hm:m<=12) (hf:∀e,f e<=m) (hX:12*B<=X) (hX1:1<=X) (hc:∀p j,p<T.length->j<=m->cOf c (ZbI T p) j<=B):∀d p x,p<T.length->(way T p).length<=d->x<=m->oW T c f p x<=X ^ d:=by
 intro d
 induction d with
 |zero =>
  intro p x hp hd hx
  rcases Z2 hT hp with⟨z,_⟩|⟨q,z,hq,zw⟩
  ·rw[ZbV hT hp z];exact Yd _
  ·rw[zw]at hd;simp at hd
 |succ d ih =>
  intro p x hp hd hx
  have h1:1<=X ^ (d+1):=Nat.pow_le_pow_left hX1 (d+1) |> Yh (by rw[Nat.one_pow];exact Yd 1)
  rcases Z2 hT hp with⟨z,_⟩|⟨q,z,hq,zw⟩
  ·rw[ZbV hT hp z];exact h1
  ·have hd2:(way T q).length<=d:=by rw[zw,Yo]at hd;omega
   have hs:X ^ d<=X ^ (d+1):=Nat.pow_le_pow_right hX1 (by omega)
   by_cases hl:p<q
   ·rw[Zdx hT hp z hl]
    refine Yh (ZnD (M:=X ^ d*B) x λy hy=>Nat.mul_le_mul (ih q y hq hd2 (by omega)) (hc q y hq (by omega))) ?_
    rw[Nat.pow_succ]
    refine Yh (Nat.mul_le_mul_right _ (show x<=12 by omega)) ?_
    rw[Nat.mul_left_comm]
    exact Nat.mul_le_mul_left _ hX
   ·rw[ZbW hT hp z (by omega)]
    split
    ·omega
    ·exact Yh (ih q _ hq hd2 (hf q)) hs
theorem Zs6 {ns T:List Int}{m:Nat}{c:Nat->Nat->Nat} (hT:Zi ns T) (hm:m<=12) (hl:T.length<=12) (hW:ZX T m c) (p j:Nat) (hj:j<=m):cOf c (ZbI T p) j<2 ^ 20476:=by
 cases e:ZbI T p with
 |none=>exact Nat.one_lt_two_pow (n:=20476) (by decide)
 |some q =>
  have:=ZjT hT hm (P:=λp=>p<T.length) (λp hp=>⟨hp,by
   obtain⟨a,b,x1,x2,x3⟩:=hW p hp
   exact⟨a,b,x1,x2,(λq e=>by subst e;exact x1.2.1),(λq e=>by subst e;exact x2.2.1),x3⟩⟩) 12 q (Zgh e).2.1 (by omega) j hj
  exact Yt this (Nat.pow_le_pow_right (by decide) (show Zhz 12<=20476 by decide))
theorem oW_ok {ns T:List Int}{m:Nat}{c:Nat->Nat->Nat}{f:Nat->Nat} (hT:Zi ns T) (hm:m<=12) (hl:T.length<=12) (hW:ZX T m c) (hf:∀e,f e<=m) {p x:Nat} (hp:p<T.length) (hx:x<=m):IntMulOk ((oW T c f p x:Nat):Int) ((cOf c (ZbI T p) x:Nat):Int):=by
 have h1:=oW_le hT (c:=c) (f:=f) (B:=2 ^ 20476) (X:=2 ^ 20480) hm hf (by rw[show 20480=20476+4 from rfl,Nat.pow_add,Nat.mul_comm];exact Nat.mul_le_mul_left _ (by decide)) (Nat.one_le_two_pow) (λp j _ hj=>YM (Zs6 hT hm hl hW p j hj)) 12 p x hp (Yh (YM (ZoN hT hp)) hl) hx
 have h2:=Zs6 hT hm hl hW p x hx
 rw[<-Nat.pow_mul]at h1
 have h3:oW T c f p x<2 ^ 300000:=Yr h1 (Nat.pow_lt_pow_right (by decide) (by decide))
 exact Zjf (Yh ((intBits_le_iff (m:=300000)).mpr h3) (by decide)) (Yh ((intBits_le_iff (m:=20476)).mpr h2) (by decide))
theorem Zs7 {r:List Nat}{m:Nat} (hr:∀i∈r,i<m) (j:Nat):fnR r j<=m:=by
 by_cases h:j<r.length
 ·exact YM (Zs3 hr h)
 ·simp[fnR,Ym,List.getElem?_eq_none (Nat.le_of_not_lt h)]
theorem ZqR {S:Hp}{d:Addr}{T:List Int}{m:Nat}{c:Nat->Nat->Nat} (hW:Za1 S d 13 m c (λp=>p<T.length)) (p:Nat):∃(kvs:List (KO×V)) (k:KO) (b:Addr),S d=some (.ext (Ze9 d kvs))/\optN (ZbI T p)=oV k/\Zav kvs k=some (.ref b)/\S b=some (.lst (ZaV m (cOf c (ZbI T p)))):=by
 obtain⟨kvs,w1,_,⟨l0,w2,w3⟩,w4⟩:=hW
 cases e:ZbI T p with
 |none=>exact⟨kvs,none,l0,w1,rfl,w2,w3⟩
 |some q =>
  obtain⟨b,b1,b2⟩:=w4 q (Zgh e).2.1
  exact⟨kvs,some (q:Int),b,w1,rfl,b1,b2⟩
theorem ZeO {f:Addr}{fd:FuncData}{n:Nat} (F:Fun K "onward_ways" "Filling.onward_ways" ZN f fd) (GM_Filling_outside_ways:ZaF P w K mg base "Filling" "outside_ways" (2+n) ["self","place"] (ZV n K mg)) (T:Txt K mg):FnOk P w K mg base (CXE P w) (2+n+1) f fd ["self","place"] (Z0 (n+1) K mg):=by
 refine F.okX ZaI (λvs H Q E h=>?_) (λcdv A outer s H vs Q E hr h=>?_)
 ·obtain⟨a,T,m,c,r,p,rfl,_⟩:=h;rfl
 obtain⟨a,T',m,c,r,p,rfl,hF,hG,hp,hU,hn,k1⟩:=h
 refine⟨_,(Zd (Zn (i:=2) ZaI.nd rfl (Or.inr rfl) (Zv Zq (Zv Zq (Z5 (K:=K) rfl T.cl_Filling T.n_Filling_young (pv 0)) (pv 1) (λ_ _=>rfl)) Ze (λ_ _=>rfl)))
   (Zg (Zt (Zec ["number","out","behind","self"] [none,none,some 2,some 0] rfl rfl rfl (Zl5 (K:=K) rfl rfl T.b_enumerate (Za (Zfq (mg:=mg) rfl GM_Filling_outside_ways (hr.mono (by omega)) ZD (pv 0) (Za (pv 1) Zc)) Zc)) (λ_ _ _ _ _=>(Zje (K:=K) (n:=2) rfl rfl (ZI (Zk (i:=0) (show(["number","out","behind","self"]:List Str).Nodup from by decide +kernel) rfl (Or.inl rfl)) (ZI (Zk (i:=1) (show(["number","out","behind","self"]:List Str).Nodup from by decide +kernel) rfl (Or.inl rfl)) ZbL)))) (λ_ _ _ _ _=>Zab) (λ_ _ _ _ _=>(Zp Zbl (pv 1) (Zv (r:=ZpW K) Zq (Zhw (Z5 (K:=K) rfl T.cl_Filling T.n_Filling_spans (pv 3)) (pv 2) (λ_ _=>rfl)) (pv 0) (λ_ _=>rfl)))) (Zhi (Za7 Zx (Za7 Zx Zhh))))))),?_⟩
 obtain⟨dx,fs,kvs,h1,⟨f1,f2,f3,f4,f5,f6,f7,f8,f9,f10,f11⟩,h3,h4,h5,h6,h7,h8⟩:=id hF.1
 obtain⟨hGT,hl12,hm0,hm12,hW,hrm,hrl⟩:=id hG
 obtain⟨_,ns,hT⟩:=id hGT
 have eN:=hT.1
 have x1:=Zw _ _ h1
 obtain⟨as,y1,y2,y3⟩:=id h4
 obtain⟨b,hb⟩:∃b,as[p]?=some b:=⟨_,Yi (by omega)⟩
 obtain⟨ah,bh,hA,hB,hab⟩:=y3 p b hb
 obtain rfl:=ZeJ hT hB (Zgg T' p)
 obtain⟨n,rfl⟩:∃n',n=n'+1:=⟨n-1,by omega⟩
 walk_at "rd"
 refine⟨dx,fs,x1,_,f3,_,rfl,_,SqL.of (Zw _ _ y1),V.ref b,ZaE (by rw[YF,hb];rfl),_,rfl,_,SqL.of (Zw _ _ hab),_,rfl,dx,fs,x1,f8,a,T',m,c,r,p,rfl,hF,hG,hp,hU,by omega,λl H1 e1 hF1 hl=>⟨l,rfl,_,SqL.of (Zw _ _ hl),?_⟩⟩
 have hF1':=ZgQ hF1.1 Zw
 obtain⟨dx1,fs1,kvs1,i1,⟨_,_,_,j4,_⟩,_,_,i5,_⟩:=id hF1'
 obtain⟨ks,ko,sb,u1,u2,u3,u4⟩:=ZqR i5 p
 have hl':=Zw _ _ hl
 refine comp_map (n:=m) (λj=>V.int ((nW T' c (fnR r) p j:Nat):Int)) (Yr (show _<=12 by omega) (by decide)) (λj Hx s hj=>⟨_,_,SqL.of (s _ _ hl'),Yi (by rw[ZnA];exact hj)⟩) (λHx s=>⟨_,SqL.of (s _ _ hl'),ZnA _ _⟩) ?_ ?_
 ·rintro j x Hx Hz hj s ⟨q,x,hq,rfl,rfl,hx⟩
  have ex:=hx _ (SqL.of (s _ _ hl'))
  rw[show(ZbJ m (oW T' c (fnR r) p))[j]?=some (V.int ((oW T' c (fnR r) p j:Nat):Int)) by simp[ZbJ,hj]]at ex
  cases ex
  have g:=(Zf.refl Hx).upd (o:=.tup [.int (j:Int),.int ((oW T' c (fnR r) p j:Nat):Int)]) hq
  have tq:=Zb (H:=Hx) (a:=q) (o:=.tup [.int (j:Int),.int ((oW T' c (fnR r) p j:Nat):Int)])
  generalize upd Hx q (.tup [.int (j:Int),.int ((oW T' c (fnR r) p j:Nat):Int)])=Hy at g tq⊢
  have sg:=s.trans g
  walk_at "rd"
  exact⟨_,SqT.of tq,rfl,_,_,rfl,_,_,rfl,rfl,dx1,fs1,sg _ _ i1,_,j4,_,rfl,_,sg _ _ u1,_,u2,_,u3,_,rfl,_,_,rfl,SqL.of (sg _ _ u4),_,Zjm (by omega),_,rfl,_,rfl,oW_ok hT hm12 hl12 hW (Zs7 hrm) hp (by omega),CW.next hj (by simp[nW]) sg⟩
 ·intro r1 H5 s5 hr5
  refine k1 r1 _ (Zch e1 ((s5.ZG hr5).Zfl)) (Za2 hF1 (s5.ZG hr5)) ?_
  rw[ZaK (λy=>by rw[y,s5 _ _ hF1.2]at hr5;cases hr5),Zb]
  rfl
theorem Zfz {f:Addr}{fd:FuncData} (F:Fun K "next_ways" "Filling.next_ways" ZS f fd) (GM_Filling_onward_ways:ZaF P w K mg base "Filling" "onward_ways" 42 ["self","place"] (ZeK K mg)) (T:Txt K mg):FnOk P w K mg base (CXE P w) 43 f fd ["self"] (Za3 K mg):=by
 refine F.okX Zan (λvs H Q E h=>?_) (λcdv A outer s H vs Q E hr h=>?_)
 ·obtain⟨a,T,m,c,r,rfl,_⟩:=h;rfl
 obtain⟨a,T',m,c,r,rfl,hF,hG,hk,k1⟩:=h
 refine⟨_,(Zd (Zn (i:=1) Zan.nd rfl (Or.inl rfl) (Zm (Zo (K:=K) rfl) rfl T.b_len Yw (Za (Z5 (K:=K) rfl T.cl_Filling T.n_Filling_row (pv 0)) Zc)))
   (Zd (Zn (i:=2) Zan.nd rfl (Or.inl rfl) (Zv Zq (Zv Zq (Z5 (K:=K) rfl T.cl_Filling T.n_Filling_young (pv 0)) (pv 1) (λ_ _=>rfl)) Ze (λ_ _=>rfl)))
   (Zd (Zn (i:=3) Zan.nd rfl (Or.inl rfl) (Zhe (Zs ZrN (pv 2) ZgA (Zr _)) (Z5 (K:=K) rfl T.cl_Filling T.n_Filling_most (pv 0)) (Zv Zq (Z5 (K:=K) rfl T.cl_Filling T.n_Filling_row (pv 0)) (pv 2) (λ_ _=>rfl))))
   (Zg (Zt (ZcZ Zga (Zfq (mg:=mg) rfl GM_Filling_onward_ways (hr.mono (by decide)) ZD (pv 0) (Za (pv 1) Zc)) Zet (Zeu (pv 3)))))))),?_⟩
 obtain⟨dx,fs,kvs,h1,⟨f1,f2,f3,f4,f5,f6,f7,f8,f9,f10,f11⟩,h3,h4,h5,h6,h7,h8⟩:=id hF.1
 obtain⟨hGT,hl12,hm0,hm12,hW,hrm,hrl⟩:=id hG
 obtain⟨_,ns,hT⟩:=id hGT
 have eN:=hT.1
 have x1:=Zw _ _ h1
 have rl1:=hF.2
 obtain⟨as,y1,y2,y3⟩:=id h4
 obtain⟨b,hb⟩:∃b,as[r.length]?=some b:=⟨_,Yi (by omega)⟩
 obtain⟨ah,bh,hA,hB,hab⟩:=y3 r.length b hb
 obtain rfl:=ZcX hT hA (Zdw T' r.length)
 have eR:(ZgP r).length=r.length:=by simp[ZgP]
 refine Zag (fun σ Hx=>σ=[some (.ref a.x),some (.int r.length),none,none]/\Hx=H) (λR hR=>?_) ?_
 ·walk_at "rd"
  exact⟨dx,fs,x1,_,f6,_,rfl,_,.inl (SqL.of rl1),hR _ _ ⟨by rw[eR],rfl⟩⟩
 rintro σ Hx ⟨rfl,rfl⟩
 refine Zag (fun σ Hy=>σ=[some (.ref a.x),some (.int r.length),some (optN (ZbH T' r.length)),none]/\Hy=Hx) (λR hR=>?_) ?_
 ·walk_at "rd"
  exact⟨dx,fs,x1,_,f3,_,rfl,_,SqL.of (Zw _ _ y1),V.ref b,ZaE (by rw[YF,hb];rfl),_,rfl,_,SqL.of (Zw _ _ hab),_,rfl,hR _ _ ⟨rfl,rfl⟩⟩
 rintro σ Hy ⟨rfl,rfl⟩
 refine Zag (fun σ Hz=>σ=[some (.ref a.x),some (.int r.length),some (optN (ZbH T' r.length)),some (.int (abV T' m (fnR r) r.length:Nat))]/\Hz=Hy) (λR hR=>?_) ?_
 ·walk_at "rd"
  cases e:ZbH T' r.length with
  |none =>
   refine ZK (λ_=>⟨dx,fs,x1,_,f2,?_⟩) λz=>absurd rfl z
   have:=hR [some (.ref a.x),some (.int r.length),some (optN (ZbH T' r.length)),some (.int (abV T' m (fnR r) r.length:Nat))] Hy ⟨rfl,rfl⟩
   unfold abV at this
   rw[e]at this
   exact this
  |some q =>
   have hq:=(Zcf e).1
   refine ZK (λz=>nomatch z) λ_=>⟨dx,fs,x1,_,f6,_,rfl,_,_,rfl,SqL.of rl1,_,ZnB hq,?_⟩
   have:=hR [some (.ref a.x),some (.int r.length),some (optN (ZbH T' r.length)),some (.int (abV T' m (fnR r) r.length:Nat))] Hy ⟨rfl,rfl⟩
   unfold abV at this
   rw[e]at this
   exact this
 rintro σ Hz ⟨rfl,rfl⟩
 walk_at "rd"
 have hab:abV T' m (fnR r) r.length<=m:=by
  unfold abV
  cases e:ZbH T' r.length with
  |none=>exact Yd _
  |some q=>exact Zs7 hrm q
 refine⟨dx,fs,x1,f10,a,T',m,c,r,r.length,rfl,hF,hG,hk,Zjn hT hk,(show 3*(way T' r.length).length+2<=39 by have:=ZoN hT hk;omega),λl H1 e1 hF1 hl=>⟨l,rfl,_,SqL.of (Zw _ _ hl),λb2 hb2=>?_⟩⟩
 have g:=(Zf.refl H1).upd (o:=.lst (Zai (ZbJ m (nW T' c (fnR r) r.length)) none (some ((abV T' m (fnR r) r.length:Nat):Int)))) hb2
 refine k1 b2 _ (Zch e1 g.Zfl) (Za2 hF1 g) ?_
 rw[ZaK (λy=>by rw[y,hF1.2]at hb2;cases hb2),Zb,Zsk]
 congr 2
 refine List.ext_getElem (by simp[ZbJ];omega) λj j1 j2=>?_
 simp[ZbJ]
theorem excF {x:Addr}{H H1:Hp}{ho:HO}{b:Addr} (e:Exc x H H1) (hx:H x=some ho) (z:H1 b=none) (hx1:H1 x≠none:=by intro z;simp_all):H b=none:=by
 cases h:H b with
 |none=>rfl
 |some u =>
  by_cases y:b=x
  ·subst y;exact absurd z hx1
  ·rw[e b u y h]at z;cases z
theorem Zgo {f:Addr}{fd:FuncData} (F:Fun K "__init__" "Filling.__init__" ZW f fd) (ZgV:Callee P w K mg base "young_of" 1 ["tree"] (Zfu K mg)) (ZfA:Callee P w K mg base "span_ways" 6 ["tree","young","m"] (ZeG K mg)) (T:Txt K mg):FnOk P w K mg base (CXE P w) 7 f fd ["self","tree","m"] (Zat K mg):=by
 refine F.okX Zgn (λvs H Q E h=>?_) (λcdv A outer s H vs Q E hr h=>?_)
 ·obtain⟨x,dx,t,T,m,rfl,_⟩:=h;rfl
 obtain⟨x,dx,t,T',m,rfl,hx,ht,hG,hl,hm,hTb,k1⟩:=h
 refine⟨_,(Zd (Zgf (K:=K) rfl T.cl_Filling T.n_Filling_tree (pv 0) (pv 1))
   (Zd (Zgf (K:=K) rfl T.cl_Filling T.n_Filling_most (pv 0) (pv 2))
   (Zd (Zgf (K:=K) rfl T.cl_Filling T.n_Filling_young (pv 0) (Zj ZgV (hr.mono (by decide)) rfl ZD (Za (pv 1) Zc)))
   (Zd (Zgf (K:=K) rfl T.cl_Filling T.n_Filling_spans (pv 0) (Zj ZfA (hr.mono (by decide)) rfl ZD (Za (pv 1) (Za (Z5 (K:=K) rfl T.cl_Filling T.n_Filling_young (pv 0)) (Za (pv 2) Zc)))))
   (Zd (Zgf (K:=K) rfl T.cl_Filling T.n_Filling_outsides (pv 0) Zss)
   (Zg (Zgf (K:=K) rfl T.cl_Filling T.n_Filling_row (pv 0) (Z1 Zc)))))))),?_⟩
 have htE:∀Hx,Exc x H Hx->ZqK Hx t (T'.map V.int):=λHx e=>by
  rcases ht with h|⟨ob,o1,o2⟩
  ·exact .inl (e _ _ (λz=>by rw[z,hx]at h;cases h) h)
  ·exact .inr ⟨ob,o1,e _ _ (λz=>by rw[z,hx]at o2;cases o2) o2⟩
 have nTx:Zl7 K mg "from_below"≠x:=λz=>by
  have:=hTb
  unfold Zcz at this
  rw[z,hx]at this;cases this
 have hTE:∀Hx,Exc x H Hx->Zcz K mg "from_below" Hx:=λHx e=>e _ _ nTx hTb
 have exU:∀{Hx:Hp}{o:HO},Exc x H Hx->Exc x H (upd Hx x o):=λ{Hx o} e b u n z=>by rw[Zh n];exact e b u n z
 refine Zag (fun σ Hx=>σ=[some (.ref x),some (.ref t),some (.int m)]/\Hx x=some (.ins (cFi mg) dx (Zbq (Str.ofString "tree") (.ref t) []))/\Exc x H Hx) (λR hR=>?_) ?_
 ·walk_at "rd"
  exact⟨dx,[],hx,by decide,hR _ _ ⟨rfl,Zb,exU ZnC⟩⟩
 rintro σ H1 ⟨rfl,f1,e1⟩
 have l1:=ZaY (Str.ofString "tree") (.ref t) []
 generalize hA:Zbq (Str.ofString "tree") (.ref t) []=fsA at f1 l1
 refine Zag (fun σ Hx=>σ=[some (.ref x),some (.ref t),some (.int m)]/\Hx x=some (.ins (cFi mg) dx (Zbq (Str.ofString "most") (.int m) fsA))/\Exc x H Hx) (λR hR=>?_) ?_
 ·walk_at "rd"
  exact⟨dx,fsA,f1,Yr l1 (by decide),hR _ _ ⟨rfl,Zb,exU e1⟩⟩
 clear f1 e1 H1
 rintro σ H1 ⟨rfl,f1,e1⟩
 have l2:=ZaY (Str.ofString "most") (.int m) fsA
 generalize hB:Zbq (Str.ofString "most") (.int m) fsA=fsB at f1 l2
 refine Zag (fun σ Hx=>∃y,σ=[some (.ref x),some (.ref t),some (.int m)]/\H y=none/\Hx x=some (.ins (cFi mg) dx (Zbq (Str.ofString "young") (.ref y) fsB))/\ZbU Hx y T'/\Exc x H Hx) (λR hR=>?_) ?_
 ·walk_at "rd"
  exact⟨t,T',rfl,Zmh (htE _ e1),hG,λy H2 zy hY s2=>⟨dx,fsB,s2 _ _ f1,Yr (Yh l2 (Nat.succ_le_succ l1)) (by decide),hR _ _ ⟨y,rfl,excF e1 hx zy,Zb,hY.Znl (s2 _ _ f1),exU (λb o n z=>s2 _ _ (e1 b o n z))⟩⟩⟩
 clear f1 e1 H1
 rintro σ H1 ⟨y,rfl,zy,f1,hY,e1⟩
 have l3:=ZaY (Str.ofString "young") (.ref y) fsB
 generalize hC:Zbq (Str.ofString "young") (.ref y) fsB=fsC at f1 l3
 have y3:fsC.lookup (Str.ofString "young")=some (.ref y):=by rw[<-hC,Zcw,Yc rfl]
 refine Zag (fun σ Hx=>∃d c,σ=[some (.ref x),some (.ref t),some (.int m)]/\Hx x=some (.ins (cFi mg) dx (Zbq (Str.ofString "spans") (.ref d) fsC))/\ZbU Hx y T'/\ZX T' m c/\Za1 Hx d 13 m c (λp=>p<T'.length)/\Exc x H Hx) (λR hR=>?_) ?_
 ·walk_at "rd"
  exact⟨dx,fsC,f1,_,y3,t,y,T',m,rfl,Zmh (htE _ e1),hY,hG,hl,hm,hTE _ e1,λd c H2 zd s2 hW hA=>⟨dx,fsC,s2 _ _ f1,Yr (Yh l3 (Nat.succ_le_succ (Yh l2 (Nat.succ_le_succ l1)))) (by decide),hR _ _ ⟨d,c,rfl,Zb,(ZcK hY s2).Znl (s2 _ _ f1),hW,hA.Znl (s2 _ _ f1),exU (λb o n z=>s2 _ _ (e1 b o n z))⟩⟩⟩
 clear f1 e1 H1 hY
 rintro σ H1 ⟨d,c,rfl,f1,hY,hW,hA',e1⟩
 have l4:=ZaY (Str.ofString "spans") (.ref d) fsC
 generalize hD:Zbq (Str.ofString "spans") (.ref d) fsC=fsD at f1 l4
 refine Zag (fun σ Hx=>∃o,σ=[some (.ref x),some (.ref t),some (.int m)]/\H o=none/\Hx o=some (.dK [])/\Hx x=some (.ins (cFi mg) dx (Zbq (Str.ofString "outsides") (.ref o) fsD))/\ZbU Hx y T'/\Za1 Hx d 13 m c (λp=>p<T'.length)/\Exc x H Hx) (λR hR=>?_) ?_
 ·walk_at "rd"
  intro p zp
  have g1:=(Zf.refl H1).upd (o:=.dK []) zp
  have npx:p≠x:=λz=>by rw[z,f1]at zp;cases zp
  exact⟨dx,fsD,g1 _ _ f1,Yr (Yh l4 (Nat.succ_le_succ (Yh l3 (Nat.succ_le_succ (Yh l2 (Nat.succ_le_succ l1)))))) (by decide),hR _ _ ⟨p,rfl,excF e1 hx zp,by rw[Zh npx,Zb],Zb,(ZcK hY g1).Znl (g1 _ _ f1),(hA'.same g1).Znl (g1 _ _ f1),exU (λb o n z=>g1 _ _ (e1 b o n z))⟩⟩
 clear f1 e1 H1 hY hA'
 rintro σ H1 ⟨o,rfl,zo,ho,f1,hY,hA',e1⟩
 have l5:=ZaY (Str.ofString "outsides") (.ref o) fsD
 generalize hE:Zbq (Str.ofString "outsides") (.ref o) fsD=fsE at f1 l5
 walk_at "rd"
 refine⟨by decide,λb zb=>?_⟩
 have g1:=(Zf.refl H1).upd (o:=.lst []) zb
 have nbx:b≠x:=λz=>by rw[z,f1]at zb;cases zb
 refine⟨dx,fsE,g1 _ _ f1,Yr (Yh l5 (Nat.succ_le_succ (Yh l4 (Nat.succ_le_succ (Yh l3 (Nat.succ_le_succ (Yh l2 (Nat.succ_le_succ l1)))))))) (by decide),?_⟩
 have e2:Exc x H (upd (upd H1 b (.lst [])) x (.ins (cFi mg) dx (Zbq (Str.ofString "row") (.ref b) fsE))):=exU (λb o n z=>g1 _ _ (e1 b o n z))
 have hFS:ZiF mg H1 ⟨x,t,y,d,o,b⟩ T' m c []->True:=λ_=>trivial
 refine k1 ⟨x,t,y,d,o,b⟩ c _ rfl rfl (excF e1 hx zb) zo e2 hW ⟨?_,by rw[Zh nbx,Zb];rfl⟩
 rw[Zic (λz=>nbx z.symm),show strip b (upd H1 b (.lst []))=strip b H1 from ZlG]
 have sS:Zf H1 (strip b H1):=λd' u z=>by rw[ZaK (λy=>by rw[y,zb]at z;cases z)];exact z
 have f2:=sS _ _ f1
 refine⟨dx,_,[],Zb,?_,?_,(ZcK hY sS).Znl f2,(hA'.same sS).Znl f2,?_,Ys _,λp hp v e=>nomatch e⟩
 ·subst hE hD hC hB hA
  refine⟨?_,?_,?_,?_,?_,?_,?_,?_,?_,?_,?_⟩<;>(repeat (first|rw[Zcw,Yb (by decide)]|rw[Zcw,Yc rfl]))<;>rfl
 ·have e3:Exc x H (upd (strip b H1) x (.ins (cFi mg) dx (Zbq (Str.ofString "row") (.ref b) fsE))):=exU (λb o n z=>sS _ _ (e1 b o n z))
  exact htE _ e3
 ·rw[Zh (λz=>by rw[show o=x from z]at ho;rw[f1]at ho;cases ho)]
  exact sS _ _ ho
theorem ZdP {f:Addr}{fd:FuncData} (F:Fun K "how_many_rows" "Filling.how_many_rows" ZH f fd) (T:Txt K mg):FnOk P w K mg base (CXE P w) 1 f fd ["self"] (ZZ K mg):=by
 refine F.okX ZdN (λvs H Q E h=>?_) (λcdv A outer s H vs Q E hr h=>?_)
 ·obtain⟨x,t,T,m,c,rfl,_⟩:=h;rfl
 obtain⟨x,t,T',m,c,rfl,hF,hG,hl,k1⟩:=h
 refine⟨_,(Zg (Zt (Zhe (ZrO (Z5 (K:=K) rfl T.cl_Filling T.n_Filling_tree (pv 0)) (λ_=>rfl)) (Zv Zq (Zhw (Z5 (K:=K) rfl T.cl_Filling T.n_Filling_spans (pv 0)) (ZsK PySem.F.slot_tuple_index PySem.F.type_tuple_index (ZlB (K:=K) rfl) (Z5 (K:=K) rfl T.cl_Filling T.n_Filling_tree (pv 0)) (Za (Ze6 ZcB Ze) Zc)) (λ_ _=>rfl)) Ze (λ_ _=>rfl)) Ze))),?_⟩
 obtain⟨dx,d,fs,f1,f2,f3,f4,ht,hW⟩:=hF
 obtain⟨kvs,w1,w0,w2,w3⟩:=hW
 have eL:(T'.map V.int).length=T'.length:=Yf ..
 walk_at "rd"
 refine⟨dx,fs,f1,_,f2,!T'.isEmpty,?_,ZK (λc1=>?_) λc1=>?_⟩
 ·exact .inr (.inl ⟨_,ht.sq,by cases T'<;>rfl⟩)
 ·have hne:T'≠[]:=λz=>by rw[z]at c1;cases c1
  have hm1:(-1:Int)∈T':=by
   obtain⟨_,ns,hT⟩:=hG
   exact ZjU hT _ 0 (List.length_pos_iff.mpr hne) (Yd _)
  have hix:T'.idxOf (-1)<T'.length:=List.idxOf_lt_length_of_mem hm1
  obtain⟨l,v1,v2⟩:=w3 _ hix
  refine⟨dx,fs,f1,_,f3,dx,fs,f1,_,f2,⟨t,rfl,_,ht⟩,t,rfl,T',ht.sq,hm1,d,rfl,kvs,w1,some ((T'.idxOf (-1):Nat):Int),rfl,_,v1,l,rfl,?_⟩
  exact⟨_,SqL.of v2,_,Zjm (j:=0) (Ys _),by
   have:topC T' c=c (T'.idxOf (-1)) 0:=by unfold topC;rw[Yb hne]
   rw[this]at k1
   exact k1⟩
 ·have hne:T'=[]:=by cases T'<;>simp_all
  have:topC T' c=1:=by unfold topC;rw[Yc hne]
  rw[this]at k1
  exact k1
theorem ZnE {mg:Str->Option Value}{H:Hp}{a:Fa}{T:List Int}{m:Nat}{c:Nat->Nat->Nat}{r:List Nat} (h:Zc4 mg H a T m c r) (ht:ZbR H a.t (T.map V.int)):ZsW H a.x a.t T m c mg:=by
 obtain⟨dx,fs,kvs,h1,⟨f1,f2,f3,f4,f5,f6,f7,_⟩,_,_,h5,_⟩:=ZgQ h.1 Zw
 exact⟨dx,a.d,fs,h1,f1,f4,f7,ht,h5⟩
theorem Zmr {f:Addr}{fd:FuncData} (F:Fun K "many_rows" "many_rows" Zbz f fd) (Zaq:Callee P w K mg base "need_tree" 4 ["tree"] (ZbT K mg)) (Zci:Callee P w K mg base "need_few" 1 ["many","m"] (Zdu K mg)) (GI_Filling:Zjj P w K mg base "Filling" 7 ["self","tree","m"] (Zat K mg)) (GM_Filling_how_many_rows:ZaF P w K mg base "Filling" "how_many_rows" 1 ["self"] (ZZ K mg)) (T:Txt K mg):FnOk P w K mg base (CXE P w) 9 f fd ["tree","m"] (ZeH K mg):=by
 refine F.okX Zmk (λvs H Q E h=>?_) (λcdv A outer s H vs Q E hr h=>?_)
 ·obtain⟨t,T,m,rfl,_⟩:=h;rfl
 obtain⟨t,T',m,rfl,ht,hG,hl,hm,hTb,k1⟩:=h
 refine⟨_,(Zd (Za6 (Zj Zaq (hr.mono (by decide)) rfl Zas (Za (pv 0) Zc)))
   (Zd (Za6 (Zj Zci (hr.mono (by decide)) rfl Zas (Za (Zm (Zo (K:=K) rfl) rfl T.b_len Yw (Za (pv 0) Zc)) (Za (pv 1) Zc))))
   (Zg (Zt (Zh5 (mg:=mg) rfl GM_Filling_how_many_rows (hr.mono (by decide)) ZD (Zm9 (mg:=mg) rfl GI_Filling (hr.mono (by decide)) rfl Zas (Za (pv 0) (Za (pv 1) Zc)))))))),?_⟩
 have eL:(T'.map V.int).length=T'.length:=Yf ..
 walk_at "rd"
 refine⟨t,T',rfl,ht.sq,by omega,λ_ H1 s1=>⟨_,.inr (ht.same s1).sq,?_⟩,λz=>absurd hG z⟩
 rw[eL]
 refine⟨T'.length,m,rfl,hl,hm,λx dx zx zdx ne=>?_⟩
 have g:=((Zf.refl H1).upd (o:=.own x) zdx).ZG (o:=.ins (cFi mg) dx []) (by rw[Zh (Ne.symm ne)];exact zx)
 refine⟨x,dx,t,T',m,rfl,Zb,.inr (ht.same (s1.trans g)),hG,hl,hm,Zcz.same hTb (s1.trans g),λa c H2 ax at' _ _ e2 hW hF=>?_⟩
 subst ax at'
 have sF:Zf H H2:=λb o z=>e2 b o (Zu z (s1.free zx)) ((s1.trans g) b o z)
 have hF2:=ZnE hF (ht.same sF)
 obtain⟨dx2,d,fs,f1,f2,f3,f4,r⟩:=id hF2
 exact⟨rfl,dx2,fs,f1,f4,a.x,a.t,T',m,c,rfl,hF2,hG,hl,k1 c H2 sF hW⟩
theorem Zvh {f:Addr}{fd:FuncData} (F:Fun K "pick" "pick" Zh8 f fd) (T:Txt K mg):FnOk P w K mg base (CXE P w) 1 f fd ["ways","number"] (Zmi K mg):=by
 refine F.okX Zjr (λvs H Q E h=>?_) (λcdv A outer s H vs Q E hr h=>?_)
 ·obtain⟨t,ws,x,rfl,_⟩:=h;rfl
 obtain⟨t,ws,x,rfl,ht,h0,h1,k1⟩:=h
 refine⟨_,(Zd (Zn (i:=2) Zjr.nd rfl (Or.inl rfl) Ze)
   (Zd (Zar (Zjv PassesOwn.never (Zs ZmM (pv 1) (Zv Zq (pv 0) (pv 2) (λ_ _=>rfl)) (Zr _)) (Zd (ZlQ (i:=1) Zjr.nd rfl (Or.inl rfl) (Zv Zq (pv 0) (pv 2) (λ_ _=>rfl)) ZrL)
   (Zg (ZlQ (i:=2) Zjr.nd rfl (Or.inl rfl) Ze ZrK)))))
   (Zg (Zt (Zfi (Za (pv 2) (Za (pv 1) Zc))))))),?_⟩
 walk_at "rd"
 refine Zl3 ws.length (λi σ Hx=>∃y:Int,σ=[some (.ref t),some (.int y),some (.int (i:Int))]/\0<=y/\y<(ws.drop i).sum/\ZaL ws x=(i+(ZaL (ws.drop i) y).1,(ZaL (ws.drop i) y).2)/\Hx=H) ⟨x,rfl,h0,h1,by rw[List.drop_zero,Nat.zero_add],rfl⟩ ?_
 rintro i σ Hx hi ⟨y,rfl,y0,y1,hP,rfl⟩
 have hil:i<ws.length:=by
  rcases Nat.lt_or_ge i ws.length with z|z
  ·exact z
  ·rw[List.drop_of_length_le z]at y1;simp at y1;omega
 have ea:ws[i]?=some (nth ws i):=by simp[nth,Ym,hil]
 rw[Zow ea]at hP
 have es:(ws.drop i).sum=nth ws i+(ws.drop (i+1)).sum:=by
  rw[List.drop_eq_getElem_cons hil,List.sum_cons]
  simp[nth,Ym,hil]
 walk_at "rd"
 refine⟨_,SqL.of ht,_,Z4 hil,_,rfl,ZK (λz=>?_) λz=>?_⟩
 ·rw[Yc z]at hP
  refine⟨_,WI.next,_,SqL.of ht,_,Z4 hil,_,rfl,hil,_,rfl,by omega,by omega,?_,rfl⟩
  rw[hP];congr 1;omega
 ·rw[Yb z]at hP
  refine⟨by decide,λu hu=>k1 u _ ((Zf.refl _).upd hu) ?_⟩
  rw[Zb,hP];rfl
theorem ZqS {f:Addr}{fd:FuncData} (F:Fun K "row_at" "row_at" Zel f fd) (Zaq:Callee P w K mg base "need_tree" 4 ["tree"] (ZbT K mg)) (ZoX:Callee P w K mg base "pick" 1 ["ways","number"] (Zmi K mg)) (Zci:Callee P w K mg base "need_few" 1 ["many","m"] (Zdu K mg)) (GI_Filling:Zjj P w K mg base "Filling" 7 ["self","tree","m"] (Zat K mg)) (GM_Filling_how_many_rows:ZaF P w K mg base "Filling" "how_many_rows" 1 ["self"] (ZZ K mg)) (GM_Filling_next_ways:ZaF P w K mg base "Filling" "next_ways" 43 ["self"] (Za3 K mg)) (T:Txt K mg):FnOk P w K mg base (CXE P w) 44 f fd ["tree","m","number"] (Zid K mg):=by
 refine F.okX Zep (λvs H Q E h=>?_) (λcdv A outer s H vs Q E hr h=>?_)
 ·obtain⟨t,T,m,x,rfl,_⟩:=h;rfl
 obtain⟨t,T',m,x,rfl,ht,hG,hl,hm,hTb,k1,k2⟩:=h
 refine⟨_,(Zd (Za6 (Zj Zaq (hr.mono (by decide)) rfl Zas (Za (pv 0) Zc)))
   (Zd (Za6 (Zj Zci (hr.mono (by decide)) rfl Zas (Za (Zm (Zo (K:=K) rfl) rfl T.b_len Yw (Za (pv 0) Zc)) (Za (pv 1) Zc))))
   (Zd (Zn (i:=3) Zep.nd rfl (Or.inl rfl) (Zm9 (mg:=mg) rfl GI_Filling (hr.mono (by decide)) rfl Zas (Za (pv 0) (Za (pv 1) Zc))))
   (Zd (Z8 (Zfc (ZjA Zgp Zjy Ze (pv 2) (Zh5 (mg:=mg) rfl GM_Filling_how_many_rows (hr.mono (by decide)) ZD (pv 3)))) (Zg (Zhj rfl rfl T.c_NoNumber T.x_NoNumber (Za (Zgc (Zck (by decide) (ZgH (Zm (Zo (K:=K) rfl) rfl T.b_len Yw (Za (pv 0) Zc)) (Zck (by decide) (ZgH (pv 1) (Zck (by decide) ZlZ)))))) Zc) Zjd)) Zz)
   (Zd (Zar (ZaU PassesOwn.never rfl (ZaO rfl T.b_range (Za (Zm (Zo (K:=K) rfl) rfl T.b_len Yw (Za (pv 0) Zc)) Zc)) (Zk (i:=4) Zep.nd rfl (Or.inl rfl)) (Zd (ZdH (Zj ZoX (hr.mono (by decide)) rfl ZD (Za (Zh5 (mg:=mg) rfl GM_Filling_next_ways (hr.mono (by decide)) ZD (pv 3)) (Za (pv 2) Zc))) (ZgE (n:=2) rfl (ZI (Zk (i:=5) Zep.nd rfl (Or.inl rfl)) (ZI (Zk (i:=2) Zep.nd rfl (Or.inl rfl)) ZbL))))
   (Zg (Za6 (ZjG PySem.F.plainAttrs_list PySem.F.slot_list_append PySem.F.type_list_append ZcS (Z5 (K:=K) rfl T.cl_Filling T.n_Filling_row (pv 3)) (Za (pv 5) Zc)))))))
   (Zg (Zt (ZaP (Zea (K:=K) rfl) rfl T.b_tuple Zcx (Za (Z5 (K:=K) rfl T.cl_Filling T.n_Filling_row (pv 3)) Zc))))))))),?_⟩
 have eL:(T'.map V.int).length=T'.length:=Yf ..
 obtain⟨_,ns,hT⟩:=id hG
 have eN:=hT.1
 refine Zag (fun σ Hx=>σ=[some (.ref t),some (.int m),some (.int x),none,none,none]/\Zf H Hx) (λR hR=>?_) ?_
 ·walk_at "rd"
  exact⟨t,T',rfl,ht.sq,by omega,λ_ H1 s1=>hR _ _ ⟨rfl,s1⟩,λz=>absurd hG z⟩
 rintro σ H1 ⟨rfl,s1⟩
 refine Zag (fun σ Hx=>σ=[some (.ref t),some (.int m),some (.int x),none,none,none]/\Zf H Hx) (λR hR=>?_) ?_
 ·walk_at "rd"
  refine⟨_,.inr (ht.same s1).sq,?_⟩
  rw[eL]
  exact⟨T'.length,m,rfl,hl,hm,hR _ _ ⟨rfl,s1⟩⟩
 clear s1 H1
 rintro σ H1 ⟨rfl,s1⟩
 refine Zag (fun σ Hx=>∃(a:Fa) (c:Nat->Nat->Nat),σ=[some (.ref t),some (.int m),some (.int x),some (.ref a.x),none,none]/\a.t=t/\H a.rl=none/\H a.o=none/\H a.x=none/\ZX T' m c/\Zc4 mg Hx a T' m c []/\Zf H Hx) (λR hR=>?_) ?_
 ·walk_at "rd"
  intro x2 dx zx zdx ne
  have g:=((Zf.refl H1).upd (o:=.own x2) zdx).ZG (o:=.ins (cFi mg) dx []) (by rw[Zh (Ne.symm ne)];exact zx)
  refine⟨x2,dx,t,T',m,rfl,Zb,.inr (ht.same (s1.trans g)),hG,hl,hm,Zcz.same hTb (s1.trans g),λa c H2 ax at' zr zo e2 hW hF=>?_⟩
  subst ax at'
  have sF:Zf H H2:=λb o z=>e2 b o (Zu z (s1.free zx)) ((s1.trans g) b o z)
  exact⟨rfl,hR _ _ ⟨a,c,rfl,rfl,(s1.trans g).free zr,(s1.trans g).free zo,s1.free zx,hW,hF,sF⟩⟩
 clear s1 H1
 rintro σ H1 ⟨a,c,rfl,rfl,zr,zo,zx,hW,hF,s1⟩
 refine Zag (fun σ Hx=>σ=[some (.ref a.t),some (.int m),some (.int x),some (.ref a.x),none,none]/\Hx=H1/\0<=x/\x<(ZbX T' m:Nat)) (λR hR=>?_) ?_
 ·have hA:=ZnE hF (ht.same s1)
  obtain⟨dx2,d2,fs2,f1,f2,f3,f4,_⟩:=id hA
  have no:¬ (0<=x/\x<(ZbX T' m:Nat))->∀H',Zf H H'->∃y,(SqL K H' a.t y\/SqT K H' a.t y)/\0<=((y.length:Nat):Int)/\((y.length:Nat):Int)<10 ^ 18/\0<=((m:Nat):Int)/\((m:Nat):Int)<10 ^ 18/\∀(_:Str),0+1<=sizeLine/\E (.ref (clsAt mg (Str.ofString "NoNumber"))) none H':=λz H' s'=>⟨_,.inr (ht.same s').sq,by omega,by rw[eL];omega,by omega,by omega,λ_=>⟨by decide,k2 z H' s'⟩⟩
  walk_at "rd"
  refine ZK (λz=>⟨dx2,fs2,f1,f4,a.x,a.t,T',m,c,rfl,hA,hG,hl,_,rfl,ZK (λz2=>?_) λz2=>?_⟩) λz=>?_
  ·exact no (λy=>z2 (by rw[Zjq hT hW];exact y.2)) H1 s1
  ·exact hR _ _ ⟨rfl,rfl,z,by rw[<-Zjq hT hW];omega⟩
  ·exact no (λy=>z y.1) H1 s1
 rintro σ Hx ⟨rfl,rfl,x0,x1⟩
 walk_at "rd"
 refine⟨_,.inr (ht.same s1).sq,by omega,by rw[eL];omega,?_⟩
 rw[eL,show((T'.length:Nat):Int).toNat=T'.length by omega]
 refine Zb7 (λk σ Hy=>∃(r:List Nat) (rest:Nat) (v4 v5:Option V),σ=[some (.ref a.t),some (.int m),some (.int rest),some (.ref a.x),v4,v5]/\r.length=k/\(∀i∈r,i<m)/\Zc4 mg Hy a T' m c r/\ZaM T' m (fnR r) k/\rest<vW T' m c (fnR r) k/\x=((rkF T' c (fnR r) k+rest:Nat):Int)/\Zf H Hy) ?_ ?_ ?_
 ·refine⟨[],x.toNat,none,none,by rw[show((x.toNat:Nat):Int)=x by omega],rfl,(λi hi=>nomatch hi),hF,(λq hq=>absurd hq (by omega)),?_,?_,s1⟩
  ·rw[Zmf hT hW,Zjq hT hW];omega
  ·show x=((0+x.toNat:Nat):Int)
   omega
 ·clear hF s1
  rintro k σ Hy hk ⟨r,rest,v4,v5,rfl,rfl,hall,hF,hP,hrest,hx,sy⟩
  have hk':r.length<T'.length:=hk
  rw[show vW T' m c (fnR r) r.length=sumTo (nW T' c (fnR r) r.length) (abV T' m (fnR r) r.length) by unfold vW;rw[Yb (by omega)]]at hrest
  have hm0:0<m:=by
   rcases Nat.eq_zero_or_pos (abV T' m (fnR r) r.length)with z|z
   ·rw[z]at hrest;exact absurd hrest (Nat.not_lt_zero _)
   ·unfold abV at z
    cases e:ZbH T' r.length with
    |none=>rw[e]at z;exact z
    |some q =>
     have:=(hP q (Zcf e).1).1
     omega
  have hGF:Znp T' m c r:=⟨hG,hl,hm0,hm,hW,hall,by omega⟩
  obtain⟨dx2,fs2,kv2,g1,⟨_,_,_,_,_,j6,_,_,_,_,j11⟩,_⟩:=id hF.1
  obtain⟨i,rest2,pk,p1,p2,p3⟩:=Znr (g:=nW T' c (fnR r) r.length) (k:=abV T' m (fnR r) r.length) (x:=(rest:Int)) (by omega) (by omega)
  obtain⟨q1,q2,q3,q4⟩:=Znq hT hW hk' hP p1 p2
  walk_at "rd"
  refine⟨dx2,fs2,Zw _ _ g1,j11,a,T',m,c,r,rfl,hF,hGF,hk',λl H2 e2 hF2 hl2=>⟨l,_,_,rfl,by rw[<-ZpI];exact Zw _ _ hl2,by omega,by rw[(Zfv _ _).2];omega,λu H3 s3 hu=>?_⟩⟩
  rw[pk]at hu
  have hF3:=Za2 hF2 s3
  obtain⟨dx3,fs3,kv3,g3,⟨_,_,_,_,_,i6,_⟩,_⟩:=id hF3.1
  have hlr:(ZgP r).length<sizeLine:=Yr (show _<=12 by simp[ZgP];omega) (by decide)
  have eRV:ZgP r++[V.int ((i:Nat):Int)]=ZgP (r++[i]):=by simp[ZgP]
  refine⟨u,rfl,_,SqT.of hu,rfl,_,_,rfl,_,_,rfl,rfl,dx3,fs3,Zw _ _ g3,_,i6,Zc0 hF3.2,_,rfl,_,hF3.2,hlr,r++[i],rest2,rfl,by simp,?_,?_,q1,q2,?_,?_⟩
  ·intro j hj
   rcases YC.mp hj with z|z
   ·exact hall j z
   ·simp at z;omega
  ·refine⟨?_,by rw[Zb,eRV]⟩
   rw[ZlG]
   exact ZoP hT hF3.1 i
  ·rw[q3,hx];omega
  ·have e3:Zf H H3:=λb o z=>s3 _ _ (e2 b o (Zu z zo) (sy _ _ z))
   exact e3.upd zr
 ·rintro σ Hy ⟨r,rest,v4,v5,rfl,hrl,hall,hF,hP,hrest,hx,sy⟩
  obtain⟨dx2,fs2,kv2,g1,⟨_,_,_,_,_,j6,_⟩,_⟩:=id hF.1
  walk_at "rd"
  have hrest0:rest=0:=by
   unfold vW at hrest
   rw[Yc rfl]at hrest;omega
  refine⟨dx2,fs2,Zw _ _ g1,_,j6,_,rfl,_,.inl ⟨SqL.of hF.2,λu hu=>k1 ⟨x0,x1⟩ u r _ (sy.free hu) (sy.ZG hu) ⟨hrl,hP⟩ ?_ Zb⟩⟩
  rw[<-rk_of hT hW hall,hx,hrest0];rfl
theorem Zs8 (m:Nat) (c:Nat->Nat->Nat):(List.replicate ((m:Int)+2).toNat [V.int 1]).flatten=ZaV m (cOf c none)++[V.int 1]:=by
 rw[show((m:Int)+2).toNat=m+2 by omega]
 refine List.ext_getElem (by simp[ZaV]) λj j1 j2=>?_
 have e1:(List.replicate (m+2) [V.int 1]).flatten=List.replicate (m+2) (V.int 1):=by simp
 simp only[e1,List.getElem_replicate]
 by_cases h:j<m+1
 ·rw[Jb (by simp[ZaV];omega)]
  simp[ZaV,cOf]
 ·rw[Jd (by simp[ZaV];omega)]
  simp
noncomputable def ZgU (m:Nat) (f:Nat->Nat) (k:Nat):List V:=(List.range (m+2)).map λj=>V.int (((if m<=j+k/\j<=m then f j else 0:Nat)):Int)
theorem ZqT {m:Nat}{f:Nat->Nat} (h:f m=0):(List.replicate ((m:Int)+2).toNat [V.int 0]).flatten=ZgU m f 0:=by
 rw[show((m:Int)+2).toNat=m+2 by omega]
 refine List.ext_getElem (by simp[ZgU]) λj j1 j2=>?_
 have e1:(List.replicate (m+2) [V.int 0]).flatten=List.replicate (m+2) (V.int 0):=by simp
 simp only[e1,List.getElem_replicate]
 simp only[ZgU,List.getElem_map,List.getElem_range]
 by_cases z:m<=j+0/\j<=m
 ·rw[Yc z,show j=m by omega,h];rfl
 ·rw[Yb z];rfl
theorem ZqU {m k:Nat}{f:Nat->Nat}{x:V} (hk:k<m):((ZgU m f k).set (m-1-k) x).set (m-1-k) (V.int ((f (m-1-k):Nat):Int))=ZgU m f (k+1):=by
 rw[List.set_set]
 refine List.ext_getElem (by simp[ZgU]) λj j1 j2=>?_
 rw[List.getElem_set]
 simp only[ZgU,List.getElem_map,List.getElem_range]
 by_cases e:m-1-k=j
 ·rw[Yc e,<-e,Yc (by omega)]
 ·rw[Yb e]
  congr 3
  by_cases z:m<=j+k/\j<=m
  ·simp[z];omega
  ·have:¬ (m<=j+(k+1)/\j<=m):=λy=>z ⟨by omega,y.2⟩
   simp only[eq_iff_iff]
   exact⟨λy=>absurd y z,λy=>absurd y this⟩
theorem Zs9 {m:Nat}{f:Nat->Nat}:ZgU m f m=ZaV m f++[V.int 0]:=by
 refine List.ext_getElem (by simp[ZgU,ZaV]) λj j1 j2=>?_
 simp only[ZgU,List.getElem_map,List.getElem_range]
 by_cases h:j<m+1
 ·rw[Jb (by simp[ZaV];omega),Yc (by omega)]
  simp[ZaV]
 ·rw[Jd (by simp[ZaV];omega),Yb (by omega)]
  simp
theorem Zi3 {f:Addr}{fd:FuncData}{n:Nat} (F:Fun K "_law_counted" "_law_counted" Zay f fd) (ZaC:Callee P w K mg base "_law_counted" (1+n) ["tree","place","least","m"] (ZaX n K mg)) (T:Txt K mg):FnOk P w K mg base (CXE P w) (1+n+1) f fd ["tree","place","least","m"] (ZaX (n+1) K mg):=by
 refine F.okX ZJ (λvs H Q E h=>?_) (λcdv A outer s H vs Q E hr h=>?_)
 ·obtain⟨t,T,o,m,c,rfl,_⟩:=h;rfl
 obtain⟨t,T',o,m,c,rfl,ht,hG,hl,hm,hW,hP,k1⟩:=h
 refine⟨_,(Zd (Z8 (Zs ZrN (pv 1) ZgA (Zr _)) (Zg (Zt (Zp ZgG (Z1 (Za Ze Zc)) (Zp ZaD (pv 3) Ze)))) Zz)
   (Zd (Zn (i:=4) ZJ.nd rfl (Or.inl rfl) (Z1 (Za ZgA (Za ZgA Zc))))
   (Zd (Zar (ZaU PassesOwn.never rfl (Zm3 (K:=K) rfl rfl T.b_enumerate (Za (pv 0) Zc)) (ZgE (n:=2) rfl (ZI (Zk (i:=5) ZJ.nd rfl (Or.inl rfl)) (ZI (Zk (i:=6) ZJ.nd rfl (Or.inl rfl)) ZbL))) (Zg (Z8 (Zs Zdr (pv 6) (pv 1) (Zr _)) (Zg (ZdH (pv 5) (Zfe (pv 4) (ZaP Zlk rfl T.b_int Zr5 (Za (Zbk ZcH (pv 5) (pv 1) (Zr _)) Zc)) set_list (λ_=>rfl)))) Zz))))
   (Zd (Zn (i:=7) ZJ.nd rfl (Or.inl rfl) (Zj ZaC (hr.mono (by omega)) rfl ZD (Za (pv 0) (Za (Zv Zq (pv 4) Ze (λ_ _=>rfl)) (Za (pv 2) (Za (pv 3) Zc))))))
   (Zd (Zn (i:=8) ZJ.nd rfl (Or.inl rfl) (Zj ZaC (hr.mono (by omega)) rfl ZD (Za (pv 0) (Za (Zv Zq (pv 4) Ze (λ_ _=>rfl)) (Za (pv 2) (Za (pv 3) Zc))))))
   (Zd (Zn (i:=9) ZJ.nd rfl (Or.inl rfl) (Zp ZgG (Z1 (Za Ze Zc)) (Zp ZaD (pv 3) Ze)))
   (Zd (Zar (ZaU PassesOwn.never rfl (ZqA rfl T.b_range (Za (Zp ZcY (pv 3) Ze) (Za (Zp ZcY (pv 2) Ze) (Za (Ze6 ZcB Ze) Zc)))) (Zk (i:=10) ZJ.nd rfl (Or.inl rfl)) (Zd (Zn (i:=11) ZJ.nd rfl (Or.inl rfl) (Zv Zq (pv 7) (Zp ZaD (pv 10) Ze) (λ_ _=>rfl)))
   (Zd (ZdH (Zp Zbl (pv 11) (Zv Zq (pv 8) (pv 10) (λ_ _=>rfl))) (Zfe (pv 9) (pv 10) set_list (λ_=>rfl)))
   (Zg (ZdH (Zp ZaD (Zv Zq (pv 9) (pv 10) (λ_ _=>rfl)) (Zv Zq (pv 9) (Zp ZaD (pv 10) Ze) (λ_ _=>rfl))) (Zfe (pv 9) (pv 10) set_list (λ_=>rfl))))))))
   (Zg (Zt (pv 9)))))))))),?_⟩
 cases o with
 |none =>
  walk_at "rd"
  refine ZK (λ_=>⟨by decide,λp hp=>⟨_,Zb,by omega,by omega,?_,λp1 hp1=>?_⟩⟩) λz=>absurd rfl z
  ·exact Yh (show _<=1000 by simp;omega) (by decide)
  ·have g:=(Zf.refl H).upd (o:=.lst [V.int 1]) hp
   exact k1 p1 1 _ (g.free hp1) (g.ZG hp1) (by rw[Zb,Zs8 m c])
 |some v =>
  obtain⟨hv,hvn⟩:=hP
  obtain⟨_,ns,hT⟩:=id hG
  have eN:=hT.1
  obtain⟨ah,bh,hA,hB,heq⟩:=hW v hv
  have hvn':0<n:=by
   have h3:=ZeI hT _ v hv (Yd _)
   have nd:(v::way T' v).Nodup:=List.nodup_cons.mpr ⟨h3.2,h3.1⟩
   have:=ZjS (n:=T'.length) nd (λq hq=>by
    rcases Yl.mp hq with z|z
    ·rw[z];exact hv
    ·have:=((Zam hT (by omega)).mp z).1;omega)
   rw[Yo]at this
   omega
  obtain⟨n',rfl⟩:∃n',n=n'+1:=⟨n-1,by omega⟩
  have kidOk:∀o:Option Nat,(∀q,o=some q->nth T' q=v/\q<T'.length)->ZpK T' (n'+1) o:=λo ho=>by
   cases o with
   |none=>exact hvn'
   |some q =>
    obtain⟨x1,x2⟩:=ho q rfl
    refine⟨x2,?_⟩
    rw[Zal hT (by omega) x1,Yo];omega
  have okA:=kidOk ah (λq e=>by subst e;exact⟨hA.2.2,hA.2.1⟩)
  have okB:=kidOk bh (λq e=>by subst e;exact⟨hB.2.2,hB.2.1⟩)
  have hbits:∀o:Option Nat,(∀q,o=some q->q<T'.length)->∀j,j<=m->cOf c o j<2 ^ 100000:=λo ho j hj=>by
   cases o with
   |none=>exact Nat.one_lt_two_pow (n:=100000) (by decide)
   |some q =>
    have:=ZjT hT hm (P:=λp=>p<T'.length) (λp hp=>⟨hp,by
     obtain⟨a,b,x1,x2,x3⟩:=hW p hp
     exact⟨a,b,x1,x2,(λq e=>by subst e;exact x1.2.1),(λq e=>by subst e;exact x2.2.1),x3⟩⟩) 12 q (ho q rfl) (by omega) j hj
    exact Yt this (Nat.pow_le_pow_right (by decide) (ZpG 12 (by decide)))
  have bitA:=hbits ah (λq e=>by subst e;exact hA.2.1)
  have bitB:=hbits bh (λq e=>by subst e;exact hB.2.1)
  refine Zag (fun σ Hx=>σ=[some (.ref t),some (.int v),some (.int 0),some (.int m),none,none,none,none,none,none,none,none]/\Hx=H) (λR hR=>?_) ?_
  ·walk_at "rd"
   exact ZK (λz=>nomatch z) λ_=>hR _ _ ⟨rfl,rfl⟩
  rintro σ H ⟨rfl,rfl⟩
  refine Zag (fun σ Hx=>∃h:Addr,σ=[some (.ref t),some (.int v),some (.int 0),some (.int m),some (.ref h),none,none,none,none,none,none,none]/\H h=none/\Hx h=some (.lst [.non,.non])/\Zf H Hx) (λR hR=>?_) ?_
  ·walk_at "rd"
   exact⟨by decide,λh hh=>hR _ _ ⟨h,rfl,hh,Zb,(Zf.refl _).upd hh⟩⟩
  rintro σ H1 ⟨h,rfl,zh,hh,s1⟩
  have eL:(T'.map V.int).length=T'.length:=Yf ..
  have toA:∀{o:Option Nat},ZeN T' T'.length v o->Zcm T' v o:=λ{o} x=>by
   cases o with
   |none=>exact λc c1 c2=>x c c1 c2
   |some c=>exact x
  have toB:∀{o:Option Nat},Zdb T' T'.length v o->ZcA T' v o:=λ{o} x=>by
   cases o with
   |none=>exact λc c1 c2=>x c c1 c2
   |some c=>exact x
  refine Zag (fun σ Hx=>∃v5 v6,σ=[some (.ref t),some (.int v),some (.int 0),some (.int m),some (.ref h),v5,v6,none,none,none,none,none]/\Hx h=some (.lst [optN ah,optN bh])/\Zf H Hx) (λR hR=>?_) ?_
  ·walk_at "rd"
   refine⟨_,s1.Zaj ht,?_⟩
   refine Zfp (n:=T'.length) (λj σ Hx=>∃(v5 v6:Option V) (a b:Option Nat),σ=[some (.ref t),some (.int v),some (.int 0),some (.int m),some (.ref h),v5,v6,none,none,none,none,none]/\ZeN T' j v a/\Zdb T' j v b/\Hx h=some (.lst [optN a,optN b])/\Zf H Hx) ⟨none,none,none,none,rfl,(λc _ hc=>absurd hc (by omega)),(λc _ hc=>absurd hc (by omega)),hh,s1⟩ (λj σ Hx hj ⟨_,_,_,_,_,_,_,_,sx⟩=>⟨_,_,sx.Zaj ht,Yi (by rw[eL];exact hj)⟩) (fun σ Hx ⟨_,_,_,_,_,_,_,_,sx⟩=>⟨_,sx.Zaj ht,eL⟩) ?_ ?_
   ·rintro j x σ Hx Hx' hj ⟨v5,v6,a,b,rfl,hAj,hBj,hhx,sx⟩ ⟨q,x,hq,rfl,rfl,hx⟩
    have ex:=hx _ (sx.Zaj ht)
    rw[ZdK hj]at ex
    cases ex
    have g:=(Zf.refl Hx).upd (o:=.tup [.int (j:Int),.int (nth T' j)]) hq
    have tq:=Zb (H:=Hx) (a:=q) (o:=.tup [.int (j:Int),.int (nth T' j)])
    generalize upd Hx q (.tup [.int (j:Int),.int (nth T' j)])=Hy at g tq⊢
    have hhy:=g _ _ hhx
    have sy:=sx.trans g
    walk_at "rd"
    refine⟨_,SqT.of tq,rfl,_,_,rfl,_,_,rfl,rfl,rfl,ZK (λe=>?_) λe=>⟨a,hAj.skip (λz=>e (by rw[z.2])),b,hBj.skip (λz=>e (by rw[z.2])),hhy,sy⟩⟩
    have e':nth T' j=v:=by simpa using e
    have njv:j≠v:=λz=>by
     subst z
     have h3:=ZeI hT _ j hj (Yd _)
     rw[Zal hT (by omega) e']at h3
     exact h3.2 (by simp)
    by_cases hjv:v<j
    ·exact⟨_,rfl,_,hhy,1,by rw[Yc (by omega)];rfl,a,hAj.skip (λz=>by omega),some j,⟨hjv,by omega,e'⟩,by rw[Zb];rfl,sy.upd zh⟩
    ·exact⟨_,rfl,_,hhy,0,by rw[Yb (by omega)];rfl,some j,⟨by omega,by omega,e'⟩,b,hBj.skip (λz=>by omega),by rw[Zb];rfl,sy.upd zh⟩
   ·rintro σ Hx ⟨v5,v6,a,b,rfl,hAj,hBj,hhx,sx⟩
    obtain rfl:=ZcX hT hA (toA hAj)
    obtain rfl:=ZeJ hT hB (toB hBj)
    exact hR _ _ ⟨v5,v6,rfl,hhx,sx⟩
  clear hh s1 H1
  rintro σ H1 ⟨v5,v6,rfl,hh,s1⟩
  refine Zag (fun σ Hx=>∃(la:Addr) (z:Int),σ=[some (.ref t),some (.int v),some (.int 0),some (.int m),some (.ref h),v5,v6,some (.ref la),none,none,none,none]/\Hx la=some (.lst (ZaV m (cOf c ah)++[.int z]))/\Hx h=some (.lst [optN ah,optN bh])/\Zf H Hx) (λR hR=>?_) ?_
  ·walk_at "rd"
   exact⟨_,SqL.of hh,_,rfl,t,T',ah,m,c,rfl,s1.Zaj ht,hG,hl,hm,hW,okA,λl z H2 zl s2 hl2=>hR _ _ ⟨l,z,rfl,hl2,s2 _ _ hh,s1.trans s2⟩⟩
  clear hh s1 H1
  rintro σ H1 ⟨la,za,rfl,hla,hh,s1⟩
  refine Zag (fun σ Hx=>∃(lb:Addr) (z:Int),σ=[some (.ref t),some (.int v),some (.int 0),some (.int m),some (.ref h),v5,v6,some (.ref la),some (.ref lb),none,none,none]/\Hx lb=some (.lst (ZaV m (cOf c bh)++[.int z]))/\Hx la=some (.lst (ZaV m (cOf c ah)++[.int za]))/\Zf H Hx) (λR hR=>?_) ?_
  ·walk_at "rd"
   exact⟨_,SqL.of hh,_,rfl,t,T',bh,m,c,rfl,s1.Zaj ht,hG,hl,hm,hW,okB,λl z H2 zl s2 hl2=>hR _ _ ⟨l,z,rfl,hl2,s2 _ _ hla,s1.trans s2⟩⟩
  clear hh hla s1 H1
  rintro σ H1 ⟨lb,zb,rfl,hlb,hla,s1⟩
  refine Zag (fun σ Hx=>∃(lm:Addr),σ=[some (.ref t),some (.int v),some (.int 0),some (.int m),some (.ref h),v5,v6,some (.ref la),some (.ref lb),some (.ref lm),none,none]/\H lm=none/\lm≠la/\lm≠lb/\Hx lm=some (.lst (ZgU m (c v) 0))/\Hx lb=some (.lst (ZaV m (cOf c bh)++[.int zb]))/\Hx la=some (.lst (ZaV m (cOf c ah)++[.int za]))/\Zf H Hx) (λR hR=>?_) ?_
  ·walk_at "rd"
   refine⟨by decide,λp hp=>⟨_,Zb,by omega,by omega,?_,λp1 hp1=>?_⟩⟩
   ·exact Yh (show _<=1000 by simp;omega) (by decide)
   ·have g:=(Zf.refl H1).upd (o:=.lst [V.int 0]) hp
    have g2:=g.ZG (o:=.lst (List.replicate ((m:Int)+2).toNat [V.int 0]).flatten) hp1
    refine hR _ _ ⟨p1,rfl,s1.free (g.free hp1),(Zu hla (g.free hp1)).symm,(Zu hlb (g.free hp1)).symm,?_,g2 _ _ hlb,g2 _ _ hla,s1.trans g2⟩
    rw[Zb,ZqT (f:=c v) (by rw[heq m (Yd _),Yc rfl])]
  clear hlb hla s1 H1
  rintro σ H1 ⟨lm,rfl,zm,nma,nmb,hlm,hlb,hla,s1⟩
  walk_at "rd"
  refine⟨by omega,by omega,by decide,by decide,?_⟩
  rw[show((m:Int)-1-(0-1)).toNat=m by omega,show((m:Int)-1+1-((m:Nat):Int))=0 by omega]
  refine Zfp (n:=m) (λk σ Hx=>∃v10 v11,σ=[some (.ref t),some (.int v),some (.int 0),some (.int m),some (.ref h),v5,v6,some (.ref la),some (.ref lb),some (.ref lm),v10,v11]/\Hx lm=some (.lst (ZgU m (c v) k))/\Hx lb=some (.lst (ZaV m (cOf c bh)++[.int zb]))/\Hx la=some (.lst (ZaV m (cOf c ah)++[.int za]))/\Zf H Hx) ⟨none,none,rfl,hlm,hlb,hla,s1⟩ (λk σ Hx hk _=>hk) (fun σ Hx _=>Yd _) ?_ ?_
  ·rintro k x σ Hx Hx' hk ⟨v10,v11,rfl,h1,h2,h3,sx⟩ ⟨rfl,rfl⟩
   rw[show((0:Int)+(m:Int)-1-(k:Int))=((m-1-k:Nat):Int) by omega]
   walk_at "rd"
   have e1:(((m-1-k:Nat):Int)+1)=((m-k:Nat):Int):=by omega
   have lc:(ZgU m (c v) k).length=m+2:=by simp[ZgU]
   have hc:=heq (m-1-k) (by omega)
   rw[Yb (by omega),show m-1-k+1=m-k by omega]at hc
   refine⟨_,SqL.of h3,_,by rw[e1];exact ZjV (by omega),_,SqL.of h2,_,ZjV (by omega),_,rfl,_,rfl,ZsY (bitA _ (by omega)) (bitB _ (by omega)),_,h1,m-1-k,by rw[lc];exact Zho (by omega),_,SqL.of Zb,_,ZaE (List.getElem?_set_self (by omega)),_,SqL.of Zb,V.int ((c v (m-k):Nat):Int),?_,_,rfl,_,rfl,_,Zb,m-1-k,by rw[List.length_set,lc];exact Zho (by omega),?_,?_,?_,(sx.upd zm).upd zm⟩
   ·rw[e1]
    exact ZaE (by rw[List.getElem?_set_ne (by omega)];simp[ZgU,show m-k<m+2 by omega,show m<=m-k+k by omega])
   ·rw[Zb,<-Int.natCast_mul,<-Int.natCast_add,<-hc,ZqU hk]
   ·rw[Zh nmb.symm,Zh nmb.symm];exact h2
   ·rw[Zh nma.symm,Zh nma.symm];exact h3
  ·rintro σ Hx ⟨v10,v11,rfl,h1,h2,h3,sx⟩
   walk_at "rd"
   exact k1 lm 0 Hx zm sx (by rw[h1,Zs9];rfl)
theorem Zms {f:Addr}{fd:FuncData} (F:Fun K "_law_many" "_law_many" ZbD f fd) (ZaC:Callee P w K mg base "_law_counted" 14 ["tree","place","least","m"] (Ze7 K mg)) (T:Txt K mg):FnOk P w K mg base (CXE P w) 15 f fd ["tree","m"] (ZeL K mg):=by
 refine F.okX Zml (λvs H Q E h=>?_) (λcdv A outer s H vs Q E hr h=>?_)
 ·obtain⟨t,T,m,c,rfl,_⟩:=h;rfl
 obtain⟨t,T',m,c,rfl,ht,hG,hl,hm,hW,k1⟩:=h
 refine⟨_,(Zd (Z8 (Zs (ZgI (K:=K) rfl hr) (pv 0) (Zfi Zc) (Zr _)) (Zg (Zt Ze)) Zz)
   (Zg (Zt (Zv Zq (Zj ZaC (hr.mono (by decide)) rfl ZD (Za (pv 0) (Za (ZsK PySem.F.slot_tuple_index PySem.F.type_tuple_index (ZlB (K:=K) rfl) (pv 0) (Za (Ze6 ZcB Ze) Zc)) (Za Ze (Za (pv 1) Zc))))) Ze (λ_ _=>rfl))))),?_⟩
 walk_at "rd"
 refine⟨Ys _,λp hp=>?_⟩
 have g:=(Zf.refl H).upd (o:=.tup []) hp
 have htg:=ht.same g
 have e:=Zl2 (n:=2) (K:=K) (H:=upd H p (.tup [])) Zjg (V.ref t) (V.ref p) T' [] (Zeb htg.sq) (Zeb (ns:=[]) (SqT.of Zb))
 refine⟨_,e,ZK (λz=>?_) λz=>?_⟩
 ·have hne:T'=[]:=Y3 z
  have:topC T' c=1:=by unfold topC;rw[Yc hne]
  have:=k1 _ g
  rw[‹topC T' c=1›]at this
  exact this
 ·have hne:T'≠[]:=λy=>z (YG y)
  obtain⟨_,ns,hT⟩:=id hG
  have hm1:=ZjU hT _ 0 (List.length_pos_iff.mpr hne) (Yd _)
  have hix:T'.idxOf (-1)<T'.length:=List.idxOf_lt_length_of_mem hm1
  refine⟨⟨_,htg⟩,T',htg.sq,hm1,t,T',some (T'.idxOf (-1)),m,c,rfl,htg.sq,hG,hl,hm,hW,⟨hix,by show T'.length+1<=13+_;omega⟩,λl z H2 zl s2 hl2=>⟨l,rfl,_,SqL.of hl2,_,ZjV (j:=0) (Ys _),?_⟩⟩
  have:topC T' c=c (T'.idxOf (-1)) 0:=by unfold topC;rw[Yb hne]
  have:=k1 _ (g.trans s2)
  rw[‹topC T' c=_›]at this
  exact this
theorem ZqV {ns T:List Int} (hT:Zi ns T):ZbX T 0<=1:=by
 unfold ZbX topC
 by_cases z:T=[]
 ·rw[Yc z];exact Yd _
 ·rw[Yb z]
  have hm1:=ZjU hT _ 0 (List.length_pos_iff.mpr z) (Yd _)
  rw[show cT T 0 (T.idxOf (-1)) 0=0 from(Zjo hT (ZcJ hT 0) (List.idxOf_lt_length_of_mem hm1)).2]
  exact Ys _
theorem Zi4 {f:Addr}{fd:FuncData} (F:Fun K "_law_least_m" "_law_least_m" Zaz f fd) (ZfB:Callee P w K mg base "_law_many" 15 ["tree","m"] (ZeL K mg)) (T:Txt K mg):FnOk P w K mg base (CXE P w) 16 f fd ["tree"] (ZcF K mg):=by
 refine F.okX Zbo (λvs H Q E h=>?_) (λcdv A outer s H vs Q E hr h=>?_)
 ·obtain⟨t,T,rfl,_⟩:=h;rfl
 obtain⟨t,T',rfl,ht,hG,hl,k1⟩:=h
 refine⟨_,(Zd (Zn (i:=1) Zbo.nd rfl (Or.inl rfl) Ze)
   (Zd (Zar (ZaU PassesOwn.never rfl (Zk8 rfl T.b_range (Za Ze (Za Ze Zc))) (Zk (i:=2) Zbo.nd rfl (Or.inl rfl)) (Zg (Z8 (Zs Zgp (Zj ZfB (hr.mono (by decide)) rfl ZD (Za (pv 0) (Za (pv 2) Zc))) Ze (Zr _)) (Zg (Zn (i:=1) Zbo.nd rfl (Or.inl rfl) (pv 2))) Zz))))
   (Zg (Zt (pv 1))))),?_⟩
 obtain⟨_,ns,hT⟩:=id hG
 walk_at "rd"
 refine⟨by decide,by decide,by decide,by decide,?_⟩
 refine Zb7 (λi σ Hx=>∃(m:Nat) (v2:Option V),σ=[some (.ref t),some (.int m),v2]/\m<=12/\ZbX T' m<=30/\Zf H Hx) ⟨0,none,rfl,by omega,Yh (ZqV hT) (by decide),Zf.refl H⟩ ?_ ?_
 ·rintro i σ Hx hi ⟨m,v2,rfl,hm,h30,sx⟩
  have hi':i<12:=hi
  walk_at "rd"
  refine⟨t,T',i+1,cF T' (i+1) T'.length,by rw[show(1:Int)+(i:Int)=((i+1:Nat):Int) by omega],ht.same sx,hG,hl,by omega,ZcJ hT _,λH2 s2=>⟨_,rfl,ZK (λz=>⟨i+1,by omega,by omega,?_,sx.trans s2⟩) λ_=>⟨m,rfl,hm,h30,sx.trans s2⟩⟩⟩
  show topC T' (cF T' (i+1) T'.length)<=30
  omega
 ·rintro σ Hx ⟨m,v2,rfl,hm,h30,sx⟩
  walk_at "rd"
  exact k1 m Hx hm h30 sx
theorem ZqW {ns T:List Int} (hT:Zi ns T) (h:ns.length<=40):Zae T:=⟨by rw[hT.1];exact h,ns,hT⟩
theorem Zgj (F ns:List Int):(hgt F ns).length=F.length:=by unfold hgt;simp
theorem ZP {F ns:List Int}{i:Nat} (h:i<F.length):nth (hgt F ns) i=nth ns i-nth F i:=by
 show List.getD ((List.range F.length).map λi=>nth ns i-nth F i) i 0=_
 rw[Ym,YF,List.getElem?_range h];rfl
theorem Zj6 {K:PySem.W.Frag}{H:Hp}{p q:Addr}{a b:Str} (hp:H p=some (.tup [.str a])) (hq:H q=some (.tup [.str b])):EqD K H 3 (.ref p) (.ref q) (a==b):=by
 have:=EqD.tup (K:=K) (H:=H) (n:=2) (λj=>a==b) (SqT.of hp) (SqT.of hq) λj x y z1 z2=>by
  match j,z1,z2 with
  |0,z1,z2=>cases z1;cases z2;exact EqD.flat rfl rfl
 simpa[YQ]using this
theorem ZhE {T ls ds:List Int} (hG:Zae T) (hl:ds.length=T.length):ZiI T ls ds↔∀p,p<T.length->nth (hgt (Zl T) ds) p=(if nth T p=-1 then nth (hgt (Zl T) ls) p else max (nth (hgt (Zl T) ls) p) (nth (hgt (Zl T) ds) (nth T p).toNat)):=by
 obtain⟨h40,nsT,hT⟩:=hG
 have eT:=hT.1
 have eF:(Zl T).length=T.length:=ZcT T
 constructor
 ·intro h p hp
  obtain⟨⟨o,ho,e1⟩,b1⟩:=h.2 p hp
  have bp:=b1 p YI
  rw[ZP (by omega),ZP (by omega)]
  rcases ZU hT (p:=p) (by omega)with e|⟨q,e,hq,_,_⟩
  ·rw[Yc e]
   rw[Zjh e]at ho
   have:o=p:=by simpa using ho
   subst this
   omega
  ·rw[Yb (by omega),e,show((q:Nat):Int).toNat=q by omega,ZP (by omega)]
   have hw:=Zal hT (p:=p) (by omega) e
   obtain⟨⟨o',ho',e2⟩,b2⟩:=h.2 q (by omega)
   have c1:=b1 o' (by rw[hw];exact YJ _ ho')
   rcases Yl.mp ho with rfl|ho
   ·omega
   ·rw[hw]at ho
    have c2:=b2 o ho
    omega
 ·intro h
  refine⟨hl,?_⟩
  have key:∀d p,p<T.length->dep (nth nsT) nsT.length p=d->(∃o∈p::way T p,nth ds p=nth ls o+nth (Zl T) p-nth (Zl T) o)/\∀o∈p::way T p,nth ls o+nth (Zl T) p-nth (Zl T) o<=nth ds p:=by
   intro d
   induction d with
   |zero =>
    intro p hp hd
    have h1:=h p hp
    rw[ZP (by omega),ZP (by omega)]at h1
    rcases ZU hT (p:=p) (by omega)with e|⟨q,e,hq,_,e5⟩
    ·rw[Yc e]at h1
     rw[Zjh e]
     refine⟨⟨p,YI,by omega⟩,λo ho=>?_⟩
     have:o=p:=by simpa using ho
     subst this;omega
    ·omega
   |succ d ih =>
    intro p hp hd
    have h1:=h p hp
    rw[ZP (by omega),ZP (by omega)]at h1
    rcases ZU hT (p:=p) (by omega)with e|⟨q,e,hq,_,e5⟩
    ·rw[Yc e]at h1
     rw[Zjh e]
     refine⟨⟨p,YI,by omega⟩,λo ho=>?_⟩
     have:o=p:=by simpa using ho
     subst this;omega
    ·rw[Yb (by omega),e,show((q:Nat):Int).toNat=q by omega,ZP (by omega)]at h1
     obtain⟨⟨o,ho,e2⟩,b2⟩:=ih q (by omega) (by omega)
     rw[Zal hT (p:=p) (by omega) e]
     constructor
     ·by_cases c:nth ls p-nth (Zl T) p<nth ds q-nth (Zl T) q
      ·exact⟨o,YJ _ ho,by omega⟩
      ·exact⟨p,YI,by omega⟩
     ·intro o' ho'
      rcases Yl.mp ho' with rfl|ho'
      ·omega
      ·have:=b2 o' ho'
       omega
  exact λp hp=>key _ p hp rfl
theorem Zta {T ls gs:List Int} (hG:Zae T) (hl:ls.length=T.length) (hg:gs.length=T.length) (d:Td):ZgT T ls gs d↔soT T ls gs d:=by
 have eF:(Zl T).length=T.length:=ZcT T
 cases d with
 |row ns =>
  show(ns.length=T.length/\_)↔∃ds,ZiI T ls ds/\ns=ds/\_
  constructor
  ·rintro⟨h1,h2⟩
   refine⟨ns,(ZhE hG h1).mpr λp hp=>(h2 p hp).1,rfl,λp hp=>?_⟩
   have:=(h2 p hp).2
   rw[ZP (by omega),ZP (by omega)]at this
   omega
  ·rintro⟨ds,h1,rfl,h2⟩
   refine⟨h1.1,λp hp=>⟨(ZhE hG h1.1).mp h1 p hp,?_⟩⟩
   have:=h2 p hp
   rw[ZP (by omega),ZP (by omega)]
   omega
 |clash a b =>
  show Zfx _ _ _ a b↔Zie _ _ _ a b
  unfold Zfx Zie
  have hin:0<=b->b<(T.length:Int)->a∈Ze8 T b.toNat->0<=a/\a<(T.length:Int):=λb0 b1 z=>by
   obtain⟨h40,nsT,hT⟩:=hG
   have eT:=hT.1
   rw[Zee]at z
   obtain⟨o,ho,e⟩:=YB.mp z
   have:=((Zam hT (p:=b.toNat) (by omega)).mp ho).1
   omega
  constructor
  ·rintro⟨h1,h2⟩
   have h3:0<=a/\a<(T.length:Int)/\0<=b/\b<(T.length:Int)/\(a=b\/a∈Ze8 T b.toNat):=by
    rcases h1 with⟨b0,b1,z⟩|⟨e,a0,a1⟩
    ·have:=hin b0 b1 z
     exact⟨this.1,this.2,b0,b1,.inr z⟩
    ·exact⟨a0,a1,by omega,by omega,.inl e⟩
   obtain⟨a0,a1,b0,b1,z⟩:=h3
   rw[ZP (by omega),ZP (by omega)]at h2
   exact⟨a0,b0,a1,b1,z,by omega⟩
  ·rintro⟨a0,b0,a1,b1,z,h⟩
   rw[ZP (by omega),ZP (by omega)]
   refine⟨?_,by omega⟩
   rcases z with z|z
   ·exact .inr ⟨z,a0,a1⟩
   ·exact .inl ⟨b0,b1,z⟩
theorem atI_hd {x:V}{os:List V}:atI (x::os) 0=some x:=by
 have:=Zl0 (xs:=x::os) (j:=0) (show(0:Int)=((0:Nat):Int)from rfl) (by simp)
 simpa using this
theorem ZnF (F us:List Int):(Zif F us).length=F.length:=by unfold Zif;simp
theorem Ztb {F us:List Int}{i:Nat} (h:i<F.length):nth (Zif F us) i=nth F i+nth us i:=by
 show List.getD ((List.range F.length).map λi=>nth F i+nth us i) i 0=_
 rw[Ym,YF,List.getElem?_range h];rfl
noncomputable def Zik (T hs qs us:List Int) (i:Nat):Prop:=us.length=T.length/\∀p:Nat,p<T.length->nth us p=if (p:Int)∈qs.take i/\nth T p≠-1 then max (nth hs p) (nth us (nth T p).toNat)else nth hs p
theorem Zil {qs:List Int}{i:Nat}{x y:Int} (h:qs[i]?=some y):x∈qs.take (i+1)↔x∈qs.take i\/x=y:=by
 rw[Y6,h];simp
theorem Ztc {us:List Int}{j:Nat}{z:Int} (h:j<us.length):nth (us.set j z) j=z:=by
 unfold nth
 rw[Ym,List.getElem?_set_self h];rfl
theorem Zj7 {us:List Int}{j p:Nat}{z:Int} (h:p≠j):nth (us.set j z) p=nth us p:=by
 unfold nth
 rw[Ym,Ym,List.getElem?_set_ne (Ne.symm h)]
theorem ZnG {ns T qs:List Int} (hT:Zi ns T) (hpm:qs.Perm (nats (T.length:Int))) (hpw:qs.Pairwise λx y=>dpI T x<=dpI T y) {p q i:Nat} (hp:p<T.length) (hq:q<T.length) (h:nth T p=q):(qs[i]?=some (p:Int)->(q:Int)∈qs.take i)/\((p:Int)∈qs.take i->(q:Int)∈qs.take i):=by
 have eT:=hT.1
 have dp:=Zia hT (p:=p) (by omega) h
 have mq:(q:Int)∈qs:=hpm.mem_iff.mpr (YB.mpr ⟨q,Yu.mpr (by omega),rfl⟩)
 obtain⟨m,hm,em⟩:=YR mq
 have key:∀k,qs[k]?=some (p:Int)->m<k:=λk e=>by
  obtain⟨hk,ek⟩:=Yq.mp e
  refine Nat.lt_of_not_le λz=>?_
  rcases Nat.lt_or_eq_of_le z with z|z
  ·have:=List.pairwise_iff_getElem.mp hpw k m hk hm z
   rw[ek,em]at this;omega
  ·subst z
   rw[ek]at em
   rw[em]at dp;omega
 constructor
 ·intro e
  have:=key i e
  rw[List.mem_take_iff_getElem]
  exact⟨m,by omega,em⟩
 ·intro e
  obtain⟨k,hk,ek⟩:=List.mem_take_iff_getElem.mp e
  have:=key k (Yq.mpr ⟨by omega,ek⟩)
  rw[List.mem_take_iff_getElem]
  exact⟨m,by omega,em⟩
theorem ZqX {T hs qs us:List Int}{i j:Nat} (h:Zik T hs qs us i) (e:qs[i]?=some (j:Int)) (ht:nth T j=-1):Zik T hs qs us (i+1):=by
 refine⟨h.1,λp hp=>?_⟩
 rw[h.2 p hp]
 by_cases c:p=j
 ·subst c
  rw[Yb (λz=>z.2 ht),Yb (λz=>z.2 ht)]
 ·have:(p:Int)∈qs.take (i+1)↔(p:Int)∈qs.take i:=by rw[Zil e];exact⟨λz=>z.elim id λy=>absurd (by omega) c,.inl⟩
  simp only[this]
theorem ZoU (n:Int):(nats n).Nodup:=by
 unfold nats
 exact List.Pairwise.map _ (λa b (h:a≠b)=>λ(e:(a:Int)=(b:Int))=>h (by omega)) List.nodup_range
theorem ZqY {ns T hs qs us:List Int}{i j k:Nat} (hT:Zi ns T) (hpm:qs.Perm (nats (T.length:Int))) (hpw:qs.Pairwise λx y=>dpI T x<=dpI T y) (h:Zik T hs qs us i) (e:qs[i]?=some (j:Int)) (hj:j<T.length) (hk:k<T.length) (ht:nth T j=k):Zik T hs qs (us.set j (max (nth us j) (nth us k))) (i+1):=by
 have eT:=hT.1
 have hkj:k≠j:=λz=>by
  have:=Zia hT (p:=j) (by omega) ht
  rw[z]at this;omega
 have nj:(j:Int)∉qs.take i:=λz=>by
  have nd:qs.Nodup:=hpm.nodup_iff.mpr (ZoU _)
  obtain⟨m,hm,em⟩:=List.mem_take_iff_getElem.mp z
  obtain⟨hi,ei⟩:=Yq.mp e
  have:=(List.getElem_inj nd (h₀:=by omega) (h₁:=hi)).mp (em.trans ei.symm)
  omega
 have uj:=h.2 j hj
 rw[Yb (λz=>nj z.1)]at uj
 refine⟨by rw[List.length_set];exact h.1,λp hp=>?_⟩
 by_cases c:p=j
 ·subst c
  rw[Ztc (by rw[h.1];exact hp),Yc ⟨(Zil e).mpr (.inr rfl),by omega⟩,ht,show((k:Nat):Int).toNat=k by omega,Zj7 hkj,uj]
 ·rw[Zj7 c,h.2 p hp]
  have:(p:Int)∈qs.take (i+1)↔(p:Int)∈qs.take i:=by rw[Zil e];exact⟨λz=>z.elim id λy=>absurd (by omega) c,.inl⟩
  simp only[this]
  by_cases y:(p:Int)∈qs.take i/\nth T p≠-1
  ·rw[Yc y,Yc y]
   rcases ZU hT (p:=p) (by omega)with z|⟨q,ez,hq,_,_⟩
   ·exact absurd z y.2
   ·rw[ez,show((q:Nat):Int).toNat=q by omega,Zj7 (λz=>?_)]
    subst z
    exact nj ((ZnG hT hpm hpw hp (by omega) ez).2 y.1)
  ·rw[Yb y,Yb y]
theorem Ztd {T hs qs us:List Int} (hpm:qs.Perm (nats (T.length:Int))) (h:Zik T hs qs us qs.length):ZoQ T hs us:=by
 refine⟨h.1,λp hp=>?_⟩
 rw[h.2 p hp,List.take_length]
 have mq:(p:Int)∈qs:=hpm.mem_iff.mpr (YB.mpr ⟨p,Yu.mpr (by omega),rfl⟩)
 by_cases c:nth T p=-1
 ·rw[Yc c,Yb (λz=>z.2 c)]
 ·rw[Yb c,Yc ⟨mq,c⟩]
theorem Zte {T ls us:List Int} (hG:Zae T) (hl:ls.length=T.length) (h:ZoQ T (hgt (Zl T) ls) us):ZiI T ls (Zif (Zl T) us)/\∀p,p<T.length->nth (Zif (Zl T) us) p=nth (Zl T) p+nth us p:=by
 have eF:(Zl T).length=T.length:=ZcT T
 have e2:∀p,p<T.length->nth (Zif (Zl T) us) p=nth (Zl T) p+nth us p:=λp hp=>Ztb (by omega)
 refine⟨(ZhE hG (by rw[ZnF];exact eF)).mpr λp hp=>?_,e2⟩
 have key:∀q,q<T.length->nth (hgt (Zl T) (Zif (Zl T) us)) q=nth us q:=λq hq=>by rw[ZP (by omega),e2 q hq];omega
 rw[key p hp,h.2 p hp]
 obtain⟨_,nsT,hT⟩:=hG
 have eT:=hT.1
 rcases ZU hT (p:=p) (by omega)with z|⟨q,ez,hq,_,_⟩
 ·rw[Yc z,Yc z]
 ·rw[Yb (by omega),Yb (by omega),ez,show((q:Nat):Int).toNat=q by omega,key q (by omega)]
theorem Ztf {T ls ds:List Int} (hG:Zae T) (h:ZiI T ls ds):Zi ds T:=by
 have hf:=(ZhE hG h.1).mp h
 obtain⟨_,nsT,hT⟩:=hG
 have eT:=hT.1
 have eF:(Zl T).length=T.length:=ZcT T
 have hup:∀o p,o<nsT.length->p<nsT.length->Over (nth nsT) o p->nth ds o-nth (Zl T) o<=nth ds p-nth (Zl T) p:=λo p ho hp hO =>
  Zhr hT (R:=λo p=>nth ds o-nth (Zl T) o<=nth ds p-nth (Zl T) p) (λp q hp hq e _=>by
   have:=hf p (by omega)
   rw[ZP (by omega),Yb (by omega),e,show((q:Nat):Int).toNat=q by omega,ZP (F:=Zl T) (ns:=ds) (i:=q) (by omega)]at this
   omega) (λo q p _ _ r1 r2=>by omega) _ p o hp ho rfl hO
 refine⟨h.1.symm,λp hp=>?_⟩
 have hl:=h.1
 rw[show ds.length=nsT.length by omega]at hp⊢
 refine Zm1 hT (λq p hq hp hO=>?_) p hp
 have h1:=hup q p hq hp hO
 have h2:=Zlp hT hp hq hO
 rw[Zbv (by omega),Zbv (by omega)]at h1
 exact⟨λ_=>by omega,λz=>by have:=h2.2 z;omega⟩
theorem ZlI {T ls ds rs:List Int} (h:ZiI T ls ds) (hr:Zi rs T) (hl:∀p,p<T.length->nth ls p<=nth rs p):∀p,p<T.length->nth ds p<=nth rs p:=λp hp=>by
 have eT:=hr.1
 obtain⟨⟨o,ho,e⟩,_⟩:=h.2 p hp
 rcases Yl.mp ho with rfl|ho
 ·have:=hl o hp;omega
 ·have hO:=(Zam hr (by omega)).mp ho
  have h1:=ZuO hr (p:=p) (o:=o) (by omega) hO.1 hO.2
  have h2:=hl o (by omega)
  rw[Zbv hp,Zbv (by omega)]at e
  omega
theorem Zmt {m j2:Nat}{r:List Nat}{P:Nat->Bool} (h:(List.range m).filter P=j2::r):j2<m/\P j2=true/\∀j,j<j2->P j=false:=by
 have h2:j2∈(List.range m).filter P:=by rw[h];exact YI
 obtain⟨m1,m2⟩:=YS.mp h2
 refine⟨Yu.mp m1,m2,λj hj=>?_⟩
 cases hp:P j with
 |false=>rfl
 |true =>
  have hin:j∈(List.range m).filter P:=YS.mpr ⟨Yu.mpr (by have:=Yu.mp m1;omega),hp⟩
  have hs:((List.range m).filter P).Pairwise (· < ·):=List.Pairwise.filter _ List.pairwise_lt_range
  rw[h]at hin hs
  rcases Yl.mp hin with e|hin
  ·omega
  ·have:=(Y1.mp hs).1 j hin
   omega
theorem ZoV {a:Addr}{L:List Int}{p:Nat}{H1:Hp}{Q:VK} (ha:H1 a=some (.lst (L.map V.int))) (hn:L.length<=1000)
  (hk:∀l H' (xs:List V),Zf H1 H'->xs.length=(L.filter λo=>decide ((p:Int)<o)).length->H' l=none->Q (.ref l) (upd H' l (.lst xs))) :
  ZmT (Itl K a) (Zju 0) (Zpf (tOp (rI0 λi j=>V.bl (decide (j<i))) (ZpP 0) (ZpP 1))) (ZpP 0) [none,some (V.int (p:Int))] Q H1:=by
 refine Zed (n:=L.length) (λi=>decide ((p:Int)<L.getD i 0)) (λi=>V.int (L.getD i 0)) (Yr hn (by decide)) (λi Hx s hi=>⟨_,_,SqL.of (s _ _ ha),Yi (by simpa using hi)⟩) (λHx s=>⟨_,SqL.of (s _ _ ha),by simp⟩) ?_ ?_
 ·rintro i x Hx Hy hi s ⟨rfl,hx⟩
  have ex:=hx _ (SqL.of (s _ _ ha))
  rw[YF,Yi hi]at ex
  cases ex
  have eg:L.getD i 0=L[i]:=by simp[Ym,hi]
  walk_at "rd"
  exact ZK (λz=>CF.take hi (by rw[eg];exact YG z) (by rw[eg]) s) (λz=>CF.skip hi (by rw[eg];exact YD z) s)
 ·intro l H' s hl
  refine hk l H' _ s ?_ hl
  rw[Yf]
  have:L=(List.range L.length).map λi=>L.getD i 0:=by
   refine List.ext_getElem (by simp) λj h1 h2=>?_
   simp[Ym,h1]
  conv=>rhs;rw[this,List.filter_map,Yf]
  rfl
theorem Zj8 {f:Addr}{fd:FuncData} (F:Fun K "flat_number" "flat_number" ZaQ f fd) (Zad:Callee P w K mg base "way_up" 1 ["tree","place"] (Zce K mg)) (T:Txt K mg):FnOk P w K mg base (CXE P w) 2 f fd ["tree","place"] (Zc7 K mg):=by
 refine F.okX Zj3 (λvs H Q E h=>?_) (λcdv A outer s H vs Q E hr h=>?_)
 ·obtain⟨t,T,p,rfl,_⟩:=h;rfl
 obtain⟨t,T',p,rfl,ht,hn,hp,k1⟩:=h
 refine⟨_,(Zg (Zt (Zm (Zo (K:=K) rfl) rfl T.b_len Yw (Za (Zec ["elder","place"] [none,some 1] rfl rfl rfl (Zdq (Zj Zad (hr.mono (by decide)) rfl ZD (Za (pv 0) (Za (pv 1) Zc)))) (λ_ _ _ _ _=>(Zk (i:=0) (show(["elder","place"]:List Str).Nodup from by decide +kernel) rfl (Or.inl rfl))) (λ_ _ _ _ _=>Zfk (Zs ZcH (pv 0) (pv 1) (Zr _))) (λ_ _ _ _ _=>(pv 0)) Zx) Zc)))),?_⟩
 walk_at "rd"
 refine⟨t,T',p,rfl,ht,hn,hp,λw H1 hw s1 h1=>⟨w,rfl,⟨_,SqL.of h1⟩,ZoV h1 (by simp only[Ze8,Yf];exact Yh (Zfo _ _ _) hn) λl H2 xs s2 hx hl=>⟨l,rfl,xs,.inl (SqL.of Zb),?_⟩⟩⟩
 have e:(xs.length:Nat)=Zbh T' p:=by
  rw[hx,Zee,List.filter_map,Yf]
  unfold Zbh
  refine Zef λo ho=>?_
  rw[Bool.eq_iff_iff]
  simp
 rw[e]
 exact k1 _ ((s1.trans s2).ZG hl)
theorem ZnH {f:Addr}{fd:FuncData} (F:Fun K "flattest" "flattest" Zcb f fd) (Zaq:Callee P w K mg base "need_tree" 4 ["tree"] (ZbT K mg)) (ZdR:Callee P w K mg base "flat_number" 2 ["tree","place"] (Zc7 K mg)) (T:Txt K mg):FnOk P w K mg base (CXE P w) 5 f fd ["tree"] (Zdy K mg):=by
 refine F.okX Znw (λvs H Q E h=>?_) (λcdv A outer s H vs Q E hr h=>?_)
 ·obtain⟨t,T,rfl,_⟩:=h;rfl
 obtain⟨t,T',rfl,ht,hn,k1,k2⟩:=h
 refine⟨_,(Zd (Za6 (Zj Zaq (hr.mono (by decide)) rfl Zas (Za (pv 0) Zc)))
   (Zg (Zt (ZaP (Zea (K:=K) rfl) rfl T.b_tuple Zcx (Za (Zec ["place","tree"] [none,some 0] rfl rfl rfl (ZaO rfl T.b_range (Za (Zm (Zo (K:=K) rfl) rfl T.b_len Yw (Za (pv 0) Zc)) Zc)) (λ_ _ _ _ _=>(Zk (i:=0) (show(["place","tree"]:List Str).Nodup from by decide +kernel) rfl (Or.inl rfl))) (λ_ _ _ _ _=>Zab) (λ_ _ _ _ _=>(Zj ZdR (hr.mono (by decide)) rfl ZD (Za (pv 1) (Za (pv 0) Zc)))) Zx) Zc))))),?_⟩
 walk_at "rd"
 have eL:(T'.map V.int).length=T'.length:=Yf ..
 refine⟨t,T',rfl,ht,hn,λg H1 s1=>⟨_,.inr ((s1.Zaj ht)),by omega,by rw[eL];omega,?_⟩,λg H1 s1=>k2 g _ s1⟩
 have en:(((T'.map V.int).length:Nat):Int).toNat=T'.length:=by rw[eL];omega
 rw[en]
 refine comp_map (n:=T'.length) (λq=>V.int (Zbh T' q:Nat)) (Yr hn (by decide)) (λj Hx s hj=>hj) (λHx s=>Yd _) ?_ ?_
 ·rintro j x Hx Hy hj s ⟨rfl,rfl⟩
  walk_at "rd"
  exact⟨t,T',j,by simp,((s1.trans s).Zaj ht),hn,hj,λH9 s9=>CW.next hj rfl (s.trans s9)⟩
 ·intro l' Hx s hl'
  have ed:(List.range T'.length).map (λq=>V.int (Zbh T' q:Nat))=(Zl T').map V.int:=by simp[Zl]
  rw[ed]
  exact⟨l',rfl,_,.inl ⟨SqL.of Zb,λt' ht'=>k1 g t' _ (((s1.trans s).ZG hl').ZG ht') Zb⟩⟩
theorem ZkX {f:Addr}{fd:FuncData} (F:Fun K "heights_of" "heights_of" Zbb f fd) (T:Txt K mg):FnOk P w K mg base (CXE P w) 1 f fd ["flat","row"] (Zco K mg):=by
 refine F.okX ZkV (λvs H Q E h=>?_) (λcdv A outer s H vs Q E hr h=>?_)
 ·obtain⟨f,r,F,ns,rfl,_⟩:=h;rfl
 obtain⟨f,r,Fl,ns,rfl,hf,hr1,hF,hn,k1,k2⟩:=h
 refine⟨_,(Zd (Z8 (Zs op_ne (Zm (Zo (K:=K) rfl) rfl T.b_len Yw (Za (pv 1) Zc)) (Zm (Zo (K:=K) rfl) rfl T.b_len Yw (Za (pv 0) Zc)) (Zr _)) (Zg (Zhj rfl rfl T.c_Unlike T.x_Unlike (Za (Zgc (Zck (by decide) (ZgH (Zm (Zo (K:=K) rfl) rfl T.b_len Yw (Za (pv 1) Zc)) (Zck (by decide) (ZgH (Zm (Zo (K:=K) rfl) rfl T.b_len Yw (Za (pv 0) Zc)) (Zck (by decide) ZlZ)))))) Zc) Zjd)) Zz)
   (Zg (Zt (Zec ["number","least"] [none,none] rfl rfl rfl (Zpw (K:=K) rfl rfl T.b_zip (Za (pv 1) (Za (pv 0) Zc))) (λ_ _ _ _ _=>(Zje (K:=K) (n:=2) rfl rfl (ZI (Zk (i:=0) (show(["number","least"]:List Str).Nodup from by decide +kernel) rfl (Or.inl rfl)) (ZI (Zk (i:=1) (show(["number","least"]:List Str).Nodup from by decide +kernel) rfl (Or.inl rfl)) ZbL)))) (λ_ _ _ _ _=>Zab) (λ_ _ _ _ _=>(Zp ZcY (pv 0) (pv 1))) (Zhi (Za7 Zx (Za7 Zx Zhh))))))),?_⟩
 walk_at "rd"
 have ef:(Fl.map V.int).length=Fl.length:=Yf ..
 have en:(ns.map V.int).length=ns.length:=Yf ..
 refine⟨_,hr1,_,.inr (SqT.of hf),ZK (λc=>?_) (λc=>?_)⟩
 ·exact⟨_,hr1,by omega,Int.lt_trans (show _<(2000:Int) by omega) (by decide),_,.inr (SqT.of hf),by omega,Int.lt_trans (show _<(2000:Int) by omega) (by decide),λy=>⟨by decide,k2 (λz=>c (by omega)) H (Zf.refl H)⟩⟩
 have e:ns.length=Fl.length:=by
  have:=Decidable.not_not.mp c
  omega
 obtain⟨tg,hB⟩:=SqB.of hr1
 obtain⟨tu,hB2⟩:=SqB.of (K:=K) (H:=H) (a:=f) (xs:=Fl.map V.int) (.inr (SqT.of hf))
 refine⟨tg,tu,_,hB,_,hB2,?_⟩
 refine comp_map (n:=Fl.length) (λi=>V.int (nth ns i-nth Fl i)) (Yr hF (by decide)) (λi Hx s hi=>⟨_,_,_,_,s.ZdJ hB,s.ZdJ hB2,ZdK (by omega),ZdK hi⟩) (λHx s=>⟨_,_,s.ZdJ hB,s.ZdJ hB2,.inl (by omega)⟩) ?_ ?_
 ·rintro i x Hx Hy hi s ⟨q,x,y,hq,rfl,rfl,hx,hy⟩
  have ex:=hx _ (s.ZdJ hB)
  have ey:=hy _ (s.ZdJ hB2)
  rw[ZdK (by omega)]at ex
  rw[ZdK hi]at ey
  cases ex;cases ey
  walk_at "rd"
  exact⟨_,SqT.of Zb,rfl,_,_,rfl,_,_,rfl,rfl,_,rfl,_,rfl,CW.next hi rfl (s.ZG hq)⟩
 ·intro l Hx s hl
  have:=k1 e l (upd Hx l (.lst ((hgt Fl ns).map V.int))) (s.free hl) (s.ZG hl) Zb
  unfold hgt at this
  rw[YV]at this
  exact this
theorem ZoW {f:Addr}{fd:FuncData} (F:Fun K "is_over" "is_over" ZcW f fd) (Zad:Callee P w K mg base "way_up" 1 ["tree","place"] (Zce K mg)) (T:Txt K mg):FnOk P w K mg base (CXE P w) 2 f fd ["tree","a","b"] (ZgR K mg):=by
 refine F.okX ZoR (λvs H Q E h=>?_) (λcdv A outer s H vs Q E hr h=>?_)
 ·obtain⟨t,T,a,b,rfl,_⟩:=h;rfl
 obtain⟨t,T',a,b,rfl,ht,hn,k1⟩:=h
 refine⟨_,(Zg (Zt (ZgD (Zjz Zgp Zjy Ze (pv 2) (Zm (Zo (K:=K) rfl) rfl T.b_len Yw (Za (pv 0) Zc))) (ZgC (Zbk (op_inK (K:=K) rfl) (pv 1) (Zj Zad (hr.mono (by decide)) rfl ZD (Za (pv 0) (Za (pv 2) Zc))) (by with_unfolding_all rfl)))))),?_⟩
 walk_at "rd"
 have eT:(T'.map V.int).length=T'.length:=Yf ..
 have no:∀H',Zf H H'->¬ (0<=b/\b<(T'.length:Int)/\a∈Ze8 T' b.toNat)->Q (.bl false) H':=λH' s c=>by
  have:=k1 H' s
  rw[YD c]at this;exact this
 refine ZK (λc0=>⟨_,.inr (ht),ZK (λc1=>?_) λc1=>no H (Zf.refl H) (λz=>c1 (by omega))⟩) λc0=>no H (Zf.refl H) λz=>c0 z.1
 obtain⟨j,rfl⟩:=Jc c0
 refine⟨t,T',j,rfl,ht,hn,by omega,λw H1 zw s1 hw=>⟨w,rfl,_,.inl (SqL.of hw),rfl,Zqg _,?_⟩⟩
 rw[ZuN]
 have:=k1 H1 s1
 rw[show decide (0<=(j:Int)/\(j:Int)<(T'.length:Int)/\a∈Ze8 T' (j:Int).toNat)=decide (a∈Ze8 T' j)from decide_eq_decide.mpr ⟨λz=>by simpa using z.2.2,λz=>⟨by omega,by omega,by simpa using z⟩⟩]at this
 exact this
theorem ZkY {f:Addr}{fd:FuncData} (F:Fun K "fits_least" "fits_least" Zbc f fd) (T:Txt K mg):FnOk P w K mg base (CXE P w) 1 f fd ["tree","floors","roofs","heights"] (ZdL K mg):=by
 refine F.okX Zbj (λvs H Q E h=>?_) (λcdv A outer s H vs Q E hr h=>?_)
 ·obtain⟨t,a,b,c,T,fl,rf,hs,rfl,_⟩:=h;rfl
 obtain⟨t,a,b,c,T',fl,rf,hs,rfl,ht,ha,hb,hc,hG,l1,l2,l3,k1⟩:=h
 refine⟨_,(Zd (Zar (ZaU PassesOwn.never rfl (Zl5 (K:=K) rfl rfl T.b_enumerate (Za (pv 3) Zc)) (ZgE (n:=2) rfl (ZI (Zk (i:=4) Zbj.nd rfl (Or.inl rfl)) (ZI (Zk (i:=5) Zbj.nd rfl (Or.inl rfl)) ZbL))) (Zd (Zn (i:=6) Zbj.nd rfl (Or.inl rfl) (Zv Zbi (pv 0) (pv 4) (λ_ _=>rfl)))
   (Zd (Zn (i:=7) Zbj.nd rfl (Or.inl rfl) (Zhe (Zs Zdr (pv 6) (Ze6 ZcB Ze) (Zr _)) (Zv Zq (pv 1) (pv 4) (λ_ _=>rfl)) (Zm (Zd8 rfl) rfl T.b_max ZhZ (Za (Zv Zq (pv 1) (pv 4) (λ_ _=>rfl)) (Za (Zv Zq (pv 3) (pv 6) (λ_ _=>rfl)) Zc)))))
   (Zg (Z8 (PW.pt (Zpa (Zs op_ne (pv 5) (pv 7) (Zr _)) (ZlP (Zs ZcH (pv 5) (Zv Zq (pv 2) (pv 4) (λ_ _=>rfl)) (Zr _))))) (Zg (Zt Zfb)) Zz))))))
   (Zg (Zt Zfb))),?_⟩
 walk_at "rd"
 have e3:(hs.map V.int).length=hs.length:=Yf ..
 refine⟨_,SqL.of hc,?_⟩
 obtain⟨hG1,nsT,hT⟩:=hG
 refine Zfp (n:=T'.length) (λi σ Hx=>∃v4 v5 v6 v7,σ=[some (.ref t),some (.ref a),some (.ref b),some (.ref c),v4,v5,v6,v7]/\Zf H Hx/\∀p,p<i->Zc8 T' fl rf hs p) ⟨_,_,_,_,rfl,Zf.refl H,λp hp=>absurd hp (by omega)⟩
  (λi σ Hx hi ⟨_,_,_,_,_,sx,_⟩=>⟨_,_,SqL.of (sx _ _ hc),ZdK (by omega)⟩) (fun σ Hx ⟨_,_,_,_,_,sx,_⟩=>⟨_,SqL.of (sx _ _ hc),by omega⟩) ?_ ?_
 ·rintro i x σ Hx Hx' hi ⟨v4,v5,v6,v7,rfl,sx,hf⟩ ⟨q,x,hq,rfl,rfl,hx⟩
  have ex:=hx _ (SqL.of (sx _ _ hc))
  rw[ZdK (by omega)]at ex
  cases ex
  replace sx:=sx.ZG (o:=.tup [.int (i:Int),.int (nth hs i)]) hq
  have tq:(upd Hx q (.tup [.int (i:Int),.int (nth hs i)])) q=some (.tup [.int (i:Int),.int (nth hs i)]):=Zb
  generalize upd Hx q (.tup [.int (i:Int),.int (nth hs i)])=Hy at sx tq⊢
  walk_at "rd"
  have no:¬ Zc8 T' fl rf hs i->Q (.bl false) Hy:=λz=>by
   have:=k1 Hy sx
   rw[YD (λy=>z (y i hi))]at this;exact this
  have yes:Zc8 T' fl rf hs i->∀p,p<i+1->Zc8 T' fl rf hs p:=λz p hp=>by
   by_cases e:p=i
   ·rw[e];exact z
   ·exact hf p (by omega)
  refine⟨_,SqT.of tq,rfl,_,_,rfl,_,_,rfl,rfl,_,_,rfl,(sx.Zaj ht),_,Z4 hi,rfl,ZK (λc0=>?_) λc0=>?_⟩
  ·have c1:nth T' i=-1:=by simpa using c0
   refine⟨_,_,rfl,SqL.of (sx _ _ ha),_,Z4 (by omega),rfl,ZK (λz=>no λy=>z ?_) λz=>⟨_,_,rfl,SqL.of (sx _ _ hb),_,Z4 (by omega),_,rfl,_,rfl,ZK (λz2=>no λy=>?_) λz2=>⟨sx,yes ?_⟩⟩⟩
   ·unfold Zc8 at y
    rw[Yc c1]at y
    rw[y.1]
   ·unfold Zc8 at y
    omega
   ·unfold Zc8
    rw[Yc c1]
    have z':=Decidable.not_not.mp z
    simp only[V.int.injEq]at z'
    omega
  ·have c1:nth T' i≠-1:=λe=>c0 (by rw[e])
   rcases ZU hT (p:=i) (by have:=hT.1;omega)with e|⟨q0,e,hq0,_,_⟩
   ·exact absurd e c1
   have eq:(nth T' i).toNat=q0:=by omega
   refine⟨_,_,rfl,SqL.of (sx _ _ ha),_,Z4 (by omega),_,_,rfl,SqL.of (sx _ _ hc),_,by rw[e];exact Z4 (by have:=hT.1;omega),_,rfl,_,rfl,rfl,?_⟩
   have em:(if nth hs q0>nth fl i then nth hs q0 else nth fl i)=max (nth fl i) (nth hs q0):=by
    split<;>omega
   refine ZK (λz=>no λy=>z ?_) λz=>⟨_,_,rfl,SqL.of (sx _ _ hb),_,Z4 (by omega),_,rfl,_,rfl,ZK (λz2=>no λy=>?_) λz2=>⟨sx,yes ?_⟩⟩
   ·unfold Zc8 at y
    rw[Yb c1,eq]at y
    rw[em,y.1]
   ·unfold Zc8 at y
    omega
   ·unfold Zc8
    rw[Yb c1,eq]
    have z':=Decidable.not_not.mp z
    simp only[V.int.injEq]at z'
    rw[em]at z'
    omega
 ·rintro σ Hx ⟨v4,v5,v6,v7,rfl,sx,hf⟩
  walk_at "rd"
  have:=k1 Hx sx
  rw[YG hf]at this
  exact this
theorem ZnI {f:Addr}{fd:FuncData} (F:Fun K "is_clash" "is_clash" Zcc f fd) (Zio:Callee P w K mg base "is_over" 2 ["tree","a","b"] (ZgR K mg)) (T:Txt K mg):FnOk P w K mg base (CXE P w) 3 f fd ["tree","floors","roofs","a","b"] (Zfy K mg):=by
 refine F.okX ZiJ (λvs H Q E h=>?_) (λcdv A outer s H vs Q E hr h=>?_)
 ·obtain⟨t,c,d,T,fl,rf,a,b,rfl,_⟩:=h;rfl
 obtain⟨t,c,d,T',fl,rf,a,b,rfl,ht,hc,hd,hG,l1,l2,k1⟩:=h
 refine⟨_,(Zd (Zn (i:=5) ZiJ.nd rfl (Or.inl rfl) (pe_or (Zj Zio (hr.mono (by decide)) rfl ZD (Za (pv 0) (Za (pv 3) (Za (pv 4) Zc)))) (ZgC (ZgD (Zbk Zdr (pv 3) (pv 4) (Zr _)) (ZgC (Zjz Zgp Zjy Ze (pv 3) (Zm (Zo (K:=K) rfl) rfl T.b_len Yw (Za (pv 0) Zc))))))))
   (Zg (Zt (ZgD (pv 5) (ZgC (Zbk ZcH (Zv Zq (pv 1) (pv 3) (λ_ _=>rfl)) (Zv Zq (pv 2) (pv 4) (λ_ _=>rfl)) (Zr _))))))),?_⟩
 walk_at "rd"
 have eT:(T'.map V.int).length=T'.length:=Yf ..
 obtain⟨hG1,nsT,hT⟩:=hG
 have fin:∀H1,Zf H H1->(0<=b/\b<(T'.length:Int)/\a∈Ze8 T' b.toNat\/a=b/\0<=a/\a<(T'.length:Int))->∃x,SqL K H1 c x/\∃x_1,atI x a=some x_1/\∃x,SqL K H1 d x/\∃x_2,atI x b=some x_2/\∃i,x_1=V.int i/\∃x,x_2=V.int x/\Q (V.bl (decide (x<i))) H1:=λH1 s1 z=>by
  have z2:∃i j:Nat,a=i/\b=j/\i<T'.length/\j<T'.length:=by
   rcases z with⟨z1,z2,z3⟩|⟨z1,z2,z3⟩
   ·rw[Zee]at z3
    obtain⟨o,ho,e⟩:=YB.mp z3
    have:=((Zam hT (by have:=hT.1;omega)).mp ho).1
    exact⟨o,b.toNat,e.symm,by omega,by have:=hT.1;omega,by omega⟩
   ·exact⟨a.toNat,b.toNat,by omega,by omega,by omega,by omega⟩
  obtain⟨i,j,rfl,rfl,hi,hj⟩:=z2
  refine⟨_,SqL.of (s1 _ _ hc),_,Z4 (by omega),_,SqL.of (s1 _ _ hd),_,Z4 (by omega),_,rfl,_,rfl,?_⟩
  have:=k1 H1 s1
  rw[show decide (Zfx T' fl rf (i:Int) (j:Int))=decide (nth rf j<nth fl i)from decide_eq_decide.mpr ⟨λq=>by simpa using q.2,λq=>⟨z,by simpa using q⟩⟩]at this
  exact this
 have no:∀H',Zf H H'->¬ (0<=b/\b<(T'.length:Int)/\a∈Ze8 T' b.toNat\/a=b/\0<=a/\a<(T'.length:Int))->Q (.bl false) H':=λH' s c=>by
  have:=k1 H' s
  rw[YD (λz=>c z.1)]at this;exact this
 refine⟨t,T',a,b,rfl,ht,by omega,λH1 s1=>⟨_,rfl,ZK (λz=>fin H1 s1 (.inl (Y3 z))) λz=>?_⟩⟩
 have nz:=λy=>z (YG y)
 refine ZK (λc=>ZK (λc0=>⟨_,.inr ((s1.Zaj ht)),ZK (λc1=>fin H1 s1 (.inr ⟨c,c0,by omega⟩)) λc1=>no H1 s1 ?_⟩) λc0=>no H1 s1 ?_) λc=>no H1 s1 ?_
 ·rintro(y|y)
  ·exact nz y
  ·omega
 ·rintro(y|y)
  ·exact nz y
  ·omega
 ·rintro(y|y)
  ·exact nz y
  ·exact c y.1
theorem Zi5 {f:Addr}{fd:FuncData} (F:Fun K "fitted_right" "fitted_right" Zax f fd) (Zcj:Callee P w K mg base "flattest" 5 ["tree"] (Zdy K mg)) (Z7:Callee P w K mg base "heights_of" 1 ["flat","row"] (Zco K mg)) (ZeP:Callee P w K mg base "fits_least" 1 ["tree","floors","roofs","heights"] (ZdL K mg)) (ZgW:Callee P w K mg base "is_clash" 3 ["tree","floors","roofs","a","b"] (Zfy K mg)) (T:Txt K mg):FnOk P w K mg base (CXE P w) 6 f fd ["tree","least","greatest","told"] (ZcG K mg):=by
 refine F.okX Zbn (λvs H Q E h=>?_) (λcdv A outer s H vs Q E hr h=>?_)
 ·obtain⟨t,a,b,c,T,ls,gs,d,rfl,_⟩:=h;rfl
 obtain⟨t,a,b,c,T',ls,gs,d,rfl,ht,ha,hb,hG,l1,l2,hd,k1⟩:=h
 refine⟨_,(Zd (Zn (i:=4) Zbn.nd rfl (Or.inl rfl) (Zj Zcj (hr.mono (by decide)) rfl Zas (Za (pv 0) Zc)))
   (Zd (Zn (i:=5) Zbn.nd rfl (Or.inl rfl) (Zj Z7 (hr.mono (by decide)) rfl Zas (Za (pv 4) (Za (pv 1) Zc))))
   (Zd (Zn (i:=6) Zbn.nd rfl (Or.inl rfl) (Zj Z7 (hr.mono (by decide)) rfl Zas (Za (pv 4) (Za (pv 2) Zc))))
   (Zd (Z8 (Zfc (ZgB (Zm (Zp7 (K:=K) rfl) rfl T.b_isinstance Zgq (Za (pv 3) (Za (Zo9 (v:=.ty "tuple") rfl T.b_tuple Zcx rfl) Zc))))) (Zg (Zt Zfb)) Zz)
   (Zd (Z8 (PW.pt (ZhU (Zs (ZgI (K:=K) rfl hr) (ZcZ (sl_v (K:=K) rfl) (pv 3) Zet (Zeu Ze)) (Zfi (Za ZhT Zc)) (Zr _)) (Zf8 (Zs Zdr (Zm (Zo (K:=K) rfl) rfl T.b_len Yw (Za (pv 3) Zc)) Ze (Zr _))))) (Zg (Zt (ZgD (Zbk Zdr (Zm (Zo (K:=K) rfl) rfl T.b_len Yw (Za (Zv Zbi (pv 3) Ze (λ_ _=>rfl)) Zc)) (Zm (Zo (K:=K) rfl) rfl T.b_len Yw (Za (pv 0) Zc)) (Zr _)) (ZgC (Zj ZeP (hr.mono (by decide)) rfl ZD (Za (pv 0) (Za (pv 5) (Za (pv 6) (Za (Zj Z7 (hr.mono (by decide)) rfl Zas (Za (pv 4) (Za (Zv Zbi (pv 3) Ze (λ_ _=>rfl)) Zc))) Zc))))))))) Zz)
   (Zg (Zt (ZgD (Zbk (ZgI (K:=K) rfl hr) (ZcZ (sl_v (K:=K) rfl) (pv 3) Zet (Zeu Ze)) (Zfi (Za ZhT Zc)) (Zr _)) (ZgD (Zbk Zdr (Zm (Zo (K:=K) rfl) rfl T.b_len Yw (Za (pv 3) Zc)) Ze (Zr _)) (ZgC (Zj ZgW (hr.mono (by decide)) rfl ZD (Za (pv 0) (Za (pv 5) (Za (pv 6) (Za (Zv Zbi (pv 3) Ze (λ_ _=>rfl)) (Za (Zv Zbi (pv 3) Ze (λ_ _=>rfl)) Zc)))))))))))))))),?_⟩
 walk_at "rd"
 have eF:(Zl T').length=T'.length:=ZcT T'
 have h40:=hG.1
 refine⟨t,T',rfl,ht,by omega,λ_ f H1 s1 hf=>⟨f,a,Zl T',ls,rfl,hf,s1.q ha,by omega,by omega,λ_ fo H2 zfo s2 hfo=>⟨f,b,Zl T',gs,rfl,s2 _ _ hf,(s1.trans s2).q hb,by omega,by omega,λ_ ro H3 zro s3 hro=>?_,λz=>absurd (by omega) z⟩,λz=>absurd (by omega) z⟩,λz=>absurd hG z⟩
 have s03:=(s1.trans s2).trans s3
 have hf3:=(s2.trans s3) _ _ hf
 have hfo3:=s3 _ _ hfo
 have ht3:=s03.Zaj ht
 have efl:(hgt (Zl T') ls).length=(Zl T').length:=Zgj _ _
 have erf:(hgt (Zl T') gs).length=(Zl T').length:=Zgj _ _
 obtain⟨fl,efl'⟩:∃fl,fl=hgt (Zl T') ls:=⟨_,rfl⟩
 obtain⟨rf,erf'⟩:∃rf,rf=hgt (Zl T') gs:=⟨_,rfl⟩
 rw[<-efl']at hfo3 hfo efl
 rw[<-erf']at hro erf
 cases d with
 |row ns =>
  obtain⟨hn,r,hc,hr2⟩:=hd
  have hc3:=s03 _ _ hc
  have hr3:=s03 _ _ hr2
  refine⟨true,.inl ⟨_,.tup hc3,by with_unfolding_all rfl⟩,ZK (λz=>nomatch z) λ_=>⟨_,hc3,λp H4 s4 hp=>⟨by decide,λp1 hp1=>?_⟩⟩⟩
  have s4':=s4.ZG (o:=.tup [V.str (Str.ofString "row")]) hp1
  have hp':=((Zf.refl H4).ZG (o:=.tup [V.str (Str.ofString "row")]) hp1) _ _ hp
  have hp1':=Zb (H:=H4) (a:=p1) (o:=.tup [V.str (Str.ofString "row")])
  generalize upd H4 p1 (.tup [V.str (Str.ofString "row")])=H5 at s4' hp' hp1'⊢
  have eq:=Zj6 (K:=K) (H:=H5) (p:=p) (q:=p1) (a:=Str.ofString "row") (b:=Str.ofString "row") hp' hp1'
  refine⟨_,eq,ZK (λ_=>⟨_,.inr (SqT.of (s4' _ _ hc3)),ZK (λ_=>⟨_,SqT.of (s4' _ _ hc3),_,rfl,r,rfl,_,.inr (SqT.of (s4' _ _ hr3)),_,.inr ((s4'.Zaj ht3)),ZK (λz=>?_) λz=>?_⟩) λz=>absurd rfl z⟩) λz=>absurd (by simp) z⟩
  ·have z':ns.length=T'.length:=by simp only[Yf]at z;omega
   refine⟨_,SqT.of (s4' _ _ hc3),_,rfl,f,r,Zl T',ns,rfl,s4' _ _ hf3,.inr (SqT.of (s4' _ _ hr3)),by omega,by omega,λ_ l H6 zl s6 hl=>⟨t,fo,ro,l,T',fl,rf,hgt (Zl T') ns,rfl,(s4'.trans s6).Zaj ht3,(s4'.trans s6) _ _ hfo3,(s4'.trans s6) _ _ hro,hl,hG,?_,?_,?_,λH7 s7=>?_⟩,λy=>absurd (by omega) y⟩
   ·rw[efl];omega
   ·rw[erf];omega
   ·rw[Zgj];omega
   ·have:=k1 H7 (s03.trans (s4'.trans (s6.trans s7)))
    rw[show decide (ZgT T' ls gs (.row ns))=decide (∀p,p<T'.length->Zc8 T' fl rf (hgt (Zl T') ns) p)from decide_eq_decide.mpr ⟨λq=>by rw[efl',erf'];exact q.2,λq=>⟨z',by rw[efl',erf']at q;exact q⟩⟩]at this
    exact this
  ·have:=k1 H5 (s03.trans s4')
   rw[YD (λq:ZgT T' ls gs (.row ns)=>z (by have:=q.1;simp only[Yf];omega))]at this
   exact this
 |clash x y =>
  have hc3:=s03 _ _ hd
  refine⟨true,.inl ⟨_,.tup hc3,by with_unfolding_all rfl⟩,ZK (λz=>nomatch z) λ_=>⟨_,hc3,λp H4 s4 hp=>⟨by decide,λp1 hp1=>?_⟩⟩⟩
  have s4':=s4.ZG (o:=.tup [V.str (Str.ofString "row")]) hp1
  have hp':=((Zf.refl H4).ZG (o:=.tup [V.str (Str.ofString "row")]) hp1) _ _ hp
  have hp1':=Zb (H:=H4) (a:=p1) (o:=.tup [V.str (Str.ofString "row")])
  generalize upd H4 p1 (.tup [V.str (Str.ofString "row")])=H5 at s4' hp' hp1'⊢
  have eq:=Zj6 (K:=K) (H:=H5) (p:=p) (q:=p1) (a:=Str.ofString "clash") (b:=Str.ofString "row") hp' hp1'
  refine⟨_,eq,ZK (λz=>absurd z (by decide)) λ_=>⟨_,s4' _ _ hc3,λp2 H6 s6 hp2=>⟨by decide,λp3 hp3=>?_⟩⟩⟩
  have s6':=(s4'.trans s6).ZG (o:=.tup [V.str (Str.ofString "clash")]) hp3
  have hp2':=((Zf.refl H6).ZG (o:=.tup [V.str (Str.ofString "clash")]) hp3) _ _ hp2
  have hp3':=Zb (H:=H6) (a:=p3) (o:=.tup [V.str (Str.ofString "clash")])
  generalize upd H6 p3 (.tup [V.str (Str.ofString "clash")])=H7 at s6' hp2' hp3'⊢
  have eq:=Zj6 (K:=K) (H:=H7) (p:=p2) (q:=p3) (a:=Str.ofString "clash") (b:=Str.ofString "clash") hp2' hp3'
  refine⟨_,eq,ZK (λ_=>⟨_,.inr (SqT.of (s6' _ _ hc3)),ZK (λ_=>⟨_,SqT.of (s6' _ _ hc3),_,rfl,_,SqT.of (s6' _ _ hc3),_,rfl,?_⟩) λz=>absurd rfl z⟩) λz=>absurd (by simp) z⟩
  refine⟨t,fo,ro,T',fl,rf,x,y,rfl,s6'.Zaj ht3,s6' _ _ hfo3,s6' _ _ hro,hG,?_,?_,λH8 s8=>?_⟩
  ·rw[efl];omega
  ·rw[erf];omega
  ·have:=k1 H8 (s03.trans (s6'.trans s8))
   rw[show decide (ZgT T' ls gs (.clash x y))=decide (Zfx T' fl rf x y)from decide_eq_decide.mpr ⟨λq=>by rw[efl',erf'];exact q,λq=>by rw[efl',erf']at q;exact q⟩]at this
   exact this
theorem ZqZ {f:Addr}{fd:FuncData} (F:Fun K "row_by" "row_by" Zem f fd) (T:Txt K mg):FnOk P w K mg base (CXE P w) 1 f fd ["flat","heights"] (Zig K mg):=by
 refine F.okX ZqN (λvs H Q E h=>?_) (λcdv A outer s H vs Q E hr h=>?_)
 ·obtain⟨f,h,F,us,rfl,_⟩:=h;rfl
 obtain⟨f,h,Fl,us,rfl,hf,hh,e,hn,k1⟩:=h
 refine⟨_,(Zg (Zt (ZaP (Zea (K:=K) rfl) rfl T.b_tuple Zcx (Za (Zec ["least","height"] [none,none] rfl rfl rfl (Zpw (K:=K) rfl rfl T.b_zip (Za (pv 0) (Za (pv 1) Zc))) (λ_ _ _ _ _=>(Zje (K:=K) (n:=2) rfl rfl (ZI (Zk (i:=0) (show(["least","height"]:List Str).Nodup from by decide +kernel) rfl (Or.inl rfl)) (ZI (Zk (i:=1) (show(["least","height"]:List Str).Nodup from by decide +kernel) rfl (Or.inl rfl)) ZbL)))) (λ_ _ _ _ _=>Zab) (λ_ _ _ _ _=>(Zp ZaD (pv 0) (pv 1))) (Zhi (Za7 Zx (Za7 Zx Zhh)))) Zc)))),?_⟩
 walk_at "rd"
 obtain⟨tg,hB⟩:=SqB.of (K:=K) (H:=H) (a:=f) (xs:=Fl.map V.int) (.inr (SqT.of hf))
 obtain⟨tu,hB2⟩:=SqB.of (K:=K) (H:=H) (a:=h) (xs:=us.map V.int) (.inl (SqL.of hh))
 refine⟨tg,tu,_,hB,_,hB2,?_⟩
 refine comp_map (n:=Fl.length) (λi=>V.int (nth Fl i+nth us i)) (Yr (show _<=1000 by omega) (by decide)) (λi Hx s hi=>⟨_,_,_,_,s.ZdJ hB,s.ZdJ hB2,ZdK (by omega),ZdK (by omega)⟩) (λHx s=>⟨_,_,s.ZdJ hB,s.ZdJ hB2,.inl (by rw[Yf];exact Yd _)⟩) ?_ ?_
 ·rintro i x Hx Hy hi s ⟨q,x,y,hq,rfl,rfl,hx,hy⟩
  have ex:=hx _ (s.ZdJ hB)
  have ey:=hy _ (s.ZdJ hB2)
  rw[ZdK (by omega)]at ex
  rw[ZdK (by omega)]at ey
  cases ex;cases ey
  walk_at "rd"
  exact⟨_,SqT.of Zb,rfl,_,_,rfl,_,_,rfl,rfl,_,rfl,_,rfl,CW.next hi rfl (s.ZG hq)⟩
 ·intro l Hx s hl
  have e1:(List.range Fl.length).map (λi=>V.int (nth Fl i+nth us i))=(Zif Fl us).map V.int:=by unfold Zif;rw[YV];rfl
  rw[e1]
  exact⟨l,rfl,_,.inl ⟨SqL.of Zb,λq hq=>k1 q _ ((s.ZG hl).ZG hq) Zb⟩⟩
theorem Zq0 {f:Addr}{fd:FuncData} (F:Fun K "lifted" "lifted" Zen f fd) (Zbf:Callee P w K mg base "from_below" 5 ["tree"] (Zcn K mg)) (T:Txt K mg):FnOk P w K mg base (CXE P w) 6 f fd ["tree","heights"] (Zih K mg):=by
 refine F.okX Zij (λvs H Q E h=>?_) (λcdv A outer s H vs Q E hr h=>?_)
 ·obtain⟨t,h,T,hs,rfl,_⟩:=h;rfl
 obtain⟨t,h,T',hs,rfl,ht,hh,hG,hl,hTb,k1⟩:=h
 refine⟨_,(Zd (Zn (i:=2) Zij.nd rfl (Or.inl rfl) (ZaP (ZjH (K:=K) rfl) rfl T.b_list Zpo (Za (pv 1) Zc)))
   (Zd (Zar (ZaU PassesOwn.never rfl (Zdq (Zlg (K:=K) rfl (Zj Zbf (hr.mono (by decide)) rfl ZD (Za (pv 0) Zc)) (Ze6 ZcB Ze))) (Zk (i:=3) Zij.nd rfl (Or.inl rfl)) (Zg (Z8 (Zs ZmM (Zv Zbi (pv 0) (pv 3) (λ_ _=>rfl)) Ze (Zr _)) (Zg (ZdH (Zm (Zd8 rfl) rfl T.b_max ZhZ (Za (Zv Zq (pv 2) (pv 3) (λ_ _=>rfl)) (Za (Zv Zq (pv 2) (Zv Zbi (pv 0) (pv 3) (λ_ _=>rfl)) (λ_ _=>rfl)) Zc))) (Zfe (pv 2) (pv 3) set_list (λ_=>rfl)))) Zz))))
   (Zg (Zt (pv 2))))),?_⟩
 walk_at "rd"
 have eL:(T'.map V.int).length=T'.length:=Yf ..
 obtain⟨h40,nsT,hT⟩:=id hG
 have eT:=hT.1
 refine⟨_,.inl (SqL.of hh),λl zl=>?_⟩
 have g1:=(Zf.refl H).ZG (o:=.lst (hs.map V.int)) zl
 have h1:=Zb (H:=H) (a:=l) (o:=.lst (hs.map V.int))
 generalize upd H l (.lst (hs.map V.int))=H1 at g1 h1⊢
 refine⟨t,T',rfl,g1.Zaj ht,hG,Zcz.same hTb g1,λq ps H2 zq s2 hpm hpw hq=>⟨q,rfl,_,SqL.of hq,λp zp=>?_⟩⟩
 have nlq:l≠q:=λz=>by rw[z,zq]at h1;cases h1
 have e2:(ps.map V.int).reverse=ps.reverse.map V.int:=(List.map_reverse ..).symm
 rw[e2]
 have hpm2:ps.reverse.Perm (nats (T'.length:Int)):=(List.reverse_perm ps).trans hpm
 have hpw2:ps.reverse.Pairwise λx y=>dpI T' x<=dpI T' y:=List.pairwise_reverse.mpr hpw
 generalize ps.reverse=qs at hpm2 hpw2⊢
 have g3:=s2.ZG (o:=.lst (qs.map V.int)) zp
 have h3:=Zb (H:=H2) (a:=p) (o:=.lst (qs.map V.int))
 have nlp:l≠p:=λz=>by rw[<-z,s2 _ _ h1]at zp;cases zp
 generalize upd H2 p (.lst (qs.map V.int))=H3 at g3 h3⊢
 have g13:=g1.trans g3
 refine⟨⟨_,SqL.of h3⟩,Zfp (n:=qs.length) (λi σ Hx=>∃(v3:Option V) (us:List Int),σ=[some (.ref t),some (.ref h),some (.ref l),v3]/\Zik T' hs qs us i/\Hx l=some (.lst (us.map V.int))/\Hx p=some (.lst (qs.map V.int))/\Zf H Hx) ⟨none,hs,rfl,⟨hl,λp hp=>by rw[Yb (λz=>by simpa using z.1)]⟩,g3 _ _ h1,h3,g13⟩ (λi σ Hx hi ⟨_,_,_,_,_,h,_⟩=>⟨_,_,SqL.of h,ZdK hi⟩) (fun σ Hx ⟨_,_,_,_,_,h,_⟩=>⟨_,SqL.of h,by rw[Yf];exact Yd _⟩) ?_ ?_⟩
 ·rintro i x σ Hx Hx' hi ⟨v3,us,rfl,hL,hlx,hpx,sx⟩ ⟨rfl,hx⟩
  have e1:=hx _ (SqL.of hpx)
  rw[ZdK hi]at e1
  cases e1
  have eqi:qs[i]?=some (nth qs i):=by unfold nth;rw[Ym,Yi hi];rfl
  have mq:=hpm2.mem_iff.mp (Zdv hi)
  unfold nats at mq
  obtain⟨j,hj,ej⟩:=YB.mp mq
  have hj':=Yu.mp hj
  have hj2:j<T'.length:=by omega
  rw[<-ej]at eqi⊢
  clear mq hx ej hj
  walk_at "rd"
  have eu:=hL.1
  refine⟨_,(sx.Zaj ht),_,Z4 hj2,_,rfl,ZK (λc0=>?_) λc0=>?_⟩
  ·rcases ZU hT (p:=j) (by omega)with e|⟨k,e,hk,_,_⟩
   ·omega
   have hk2:k<T'.length:=by omega
   refine⟨_,SqL.of hlx,_,Z4 (by omega),_,(sx.Zaj ht),_,Z4 hj2,_,_,rfl,SqL.of hlx,_,by rw[e];exact Z4 (by omega),_,rfl,_,rfl,_,hlx,j,by rw[Yf];exact Zho (by omega),us.set j (max (nth us j) (nth us k)),ZqY hT hpm2 hpw2 hL eqi hj2 hk2 e,?_,by rw[Zh (Ne.symm nlp)];exact hpx,sx.upd zl⟩
   rw[Zb,List.map_set,show(if nth us k>nth us j then nth us k else nth us j)=max (nth us j) (nth us k) by split<;>omega]
  ·rcases ZU hT (p:=j) (by omega)with e|⟨k,e,hk,_,_⟩
   ·exact⟨us,ZqX hL eqi e,hlx,hpx,sx⟩
   ·omega
 ·rintro σ Hx ⟨v3,us,rfl,hL,hlx,hpx,sx⟩
  walk_at "rd"
  exact k1 l us Hx zl sx (Ztd hpm2 hL) hlx
theorem Zq1 {f:Addr}{fd:FuncData} (F:Fun K "fitted" "fitted" Zeo f fd) (Zad:Callee P w K mg base "way_up" 1 ["tree","place"] (Zce K mg)) (Zcj:Callee P w K mg base "flattest" 5 ["tree"] (Zdy K mg)) (Z7:Callee P w K mg base "heights_of" 1 ["flat","row"] (Zco K mg)) (Zkb:Callee P w K mg base "row_by" 1 ["flat","heights"] (Zig K mg)) (Zkc:Callee P w K mg base "lifted" 6 ["tree","heights"] (Zih K mg)) (T:Txt K mg):FnOk P w K mg base (CXE P w) 7 f fd ["tree","least","greatest"] (Zii K mg):=by
 refine F.okX ZbG (λvs H Q E h=>?_) (λcdv A outer s H vs Q E hr h=>?_)
 ·obtain⟨t,a,b,T,ls,gs,rfl,_⟩:=h;rfl
 obtain⟨t,a,b,T',ls,gs,rfl,ht,ha,hb,hG,l1,l2,hTb,k1⟩:=h
 refine⟨_,(Zd (Zn (i:=3) ZbG.nd rfl (Or.inl rfl) (Zj Zcj (hr.mono (by decide)) rfl Zas (Za (pv 0) Zc)))
   (Zd (Zn (i:=4) ZbG.nd rfl (Or.inr rfl) (Zj Z7 (hr.mono (by decide)) rfl Zas (Za (pv 3) (Za (pv 1) Zc))))
   (Zd (Zn (i:=5) ZbG.nd rfl (Or.inl rfl) (Zj Z7 (hr.mono (by decide)) rfl Zas (Za (pv 3) (Za (pv 2) Zc))))
   (Zd (Zn (i:=6) ZbG.nd rfl (Or.inl rfl) (Zj Zkc (hr.mono (by decide)) rfl ZD (Za (pv 0) (Za (pv 4) Zc))))
   (Zd (Zar (ZaU PassesOwn.never rfl (Zl5 (K:=K) rfl rfl T.b_enumerate (Za (pv 6) Zc)) (ZgE (n:=2) rfl (ZI (Zk (i:=7) ZbG.nd rfl (Or.inl rfl)) (ZI (Zk (i:=8) ZbG.nd rfl (Or.inr rfl)) ZbL))) (Zg (Z8 (Zs ZcH (pv 8) (Zv Zq (pv 5) (pv 7) (λ_ _=>rfl)) (Zr _)) (Zd (Zak (i:=9) ["a","height","floors"] [none,some 8,some 4] ZbG.nd rfl (Or.inl rfl) rfl rfl rfl (Zdq (Zp (ZuV (K:=K) rfl) (Z1 (Za (pv 7) Zc)) (Zj Zad (hr.mono (by decide)) rfl ZD (Za (pv 0) (Za (pv 7) Zc))))) (λ_ _ _ _ _=>(Zk (i:=0) (show(["a","height","floors"]:List Str).Nodup from by decide +kernel) rfl (Or.inl rfl))) (λ_ _ _ _ _=>Zfk (Zs Zdr (Zv (r:=ZpW K) Zq (pv 2) (pv 0) (λ_ _=>rfl)) (pv 1) (Zr _))) (λ_ _ _ _ _=>(pv 0)) Zx)
   (Zg (Zt (Zfi (Za ZhT (Za (Zv Zq (pv 9) Ze (λ_ _=>rfl)) (Za (pv 7) Zc))))))) Zz))))
   (Zg (Zt (Zfi (Za ZhT (Za (Zj Zkb (hr.mono (by decide)) rfl ZD (Za (pv 3) (Za (pv 6) Zc))) Zc)))))))))),?_⟩
 walk_at "rd"
 have eF:(Zl T').length=T'.length:=ZcT T'
 obtain⟨h40,nsT,hT⟩:=id hG
 have eT:=hT.1
 refine⟨t,T',rfl,ht,by omega,λ_ f H1 s1 hf=>⟨f,a,Zl T',ls,rfl,hf,s1.q ha,by omega,by omega,λ_ fo H2 zfo s2 hfo=>⟨f,b,Zl T',gs,rfl,s2 _ _ hf,(s1.trans s2).q hb,by omega,by omega,λ_ ro H3 zro s3 hro=>?_,λz=>absurd (by omega) z⟩,λz=>absurd (by omega) z⟩,λz=>absurd hG z⟩
 have s03:=(s1.trans s2).trans s3
 have hf3:=(s2.trans s3) _ _ hf
 have hfo3:=s3 _ _ hfo
 have ht3:=s03.Zaj ht
 refine⟨t,fo,T',_,rfl,ht3,hfo3,hG,by rw[Zgj];omega,Zcz.same hTb s03,λnd us H4 znd s4 hL hnd=>⟨nd,rfl,_,SqL.of hnd,?_⟩⟩
 have s04:=s03.trans s4
 have hf4:=s4 _ _ hf3
 have hfo4:=s4 _ _ hfo3
 have hro4:=s4 _ _ hro
 obtain⟨hD,hDn⟩:=Zte hG l1 hL
 have eu:=hL.1
 have efl:(hgt (Zl T') ls).length=T'.length:=by rw[Zgj];exact eF
 have erf:(hgt (Zl T') gs).length=T'.length:=by rw[Zgj];exact eF
 refine Zfp (n:=T'.length) (λi σ Hx=>∃v7 v8:Option V,σ=[some (.ref t),some (.ref a),some (.ref b),some (.ref f),some (.ref fo),some (.ref ro),some (.ref nd),v7,v8,none]/\Zf H4 Hx/\∀p,p<i->nth us p<=nth (hgt (Zl T') gs) p) ⟨none,none,rfl,Zf.refl H4,λp hp=>absurd hp (by omega)⟩ (λi σ Hx hi ⟨_,_,_,sx,_⟩=>⟨_,_,SqL.of (sx _ _ hnd),ZdK (by omega)⟩) (fun σ Hx ⟨_,_,_,sx,_⟩=>⟨_,SqL.of (sx _ _ hnd),by rw[Yf];omega⟩) ?_ ?_
 ·rintro i x σ Hx Hx' hi ⟨v7,v8,rfl,sx,hle⟩ ⟨q,x,hq,rfl,rfl,hx⟩
  have ex:=hx _ (SqL.of (sx _ _ hnd))
  rw[ZdK (by omega)]at ex
  cases ex
  replace sx:=sx.ZG (o:=.tup [.int (i:Int),.int (nth us i)]) hq
  have tq:(upd Hx q (.tup [.int (i:Int),.int (nth us i)])) q=some (.tup [.int (i:Int),.int (nth us i)]):=Zb
  generalize upd Hx q (.tup [.int (i:Int),.int (nth us i)])=Hy at sx tq⊢
  walk_at "rd"
  refine⟨_,SqT.of tq,rfl,_,_,rfl,_,_,rfl,rfl,_,_,rfl,SqL.of (sx _ _ hro4),_,Z4 (by omega),_,rfl,_,rfl,ZK (λc=>⟨by decide,λp1 hp1=>?_⟩) λc=>⟨sx,λp hp=>?_⟩⟩
  ·have g1:=(Zf.refl Hy).ZG (o:=.lst [V.int (i:Int)]) hp1
   have h1:=Zb (H:=Hy) (a:=p1) (o:=.lst [V.int (i:Int)])
   generalize upd Hy p1 (.lst [V.int (i:Int)])=Hz at g1 h1⊢
   refine⟨t,T',i,rfl,(g1.Zaj (sx.Zaj (s4.Zaj ht3))),by omega,hi,λw H5 zw s5 hw=>⟨w,rfl,_,SqL.of (s5 _ _ h1),_,SqL.of hw,?_,λp2 hp2=>?_⟩⟩
   ·have:=Zfo T' T'.length (nth T' i)
    rw[Ze8,Yf,Yf]
    exact Yh (show _<=1000 by simp only[Yo,List.length_nil];omega) (by decide)
   have eW:[V.int (i:Int)]++(Ze8 T' i).map V.int=((i::way T' i).map λ(q:Nat)=>(q:Int)).map V.int:=by rw[Zee];rfl
   rw[eW]
   have g2:=(g1.trans s5).ZG (o:=.lst (((i::way T' i).map λ(q:Nat)=>(q:Int)).map V.int)) hp2
   have h2:=Zb (H:=H5) (a:=p2) (o:=.lst (((i::way T' i).map λ(q:Nat)=>(q:Int)).map V.int))
   generalize upd H5 p2 (.lst (((i::way T' i).map λ(q:Nat)=>(q:Int)).map V.int))=H6 at g2 h2⊢
   have hW:∀o∈i::way T' i,o<T'.length:=λo ho=>by
    rcases Yl.mp ho with rfl|ho
    ·exact hi
    ·have:=((Zam hT (by omega)).mp ho).1;omega
   have hWl:(i::way T' i).length<=1000:=by
    have:=Zfo T' T'.length (nth T' i)
    unfold way
    rw[Yo];omega
   obtain⟨⟨o1,ho1,e1⟩,_⟩:=hD.2 i hi
   rw[hDn i hi]at e1
   have hcl:∀o∈i::way T' i,nth (hgt (Zl T') ls) o=nth us i->Zie T' ls gs (o:Int) (i:Int):=λo ho e=>by
    have hoT:=hW o ho
    rw[ZP (by omega)]at e c
    unfold Zie
    simp only[Ja]
    refine⟨by omega,by omega,by omega,by omega,?_,by omega⟩
    rcases Yl.mp ho with rfl|ho
    ·exact .inl rfl
    ·exact .inr (by rw[Zee];exact YB.mpr ⟨o,ho,rfl⟩)
   have ho1':nth (hgt (Zl T') ls) o1=nth us i:=by rw[ZP (by have:=hW o1 ho1;omega)];omega
   generalize hWg:i::way T' i=W at h2 hW hWl hcl ho1⊢
   refine⟨⟨_,SqL.of h2⟩,Zed (n:=W.length) (λj=>decide (nth (hgt (Zl T') ls) (W.getD j 0)=nth us i)) (λj=>V.int ((W.getD j 0:Nat):Int)) (Yr hWl (by decide)) (λj Hz s hj=>⟨_,_,SqL.of (s _ _ h2),Yi (by simpa using hj)⟩) (λHz s=>⟨_,SqL.of (s _ _ h2),by simp⟩) ?_ ?_⟩
   ·rintro j x Hz Hw hj sz ⟨rfl,hx⟩
    have ex:=hx _ (SqL.of (sz _ _ h2))
    have eo:(((W.map λ(q:Nat)=>(q:Int)).map V.int))[j]?=some (V.int ((W.getD j 0:Nat):Int)):=by simp[Ym,hj]
    rw[eo]at ex
    cases ex
    have ho:=hW _ (show W.getD j 0∈W by rw[Ym,Yi hj];exact YH hj)
    walk_at "rd"
    exact⟨_,SqL.of ((g2.trans sz) _ _ (sx _ _ hfo4)),_,Z4 (by omega),rfl,ZK (λh=>CF.take hj (YG (by simpa using h)) rfl sz) (λh=>CF.skip hj (YD (by simpa using h)) sz)⟩
   ·intro lf Hz sz hlf
    have hmem:∃(j2:Nat) (os:List V),(((List.range W.length).filter λj=>decide (nth (hgt (Zl T') ls) (W.getD j 0)=nth us i)).map λj=>V.int ((W.getD j 0:Nat):Int))=V.int ((W.getD j2 0:Nat):Int)::os/\j2<W.length/\nth (hgt (Zl T') ls) (W.getD j2 0)=nth us i/\∀j',j'<j2->nth (hgt (Zl T') ls) (W.getD j' 0)≠nth us i:=by
     obtain⟨j1,hj1,ej1⟩:=YR ho1
     have hin:j1∈(List.range W.length).filter λj=>decide (nth (hgt (Zl T') ls) (W.getD j 0)=nth us i):=YS.mpr ⟨Yu.mpr hj1,by
      rw[Ym,Yi hj1]
      simpa[ej1]using ho1'⟩
     cases hf:(List.range W.length).filter λj=>decide (nth (hgt (Zl T') ls) (W.getD j 0)=nth us i)with
     |nil=>rw[hf]at hin;cases hin
     |cons j2 r =>
      obtain⟨m1,m2,m3⟩:=Zmt hf
      exact⟨j2,_,rfl,m1,Y3 m2,λj' hj'=>of_decide_eq_false (m3 j' hj')⟩
    obtain⟨j2,os,eos,hj2,hoe,hfst⟩:=hmem
    have hoW:W.getD j2 0∈W:=by rw[Ym,Yi hj2];exact YH _
    rw[eos]
    have g3:=(g2.trans sz).ZG (o:=.lst (V.int ((W.getD j2 0:Nat):Int)::os)) hlf
    have eus:nth us i=nth (Zif (Zl T') us) i-nth (Zl T') i:=by rw[hDn i hi];omega
    refine⟨lf,rfl,_,SqL.of Zb,V.int ((W.getD j2 0:Nat):Int),atI_hd,by decide,λcc zc=>k1 cc (.clash ((W.getD j2 0:Nat):Int) (i:Int)) _ (((s04.trans sx).trans g3).ZG zc) Zb ⟨hcl _ hoW hoe,Zif (Zl T') us,i,j2,hD,⟨hi,λp hp=>?_,?_,by rw[hWg];exact hj2,by rw[hWg,<-eus];exact hoe,λj' hj'=>by rw[hWg,<-eus];exact hfst j' hj'⟩,by rw[hWg],rfl⟩⟩
    ·have:=hle p hp
     rw[ZP (by omega)]at this
     rw[hDn p (by omega)];omega
    ·rw[hDn i hi]
     rw[ZP (by omega)]at c
     omega
  ·by_cases z:p<i
   ·exact hle p z
   ·have:p=i:=by omega
    subst this
    omega
 ·rintro σ Hx ⟨v7,v8,rfl,sx,hle⟩
  walk_at "rd"
  refine⟨f,nd,Zl T',us,rfl,sx _ _ hf4,sx _ _ hnd,by omega,by omega,λr H5 s5 hr5=>⟨by decide,λc zc=>?_⟩⟩
  have g6:=(Zf.refl H5).upd (o:=.tup [V.str (Str.ofString "row"),V.ref r]) zc
  refine k1 c (.row (Zif (Zl T') us)) _ (((s04.trans sx).trans s5).trans g6) ⟨by rw[ZnF];omega,r,Zb,g6 _ _ hr5⟩ ⟨hD,λp hp=>?_⟩
  have:=hle p hp
  rw[ZP (by omega)]at this
  rw[hDn p hp]
  omega
theorem ZiK {H H':Hp}{u:Addr}{d:Td} (h:ZgS H u d) (e:Zf H H'):ZgS H' u d:=by
 cases d with
 |row ns=>obtain⟨a,r,b,c⟩:=h;exact⟨a,r,e _ _ b,e _ _ c⟩
 |clash a b=>exact e _ _ h
theorem fit_so {T ls gs:List Int}{d:Td} (h:Znu T ls gs d):soT T ls gs d:=by
 cases d with
 |row ds=>exact⟨ds,h.1,rfl,h.2⟩
 |clash a b=>exact h.1
theorem Zvi {ns T ls gs ds:List Int}{m:Nat} (hT:Zi ns T) (hG:Zae T) (l1:ls.length=T.length) (l2:gs.length=T.length) (hls:∀q∈ls,0<=q) (hgs:∀q∈gs,q<(m:Int)) (h:Znu T ls gs (.row ds)):∃j,∃h:j<(ZE T m).length,Za4 (ZE T m)[j]=ds/\InB ls gs ds/\∀j' (h':j'<(ZE T m).length),j'<j->¬ InB ls gs (Za4 (ZE T m)[j']):=by
 obtain⟨hD,hle⟩:=h
 have h40:=hG.1
 have ht:=Ztf hG hD
 have el:ds.length=T.length:=hD.1
 have lo:∀p,p<T.length->nth ls p<=nth ds p:=λp hp=>by
  have:=(hD.2 p hp).2 p YI
  omega
 have b0:∀p,p<T.length->0<=nth ds p/\nth ds p<(m:Int):=λp hp=>by
  have h1:=hls _ (Zdv (show p<ls.length by omega))
  have h2:=hgs _ (Zdv (show p<gs.length by omega))
  have h3:=lo p hp
  have h4:=hle p hp
  omega
 have hin:InB ls gs ds:=λp hp=>⟨lo p (by omega),hle p (by omega)⟩
 have er:Za4 (ds.map Int.toNat)=ds:=by
  unfold Za4
  rw[YV]
  refine List.ext_getElem (by simp) λi i1 i2=>?_
  have:=(b0 i (by omega)).1
  simp only[List.getElem_map,Function.comp_apply]
  have e:nth ds i=ds[i]:=by simp[nth,Ym,i2]
  omega
 have hR:Zfw T m (ds.map Int.toNat):=ZiG (by rw[er];exact ht) λi hi=>by
  obtain⟨v,hv,rfl⟩:=YB.mp hi
  obtain⟨k,hk,rfl⟩:=YR hv
  have:=b0 k (by omega)
  have e:nth ds k=ds[k]:=by simp[nth,Ym,hk]
  omega
 obtain⟨j,hj,ej⟩:=YR ((ZaA hT h40).mpr hR)
 refine⟨j,hj,by rw[ej];exact er,hin,λj' h' hlt hI=>?_⟩
 have hS:=(ZaA hT h40).mp (YH h')
 have r1:=ZhC hT h40 j hj
 have r2:=ZhC hT h40 j' h'
 rw[ej]at r1
 generalize (ZE T m)[j']=s at hI hS r2
 have sl:(Za4 s).length=T.length:=by unfold Za4;rw[Yf];exact hS.1
 have hd:=ZlI hD (Zj0 hT h40 hS) λp hp=>(hI p (by omega)).1
 by_cases e:∀i,i<T.length->fnR (ds.map Int.toNat) i=fnR s i
 ·have hk:rk T m (ds.map Int.toNat)=rk T m s:=by
   have:ds.map Int.toNat=s:=by
    refine List.ext_getElem (by rw[Yf,el,hS.1]) λi i1 i2=>?_
    have i3:i<ds.length:=by simpa using i1
    have:=e i (by omega)
    unfold fnR at this
    simpa[Ym,i3,i2]using this
   rw[this]
  omega
 ·obtain⟨d,h1,h2,h3⟩:=Zlr T.length e
  have hlt2:fnR (ds.map Int.toNat) d<fnR s d:=by
   have h5:=hd d h1
   rw[<-er,ZbY (by rw[Yf];omega),ZbY (by rw[hS.1];exact h1)]at h5
   omega
  have:=Zjp hT (ZcJ hT m) (g:=fnR s) hR.2 d h1 h3 hlt2
  have e1:rk T m (ds.map Int.toNat)=rkF T (cF T m T.length) (fnR (ds.map Int.toNat)) T.length:=rfl
  have e2:rk T m s=rkF T (cF T m T.length) (fnR s) T.length:=rfl
  omega
theorem Ztg {ns T ls gs:List Int}{a b:Int}{m:Nat} (hT:Zi ns T) (h40:T.length<=40) (h:Znu T ls gs (.clash a b)):∀j (hj:j<(ZE T m).length),¬ InB ls gs (Za4 (ZE T m)[j]):=λj hj hI=>by
 obtain⟨_,ds,i,k,hD,hF,_⟩:=h
 have hS:=(ZaA hT h40).mp (YH hj)
 generalize (ZE T m)[j]=s at hI hS
 have sl:(Za4 s).length=T.length:=by unfold Za4;rw[Yf];exact hS.1
 have hd:=ZlI hD (Zj0 hT h40 hS) (λp hp=>(hI p (by omega)).1) i hF.1
 exact hF.2.2.1 (by have:=(hI i (by have:=hF.1;omega)).2;omega)
theorem head_filter {N j:Nat}{P:Nat->Bool} (hj:j<N) (h1:P j=true) (h2:∀j',j'<j->P j'=false):∃r,(List.range N).filter P=j::r:=by
 have hs:((List.range N).filter P).Pairwise (· < ·):=List.Pairwise.filter _ List.pairwise_lt_range
 have hm:j∈(List.range N).filter P:=YS.mpr ⟨Yu.mpr hj,h1⟩
 cases hg:(List.range N).filter P with
 |nil=>rw[hg]at hm;cases hm
 |cons a r =>
  rw[hg]at hs hm
  have ha:a∈(List.range N).filter P:=by rw[hg];simp
  have h3:=(YS.mp ha).2
  refine⟨r,?_⟩
  rcases Yl.mp hm with z|z
  ·rw[z]
  ·have:=(Y1.mp hs).1 _ z
   rw[h2 a this]at h3;cases h3
theorem Zer {H H':Hp}{t p:Addr}{ys:List V} (h:ZbR H t ys) (P:ZQ H p) (e:Exc p H H'):ZbR H' t ys:=by
 obtain⟨ob,d,o⟩:=h
 obtain⟨x,hx,_⟩:=P
 exact⟨ob,d,e _ _ (λz=>by rw[z,hx]at o;cases o) o⟩
theorem ZnJ {H H':Hp}{l p:Addr}{T:List Int}{m:Nat} (h:ZbZ H l T m) (n:l≠p) (P:ZQ H p) (e:Exc p H H'):ZbZ H' l T m:=by
 obtain⟨x,hx,_⟩:=P
 obtain⟨as,h1,h2,h3⟩:=h
 exact⟨as,e _ _ n h1,h2,λj a b=>e _ _ (λz=>by have:=h3 j a b;rw[z,hx]at this;cases this) (h3 j a b)⟩
theorem ZnK {xs:List V}{lo hi:Option Int}{v:V} (h:v∈Zai xs lo hi):v∈xs:=List.mem_of_mem_drop (List.mem_of_mem_take h)
theorem Zj9 {f:Addr}{fd:FuncData} (F:Fun K "_law_within" "_law_within" ZaS f fd) (T:Txt K mg):FnOk P w K mg base (CXE P w) 1 f fd ["row","least","most"] (Zc9 K mg):=by
 refine F.okX Zj4 (λvs H Q E h=>?_) (λcdv A outer s H vs Q E hr h=>?_)
 ·obtain⟨_,_,_,_,_,_,rfl,_⟩:=h;rfl
 obtain⟨r,a,b,ns,ls,gs,rfl,hr1,ha,hb,l1,l2,hn,k1⟩:=h
 refine⟨_,(Zg (Zt (Zm (Zsd (K:=K) rfl rfl) rfl T.b_all bt_all (Za (Zec ["small","one","great"] [none,none,none] rfl rfl rfl (ZsV (K:=K) rfl rfl T.b_zip (Za (pv 1) (Za (pv 0) (Za (pv 2) Zc)))) (λ_ _ _ _ _=>(Zje (K:=K) (n:=3) rfl rfl (ZI (Zk (i:=0) (show(["small","one","great"]:List Str).Nodup from by decide +kernel) rfl (Or.inl rfl)) (ZI (Zk (i:=1) (show(["small","one","great"]:List Str).Nodup from by decide +kernel) rfl (Or.inl rfl)) (ZI (Zk (i:=2) (show(["small","one","great"]:List Str).Nodup from by decide +kernel) rfl (Or.inl rfl)) ZbL))))) (λ_ _ _ _ _=>Zab) (λ_ _ _ _ _=>(Zjz Zgp Zgp (pv 0) (pv 1) (pv 2))) (Zhi (Za7 Zx (Za7 Zx (Za7 Zx Zhh))))) Zc)))),?_⟩
 walk_at "rd"
 obtain⟨t1,ha⟩:=SqB.of ha
 obtain⟨t3,hb⟩:=SqB.of hb
 have hr2:SqB K true H r (ns.map V.int):=SqT.of hr1
 have get:∀{xs:List Int}{p:Nat},p<xs.length->(xs.map V.int)[p]?=some (V.int (nth xs p)):=λ{xs p} h=>by
  rw[YF,Yi h]
  simp[nth,Ym,h]
 refine⟨t1,true,t3,_,ha,_,hr2,_,hb,?_⟩
 refine L2.comp_map (n:=ns.length) (λp=>V.bl (decide (nth ls p<=nth ns p/\nth ns p<=nth gs p))) (Yr (show _<=1000 by omega) (by decide)) (λp Hx s hp=>⟨_,_,_,_,_,_,s.ZdJ ha,s.ZdJ hr2,s.ZdJ hb,get (by omega),get hp,get (by omega)⟩) (λHx s=>⟨_,_,_,s.ZdJ ha,s.ZdJ hr2,s.ZdJ hb,.inr (.inl (by simp))⟩) ?_ ?_
 ·rintro p x Hy Hz hp s ⟨q,y1,y2,y3,zq,rfl,rfl,g1,g2,g3⟩
  have h1:=(g1 _ (s.ZdJ ha)).symm.trans (get (by omega))
  have h2:=(g2 _ (s.ZdJ hr2)).symm.trans (get hp)
  have h3:=(g3 _ (s.ZdJ hb)).symm.trans (get (by omega))
  cases h1;cases h2;cases h3
  have tq:upd Hy q (.tup [V.int (nth ls p),V.int (nth ns p),V.int (nth gs p)]) q=some (.tup [V.int (nth ls p),V.int (nth ns p),V.int (nth gs p)]):=Zb
  have g:=s.ZG (o:=.tup [V.int (nth ls p),V.int (nth ns p),V.int (nth gs p)]) zq
  walk_at "rd"
  refine⟨_,SqT.of tq,rfl,_,_,rfl,_,_,rfl,_,_,rfl,rfl,_,rfl,_,rfl,ZK (λz=>⟨_,rfl,_,rfl,L2.CW.next hp (congrArg V.bl (decide_eq_decide.mpr ⟨λy=>⟨z,y⟩,λy=>y.2⟩)) g⟩) λz=>L2.CW.next hp (congrArg V.bl (YD λy=>z y.1).symm) g⟩
 ·intro l Hy s zl
  refine⟨l,rfl,(List.range ns.length).map λp=>decide (nth ls p<=nth ns p/\nth ns p<=nth gs p),SqL.of (by rw[Zb,YV];rfl),?_⟩
  have e:((List.range ns.length).map λp=>decide (nth ls p<=nth ns p/\nth ns p<=nth gs p)).all id=decide (InB ls gs ns):=by
   rw[Bool.eq_iff_iff,List.all_eq_true,decide_eq_true_iff]
   exact⟨λh p hp=>Y3 (h _ (YB.mpr ⟨p,Yu.mpr hp,rfl⟩)),λh b hb=>by
    obtain⟨p,hp,rfl⟩:=YB.mp hb
    exact YG (h p (Yu.mp hp))⟩
  rw[e]
  exact k1 _ (s.ZG zl)
theorem ZkZ {f:Addr}{fd:FuncData} (F:Fun K "_law_right" "_law_right" Zbd f fd) (Zkd:Callee P w K mg base "fitted" 7 ["tree","least","greatest"] (Zii K mg)) (Zdc:Callee P w K mg base "fitted_right" 6 ["tree","least","greatest","told"] (ZcG K mg)) (ZdS:Callee P w K mg base "_law_within" 1 ["row","least","most"] (Zc9 K mg)) (T:Txt K mg):FnOk P w K mg base (CXE P w) 8 f fd ["tree","rows","least","most"] (ZdM K mg):=by
 refine F.okX ZdO (λvs H Q E h=>?_) (λcdv A outer s H vs Q E hr h=>?_)
 ·obtain⟨_,_,_,_,_,_,_,_,rfl,_⟩:=h;rfl
 obtain⟨t,l,a,b,T2,ls,gs,m,rfl,ht,hG,h12,hm,h30,hRA,ha,hb,l1,l2,hls,hgs,hTb,k1⟩:=h
 refine⟨_,(Zd (Zn (i:=4) ZdO.nd rfl (Or.inl rfl) (Zj Zkd (hr.mono (by decide)) rfl Zas (Za (pv 0) (Za (pv 2) (Za (pv 3) Zc)))))
   (Zd (Z8 (Zs ZuP (Zj Zdc (hr.mono (by decide)) rfl Zas (Za (pv 0) (Za (pv 2) (Za (pv 3) (Za (pv 4) Zc))))) Zfb (Zr _)) (Zg (Zt Zfb)) Zz)
   (Zd (Zak (i:=5) ["row","least","most"] [none,some 2,some 3] ZdO.nd rfl (Or.inl rfl) rfl rfl rfl (Zdq (pv 1)) (λ_ _ _ _ _=>(Zk (i:=0) (show(["row","least","most"]:List Str).Nodup from by decide +kernel) rfl (Or.inl rfl))) (λ_ _ _ _ _=>Zfk (ZgB (Zj ZdS (hr.mono (by decide)) rfl ZD (Za (pv 0) (Za (pv 1) (Za (pv 2) Zc)))))) (λ_ _ _ _ _=>(pv 0)) Zx)
   (Zd (Z8 (Zs (ZgI (K:=K) rfl hr) (pv 5) (Z1 Zc) (Zr _)) (Zg (Zt (Zbk Zdr (Zv Zbi (pv 4) Ze (λ_ _=>rfl)) ZhT (Zr _)))) Zz)
   (Zg (Zt (ZgD (Zbk Zdr (Zv Zbi (pv 4) Ze (λ_ _=>rfl)) ZhT (Zr _)) (ZgC (Zbk (ZgI (K:=K) rfl hr) (ZaP (Zea (K:=K) rfl) rfl T.b_tuple Zcx (Za (Zv Zbi (pv 4) Ze (λ_ _=>rfl)) Zc)) (Zv Zq (pv 5) Ze (λ_ _=>rfl)) (Zr _)))))))))),?_⟩
 obtain⟨h40,nsT,hT⟩:=id hG
 obtain⟨as,la,lb,lc⟩:=id hRA
 refine Zag (fun σ Hx=>∃(c:Addr) (d:Td),σ=[some (.ref t),some (.ref l),some (.ref a),some (.ref b),some (.ref c),none]/\ZgS Hx c d/\Znu T2 ls gs d/\Zf H Hx) (λR hR=>?_) ?_
 ·walk_at "rd"
  exact⟨t,a,b,T2,ls,gs,rfl,ht.sq,.inl ha,hb,hG,l1,l2,hTb,λc d H1 s1 hd hf=>hR _ _ ⟨c,d,rfl,hd,hf,s1⟩⟩
 rintro σ H1 ⟨c,d,rfl,hd,hf,s1⟩
 refine Zag (fun σ Hx=>σ=[some (.ref t),some (.ref l),some (.ref a),some (.ref b),some (.ref c),none]/\ZgS Hx c d/\Zf H Hx) (λR hR=>?_) ?_
 ·walk_at "rd"
  refine⟨t,a,b,c,T2,ls,gs,d,rfl,(ht.same s1).sq,.inl (s1.seq ha),hb.imp s1.seq s1.Zaj,hG,l1,l2,hd,λH2 s2=>⟨_,rfl,ZK (λz=>?_) λz=>hR _ _ ⟨rfl,ZiK hd s2,s1.trans s2⟩⟩⟩
  exact absurd ((Zta hG l1 l2 d).mpr (fit_so hf)) (by simpa using z)
 clear hd s1 H1
 rintro σ H1 ⟨rfl,hd,s1⟩
 refine Zag (fun σ Hx=>∃u,σ=[some (.ref t),some (.ref l),some (.ref a),some (.ref b),some (.ref c),some (.ref u)]/\Hx u=some (.lst (((List.range as.length).filter λj=>decide (InB ls gs (Za4 ((ZE T2 m).getD j [])))).map λj=>V.ref (as.getD j 0)))/\ZgS Hx c d/\Zf H Hx) (λR hR=>?_) ?_
 ·walk_at "rd"
  refine⟨⟨_,SqL.of (s1 _ _ la)⟩,Zed (n:=as.length) (λj=>decide (InB ls gs (Za4 ((ZE T2 m).getD j [])))) (λj=>V.ref (as.getD j 0)) (Yr (show _<=1000 by have:=Znt hT h40 m;omega) (by decide)) (λj Hy s hj=>⟨_,_,SqL.of (s _ _ (s1 _ _ la)),Yi (by rw[Yf];exact hj)⟩) (λHy s=>⟨_,SqL.of (s _ _ (s1 _ _ la)),by rw[Yf];exact Yd _⟩) ?_ ?_⟩
  ·rintro j x Hy Hz hj s ⟨rfl,hx⟩
   have hx:=hx _ (SqL.of (s _ _ (s1 _ _ la)))
   rw[YF,Yi hj]at hx
   cases hx
   have hj2:j<(ZE T2 m).length:=by omega
   have hS:=(ZaA hT h40).mp (YH hj2)
   have eg:(ZE T2 m).getD j []=(ZE T2 m)[j]:=by simp[hj2]
   have ea:V.ref as[j]=V.ref (as.getD j 0):=by simp[hj]
   have ss:=s1.trans s
   have hrow:=ss _ _ (lc j hj hj2)
   rw[ZjZ]at hrow
   have el:(Za4 (ZE T2 m)[j]).length=T2.length:=by unfold Za4;rw[Yf];exact hS.1
   walk_at "rd"
   refine⟨as[j],a,b,Za4 (ZE T2 m)[j],ls,gs,rfl,hrow,.inl (ss.seq ha),hb.imp ss.seq ss.Zaj,by omega,by omega,by omega,λH3 s3=>⟨_,rfl,ZK (λz=>CF.take hj (by rw[eg];exact YG (Y3 z)) ea (s.trans s3)) λz=>CF.skip hj (by rw[eg];exact YD λy=>z (YG y)) (s.trans s3)⟩⟩
  ·intro u Hy s zu
   have g:=s.ZG (o:=.lst (((List.range as.length).filter λj=>decide (InB ls gs (Za4 ((ZE T2 m).getD j [])))).map λj=>V.ref (as.getD j 0))) zu
   exact hR _ _ ⟨u,rfl,Zb,ZiK hd g,s1.trans g⟩
 clear hd s1 H1
 rintro σ H1 ⟨u,rfl,hu,hd,s1⟩
 walk_at "rd"
 cases d with
 |clash x y =>
  have hc:H1 c=some (.tup [.str (Str.ofString "clash"),.int x,.int y]):=hd
  have hS:(List.range as.length).filter (λj=>decide (InB ls gs (Za4 ((ZE T2 m).getD j []))))=[]:=List.filter_eq_nil_iff.mpr λj hj=>by
   have hj2:j<(ZE T2 m).length:=by have:=Yu.mp hj;omega
   rw[show(ZE T2 m).getD j []=(ZE T2 m)[j] by simp[hj2]]
   simpa using Ztg hT h40 hf j hj2
  rw[hS]at hu
  refine⟨by decide,λp hp=>?_⟩
  have g:=(Zf.refl H1).upd (o:=.lst []) hp
  refine⟨_,Zlt (n:=2) (g _ _ hu) Zb,ZK (λ_=>⟨_,SqT.of (g _ _ hc),_,(show atI _ ((0:Nat):Int)=_ from ZaE rfl),rfl,?_⟩) λz=>absurd rfl z⟩
  rw[YG rfl]
  exact k1 _ (s1.trans g)
 |row ds =>
  obtain⟨j,hj,ej,hin,hmin⟩:=Zvi hT hG l1 l2 hls hgs hf
  obtain⟨_,rr,hc,hr⟩:=hd
  have hja:j<as.length:=by omega
  have eg:∀i,i<(ZE T2 m).length->(ZE T2 m).getD i []=(ZE T2 m).getD i []:=λi hi=>rfl
  obtain⟨rest,hS⟩:=head_filter (N:=as.length) (P:=λj=>decide (InB ls gs (Za4 ((ZE T2 m).getD j [])))) hja (by
   show decide _=true
   rw[show(ZE T2 m).getD j []=(ZE T2 m)[j] by simp[hj],ej]
   exact YG hin) λj' h'=>by
   have hj2:j'<(ZE T2 m).length:=by omega
   show decide _=false
   rw[show(ZE T2 m).getD j' []=(ZE T2 m)[j'] by simp[hj2]]
   exact YD (hmin j' hj2 h')
  rw[hS]at hu
  refine⟨by decide,λp hp=>?_⟩
  have g:=(Zf.refl H1).upd (o:=.lst []) hp
  have haj:=(s1.trans g) _ _ (lc j hja hj)
  rw[ZjZ,ej]at haj
  have ea:as.getD j 0=as[j]:=by simp[hja]
  refine⟨_,Zlt (n:=2) (g _ _ hu) Zb,ZK (λz=>absurd z (by simp)) λ_=>⟨_,SqT.of (g _ _ hc),_,(show atI _ ((0:Nat):Int)=_ from ZaE rfl),rfl,ZK (λ_=>⟨_,SqT.of (g _ _ hc),_,(show atI _ ((1:Nat):Int)=_ from ZaE rfl),rr,rfl,_,.inr ⟨SqT.of (g _ _ hr),_,SqL.of (g _ _ hu),_,(show atI _ ((0:Nat):Int)=_ from ZaE rfl),as.getD j 0,rfl,_,Zl2 (n:=2) (K:=K) Zjg (V.ref rr) (V.ref (as.getD j 0)) ds ds (Zeb (SqT.of (g _ _ hr))) (Zeb (SqT.of (by rw[ea];exact haj))),?_⟩⟩) λz=>absurd rfl z⟩⟩
  rw[YG rfl]
  exact k1 _ (s1.trans g)
theorem ok_law {f:Addr}{fd:FuncData} (F:Fun K "law" "law" Zhx f fd) (ZfC:Callee P w K mg base "many_rows" 9 ["tree","m"] (ZeH K mg)) (Zke:Callee P w K mg base "row_at" 44 ["tree","m","number"] (Zid K mg)) (ZfD:Callee P w K mg base "_law_deal" 1 ["cell"] (ZeF K mg)) (ZM:Callee P w K mg base "_law_take" 1 ["pot","many"] (ZbS K mg)) (ZgX:Callee P w K mg base "_law_row" 3 ["pot","most"] (Zft K mg)) (ZfE:Callee P w K mg base "_law_tree" 1 ["row"] (ZeM K mg)) (Zdd:Callee P w K mg base "_law_least_m" 16 ["tree"] (ZcF K mg)) (Zb1:Callee P w K mg base "_law_right" 8 ["tree","rows","least","most"] (ZdM K mg)) (T:Txt K mg):FnOk P w K mg base (CXE P w) 45 f fd ["script"] (ZpF K mg):=by
 refine F.okX Zb0 (λvs H Q E h=>?_) (λcdv A outer s H vs Q E hr h=>?_)
 ·obtain⟨a,ns,rfl,_⟩:=h;rfl
 obtain⟨sc,ss,rfl,hsc,hss,hTb,k1⟩:=h
 have tb0:Zcz K mg "from_below" H:=hTb (Zl7 K mg "from_below",lamQ "from_below") (by unfold Zhy;simp)
 refine⟨_,(Zd (Zar (ZaU PassesOwn.never rfl (Zdq (Zp ZhX (ZcZ Zga (pv 0) Zet (Zeu Ze)) (Z1 (Za Ze Zc)))) (Zk (i:=1) Zb0.nd rfl (Or.inl rfl)) (Zd (Zn (i:=2) Zb0.nd rfl (Or.inr rfl) (Zj ZfD (hr.mono (by decide)) rfl ZD (Za (pv 1) Zc)))
   (Zd (Zn (i:=3) Zb0.nd rfl (Or.inr rfl) (Zj ZfE (hr.mono (by decide)) rfl ZD (Za (Zj ZgX (hr.mono (by decide)) rfl ZD (Za (pv 2) (Za Ze Zc))) Zc)))
   (Zd (Zn (i:=4) Zb0.nd rfl (Or.inr rfl) (Zj Zdd (hr.mono (by decide)) rfl ZD (Za (pv 3) Zc)))
   (Zd (Zak (i:=5) ["number","tree","m"] [none,some 3,some 4] Zb0.nd rfl (Or.inl rfl) rfl rfl rfl (ZaO rfl T.b_range (Za (Zj ZfC (hr.mono (by decide)) rfl ZD (Za (pv 3) (Za (pv 4) Zc))) Zc)) (λ_ _ _ _ _=>(Zk (i:=0) (show(["number","tree","m"]:List Str).Nodup from by decide +kernel) rfl (Or.inl rfl))) (λ_ _ _ _ _=>Zab) (λ_ _ _ _ _=>(Zj Zke (hr.mono (by decide)) rfl ZD (Za (pv 1) (Za (pv 2) (Za (pv 0) Zc))))) Zx)
   (Zd (Zar (ZaU PassesOwn.never rfl (ZaO rfl T.b_range (Za Ze Zc)) (Zk (i:=6) Zb0.nd rfl (Or.inl rfl)) (Zd (Zak (i:=7) ["place","pot","m"] [none,some 2,some 4] Zb0.nd rfl (Or.inl rfl) rfl rfl rfl (ZhV (pv 3)) (λ_ _ _ _ _=>(Zk (i:=0) (show(["place","pot","m"]:List Str).Nodup from by decide +kernel) rfl (Or.inl rfl))) (λ_ _ _ _ _=>Zab) (λ_ _ _ _ _=>(Zj ZM (hr.mono (by decide)) rfl ZD (Za (pv 1) (Za (Zm (Zd8 rfl) rfl T.b_max ZhZ (Za Ze (Za (pv 2) Zc))) Zc)))) Zx)
   (Zd (Zak (i:=8) ["place","pot","m"] [none,some 2,some 4] Zb0.nd rfl (Or.inl rfl) rfl rfl rfl (ZhV (pv 3)) (λ_ _ _ _ _=>(Zk (i:=0) (show(["place","pot","m"]:List Str).Nodup from by decide +kernel) rfl (Or.inl rfl))) (λ_ _ _ _ _=>Zab) (λ_ _ _ _ _=>(Zj ZM (hr.mono (by decide)) rfl ZD (Za (pv 1) (Za (Zm (Zd8 rfl) rfl T.b_max ZhZ (Za Ze (Za (pv 2) Zc))) Zc)))) Zx)
   (Zd (Z8 (Zs ZcH (pv 6) Ze (Zr _)) (Zg (Zak (i:=8) ["pair"] [none] Zb0.nd rfl (Or.inl rfl) rfl rfl rfl (Zu3 (K:=K) rfl rfl T.b_zip (Za (pv 7) (Za (pv 8) Zc))) (λ_ _ _ _ _=>(Zk (i:=0) (show(["pair"]:List Str).Nodup from by decide +kernel) rfl (Or.inl rfl))) (λ_ _ _ _ _=>Zab) (λ_ _ _ _ _=>(Zm (ZoL (K:=K) rfl rfl) rfl T.b_max ZhZ (Za (pv 0) Zc))) Zx)) Zz)
   (Zd (Z8 (Zs Zdr (pv 6) Ze (Zr _)) (Zg (Zak (i:=8) ["place","m"] [none,some 4] Zb0.nd rfl (Or.inl rfl) rfl rfl rfl (ZhV (pv 3)) (λ_ _ _ _ _=>(Zk (i:=0) (show(["place","m"]:List Str).Nodup from by decide +kernel) rfl (Or.inl rfl))) (λ_ _ _ _ _=>Zab) (λ_ _ _ _ _=>(Zm (Zd8 rfl) rfl T.b_max ZhZ (Za Ze (Za (Zp ZcY (pv 1) Ze) Zc)))) Zx)) Zz)
   (Zg (Z8 (PW.pt (ZhU (Zs ZcH (pv 4) Ze (Zr _)) (Zf8 (Zfc (ZgB (Zj Zb1 (hr.mono (by decide)) rfl ZD (Za (pv 3) (Za (pv 5) (Za (pv 7) (Za (pv 8) Zc)))))))))) (Zg (Zt Zfb)) Zz))))))))
   (Zd (Zar (ZaU PassesOwn.never rfl (Zdq (Zp ZhX (ZcZ Zga (pv 5) Zet (Zeu Ze)) (ZcZ Zga (pv 5) (Zeu (Ze6 ZcB Ze)) Zet))) (Zk (i:=9) Zb0.nd rfl (Or.inl rfl)) (Zg (Z8 (Zfc (ZgB (Zj Zb1 (hr.mono (by decide)) rfl ZD (Za (pv 3) (Za (pv 5) (Za (ZaP (ZjH (K:=K) rfl) rfl T.b_list Zpo (Za (pv 9) Zc)) (Za (pv 9) Zc))))))) (Zg (Zt Zfb)) Zz))))
   (Zd (Zak (i:=7) ["place"] [none] Zb0.nd rfl (Or.inl rfl) rfl rfl rfl (ZhV (pv 3)) (λ_ _ _ _ _=>(Zk (i:=0) (show(["place"]:List Str).Nodup from by decide +kernel) rfl (Or.inl rfl))) (λ_ _ _ _ _=>Zab) (λ_ _ _ _ _=>Ze) Zx)
   (Zd (Zak (i:=8) ["place","m"] [none,some 4] Zb0.nd rfl (Or.inl rfl) rfl rfl rfl (ZhV (pv 3)) (λ_ _ _ _ _=>(Zk (i:=0) (show(["place","m"]:List Str).Nodup from by decide +kernel) rfl (Or.inl rfl))) (λ_ _ _ _ _=>Zab) (λ_ _ _ _ _=>(Zp ZcY (pv 1) Ze)) Zx)
   (Zg (Z8 (PW.pt (ZhU (Zs ZcH (pv 4) Ze (Zr _)) (Zf8 (Zfc (ZgB (Zj Zb1 (hr.mono (by decide)) rfl ZD (Za (pv 3) (Za (pv 5) (Za (pv 7) (Za (pv 8) Zc)))))))))) (Zg (Zt Zfb)) Zz))))))))))))
   (Zg (Zt Zfb))),?_⟩
 walk_at "rd"
 have e8:Zai (ss.map V.int) none (some 3)++[V.int 0]=(ss.take 3++[0]).map V.int:=by
  have:=Zsk (ss.map V.int) 3
  rw[show((3:Nat):Int)=3 from rfl]at this
  rw[this];simp
 have l8:(Zai (ss.map V.int) none (some 3)).length<=63:=Yh (Zbt _ _ _) (by rw[Yf];omega)
 refine⟨_,hsc,λq1 h1=>⟨by decide,λq2 h2=>⟨_,((Zf.refl _).ZG h2) _ _ Zb,_,Zb,Yh (show _<=100 by simp only[Yo,List.length_nil];omega) (by decide),λq3 h3=>⟨⟨_,SqL.of Zb⟩,?_⟩⟩⟩⟩
 have hl0:(upd (upd (upd H q1 (.lst (Zai (ss.map V.int) none (some 3)))) q2 (.lst [V.int 0])) q3 (.lst (Zai (ss.map V.int) none (some 3)++[V.int 0]))) q3=some (.lst ((ss.take 3++[0]).map V.int)):=by rw[Zb,e8]
 have tb1:Zcz K mg "from_below" (upd (upd (upd H q1 (.lst (Zai (ss.map V.int) none (some 3)))) q2 (.lst [V.int 0])) q3 (.lst (Zai (ss.map V.int) none (some 3)++[V.int 0]))):=Zcz.same tb0 ((((Zf.refl H).upd h1).ZG h2).ZG h3)
 generalize upd (upd (upd H q1 (.lst (Zai (ss.map V.int) none (some 3)))) q2 (.lst [V.int 0])) q3 (.lst (Zai (ss.map V.int) none (some 3)++[V.int 0]))=H0 at hl0 tb1⊢
 refine Zjx (K:=K) (a:=q3) (xs:=(ss.take 3++[0]).map V.int) (λi σ H'=>∃v1 v2 v3 v4 v5 v6 v7 v8 v9,σ=[some (.ref sc),v1,v2,v3,v4,v5,v6,v7,v8,v9]/\Zf H0 H') ⟨_,_,_,_,_,_,_,_,_,rfl,Zf.refl H0⟩ (λi σ H' _ ⟨_,_,_,_,_,_,_,_,_,_,s⟩=>SqL.of (s _ _ hl0)) ?_ ?_
 ·rintro i x σ H' hi ⟨v1,v2,v3,v4,v5,v6,v7,v8,v9,rfl,hs⟩
  obtain⟨cell,rfl⟩:∃c:Int,x=V.int c:=by
   have:=List.mem_of_getElem? hi
   obtain⟨c,_,rfl⟩:=YB.mp this
   exact⟨c,rfl⟩
  refine Zag (fun σ Hx=>∃p,σ=[some (.ref sc),some (.int cell),some (.ref p),v3,v4,v5,v6,v7,v8,v9]/\H0 p=none/\ZQ Hx p/\Zf H0 Hx) (λR hR=>?_) ?_
  ·walk_at "rd"
   exact⟨cell,rfl,λp H1 hp s1 P1=>hR _ _ ⟨p,rfl,hs.free hp,P1,hs.trans s1⟩⟩
  rintro σ H1 ⟨p,rfl,zp,P1,s1⟩
  refine Zag (fun σ Hx=>∃(t:Addr) (ns T:List Int),σ=[some (.ref sc),some (.int cell),some (.ref p),some (.ref t),v4,v5,v6,v7,v8,v9]/\ns.length<=7/\Zi ns T/\ZbR Hx t (T.map V.int)/\ZQ Hx p/\Zf H0 Hx) (λR hR=>?_) ?_
  ·walk_at "rd"
   exact⟨p,_,rfl,by decide,by decide,P1,λr row H3 hr3 hl hrow P3 e3=>⟨r,row,rfl,.inl (SqL.of hrow),by omega,λt es H4 zt hT s4 ht=>hR _ _ ⟨t,row,es,rfl,by omega,hT,ht,P3.same s4,(s1.exc zp e3).trans s4⟩⟩⟩
  clear P1 s1 H1
  rintro σ H1 ⟨t,ns,T',rfl,hn,hT,ht,P1,s1⟩
  have eN:=hT.1
  have hG:=ZqW hT (by omega)
  have h40:T'.length<=40:=by omega
  refine Zag (fun σ Hx=>∃m:Nat,σ=[some (.ref sc),some (.int cell),some (.ref p),some (.ref t),some (.int (m:Int)),v5,v6,v7,v8,v9]/\m<=12/\ZbX T' m<=30/\ZbR Hx t (T'.map V.int)/\ZQ Hx p/\Zf H0 Hx) (λR hR=>?_) ?_
  ·walk_at "rd"
   exact⟨t,T',rfl,ht,hG,by omega,λm H2 hm h30 s2=>hR _ _ ⟨m,rfl,hm,h30,ht.same s2,P1.same s2,s1.trans s2⟩⟩
  clear s1 ht P1 H1
  rintro σ H1 ⟨m,rfl,hm,h30,ht,P1,s1⟩
  have hlen:=Znt hT h40 m
  refine Zag (fun σ Hx=>∃l,σ=[some (.ref sc),some (.int cell),some (.ref p),some (.ref t),some (.int (m:Int)),some (.ref l),v6,v7,v8,v9]/\ZbZ Hx l T' m/\l≠p/\ZbR Hx t (T'.map V.int)/\ZQ Hx p/\Zf H0 Hx) (λR hR=>?_) ?_
  ·walk_at "rd"
   refine⟨t,T',m,rfl,ht,hG,by omega,hm,Zcz.same tb1 s1,λc H2 s2 hW=>⟨_,rfl,?_⟩⟩
   rw[Zjq hT hW]
   refine⟨by omega,by omega,?_⟩
   rw[show((ZbX T' m:Nat):Int).toNat=ZbX T' m by omega]
   have s12:=s1.trans s2
   have ht:=ht.same s2
   have P1:=P1.same s2
   refine Zhk (n:=ZbX T' m) (λk acc Hz=>∃as:List Addr,acc=as.map V.ref/\as.length=k/\(∀z (h:z<as.length) (h2:z<(ZE T' m).length),Hz as[z]=some (.tup (ZgP (ZE T' m)[z])))/\Zf H2 Hz) (Yr (show _<=1000 by omega) (by decide)) ⟨[],rfl,rfl,(λi h=>absurd h (by simp)),Zf.refl _⟩ (λk acc Hz _ hk=>hk) (λacc Hz _=>Yd _) ?_ ?_
   ·rintro k x acc Hz Hw hk hla ⟨as,rfl,hal,has,sz⟩ ⟨rfl,rfl⟩
    have e3:(0+(k:Int))=k:=by omega
    rw[e3]
    walk_at "rd"
    refine⟨t,T',m,_,rfl,ht.same sz,hG,by omega,hm,Zcz.same tb1 (s12.trans sz),λ_ u r H3 zu s3 hR2 hk2 hu=>?_,λz=>absurd ⟨by omega,by omega⟩ z⟩
    have hkl:k<(ZE T' m).length:=by omega
    have er:r=(ZE T' m)[k]:=rk_eq hT hR2 ((ZaA hT h40).mp (YH hkl)) (by rw[ZhC hT h40 k hkl];omega)
    refine CA.take hk hla ⟨as++[u],by simp,by simp[hal],λz h h2=>?_,sz.trans s3⟩
    by_cases e:z<as.length
    ·rw[Jb e];exact s3 _ _ (has z e h2)
    ·have:z=as.length:=by simp at h;omega
     subst this
     simp only[List.getElem_concat_length]
     rw[hu,er]
     simp only[hal]
   ·rintro c acc Hz ⟨as,rfl,hal,has,sz⟩ _ hc
    have g:=sz.ZG (o:=.lst (as.map V.ref)) hc
    exact hR _ _ ⟨c,rfl,⟨as,Zb,by omega,λj a b=>((Zf.refl Hz).upd hc) _ _ (has j a b)⟩,(P1.same sz).ne hc,ht.same g,P1.same g,s12.trans g⟩
  clear s1 ht P1 H1
  rintro σ H1 ⟨l,rfl,hRA,nlp,ht,P1,s1⟩
  refine Zag (fun σ Hx=>∃v6 v7 v8,σ=[some (.ref sc),some (.int cell),some (.ref p),some (.ref t),some (.int (m:Int)),some (.ref l),v6,v7,v8,v9]/\ZbZ Hx l T' m/\ZbR Hx t (T'.map V.int)/\Zf H0 Hx) (λR hR=>?_) ?_
  ·walk_at "rd"
   refine⟨by decide,by decide,Zb7 (λk σ Hx=>∃v6 v7 v8,σ=[some (.ref sc),some (.int cell),some (.ref p),some (.ref t),some (.int (m:Int)),some (.ref l),v6,v7,v8,v9]/\ZbR Hx t (T'.map V.int)/\ZbZ Hx l T' m/\ZQ Hx p/\Zf H0 Hx) ⟨_,_,_,rfl,ht,hRA,P1,s1⟩ ?_ ?_⟩
   ·clear s1 ht P1 hRA H1
    rintro k σ Hx hk ⟨v6,v7,v8,rfl,hB⟩
    refine Zag (fun σ Hx=>∃(a:Addr) (ls:List Int),σ=[some (.ref sc),some (.int cell),some (.ref p),some (.ref t),some (.int (m:Int)),some (.ref l),some (.int (0+(k:Int))),some (.ref a),v8,v9]/\a≠p/\Hx a=some (.lst (ls.map V.int))/\ls.length=T'.length/\(∀q∈ls,0<=q/\q<(max 1 m:Nat))/\ZbR Hx t (T'.map V.int)/\ZbZ Hx l T' m/\ZQ Hx p/\Zf H0 Hx) (λR2 hR2=>?_) ?_
    ·walk_at "rd"
     refine⟨⟨_,hB.1.sq⟩,Zhk (n:=T'.length) (λj acc Hz=>∃us:List Int,acc=us.map V.int/\us.length=j/\(∀q∈us,0<=q/\q<(max 1 m:Nat))/\ZQ Hz p/\Exc p Hx Hz) (Yr (show _<=1000 by omega) (by decide)) ⟨[],rfl,rfl,(λq h=>nomatch h),hB.2.2.1,(Zf.refl _).Zfl⟩ (λj acc Hz ⟨_,_,_,_,_,e⟩ hj=>⟨_,_,(Zer hB.1 hB.2.2.1 e).sq,Yi (by rw[Yf];exact hj)⟩) (λacc Hz ⟨_,_,_,_,_,e⟩=>⟨_,(Zer hB.1 hB.2.2.1 e).sq,by rw[Yf];exact Yd _⟩) ?_ ?_⟩
     ·rintro j x acc Hz Hw hj hla ⟨us,rfl,hul,hub,Pz,ez⟩ ⟨rfl,_⟩
      walk_at "rd"
      refine⟨p,_,rfl,by split<;>omega,by split<;>omega,Pz,λd H4 d0 d1 P4 e4=>CA.take hj hla ⟨us++[d],by simp,by simp[hul],λq hq=>?_,P4,ez.trans e4⟩⟩
      rcases YC.mp hq with y|y
      ·exact hub q y
      ·rw[Y8.mp y]
       refine⟨d0,?_⟩
       revert d1;split<;>omega
     ·rintro a acc Hz ⟨us,rfl,hul,hub,Pz,ez⟩ _ za
      have g:=(Zf.refl Hz).upd (o:=.lst (us.map V.int)) za
      exact hR2 _ _ ⟨a,us,rfl,Pz.ne za,Zb,hul,hub,(Zer hB.1 hB.2.2.1 ez).same g,(ZnJ hB.2.1 nlp hB.2.2.1 ez).same g,Pz.same g,(hB.2.2.2.exc zp ez).trans g⟩
    clear hB Hx
    rintro σ Hx ⟨a,ls,rfl,nap,ha,l1,hlb,hB⟩
    refine Zag (fun σ Hx=>∃(b:Addr) (gs:List Int),σ=[some (.ref sc),some (.int cell),some (.ref p),some (.ref t),some (.int (m:Int)),some (.ref l),some (.int (0+(k:Int))),some (.ref a),some (.ref b),v9]/\Hx a=some (.lst (ls.map V.int))/\Hx b=some (.lst (gs.map V.int))/\gs.length=T'.length/\(∀q∈gs,0<=q/\q<(max 1 m:Nat))/\ZbR Hx t (T'.map V.int)/\ZbZ Hx l T' m/\ZQ Hx p/\Zf H0 Hx) (λR2 hR2=>?_) ?_
    ·walk_at "rd"
     refine⟨⟨_,hB.1.sq⟩,Zhk (n:=T'.length) (λj acc Hz=>∃us:List Int,acc=us.map V.int/\us.length=j/\(∀q∈us,0<=q/\q<(max 1 m:Nat))/\ZQ Hz p/\Exc p Hx Hz) (Yr (show _<=1000 by omega) (by decide)) ⟨[],rfl,rfl,(λq h=>nomatch h),hB.2.2.1,(Zf.refl _).Zfl⟩ (λj acc Hz ⟨_,_,_,_,_,e⟩ hj=>⟨_,_,(Zer hB.1 hB.2.2.1 e).sq,Yi (by rw[Yf];exact hj)⟩) (λacc Hz ⟨_,_,_,_,_,e⟩=>⟨_,(Zer hB.1 hB.2.2.1 e).sq,by rw[Yf];exact Yd _⟩) ?_ ?_⟩
     ·rintro j x acc Hz Hw hj hla ⟨us,rfl,hul,hub,Pz,ez⟩ ⟨rfl,_⟩
      walk_at "rd"
      refine⟨p,_,rfl,by split<;>omega,by split<;>omega,Pz,λd H4 d0 d1 P4 e4=>CA.take hj hla ⟨us++[d],by simp,by simp[hul],λq hq=>?_,P4,ez.trans e4⟩⟩
      rcases YC.mp hq with y|y
      ·exact hub q y
      ·rw[Y8.mp y]
       refine⟨d0,?_⟩
       revert d1;split<;>omega
     ·rintro b acc Hz ⟨us,rfl,hul,hub,Pz,ez⟩ _ za
      have g:=(Zf.refl Hz).upd (o:=.lst (us.map V.int)) za
      exact hR2 _ _ ⟨b,us,rfl,g _ _ (ez _ _ nap ha),Zb,hul,hub,(Zer hB.1 hB.2.2.1 ez).same g,(ZnJ hB.2.1 nlp hB.2.2.1 ez).same g,Pz.same g,(hB.2.2.2.exc zp ez).trans g⟩
    clear hB ha Hx
    rintro σ Hx ⟨b,gs,rfl,ha,hb,l2,hgb,hB⟩
    refine Zag (fun σ Hx=>∃(b:Addr) (gs:List Int),σ=[some (.ref sc),some (.int cell),some (.ref p),some (.ref t),some (.int (m:Int)),some (.ref l),some (.int (0+(k:Int))),some (.ref a),some (.ref b),v9]/\Hx a=some (.lst (ls.map V.int))/\Hx b=some (.lst (gs.map V.int))/\gs.length=T'.length/\(∀q∈gs,0<=q/\q<(max 1 m:Nat))/\ZbR Hx t (T'.map V.int)/\ZbZ Hx l T' m/\ZQ Hx p/\Zf H0 Hx) (λR2 hR2=>?_) ?_
    ·walk_at "rd"
     have get:∀{xs:List Int}{p:Nat},p<xs.length->(xs.map V.int)[p]?=some (V.int (nth xs p)):=λ{xs p} h=>by
      rw[YF,Yi h]
      simp[nth,Ym,h]
     refine ZK (λz=>⟨false,false,_,SqL.of ha,_,SqL.of hb,L2.comp_map (n:=T'.length) (λj=>V.int (max (nth ls j) (nth gs j))) (Yr (show _<=1000 by omega) (by decide)) (λj Hy s hj=>⟨_,_,_,_,SqL.of (s _ _ ha),SqL.of (s _ _ hb),get (by omega),get (by omega)⟩) (λHy s=>⟨_,_,SqL.of (s _ _ ha),SqL.of (s _ _ hb),.inl (by simp;omega)⟩) ?_ ?_⟩) λz=>hR2 _ _ ⟨b,gs,rfl,ha,hb,l2,hgb,hB⟩
     ·rintro j x Hy Hz hj s ⟨q,y1,y2,zq,rfl,rfl,g1,g2⟩
      have h1:=(g1 _ (SqL.of (s _ _ ha))).symm.trans (get (by omega))
      have h2:=(g2 _ (SqL.of (s _ _ hb))).symm.trans (get (by omega))
      cases h1;cases h2
      have tq:upd Hy q (.tup [V.int (nth ls j),V.int (nth gs j)]) q=some (.tup ([nth ls j,nth gs j].map V.int)):=Zb
      have g:=s.ZG (o:=.tup [V.int (nth ls j),V.int (nth gs j)]) zq
      walk_at "rd"
      refine⟨[nth ls j,nth gs j],SqT.of tq,by simp,λmm m1 m2=>L2.CW.next hj (congrArg V.int ?_) g⟩
      have a1:=m2 (nth ls j) (by simp)
      have a2:=m2 (nth gs j) (by simp)
      simp at m1
      rcases m1 with e|e<;>omega
     ·intro b2 Hy s zb
      have g:=s.ZG (o:=.lst ((List.range T'.length).map λj=>V.int (max (nth ls j) (nth gs j)))) zb
      refine hR2 _ _ ⟨b2,(List.range T'.length).map λj=>max (nth ls j) (nth gs j),rfl,g _ _ ha,by rw[Zb,YV];rfl,by simp,(λq hq=>?_),hB.1.same g,hB.2.1.same g,hB.2.2.1.same g,hB.2.2.2.trans g⟩
      obtain⟨j,hj,rfl⟩:=YB.mp hq
      have hj:=Yu.mp hj
      have b1:=hlb _ (Zdv (show j<ls.length by omega))
      have b2:=hgb _ (Zdv (show j<gs.length by omega))
      omega
    clear hB ha hb l2 hgb Hx
    rintro σ Hx ⟨b,gs,rfl,ha,hb,l2,hgb,hB⟩
    refine Zag (fun σ Hx=>∃(b:Addr) (gs:List Int),σ=[some (.ref sc),some (.int cell),some (.ref p),some (.ref t),some (.int (m:Int)),some (.ref l),some (.int (0+(k:Int))),some (.ref a),some (.ref b),v9]/\Hx a=some (.lst (ls.map V.int))/\Hx b=some (.lst (gs.map V.int))/\gs.length=T'.length/\(∀q∈gs,0<=q/\q<(max 1 m:Nat))/\ZbR Hx t (T'.map V.int)/\ZbZ Hx l T' m/\ZQ Hx p/\Zf H0 Hx) (λR2 hR2=>?_) ?_
    ·walk_at "rd"
     refine ZK (λz=>⟨⟨_,hB.1.sq⟩,L2.comp_map (n:=T'.length) (λ_=>V.int (if (m:Int)-1>0 then (m:Int)-1 else 0)) (Yr (show _<=1000 by omega) (by decide)) (λj Hy s hj=>⟨_,_,(hB.1.same s).sq,Yi (by rw[Yf];exact hj)⟩) (λHy s=>⟨_,(hB.1.same s).sq,by rw[Yf];exact Yd _⟩) ?_ ?_⟩) λz=>hR2 _ _ ⟨b,gs,rfl,ha,hb,l2,hgb,hB⟩
     ·rintro j x Hy Hz hj s ⟨rfl,_⟩
      walk_at "rd"
      exact L2.CW.next hj rfl s
     ·intro b2 Hy s zb
      have g:=s.ZG (o:=.lst ((List.range T'.length).map λ_=>V.int (if (m:Int)-1>0 then (m:Int)-1 else 0))) zb
      exact hR2 _ _ ⟨b2,List.replicate T'.length (if (m:Int)-1>0 then (m:Int)-1 else 0),rfl,g _ _ ha,by rw[Zb];simp[List.map_const'],by simp,(λq hq=>by rw[List.eq_of_mem_replicate hq];split<;>omega),hB.1.same g,hB.2.1.same g,hB.2.2.1.same g,hB.2.2.2.trans g⟩
    clear hB ha hb l2 hgb Hx
    rintro σ Hx ⟨b,gs,rfl,ha,hb,l2,hgb,hB⟩
    walk_at "rd"
    refine ZK (λz=>⟨t,l,a,b,T',ls,gs,m,rfl,hB.1,hG,by omega,hm,h30,hB.2.1,SqL.of ha,.inl (SqL.of hb),l1,l2,λq hq=>(hlb q hq).1,λq hq=>by have:=(hgb q hq).2;omega,Zcz.same tb1 hB.2.2.2,λH3 s3=>⟨true,rfl,ZK (λz=>nomatch z) λ_=>⟨hB.1.same s3,hB.2.1.same s3,hB.2.2.1.same s3,hB.2.2.2.trans s3⟩⟩⟩) λz=>hB
   ·clear s1 ht P1 hRA H1
    rintro σ Hx ⟨v6,v7,v8,rfl,hB⟩
    exact hR _ _ ⟨v6,v7,v8,rfl,hB.2.1,hB.1,hB.2.2.2⟩
  clear s1 ht P1 hRA H1
  rintro σ H1 ⟨v6,v7,v8,rfl,hRA,ht,s1⟩
  refine Zag (fun σ Hx=>∃v9,σ=[some (.ref sc),some (.int cell),some (.ref p),some (.ref t),some (.int (m:Int)),some (.ref l),v6,v7,v8,v9]/\ZbZ Hx l T' m/\ZbR Hx t (T'.map V.int)/\Zf H0 Hx) (λR hR=>?_) ?_
  ·walk_at "rd"
   obtain⟨as,la,lb,lc⟩:=id hRA
   refine⟨_,SqL.of la,λp1 h1=>?_⟩
   have g1:=(Zf.refl H1).upd (o:=.lst (Zai (as.map V.ref) none (some 2))) h1
   refine⟨_,SqL.of (g1 _ _ la),λp2 h2=>?_⟩
   have g2:=g1.ZG (o:=.lst (Zai (as.map V.ref) (some (-2)) none)) h2
   have c1:=Zbt (as.map V.ref) none (some 2)
   have c2:=Zbt (as.map V.ref) (some (-2)) none
   have elA:(as.map V.ref).length<=30:=by rw[Yf];omega
   refine⟨_,by rw[Zh (Zu Zb h2)];exact Zb,_,Zb,Yh (show _<=1000 by omega) (by decide),λp3 h3=>⟨⟨_,SqL.of Zb⟩,?_⟩⟩
   have g3:=g2.ZG (o:=.lst (Zai (as.map V.ref) none (some 2)++Zai (as.map V.ref) (some (-2)) none)) h3
   have hq:upd (upd (upd H1 p1 (.lst (Zai (as.map V.ref) none (some 2)))) p2 (.lst (Zai (as.map V.ref) (some (-2)) none))) p3 (.lst (Zai (as.map V.ref) none (some 2)++Zai (as.map V.ref) (some (-2)) none)) p3=some (.lst (Zai (as.map V.ref) none (some 2)++Zai (as.map V.ref) (some (-2)) none)):=Zb
   generalize upd (upd (upd H1 p1 (.lst (Zai (as.map V.ref) none (some 2)))) p2 (.lst (Zai (as.map V.ref) (some (-2)) none))) p3 (.lst (Zai (as.map V.ref) none (some 2)++Zai (as.map V.ref) (some (-2)) none))=H2 at g3 hq
   have s2:=s1.trans g3
   refine Zjx (K:=K) (a:=p3) (xs:=Zai (as.map V.ref) none (some 2)++Zai (as.map V.ref) (some (-2)) none) (λi σ Hx=>∃v9,σ=[some (.ref sc),some (.int cell),some (.ref p),some (.ref t),some (.int (m:Int)),some (.ref l),v6,v7,v8,v9]/\Zf H2 Hx) ⟨_,rfl,Zf.refl _⟩ (λi σ Hx _ ⟨_,_,s⟩=>SqL.of (s _ _ hq)) ?_ ?_
   ·rintro j x σ Hx hj ⟨v9,rfl,sx⟩
    obtain⟨u,hu,rfl⟩:∃u∈as,x=V.ref u:=by
     have hm:=List.mem_of_getElem? hj
     have:x∈as.map V.ref:=by
      rcases YC.mp hm with y|y
      ·exact ZnK y
      ·exact ZnK y
     obtain⟨u,h,rfl⟩:=YB.mp this
     exact⟨u,h,rfl⟩
    obtain⟨i,hi,rfl⟩:=YR hu
    have hi2:i<(ZE T' m).length:=by omega
    have hS:=(ZaA hT h40).mp (YH hi2)
    have sy:=s2.trans sx
    have hrow:=sx _ _ (g3 _ _ (lc i hi hi2))
    rw[ZjZ]at hrow
    generalize (ZE T' m)[i]=r at hS hrow
    have el:(Za4 r).length=T'.length:=by unfold Za4;rw[Yf];exact hS.1
    have hrb:∀q∈Za4 r,0<=q/\q<(m:Int):=λq hq=>by
     obtain⟨k,hk,rfl⟩:=YR hq
     have e:=ZbY (r:=r) (i:=k) (by rw[el]at hk;rw[hS.1];exact hk)
     have e2:nth (Za4 r) k=(Za4 r)[k]:=by simp[nth,Ym,hk]
     have:=(hS.2 k (by omega)).1
     omega
    walk_at "rd"
    refine⟨_,.inr (SqT.of hrow),λa za=>?_⟩
    have g:=(Zf.refl Hx).upd (o:=.lst ((Za4 r).map V.int)) za
    have sg:=sx.trans g
    exact⟨t,l,a,as[i],T',Za4 r,Za4 r,m,rfl,ht.same (g3.trans sg),hG,by omega,hm,h30,hRA.same (g3.trans sg),SqL.of Zb,.inr (SqT.of (g _ _ hrow)),el,el,(λq hq=>(hrb q hq).1),(λq hq=>(hrb q hq).2),Zcz.same tb1 (s2.trans sg),λH3 s3=>⟨true,rfl,ZK (λz=>nomatch z) λ_=>sg.trans s3⟩⟩
   ·rintro σ Hx ⟨v9,rfl,sx⟩
    exact hR _ _ ⟨v9,rfl,hRA.same (g3.trans sx),ht.same (g3.trans sx),s2.trans sx⟩
  clear s1 ht hRA H1
  rintro σ H1 ⟨v9,rfl,hRA,ht,s1⟩
  walk_at "rd"
  refine⟨⟨_,ht.sq⟩,L2.comp_map (n:=T'.length) (λ_=>V.int 0) (Yr (show _<=1000 by omega) (by decide)) (λj Hy s hj=>⟨_,_,(ht.same s).sq,Yi (by rw[Yf];exact hj)⟩) (λHy s=>⟨_,(ht.same s).sq,by rw[Yf];exact Yd _⟩) ?_ ?_⟩
  ·rintro j x Hy Hz hj s ⟨rfl,_⟩
   walk_at "rd"
   exact L2.CW.next hj rfl s
  intro a Hy s za
  have g:=s.ZG (o:=.lst ((List.range T'.length).map λ_=>V.int 0)) za
  have ha:upd Hy a (.lst ((List.range T'.length).map λ_=>V.int 0)) a=some (.lst ((List.replicate T'.length (0:Int)).map V.int)):=by rw[Zb];simp[List.map_const']
  generalize upd Hy a (.lst ((List.range T'.length).map λ_=>V.int 0))=H2 at g ha
  refine⟨⟨_,(ht.same g).sq⟩,L2.comp_map (n:=T'.length) (λ_=>V.int ((m:Int)-1)) (Yr (show _<=1000 by omega) (by decide)) (λj Hy s hj=>⟨_,_,((ht.same g).same s).sq,Yi (by rw[Yf];exact hj)⟩) (λHy s=>⟨_,((ht.same g).same s).sq,by rw[Yf];exact Yd _⟩) ?_ ?_⟩
  ·rintro j x Hy Hz hj s ⟨rfl,_⟩
   walk_at "rd"
   exact L2.CW.next hj rfl s
  intro b Hy s zb
  have g2:=s.ZG (o:=.lst ((List.range T'.length).map λ_=>V.int ((m:Int)-1))) zb
  have hb:upd Hy b (.lst ((List.range T'.length).map λ_=>V.int ((m:Int)-1))) b=some (.lst ((List.replicate T'.length ((m:Int)-1)).map V.int)):=by rw[Zb];simp[List.map_const']
  have gg:=g.trans g2
  refine ZK (λz=>⟨t,l,a,b,T',List.replicate T'.length 0,List.replicate T'.length ((m:Int)-1),m,rfl,ht.same gg,hG,by omega,hm,h30,hRA.same gg,SqL.of (g2 _ _ ha),.inl (SqL.of hb),by simp,by simp,(λq hq=>by rw[List.eq_of_mem_replicate hq];exact Int.le_refl _),(λq hq=>by rw[List.eq_of_mem_replicate hq];omega),Zcz.same tb1 (s1.trans gg),λH3 s3=>⟨true,rfl,ZK (λz=>nomatch z) λ_=>s1.trans (gg.trans s3)⟩⟩) λz=>s1.trans gg
 ·rintro σ H' ⟨v1,v2,v3,v4,v5,v6,v7,v8,v9,rfl,hs⟩
  walk_at "rd"
  exact k1 _
end
theorem all_mk {l:PySem.W.OpenLaw}{w:World}{K:PySem.W.Frag}{h:Heap}{mg:Str->Option Value}{fa:Addr}{ts:List Addr} (X:K.In h) (G:h.Ns mainGlobals mg) (hfa:mg "law"=some (.ref fa))
  {C_Filling:Addr} (n_Filling:nsIn K mainGlobals "Filling"=some (some (.ref C_Filling))) (pg_Filling:PySem.W.plainGet K C_Filling Str.empty=true) (hd_Filling:PySem.W.hasDictIn K C_Filling=true) (po_Filling:PySem.W.plainOver K C_Filling=true) (sa_Filling:PySem.W.findIn K (.ref C_Filling) "__setattr__"=some (some (.builtin "object.__setattr__"))) (mk_Filling:PySem.W.makesIn K C_Filling=true) (kc_Filling:keepIn K (.ref C_Filling)=true)
  (na_Filling_tree:PySem.W.findIn K (.ref C_Filling) "tree"=some none)
  (na_Filling_most:PySem.W.findIn K (.ref C_Filling) "most"=some none)
  (na_Filling_young:PySem.W.findIn K (.ref C_Filling) "young"=some none)
  (na_Filling_spans:PySem.W.findIn K (.ref C_Filling) "spans"=some none)
  (na_Filling_outsides:PySem.W.findIn K (.ref C_Filling) "outsides"=some none)
  (na_Filling_row:PySem.W.findIn K (.ref C_Filling) "row"=some none)
  (Zkf:nsIn K mainGlobals "settle"=some (some (.ref ZnL))) (Zkg:K.lookup ZnL=some ⟨Zxn,Zxo,.func (fnOf "settle" "settle" (defArgs Zej) (defBody Zej) (defScope Zej) .none Zxp Zxq Zxr Zxs Zq2 Zxt),Zxu⟩) (Zkh:codeIn K Zq2 "settle"=true) (ZhF:keepIn K (.ref ZnL)=true)
  (Ziq:nsIn K mainGlobals "tree_of"=some (some (.ref ZlJ))) (Zir:K.lookup ZlJ=some ⟨ZwT,ZwU,.func (fnOf "tree_of" "tree_of" (defArgs ZcU) (defBody ZcU) (defScope ZcU) .none ZwV ZwW ZwX ZwY ZoY ZwZ),Zw0⟩) (Zis:codeIn K ZoY "tree_of"=true) (Zgk:keepIn K (.ref ZlJ)=true)
  (Zki:nsIn K mainGlobals "way_up"=some (some (.ref ZnM))) (Zkj:K.lookup ZnM=some ⟨Zxv,Zxw,.func (fnOf "way_up" "way_up" (defArgs Zek) (defBody Zek) (defScope Zek) .none Zxx Zxy Zxz ZxA Zq3 ZxB),ZxC⟩) (Zkk:codeIn K Zq3 "way_up"=true) (ZhG:keepIn K (.ref ZnM)=true)
  (Zit:nsIn K mainGlobals "is_tree"=some (some (.ref ZlK))) (Ziu:K.lookup ZlK=some ⟨Zw1,Zw2,.func (fnOf "is_tree" "is_tree" (defArgs ZcV) (defBody ZcV) (defScope ZcV) .none Zw3 Zw4 Zw5 Zw6 ZoZ Zw7),Zw8⟩) (Ziv:codeIn K ZoZ "is_tree"=true) (Zgl:keepIn K (.ref ZlK)=true)
  (ZfF:nsIn K mainGlobals "need_tree"=some (some (.ref ZiL))) (ZfG:K.lookup ZiL=some ⟨Zvj,Zvk,.func (fnOf "need_tree" "need_tree" (defArgs Zbx) (defBody Zbx) (defScope Zbx) .none Zvl Zvm Zvn Zvo Zmu Zvp),Zvq⟩) (ZfH:codeIn K Zmu "need_tree"=true) (ZdA:keepIn K (.ref ZiL)=true)
  (ZgY:nsIn K mainGlobals "young_of"=some (some (.ref Zkl))) (ZgZ:K.lookup Zkl=some ⟨Zwe,Zwf,.func (fnOf "young_of" "young_of" (defArgs Zb9) (defBody Zb9) (defScope Zb9) .none Zwg Zwh Zwi Zwj ZnN Zwk),Zwl⟩) (Zg0:codeIn K ZnN "young_of"=true) (ZeQ:keepIn K (.ref Zkl)=true)
  (ZcM:nsIn K mainGlobals "from_below"=some (some (.ref ZeR))) (ZcN:K.lookup ZeR=some ⟨ZtS,ZtT,.func (fnOf "from_below" "from_below" (defArgs Zba) (defBody Zba) (defScope Zba) .none ZtU ZtV ZtW ZtX Zgt ZtY),ZtZ⟩) (ZeS:codeIn K Zgt "from_below"=true) (ZcO:keepIn K (.ref ZeR)=true)
  (ZdT:Zgt=.ref Zcp) (ZdU:K.lookup Zcp=some ⟨Zt0,Zt1,.fields Zk0,Zt2⟩) (ZdV:Zk0[11]?=some (.ref Zcq)) (Zcr:PySem.W.codeHdIn K Zcp Zcq=true) (ZdW:K.lookup Zcq=none) (ZdX:Zcq∈ts)
  (Zde:nsIn K mainGlobals "running_sums"=some (some (.ref ZfI))) (Zdf:K.lookup ZfI=some ⟨Zrb,Zrc,.func (fnOf "running_sums" "running_sums" (defArgs Zaw) (defBody Zaw) (defScope Zaw) .none Zrd Zre Zrf Zrg Zi6 Zrh),Zri⟩) (Zdg:codeIn K Zi6 "running_sums"=true) (Zb2:keepIn K (.ref ZfI)=true)
  (Zo0:nsIn K mainGlobals "pick"=some (some (.ref Zth))) (Zo1:K.lookup Zth=some ⟨Zya,Zyb,.func (fnOf "pick" "pick" (defArgs Zh8) (defBody Zh8) (defScope Zh8) .none Zyc Zyd Zye Zyf Zvr Zyg),Zyh⟩) (Zo2:codeIn K Zvr "pick"=true) (Zmv:keepIn K (.ref Zth)=true)
  (Zg1:nsIn K mainGlobals "need_few"=some (some (.ref Zkm))) (Zg2:K.lookup Zkm=some ⟨Zwm,Zwn,.func (fnOf "need_few" "need_few" (defArgs Zca) (defBody Zca) (defScope Zca) .none Zwo Zwp Zwq Zwr ZnO Zws),Zwt⟩) (Zg3:codeIn K ZnO "need_few"=true) (ZeT:keepIn K (.ref Zkm)=true)
  (ZfJ:nsIn K mainGlobals "span_ways"=some (some (.ref ZiM))) (ZfK:K.lookup ZiM=some ⟨Zvs,Zvt,.func (fnOf "span_ways" "span_ways" (defArgs Zby) (defBody Zby) (defScope Zby) .none Zvu Zvv Zvw Zvx Zmw Zvy),Zvz⟩) (ZfL:codeIn K Zmw "span_ways"=true) (ZdB:keepIn K (.ref ZiM)=true)
  {f_Filling___init__:Addr}{od_Filling___init__ an_Filling___init__:Option Addr}{sl_Filling___init__:Array (Option Value)}{oc_Filling___init__ kV_Filling___init__ dc_Filling___init__ pm_Filling___init__ cd_Filling___init__ ct_Filling___init__:Value}
  (a_Filling___init__:PySem.W.findIn K (.ref C_Filling) "__init__"=some (some (.ref f_Filling___init__))) (i_Filling___init__:PySem.W.isFn K (.ref f_Filling___init__)=true) (l_Filling___init__:K.lookup f_Filling___init__=some ⟨oc_Filling___init__,od_Filling___init__,.func (fnOf "__init__" "Filling.__init__" (defArgs ZW) (defBody ZW) (defScope ZW) .none kV_Filling___init__ dc_Filling___init__ pm_Filling___init__ an_Filling___init__ cd_Filling___init__ ct_Filling___init__),sl_Filling___init__⟩) (c_Filling___init__:codeIn K cd_Filling___init__ "Filling.__init__"=true) (k_Filling___init__:keepIn K (.ref f_Filling___init__)=true)
  {f_Filling_how_many_rows:Addr}{od_Filling_how_many_rows an_Filling_how_many_rows:Option Addr}{sl_Filling_how_many_rows:Array (Option Value)}{oc_Filling_how_many_rows kV_Filling_how_many_rows dc_Filling_how_many_rows pm_Filling_how_many_rows cd_Filling_how_many_rows ct_Filling_how_many_rows:Value}
  (a_Filling_how_many_rows:PySem.W.findIn K (.ref C_Filling) "how_many_rows"=some (some (.ref f_Filling_how_many_rows))) (i_Filling_how_many_rows:PySem.W.isFn K (.ref f_Filling_how_many_rows)=true) (l_Filling_how_many_rows:K.lookup f_Filling_how_many_rows=some ⟨oc_Filling_how_many_rows,od_Filling_how_many_rows,.func (fnOf "how_many_rows" "Filling.how_many_rows" (defArgs ZH) (defBody ZH) (defScope ZH) .none kV_Filling_how_many_rows dc_Filling_how_many_rows pm_Filling_how_many_rows an_Filling_how_many_rows cd_Filling_how_many_rows ct_Filling_how_many_rows),sl_Filling_how_many_rows⟩) (c_Filling_how_many_rows:codeIn K cd_Filling_how_many_rows "Filling.how_many_rows"=true) (k_Filling_how_many_rows:keepIn K (.ref f_Filling_how_many_rows)=true)
  {f_Filling_outside_ways:Addr}{od_Filling_outside_ways an_Filling_outside_ways:Option Addr}{sl_Filling_outside_ways:Array (Option Value)}{oc_Filling_outside_ways kV_Filling_outside_ways dc_Filling_outside_ways pm_Filling_outside_ways cd_Filling_outside_ways ct_Filling_outside_ways:Value}
  (a_Filling_outside_ways:PySem.W.findIn K (.ref C_Filling) "outside_ways"=some (some (.ref f_Filling_outside_ways))) (i_Filling_outside_ways:PySem.W.isFn K (.ref f_Filling_outside_ways)=true) (l_Filling_outside_ways:K.lookup f_Filling_outside_ways=some ⟨oc_Filling_outside_ways,od_Filling_outside_ways,.func (fnOf "outside_ways" "Filling.outside_ways" (defArgs ZL) (defBody ZL) (defScope ZL) .none kV_Filling_outside_ways dc_Filling_outside_ways pm_Filling_outside_ways an_Filling_outside_ways cd_Filling_outside_ways ct_Filling_outside_ways),sl_Filling_outside_ways⟩) (c_Filling_outside_ways:codeIn K cd_Filling_outside_ways "Filling.outside_ways"=true) (k_Filling_outside_ways:keepIn K (.ref f_Filling_outside_ways)=true)
  {f_Filling_outside_by_elder:Addr}{od_Filling_outside_by_elder an_Filling_outside_by_elder:Option Addr}{sl_Filling_outside_by_elder:Array (Option Value)}{oc_Filling_outside_by_elder kV_Filling_outside_by_elder dc_Filling_outside_by_elder pm_Filling_outside_by_elder cd_Filling_outside_by_elder ct_Filling_outside_by_elder:Value}
  (a_Filling_outside_by_elder:PySem.W.findIn K (.ref C_Filling) "outside_by_elder"=some (some (.ref f_Filling_outside_by_elder))) (i_Filling_outside_by_elder:PySem.W.isFn K (.ref f_Filling_outside_by_elder)=true) (l_Filling_outside_by_elder:K.lookup f_Filling_outside_by_elder=some ⟨oc_Filling_outside_by_elder,od_Filling_outside_by_elder,.func (fnOf "outside_by_elder" "Filling.outside_by_elder" (defArgs Zy) (defBody Zy) (defScope Zy) .none kV_Filling_outside_by_elder dc_Filling_outside_by_elder pm_Filling_outside_by_elder an_Filling_outside_by_elder cd_Filling_outside_by_elder ct_Filling_outside_by_elder),sl_Filling_outside_by_elder⟩) (c_Filling_outside_by_elder:codeIn K cd_Filling_outside_by_elder "Filling.outside_by_elder"=true) (k_Filling_outside_by_elder:keepIn K (.ref f_Filling_outside_by_elder)=true)
  {f_Filling_onward_ways:Addr}{od_Filling_onward_ways an_Filling_onward_ways:Option Addr}{sl_Filling_onward_ways:Array (Option Value)}{oc_Filling_onward_ways kV_Filling_onward_ways dc_Filling_onward_ways pm_Filling_onward_ways cd_Filling_onward_ways ct_Filling_onward_ways:Value}
  (a_Filling_onward_ways:PySem.W.findIn K (.ref C_Filling) "onward_ways"=some (some (.ref f_Filling_onward_ways))) (i_Filling_onward_ways:PySem.W.isFn K (.ref f_Filling_onward_ways)=true) (l_Filling_onward_ways:K.lookup f_Filling_onward_ways=some ⟨oc_Filling_onward_ways,od_Filling_onward_ways,.func (fnOf "onward_ways" "Filling.onward_ways" (defArgs ZN) (defBody ZN) (defScope ZN) .none kV_Filling_onward_ways dc_Filling_onward_ways pm_Filling_onward_ways an_Filling_onward_ways cd_Filling_onward_ways ct_Filling_onward_ways),sl_Filling_onward_ways⟩) (c_Filling_onward_ways:codeIn K cd_Filling_onward_ways "Filling.onward_ways"=true) (k_Filling_onward_ways:keepIn K (.ref f_Filling_onward_ways)=true)
  {f_Filling_next_ways:Addr}{od_Filling_next_ways an_Filling_next_ways:Option Addr}{sl_Filling_next_ways:Array (Option Value)}{oc_Filling_next_ways kV_Filling_next_ways dc_Filling_next_ways pm_Filling_next_ways cd_Filling_next_ways ct_Filling_next_ways:Value}
  (a_Filling_next_ways:PySem.W.findIn K (.ref C_Filling) "next_ways"=some (some (.ref f_Filling_next_ways))) (i_Filling_next_ways:PySem.W.isFn K (.ref f_Filling_next_ways)=true) (l_Filling_next_ways:K.lookup f_Filling_next_ways=some ⟨oc_Filling_next_ways,od_Filling_next_ways,.func (fnOf "next_ways" "Filling.next_ways" (defArgs ZS) (defBody ZS) (defScope ZS) .none kV_Filling_next_ways dc_Filling_next_ways pm_Filling_next_ways an_Filling_next_ways cd_Filling_next_ways ct_Filling_next_ways),sl_Filling_next_ways⟩) (c_Filling_next_ways:codeIn K cd_Filling_next_ways "Filling.next_ways"=true) (k_Filling_next_ways:keepIn K (.ref f_Filling_next_ways)=true)
  (ZfM:nsIn K mainGlobals "many_rows"=some (some (.ref ZiN))) (ZfN:K.lookup ZiN=some ⟨ZvA,ZvB,.func (fnOf "many_rows" "many_rows" (defArgs Zbz) (defBody Zbz) (defScope Zbz) .none ZvC ZvD ZvE ZvF Zmx ZvG),ZvH⟩) (ZfO:codeIn K Zmx "many_rows"=true) (ZdC:keepIn K (.ref ZiN)=true)
  (Zkn:nsIn K mainGlobals "row_at"=some (some (.ref ZnP))) (Zko:K.lookup ZnP=some ⟨ZxD,ZxE,.func (fnOf "row_at" "row_at" (defArgs Zel) (defBody Zel) (defScope Zel) .none ZxF ZxG ZxH ZxI Zq4 ZxJ),ZxK⟩) (Zkp:codeIn K Zq4 "row_at"=true) (ZhH:keepIn K (.ref ZnP)=true)
  (ZdY:nsIn K mainGlobals "flat_number"=some (some (.ref Zgu))) (ZdZ:K.lookup Zgu=some ⟨Zti,Ztj,.func (fnOf "flat_number" "flat_number" (defArgs ZaQ) (defBody ZaQ) (defScope ZaQ) .none Ztk Ztl Ztm Ztn Zkq Zto),Ztp⟩) (Zd0:codeIn K Zkq "flat_number"=true) (Zcs:keepIn K (.ref Zgu)=true)
  (Zg4:nsIn K mainGlobals "flattest"=some (some (.ref Zkr))) (Zg5:K.lookup Zkr=some ⟨Zwu,Zwv,.func (fnOf "flattest" "flattest" (defArgs Zcb) (defBody Zcb) (defScope Zcb) .none Zww Zwx Zwy Zwz ZnQ ZwA),ZwB⟩) (Zg6:codeIn K ZnQ "flattest"=true) (ZeU:keepIn K (.ref Zkr)=true)
  (ZeV:nsIn K mainGlobals "heights_of"=some (some (.ref ZhI))) (ZeW:K.lookup ZhI=some ⟨Zt3,Zt4,.func (fnOf "heights_of" "heights_of" (defArgs Zbb) (defBody Zbb) (defScope Zbb) .none Zt5 Zt6 Zt7 Zt8 Zk1 Zt9),Zua⟩) (ZeX:codeIn K Zk1 "heights_of"=true) (ZcP:keepIn K (.ref ZhI)=true)
  (Zks:nsIn K mainGlobals "row_by"=some (some (.ref ZnR))) (Zkt:K.lookup ZnR=some ⟨ZxL,ZxM,.func (fnOf "row_by" "row_by" (defArgs Zem) (defBody Zem) (defScope Zem) .none ZxN ZxO ZxP ZxQ Zq5 ZxR),ZxS⟩) (Zku:codeIn K Zq5 "row_by"=true) (ZhJ:keepIn K (.ref ZnR)=true)
  (Zkv:nsIn K mainGlobals "lifted"=some (some (.ref ZnS))) (Zkw:K.lookup ZnS=some ⟨ZxT,ZxU,.func (fnOf "lifted" "lifted" (defArgs Zen) (defBody Zen) (defScope Zen) .none ZxV ZxW ZxX ZxY Zq6 ZxZ),Zx0⟩) (Zkx:codeIn K Zq6 "lifted"=true) (ZhK:keepIn K (.ref ZnS)=true)
  (Ziw:nsIn K mainGlobals "is_over"=some (some (.ref ZlL))) (Zix:K.lookup ZlL=some ⟨Zw9,Zxa,.func (fnOf "is_over" "is_over" (defArgs ZcW) (defBody ZcW) (defScope ZcW) .none Zxb Zxc Zxd Zxe Zo3 Zxf),Zxg⟩) (Ziy:codeIn K Zo3 "is_over"=true) (Zgm:keepIn K (.ref ZlL)=true)
  (Zky:nsIn K mainGlobals "fitted"=some (some (.ref ZnT))) (Zkz:K.lookup ZnT=some ⟨Zx1,Zx2,.func (fnOf "fitted" "fitted" (defArgs Zeo) (defBody Zeo) (defScope Zeo) .none Zx3 Zx4 Zx5 Zx6 Zq7 Zx7),Zx8⟩) (ZkA:codeIn K Zq7 "fitted"=true) (ZhL:keepIn K (.ref ZnT)=true)
  (ZeY:nsIn K mainGlobals "fits_least"=some (some (.ref ZhM))) (ZeZ:K.lookup ZhM=some ⟨Zub,Zuc,.func (fnOf "fits_least" "fits_least" (defArgs Zbc) (defBody Zbc) (defScope Zbc) .none Zud Zue Zuf Zug Zk2 Zuh),Zui⟩) (Ze0:codeIn K Zk2 "fits_least"=true) (ZcQ:keepIn K (.ref ZhM)=true)
  (Zg7:nsIn K mainGlobals "is_clash"=some (some (.ref ZkB))) (Zg8:K.lookup ZkB=some ⟨ZwC,ZwD,.func (fnOf "is_clash" "is_clash" (defArgs Zcc) (defBody Zcc) (defScope Zcc) .none ZwE ZwF ZwG ZwH ZnU ZwI),ZwJ⟩) (Zg9:codeIn K ZnU "is_clash"=true) (Ze1:keepIn K (.ref ZkB)=true)
  (Zdh:nsIn K mainGlobals "fitted_right"=some (some (.ref ZfP))) (Zdi:K.lookup ZfP=some ⟨Zrj,Zrk,.func (fnOf "fitted_right" "fitted_right" (defArgs Zax) (defBody Zax) (defScope Zax) .none Zrl Zrm Zrn Zro Zi7 Zrp),Zrq⟩) (Zdj:codeIn K Zi7 "fitted_right"=true) (Zb3:keepIn K (.ref ZfP)=true)
  (ZfQ:nsIn K mainGlobals "_law_deal"=some (some (.ref ZiO))) (ZfR:K.lookup ZiO=some ⟨ZvI,ZvJ,.func (fnOf "_law_deal" "_law_deal" (defArgs ZbA) (defBody ZbA) (defScope ZbA) .none ZvK ZvL ZvM ZvN Zmy ZvO),ZvP⟩) (ZfS:codeIn K Zmy "_law_deal"=true) (ZdD:keepIn K (.ref ZiO)=true)
  (ZfT:nsIn K mainGlobals "_law_take"=some (some (.ref ZiP))) (ZfU:K.lookup ZiP=some ⟨ZvQ,ZvR,.func (fnOf "_law_take" "_law_take" (defArgs ZbB) (defBody ZbB) (defScope ZbB) .none ZvS ZvT ZvU ZvV Zmz ZvW),ZvX⟩) (ZfV:codeIn K Zmz "_law_take"=true) (ZdE:keepIn K (.ref ZiP)=true)
  (Zd1:nsIn K mainGlobals "_law_unlike"=some (some (.ref Zgv))) (Zd2:K.lookup Zgv=some ⟨Ztq,Ztr,.func (fnOf "_law_unlike" "_law_unlike" (defArgs ZaR) (defBody ZaR) (defScope ZaR) .none Zts Ztt Ztu Ztv ZkC Ztw),Ztx⟩) (Zd3:codeIn K ZkC "_law_unlike"=true) (Zct:keepIn K (.ref Zgv)=true)
  (Zha:nsIn K mainGlobals "_law_row"=some (some (.ref ZkD))) (Zhb:K.lookup ZkD=some ⟨ZwK,ZwL,.func (fnOf "_law_row" "_law_row" (defArgs Zcd) (defBody Zcd) (defScope Zcd) .none ZwM ZwN ZwO ZwP ZnV ZwQ),ZwR⟩) (Zhc:codeIn K ZnV "_law_row"=true) (Ze2:keepIn K (.ref ZkD)=true)
  (ZfW:nsIn K mainGlobals "_law_tree"=some (some (.ref ZiQ))) (ZfX:K.lookup ZiQ=some ⟨ZvY,ZvZ,.func (fnOf "_law_tree" "_law_tree" (defArgs ZbC) (defBody ZbC) (defScope ZbC) .none Zv0 Zv1 Zv2 Zv3 ZmA Zv4),Zv5⟩) (ZfY:codeIn K ZmA "_law_tree"=true) (ZdF:keepIn K (.ref ZiQ)=true)
  (Zb4:nsIn K mainGlobals "_law_counted"=some (some (.ref ZfZ))) (Zdk:K.lookup ZfZ=some ⟨Zrr,Zrs,.func (fnOf "_law_counted" "_law_counted" (defArgs Zay) (defBody Zay) (defScope Zay) .none Zrt Zru Zrv Zrw Zi8 Zrx),Zry⟩) (Zdl:codeIn K Zi8 "_law_counted"=true) (Za5:keepIn K (.ref ZfZ)=true)
  (Zf0:nsIn K mainGlobals "_law_many"=some (some (.ref ZiR))) (Zf1:K.lookup ZiR=some ⟨Zv6,Zv7,.func (fnOf "_law_many" "_law_many" (defArgs ZbD) (defBody ZbD) (defScope ZbD) .none Zv8 Zv9 Zwa Zwb ZmB Zwc),Zwd⟩) (Zf2:codeIn K ZmB "_law_many"=true) (ZdG:keepIn K (.ref ZiR)=true)
  (Zdm:nsIn K mainGlobals "_law_least_m"=some (some (.ref Zf3))) (Zdn:K.lookup Zf3=some ⟨Zrz,ZrA,.func (fnOf "_law_least_m" "_law_least_m" (defArgs Zaz) (defBody Zaz) (defScope Zaz) .none ZrB ZrC ZrD ZrE Zi9 ZrF),ZrG⟩) (Zdo:codeIn K Zi9 "_law_least_m"=true) (Zb5:keepIn K (.ref Zf3)=true)
  (Zd4:nsIn K mainGlobals "_law_within"=some (some (.ref Zgw))) (Zd5:K.lookup Zgw=some ⟨Zty,Ztz,.func (fnOf "_law_within" "_law_within" (defArgs ZaS) (defBody ZaS) (defScope ZaS) .none ZtA ZtB ZtC ZtD ZkE ZtE),ZtF⟩) (Zd6:codeIn K ZkE "_law_within"=true) (Zcu:keepIn K (.ref Zgw)=true)
  (Ze3:nsIn K mainGlobals "_law_right"=some (some (.ref ZhN))) (Ze4:K.lookup ZhN=some ⟨Zuj,Zuk,.func (fnOf "_law_right" "_law_right" (defArgs Zbd) (defBody Zbd) (defScope Zbd) .none Zul Zum Zun Zuo Zk3 Zup),Zuq⟩) (Ze5:codeIn K Zk3 "_law_right"=true) (ZcR:keepIn K (.ref ZhN)=true)
  (ZtG:nsIn K mainGlobals "law"=some (some (.ref ZwS))) (ZtH:K.lookup ZwS=some ⟨Zyi,Zyj,.func (fnOf "law" "law" (defArgs Zhx) (defBody Zhx) (defScope Zhx) .none Zxh Zxi Zxj Zxk ZtI Zxl),Zyk⟩) (ZtJ:codeIn K ZtI "law"=true) (ZtK:keepIn K (.ref ZwS)=true)
  {C_DipError:Addr} (n_DipError:nsIn K mainGlobals "DipError"=some (some (.ref C_DipError))) (x_DipError:PySem.W.excIn K C_DipError bmV newV=true) (d_DipError:PySem.W.hasDictIn K C_DipError=true) (y_DipError:PySem.W.typeIn K (.ref C_DipError)=some (.type "type"))
  {C_Unlike:Addr} (n_Unlike:nsIn K mainGlobals "Unlike"=some (some (.ref C_Unlike))) (x_Unlike:PySem.W.excIn K C_Unlike bmV newV=true) (d_Unlike:PySem.W.hasDictIn K C_Unlike=true) (y_Unlike:PySem.W.typeIn K (.ref C_Unlike)=some (.type "type"))
  {C_TooMany:Addr} (n_TooMany:nsIn K mainGlobals "TooMany"=some (some (.ref C_TooMany))) (x_TooMany:PySem.W.excIn K C_TooMany bmV newV=true) (d_TooMany:PySem.W.hasDictIn K C_TooMany=true) (y_TooMany:PySem.W.typeIn K (.ref C_TooMany)=some (.type "type"))
  {C_NoTree:Addr} (n_NoTree:nsIn K mainGlobals "NoTree"=some (some (.ref C_NoTree))) (x_NoTree:PySem.W.excIn K C_NoTree bmV newV=true) (d_NoTree:PySem.W.hasDictIn K C_NoTree=true) (y_NoTree:PySem.W.typeIn K (.ref C_NoTree)=some (.type "type"))
  {C_NoNumber:Addr} (n_NoNumber:nsIn K mainGlobals "NoNumber"=some (some (.ref C_NoNumber))) (x_NoNumber:PySem.W.excIn K C_NoNumber bmV newV=true) (d_NoNumber:PySem.W.hasDictIn K C_NoNumber=true) (y_NoNumber:PySem.W.typeIn K (.ref C_NoNumber)=some (.type "type"))
  (b_all:nsIn K mainGlobals "all"=some none)
  (b_enumerate:nsIn K mainGlobals "enumerate"=some none)
  (b_int:nsIn K mainGlobals "int"=some none)
  (b_isinstance:nsIn K mainGlobals "isinstance"=some none)
  (b_len:nsIn K mainGlobals "len"=some none)
  (b_list:nsIn K mainGlobals "list"=some none)
  (b_max:nsIn K mainGlobals "max"=some none)
  (b_range:nsIn K mainGlobals "range"=some none)
  (b_reversed:nsIn K mainGlobals "reversed"=some none)
  (b_sorted:nsIn K mainGlobals "sorted"=some none)
  (b_tuple:nsIn K mainGlobals "tuple"=some none)
  (b_zip:nsIn K mainGlobals "zip"=some none)
  {t_MOST_PLACES:Tok} (m_MOST_PLACES:nsIn K mainGlobals "MOST_PLACES"=some (some (.int 40 t_MOST_PLACES)))
  {t_MOST_FILLED:Tok} (m_MOST_FILLED:nsIn K mainGlobals "MOST_FILLED"=some (some (.int 12 t_MOST_FILLED)))
  (nd:[Zcq].Nodup)
  : ∃fd:FuncData,(∀(s:Shared) (v:Value),BindsTo s fd ⟨[v],[]⟩ [("script",v)])/\(∀p∈Zhy K mg,p.1∈ts/\K.lookup p.1=none/\∃c,PySem.W.codeHdIn K c p.1=true)/\((Zhy K mg).map (·.1)).Nodup/\∀base:Heap,K.In base->base.Ns mainGlobals mg->BM mg base->FnOk l.prog w K mg base (CXE l.prog w) 45 fa fd ["script"] (ZpF K mg):=by
 have e:=hfa.symm.trans (mg_of X G ZtG)
 cases e
 have q_DipError:clsAt mg "DipError"=C_DipError:=by unfold clsAt;rw[mg_of X G n_DipError]
 have q_Unlike:clsAt mg "Unlike"=C_Unlike:=by unfold clsAt;rw[mg_of X G n_Unlike]
 have q_TooMany:clsAt mg "TooMany"=C_TooMany:=by unfold clsAt;rw[mg_of X G n_TooMany]
 have q_NoTree:clsAt mg "NoTree"=C_NoTree:=by unfold clsAt;rw[mg_of X G n_NoTree]
 have q_NoNumber:clsAt mg "NoNumber"=C_NoNumber:=by unfold clsAt;rw[mg_of X G n_NoNumber]
 have q_Filling:clsAt mg "Filling"=C_Filling:=by unfold clsAt;rw[mg_of X G n_Filling]
 have q_MOST_PLACES:tokAt mg "MOST_PLACES"=t_MOST_PLACES:=by unfold tokAt;rw[mg_of X G m_MOST_PLACES]
 have q_MOST_FILLED:tokAt mg "MOST_FILLED"=t_MOST_FILLED:=by unfold tokAt;rw[mg_of X G m_MOST_FILLED]
 have T:Txt K mg:={
  b_all:=mg_none_of X G b_all
  b_enumerate:=mg_none_of X G b_enumerate
  b_int:=mg_none_of X G b_int
  b_isinstance:=mg_none_of X G b_isinstance
  b_len:=mg_none_of X G b_len
  b_list:=mg_none_of X G b_list
  b_max:=mg_none_of X G b_max
  b_range:=mg_none_of X G b_range
  b_reversed:=mg_none_of X G b_reversed
  b_sorted:=mg_none_of X G b_sorted
  b_tuple:=mg_none_of X G b_tuple
  b_zip:=mg_none_of X G b_zip
  c_DipError:=by rw[q_DipError];exact mg_of X G n_DipError
  x_DipError:=by rw[q_DipError];exact x_DipError
  c_Unlike:=by rw[q_Unlike];exact mg_of X G n_Unlike
  x_Unlike:=by rw[q_Unlike];exact x_Unlike
  c_TooMany:=by rw[q_TooMany];exact mg_of X G n_TooMany
  x_TooMany:=by rw[q_TooMany];exact x_TooMany
  c_NoTree:=by rw[q_NoTree];exact mg_of X G n_NoTree
  x_NoTree:=by rw[q_NoTree];exact x_NoTree
  c_NoNumber:=by rw[q_NoNumber];exact mg_of X G n_NoNumber
  x_NoNumber:=by rw[q_NoNumber];exact x_NoNumber
  c_Filling:=by rw[q_Filling];exact mg_of X G n_Filling
  cl_Filling:=by rw[q_Filling];exact⟨pg_Filling,hd_Filling,po_Filling,sa_Filling⟩
  n_Filling_tree:=by rw[q_Filling];exact na_Filling_tree
  n_Filling_most:=by rw[q_Filling];exact na_Filling_most
  n_Filling_young:=by rw[q_Filling];exact na_Filling_young
  n_Filling_spans:=by rw[q_Filling];exact na_Filling_spans
  n_Filling_outsides:=by rw[q_Filling];exact na_Filling_outsides
  n_Filling_row:=by rw[q_Filling];exact na_Filling_row
  m_MOST_PLACES:=by rw[q_MOST_PLACES];exact mg_of X G m_MOST_PLACES
  m_MOST_FILLED:=by rw[q_MOST_FILLED];exact mg_of X G m_MOST_FILLED
 }
 subst ZdT
 have ZaT:=Zu2 (mg_of X G ZcM) ZcN rfl ZdU ZdV
 have ZmC:LamD K mg "from_below" ZeR:=⟨Zcp,ZaT.2,by rw[ZaT.1];exact Zcr⟩
 have ZnW:=ZA (st:=Zej) Zkg Zkh ZhF
 have ZtL:=ZnW.binds (ps:=["elders","spine","place","keep"]) λ_ _ _ _ _ _ us hl=>by obtain⟨x0,u0,rfl,h0⟩:=le1 hl;obtain⟨x1,u1,rfl,h1⟩:=le1 h0;obtain⟨x2,u2,rfl,h2⟩:=le1 h1;obtain⟨x3,u3,rfl,h3⟩:=le1 h2;obtain rfl:=le0 h3;exact rfl
 have ZlM:=ZA (st:=ZcU) Zir Zis Zgk
 have Zq8:=ZlM.binds (ps:=["row"]) λ_ _ _ _ _ _ us hl=>by obtain⟨x0,u0,rfl,h0⟩:=le1 hl;obtain rfl:=le0 h0;exact rfl
 have ZnX:=ZA (st:=Zek) Zkj Zkk ZhG
 have ZtM:=ZnX.binds (ps:=["tree","place"]) λ_ _ _ _ _ _ us hl=>by obtain⟨x0,u0,rfl,h0⟩:=le1 hl;obtain⟨x1,u1,rfl,h1⟩:=le1 h0;obtain rfl:=le0 h1;exact rfl
 have ZlN:=ZA (st:=ZcV) Ziu Ziv Zgl
 have Zq9:=ZlN.binds (ps:=["tree"]) λ_ _ _ _ _ _ us hl=>by obtain⟨x0,u0,rfl,h0⟩:=le1 hl;obtain rfl:=le0 h0;exact rfl
 have ZiS:=ZA (st:=Zbx) ZfG ZfH ZdA
 have ZnY:=ZiS.binds (ps:=["tree"]) λ_ _ _ _ _ _ us hl=>by obtain⟨x0,u0,rfl,h0⟩:=le1 hl;obtain rfl:=le0 h0;exact rfl
 have ZkF:=ZA (st:=Zb9) ZgZ Zg0 ZeQ
 have Zo4:=ZkF.binds (ps:=["tree"]) λ_ _ _ _ _ _ us hl=>by obtain⟨x0,u0,rfl,h0⟩:=le1 hl;obtain rfl:=le0 h0;exact rfl
 have ZhO:=ZA (st:=Zba) ZcN ZeS ZcO
 have ZmD:=ZhO.binds (ps:=["tree"]) λ_ _ _ _ _ _ us hl=>by obtain⟨x0,u0,rfl,h0⟩:=le1 hl;obtain rfl:=le0 h0;exact rfl
 have Zf4:=ZA (st:=Zaw) Zdf Zdg Zb2
 have ZkG:=Zf4.binds (ps:=["numbers"]) λ_ _ _ _ _ _ us hl=>by obtain⟨x0,u0,rfl,h0⟩:=le1 hl;obtain rfl:=le0 h0;exact rfl
 have ZtN:=ZA (st:=Zh8) Zo1 Zo2 Zmv
 have Zxm:=ZtN.binds (ps:=["ways","number"]) λ_ _ _ _ _ _ us hl=>by obtain⟨x0,u0,rfl,h0⟩:=le1 hl;obtain⟨x1,u1,rfl,h1⟩:=le1 h0;obtain rfl:=le0 h1;exact rfl
 have ZkH:=ZA (st:=Zca) Zg2 Zg3 ZeT
 have Zo5:=ZkH.binds (ps:=["many","m"]) λ_ _ _ _ _ _ us hl=>by obtain⟨x0,u0,rfl,h0⟩:=le1 hl;obtain⟨x1,u1,rfl,h1⟩:=le1 h0;obtain rfl:=le0 h1;exact rfl
 have ZiT:=ZA (st:=Zby) ZfK ZfL ZdB
 have ZnZ:=ZiT.binds (ps:=["tree","young","m"]) λ_ _ _ _ _ _ us hl=>by obtain⟨x0,u0,rfl,h0⟩:=le1 hl;obtain⟨x1,u1,rfl,h1⟩:=le1 h0;obtain⟨x2,u2,rfl,h2⟩:=le1 h1;obtain rfl:=le0 h2;exact rfl
 have F_Filling___init__:=ZA (st:=ZW) l_Filling___init__ c_Filling___init__ k_Filling___init__
 have B_Filling___init__:=F_Filling___init__.binds (ps:=["self","tree","m"]) λ_ _ _ _ _ _ us hl=>by obtain⟨x0,u0,rfl,h0⟩:=le1 hl;obtain⟨x1,u1,rfl,h1⟩:=le1 h0;obtain⟨x2,u2,rfl,h2⟩:=le1 h1;obtain rfl:=le0 h2;exact rfl
 have F_Filling_how_many_rows:=ZA (st:=ZH) l_Filling_how_many_rows c_Filling_how_many_rows k_Filling_how_many_rows
 have B_Filling_how_many_rows:=F_Filling_how_many_rows.binds (ps:=["self"]) λ_ _ _ _ _ _ us hl=>by obtain⟨x0,u0,rfl,h0⟩:=le1 hl;obtain rfl:=le0 h0;exact rfl
 have F_Filling_outside_ways:=ZA (st:=ZL) l_Filling_outside_ways c_Filling_outside_ways k_Filling_outside_ways
 have B_Filling_outside_ways:=F_Filling_outside_ways.binds (ps:=["self","place"]) λ_ _ _ _ _ _ us hl=>by obtain⟨x0,u0,rfl,h0⟩:=le1 hl;obtain⟨x1,u1,rfl,h1⟩:=le1 h0;obtain rfl:=le0 h1;exact rfl
 have F_Filling_outside_by_elder:=ZA (st:=Zy) l_Filling_outside_by_elder c_Filling_outside_by_elder k_Filling_outside_by_elder
 have B_Filling_outside_by_elder:=F_Filling_outside_by_elder.binds (ps:=["self","place","elder"]) λ_ _ _ _ _ _ us hl=>by obtain⟨x0,u0,rfl,h0⟩:=le1 hl;obtain⟨x1,u1,rfl,h1⟩:=le1 h0;obtain⟨x2,u2,rfl,h2⟩:=le1 h1;obtain rfl:=le0 h2;exact rfl
 have F_Filling_onward_ways:=ZA (st:=ZN) l_Filling_onward_ways c_Filling_onward_ways k_Filling_onward_ways
 have B_Filling_onward_ways:=F_Filling_onward_ways.binds (ps:=["self","place"]) λ_ _ _ _ _ _ us hl=>by obtain⟨x0,u0,rfl,h0⟩:=le1 hl;obtain⟨x1,u1,rfl,h1⟩:=le1 h0;obtain rfl:=le0 h1;exact rfl
 have F_Filling_next_ways:=ZA (st:=ZS) l_Filling_next_ways c_Filling_next_ways k_Filling_next_ways
 have B_Filling_next_ways:=F_Filling_next_ways.binds (ps:=["self"]) λ_ _ _ _ _ _ us hl=>by obtain⟨x0,u0,rfl,h0⟩:=le1 hl;obtain rfl:=le0 h0;exact rfl
 have ZiU:=ZA (st:=Zbz) ZfN ZfO ZdC
 have Zn0:=ZiU.binds (ps:=["tree","m"]) λ_ _ _ _ _ _ us hl=>by obtain⟨x0,u0,rfl,h0⟩:=le1 hl;obtain⟨x1,u1,rfl,h1⟩:=le1 h0;obtain rfl:=le0 h1;exact rfl
 have Zn1:=ZA (st:=Zel) Zko Zkp ZhH
 have ZtO:=Zn1.binds (ps:=["tree","m","number"]) λ_ _ _ _ _ _ us hl=>by obtain⟨x0,u0,rfl,h0⟩:=le1 hl;obtain⟨x1,u1,rfl,h1⟩:=le1 h0;obtain⟨x2,u2,rfl,h2⟩:=le1 h1;obtain rfl:=le0 h2;exact rfl
 have Zgx:=ZA (st:=ZaQ) ZdZ Zd0 Zcs
 have Zk4:=Zgx.binds (ps:=["tree","place"]) λ_ _ _ _ _ _ us hl=>by obtain⟨x0,u0,rfl,h0⟩:=le1 hl;obtain⟨x1,u1,rfl,h1⟩:=le1 h0;obtain rfl:=le0 h1;exact rfl
 have ZkI:=ZA (st:=Zcb) Zg5 Zg6 ZeU
 have Zo6:=ZkI.binds (ps:=["tree"]) λ_ _ _ _ _ _ us hl=>by obtain⟨x0,u0,rfl,h0⟩:=le1 hl;obtain rfl:=le0 h0;exact rfl
 have ZhP:=ZA (st:=Zbb) ZeW ZeX ZcP
 have ZmE:=ZhP.binds (ps:=["flat","row"]) λ_ _ _ _ _ _ us hl=>by obtain⟨x0,u0,rfl,h0⟩:=le1 hl;obtain⟨x1,u1,rfl,h1⟩:=le1 h0;obtain rfl:=le0 h1;exact rfl
 have Zn2:=ZA (st:=Zem) Zkt Zku ZhJ
 have ZtP:=Zn2.binds (ps:=["flat","heights"]) λ_ _ _ _ _ _ us hl=>by obtain⟨x0,u0,rfl,h0⟩:=le1 hl;obtain⟨x1,u1,rfl,h1⟩:=le1 h0;obtain rfl:=le0 h1;exact rfl
 have Zn3:=ZA (st:=Zen) Zkw Zkx ZhK
 have ZtQ:=Zn3.binds (ps:=["tree","heights"]) λ_ _ _ _ _ _ us hl=>by obtain⟨x0,u0,rfl,h0⟩:=le1 hl;obtain⟨x1,u1,rfl,h1⟩:=le1 h0;obtain rfl:=le0 h1;exact rfl
 have ZlO:=ZA (st:=ZcW) Zix Ziy Zgm
 have Zra:=ZlO.binds (ps:=["tree","a","b"]) λ_ _ _ _ _ _ us hl=>by obtain⟨x0,u0,rfl,h0⟩:=le1 hl;obtain⟨x1,u1,rfl,h1⟩:=le1 h0;obtain⟨x2,u2,rfl,h2⟩:=le1 h1;obtain rfl:=le0 h2;exact rfl
 have Zn4:=ZA (st:=Zeo) Zkz ZkA ZhL
 have ZtR:=Zn4.binds (ps:=["tree","least","greatest"]) λ_ _ _ _ _ _ us hl=>by obtain⟨x0,u0,rfl,h0⟩:=le1 hl;obtain⟨x1,u1,rfl,h1⟩:=le1 h0;obtain⟨x2,u2,rfl,h2⟩:=le1 h1;obtain rfl:=le0 h2;exact rfl
 have ZhQ:=ZA (st:=Zbc) ZeZ Ze0 ZcQ
 have ZmF:=ZhQ.binds (ps:=["tree","floors","roofs","heights"]) λ_ _ _ _ _ _ us hl=>by obtain⟨x0,u0,rfl,h0⟩:=le1 hl;obtain⟨x1,u1,rfl,h1⟩:=le1 h0;obtain⟨x2,u2,rfl,h2⟩:=le1 h1;obtain⟨x3,u3,rfl,h3⟩:=le1 h2;obtain rfl:=le0 h3;exact rfl
 have ZkJ:=ZA (st:=Zcc) Zg8 Zg9 Ze1
 have Zo7:=ZkJ.binds (ps:=["tree","floors","roofs","a","b"]) λ_ _ _ _ _ _ us hl=>by obtain⟨x0,u0,rfl,h0⟩:=le1 hl;obtain⟨x1,u1,rfl,h1⟩:=le1 h0;obtain⟨x2,u2,rfl,h2⟩:=le1 h1;obtain⟨x3,u3,rfl,h3⟩:=le1 h2;obtain⟨x4,u4,rfl,h4⟩:=le1 h3;obtain rfl:=le0 h4;exact rfl
 have Zf5:=ZA (st:=Zax) Zdi Zdj Zb3
 have ZkK:=Zf5.binds (ps:=["tree","least","greatest","told"]) λ_ _ _ _ _ _ us hl=>by obtain⟨x0,u0,rfl,h0⟩:=le1 hl;obtain⟨x1,u1,rfl,h1⟩:=le1 h0;obtain⟨x2,u2,rfl,h2⟩:=le1 h1;obtain⟨x3,u3,rfl,h3⟩:=le1 h2;obtain rfl:=le0 h3;exact rfl
 have ZiV:=ZA (st:=ZbA) ZfR ZfS ZdD
 have Zn5:=ZiV.binds (ps:=["cell"]) λ_ _ _ _ _ _ us hl=>by obtain⟨x0,u0,rfl,h0⟩:=le1 hl;obtain rfl:=le0 h0;exact rfl
 have ZiW:=ZA (st:=ZbB) ZfU ZfV ZdE
 have Zn6:=ZiW.binds (ps:=["pot","many"]) λ_ _ _ _ _ _ us hl=>by obtain⟨x0,u0,rfl,h0⟩:=le1 hl;obtain⟨x1,u1,rfl,h1⟩:=le1 h0;obtain rfl:=le0 h1;exact rfl
 have Zgy:=ZA (st:=ZaR) Zd2 Zd3 Zct
 have Zk5:=Zgy.binds (ps:=["pot","many"]) λ_ _ _ _ _ _ us hl=>by obtain⟨x0,u0,rfl,h0⟩:=le1 hl;obtain⟨x1,u1,rfl,h1⟩:=le1 h0;obtain rfl:=le0 h1;exact rfl
 have ZkL:=ZA (st:=Zcd) Zhb Zhc Ze2
 have Zo8:=ZkL.binds (ps:=["pot","most"]) λ_ _ _ _ _ _ us hl=>by obtain⟨x0,u0,rfl,h0⟩:=le1 hl;obtain⟨x1,u1,rfl,h1⟩:=le1 h0;obtain rfl:=le0 h1;exact rfl
 have ZiX:=ZA (st:=ZbC) ZfX ZfY ZdF
 have Zn7:=ZiX.binds (ps:=["row"]) λ_ _ _ _ _ _ us hl=>by obtain⟨x0,u0,rfl,h0⟩:=le1 hl;obtain rfl:=le0 h0;exact rfl
 have Zdp:=ZA (st:=Zay) Zdk Zdl Za5
 have Zf6:=Zdp.binds (ps:=["tree","place","least","m"]) λ_ _ _ _ _ _ us hl=>by obtain⟨x0,u0,rfl,h0⟩:=le1 hl;obtain⟨x1,u1,rfl,h1⟩:=le1 h0;obtain⟨x2,u2,rfl,h2⟩:=le1 h1;obtain⟨x3,u3,rfl,h3⟩:=le1 h2;obtain rfl:=le0 h3;exact rfl
 have ZiY:=ZA (st:=ZbD) Zf1 Zf2 ZdG
 have Zn8:=ZiY.binds (ps:=["tree","m"]) λ_ _ _ _ _ _ us hl=>by obtain⟨x0,u0,rfl,h0⟩:=le1 hl;obtain⟨x1,u1,rfl,h1⟩:=le1 h0;obtain rfl:=le0 h1;exact rfl
 have Zf7:=ZA (st:=Zaz) Zdn Zdo Zb5
 have ZkM:=Zf7.binds (ps:=["tree"]) λ_ _ _ _ _ _ us hl=>by obtain⟨x0,u0,rfl,h0⟩:=le1 hl;obtain rfl:=le0 h0;exact rfl
 have Zgz:=ZA (st:=ZaS) Zd5 Zd6 Zcu
 have Zk6:=Zgz.binds (ps:=["row","least","most"]) λ_ _ _ _ _ _ us hl=>by obtain⟨x0,u0,rfl,h0⟩:=le1 hl;obtain⟨x1,u1,rfl,h1⟩:=le1 h0;obtain⟨x2,u2,rfl,h2⟩:=le1 h1;obtain rfl:=le0 h2;exact rfl
 have ZhR:=ZA (st:=Zbd) Ze4 Ze5 ZcR
 have ZmG:=ZhR.binds (ps:=["tree","rows","least","most"]) λ_ _ _ _ _ _ us hl=>by obtain⟨x0,u0,rfl,h0⟩:=le1 hl;obtain⟨x1,u1,rfl,h1⟩:=le1 h0;obtain⟨x2,u2,rfl,h2⟩:=le1 h1;obtain⟨x3,u3,rfl,h3⟩:=le1 h2;obtain rfl:=le0 h3;exact rfl
 have Zx9:=ZA (st:=Zhx) ZtH ZtJ ZtK
 refine⟨fnOf "law" "law" (defArgs Zhx) (defBody Zhx) (defScope Zhx) .none Zxh Zxi Zxj Zxk ZtI Zxl,λs v=>.of_eq rfl,?tb,?nd,λbase _ _ B=>?_⟩
 case tb =>
  intro p hp
  unfold Zhy at hp
  simp only[Yl,List.not_mem_nil,or_false]at hp
  subst hp
  ·exact⟨by rw[ZaT.1];exact ZdX,by rw[ZaT.1];exact ZdW,Zcp,by rw[ZaT.1];exact Zcr⟩
 case nd =>
  unfold Zhy
  simp only[YE,List.map_nil]
  rw[ZaT.1]
  exact nd
 have Zka:Callee l.prog w K mg base "settle" 1 ["elders","spine","place","keep"] (Zh9 K mg):=⟨_,_,mg_of X G Zkf,ZhF,ZtL,ZqO ZnW T⟩
 have Zim:Callee l.prog w K mg base "tree_of" 2 ["row"] (ZgM K mg):=⟨_,_,mg_of X G Ziq,Zgk,Zq8,ZoS ZlM Zka T⟩
 have Zad:Callee l.prog w K mg base "way_up" 1 ["tree","place"] (Zce K mg):=⟨_,_,mg_of X G Zki,ZhG,ZtM,ZqP ZnX T⟩
 have Zin:Callee l.prog w K mg base "is_tree" 3 ["tree"] (ZgN K mg):=⟨_,_,mg_of X G Zit,Zgl,Zq9,ZoT ZlN Zim Zad T⟩
 have Zaq:Callee l.prog w K mg base "need_tree" 4 ["tree"] (ZbT K mg):=⟨_,_,mg_of X G ZfF,ZdA,ZnY,Zmp ZiS Zin T⟩
 have Zci:Callee l.prog w K mg base "need_few" 1 ["many","m"] (Zdu K mg):=⟨_,_,mg_of X G Zg1,ZeT,Zo5,Znz ZkH T⟩
 have ZgV:Callee l.prog w K mg base "young_of" 1 ["tree"] (Zfu K mg):=⟨_,_,mg_of X G ZgY,ZeQ,Zo4,Zny ZkF T⟩
 have Zbf:Callee l.prog w K mg base "from_below" 5 ["tree"] (Zcn K mg):=⟨_,_,mg_of X G ZcM,ZcO,ZmD,ZkW ZhO Zad ZmC B T⟩
 have ZaB:Callee l.prog w K mg base "running_sums" 1 ["numbers"] (Zbm K mg):=⟨_,_,mg_of X G Zde,Zb2,ZkG,Zi2 Zf4 T⟩
 have ZfA:Callee l.prog w K mg base "span_ways" 6 ["tree","young","m"] (ZeG K mg):=⟨_,_,mg_of X G ZfJ,ZdB,ZnZ,Zmq ZiT Zbf ZaB T⟩
 have GI_Filling:Zjj l.prog w K mg base "Filling" 7 ["self","tree","m"] (Zat K mg):=⟨_,_,by rw[q_Filling];exact⟨mk_Filling,a_Filling___init__,i_Filling___init__,kc_Filling⟩,by rw[q_Filling];exact mg_of X G n_Filling,B_Filling___init__,Zgo F_Filling___init__ ZgV ZfA T⟩
 have GM_Filling_how_many_rows:ZaF l.prog w K mg base "Filling" "how_many_rows" 1 ["self"] (ZZ K mg):=⟨_,_,T.cl_Filling,by rw[q_Filling];exact⟨a_Filling_how_many_rows,i_Filling_how_many_rows,k_Filling_how_many_rows⟩,B_Filling_how_many_rows,ZdP F_Filling_how_many_rows T⟩
 have ZfC:Callee l.prog w K mg base "many_rows" 9 ["tree","m"] (ZeH K mg):=⟨_,_,mg_of X G ZfM,ZdC,Zn0,Zmr ZiU Zaq Zci GI_Filling GM_Filling_how_many_rows T⟩
 have ZoX:Callee l.prog w K mg base "pick" 1 ["ways","number"] (Zmi K mg):=⟨_,_,mg_of X G Zo0,Zmv,Zxm,Zvh ZtN T⟩
 have R_fam:∀n,ZaF l.prog w K mg base "Filling" "outside_ways" (2+n) ["self","place"] (ZV n K mg)/\ZaF l.prog w K mg base "Filling" "outside_by_elder" (2+n) ["self","place","elder"] (Z3 n K mg)/\ZaF l.prog w K mg base "Filling" "onward_ways" (2+n) ["self","place"] (Z0 n K mg):=λn=>by
  induction n with
  |zero=>exact⟨⟨_,_,T.cl_Filling,by rw[q_Filling];exact⟨a_Filling_outside_ways,i_Filling_outside_ways,k_Filling_outside_ways⟩,B_Filling_outside_ways,F_Filling_outside_ways.okX (k:=1) ZbF (λvs H Q E h=>False.elim h) (λcdv A outer s H vs Q E hr h=>False.elim h)⟩,⟨_,_,T.cl_Filling,by rw[q_Filling];exact⟨a_Filling_outside_by_elder,i_Filling_outside_by_elder,k_Filling_outside_by_elder⟩,B_Filling_outside_by_elder,F_Filling_outside_by_elder.okX (k:=1) Z6 (λvs H Q E h=>False.elim h) (λcdv A outer s H vs Q E hr h=>False.elim h)⟩,⟨_,_,T.cl_Filling,by rw[q_Filling];exact⟨a_Filling_onward_ways,i_Filling_onward_ways,k_Filling_onward_ways⟩,B_Filling_onward_ways,F_Filling_onward_ways.okX (k:=1) ZaI (λvs H Q E h=>False.elim h) (λcdv A outer s H vs Q E hr h=>False.elim h)⟩⟩
  |succ n ih =>
   obtain⟨ih_Filling_outside_ways,ih_Filling_outside_by_elder,ih_Filling_onward_ways⟩:=ih
   exact⟨⟨_,_,T.cl_Filling,by rw[q_Filling];exact⟨a_Filling_outside_ways,i_Filling_outside_ways,k_Filling_outside_ways⟩,B_Filling_outside_ways,Zeq F_Filling_outside_ways ih_Filling_outside_by_elder T⟩,⟨_,_,T.cl_Filling,by rw[q_Filling];exact⟨a_Filling_outside_by_elder,i_Filling_outside_by_elder,k_Filling_outside_by_elder⟩,B_Filling_outside_by_elder,ZcL F_Filling_outside_by_elder ZaB ih_Filling_outside_ways ih_Filling_onward_ways T⟩,⟨_,_,T.cl_Filling,by rw[q_Filling];exact⟨a_Filling_onward_ways,i_Filling_onward_ways,k_Filling_onward_ways⟩,B_Filling_onward_ways,ZeO F_Filling_onward_ways ih_Filling_outside_ways T⟩⟩
 obtain⟨GM_Filling_outside_ways,GM_Filling_outside_by_elder,GM_Filling_onward_ways⟩:=R_fam 40
 have GM_Filling_next_ways:ZaF l.prog w K mg base "Filling" "next_ways" 43 ["self"] (Za3 K mg):=⟨_,_,T.cl_Filling,by rw[q_Filling];exact⟨a_Filling_next_ways,i_Filling_next_ways,k_Filling_next_ways⟩,B_Filling_next_ways,Zfz F_Filling_next_ways GM_Filling_onward_ways T⟩
 have Zke:Callee l.prog w K mg base "row_at" 44 ["tree","m","number"] (Zid K mg):=⟨_,_,mg_of X G Zkn,ZhH,ZtO,ZqS Zn1 Zaq ZoX Zci GI_Filling GM_Filling_how_many_rows GM_Filling_next_ways T⟩
 have ZfD:Callee l.prog w K mg base "_law_deal" 1 ["cell"] (ZeF K mg):=⟨_,_,mg_of X G ZfQ,ZdD,Zn5,Zmm ZiV T⟩
 have ZM:Callee l.prog w K mg base "_law_take" 1 ["pot","many"] (ZbS K mg):=⟨_,_,mg_of X G ZfT,ZdE,Zn6,Zmn ZiW T⟩
 have ZdQ:Callee l.prog w K mg base "_law_unlike" 2 ["pot","many"] (Zc3 K mg):=⟨_,_,mg_of X G Zd1,Zct,Zk5,Zj5 Zgy ZM T⟩
 have ZgX:Callee l.prog w K mg base "_law_row" 3 ["pot","most"] (Zft K mg):=⟨_,_,mg_of X G Zha,Ze2,Zo8,Znx ZkL ZM ZdQ T⟩
 have ZfE:Callee l.prog w K mg base "_law_tree" 1 ["row"] (ZeM K mg):=⟨_,_,mg_of X G ZfW,ZdF,Zn7,Zmo ZiX T⟩
 have ZkN:∀n,Callee l.prog w K mg base "_law_counted" (1+n) ["tree","place","least","m"] (ZaX n K mg):=λn=>by
  induction n with
  |zero=>exact⟨_,_,mg_of X G Zb4,Za5,Zf6,Zdp.okX (k:=0) ZJ (λvs H Q E h=>False.elim h) (λcdv A outer s H vs Q E hr h=>False.elim h)⟩
  |succ n ih=>exact⟨_,_,mg_of X G Zb4,Za5,Zf6,Zi3 Zdp ih T⟩
 have ZaC:Callee l.prog w K mg base "_law_counted" 14 ["tree","place","least","m"] (Ze7 K mg):=ZkN 13
 have ZfB:Callee l.prog w K mg base "_law_many" 15 ["tree","m"] (ZeL K mg):=⟨_,_,mg_of X G Zf0,ZdG,Zn8,Zms ZiY ZaC T⟩
 have Zdd:Callee l.prog w K mg base "_law_least_m" 16 ["tree"] (ZcF K mg):=⟨_,_,mg_of X G Zdm,Zb5,ZkM,Zi4 Zf7 ZfB T⟩
 have ZdR:Callee l.prog w K mg base "flat_number" 2 ["tree","place"] (Zc7 K mg):=⟨_,_,mg_of X G ZdY,Zcs,Zk4,Zj8 Zgx Zad T⟩
 have Zcj:Callee l.prog w K mg base "flattest" 5 ["tree"] (Zdy K mg):=⟨_,_,mg_of X G Zg4,ZeU,Zo6,ZnH ZkI Zaq ZdR T⟩
 have Z7:Callee l.prog w K mg base "heights_of" 1 ["flat","row"] (Zco K mg):=⟨_,_,mg_of X G ZeV,ZcP,ZmE,ZkX ZhP T⟩
 have Zkb:Callee l.prog w K mg base "row_by" 1 ["flat","heights"] (Zig K mg):=⟨_,_,mg_of X G Zks,ZhJ,ZtP,ZqZ Zn2 T⟩
 have Zkc:Callee l.prog w K mg base "lifted" 6 ["tree","heights"] (Zih K mg):=⟨_,_,mg_of X G Zkv,ZhK,ZtQ,Zq0 Zn3 Zbf T⟩
 have Zkd:Callee l.prog w K mg base "fitted" 7 ["tree","least","greatest"] (Zii K mg):=⟨_,_,mg_of X G Zky,ZhL,ZtR,Zq1 Zn4 Zad Zcj Z7 Zkb Zkc T⟩
 have ZeP:Callee l.prog w K mg base "fits_least" 1 ["tree","floors","roofs","heights"] (ZdL K mg):=⟨_,_,mg_of X G ZeY,ZcQ,ZmF,ZkY ZhQ T⟩
 have Zio:Callee l.prog w K mg base "is_over" 2 ["tree","a","b"] (ZgR K mg):=⟨_,_,mg_of X G Ziw,Zgm,Zra,ZoW ZlO Zad T⟩
 have ZgW:Callee l.prog w K mg base "is_clash" 3 ["tree","floors","roofs","a","b"] (Zfy K mg):=⟨_,_,mg_of X G Zg7,Ze1,Zo7,ZnI ZkJ Zio T⟩
 have Zdc:Callee l.prog w K mg base "fitted_right" 6 ["tree","least","greatest","told"] (ZcG K mg):=⟨_,_,mg_of X G Zdh,Zb3,ZkK,Zi5 Zf5 Zcj Z7 ZeP ZgW T⟩
 have ZdS:Callee l.prog w K mg base "_law_within" 1 ["row","least","most"] (Zc9 K mg):=⟨_,_,mg_of X G Zd4,Zcu,Zk6,Zj9 Zgz T⟩
 have Zb1:Callee l.prog w K mg base "_law_right" 8 ["tree","rows","least","most"] (ZdM K mg):=⟨_,_,mg_of X G Ze3,ZcR,ZmG,ZkZ ZhR Zkd Zdc ZdS T⟩
 exact ok_law Zx9 ZfC Zke ZfD ZM ZgX ZfE Zdd Zb1 T
theorem walk {l:PySem.W.OpenLaw}{q:Program}{loose:List Str}{XP:(Str->Option Value)->Heap->Prop}{YP:World->Heap->Prop}{d:DefRec}{K:Params->PySem.W.Frag}{ts:List Addr} (hn:l.most=some 63) (hdf:d.params.defaults=[])
  (hY:∀(w:World) (h:Heap),YP w h->(K w.params).In h) (hY2:∀(w:World) (h:Heap),YP w h->∀P∈ts,h.get? P=some (PySem.W.tabObj #[]))
  (F:∀(w:World) (mg:Str->Option Value) (fa:Addr) (h:Heap),(K w.params).In h->h.Ns mainGlobals mg->mg d.name=some (.ref fa) ->
   ∃fd:FuncData,(∀(s:Shared) (u:Value),BindsTo s fd ⟨[u],[]⟩ [("script",u)])/\(∀p∈Zhy (K w.params) mg,p.1∈ts/\(K w.params).lookup p.1=none/\∃c,PySem.W.codeHdIn (K w.params) c p.1=true)/\((Zhy (K w.params) mg).map (·.1)).Nodup/\∀base:Heap,(K w.params).In base->base.Ns mainGlobals mg->BM mg base->FnOk l.prog w (K w.params) mg base (CXE l.prog w) 45 fa fd ["script"] (ZpF (K w.params) mg)) :
  PySem.W.WalkO q loose XP YP l.row.toRowW d [] (λf vs=>PySem.call f vs) :=
 L2.ZsA (n:=63) (k:=45) (x:="script") (ts:=ts) (tabs:=Zhy) (CX:=λw=>CXE l.prog w) (sp:=λw mg=>ZpF (K w.params) mg) hn (by decide) hdf ⟨rfl,by decide,by decide⟩ hY hY2 F (λ_ _ _ a ns hl hS hT=>⟨a,ns,rfl,hS,hl,hT,λ_=>rfl⟩) λ_ _ _ _ _ ⟨_,_,_,_,_,_,_,z⟩=>z
end K93
def PySem.W.Fast.tw18163621774878133373:Unit:=()
def PySem.W.Fast.tw4979095793896528359:Unit:=()
def PySem.W.Fast.tw16070511548942857564:Unit:=()
def PySem.W.Fast.tw11510986274049502023:Unit:=()
def PySem.W.Fast.tw9584155399979656706:Unit:=()
def PySem.W.Fast.tw3500509740089240289:Unit:=()
def PySem.W.Fast.tw16440942703333817470:Unit:=()
def PySem.W.Fast.tw9118843096023774924:Unit:=()
def PySem.W.Fast.tw10651881585044824860:Unit:=()
def PySem.W.Fast.tw13491008311783384371:Unit:=()
def PySem.W.Fast.tw14512786493239119082:Unit:=()
def PySem.W.Fast.tw937926338377226478:Unit:=()
def PySem.W.Fast.tw16862553459436358071:Unit:=()
def PySem.W.Fast.tw486161500079314686:Unit:=()
def PySem.W.Fast.tw12761647826423796331:Unit:=()
def PySem.W.Fast.tw13157746749754420967:Unit:=()
def PySem.W.Fast.tw13716851595628680379:Unit:=()
def PySem.W.Fast.tw8594711281358648570:Unit:=()
def PySem.W.Fast.tw14330820322637881541:Unit:=()
def PySem.W.Fast.tw7732551871916236914:Unit:=()
def PySem.W.Fast.tw11417760267107403426:Unit:=()
def PySem.W.Fast.tw8761976191686537026:Unit:=()
def PySem.W.Fast.tw1832677689232432673:Unit:=()
def PySem.W.Fast.tw14546620731627581499:Unit:=()
def PySem.W.Fast.tw4405604819062133771:Unit:=()
def PySem.W.Fast.tw3348197813422433994:Unit:=()
def PySem.W.Fast.tw13664850855765236832:Unit:=()
def PySem.W.Fast.tw11268045762859088054:Unit:=()
def PySem.W.Fast.tw9784219681856065788:Unit:=()
def PySem.W.Fast.tw5478841790866742272:Unit:=()
def PySem.W.Fast.tw9190818938300184106:Unit:=()
def PySem.W.Fast.tw805031670302135359:Unit:=()
def PySem.W.Fast.tw5549371285585332840:Unit:=()
def PySem.W.Fast.tw8345381133338651547:Unit:=()
def PySem.W.Fast.tw2394525605445148257:Unit:=()
def PySem.W.Fast.tw3339758817078595691:Unit:=()
def PySem.W.Fast.tw13309630372929852326:Unit:=()
def PySem.W.Fast.tw9656740318355986749:Unit:=()
def PySem.W.Fast.tw810366108361036732:Unit:=()
def PySem.W.Fast.tw6454233239664697921:Unit:=()
def PySem.W.Fast.tw7544605518642261308:Unit:=()
def PySem.W.Fast.tw9466761596588263713:Unit:=()
def PySem.W.Fast.tw11184294909052328084:Unit:=()
def PySem.W.Fast.tw154578266261686819:Unit:=()
def PySem.W.Fast.tw8704531732767504234:Unit:=()
def PySem.W.Fast.tw6211216375396407088:Unit:=()
def PySem.W.Fast.tw10999922738322701536:Unit:=()
def PySem.W.Fast.tw10126902118337936197:Unit:=()
def PySem.W.Fast.tw2871371840113268176:Unit:=()
def PySem.W.Fast.tw17149998198206251602:Unit:=()
def PySem.W.Fast.tw4928527566235906513:Unit:=()
def PySem.W.Fast.tw15303768211419243443:Unit:=()
def PySem.W.Fast.tw16300152712015314647:Unit:=()
def PySem.W.Fast.tw5836126432399467829:Unit:=()
def PySem.W.Fast.tw11392831382237138678:Unit:=()
def PySem.W.Fast.tw18182796729563516546:Unit:=()
def PySem.W.Fast.tw3861224345135817833:Unit:=()
def PySem.W.Fast.tw12655750947395264116:Unit:=()
def PySem.W.Fast.tw5209893776378346680:Unit:=()
def PySem.W.Fast.tw15305294665545174558:Unit:=()
def PySem.W.Fast.tw14675343104775043122:Unit:=()
def PySem.W.Fast.tw1134251502747358245:Unit:=()
def PySem.W.Fast.tw1639522902418865590:Unit:=()
def PySem.W.Fast.tw10879353811560564560:Unit:=()
def PySem.W.Fast.tw16702866645155175676:Unit:=()
def PySem.W.Fast.tw4585780044746816875:Unit:=()
def PySem.W.Fast.tw14565136773466681304:Unit:=()
def PySem.W.Fast.tw13037883150120795581:Unit:=()
def PySem.W.Fast.tw8494885456633200143:Unit:=()
def PySem.W.Fast.tw17405335847560216071:Unit:=()
def PySem.W.Fast.tw15640605895887561159:Unit:=()
def PySem.W.Fast.tw837723203796778653:Unit:=()
def PySem.W.Fast.tw11939496479313784434:Unit:=()
def PySem.W.Fast.tw16223210827619419796:Unit:=()
def PySem.W.Fast.tw10340654279030908106:Unit:=()
def PySem.W.Fast.tw16238140562057021110:Unit:=()
def PySem.W.Fast.tw4130240342404717301:Unit:=()
def PySem.W.Fast.tw9419760946289166920:Unit:=()
def PySem.W.Fast.tw1810962401921103725:Unit:=()
def PySem.W.Fast.tw4687674411342183135:Unit:=()
def PySem.W.Fast.tw2968944129644946059:Unit:=()
def PySem.W.Fast.tw2540063889922561868:Unit:=()
def PySem.W.Fast.tw909067448459938556:Unit:=()
def PySem.W.Fast.tw16308107962946025306:Unit:=()
def PySem.W.Fast.tw4524647528780627905:Unit:=()
def PySem.W.Fast.tw3317216041419426924:Unit:=()
def PySem.W.Fast.tw17037620335436113691:Unit:=()
def PySem.W.Fast.tw16809058300743910755:Unit:=()
def PySem.W.Fast.tw16125722148839918272:Unit:=()
def PySem.W.Fast.tw9760784429022476112:Unit:=()
def PySem.W.Fast.tw15556351307533346465:Unit:=()
def PySem.W.Fast.tw6486673921701857599:Unit:=()
def PySem.W.Fast.tw10035056648710640048:Unit:=()
def PySem.W.Fast.tw9150106681838702238:Unit:=()
def PySem.W.Fast.tw8267543536451114988:Unit:=()
def PySem.W.Fast.tw5677727402693371615:Unit:=()
def PySem.W.Fast.tw1888551677303084375:Unit:=()
def PySem.W.Fast.tw17256904749762092775:Unit:=()
def PySem.W.Fast.tw15281873940245332514:Unit:=()
def PySem.W.Fast.tw3060712265607755897:Unit:=()
def PySem.W.Fast.tw12370018751748986963:Unit:=()
def PySem.W.Fast.tw15409538311756569788:Unit:=()
def PySem.W.Fast.tw1948670229434437243:Unit:=()
def PySem.W.Fast.tw9166495446098552259:Unit:=()
def PySem.W.Fast.tw4483305504500554631:Unit:=()
def PySem.W.Fast.tw5679443137907082404:Unit:=()
def PySem.W.Fast.tw16821808769777503313:Unit:=()
def PySem.W.Fast.tw10714190459521521567:Unit:=()
def PySem.W.Fast.tw16883032145341173375:Unit:=()
def PySem.W.Fast.tw15065792329875279054:Unit:=()
def PySem.W.Fast.tw14345153410281436753:Unit:=()
def PySem.W.Fast.tw14619979418819791480:Unit:=()
def PySem.W.Fast.tw13183590999648818498:Unit:=()
def PySem.W.Fast.tw9885127079741464533:Unit:=()
open PySem PySem.W PyProof.Rows
set_option maxRecDepth 100000 in
set_option maxHeartbeats 0 in
theorem PySem.Challenge.cw_dipkin_k93_whole_rows_within_bounds_holds : PySem.Challenge.rw_dipkin_k93_whole_rows_within_bounds.Holds := by
 w_on;o_law;k_head;(case hw=>w_witness2)
 k_fill
 refine K93.walk (l:=PySem.Challenge.rw_dipkin_k93_whole_rows_within_bounds) rfl rfl (λw h Y=>PySem.W.km_in_of Y) (λw h Y=>PySem.W.km_tabs_of Y) ?F
 case F =>
  intro w mg fa h KX G hmg
  refine' K93.all_mk KX G hmg ?n_Filling ?pg_Filling ?hd_Filling ?po_Filling ?sa_Filling ?mk_Filling ?kc_Filling ?na_Filling_tree ?na_Filling_most ?na_Filling_young ?na_Filling_spans ?na_Filling_outsides ?na_Filling_row ?Zkf ?Zkg ?Zkh ?ZhF ?Ziq ?Zir ?Zis ?Zgk ?Zki ?Zkj ?Zkk ?ZhG ?Zit ?Ziu ?Ziv ?Zgl ?ZfF ?ZfG ?ZfH ?ZdA ?ZgY ?ZgZ ?Zg0 ?ZeQ ?ZcM ?ZcN ?ZeS ?ZcO ?ZdT ?ZdU ?ZdV ?Zcr ?ZdW ?ZdX ?Zde ?Zdf ?Zdg ?Zb2 ?Zo0 ?Zo1 ?Zo2 ?Zmv ?Zg1 ?Zg2 ?Zg3 ?ZeT ?ZfJ ?ZfK ?ZfL ?ZdB ?a_Filling___init__ ?i_Filling___init__ ?l_Filling___init__ ?c_Filling___init__ ?k_Filling___init__ ?a_Filling_how_many_rows ?i_Filling_how_many_rows ?l_Filling_how_many_rows ?c_Filling_how_many_rows ?k_Filling_how_many_rows ?a_Filling_outside_ways ?i_Filling_outside_ways ?l_Filling_outside_ways ?c_Filling_outside_ways ?k_Filling_outside_ways ?a_Filling_outside_by_elder ?i_Filling_outside_by_elder ?l_Filling_outside_by_elder ?c_Filling_outside_by_elder ?k_Filling_outside_by_elder ?a_Filling_onward_ways ?i_Filling_onward_ways ?l_Filling_onward_ways ?c_Filling_onward_ways ?k_Filling_onward_ways ?a_Filling_next_ways ?i_Filling_next_ways ?l_Filling_next_ways ?c_Filling_next_ways ?k_Filling_next_ways ?ZfM ?ZfN ?ZfO ?ZdC ?Zkn ?Zko ?Zkp ?ZhH ?ZdY ?ZdZ ?Zd0 ?Zcs ?Zg4 ?Zg5 ?Zg6 ?ZeU ?ZeV ?ZeW ?ZeX ?ZcP ?Zks ?Zkt ?Zku ?ZhJ ?Zkv ?Zkw ?Zkx ?ZhK ?Ziw ?Zix ?Ziy ?Zgm ?Zky ?Zkz ?ZkA ?ZhL ?ZeY ?ZeZ ?Ze0 ?ZcQ ?Zg7 ?Zg8 ?Zg9 ?Ze1 ?Zdh ?Zdi ?Zdj ?Zb3 ?ZfQ ?ZfR ?ZfS ?ZdD ?ZfT ?ZfU ?ZfV ?ZdE ?Zd1 ?Zd2 ?Zd3 ?Zct ?Zha ?Zhb ?Zhc ?Ze2 ?ZfW ?ZfX ?ZfY ?ZdF ?Zb4 ?Zdk ?Zdl ?Za5 ?Zf0 ?Zf1 ?Zf2 ?ZdG ?Zdm ?Zdn ?Zdo ?Zb5 ?Zd4 ?Zd5 ?Zd6 ?Zcu ?Ze3 ?Ze4 ?Ze5 ?ZcR ?ZtG ?ZtH ?ZtJ ?ZtK ?n_DipError ?x_DipError ?d_DipError ?y_DipError ?n_Unlike ?x_Unlike ?d_Unlike ?y_Unlike ?n_TooMany ?x_TooMany ?d_TooMany ?y_TooMany ?n_NoTree ?x_NoTree ?d_NoTree ?y_NoTree ?n_NoNumber ?x_NoNumber ?d_NoNumber ?y_NoNumber ?b_all ?b_enumerate ?b_int ?b_isinstance ?b_len ?b_list ?b_max ?b_range ?b_reversed ?b_sorted ?b_tuple ?b_zip ?m_MOST_PLACES ?m_MOST_FILLED ?nd
  (case n_Filling|pg_Filling|hd_Filling|po_Filling|sa_Filling|mk_Filling|kc_Filling|na_Filling_tree|na_Filling_most|na_Filling_young|na_Filling_spans|na_Filling_outsides|na_Filling_row|Zkf|Zkg|Zkh|ZhF|Ziq|Zir|Zis|Zgk|Zki|Zkj|Zkk|ZhG|Zit|Ziu|Ziv|Zgl|ZfF|ZfG|ZfH|ZdA|ZgY|ZgZ|Zg0|ZeQ|ZcM|ZcN|ZeS|ZcO=>k_is)
  (case ZdT=>exact rfl)
  (case ZdU=>k_is)
  (case ZdV=>exact rfl)
  (case Zcr=>kernel_rfl)
  (case ZdW=>kernel_rfl)
  (case ZdX=>decide)
  (case Zde|Zdf|Zdg|Zb2|Zo0|Zo1|Zo2|Zmv|Zg1|Zg2|Zg3|ZeT|ZfJ|ZfK|ZfL|ZdB|a_Filling___init__|i_Filling___init__|l_Filling___init__|c_Filling___init__|k_Filling___init__|a_Filling_how_many_rows|i_Filling_how_many_rows|l_Filling_how_many_rows|c_Filling_how_many_rows|k_Filling_how_many_rows|a_Filling_outside_ways|i_Filling_outside_ways|l_Filling_outside_ways|c_Filling_outside_ways|k_Filling_outside_ways|a_Filling_outside_by_elder|i_Filling_outside_by_elder|l_Filling_outside_by_elder|c_Filling_outside_by_elder|k_Filling_outside_by_elder|a_Filling_onward_ways|i_Filling_onward_ways|l_Filling_onward_ways|c_Filling_onward_ways|k_Filling_onward_ways|a_Filling_next_ways|i_Filling_next_ways|l_Filling_next_ways|c_Filling_next_ways|k_Filling_next_ways|ZfM|ZfN|ZfO|ZdC|Zkn|Zko|Zkp|ZhH|ZdY|ZdZ|Zd0|Zcs|Zg4|Zg5|Zg6|ZeU|ZeV|ZeW|ZeX|ZcP|Zks|Zkt|Zku|ZhJ|Zkv|Zkw|Zkx|ZhK|Ziw|Zix|Ziy|Zgm|Zky|Zkz|ZkA|ZhL|ZeY|ZeZ|Ze0|ZcQ|Zg7|Zg8|Zg9|Ze1|Zdh|Zdi|Zdj|Zb3|ZfQ|ZfR|ZfS|ZdD|ZfT|ZfU|ZfV|ZdE|Zd1|Zd2|Zd3|Zct|Zha|Zhb|Zhc|Ze2|ZfW|ZfX|ZfY|ZdF|Zb4|Zdk|Zdl|Za5|Zf0|Zf1|Zf2|ZdG|Zdm|Zdn|Zdo|Zb5|Zd4|Zd5|Zd6|Zcu|Ze3|Ze4|Ze5|ZcR|ZtG|ZtH|ZtJ|ZtK|n_DipError=>k_is)
  (case x_DipError=>k_exc)
  (case d_DipError|y_DipError|n_Unlike=>k_is)
  (case x_Unlike=>k_exc)
  (case d_Unlike|y_Unlike|n_TooMany=>k_is)
  (case x_TooMany=>k_exc)
  (case d_TooMany|y_TooMany|n_NoTree=>k_is)
  (case x_NoTree=>k_exc)
  (case d_NoTree|y_NoTree|n_NoNumber=>k_is)
  (case x_NoNumber=>k_exc)
  (case d_NoNumber|y_NoNumber|b_all|b_enumerate|b_int|b_isinstance|b_len|b_list|b_max|b_range|b_reversed|b_sorted|b_tuple|b_zip|m_MOST_PLACES|m_MOST_FILLED=>k_is)
  (case nd=>decide)
