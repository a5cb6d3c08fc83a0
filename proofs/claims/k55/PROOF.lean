import PyProof.Rows.All
import Wide.All
import OpenK.AllK
import Wide.FinOn
import Lean
import PyProof.EqAt
import PyProof.EqKinds
import PyProof.TupleCall
import PyProof.MeetsSeq
import PyProof.NeKinds
import PyProof.TupleOfSeq
import PyProof.ListRange
import PyProof.TupleOfGen
import PyProof.ZipIter
import KE.KRevIter
import PyProof.StrWalks
import PyProof.StrBlock2
import PyProof.MeetsStr
import PyProof.StrCalls2
import PyProof.StrLawsIn
import KE.KIntText
import PyProof.StrLawsTight
import PyProof.StrLawsChain
import PyProof.StrLawsAffix
import PyProof.Rows.StrItems
import PyProof.Rows.ReprOcc
import KE.KDictSum
import PyProof.Rows.SeqMore
import KE.KDictList
import KE.KStateDown
import PyProof.StrBlockI
import PyProof.FactsAll.NoneType_1
import PyProof.FString2
import PyProof.TupleKey
import PySem.Challenge.RW_dipkin_k55_loose_ones_refused
set_option Elab.async false
set_option linter.all false
set_option maxRecDepth 100000
set_option maxHeartbeats 4000000
set_option genSizeOfSpec false
set_option bootstrap.genMatcherCode false
set_option compiler.extract_closed false
local macro_rules | `(tactic| omega) => `(tactic| first | lia | omega (config := {}))
section
open PySem PySem.Spec PyProof.Rows
noncomputable abbrev Ya:=@wpAny_bind
noncomputable abbrev Yb:=@if_neg
noncomputable abbrev Yc:=@wpAny_pure
noncomputable abbrev Yd:=@if_pos
noncomputable abbrev Ye:=@List.getElem?_eq_getElem
noncomputable abbrev Yf:=@Nat.le_refl
noncomputable abbrev Yg:=@List.mem_cons
noncomputable abbrev Yh:=@Heap.lt_size
noncomputable abbrev Yi:=@Heap.get?_push_of_some
noncomputable abbrev Yj:=@List.length_map
noncomputable abbrev Yk:=@Nat.ne_of_lt
noncomputable abbrev Yl:=@List.mem_append_right
noncomputable abbrev Ym:=@List.getElem?_eq_some_iff
noncomputable abbrev Yn:=@List.getD_eq_getElem?_getD
noncomputable abbrev Yo:=@Nat.le_trans
noncomputable abbrev Yp:=@Array.length_toList
noncomputable abbrev Yq:=@List.mem_cons_of_mem
noncomputable abbrev Yr:=@List.size_toArray
noncomputable abbrev Ys:=@List.mem_cons_self
noncomputable abbrev Yt:=@Heap.get?_push_size
noncomputable abbrev Yu:=@Nat.zero_le
noncomputable abbrev Yv:=@Nat.lt_of_lt_of_le
noncomputable abbrev Yw:=@List.length_cons
noncomputable abbrev Yy:=@List.mem_range
noncomputable abbrev Yz:=@wpAny_mono
noncomputable abbrev YA:=@Option.some.inj
noncomputable abbrev YB:=@wpAny_holding
noncomputable abbrev YC:=@List.map_cons
noncomputable abbrev YD:=@List.getElem?_map
noncomputable abbrev YE:=@List.mem_append
noncomputable abbrev YF:=@Nat.lt_of_le_of_lt
noncomputable abbrev YG:=@wpAny_ite_split
noncomputable abbrev YH:=@PySem.boot_len
noncomputable abbrev YI:=@decide_eq_false
noncomputable abbrev YJ:=@Nat.lt_irrefl
noncomputable abbrev YK:=@Array.getD_eq_getD_getElem?
noncomputable abbrev YL:=@List.getElem_mem
noncomputable abbrev YM:=@Nat.lt_succ_of_lt
noncomputable abbrev YN:=@List.mem_map
noncomputable abbrev YO:=@decide_eq_true
noncomputable abbrev YQ:=@Array.getElem?_toList
noncomputable abbrev YR:=@List.mem_append_left
noncomputable abbrev YS:=@Bool.false_ne_true
noncomputable abbrev YT:=@List.length_append
noncomputable abbrev YU:=@Nat.le_of_lt
noncomputable abbrev YV:=@List.mem_filter
noncomputable abbrev YW:=@Nat.le_succ
noncomputable abbrev YX:=@List.getElem?_append_right
noncomputable abbrev YY:=@List.getElem_of_mem
noncomputable abbrev YZ:=@List.length_take
noncomputable abbrev Y2:=@List.getElem?_append_left
noncomputable abbrev Y3:=@List.append_assoc
noncomputable abbrev Y4:=@List.map_append
noncomputable abbrev Y5:=@List.range_succ
noncomputable abbrev Y6:=@List.mem_singleton
noncomputable abbrev Y7:=@List.map_map
noncomputable abbrev Y8:=@Nat.le_of_eq
noncomputable abbrev Y9:=@List.length_range
noncomputable abbrev Ja:=@of_decide_eq_true
noncomputable abbrev Jb:=@List.take_add_one
noncomputable abbrev Jc:=@Int.eq_ofNat_of_zero_le
noncomputable abbrev Jd:=@List.pairwise_cons
noncomputable abbrev Je:=@List.length_drop
noncomputable abbrev Jf:=@List.length_filter_le
noncomputable abbrev Jg:=@List.take_append_drop
end
namespace L2
open PySem PySem.Spec PyProof.Rows
noncomputable abbrev Key:=Sum Int Str
noncomputable def Zjw:Key->Value->Bool
 |.inl k,v=>Value.isInt k v
 |.inr x,v=>Value.isStrOf x v
noncomputable def keyH (w:World):Key->Int
 |.inl k=>hashInt k
 |.inr x=>hashStr w x
theorem ZS:∀{k:Key}{v:Value},Zjw k v=true->(∃i t,k=Sum.inl i/\v=Value.int i t)\/(∃x t,k=Sum.inr x/\v=Value.str x t)
 |.inl i,v,h=>by
  obtain⟨t,e⟩:=Value.isInt_shape (k:=i) (v:=v) h
  exact .inl ⟨i,t,rfl,e⟩
 |.inr x,v,h=>by
  obtain⟨t,e⟩:=Value.isStrOf_shape (x:=x) (v:=v) h
  exact .inr ⟨x,t,rfl,e⟩
theorem Zon (i:Int) (t:Tok):Zjw (.inl i) (.int i t)=true:=by simp[Zjw,Value.isInt]
theorem Zoo (x:Str) (t:Tok):Zjw (.inr x) (.str x t)=true:=by simp[Zjw,Value.isStrOf]
theorem key_ll (a b:Int):decide ((Sum.inl a:Key)=Sum.inl b)=(a==b):=by
 by_cases e:a=b
 ·subst e;simp
 ·have h:¬ (Sum.inl a:Key)=Sum.inl b:=λq=>e (Sum.inl.inj q)
  rw[YI h]
  exact(beq_eq_false_iff_ne.mpr e).symm
theorem key_rr (a b:Str):decide ((Sum.inr a:Key)=Sum.inr b)=decide (a=b):=by
 by_cases e:a=b
 ·subst e;simp
 ·have h:¬ (Sum.inr a:Key)=Sum.inr b:=λq=>e (Sum.inr.inj q)
  rw[YI h,YI e]
theorem key_lr (a:Int) (b:Str):decide ((Sum.inl a:Key)=Sum.inr b)=false:=YI (λq=>nomatch q)
theorem key_rl (a:Str) (b:Int):decide ((Sum.inr a:Key)=Sum.inl b)=false:=YI (λq=>nomatch q)
noncomputable def Z3 (prog:Program) (w:World):PySem.KeyKind prog w Key where
 is:=Zjw
 hash:=keyH w
 inj:=λv a b ha hb=>by
  rcases ZS ha with⟨i,t,rfl,rfl⟩|⟨x,t,rfl,rfl⟩
  ·rcases ZS hb with⟨j,u,rfl,e⟩|⟨y,u,rfl,e⟩
   ·injection e with e1 _;rw[e1]
   ·exact nomatch e
  ·rcases ZS hb with⟨j,u,rfl,e⟩|⟨y,u,rfl,e⟩
   ·exact nomatch e
   ·injection e with e1 _;rw[e1]
 byValue:=λk v h=>by
  rcases ZS h with⟨i,t,rfl,rfl⟩|⟨x,t,rfl,rfl⟩<;>rfl
 pyHash:=λhv h=>by
  rcases ZS hv with⟨i,t,rfl,rfl⟩|⟨x,t,rfl,rfl⟩
  ·exact wpAny_pyHash_int h
  ·exact wpAny_pyHash_str h
 eqBool:=λhu hv h=>by
  rcases ZS hu with⟨i,t,rfl,rfl⟩|⟨x,t,rfl,rfl⟩
  ·rcases ZS hv with⟨j,u,rfl,rfl⟩|⟨y,u,rfl,rfl⟩
   ·rw[key_ll]at h;exact wpAny_eqBool_int h
   ·rw[key_lr]at h;exact SeqAt.EqAt.int_str i t y u _ _ _ _ h
  ·rcases ZS hv with⟨j,u,rfl,rfl⟩|⟨y,u,rfl,rfl⟩
   ·rw[key_rl]at h;exact SeqAt.EqAt.str_int x t j u _ _ _ _ h
   ·rw[key_rr]at h;exact wpAny_eqBool_str h
 «strs»:=λk x t v h=>by
  rcases ZS h with⟨i,u,rfl,e⟩|⟨y,u,rfl,e⟩
  ·exact nomatch e
  ·injection e with e1 _
   subst e1
   cases v<;>rfl
theorem Zk3 (prog:Program) (w:World) (i:Int) (t:Tok):(Z3 prog w).is (.inl i) (.int i t)=true:=Zon i t
theorem Zk4 (prog:Program) (w:World) (x:Str) (t:Tok):(Z3 prog w).is (.inr x) (.str x t)=true:=Zoo x t
inductive V where
 |non|bl (b:Bool)|int (i:Int)|str (x:Str)|byt (b:Array UInt8)|flt (b:UInt64)|ref (a:Addr)|ty (n:String)
 deriving DecidableEq
noncomputable def RelV:V->Value->Prop
 |.non,u=>u=Value.none
 |.bl b,u=>u=Value.bool b
 |.int i,u=>∃t,u=Value.int i t
 |.str x,u=>∃t,u=Value.str x t
 |.byt b,u=>∃t,u=Value.bytes b t
 |.flt b,u=>∃t,u=Value.float b t
 |.ref a,u=>u=Value.ref a
 |.ty n,u=>u=Value.type n
noncomputable abbrev Vals:List V->List Value->Prop:=Paired RelV
theorem Vals.length {xs:List V}{us:List Value} (r:Vals xs us):xs.length=us.length:=Paired.length r
theorem Vals.get:∀{xs:List V}{us:List Value}{i:Nat}{x:V},Vals xs us->xs[i]?=some x->∃u,us[i]?=some u/\RelV x u
 |_,_,_,_,.nil,e=>by simp at e
 |_,_,0,_,.cons r _,e=>by simp at e;subst e;exact⟨_,rfl,r⟩
 |_,_,i+1,x,.cons _ t,e=>by
  obtain⟨u,h1,h2⟩:=Vals.get (i:=i) (x:=x) t (by simpa using e)
  exact⟨u,by simpa using h1,h2⟩
theorem Vals.set {x:V}{u:Value} (r:RelV x u):∀{xs:List V}{us:List Value} (i:Nat),Vals xs us->Vals (xs.set i x) (us.set i u)
 |_,_,_,.nil=>.nil
 |_,_,0,.cons _ t=>.cons r t
 |_,_,i+1,.cons q t=>.cons q (Vals.set r i t)
theorem Vals.append:∀{xs ys:List V}{us ws:List Value},Vals xs us->Vals ys ws->Vals (xs++ys) (us++ws)
 |_,_,_,_,.nil,s=>s
 |_,_,_,_,.cons r t,s=>.cons r (Vals.append t s)
theorem Vals.take:∀{xs:List V}{us:List Value} (n:Nat),Vals xs us->Vals (xs.take n) (us.take n)
 |_,_,0,_=>.nil
 |_,_,_+1,.nil=>.nil
 |_,_,n+1,.cons r t=>.cons r (Vals.take n t)
theorem Vals.drop:∀{xs:List V}{us:List Value} (n:Nat),Vals xs us->Vals (xs.drop n) (us.drop n)
 |_,_,0,r=>r
 |_,_,_+1,.nil=>.nil
 |_,_,n+1,.cons _ t=>Vals.drop n t
noncomputable def Zfh:Option V->Option Value->Prop
 |some v,some u=>RelV v u
 |none,none=>True
 |_,_=>False
noncomputable def KV {κ:Type}:List (κ×V)->List (κ×Value)->Prop:=Paired λ(p:κ×V) (q:κ×Value)=>p.1=q.1/\RelV p.2 q.2
noncomputable def kV:Key->V
 |.inl i=>.int i
 |.inr x=>.str x
inductive HO where
 |lst (xs:List V)
 |tup (xs:List V)
 |dK (kvs:List (Key×V))|dT (kvs:List (List Key×V))
 |set (S:Int->Bool) (n:Nat)
 |ins (C dx:Addr) (fs:List (Str×V))
 |own (x:Addr)
 |xd (fs:List (Str×V))
 |met (f x:Addr)
 |rng (lo hi:Int)
 |frz (o:Obj) (u:HO)
 |tbl (ps:Array Value)
 |ext (φ:Heap->Prop)
noncomputable abbrev Hp:=Addr->Option HO
noncomputable def upd (H:Hp) (a:Addr) (o:HO):Hp:=λb=>if b=a then some o else H b
theorem Zc {H:Hp}{a:Addr}{o:HO}:upd H a o a=some o:=by unfold upd;rw[Yd rfl]
theorem Zf {H:Hp}{a b:Addr}{o:HO} (h:b≠a):upd H a o b=H b:=by unfold upd;rw[Yb h]
theorem ZsY {H:Hp}{a:Addr}{o u:HO}:upd (upd H a o) a u=upd H a u:=by
 funext b;unfold upd;split<;>rfl
theorem ne_of {H:Hp}{a b:Addr}{o u:HO} (h:H a=some o) (h':H b=some u) (d:o≠u):a≠b:=by
 intro e;subst e;rw[h]at h';exact d (YA h')
theorem Zp {H:Hp}{a b:Addr}{o:HO} (h:H a=some o) (h':H b=none):a≠b:=by
 intro e;subst e;rw[h]at h';cases h'
section
variable (P:Program) (w:World)
noncomputable def ZI (H:Hp) (h:Heap) (a:Addr):HO->Prop
 |.lst xs=>xs.length<=sizeLine/\∃(its:List Value) (n:Nat),Vals xs its/\h.get? a=some {cls:=.type "list",data:=.seq its.toArray n}
 |.tup xs=>xs.length<=sizeLine/\∃its:List Value,Vals xs its/\IsTup h a its.toArray
 |.dK kvs=>kvs.length<=sizeLine/\(a==sysModules)=false/\∃vs,KV kvs vs/\h.DictOf (Z3 P w) a vs
 |.dT kvs=>kvs.length<=sizeLine/\(a==sysModules)=false/\∃xs:List (List Key×Addr×Value),
   Paired (λ(p:List Key×V) (q:List Key×Addr×Value)=>p.1=q.1/\H q.2.1=some (.tup (p.1.map kV))/\RelV p.2 q.2.2) kvs xs /\
   ∃o es ep,h.get? a=some o/\o.ExactDict/\o.data=.dict es ep/\es.toList=xs.map (entryOfKey (tupleKind (Z3 P w)))/\(xs.map (·.1)).Nodup
 |.set S n=>h.SetOf (intKind P w) a S n
 |.ins C dx fs=>H dx=some (.own a)/\fs.length<=1000/\dx≠a/\h.get? a=some (PySem.W.instObj C dx) /\
   ∃mA,h.Ns1 dx mA/\(∀f,Zfh (fs.lookup f) (mA f))/\PySem.Within mA (fs.map (·.1))
 |.own _=>∃o,h.get? a=some o
 |.xd fs=>∃mA,h.Ns1 a mA/\∀f,Zfh (fs.lookup f) (mA f)
 |.rng lo hi=>∃t u v,h.get? a=some {cls:=.type "range",data:=.fields #[.int lo t,.int hi u,.int 1 v]}
 |.frz o u=>h.get? a=some o/\ZI H h a u
 |.tbl ps=>∃ts:Array Value,h.get? a=some {cls:=.none,data:=.fields ts}/\TriplesOk ts.toList/\∀pos cv,codeAmong pos ts.toList=some cv->∃c oc vs q t t',cv=.ref c/\H c=some (.frz oc (.own a))/\oc.data=.fields vs/\ps[0]?=some (.str q t)/\vs[1]?=some (.str q t')
 |.met f x=>h.get? a=some (PySem.W.methodObj (.ref f) (.ref x))
 |.ext φ=>φ h/\(∃o,h.get? a=some o)/\∀h1 h2:Heap,φ h1->(∀o,h1.get? a=some o->h2.get? a=some o)->φ h2
noncomputable def HOk (H:Hp) (h:Heap):Prop:=∀a o,H a=some o->ZI P w H h a o
end
section
variable {P:Program}{w:World}{H H':Hp}{h h':Heap}{a:Addr}{o:HO}
theorem ZI.lt (x:ZI P w H h a o):a<h.objs.size:=by
 cases o with
 |lst xs=>obtain⟨_,_,_,_,e⟩:=x;exact Yh e
 |tup xs=>obtain⟨_,_,_,p⟩:=x;exact p.lt
 |dK kvs=>obtain⟨_,_,_,_,o,_,_,e,_⟩:=x;exact Yh e
 |dT kvs=>obtain⟨_,_,_,_,o,_,_,e,_⟩:=x;exact Yh e
 |set S n=>obtain⟨o,_,_,_,e,_⟩:=x;exact Yh e
 |ins C dx fs=>obtain⟨_,_,_,e,_⟩:=x;exact Yh e
 |own y=>obtain⟨_,e⟩:=x;exact Yh e
 |xd fs=>obtain⟨_,⟨_,_,_,e,_⟩,_⟩:=x;exact Yh e
 |rng lo hi=>obtain⟨_,_,_,e⟩:=x;exact Yh e
 |frz ob u=>obtain⟨e,_⟩:=x;exact Yh e
 |tbl ps=>obtain⟨_,e,_⟩:=x;exact Yh e
 |met f y=>exact Yh (show h.get? a=some _ from x)
 |ext φ=>obtain⟨_,⟨_,e⟩,_⟩:=x;exact Yh e
theorem Paired.mapP {α β:Type}{F G:α->β->Prop}:∀{l₁:List α}{l₂:List β},Paired F l₁ l₂->(∀a b,F a b->G a b)->Paired G l₁ l₂
 |_,_,.nil,_=>.nil
 |_,_,.cons r t,f=>.cons (f _ _ r) (Paired.mapP t f)
theorem ZI.Zf1 (x:ZI P w H h a o) (k:∀b u,(b=a\/H b=some (.own a))->h.get? b=some u->h'.get? b=some u)
  (ho:∀b,H b=some (.own a)->H' b=some (.own a)) (ht:∀b xs,H b=some (.tup xs)->H' b=some (.tup xs)) (hz:∀b o u,H b=some (.frz o u)->H' b=some (.frz o u)):ZI P w H' h' a o:=by
 induction o with
 |lst xs=>obtain⟨z,its,n,r,e⟩:=x;exact⟨z,its,n,r,k _ _ (.inl rfl) e⟩
 |tup xs=>obtain⟨z,its,r,ob,e,c⟩:=x;exact⟨z,its,r,ob,k _ _ (.inl rfl) e,c⟩
 |dK kvs=>obtain⟨z,y,vs,r,ob,es,ep,e,c⟩:=x;exact⟨z,y,vs,r,ob,es,ep,k _ _ (.inl rfl) e,c⟩
 |dT kvs =>
  obtain⟨z,y,xs,r,ob,es,ep,e,c⟩:=x
  exact⟨z,y,xs,Paired.mapP r λp q z=>⟨z.1,ht _ _ z.2.1,z.2.2⟩,ob,es,ep,k _ _ (.inl rfl) e,c⟩
 |set S n=>obtain⟨ob,es,ep,t,e,c⟩:=x;exact⟨ob,es,ep,t,k _ _ (.inl rfl) e,c⟩
 |ins C dx fs =>
  obtain⟨d,z,ne,e,mA,⟨od,es,ep,e2,c⟩,r⟩:=x
  exact⟨ho _ d,z,ne,k _ _ (.inl rfl) e,mA,⟨od,es,ep,k _ _ (.inr d) e2,c⟩,r⟩
 |own y=>obtain⟨ob,e⟩:=x;exact⟨ob,k _ _ (.inl rfl) e⟩
 |xd fs=>obtain⟨mA,⟨od,es,ep,e,c⟩,r⟩:=x;exact⟨mA,⟨od,es,ep,k _ _ (.inl rfl) e,c⟩,r⟩
 |rng lo hi=>obtain⟨t,u,v,e⟩:=x;exact⟨t,u,v,k _ _ (.inl rfl) e⟩
 |frz ob u ih=>obtain⟨e,q⟩:=x;exact⟨k _ _ (.inl rfl) e,ih q⟩
 |tbl ps =>
  obtain⟨ts,e,t3,z⟩:=x
  refine⟨ts,k a _ (.inl rfl) e,t3,λpos cv hc=>?_⟩
  obtain⟨c,oc,vs,q,t,t',e1,e2,r⟩:=z pos cv hc
  exact⟨c,oc,vs,q,t,t',e1,hz _ _ _ e2,r⟩
 |met f y =>
  have e:h.get? a=some (PySem.W.methodObj (.ref f) (.ref y)):=x
  show h'.get? a=some (PySem.W.methodObj (.ref f) (.ref y))
  exact k a _ (.inl rfl) e
 |ext φ=>obtain⟨p,⟨o,e⟩,st⟩:=x;exact⟨st _ _ p λo q=>k _ _ (.inl rfl) q,⟨o,k _ _ (.inl rfl) e⟩,st⟩
theorem HOk.lt (x:HOk P w H h) (e:H a=some o):a<h.objs.size:=(x a o e).lt
theorem HOk.fresh (x:HOk P w H h) (e:h.objs.size<=a):H a=none:=by
 cases q:H a with
 |none=>rfl
 |some u=>exact absurd (Yv (x.lt q) e) (YJ _)
theorem HOk.kept (x:HOk P w H h) (k:∀b u,h.get? b=some u->h'.get? b=some u):HOk P w H h':=λa o e =>
 (x a o e).Zf1 (λb u _ q=>k b u q) (λ_ q=>q) (λ_ _ q=>q) λ_ _ _ q=>q
theorem HOk.laid (x:HOk P w H h) (k:∀b u,h.get? b=some u->h'.get? b=some u) (hp:h.objs.size<=a) (new:ZI P w (upd H a o) h' a o):HOk P w (upd H a o) h':=λb u e=>by
 have hn:=x.fresh hp
 by_cases hb:b=a
 ·subst hb;rw[Zc]at e;cases e;exact new
 ·rw[Zf hb]at e
  exact(x b u e).Zf1 (λc v _ q=>k c v q) (λc q=>by rw[Zf (Zp q hn)];exact q) (λc xs q=>by rw[Zf (Zp q hn)];exact q) λc o u q=>by rw[Zf (Zp q hn)];exact q
end
noncomputable def Rd (H:Hp) (a:Addr) (u:HO):Prop:=H a=some u\/∃o,H a=some (.frz o u)
theorem Rd.ok {P:Program}{w:World}{H:Hp}{h:Heap}{a:Addr}{u:HO} (r:Rd H a u) (x:HOk P w H h):ZI P w H h a u:=by
 rcases r with r|⟨o,r⟩
 ·exact x a u r
 ·obtain⟨_,q⟩:=x a _ r
  exact q
noncomputable def Mut:Option HO->Prop
 |some (.lst _)=>True
 |some (.dK _)=>True
 |some (.dT _)=>True
 |some (.set _ _)=>True
 |some (.ins _ _ _)=>True
 |some (.ext _)=>True
 |_=>False
section
variable {P:Program}{w:World}{H:Hp}{h h':Heap}{x e:Addr}{o':HO}
theorem HOk.write (ok:HOk P w H h) (mu:Mut (H x)) (he:e=x\/H e=some (.own x)) (k:∀b u,b≠e->h.get? b=some u->h'.get? b=some u) (heo:∃u,h'.get? e=some u)
  (new:ZI P w (upd H x o') h' x o'):HOk P w (upd H x o') h':=λb u q=>by
 have nown:∀c y,H c=some (.own y)->c≠x:=λc y r z=>by subst z;rw[r]at mu;exact mu
 have ntup:∀c xs,H c=some (.tup xs)->c≠x:=λc xs r z=>by subst z;rw[r]at mu;exact mu
 have nfrz:∀c o u,H c=some (.frz o u)->c≠x:=λc o u r z=>by subst z;rw[r]at mu;exact mu
 by_cases hb:b=x
 ·subst hb;rw[Zc]at q;cases q;exact new
 ·rw[Zf hb]at q
  by_cases hbe:b=e
  ·have q':H b=some (.own x):=by
    rcases he with z|z
    ·exact absurd (hbe.trans z) hb
    ·rw[hbe];exact z
   rw[q]at q';cases q'
   obtain⟨v,hv⟩:=heo
   exact⟨v,by rw[hbe];exact hv⟩
  ·refine(ok b u q).Zf1 (λc v hc r=>k c v ?_ r) (λc r=>by rw[Zf (nown c b r)];exact r) (λc xs r=>by rw[Zf (ntup c xs r)];exact r) λc o u r=>by rw[Zf (nfrz c o u r)];exact r
   rcases hc with rfl|hc
   ·exact hbe
   ·rintro rfl
    rcases he with z|z
    ·exact nown c b hc z
    ·rw[hc]at z;cases z;exact hb rfl
end
structure Un (fs ex:List Addr) (H H':Hp) (h h':Heap):Prop where
 keep:∀b o,h.get? b=some o->H b=none->b∉fs->b∉ex->h'.get? b=some o
 slot:∀b o,h.get? b=some o->H b=none->b∈fs->b∉ex->∃sl,h'.get? b=some {o with slots:=sl}
 free:∀b o,h.get? b=some o->H b=none->b∉ex->H' b=none
 there:∀b o,h.get? b=some o->b∉ex->∃o',h'.get? b=some o'
 tups:∀b xs,H b=some (.tup xs)->H' b=some (.tup xs)
 frzs:∀b o u,H b=some (.frz o u)->H' b=some (.frz o u)
 tbls:∀b ps,H b=some (.tbl ps)->∃more,H' b=some (.tbl (ps++more))
section
variable {fs fs' ex ex':List Addr}{H H1 H2:Hp}{h h1 h2 h':Heap}{a x e:Addr}{o:HO}
theorem Un.any (u:Un fs ex H H1 h h1) {b:Addr}{ob:Obj} (q:h.get? b=some ob) (n:H b=none) (hx:b∉ex):∃sl,h1.get? b=some {ob with slots:=sl}:=by
 by_cases hb:b∈fs
 ·exact u.slot b ob q n hb hx
 ·exact⟨ob.slots,u.keep b ob q n hb hx⟩
theorem Un.kept (k:∀b u,h.get? b=some u->h'.get? b=some u):Un fs ex H H h h' :=
 ⟨λb ob q _ _ _=>k b ob q,λb ob q _ _ _=>⟨ob.slots,k b ob q⟩,λ_ _ _ n _=>n,λb ob q _=>⟨ob,k b ob q⟩,λ_ _ q=>q,λ_ _ _ q=>q,λ_ ps q=>⟨#[],by rw[q];simp⟩⟩
theorem Un.refl:Un fs ex H H h h:=Un.kept λ_ _ q=>q
theorem Un.laid (k:∀b u,h.get? b=some u->h'.get? b=some u) (hp:h.objs.size<=a) (hn:H a=none):Un fs ex H (upd H a o) h h' where
 keep:=λb u q _ _ _=>k b u q
 slot:=λb u q _ _ _=>⟨u.slots,k b u q⟩
 free:=λb u q n _=>by rw[Zf (Yk (Yv (Yh q) hp))];exact n
 there:=λb u q _=>⟨u,k b u q⟩
 tups:=λb xs q=>by rw[Zf (Zp q hn)];exact q
 frzs:=λb u xs q=>by rw[Zf (Zp q hn)];exact q
 tbls:=λb ps q=>⟨#[],by rw[Zf (Zp q hn),q];simp⟩
theorem Un.write (mu:Mut (H x)) (he:e=x\/H e=some (.own x)) (k:∀b u,b≠e->h.get? b=some u->h'.get? b=some u) (heo:∃u,h'.get? e=some u):Un fs ex H (upd H x o) h h':=by
 have hx:∀b,H b=none->b≠x:=λb n z=>by subst z;rw[n]at mu;exact mu
 have hb:∀b,H b=none->b≠e:=λb n z=>by
  subst z
  rcases he with r|r
  ·exact hx b n r
  ·rw[n]at r;cases r
 have hm:∀b u,H b=some u->¬ Mut (some u)->b≠x:=λb u q nm z=>by subst z;rw[q]at mu;exact nm mu
 refine⟨λb u q n _ _=>k b u (hb b n) q,λb u q n _ _=>⟨u.slots,k b u (hb b n) q⟩,λb u q n _=>by rw[Zf (hx b n)];exact n,λb u q _=>?_,
  λb xs q=>by rw[Zf (hm b _ q λz=>z)];exact q,λb u xs q=>by rw[Zf (hm b _ q λz=>z)];exact q,λb ps q=>⟨#[],by rw[Zf (hm b _ q λz=>z),q];simp⟩⟩
 by_cases hbe:b=e
 ·subst hbe;exact heo
 ·exact⟨u,k b u hbe q⟩
end
noncomputable def trk (h:Heap) (H:Hp):List Addr:=(List.range h.objs.size).filter λa=>(H a).isSome
noncomputable def ZiW (h:Heap) (H:Hp):Heap:=PySem.W.hideAll h (trk h H)
theorem Zop (h:Heap) (H:Hp):(ZiW h H).objs.size=h.objs.size:=PySem.W.hideAll_size _ _
theorem Zpu {h:Heap}{H:Hp}{b:Addr}{o:Obj} (e:h.get? b=some o) (n:H b=none):(ZiW h H).get? b=some o :=
 PySem.W.hideAll_get _ e λhm=>by
  have q:(H b).isSome=true:=(YV.mp hm).2
  rw[n]at q;simp at q
theorem ZsZ {h:Heap}{H:Hp}{b:Addr}{o:Obj} (e:(ZiW h H).get? b=some o):h.get? b=some o/\H b=none:=by
 have e':h.get? b=some o:=PySem.W.of_hideAll (trk h H) e
 refine⟨e',?_⟩
 cases q:H b with
 |none=>rfl
 |some x =>
  have hm:b∈trk h H:=YV.mpr ⟨Yy.mpr (Yh e'),by simp[q]⟩
  have z:(ZiW h H).get? b=none:=PySem.W.hideAll_none (trk h H) hm
  rw[z]at e;cases e
noncomputable def Zs0 (g h:Heap) (L:Addr):List (Addr×Obj):=(List.range h.objs.size).filterMap λa=>if a=L\/(g.get? a).isSome=true then none else (h.get? a).map λo=>(a,o)
noncomputable def rest (g h:Heap) (L d:Addr):List (Addr×Obj):=(Zs0 g h L).filter λp=>decide (p.1≠d)
structure Mod (K:PySem.W.Frag) (mg:Str->Option Value) (base:Heap):Prop where
 kin:K.In base
 glob:base.Ns mainGlobals mg
 blt:∃mb,base.Ns builtinsNs mb/\∀x:Str,x≠"__name__"->mb x=bootBuiltins x
 nolimit:base.NoLimit
structure Cx where
 prog:Program
 w:World
 K:PySem.W.Frag
 mg:Str->Option Value
 base:Heap
 A:Around
 N:List Str
 s₀:Shared
 H₀:Hp
 env:Env
 outer:List Env
 stack:List Env
 ex:List Addr
 fn:Str->Bool
 calm:Bool
 pn:List (Addr×Obj)
 xe:Value->Shared->Prop
noncomputable def frs (l:List Env):List Addr:=l.filterMap (·.frame)
noncomputable abbrev Cx.fs (X:Cx):List Addr:=frs X.outer
noncomputable def Vis (sc:Scope) (x:Str):Prop:=sc.names.lookup x=some .local\/sc.names.lookup x=some .cell\/sc.names.lookup x=some .free
noncomputable def Loc (sc:Scope) (x:Str):Prop:=sc.names.lookup x=some .local\/sc.names.lookup x=some .cell
noncomputable def Look (env:Env) (h:Heap) (m:Str->Option Value) (x:Str) (u:Value):Prop :=
 (env.kindOf x=some .local/\m x=some u)\/((env.kindOf x=some .cell\/env.kindOf x=some .free)/\∃c,env.cells.lookup x=some c/\h.IsCell c (some u))
structure Cx.Ok (X:Cx):Prop where
 mod:Mod X.K X.mg X.base
 kind:X.env.scope.kind=.function
 glob:X.env.globals=mainGlobals
 blt:X.env.builtins=builtinsNs
 above:X.s₀.heap.objs.size<=X.env.locals
 inj:∀x y c,X.env.cells.lookup x=some c->X.env.cells.lookup y=some c->x=y
 has:∀x,(X.env.kindOf x=some .cell\/X.env.kindOf x=some .free)->∃c,X.env.cells.lookup x=some c
 cab:∀x c,X.fn x=true->X.env.cells.lookup x=some c->X.s₀.heap.objs.size<=c
 hd:X.calm=true->X.A.handled=none
 frames:X.A.frames=some X.stack
 stk:X.stack=X.outer\/(X.stack=X.env::X.outer/\X.env.frame=some X.env.locals)
 exf:∀b∈X.ex,b≠X.env.locals/\∀x c,X.env.cells.lookup x=some c->c≠b
 bs:∀b o,X.base.get? b=some o->X.s₀.heap.get? b=some o/\X.H₀ b=none
 bsz:X.base.objs.size<=X.s₀.heap.objs.size
 noex:∀b o,X.base.get? b=some o->b∉X.ex
 exfs:∀b∈X.ex,b∉X.fs
 funs:X.s₀.heap.FunFrames X.base X.outer
 frf:∀b∈X.fs,X.H₀ b=none
structure Inv (X:Cx) (pins:List (Addr×Obj)) (σ:List (Option V)) (H:Hp) (s:Shared):Prop where
 ok:X.Ok
 os:s.os=X.s₀.os
 bare:AllBare s.gens
 base:Un X.fs X.ex X.H₀ H X.s₀.heap s.heap
 loc:∃m,s.heap.Ns X.env.locals m/\∀(i:Nat) (x:Str) (v:V),X.N[i]?=some x->σ[i]?=some (some v)->Vis X.env.scope x->∃u,RelV v u/\Look X.env s.heap m x u
 cell:∀x c,X.env.cells.lookup x=some c->∃v,s.heap.IsCell c v
 free:H X.env.locals=none
 freeC:∀x c,X.env.cells.lookup x=some c->H c=none
 pin:∀p∈X.pn++pins,s.heap.get? p.1=some p.2/\H p.1=none/\p.1≠X.env.locals/\p.1∉X.fs/\∀v,p.2.data≠.cell v
 hok:HOk X.prog X.w H s.heap
 len:σ.length=X.N.length
section
variable {X:Cx}{pins:List (Addr×Obj)}{σ:List (Option V)}{H H':Hp}{s:Shared}{h':Heap}
theorem Cx.Ok.nofr (ok:X.Ok) {b:Addr}{o:Obj} (e:X.base.get? b=some o):b∉X.fs:=λhb=>by
 have:=(ok.funs.mem hb).1
 rw[e]at this;cases this
theorem Inv.bs (I:Inv X pins σ H s):∀b o,X.base.get? b=some o->s.heap.get? b=some o/\H b=none:=λb o e =>
 ⟨I.base.keep b o (I.ok.bs b o e).1 (I.ok.bs b o e).2 (I.ok.nofr e) (I.ok.noex b o e),I.base.free b o (I.ok.bs b o e).1 (I.ok.bs b o e).2 (I.ok.noex b o e)⟩
theorem Inv.bk (I:Inv X pins σ H s):∀b o,X.base.get? b=some o->s.heap.get? b=some o:=λb o e=>(I.bs b o e).1
theorem Inv.mod (I:Inv X pins σ H s):Mod X.K X.mg X.base:=I.ok.mod
theorem Inv.kIn (I:Inv X pins σ H s):X.K.In s.heap:=I.ok.mod.kin.keeps I.bk
theorem Inv.nolimit (I:Inv X pins σ H s):s.heap.NoLimit:=I.ok.mod.nolimit.keeps I.bk
theorem Inv.lt (I:Inv X pins σ H s):X.env.locals<s.heap.objs.size:=let ⟨_,hn,_⟩:=I.loc;hn.lt
theorem Inv.sz (I:Inv X pins σ H s):X.s₀.heap.objs.size<=s.heap.objs.size:=Yo I.ok.above (YU I.lt)
theorem Inv.Zk5 (I:Inv X pins σ H s) {a:Addr} (h:s.heap.objs.size<=a):a∉X.fs:=λhb=>by
 obtain⟨_,o,ho,_⟩:=I.ok.funs.mem hb
 exact absurd (Yv (Yh ho) (Yo I.sz h)) (YJ _)
theorem Inv.cne (I:Inv X pins σ H s):∀x c,X.env.cells.lookup x=some c->c≠X.env.locals:=λx c e z=>by
 obtain⟨v,o,ho,hd⟩:=I.cell x c e
 obtain⟨m,⟨o',es,ep,ho',hd',_⟩,_⟩:=I.loc
 rw[z,ho']at ho;cases ho;rw[hd']at hd;cases hd
theorem Inv.funs (I:Inv X pins σ H s):s.heap.FunFrames X.base X.outer:=by
 have all:∀(l:List Env),(∀b∈frs l,b∈X.fs)->X.s₀.heap.FunFrames X.base l->s.heap.FunFrames X.base l:=by
  intro l
  induction l with
  |nil=>intro _ _;trivial
  |cons env r ih =>
   intro hs hl
   obtain⟨hk,⟨L,o,hf,hn,ho,hd⟩,hr⟩:=hl
   have hL:L∈X.fs:=hs L (by unfold frs;rw[List.filterMap_cons,hf];exact Ys)
   obtain⟨sl,e⟩:=I.base.slot L o ho (I.ok.frf L hL) hL λz=>I.ok.exfs L z hL
   exact⟨hk,⟨L,_,hf,hn,e,hd⟩,ih (λb hb=>hs b (by unfold frs;rw[List.filterMap_cons,hf];exact Yq _ hb)) hr⟩
 exact all X.outer (λ_ hb=>hb) I.ok.funs
theorem Inv.stack (I:Inv X pins σ H s):s.heap.FunFrames X.base X.stack:=by
 rcases I.ok.stk with e|⟨e,hf⟩
 ·rw[e];exact I.funs
 ·rw[e]
  obtain⟨m,hn,_⟩:=I.loc
  refine .cons (by rw[I.ok.kind];decide) hf hn ?_ I.funs
  exact Heap.get?_none_of_le (Yo I.ok.bsz I.ok.above)
theorem Inv.Zeq (I:Inv X pins σ H s):∀b∈frs X.stack,b∈X.env.locals::X.fs:=λb hb=>by
 rcases I.ok.stk with e|⟨e,hf⟩
 ·rw[e]at hb;exact Yq _ hb
 ·rw[e]at hb
  unfold frs at hb
  rw[List.filterMap_cons,hf]at hb
  exact hb
theorem Inv.Zf2 (I:Inv X pins σ H s):∀b∈frs X.stack,H b=none:=λb hb=>by
 rcases Yg.mp (I.Zeq b hb)with e|hb
 ·rw[e];exact I.free
 ·obtain⟨_,o,ho,_⟩:=I.ok.funs.mem hb
  exact I.base.free b o ho (I.ok.frf b hb) λz=>I.ok.exfs b z hb
theorem Inv.step {g':Array GenState}{t':Nat}{d':Drawn}{ch:List Addr} (I:Inv X pins σ H s)
  (hch:∀b∈ch,(b∈X.ex\/X.s₀.heap.objs.size<=b)/\b≠X.env.locals/\(∀x c,X.env.cells.lookup x=some c->c≠b)/\∀p∈X.pn++pins,p.1≠b)
  (keep:∀b o,b≠X.env.locals->b∉X.fs->b∉ch->s.heap.get? b=some o->H b=none->h'.get? b=some o)
  (slot:∀b o,b≠X.env.locals->b∈X.fs->b∉ch->s.heap.get? b=some o->H b=none->∃sl,h'.get? b=some {o with slots:=sl}) (free:∀b o,b∉ch->s.heap.get? b=some o->H b=none->H' b=none)
  (there:∀b o,b∉ch->s.heap.get? b=some o->∃o',h'.get? b=some o')
  (tups:∀b xs,H b=some (.tup xs)->H' b=some (.tup xs)) (frzs:∀b o u,H b=some (.frz o u)->H' b=some (.frz o u)) (tbls:∀b ps,H b=some (.tbl ps)->∃more,H' b=some (.tbl (ps++more)))
  (ns:∀m,s.heap.Ns X.env.locals m->h'.Ns X.env.locals m) (hok:HOk X.prog X.w H' h') (hg:AllBare g') :
  Inv X pins σ H' {s with heap:=h',gens:=g',drawn:=d',toks:=t'}:=by
 have neL:∀b o,X.s₀.heap.get? b=some o->b≠X.env.locals:=λb o e=>Yk (Yv (Yh e) I.ok.above)
 have neC:∀b o,X.s₀.heap.get? b=some o->b∉X.ex->b∉ch:=λb o e hx hb=>by
  rcases(hch b hb).1 with z|z
  ·exact hx z
  ·exact absurd (Yv (Yh e) z) (YJ _)
 have cellK:∀x c,X.env.cells.lookup x=some c->∀v,s.heap.IsCell c v->h'.IsCell c v:=λx c e v ⟨o,ho,hd⟩=>by
  have nch:c∉ch:=λz=>(hch c z).2.2.1 x c e rfl
  by_cases hc:c∈X.fs
  ·obtain⟨sl,q⟩:=slot c o (I.cne x c e) hc nch ho (I.freeC x c e)
   exact⟨_,q,hd⟩
  ·exact⟨o,keep c o (I.cne x c e) hc nch ho (I.freeC x c e),hd⟩
 refine⟨I.ok,I.os,hg,⟨λb o e n hb hx=>?_,λb o e n hb hx=>?_,λb o e n hx=>?_,λb o e hx=>?_,λb xs e=>tups b xs (I.base.tups b xs e),λb o xs e=>frzs b o xs (I.base.frzs b o xs e),λb ps e=>?_⟩,?_,λx c e=>?_,?_,λx c e=>?_,λp hp=>?_,hok,I.len⟩
 ·exact keep b o (neL b o e) hb (neC b o e hx) (I.base.keep b o e n hb hx) (I.base.free b o e n hx)
 ·obtain⟨sl,e1⟩:=I.base.slot b o e n hb hx
  obtain⟨sl',e2⟩:=slot b _ (neL b o e) hb (neC b o e hx) e1 (I.base.free b o e n hx)
  exact⟨sl',e2⟩
 ·obtain⟨o',e1⟩:=I.base.there b o e hx
  exact free b o' (neC b o e hx) e1 (I.base.free b o e n hx)
 ·obtain⟨o',e1⟩:=I.base.there b o e hx
  exact there b o' (neC b o e hx) e1
 ·obtain⟨m1,e1⟩:=I.base.tbls b ps e
  obtain⟨m2,e2⟩:=tbls b _ e1
  exact⟨m1++m2,by rw[e2,Array.append_assoc]⟩
 ·obtain⟨m,hn,hl⟩:=I.loc
  refine⟨m,ns m hn,λi x v e1 e2 e3=>?_⟩
  obtain⟨u,r,l⟩:=hl i x v e1 e2 e3
  refine⟨u,r,?_⟩
  rcases l with l|⟨k,c,e,z⟩
  ·exact .inl l
  ·exact .inr ⟨k,c,e,cellK x c e _ z⟩
 ·obtain⟨v,z⟩:=I.cell x c e
  exact⟨v,cellK x c e v z⟩
 ·obtain⟨m,⟨o,_,_,ho,_⟩,_⟩:=I.loc
  exact free _ o (λz=>(hch _ z).2.1 rfl) ho I.free
 ·obtain⟨v,o,ho,hd⟩:=I.cell x c e
  exact free c o (λz=>(hch c z).2.2.1 x c e rfl) ho (I.freeC x c e)
 ·obtain⟨e,n,ne,nf,d⟩:=I.pin p hp
  have nch:p.1∉ch:=λz=>(hch p.1 z).2.2.2 p hp rfl
  exact⟨keep p.1 p.2 ne nf nch e n,free p.1 p.2 nch e n,ne,nf,d⟩
theorem Inv.un {t':Nat} (I:Inv X pins σ H s) (u:Un X.fs [] H H' s.heap h') (hok:HOk X.prog X.w H' h'):Inv X pins σ H' {s with heap:=h',toks:=t'}:=by
 obtain⟨m,⟨o,es,ep,ho,r⟩,_⟩:=id I.loc
 obtain⟨sl,hL⟩:=u.any ho I.free (by simp)
 exact I.step (g':=s.gens) (d':=s.drawn) (ch:=[]) (λ_ z=>nomatch z) (λb o _ hb _ e n=>u.keep b o e n hb (by simp)) (λb o _ hb _ e n=>u.slot b o e n hb (by simp)) (λb o _ e n=>u.free b o e n (by simp)) (λb o _ e=>u.there b o e (by simp)) u.tups u.frzs u.tbls (λm' hm=>by
  obtain⟨o',es',ep',ho',r'⟩:=hm
  rw[ho]at ho';cases ho'
  exact⟨_,es',ep',hL,r'⟩) hok I.bare
theorem Inv.call {g':Array GenState}{t':Nat}{d':Drawn}{ch:List Addr} (I:Inv X pins σ H s) (u:Un (frs X.stack) ch H H' s.heap h') (hok:HOk X.prog X.w H' h') (hg:AllBare g')
  (hch:∀b∈ch,(b∈X.ex\/X.s₀.heap.objs.size<=b)/\b≠X.env.locals/\(∀x c,X.env.cells.lookup x=some c->c≠b)/\∀p∈X.pn++pins,p.1≠b) :
  Inv X pins σ H' {s with heap:=h',gens:=g',drawn:=d',toks:=t'}:=by
 obtain⟨m,⟨o,es,ep,ho,r⟩,_⟩:=id I.loc
 obtain⟨sl,hL⟩:=u.any ho I.free λz=>(hch _ z).2.1 rfl
 exact I.step (ch:=ch) hch (λb o hL hb hc e n=>u.keep b o e n (λz=>(Yg.mp (I.Zeq b z)).elim hL hb) hc) (λb o _ _ hc e n=>u.any e n hc) (λb o hc e n=>u.free b o e n hc) (λb o hc e=>u.there b o e hc) u.tups u.frzs u.tbls (λm' hm=>by
  obtain⟨o',es',ep',ho',r'⟩:=hm
  rw[ho]at ho';cases ho'
  exact⟨_,es',ep',hL,r'⟩) hok hg
theorem Inv.turned {t':Nat}{it:Addr} (I:Inv X pins σ H s) (k:∀b o,b≠it->s.heap.get? b=some o->h'.get? b=some o) (hn:H it=none) (hL:it≠X.env.locals)
  (h1:it∈X.ex\/X.s₀.heap.objs.size<=it) (h2:∀x c,X.env.cells.lookup x=some c->c≠it) (h3:∀p∈X.pn++pins,p.1≠it):Inv X pins σ H {s with heap:=h',toks:=t'}:=by
 have nit:∀b u,H b=some u->b≠it:=λb u e z=>by rw[z,hn]at e;cases e
 refine I.step (g':=s.gens) (d':=s.drawn) (ch:=[it]) (λb hb=>?_) (λb o _ _ hc e _=>k b o (λz=>hc (by simp[z])) e) (λb o _ _ hc e _=>⟨o.slots,k b o (λz=>hc (by simp[z])) e⟩) (λ_ _ _ _ n=>n)
  (λb o hc e=>⟨o,k b o (λz=>hc (by simp[z])) e⟩) (λ_ _ e=>e) (λ_ _ _ e=>e) (λb ps e=>⟨#[],by rw[e];simp⟩) (λm hm=>?_) (λb u e=>?_) I.bare
 ·have e:b=it:=by simpa using hb
  subst e
  exact⟨h1,hL,h2,h3⟩
 ·obtain⟨o,es,ep,ho,r⟩:=hm
  exact⟨o,es,ep,k _ o (Ne.symm hL) ho,r⟩
 ·refine(I.hok b u e).Zf1 (λc v hc q=>k c v ?_ q) (λ_ q=>q) (λ_ _ q=>q) λ_ _ _ q=>q
  rcases hc with z|z
  ·rw[z];exact nit b u e
  ·exact nit c _ z
theorem Inv.tok (I:Inv X pins σ H s) (t:Nat):Inv X pins σ H {s with toks:=t}:=I.un (h':=s.heap) (t':=t) Un.refl I.hok
theorem Inv.kept {t':Nat} (I:Inv X pins σ H s) (k:∀b u,s.heap.get? b=some u->h'.get? b=some u):Inv X pins σ H {s with heap:=h',toks:=t'}:=I.un (Un.kept k) (I.hok.kept k)
theorem Inv.laid {a:Addr}{o:HO}{t':Nat} (I:Inv X pins σ H s) (k:∀b u,s.heap.get? b=some u->h'.get? b=some u) (hp:s.heap.objs.size<=a) (new:ZI X.prog X.w (upd H a o) h' a o) :
  Inv X pins σ (upd H a o) {s with heap:=h',toks:=t'}:=I.un (Un.laid k hp (I.hok.fresh hp)) (I.hok.laid k hp new)
theorem Inv.write {x e:Addr}{o:HO}{t':Nat} (I:Inv X pins σ H s) (mu:Mut (H x)) (he:e=x\/H e=some (.own x)) (k:∀b u,b≠e->s.heap.get? b=some u->h'.get? b=some u) (heo:∃u,h'.get? e=some u)
  (new:ZI X.prog X.w (upd H x o) h' x o):Inv X pins σ (upd H x o) {s with heap:=h',toks:=t'}:=I.un (Un.write mu he k heo) (I.hok.write mu he k heo new)
theorem Inv.weak {σ':List (Option V)} (I:Inv X pins σ H s) (hl:σ'.length=σ.length) (w:∀(i:Nat) v,σ'[i]?=some (some v)->σ[i]?=some (some v)):Inv X pins σ' H s :=
 ⟨I.ok,I.os,I.bare,I.base,let ⟨m,hn,hl'⟩:=I.loc;⟨m,hn,λi x v e1 e2 e3=>hl' i x v e1 (w i v e2) e3⟩,I.cell,I.free,I.freeC,I.pin,I.hok,hl.trans I.len⟩
theorem Inv.Zy {pins':List (Addr×Obj)} (I:Inv X pins σ H s) (h:∀p∈pins',s.heap.get? p.1=some p.2/\H p.1=none/\p.1≠X.env.locals/\p.1∉X.fs/\∀v,p.2.data≠.cell v):Inv X pins' σ H s :=
 ⟨I.ok,I.os,I.bare,I.base,I.loc,I.cell,I.free,I.freeC,λp hp=>(YE.mp hp).elim (λz=>I.pin p (YR _ z)) (h p),I.hok,I.len⟩
theorem ZhN {N:List Str} (hN:N.Nodup) {i j:Nat}{x:Str} (a:N[i]?=some x) (b:N[j]?=some x):i=j:=by
 obtain⟨h1,e1⟩:=Ym.mp a
 obtain⟨h2,e2⟩:=Ym.mp b
 exact(List.getElem_inj hN).mp (e1.trans e2.symm)
theorem Zoq {M:Model}{A:Around}{E:Value->Shared->Prop}{i:Nat}{x:Str}{v:V}{u:Value}{Q:Unit->Shared->Prop} (I:Inv X pins σ H s) (hN:X.N.Nodup) (hi:X.N[i]?=some x) (hx:Loc X.env.scope x) (r:RelV v u)
  (h:∀s',Inv X pins (σ.set i (some v)) H s'->(∃a,Heap.SameBut a s.heap s'.heap/\(a=X.env.locals\/X.env.cells.lookup x=some a))->Q () s') (hf:X.fn x=true\/X.env.scope.names.lookup x=some .local:=by first|exact .inl rfl|exact .inr rfl|assumption):wpAny M A (storeName X.env x u) Q E s:=by
 obtain⟨m,hn,hl⟩:=id I.loc
 have hcls:(X.env.scope.kind==.class||(X.env.scope.kind==.module&&X.env.locals != X.env.globals))=false:=by rw[I.ok.kind];rfl
 have hiσ:i < σ.length:=by rw[I.len];exact(Ym.mp hi).1
 have cne:=I.cne
 have tracked:∀{a:Addr}{h':Heap},(∃o,s.heap.get? a=some o/\H a=none)->Heap.SameBut a s.heap h'->HOk X.prog X.w H h':=λ{a h'} ha hs b ob e=>by
  obtain⟨_,_,hfree⟩:=ha
  refine(I.hok b ob e).Zf1 (λc w' hc q=>(hs.2 c ?_).trans q) (λ_ q=>q) (λ_ _ q=>q) λ_ _ _ q=>q
  rintro rfl
  rcases hc with rfl|hc
  ·rw[hfree]at e;cases e
  ·rw[hfree]at hc;cases hc
 rcases hx with hk|hk
 ·refine wpAny_storeName_local hk hn (λh' hn' hs=>?_) hcls
  obtain⟨oL,_,_,hoL,_⟩:=id hn
  refine h _ ⟨I.ok,I.os,I.bare,⟨λb o e n hb hx=>?_,λb o e n hb hx=>?_,I.base.free,λb o e hx=>?_,I.base.tups,I.base.frzs,I.base.tbls⟩,⟨_,hn',λj y v' e1 e2 e3=>?_⟩,λy c e=>?_,I.free,I.freeC,λp hp=>?_,tracked ⟨oL,hoL,I.free⟩ hs,by simpa using I.len⟩ ⟨_,hs,.inl rfl⟩
  ·exact(hs.2 b (Yk (Yv (Yh e) I.ok.above))).trans (I.base.keep b o e n hb hx)
  ·obtain⟨sl,e1⟩:=I.base.slot b o e n hb hx
   exact⟨sl,(hs.2 b (Yk (Yv (Yh e) I.ok.above))).trans e1⟩
  ·obtain⟨o',e1⟩:=I.base.there b o e hx
   exact⟨o',(hs.2 b (Yk (Yv (Yh e) I.ok.above))).trans e1⟩
  ·by_cases hj:j=i
   ·subst hj
    rw[hi]at e1;cases e1
    rw[List.getElem?_set_self hiσ]at e2
    cases e2
    exact⟨u,r,.inl ⟨hk,by simp⟩⟩
   ·rw[List.getElem?_set_ne (Ne.symm hj)]at e2
    obtain⟨u',r',q⟩:=hl j y v' e1 e2 e3
    refine⟨u',r',?_⟩
    rcases q with⟨k,e⟩|⟨k,c,e,z⟩
    ·refine .inl ⟨k,?_⟩
     have:y≠x:=λe=>hj (ZhN hN e1 (e▸hi))
     simp[this,e]
    ·exact .inr ⟨k,c,e,z.sameBut hs (cne y c e)⟩
  ·obtain⟨w',z⟩:=I.cell y c e
   exact⟨w',z.sameBut hs (cne y c e)⟩
  ·obtain⟨e,n,ne,nf,d⟩:=I.pin p hp
   exact⟨(hs.2 p.1 ne).trans e,n,ne,nf,d⟩
 ·have hfn:X.fn x=true:=by
   rcases hf with z|z
   ·exact z
   ·rw[z]at hk;cases hk
  obtain⟨c,hc⟩:=I.ok.has x (.inl hk)
  obtain⟨w',z⟩:=I.cell x c hc
  refine wpAny_storeName_cell I.ok.kind hk hc z (λh' hc' hs=>?_)
  obtain⟨oc,hoc,hocd⟩:=id z
  refine h {s with heap:=h'} ⟨I.ok,I.os,I.bare,⟨λb o e n hb hx=>?_,λb o e n hb hx=>?_,I.base.free,λb o e hx=>?_,I.base.tups,I.base.frzs,I.base.tbls⟩,⟨m,hn.sameBut hs (Ne.symm (cne x c hc)),λj y v' e1 e2 e3=>?_⟩,λy c' e=>?_,I.free,I.freeC,λp hp=>?_,tracked ⟨oc,hoc,I.freeC x c hc⟩ hs,by simpa using I.len⟩ ⟨c,hs,.inr hc⟩
  ·exact(hs.2 b (Yk (Yv (Yh e) (I.ok.cab x c hfn hc)))).trans (I.base.keep b o e n hb hx)
  ·obtain⟨sl,e1⟩:=I.base.slot b o e n hb hx
   exact⟨sl,(hs.2 b (Yk (Yv (Yh e) (I.ok.cab x c hfn hc)))).trans e1⟩
  ·obtain⟨o',e1⟩:=I.base.there b o e hx
   exact⟨o',(hs.2 b (Yk (Yv (Yh e) (I.ok.cab x c hfn hc)))).trans e1⟩
  ·by_cases hj:j=i
   ·subst hj
    rw[hi]at e1;cases e1
    rw[List.getElem?_set_self hiσ]at e2
    cases e2
    exact⟨u,r,.inr ⟨.inl hk,c,hc,hc'⟩⟩
   ·rw[List.getElem?_set_ne (Ne.symm hj)]at e2
    obtain⟨u',r',q⟩:=hl j y v' e1 e2 e3
    refine⟨u',r',?_⟩
    rcases q with q|⟨k,c',e,z'⟩
    ·exact .inl q
    ·refine .inr ⟨k,c',e,z'.sameBut hs ?_⟩
     rintro rfl
     exact hj (ZhN hN e1 (I.ok.inj _ _ _ e hc▸hi))
  ·by_cases hcc:c'=c
   ·subst hcc;exact⟨_,hc'⟩
   ·obtain⟨w2,z2⟩:=I.cell y c' e
    exact⟨w2,z2.sameBut hs hcc⟩
  ·obtain⟨e,n,ne,nf,d⟩:=I.pin p hp
   refine⟨(hs.2 p.1 ?_).trans e,n,ne,nf,d⟩
   intro q
   rw[q,hoc]at e
   have q':oc=p.2:=YA e
   exact d w' (by rw[<-q'];exact hocd)
theorem Zer {M:Model}{A:Around}{E:Value->Shared->Prop}{i:Nat}{x:Str}{v:V}{u:Value}{Q:Unit->Shared->Prop} (I:Inv X pins σ H s) (hN:X.N.Nodup) (hi:X.N[i]?=some x) (hx:Loc X.env.scope x) (r:RelV v u)
  (h:∀s',Inv X pins (σ.set i (some v)) H s'->Q () s') (hf:X.fn x=true\/X.env.scope.names.lookup x=some .local:=by first|exact .inl rfl|exact .inr rfl|assumption):wpAny M A (storeName X.env x u) Q E s :=
 Zoq I hN hi hx r (λs' I' _=>h s' I') hf
theorem Inv.Znu {s':Shared}{ch:List Addr} (I:Inv X pins σ H s) (ho:s'.os=s.os) (u:Un (frs X.stack) ch H H' s.heap s'.heap) (hok:HOk X.prog X.w H' s'.heap) (hg:AllBare s'.gens)
  (hch:∀b∈ch,(b∈X.ex\/X.s₀.heap.objs.size<=b)/\b≠X.env.locals/\(∀x c,X.env.cells.lookup x=some c->c≠b)/\∀p∈X.pn++pins,p.1≠b):Inv X pins σ H' s':=by
 obtain⟨h',g',d',t',o'⟩:=s'
 have e:o'=s.os:=ho
 subst e
 exact I.call (g':=g') (t':=t') (d':=d') u hok hg hch
end
noncomputable abbrev XK:=Value->Option Addr->Hp->Prop
noncomputable abbrev St:=List (Option V)
noncomputable abbrev VK:=V->Hp->Prop
noncomputable abbrev TE:=St->Hp->VK->Prop
noncomputable abbrev TT:=St->Hp->(Bool->Hp->Prop)->Prop
noncomputable abbrev TA:=St->Hp->(List V->Hp->Prop)->Prop
structure Ends where
 nx:St->Hp->Prop
 rt:VK
 bk:St->Hp->Prop:=λ_ _=>False
 ct:St->Hp->Prop:=λ_ _=>False
noncomputable abbrev TS:=Ends->St->Hp->Prop
noncomputable def EP (X:Cx) (pins:List (Addr×Obj)) (σ:St) (Q:VK) (u:Value) (s':Shared):Prop:=∃v H',Inv X pins σ H' s'/\RelV v u/\Q v H'
noncomputable def TP (X:Cx) (pins:List (Addr×Obj)) (σ:St) (Q:Bool->Hp->Prop) (b:Bool) (s':Shared):Prop:=∃H',Inv X pins σ H' s'/\Q b H'
noncomputable def AP (X:Cx) (pins:List (Addr×Obj)) (σ:St) (Q:List V->Hp->Prop) (us:List Value) (s':Shared):Prop:=∃vs H',Inv X pins σ H' s'/\Vals vs us/\Q vs H'
noncomputable def SP (X:Cx) (pins:List (Addr×Obj)) (D:Ends) (f:Flow) (s':Shared):Prop :=
 match f with
 |.next=>∃σ' H',Inv X pins σ' H' s'/\D.nx σ' H'
 |.brk=>∃σ' H',Inv X pins σ' H' s'/\D.bk σ' H'
 |.cont=>∃σ' H',Inv X pins σ' H' s'/\D.ct σ' H'
 |.ret u=>∃v σ' H',Inv X pins σ' H' s'/\RelV v u/\D.rt v H'
noncomputable def PE (X:Cx) (e:Expr) (t:TE):Prop :=
 ∀(pins:List (Addr×Obj)) (s:Shared) (σ:St) (H:Hp) (Q:VK),Inv X pins σ H s->t σ H Q->wpAny (model X.prog X.w) X.A (eval e X.env) (EP X pins σ Q) X.xe s
noncomputable def PT (X:Cx) (e:Expr) (t:TT):Prop :=
 ∀(pins:List (Addr×Obj)) (s:Shared) (σ:St) (H:Hp) (Q:Bool->Hp->Prop),Inv X pins σ H s->t σ H Q->wpAny (model X.prog X.w) X.A (isTrue e X.env (eval e X.env)) (TP X pins σ Q) X.xe s
noncomputable def PW (X:Cx) (e:Expr) (t:TT):Prop :=
 ∀(whole:Sem Value) (pins:List (Addr×Obj)) (s:Shared) (σ:St) (H:Hp) (Q:Bool->Hp->Prop),Inv X pins σ H s->t σ H Q->wpAny (model X.prog X.w) X.A (isTrue e X.env whole) (TP X pins σ Q) X.xe s
theorem PW.pt {X:Cx}{e:Expr}{t:TT} (h:PW X e t):PT X e t:=h _
noncomputable def PA (X:Cx) (es:List Expr) (t:TA):Prop :=
 ∀(pos:Pos) (pins:List (Addr×Obj)) (s:Shared) (σ:St) (H:Hp) (Q:List V->Hp->Prop),Inv X pins σ H s->t σ H Q->wpAny (model X.prog X.w) X.A (spliced (backTo pos (starEach es X.env))) (AP X pins σ Q) X.xe s
noncomputable def PS (X:Cx) (st:Stmt) (t:TS):Prop :=
 ∀(pins:List (Addr×Obj)) (s:Shared) (σ:St) (H:Hp) (D:Ends),Inv X pins σ H s->t D σ H->wpAny (model X.prog X.w) X.A (exec st X.env) (SP X pins D) X.xe s
noncomputable def PSs (X:Cx) (st:List Stmt) (t:TS):Prop :=
 ∀(pins:List (Addr×Obj)) (s:Shared) (σ:St) (H:Hp) (D:Ends),Inv X pins σ H s->t D σ H->wpAny (model X.prog X.w) X.A (execs st X.env) (SP X pins D) X.xe s
theorem thn {α:Type}{t:Sem α}{Q Q':α->Shared->Prop}{M:Model}{A:Around}{E:Value->Shared->Prop}{s:Shared} (h:wpAny M A t Q E s) (hQ:∀a s,Q a s->Q' a s):wpAny M A t Q' E s:=Yz h hQ λ_ _ x=>x
section
variable {X:Cx}
noncomputable def tVar (i:Nat):TE:=fun σ H Q=>∃v,σ[i]?=some (some v)/\Q v H
noncomputable def tC (v:V):TE:=λ_ H Q=>Q v H
theorem pe_var {i:Nat}{x:Str}{pos:Pos} (hN:X.N[i]?=some x) (hv:Vis X.env.scope x) (hd:(x==("__debug__":Str))=false:=by decide) (hcd:(x==("__classdict__":Str))=false:=by decide):PE X (.Name x pos) (tVar i):=by
 intro pins s σ H Q I h
 obtain⟨v,e,h⟩:=h
 obtain⟨m,hn,hl⟩:=I.loc
 obtain⟨u,r,l⟩:=hl i x v hN e hv
 have fin:EP X pins σ Q u s:=⟨v,H,I,r,h⟩
 rcases l with⟨hk,hm⟩|⟨hk,c,hc,hcell⟩
 ·exact wpAny_Name (wpAny_loadName_local I.ok.kind hk hn hm fin) hd
 ·rcases hk with hk|hk
  ·exact wpAny_Name (wpAny_loadName_cell I.ok.kind hk hc hcell fin) hd
  ·exact wpAny_Name (wpAny_loadName_free I.ok.kind hk hc hcell fin hcd) hd
theorem Zg {i j pos}:PE X (.Constant (.int i) j pos) (tC (.int i)):=λ_ _ _ H _ I h=>wpAny_Constant_int ⟨.int i,H,I.tok _,⟨_,rfl⟩,h⟩
theorem Zjx {b j pos}:PE X (.Constant (.bool b) j pos) (tC (.bl b)):=λ_ _ _ H _ I h=>Constant_bool ⟨.bl b,H,I,rfl,h⟩
theorem ZU {j pos}:PE X (.Constant .none j pos) (tC .non):=λ_ _ _ H _ I h=>Constant_none ⟨.non,H,I,rfl,h⟩
noncomputable def Gl (X:Cx) (x:Str):Prop:=X.env.kindOf x=some .globalImplicit
theorem Ze6 {E:Value->Shared->Prop}{pins:List (Addr×Obj)}{s:Shared}{σ:St}{H:Hp}{x:Str}{u:Value}{pos:Pos}{Q:Value->Shared->Prop} (I:Inv X pins σ H s) (hg:Gl X x) (hm:X.mg x=some u) (h:Q u s)
  (hd:(x==("__debug__":Str))=false:=by decide):wpAny (model X.prog X.w) X.A (eval (.Name x pos) X.env) Q E s :=
 Calls.Name_function_global I.ok.kind hg (Calls.loadGlobal_global (by rw[I.ok.glob];exact I.mod.glob.keeps I.bk) hm h) hd
theorem ZbR {E:Value->Shared->Prop}{pins:List (Addr×Obj)}{s:Shared}{σ:St}{H:Hp}{x:Str}{u:Value}{pos:Pos}{Q:Value->Shared->Prop} (I:Inv X pins σ H s) (hg:Gl X x) (hm:X.mg x=none) (hv:bootBuiltins x=some u) (h:Q u s)
  (hn:x≠"__name__":=by decide) (hd:(x==("__debug__":Str))=false:=by decide):wpAny (model X.prog X.w) X.A (eval (.Name x pos) X.env) Q E s:=by
 obtain⟨mb,h1,h2⟩:=I.mod.blt
 exact Calls.Name_function_global I.ok.kind hg (Calls.loadGlobal_builtin (by rw[I.ok.glob];exact I.mod.glob.keeps I.bk) hm (by rw[I.ok.blt];exact h1.keeps I.bk) ((h2 x hn).trans hv) h) hd
theorem ZW {x:Str}{v:V}{u:Value}{pos:Pos} (hg:Gl X x) (hm:X.mg x=some u) (r:RelV v u) (hd:(x==("__debug__":Str))=false:=by decide):PE X (.Name x pos) (tC v) :=
 λ_ _ _ H _ I h=>Ze6 I hg hm ⟨v,H,I,r,h⟩ hd
theorem Zs1 {x:Str}{v:V}{u:Value}{pos:Pos} (hg:Gl X x) (hm:X.mg x=none) (hv:bootBuiltins x=some u) (r:RelV v u) (hn:x≠"__name__":=by decide) (hd:(x==("__debug__":Str))=false:=by decide):PE X (.Name x pos) (tC v) :=
 λ_ _ _ H _ I h=>ZbR I hg hm hv ⟨v,H,I,r,h⟩ hn hd
variable {a b:Expr}{ta tb:TE}{pos:Pos}
noncomputable def PC (X:Cx) (op:CmpOp) (a b:Expr) (t:TE):Prop :=
 ∀(pins:List (Addr×Obj)) (s:Shared) (σ:St) (H:Hp) (Q:VK),Inv X pins σ H s->t σ H Q ->
  wpAny (model X.prog X.w) X.A (eval a X.env) (λv s₁=>wpAny (model X.prog X.w) X.A (eval b X.env) (λu s₂=>wpAny (model X.prog X.w) X.A (compareOp op v u) (EP X pins σ Q) X.xe s₂) X.xe s₁) X.xe s
theorem Zpv (b:Expr) {op:CmpOp} (h:op≠.In) (h2:op≠.NotIn):behindInMarks op b=false:=by
 have e1:(op==CmpOp.In)=false:=by cases op<;>first|rfl|exact absurd rfl h
 have e2:(op==CmpOp.NotIn)=false:=by cases op<;>first|rfl|exact absurd rfl h2
 cases b<;>simp[behindInMarks,e1,e2]
noncomputable def tB (t:TE):TT:=fun σ H Q=>t σ H λx H1=>∃c,x=.bl c/\Q c H1
theorem pt_cmp {op:CmpOp}{t:TE} (h:PC X op a b t) (h1:behindInMarks op b=false:=by first|exact Zpv _ (by decide) (by decide)|rfl):PT X (.Compare a [op] [b] pos) (tB t):=by
 intro pins s σ H Q I hw
 refine wpAny_isTrue_Compare1 (thn (h pins s σ H _ I hw) λv s1 h1=>thn h1 λu s2 h2=>thn h2 λc s3 ⟨x,H1,I1,r1,q1⟩=>?_) h1
 obtain⟨d,rfl,q⟩:=q1
 cases r1
 exact wpAny_truthy_bool ⟨H1,I1,q⟩
theorem ZfA {e:Expr}{t:TE} (h:PE X e t) (he:∀whole,isTrue e X.env whole=(do let v <-whole;standAt e.pos;holding [v] (truthy v)):=by intro _;rfl):PT X e (tB t):=by
 intro pins s σ H Q I hw
 refine isTrue_plain (thn (h pins s σ H _ I hw) λv s1 ⟨x,H1,I1,r1,q1⟩=>?_) (he _)
 obtain⟨d,rfl,q⟩:=q1
 cases r1
 exact wpAny_truthy_bool ⟨H1,I1,q⟩
variable {tA tB':TT}{rest:List Expr}
noncomputable def tAnd (t u:TT):TT:=fun σ H Q=>t σ H λc H1=>if c=true then u σ H1 Q else Q false H1
noncomputable def tOr (t u:TT):TT:=fun σ H Q=>t σ H λc H1=>if c=true then Q true H1 else u σ H1 Q
noncomputable def tNot (t:TT):TT:=fun σ H Q=>t σ H λc H1=>Q (!c) H1
theorem ZdF (ha:PT X a tA):PW X (.BoolOp .And [a] pos) tA:=by
 intro wh pins s σ H Q I h
 refine isTrue_and (thn (ha pins s σ H Q I h) λc s1 e=>?_)
 cases c with
 |true=>exact isTrue_and_nil e
 |false=>exact e
theorem ZhO (ha:PT X a tA):PW X (.BoolOp .Or [a] pos) tA:=by
 intro wh pins s σ H Q I h
 refine isTrue_or (thn (ha pins s σ H Q I h) λc s1 e=>?_)
 cases c with
 |false=>exact isTrue_or_nil e
 |true=>exact e
theorem ZdG (ha:PT X a tA) (hb:PW X (.BoolOp .And (b::rest) pos) tB'):PW X (.BoolOp .And (a::b::rest) pos) (tAnd tA tB'):=by
 intro wh pins s σ H Q I h
 refine isTrue_and (thn (ha pins s σ H _ I h) λc s1 ⟨H1,I1,q1⟩=>?_)
 cases c with
 |true=>exact hb wh pins s1 σ H1 Q I1 q1
 |false=>exact⟨H1,I1,q1⟩
theorem Zk6 (ha:PT X a tA) (hb:PW X (.BoolOp .Or (b::rest) pos) tB'):PW X (.BoolOp .Or (a::b::rest) pos) (tOr tA tB'):=by
 intro wh pins s σ H Q I h
 refine isTrue_or (thn (ha pins s σ H _ I h) λc s1 ⟨H1,I1,q1⟩=>?_)
 cases c with
 |true=>exact⟨H1,I1,q1⟩
 |false=>exact hb wh pins s1 σ H1 Q I1 q1
theorem ZhP (ha:PT X a tA):PT X (.UnaryOp .Not a pos) (tNot tA):=by
 intro pins s σ H Q I h
 exact isTrue_not (ha pins s σ H (λc H1=>Q (!c) H1) I h)
noncomputable def Zpw (ta tb:TE):TE:=fun σ H Q=>ta σ H λx H1=>∃c,x=.bl c/\if c=true then tb σ H1 Q else Q (.bl false) H1
theorem Zpx {op}{t:TE} (h:PE X a t):PE X (.BoolOp op [a] pos) t:=λpins s σ H Q I hw=>BoolOp_one (h pins s σ H Q I hw)
theorem Zmg (ha:PE X a ta) (hb:PE X (.BoolOp .And (b::rest) pos) tb):PE X (.BoolOp .And (a::b::rest) pos) (Zpw ta tb):=by
 intro pins s σ H Q I h
 refine BoolOp_and (thn (ha pins s σ H _ I h) λv s1 ⟨x,H1,I1,r1,q1⟩=>?_)
 obtain⟨c,rfl,q1⟩:=q1
 cases r1
 refine wpAny_truthy_bool ?_
 cases c with
 |true=>exact hb pins s1 σ H1 Q I1 q1
 |false=>exact⟨.bl false,H1,I1,rfl,q1⟩
noncomputable def tIf (t:TT) (ta tb:TE):TE:=fun σ H Q=>t σ H λc H1=>if c=true then ta σ H1 Q else tb σ H1 Q
theorem Zk7 {c:Expr} (hc:PT X c tA) (ha:PE X a ta) (hb:PE X b tb):PE X (.IfExp c a b pos) (tIf tA ta tb):=by
 intro pins s σ H Q I h
 refine wpAny_IfExp (thn (hc pins s σ H _ I h) λd s1 ⟨H1,I1,q1⟩=>?_)
 cases d with
 |true=>exact ha pins s1 σ H1 Q I1 q1
 |false=>exact hb pins s1 σ H1 Q I1 q1
end
noncomputable def SqL (K:PySem.W.Frag) (H:Hp) (a:Addr) (xs:List V):Prop :=
 Rd H a (.lst xs) \/
  ∃(o:Obj) (its:Array Value) (n:Nat),K.lookup a=some o/\o.cls=.type "list"/\o.dict=none/\o.data=.seq its n/\its.size<=sizeLine/\Vals xs its.toList
noncomputable def SqT (K:PySem.W.Frag) (H:Hp) (a:Addr) (xs:List V):Prop :=
 Rd H a (.tup xs) \/
  ∃(o:Obj) (its:Array Value) (n:Nat),K.lookup a=some o/\o.cls=.type "tuple"/\o.data=.seq its n/\its.size<=sizeLine/\Vals xs its.toList
noncomputable def absV:Value->Option V
 |.none=>some .non
 |.bool b=>some (.bl b)
 |.int i _=>some (.int i)
 |.str x _=>some (.str x)
 |.bytes b _=>some (.byt b)
 |.float b _=>some (.flt b)
 |.ref a=>some (.ref a)
 |.type n=>some (.ty n)
 |_=>none
theorem RelV.abs {x:V}{u:Value} (r:RelV x u):absV u=some x:=by
 cases x with
 |non=>cases r;rfl
 |bl _=>cases r;rfl
 |int _=>obtain⟨t,rfl⟩:=r;rfl
 |str _=>obtain⟨t,rfl⟩:=r;rfl
 |byt _=>obtain⟨t,rfl⟩:=r;rfl
 |flt _=>obtain⟨t,rfl⟩:=r;rfl
 |ref _=>cases r;rfl
 |ty _=>cases r;rfl
theorem RelV.inj {x y:V}{u:Value} (r:RelV x u) (q:RelV y u):x=y:=YA (r.abs.symm.trans q.abs)
theorem Vals.inj:∀{xs ys:List V}{us:List Value},Vals xs us->Vals ys us->xs=ys
 |_,_,_,.nil,.nil=>rfl
 |_,_,_,.cons r t,.cons r' t'=>by rw[r.inj r',Vals.inj t t']
section
variable {X:Cx}{pins:List (Addr×Obj)}{σ:St}{H:Hp}{s:Shared}{a:Addr}{xs ys:List V}
theorem SqL.of {K:PySem.W.Frag} (h:H a=some (.lst xs)):SqL K H a xs:=.inl (.inl h)
theorem SqT.of {K:PySem.W.Frag} (h:H a=some (.tup xs)):SqT K H a xs:=.inl (.inl h)
theorem Inv.list (I:Inv X pins σ H s) (h:SqL X.K H a xs):∃its:List Value,Vals xs its/\PlainL s.heap a its.toArray/\xs.length<=sizeLine:=by
 rcases h with h|⟨o,its,n,hk,hc,hd,hs,hz,r⟩
 ·obtain⟨z,its,n,r,e⟩:=h.ok I.hok
  exact⟨its,r,⟨_,n,e,rfl,rfl,rfl⟩,z⟩
 ·refine⟨its.toList,r,⟨o,n,I.kIn a o hk,hc,hd,by simpa using hs⟩,?_⟩
  have e:=r.length
  simp only[Yp]at e
  omega
theorem Inv.tuple (I:Inv X pins σ H s) (h:SqT X.K H a xs):∃its:List Value,Vals xs its/\IsTup s.heap a its.toArray/\xs.length<=sizeLine:=by
 rcases h with h|⟨o,its,n,hk,hc,hs,hz,r⟩
 ·obtain⟨z,its,r,p⟩:=h.ok I.hok
  exact⟨its,r,p,z⟩
 ·refine⟨its.toList,r,⟨o,I.kIn a o hk,hc,n,by simpa using hs⟩,?_⟩
  have e:=r.length
  simp only[Yp]at e
  omega
theorem Inv.ZbG (I:Inv X pins σ H s) (h:SqL X.K H a xs) (h':SqL X.K H a ys):xs=ys:=by
 obtain⟨its,r,⟨o,n,e,_,_,d⟩,_⟩:=I.list h
 obtain⟨its',r',⟨o',n',e',_,_,d'⟩,_⟩:=I.list h'
 rw[e]at e';cases e'
 rw[d]at d'
 injection d' with d1 _
 have:its=its':=by simpa using congrArg Array.toList d1
 subst this
 exact r.inj r'
theorem Inv.Ze7 (I:Inv X pins σ H s) (h:SqT X.K H a xs) (h':SqT X.K H a ys):xs=ys:=by
 obtain⟨its,r,⟨o,e,_,n,d⟩,_⟩:=I.tuple h
 obtain⟨its',r',⟨o',e',_,n',d'⟩,_⟩:=I.tuple h'
 rw[e]at e';cases e'
 rw[d]at d'
 injection d' with d1 _
 have:its=its':=by simpa using congrArg Array.toList d1
 subst this
 exact r.inj r'
end
noncomputable abbrev Cx.ZiX (X:Cx) (E:Value->Shared->Prop):Cx:={X with xe:=E}
noncomputable abbrev Cx.nox (X:Cx):Cx:=X.ZiX λ_ _=>False
theorem Cx.Ok.ZiX {X:Cx} (ok:X.Ok) (E:Value->Shared->Prop):(X.ZiX E).Ok :=
 ⟨ok.mod,ok.kind,ok.glob,ok.blt,ok.above,ok.inj,ok.has,ok.cab,ok.hd,ok.frames,ok.stk,ok.exf,ok.bs,ok.bsz,ok.noex,ok.exfs,ok.funs,ok.frf⟩
theorem Cx.Ok.Zes {X:Cx}{E:Value->Shared->Prop} (ok:(X.ZiX E).Ok):X.Ok :=
 ⟨ok.mod,ok.kind,ok.glob,ok.blt,ok.above,ok.inj,ok.has,ok.cab,ok.hd,ok.frames,ok.stk,ok.exf,ok.bs,ok.bsz,ok.noex,ok.exfs,ok.funs,ok.frf⟩
section
variable {X:Cx}{pins:List (Addr×Obj)}{σ:St}{H:Hp}{s:Shared}{E:Value->Shared->Prop}
theorem Inv.ZiX (I:Inv X pins σ H s) (E:Value->Shared->Prop):Inv (X.ZiX E) pins σ H s:=⟨I.ok.ZiX E,I.os,I.bare,I.base,I.loc,I.cell,I.free,I.freeC,I.pin,I.hok,I.len⟩
theorem Inv.Zes (I:Inv (X.ZiX E) pins σ H s):Inv X pins σ H s:=⟨I.ok.Zes,I.os,I.bare,I.base,I.loc,I.cell,I.free,I.freeC,I.pin,I.hok,I.len⟩
theorem SP.Zes {D:Ends}{f:Flow}{s':Shared} (h:SP (X.ZiX E) pins D f s'):SP X pins D f s':=by
 cases f with
 |next=>obtain⟨σ',H',I,q⟩:=h;exact⟨σ',H',I.Zes,q⟩
 |brk=>obtain⟨σ',H',I,q⟩:=h;exact⟨σ',H',I.Zes,q⟩
 |cont=>obtain⟨σ',H',I,q⟩:=h;exact⟨σ',H',I.Zes,q⟩
 |ret u=>obtain⟨v,σ',H',I,r,q⟩:=h;exact⟨v,σ',H',I.Zes,r,q⟩
end
section
variable {X:Cx}{st:Stmt}{rest:List Stmt}{t u:TS}{e:Expr}{te:TE}{pos:Pos}
noncomputable def Zpy:TS:=λD σ H=>D.nx σ H
noncomputable def tSeq (t u:TS):TS:=λD σ H=>t {D with nx:=u D} σ H
theorem ZE:PSs X [] Zpy:=λ_ _ σ H _ I h=>wpAny_execs_nil ⟨σ,H,I,h⟩
theorem Zd (h1:PS X st t) (h2:PSs X rest u):PSs X (st::rest) (tSeq t u):=by
 intro pins s σ H D I h
 refine wpAny_execs_cons (thn (h1 pins s σ H {D with nx:=u D} I h) λf s1 q=>?_)
 cases f with
 |next =>
  obtain⟨σ',H',I',q⟩:=q
  exact h2 pins s1 σ' H' D I' q
 |ret v=>exact q
 |brk=>exact q
 |cont=>exact q
theorem Zh (h1:PS X st t):PSs X [st] t:=by
 intro pins s σ H D I h
 refine wpAny_execs_cons (thn (h1 pins s σ H D I h) λf s1 q=>?_)
 cases f with
 |next=>exact wpAny_execs_nil q
 |ret v=>exact q
 |brk=>exact q
 |cont=>exact q
theorem Inv.quiet {pins:List (Addr×Obj)}{σ:St}{H:Hp}{s:Shared} (I:Inv X pins σ H s):interactive X.env=false:=by simp[interactive,I.ok.kind]
noncomputable def Zpz (te:TE):TS:=λD σ H=>te σ H λ_ H1=>D.nx σ H1
theorem ZbZ (he:PE X e te) (hs:swapsWith e none pos.line X.env=pure false:=by rfl):PS X (.Expr e pos) (Zpz te):=by
 intro pins s σ H D I h
 exact wpAny_Expr_any (thn (he pins s σ H _ I h) λv s1 ⟨x,H1,I1,r1,q1⟩=>⟨σ,H1,I1,q1⟩) I.quiet hs
noncomputable def tRet (te:TE):TS:=λD σ H=>te σ H D.rt
theorem Zt (he:PE X e te):PS X (.Return (some e) pos) (tRet te):=by
 intro pins s σ H D I h
 exact wpAny_Return_some (thn (he pins s σ H _ I h) λv s1 ⟨x,H1,I1,r1,q1⟩=>⟨x,σ,H1,I1,r1,q1⟩)
noncomputable def tIfS (c:TT) (t u:TS):TS:=λD σ H=>c σ H λb H1=>if b=true then t D σ H1 else u D σ H1
theorem ZV {c:Expr}{a b:List Stmt}{tc:TT} (hc:PT X c tc) (ha:PSs X a t) (hb:PSs X b u):PS X (.If c a b pos) (tIfS tc t u):=by
 intro pins s σ H D I h
 refine wpAny_If (thn (hc pins s σ H _ I h) λd s1 ⟨H1,I1,q1⟩=>?_)
 cases d with
 |true=>exact ha pins s1 σ H1 D I1 q1
 |false=>exact hb pins s1 σ H1 D I1 q1
end
noncomputable abbrev TG:=V->St->Hp->(St->Hp->Prop)->Prop
noncomputable abbrev TGs:=List V->St->Hp->(St->Hp->Prop)->Prop
noncomputable def PG (X:Cx) (target:Expr) (t:TG):Prop :=
 ∀(pins:List (Addr×Obj)) (s:Shared) (σ:St) (H:Hp) (v:V) (u:Value) (Q:St->Hp->Prop),Inv X pins σ H s->RelV v u->t v σ H Q ->
  wpAny (model X.prog X.w) X.A (assign target X.env u) (λ_ s'=>∃σ' H',Inv X pins σ' H' s'/\Q σ' H') X.xe s
noncomputable def PGs (X:Cx) (ts:List Expr) (t:TGs):Prop :=
 ∀(pins:List (Addr×Obj)) (s:Shared) (σ:St) (H:Hp) (vs:List V) (us:List Value) (Q:St->Hp->Prop),Inv X pins σ H s->Vals vs us->t vs σ H Q ->
  wpAny (model X.prog X.w) X.A (assignInOrder ((assignEach ts X.env).map (·.2)) us) (λ_ s'=>∃σ' H',Inv X pins σ' H' s'/\Q σ' H') X.xe s
noncomputable abbrev TSet:=V->V->V->Hp->(Hp->Prop)->Prop
noncomputable def PSet (X:Cx) (t:TSet):Prop :=
 ∀(pins:List (Addr×Obj)) (s:Shared) (σ:St) (H:Hp) (o i v:V) (ov iv u:Value) (Q:Hp->Prop),Inv X pins σ H s->RelV o ov->RelV i iv->RelV v u->t o i v H Q ->
  wpAny (model X.prog X.w) X.A (setItem ov iv u) (λ_ s'=>∃H',Inv X pins σ H' s'/\Q H') X.xe s
noncomputable abbrev TIp:=V->V->Hp->VK->Prop
noncomputable def PIp (X:Cx) (op:Operator) (t:TIp):Prop :=
 ∀(pins:List (Addr×Obj)) (s:Shared) (σ:St) (H:Hp) (x y:V) (v u:Value) (Q:VK),Inv X pins σ H s->RelV x v->RelV y u->t x y H Q ->
  wpAny (model X.prog X.w) X.A (inplaceOp op v u) (EP X pins σ Q) X.xe s
section
variable {X:Cx}{pos:Pos}
noncomputable def Zg7 (i:Nat):TG:=λv σ H Q=>Q (σ.set i (some v)) H
theorem Zn {i:Nat}{x:Str} (hN:X.N.Nodup) (hi:X.N[i]?=some x) (hx:Loc X.env.scope x) (hf:X.fn x=true\/X.env.scope.names.lookup x=some .local:=by first|exact .inl rfl|exact .inr rfl|assumption):PG X (.Name x pos) (Zg7 i):=by
 intro pins s σ H v u Q I r h
 exact wpAny_assign_Name (Zer I hN hi hx r (λs' I'=>⟨_,H,I',h⟩) hf)
noncomputable def gNil:TGs:=λvs σ H Q=>vs=[]/\Q σ H
noncomputable def ZpA (t:TG) (u:TGs):TGs:=λvs σ H Q=>∃v r,vs=v::r/\t v σ H fun σ' H'=>u r σ' H' Q
theorem Zf3:PGs X [] gNil:=by
 intro pins s σ H vs us Q I r h
 obtain⟨e,h⟩:=h
 subst e
 cases r
 exact assignInOrder_nil ⟨σ,H,I,h⟩
theorem ZaM {e:Expr}{es:List Expr}{t:TG}{u:TGs} (h1:PG X e t) (h2:PGs X es u)
  (hs:(assignEach (e::es) X.env).map (·.2)=assign e X.env::(assignEach es X.env).map (·.2):=by rfl):PGs X (e::es) (ZpA t u):=by
 intro pins s σ H vs us Q I r h
 obtain⟨v,vr,e1,h⟩:=h
 subst e1
 cases r with
 |cons r rr =>
  rw[hs]
  refine assignInOrder_cons (thn (h1 pins s σ H _ _ _ I r h) λ_ s1 ⟨σ1,H1,I1,q1⟩=>?_)
  exact h2 pins s1 σ1 H1 _ _ Q I1 rr q1
noncomputable def gTup (K:PySem.W.Frag) (n:Nat) (t:TGs):TG:=λv σ H Q=>∃a xs,v=.ref a/\SqT K H a xs/\xs.length=n/\t xs σ H Q
theorem ZpB {es:List Expr}{k:Nat}{t:TGs}{n:Nat} (hc:X.calm=true) (h:PGs X es t)
  (hn:(assignEach es X.env).length=n:=by rfl) (hst:(assignEach es X.env).findIdx? (·.1)=none:=by rfl):PG X (.Tuple es k pos) (gTup X.K n t):=by
 intro pins s σ H v u Q I r hw
 obtain⟨a,xs,e1,hq,hl,hw⟩:=hw
 subst e1
 cases r
 obtain⟨its,rv,ht,hz⟩:=I.tuple hq
 refine assign_Tuple_tuple (I.ok.hd hc) ht (by simp[hn,<-hl,rv.length]) hst λh' hx=>?_
 have I1:Inv X pins σ H {s with heap:=h'}:=I.kept (t':=s.toks) λb o e=>hx b o (Yk (Yh e)) e
 exact h pins _ σ H xs _ Q I1 (by simpa using rv) hw
noncomputable def gSub (to ti:TE) (t:TSet):TG:=λv σ H Q=>to σ H λo H1=>ti σ H1 λi H2=>t o i v H2 λH3=>Q σ H3
theorem ZhQ {o i:Expr}{to ti:TE}{t:TSet} (ho:PE X o to) (hi:PE X i ti) (hs:PSet X t)
  (ha:∀v,assign (.Subscript o i pos) X.env v=(do
   let ov <-holding [v] (eval o X.env)
   let iv <-holding [v,ov] (eval i X.env)
   standAt pos
   holding [v,ov,iv] (setItem ov iv v)
   release [v,ov,iv] []):=by intro _;rfl):PG X (.Subscript o i pos) (gSub to ti t):=by
 intro pins s σ H v u Q I r h
 rw[ha]
 refine Ya (YB (thn (ho pins s σ H _ I h) λov s1 ⟨x,H1,I1,r1,q1⟩=>?_))
 refine Ya (YB (thn (hi pins s1 σ H1 _ I1 q1) λiv s2 ⟨y,H2,I2,r2,q2⟩=>?_))
 refine Ya (wpAny_standAt (Ya (YB (thn (hs pins s2 σ H2 x y v ov iv u _ I2 r1 r2 r q2) λ_ s3 ⟨H3,I3,q3⟩=>?_))))
 exact wpAny_release ⟨σ,H3,I3,q3⟩
noncomputable def tAsg (te:TE) (g:TG):TS:=λD σ H=>te σ H λx H1=>g x σ H1 D.nx
theorem Zet {tg e:Expr}{te:TE}{g:TG} (he:PE X e te) (hg:PG X tg g) (hs:swapsWithSole [tg] e pos.line X.env=pure false:=by rfl) (hw:swappedStores [tg] e X.env=pure none:=by rfl)
  (h1:(assignEach [tg] X.env).map (·.2)=[assign tg X.env]:=by rfl):PS X (.Assign [tg] e pos) (tAsg te g):=by
 intro pins s σ H D I h
 refine wpAny_Assign_stores (thn (he pins s σ H _ I h) λv s1 ⟨x,H1,I1,r1,q1⟩=>?_) hs hw
 rw[h1]
 exact thn (hg pins s1 σ H1 x v _ I1 r1 q1) λ_ s2 q=>q
theorem Zo {i:Nat}{x:Str}{e:Expr}{te:TE}{pos':Pos} (hN:X.N.Nodup) (hi:X.N[i]?=some x) (hx:Loc X.env.scope x) (he:PE X e te) (hs:swapsWith e (some (.Name x pos')) pos.line X.env=pure false:=by rfl) (hf:X.fn x=true\/X.env.scope.names.lookup x=some .local:=by first|exact .inl rfl|exact .inr rfl|assumption) :
  PS X (.Assign [.Name x pos'] e pos) (tAsg te (Zg7 i)):=by
 intro pins s σ H D I h
 refine wpAny_Assign_Name (thn (he pins s σ H _ I h) λv s1 ⟨y,H1,I1,r1,q1⟩=>?_) hs
 exact Zer I1 hN hi hx r1 (λs2 I2=>⟨_,H1,I2,q1⟩) hf
noncomputable def tAug (i:Nat) (te:TE) (ti:TIp):TS:=λD σ H=>∃x,σ[i]?=some (some x)/\te σ H λy H1=>ti x y H1 λz H2=>D.nx (σ.set i (some z)) H2
theorem ps_aug {i:Nat}{x:Str}{e:Expr}{te:TE}{op:Operator}{ti:TIp}{pos':Pos} (hN:X.N.Nodup) (hi:X.N[i]?=some x) (hx:Loc X.env.scope x) (he:PE X e te) (ho:PIp X op ti) (hf:X.fn x=true\/X.env.scope.names.lookup x=some .local:=by first|exact .inl rfl|exact .inr rfl|assumption) :
  PS X (.AugAssign (.Name x pos') op e pos) (tAug i te ti):=by
 intro pins s σ H D I h
 obtain⟨v,e1,h⟩:=h
 obtain⟨m,hn,hl⟩:=I.loc
 have vis:Vis X.env.scope x:=by rcases hx with k|k;exact .inl k;exact .inr (.inl k)
 obtain⟨u,r,l⟩:=hl i x v hi e1 vis
 refine wpAny_AugAssign_Name ?_
 have go:wpAny (model X.prog X.w) X.A (eval e X.env) (λw s₂=>wpAny (model X.prog X.w) X.A (inplaceOp op u w) (λr s₃=>wpAny (model X.prog X.w) X.A (storeName X.env x r) (λ_=>SP X pins D .next) X.xe s₃) X.xe s₂) X.xe s:=by
  refine thn (he pins s σ H _ I h) λw s1 ⟨y,H1,I1,r1,q1⟩=>?_
  refine thn (ho pins s1 σ H1 v y u w _ I1 r r1 q1) λz s2 ⟨zv,H2,I2,r2,q2⟩=>?_
  exact Zer I2 hN hi hx r2 (λs3 I3=>⟨_,H2,I3,q2⟩) hf
 rcases l with⟨hk,hm⟩|⟨hk,c,hc,hcell⟩
 ·exact wpAny_loadName_local I.ok.kind hk hn hm go
 ·rcases hk with hk|hk
  ·exact wpAny_loadName_cell I.ok.kind hk hc hcell go
  ·rcases hx with k|k
   ·have:X.env.scope.names.lookup x=some .free:=hk
    rw[k]at this;cases this
   ·have:X.env.scope.names.lookup x=some .free:=hk
    rw[k]at this;cases this
noncomputable def ipI (f:Int->Int->Int):TIp:=λx y H Q=>∃i j,x=.int i/\y=.int j/\Q (.int (f i j)) H
theorem ip_sub:PIp X .Sub (ipI λi j=>i-j):=by
 intro pins s σ H x y v u Q I r1 r2 h
 obtain⟨i,j,e1,e2,q⟩:=h
 subst e1;subst e2
 obtain⟨t,rfl⟩:=r1
 obtain⟨t',rfl⟩:=r2
 exact isub_int ⟨.int _,H,I.tok _,⟨_,rfl⟩,q⟩
end
section
variable {X:Cx}{pos:Pos}
noncomputable def Zmh (c:TT) (tb:TS):TS:=λD σ H=>∃W:Nat->St->Hp->Prop,(∃m,W m σ H)/\∀m σ H,W m σ H ->
 c σ H λb H1=>if b=true then ∃N:St->Hp->Prop,(∀σ' H',N σ' H'->∃m',m'<m/\W m' σ' H')/\tb {D with nx:=N,ct:=N,bk:=D.nx} σ H1 else D.nx σ H1
theorem Zk8 {c:Expr}{body:List Stmt}{tc:TT}{tb:TS} (hp:PassesOwn (model X.prog X.w) X.A X.env X.xe) (hc:PT X c tc) (hb:PSs X body tb):PS X (.While c body [] pos) (Zmh tc tb):=by
 intro pins s σ H D I h
 obtain⟨W,⟨m0,w0⟩,turn⟩:=h
 refine wpAny_While (codeAny_whileLoop (λn s'=>∃σ' H',Inv X pins σ' H' s'/\W n σ' H') ?_ m0 ⟨σ,H,I,w0⟩)
 rintro n s1 ⟨σ1,H1,I1,w1⟩
 refine wpAny_passesOwn hp (thn (hc pins s1 σ1 H1 _ I1 (turn n σ1 H1 w1)) λb s2 ⟨H2,I2,q2⟩=>?_)
 cases b with
 |true =>
  obtain⟨N,hN,q2⟩:=q2
  rw[Yd rfl]
  refine wpAny_passesOwn hp (thn (hb pins s2 σ1 H2 _ I2 q2) λf s3 q3=>?_)
  cases f with
  |next =>
   obtain⟨σ3,H3,I3,n3⟩:=q3
   obtain⟨m',hm,w3⟩:=hN σ3 H3 n3
   exact⟨m',hm,σ3,H3,I3,w3⟩
  |cont =>
   obtain⟨σ3,H3,I3,n3⟩:=q3
   obtain⟨m',hm,w3⟩:=hN σ3 H3 n3
   exact⟨m',hm,σ3,H3,I3,w3⟩
  |brk=>exact q3
  |ret v=>exact q3
 |false =>
  rw[Yb YS]
  exact wpAny_execs_nil ⟨σ1,H2,I2,q2⟩
end
structure It where
 go:Nat->Hp->Prop
 yld:Nat->Hp->V->Hp->Prop
 stop:Nat->Hp->Prop
noncomputable def FpOk (X:Cx) (pins:List (Addr×Obj)) (H:Hp) (b:Addr):Prop :=
 H b=none/\b≠X.env.locals/\b∉X.fs/\(b∈X.ex\/X.s₀.heap.objs.size<=b)/\(∀x c,X.env.cells.lookup x=some c->c≠b)/\∀p∈X.pn++pins,p.1≠b
theorem Inv.Zmi {X:Cx}{pins:List (Addr×Obj)}{σ:St}{H H':Hp}{s:Shared}{b:Addr} (I:Inv X pins σ H s) (hb:s.heap.objs.size<=b) (hn:H' b=none):FpOk X pins H' b:=by
 refine⟨hn,Nat.ne_of_gt (Yv I.lt hb),I.Zk5 hb,.inr (Yo I.sz hb),λx c e z=>?_,λp hp z=>?_⟩
 ·obtain⟨v,q⟩:=I.cell x c e
  exact absurd (Yv q.lt (by rw[z];exact hb)) (YJ _)
 ·exact absurd (Yv (Yh (I.pin p hp).1) (by rw[z];exact hb)) (YJ _)
structure Turn (P:Program) (w:World) (K:PySem.W.Frag) (tg:Expr) (J:It) (fp:List Addr) (it:Addr) (tn:Nat->Heap->Prop):Prop where
 mem:it∈fp
 obj:∀i h,tn i h->∀b∈fp,∃o,h.get? b=some o/\∀v,o.data≠.cell v
 keep:∀i h h',tn i h->(∀b∈fp,∀o,h.get? b=some o->h'.get? b=some o)->tn i h'
 item:∀(X:Cx),X.prog=P->X.w=w->X.K=K->X.calm=true->∀(i:Nat) (pins:List (Addr×Obj)) (s:Shared) (σ:St) (H:Hp) (E:Value->Shared->Prop),Inv X pins σ H s->(∀b∈fp,FpOk X pins H b)->tn i s.heap->J.go i H ->
  wpAny (model P w) X.A (pyNext (.ref it)) (λr s1=>∃u,r=some u /\
   wpAny (model P w) X.A (letOwnedTupleGo tg (.ref it) u) (λ_ s2=>∃x H',Inv X pins σ H' s2/\RelV x u/\J.yld i H x H'/\tn (i+1) s2.heap/\∀b∈fp,H' b=none) E s1) E s
 done:∀(X:Cx),X.prog=P->X.w=w->X.K=K->X.calm=true->∀(i:Nat) (pins:List (Addr×Obj)) (s:Shared) (σ:St) (H:Hp) (E:Value->Shared->Prop),Inv X pins σ H s->(∀b∈fp,FpOk X pins H b)->tn i s.heap->J.stop i H ->
  wpAny (model P w) X.A (pyNext (.ref it)) (λr s1=>r=none/\Inv X pins σ H s1) E s
 self:∀(A:Around) (i:Nat) (s:Shared) (Q:Value->Shared->Prop) (E:Value->Shared->Prop),tn i s.heap->Q (.ref it) s->wpAny (model P w) A (pyIter (.ref it)) Q E s
noncomputable abbrev TI:=St->Hp->(It->Hp->Prop)->Prop
noncomputable def PIE (X:Cx) (pins:List (Addr×Obj)) (σ:St) (tg:Expr) (R:It->Hp->Prop) (itv:Value) (s2:Shared):Prop :=
 ∃(it:Addr) (fp:List Addr) (tn:Nat->Heap->Prop) (J:It) (H':Hp),itv=.ref it/\Inv X pins σ H' s2/\Turn X.prog X.w X.K tg J fp it tn/\tn 0 s2.heap/\(∀b∈fp,FpOk X pins H' b)/\R J H'
noncomputable def PI (X:Cx) (tg iter:Expr) (wi:TI):Prop :=
 ∀(pins:List (Addr×Obj)) (s:Shared) (σ:St) (H:Hp) (R:It->Hp->Prop),Inv X pins σ H s->wi σ H R ->
  wpAny (model X.prog X.w) X.A (eval iter X.env) (λv s1=>wpAny (model X.prog X.w) X.A (pyIter v) (PIE X pins σ tg R) X.xe s1) X.xe s
theorem ZpC {M : Model} {A : Around} {E : Value → Shared → Prop} {s : Shared} {tg : Expr} {it : Addr} {u : Value} {o : Obj} {n : String} {vs : Array Value} {Q : Unit → Shared → Prop} (ho : s.heap.get? it = some o) (hc : o.cls = .type n) (hd : o.data = .fields vs)
    (hn : ["enumerate", "zip", "dict_itemiterator", "dict_reverseitemiterator", "odict_iterator", "itertools.zip_longest", "itertools.pairwise"].contains n = false) (hQ : Q () s) : wpAny M A (letOwnedTupleGo tg (.ref it) u) Q E s := by
  unfold letOwnedTupleGo
  cases tg <;> first
    | exact Yc hQ
    | (cases u <;> first
        | exact Yc hQ
        | (refine Ya (wpAny_load ho ?_)
           rw [hc, hd]
           show wpAny M A (if (["enumerate", "zip", "dict_itemiterator", "dict_reverseitemiterator", "odict_iterator", "itertools.zip_longest", "itertools.pairwise"].contains n && vs[0]? == some (rawInt _)) = true then _ else _) Q E s
           rw [Yb (by intro h; rw [hn, Bool.false_and] at h; cases h)]
           exact Yc hQ))
noncomputable def Itl (K:PySem.W.Frag) (a:Addr):It :=
 ⟨λi H=>∃xs x,SqL K H a xs/\xs[i]?=some x,λi H x H'=>H'=H/\∀xs,SqL K H a xs->xs[i]?=some x,λi H=>∃xs,SqL K H a xs/\xs.length<=i⟩
noncomputable def Itt (K:PySem.W.Frag) (a:Addr):It :=
 ⟨λi H=>∃xs x,SqT K H a xs/\xs[i]?=some x,λi H x H'=>H'=H/\∀xs,SqT K H a xs->xs[i]?=some x,λi H=>∃xs,SqT K H a xs/\xs.length<=i⟩
noncomputable def Itr (lo:Int) (n:Nat):It:=⟨λi _=>i<n,λi H x H'=>H'=H/\x=.int (lo+i),λi _=>n<=i⟩
theorem Zjy {P:Program}{w:World}{K:PySem.W.Frag}{tg:Expr} (a it:Addr):Turn P w K tg (Itl K a) [it] it (λi h=>h.IsListIter it a i) where
 mem:=by simp
 obj:=λi h st b hb=>by
  have e:b=it:=by simpa using hb
  subst e
  obtain⟨o,e,c,d⟩:=st
  exact⟨o,e,λv z=>by rw[d]at z;cases z⟩
 keep:=λi h h' st k=>st.at λo e=>k it (by simp) o e
 item:=by
  intro X hP hw hK hc i pins s σ H E I hf st hg
  subst hP hw hK
  obtain⟨xs,x,hq,hx⟩:=hg
  obtain⟨its,rv,p,hz⟩:=I.list hq
  obtain⟨u,hu,ru⟩:=rv.get hx
  obtain⟨f0,f1,f2,f3,f4,f5⟩:=hf it (by simp)
  refine wpAny_pyNext_list_item st p.isList (x:=u) (by simpa using hu) λh' st' sb=>?_
  have I1:Inv X pins σ H {s with heap:=h'}:=I.turned (t':=s.toks) (λb o hb e=>(sb.2 b hb).trans e) f0 f1 f3 f4 f5
  obtain⟨o,e,c,d⟩:=id st'
  exact⟨u,rfl,ZpC (s:={s with heap:=h'}) e c d (by decide) ⟨x,H,I1,ru,⟨rfl,λys hy=>by rw[I.ZbG hy hq];exact hx⟩,st',λb hb=>(hf b hb).1⟩⟩
 done:=by
  intro X hP hw hK hc i pins s σ H E I hf st hg
  subst hP hw hK
  obtain⟨xs,hq,hx⟩:=hg
  obtain⟨its,rv,p,hz⟩:=I.list hq
  obtain⟨f0,f1,f2,f3,f4,f5⟩:=hf it (by simp)
  have hl:=rv.length
  exact wpAny_pyNext_list_end (I.ok.hd hc) st p.isList (by simp;omega) λh' eb=>⟨rfl,I.turned (t':=s.toks) (λb o hb e=>eb b o hb e) f0 f1 f3 f4 f5⟩
 self:=λ_ _ _ _ _ st h=>wpAny_pyIter_listiter st h
theorem ZhR {P:Program}{w:World}{K:PySem.W.Frag}{tg:Expr} (a it:Addr):Turn P w K tg (Itt K a) [it] it (λi h=>h.IsTupleIter it a i) where
 mem:=by simp
 obj:=λi h st b hb=>by
  have e:b=it:=by simpa using hb
  subst e
  obtain⟨o,e,c,d⟩:=st
  exact⟨o,e,λv z=>by rw[d]at z;cases z⟩
 keep:=λi h h' st k=>st.at λo e=>k it (by simp) o e
 item:=by
  intro X hP hw hK hc i pins s σ H E I hf st hg
  subst hP hw hK
  obtain⟨xs,x,hq,hx⟩:=hg
  obtain⟨its,rv,p,hz⟩:=I.tuple hq
  obtain⟨u,hu,ru⟩:=rv.get hx
  obtain⟨f0,f1,f2,f3,f4,f5⟩:=hf it (by simp)
  refine wpAny_pyNext_tuple_item st (show s.heap.IsTuple a its.toArray from p) (x:=u) (by simpa using hu) λh' st' sb=>?_
  have I1:Inv X pins σ H {s with heap:=h'}:=I.turned (t':=s.toks) (λb o hb e=>(sb.2 b hb).trans e) f0 f1 f3 f4 f5
  obtain⟨o,e,c,d⟩:=id st'
  exact⟨u,rfl,ZpC (s:={s with heap:=h'}) e c d (by decide) ⟨x,H,I1,ru,⟨rfl,λys hy=>by rw[I.Ze7 hy hq];exact hx⟩,st',λb hb=>(hf b hb).1⟩⟩
 done:=by
  intro X hP hw hK hc i pins s σ H E I hf st hg
  subst hP hw hK
  obtain⟨xs,hq,hx⟩:=hg
  obtain⟨its,rv,p,hz⟩:=I.tuple hq
  obtain⟨f0,f1,f2,f3,f4,f5⟩:=hf it (by simp)
  have hl:=rv.length
  exact wpAny_pyNext_tuple_end (I.ok.hd hc) st (show s.heap.IsTuple a its.toArray from p) (by simp;omega) λh' eb=>⟨rfl,I.turned (t':=s.toks) (λb o hb e=>eb b o hb e) f0 f1 f3 f4 f5⟩
 self:=λ_ _ _ _ _ st h=>wpAny_pyIter_tupleiter st h
theorem Zmj {P:Program}{w:World}{K:PySem.W.Frag}{tg:Expr} (it:Addr) (lo:Int) (n:Nat):Turn P w K tg (Itr lo n) [it] it (λi h=>IsRangeIter h it (lo+(i:Nat)*1) ((n:Int)-(i:Nat)) 1) where
 mem:=by simp
 obj:=λi h st b hb=>by
  have e:b=it:=by simpa using hb
  subst e
  exact⟨_,st,λv z=>by
   have z':Data.fields _=Data.cell v:=z
   cases z'⟩
 keep:=λi h h' st k=>k it (by simp) _ st
 item:=by
  intro X hP hw hK hc i pins s σ H E I hf st hg
  subst hP hw hK
  obtain⟨f0,f1,f2,f3,f4,f5⟩:=hf it (by simp)
  have W:=Walks.range (prog:=X.prog) (w:=X.w) (I.ok.hd hc) it lo 1 n
  refine W.item i s _ _ hg st λv h' tk hv st' kk=>?_
  obtain⟨t,rfl⟩:=hv
  have I1:Inv X pins σ H {s with heap:=h',toks:=tk}:=I.turned (λb o hb e=>kk b o (by simpa using hb) e) f0 f1 f3 f4 f5
  refine⟨_,rfl,ZpC (s:={s with heap:=h',toks:=tk}) (n:="range_iterator") st' rfl rfl (by decide) ⟨.int (lo+i),H,I1,⟨t,?_⟩,⟨rfl,rfl⟩,st',λb hb=>(hf b hb).1⟩⟩
  rw[Int.mul_one]
 done:=by
  intro X hP hw hK hc i pins s σ H E I hf st hg
  subst hP hw hK
  obtain⟨f0,f1,f2,f3,f4,f5⟩:=hf it (by simp)
  exact wpAny_pyNext_range_end (I.ok.hd hc) st (by have:n<=i:=hg;omega) λh' eb=>⟨rfl,I.turned (t':=s.toks) (λb o hb e=>eb b o hb e) f0 f1 f3 f4 f5⟩
 self:=λ_ _ _ _ _ st h=>wpAny_pyIter_rangeiter st h
section
variable {X:Cx}{tg:Expr}
noncomputable def Znv (K:PySem.W.Frag) (tl:TE):TI:=fun σ H R=>tl σ H λx H1=>∃a,x=.ref a/\(∃xs,SqL K H1 a xs)/\R (Itl K a) H1
noncomputable def iTup (K:PySem.W.Frag) (tl:TE):TI:=fun σ H R=>tl σ H λx H1=>∃a,x=.ref a/\(∃xs,SqT K H1 a xs)/\R (Itt K a) H1
theorem ZdH {l:Expr}{tl:TE} (hl:PE X l tl):PI X tg l (Znv X.K tl):=by
 intro pins s σ H R I h
 refine thn (hl pins s σ H _ I h) λv s1 ⟨x,H1,I1,r1,q1⟩=>?_
 obtain⟨a,e,⟨xs,hq⟩,q⟩:=q1
 subst e
 cases r1
 obtain⟨its,rv,p,hz⟩:=I1.list hq
 refine wpAny_pyIter_list p.isList ?_
 refine⟨s1.heap.objs.size,[s1.heap.objs.size],_,_,H1,rfl,I1.kept (t':=s1.toks) λb o e=>Yi _ e,Zjy a _,⟨_,Yt _ rfl,rfl,rfl⟩,λb hb=>?_,q⟩
 have e:b=s1.heap.objs.size:=by simpa using hb
 subst e
 exact I1.Zmi (Yf _) (I1.hok.fresh (Yf _))
theorem ZpD {l:Expr}{tl:TE} (hl:PE X l tl):PI X tg l (iTup X.K tl):=by
 intro pins s σ H R I h
 refine thn (hl pins s σ H _ I h) λv s1 ⟨x,H1,I1,r1,q1⟩=>?_
 obtain⟨a,e,⟨xs,hq⟩,q⟩:=q1
 subst e
 cases r1
 obtain⟨its,rv,p,hz⟩:=I1.tuple hq
 refine wpAny_pyIter_tuple (show s1.heap.IsTuple a its.toArray from p) ?_
 refine⟨s1.heap.objs.size,[s1.heap.objs.size],_,_,H1,rfl,I1.kept (t':=s1.toks) λb o e=>Yi _ e,ZhR a _,⟨_,Yt _ rfl,rfl,rfl⟩,λb hb=>?_,q⟩
 have e:b=s1.heap.objs.size:=by simpa using hb
 subst e
 exact I1.Zmi (Yf _) (I1.hok.fresh (Yf _))
theorem Zk9 {pins:List (Addr×Obj)}{σ:St}{H:Hp}{s:Shared}{R:It->Hp->Prop}{E:Value->Shared->Prop}{lo hi:Int}{t u v:Tok}{tk:Nat} (I:Inv X pins σ H s) (h1:-(2 ^ 62)<=lo) (h2:lo<2 ^ 62) (h3:-(2 ^ 62)<=hi) (h4:hi<2 ^ 62)
  (q:R (Itr lo (hi-lo).toNat) H):wpAny (model X.prog X.w) X.A (pyIter (.ref s.heap.objs.size)) (PIE X pins σ tg R) E {s with heap:=s.heap.push {cls:=.type "range",data:=.fields #[.int lo t,.int hi u,.int 1 v]},toks:=tk}:=by
 refine wpAny_pyIter_range (IsRange.new ..) (small_one h1 h2 h3 h4) ?_
 have I1:Inv X pins σ H {s with heap:=s.heap.push {cls:=.type "range",data:=.fields #[.int lo t,.int hi u,.int 1 v]},toks:=tk}:=I.kept λb o e=>Yi _ e
 refine⟨(s.heap.push {cls:=.type "range",data:=.fields #[.int lo t,.int hi u,.int 1 v]}).objs.size,[(s.heap.push {cls:=.type "range",data:=.fields #[.int lo t,.int hi u,.int 1 v]}).objs.size],_,_,H,rfl,
  I1.kept (t':=tk) λb o e=>Yi _ e,Zmj _ lo (hi-lo).toNat,?_,λb hb=>?_,q⟩
 ·have e1:lo+((0:Nat):Int)*1=lo:=by simp
  have e2:(((hi-lo).toNat:Nat):Int)-((0:Nat):Int)=Builtin.Range.rangeSize lo hi 1:=by rw[rangeSize_one];split<;>omega
  show IsRangeIter _ _ (lo+((0:Nat):Int)*1) ((((hi-lo).toNat:Nat):Int)-((0:Nat):Int)) 1
  rw[e1,e2]
  exact Yt _ rfl
 ·have e:b=(s.heap.push {cls:=.type "range",data:=.fields #[.int lo t,.int hi u,.int 1 v]}).objs.size:=by simpa using hb
  subst e
  exact I1.Zmi (Yf _) (I1.hok.fresh (Yf _))
noncomputable def ZpE (ta:TA):TI:=fun σ H R=>ta σ H λvs H1=>∃j:Int,vs=[.int j]/\-(2 ^ 62)<=j/\j<2 ^ 62/\R (Itr 0 j.toNat) H1
noncomputable def ZpF (ta:TA):TI:=fun σ H R=>ta σ H λvs H1=>∃i j:Int,vs=[.int i,.int j]/\(-(2 ^ 62)<=i/\i<2 ^ 62/\-(2 ^ 62)<=j/\j<2 ^ 62)/\R (Itr i (j-i).toNat) H1
theorem Zav {a:Expr}{ta:TA}{p pos:Pos} (hg:Gl X "range") (hm:X.mg "range"=none) (ha:PA X [a] ta) (hs:starEach [a] X.env=[(false,eval a X.env)]:=by rfl):PI X tg (.Call (.Name "range" p) [a] [] pos) (ZpE ta):=by
 intro pins s σ H R I h
 refine Call_ (ZbR I hg hm boot_range (PyProof.Rows.callWith_type1 (thn (ha pos pins s σ H _ I h) λus s1 ⟨vs,H1,I1,r1,q1⟩=>?_) hs rfl))
 obtain⟨j,e,q1,q2,q⟩:=q1
 subst e
 cases r1 with
 |cons r rr =>
  cases rr
  obtain⟨t,rfl⟩:=r
  exact call_range_1 (Zk9 I1 (by omega) (by omega) q1 q2 (by simpa using q))
theorem Zjz {a b:Expr}{ta:TA}{p pos:Pos} (hg:Gl X "range") (hm:X.mg "range"=none) (ha:PA X [a,b] ta) (hs:starEach [a,b] X.env=[(false,eval a X.env),(false,eval b X.env)]:=by rfl) (hs2:starEach [b] X.env=[(false,eval b X.env)]:=by rfl) :
  PI X tg (.Call (.Name "range" p) [a,b] [] pos) (ZpF ta):=by
 intro pins s σ H R I h
 refine Call_ (ZbR I hg hm boot_range (PyProof.Rows.callWith_type1 (thn (ha pos pins s σ H _ I h) λus s1 ⟨vs,H1,I1,r1,q1⟩=>?_) (by rw[hs,hs2]) (by rw[hs2];rfl)))
 obtain⟨i,j,e,⟨q1,q2,q3,q4⟩,q⟩:=q1
 subst e
 cases r1 with
 |cons r rr =>
  cases rr with
  |cons r' rr =>
   cases rr
   obtain⟨t,rfl⟩:=r
   obtain⟨t',rfl⟩:=r'
   exact call_range_2 (Zk9 I1 q1 q2 q3 q4 q)
noncomputable def tFor (wi:TI) (g:TG) (tb:TS):TS:=λD σ H=>wi σ H λJ H1=>∃W:Nat->Nat->St->Hp->Prop,(∃m,W 0 m σ H1)/\∀i m σ H,W i m σ H ->
 (J.stop i H/\D.nx σ H)\/(J.go i H/\∃N:St->Hp->Prop,(∀σ' H',N σ' H'->∃m',m'<m/\W (i+1) m' σ' H')/\∀x H',J.yld i H x H'->g x σ H' fun σ2 H2=>tb {D with nx:=N,ct:=N,bk:=D.nx} σ2 H2)
noncomputable def ZbS (fp:List Addr) (h:Heap):List (Addr×Obj):=fp.filterMap λb=>(h.get? b).map λo=>(b,o)
theorem Zbd {fp:List Addr}{h:Heap}{b:Addr}{o:Obj} (hb:b∈fp) (e:h.get? b=some o):(b,o)∈ZbS fp h:=List.mem_filterMap.mpr ⟨b,hb,by rw[e];rfl⟩
theorem ZgB {fp:List Addr}{h:Heap}{p:Addr×Obj} (hp:p∈ZbS fp h):p.1∈fp/\h.get? p.1=some p.2:=by
 obtain⟨b,hb,e⟩:=List.mem_filterMap.mp hp
 cases q:h.get? b with
 |none=>rw[q]at e;cases e
 |some o =>
  rw[q]at e
  have e':(b,o)=p:=YA e
  subst e'
  exact⟨hb,q⟩
theorem Inv.pinned {pins:List (Addr×Obj)}{σ:St}{H:Hp}{s:Shared}{fp:List Addr} (I:Inv X pins σ H s) (hf:∀b∈fp,FpOk X pins H b) (ho:∀b∈fp,∃o,s.heap.get? b=some o/\∀v,o.data≠.cell v):Inv X (pins++ZbS fp s.heap) σ H s :=
 I.Zy λp hp=>(YE.mp hp).elim (λz=>I.pin p (Yl _ z)) λz=>by
  obtain⟨hb,e⟩:=ZgB z
  obtain⟨f0,f1,f2,_⟩:=hf p.1 hb
  obtain⟨o,e',d⟩:=ho p.1 hb
  rw[e]at e';cases e'
  exact⟨e,f0,f1,f2,d⟩
theorem Inv.Zds {pins pl:List (Addr×Obj)}{σ:St}{H:Hp}{s:Shared} (I:Inv X (pins++pl) σ H s):Inv X pins σ H s:=I.Zy λp hp=>I.pin p (Yl _ (YR _ hp))
theorem Zeu {iter:Expr}{body:List Stmt}{wi:TI}{g:TG}{tb:TS}{pos:Pos} (hp:PassesOwn (model X.prog X.w) X.A X.env X.xe) (hc:X.calm=true) (hi:PI X tg iter wi) (hg:PG X tg g) (hb:PSs X body tb)
  (hs:∀x,foldedSetIterable iter X.env x=pure x:=by intro _;rfl):PS X (.For tg iter body [] pos) (tFor wi g tb):=by
 intro pins s σ H D I h
 refine wpAny_For (thn (hi pins s σ H _ I h) λv s1 h1=>thn h1 λitv s2 h2=>?_) hs
 obtain⟨it,fp,tn,J,H2,e,I2,T,st2,f2,W,⟨m0,w0⟩,turn⟩:=h2
 subst e
 -- what stays true of the iterator's objects through the loop
 have stat:∀{H':Hp},(∀b∈fp,H' b=none)->∀b∈fp,FpOk X pins H' b:=λhn b hb=>⟨hn b hb,(f2 b hb).2⟩
 refine codeAny_forLoop_any (λn s'=>∃i σ' H',Inv X pins σ' H' s'/\tn i s'.heap/\(∀b∈fp,H' b=none)/\W i n σ' H') ?_ m0 ⟨0,σ,H2,I2,st2,λb hb=>(f2 b hb).1,w0⟩
 rintro n s3 ⟨i,σ3,H3,I3,st3,fr3,w3⟩
 rcases turn i n σ3 H3 w3 with⟨stop,qn⟩|⟨go,N,hN,step⟩
 ·refine wpAny_passesOwn hp (thn (T.done X rfl rfl rfl hc i pins s3 σ3 H3 X.xe I3 (stat fr3) st3 stop) λr s4 ⟨hr,I4⟩=>?_)
  subst hr
  exact wpAny_execs_nil ⟨σ3,H3,I4,qn⟩
 ·refine wpAny_passesOwn hp (thn (T.item X rfl rfl rfl hc i pins s3 σ3 H3 X.xe I3 (stat fr3) st3 go) λr s4 ⟨u,hr,h4⟩=>?_)
  subst hr
  refine wpAny_passesOwn hp (thn h4 λ_ s5 ⟨x,H5,I5,r5,y5,st5,fr5⟩=>?_)
  have I5':=I5.pinned (stat fr5) (T.obj _ _ st5)
  refine wpAny_passesOwn hp (thn (hg _ s5 σ3 H5 x u _ I5' r5 (step x H5 y5)) λ_ s6 ⟨σ6,H6,I6,q6⟩=>?_)
  refine wpAny_passesOwn hp (thn (hb _ s6 σ6 H6 _ I6 q6) λf s7 q7=>?_)
  have again:∀{σ7:St}{H7:Hp},Inv X (pins++ZbS fp s5.heap) σ7 H7 s7->N σ7 H7->∃m,m<n/\∃i σ' H',Inv X pins σ' H' s7/\tn i s7.heap/\(∀b∈fp,H' b=none)/\W i m σ' H':=λ{σ7 H7} I7 n7=>by
   obtain⟨m',hm,w7⟩:=hN σ7 H7 n7
   refine⟨m',hm,i+1,σ7,H7,I7.Zds,T.keep _ _ _ st5 λb hb o e=>(I7.pin (b,o) (Yl _ (Yl _ (Zbd hb e)))).1,λb hb=>?_,w7⟩
   obtain⟨o,e,d⟩:=T.obj _ _ st5 b hb
   exact(I7.pin (b,o) (Yl _ (Yl _ (Zbd hb e)))).2.1
  cases f with
  |next=>obtain⟨σ7,H7,I7,n7⟩:=q7;exact again I7 n7
  |cont=>obtain⟨σ7,H7,I7,n7⟩:=q7;exact again I7 n7
  |brk=>obtain⟨σ7,H7,I7,q7⟩:=q7;exact⟨σ7,H7,I7.Zds,q7⟩
  |ret v=>obtain⟨x7,σ7,H7,I7,r7,q7⟩:=q7;exact⟨x7,σ7,H7,I7.Zds,r7,q7⟩
end
theorem Zla {K:PySem.W.Frag}{a:Addr}{xs:List V}{g:TG}{tb:TS}{D:Ends}{σ:St}{H:Hp} (Pv:Nat->St->Hp->Prop) (h0:Pv 0 σ H) (hl:∀i σ H,i<=xs.length->Pv i σ H->SqL K H a xs)
  (hs:∀i x σ H,xs[i]?=some x->Pv i σ H->g x σ H fun σ2 H2=>tb {D with nx:=Pv (i+1),ct:=Pv (i+1),bk:=D.nx} σ2 H2) (hd:∀σ H,Pv xs.length σ H->D.nx σ H) :
  ∃W:Nat->Nat->St->Hp->Prop,(∃m,W 0 m σ H)/\∀i m σ H,W i m σ H ->
   ((Itl K a).stop i H/\D.nx σ H)\/((Itl K a).go i H/\∃N:St->Hp->Prop,(∀σ' H',N σ' H'->∃m',m'<m/\W (i+1) m' σ' H')/\∀x H',(Itl K a).yld i H x H'->g x σ H' fun σ2 H2=>tb {D with nx:=N,ct:=N,bk:=D.nx} σ2 H2):=by
 refine⟨λi m σ H=>m=xs.length-i/\i<=xs.length/\Pv i σ H,⟨xs.length,by simp,Yu _,h0⟩,?_⟩
 rintro i m σ H ⟨rfl,hi,p⟩
 have q:=hl i σ H hi p
 by_cases hlt:i<xs.length
 ·refine .inr ⟨⟨xs,xs[i],q,by simp[hlt]⟩,Pv (i+1),fun σ' H' p'=>⟨xs.length-(i+1),by omega,rfl,hlt,p'⟩,λx H' y=>?_⟩
  obtain⟨e,y⟩:=y
  subst e
  exact hs i x σ _ (y xs q) p
 ·have e:i=xs.length:=by omega
  subst e
  exact .inl ⟨⟨xs,q,Yf _⟩,hd σ H p⟩
theorem Ze8 {lo:Int}{n:Nat}{g:TG}{tb:TS}{D:Ends}{σ:St}{H:Hp} (Pv:Nat->St->Hp->Prop) (h0:Pv 0 σ H)
  (hs:∀i σ H,i<n->Pv i σ H->g (.int (lo+i)) σ H fun σ2 H2=>tb {D with nx:=Pv (i+1),ct:=Pv (i+1),bk:=D.nx} σ2 H2) (hd:∀σ H,Pv n σ H->D.nx σ H) :
  ∃W:Nat->Nat->St->Hp->Prop,(∃m,W 0 m σ H)/\∀i m σ H,W i m σ H ->
   ((Itr lo n).stop i H/\D.nx σ H)\/((Itr lo n).go i H/\∃N:St->Hp->Prop,(∀σ' H',N σ' H'->∃m',m'<m/\W (i+1) m' σ' H')/\∀x H',(Itr lo n).yld i H x H'->g x σ H' fun σ2 H2=>tb {D with nx:=N,ct:=N,bk:=D.nx} σ2 H2):=by
 refine⟨λi m σ H=>m=n-i/\i<=n/\Pv i σ H,⟨n,by simp,Yu _,h0⟩,?_⟩
 rintro i m σ H ⟨rfl,hi,p⟩
 by_cases hlt:i<n
 ·refine .inr ⟨hlt,Pv (i+1),fun σ' H' p'=>⟨n-(i+1),by omega,rfl,hlt,p'⟩,λx H' y=>?_⟩
  obtain⟨e,y⟩:=y
  subst e y
  exact hs i σ _ hlt p
 ·have e:i=n:=by omega
  subst e
  exact .inl ⟨Yf _,hd σ H p⟩
noncomputable abbrev R2:=V->V->Hp->VK->Prop
noncomputable def OpR (X:Cx) (f:Value->Value->Sem Value) (r:R2):Prop :=
 ∀(pins:List (Addr×Obj)) (s:Shared) (σ:St) (H:Hp) (x y:V) (v u:Value) (Q:VK),Inv X pins σ H s->RelV x v->RelV y u->r x y H Q ->
  wpAny (model X.prog X.w) X.A (f v u) (EP X pins σ Q) X.xe s
noncomputable def UnR (X:Cx) (f:Value->Sem Value) (r:V->Hp->VK->Prop):Prop :=
 ∀(pins:List (Addr×Obj)) (s:Shared) (σ:St) (H:Hp) (x:V) (v:Value) (Q:VK),Inv X pins σ H s->RelV x v->r x H Q ->
  wpAny (model X.prog X.w) X.A (f v) (EP X pins σ Q) X.xe s
noncomputable def Zcf (X:Cx) (f:Value) (r:List V->Hp->VK->Prop):Prop :=
 ∀(pins:List (Addr×Obj)) (s:Shared) (σ:St) (H:Hp) (xs:List V) (us:List Value) (Q:VK),Inv X pins σ H s->Vals xs us->r xs H Q ->
  wpAny (model X.prog X.w) X.A (call f us) (EP X pins σ Q) X.xe s
noncomputable def tOp (r:R2) (ta tb:TE):TE:=fun σ H Q=>ta σ H λx H1=>tb σ H1 λy H2=>r x y H2 Q
noncomputable def tUn (r:V->Hp->VK->Prop) (ta:TE):TE:=fun σ H Q=>ta σ H λx H1=>r x H1 Q
noncomputable def rI (C:Int->Int->Prop) (g:Int->Int->V):R2:=λx y H Q=>∃i j,x=.int i/\y=.int j/\C i j/\Q (g i j) H
noncomputable def rI0 (g:Int->Int->V):R2:=λx y H Q=>∃i j,x=.int i/\y=.int j/\Q (g i j) H
noncomputable def rU (g:Int->V):V->Hp->VK->Prop:=λx H Q=>∃i,x=.int i/\Q (g i) H
section
variable {X:Cx}{a b c:Expr}{ta tb tc:TE}{pos:Pos}
theorem binT (ha:PE X a ta) (hb:PE X b tb) {pins:List (Addr×Obj)}{s:Shared}{σ:St}{H:Hp}{R:V->V->Hp->Prop} (I:Inv X pins σ H s)
  (h:ta σ H λx H1=>tb σ H1 λy H2=>R x y H2) {Q:Value->Shared->Prop}{f:Value->Value->Sem Value}
  (hf:∀v u s2 x y H2,Inv X pins σ H2 s2->RelV x v->RelV y u->R x y H2->wpAny (model X.prog X.w) X.A (f v u) Q X.xe s2) :
  wpAny (model X.prog X.w) X.A (eval a X.env) (λv s₁=>wpAny (model X.prog X.w) X.A (eval b X.env) (λu s₂=>wpAny (model X.prog X.w) X.A (f v u) Q X.xe s₂) X.xe s₁) X.xe s:=by
 refine thn (ha pins s σ H _ I h) λv s1 ⟨x,H1,I1,r1,q1⟩=>?_
 refine thn (hb pins s1 σ H1 _ I1 q1) λu s2 ⟨y,H2,I2,r2,q2⟩=>?_
 exact hf v u s2 x y H2 I2 r1 r2 q2
theorem ZA {op:Operator}{r:R2} (ho:OpR X (binaryOp op) r) (ha:PE X a ta) (hb:PE X b tb):PE X (.BinOp a op b pos) (tOp r ta tb):=by
 intro pins s σ H Q I h
 exact wpAny_BinOp (binT ha hb I h λv u s2 x y H2 I2 rx ry q=>ho pins s2 σ H2 x y v u Q I2 rx ry q)
theorem Zg8 {op:UnaryOp}{r:V->Hp->VK->Prop} (ho:UnR X (unaryOp op) r) (ha:PE X a ta):PE X (.UnaryOp op a pos) (tUn r ta):=by
 intro pins s σ H Q I h
 exact UnaryOp_ (thn (ha pins s σ H _ I h) λv s1 ⟨x,H1,I1,r1,q1⟩=>ho pins s1 σ H1 x v Q I1 r1 q1)
theorem opI {f:Value->Value->Sem Value}{C:Int->Int->Prop}{g:Int->Int->Int}
  (rule:∀(i j:Int) (t u:Tok) (s:Shared) (Q:Value->Shared->Prop) (E:Value->Shared->Prop),C i j->Q (.int (g i j) s.toks) {s with toks:=s.toks+1}->wpAny (model X.prog X.w) X.A (f (.int i t) (.int j u)) Q E s) :
  OpR X f (rI C λi j=>.int (g i j)):=by
 intro pins s σ H x y v u Q I rx ry h
 obtain⟨i,j,rfl,rfl,hc,q⟩:=h
 obtain⟨t,rfl⟩:=rx
 obtain⟨t',rfl⟩:=ry
 exact rule i j t t' s _ _ hc ⟨.int (g i j),H,I.tok _,⟨_,rfl⟩,q⟩
theorem opI0 {f:Value->Value->Sem Value}{g:Int->Int->Int}
  (rule:∀(i j:Int) (t u:Tok) (s:Shared) (Q:Value->Shared->Prop) (E:Value->Shared->Prop),Q (.int (g i j) s.toks) {s with toks:=s.toks+1}->wpAny (model X.prog X.w) X.A (f (.int i t) (.int j u)) Q E s) :
  OpR X f (rI0 λi j=>.int (g i j)):=by
 intro pins s σ H x y v u Q I rx ry h
 obtain⟨i,j,rfl,rfl,q⟩:=h
 obtain⟨t,rfl⟩:=rx
 obtain⟨t',rfl⟩:=ry
 exact rule i j t t' s _ _ ⟨.int (g i j),H,I.tok _,⟨_,rfl⟩,q⟩
theorem opB0 {f:Value->Value->Sem Value}{g:Int->Int->Bool}
  (rule:∀(i j:Int) (t u:Tok) (s:Shared) (Q:Value->Shared->Prop) (E:Value->Shared->Prop),Q (.bool (g i j)) s->wpAny (model X.prog X.w) X.A (f (.int i t) (.int j u)) Q E s) :
  OpR X f (rI0 λi j=>.bl (g i j)):=by
 intro pins s σ H x y v u Q I rx ry h
 obtain⟨i,j,rfl,rfl,q⟩:=h
 obtain⟨t,rfl⟩:=rx
 obtain⟨t',rfl⟩:=ry
 exact rule i j t t' s _ _ ⟨.bl (g i j),H,I,rfl,q⟩
noncomputable def CPow (i j:Int):Prop:=0<=j/\j<=1000000/\i.natAbs<2 ^ 64
theorem ZcV:OpR X (binaryOp .Add) (rI0 λi j=>.int (i+j)):=opI0 λ_ _ _ _ _ _ _ q=>add_int q
theorem ZgC:OpR X (binaryOp .Sub) (rI0 λi j=>.int (i-j)):=opI0 λ_ _ _ _ _ _ _ q=>sub_int q
theorem ZgD:OpR X (binaryOp .Mod) (rI (λ_ j=>0<j) λi j=>.int (i % j)):=opI λi j _ _ _ _ _ hc q=>by
 have h1:(0:Int)<j:=hc
 exact mod_int' (by omega) (by rw[Int.fmod_eq_emod_of_nonneg i (by omega)];exact q)
theorem ZgE:OpR X (binaryOp .Pow) (rI CPow λi j=>.int (i ^ j.toNat)):=opI λ_ _ _ _ _ _ _ hc q=>pow_int_small hc.1 hc.2.1 hc.2.2 q
theorem unI {f:Value->Sem Value}{g:Int->Int}
  (rule:∀(i:Int) (t:Tok) (s:Shared) (Q:Value->Shared->Prop) (E:Value->Shared->Prop),Q (.int (g i) s.toks) {s with toks:=s.toks+1}->wpAny (model X.prog X.w) X.A (f (.int i t)) Q E s) :
  UnR X f (rU λi=>.int (g i)):=by
 intro pins s σ H x v Q I rx h
 obtain⟨i,rfl,q⟩:=h
 obtain⟨t,rfl⟩:=rx
 exact rule i t s _ _ ⟨.int (g i),H,I.tok _,⟨_,rfl⟩,q⟩
theorem Zev:UnR X (unaryOp .USub) (rU λi=>.int (-i)):=unI λ_ _ _ _ _ q=>neg_int q
end
noncomputable def Zmk:V->V->Bool
 |.non,.non=>true|.non,.int _=>true|.int _,.non=>true|.non,.bl _=>true|.bl _,.non=>true|.non,.str _=>true|.str _,.non=>true
 |.int _,.int _=>true|.bl _,.bl _=>true|.str _,.str _=>true|.byt _,.byt _=>true
 |.int _,.str _=>true|.str _,.int _=>true|.bl _,.str _=>true|.str _,.bl _=>true
 |_,_=>false
noncomputable def rEq:R2:=λx y H Q=>Zmk x y=true/\Q (.bl (decide (x=y))) H
theorem Zs2 {i j:Int}:decide (V.int i=V.int j)=(i==j):=by
 rw[Bool.eq_iff_iff]
 simp
theorem dec_bl {i j:Bool}:decide (V.bl i=V.bl j)=(i==j):=by
 rw[Bool.eq_iff_iff]
 simp
theorem Zs3 {i j:Str}:decide (V.str i=V.str j)=(i==j):=by
 rw[Bool.eq_iff_iff]
 simp
theorem Zs4 {i j:Array UInt8}:decide (V.byt i=V.byt j)=(i.toList==j.toList):=by
 rw[Bool.eq_iff_iff]
 cases i
 cases j
 simp
section
variable {X:Cx}{a b c:Expr}{ta tb tc:TE}{pos:Pos}
theorem Zaq {pins:List (Addr×Obj)}{σ:St}{H:Hp}{s:Shared}{Q:VK}{k k':Bool} (I:Inv X pins σ H s) (q:Q (.bl k) H) (e:k=k'):EP X pins σ Q (.bool k') s:=by
 subst e
 exact⟨.bl k,H,I,rfl,q⟩
theorem Zg9:OpR X (compareOp .Eq) rEq:=by
 intro pins s σ H x y v u Q I rx ry h
 obtain⟨hs,q⟩:=h
 cases x with
 |non =>
  cases rx
  cases y with
  |non=>cases ry;exact PySem.EqNone.eq_none_none (Zaq I q (by simp))
  |bl j=>cases ry;exact PySem.EqNone.eq_none_bool (Zaq I q (by simp))
  |int j=>obtain⟨t',rfl⟩:=ry;exact PySem.EqNone.eq_none_int (Zaq I q (by simp))
  |str j=>obtain⟨t',rfl⟩:=ry;exact PySem.EqNone.eq_none_str (Zaq I q (by simp))
  |_=>exact absurd (show false=true from hs) YS
 |bl i =>
  cases rx
  cases y with
  |non=>cases ry;exact PySem.EqNone.eq_bool_none (Zaq I q (by simp))
  |bl j=>cases ry;exact eq_bool (Zaq I q dec_bl)
  |str j=>obtain⟨t',rfl⟩:=ry;exact PySem.EqMixed.eq_bool_str (Zaq I q (by simp))
  |_=>exact absurd (show false=true from hs) YS
 |int i =>
  obtain⟨t,rfl⟩:=rx
  cases y with
  |non=>cases ry;exact PySem.EqNone.eq_int_none (Zaq I q (by simp))
  |int j=>obtain⟨t',rfl⟩:=ry;exact eq_int (Zaq I q Zs2)
  |str j=>obtain⟨t',rfl⟩:=ry;exact PySem.EqMixed.eq_int_str (Zaq I q (by simp))
  |_=>exact absurd (show false=true from hs) YS
 |str i =>
  obtain⟨t,rfl⟩:=rx
  cases y with
  |non=>cases ry;exact PySem.EqNone.eq_str_none (Zaq I q (by simp))
  |bl j=>cases ry;exact PySem.EqMixed.eq_str_bool (Zaq I q (by simp))
  |int j=>obtain⟨t',rfl⟩:=ry;exact PySem.EqMixed.eq_str_int (Zaq I q (by simp))
  |str j=>obtain⟨t',rfl⟩:=ry;exact eq_str (Zaq I q Zs3)
  |_=>exact absurd (show false=true from hs) YS
 |byt i =>
  obtain⟨t,rfl⟩:=rx
  cases y with
  |byt j=>obtain⟨t',rfl⟩:=ry;exact PySem.W.eq_bytes (Zaq I q Zs4)
  |_=>exact absurd (show false=true from hs) YS
 |_=>cases y<;>exact absurd (show false=true from hs) YS
theorem Zf4:OpR X (compareOp .Lt) (rI0 λi j=>.bl (decide (i<j))):=opB0 λ_ _ _ _ _ _ _ q=>lt_int q
theorem Zlb:OpR X (compareOp .LtE) (rI0 λi j=>.bl (decide (i<=j))):=opB0 λ_ _ _ _ _ _ _ q=>le_int q
theorem Zej:OpR X (compareOp .Gt) (rI0 λi j=>.bl (decide (j<i))):=opB0 λ_ _ _ _ _ _ _ q=>gt_int q
theorem ZjA:OpR X (compareOp .GtE) (rI0 λi j=>.bl (decide (j<=i))):=opB0 λ_ _ _ _ _ _ _ q=>ge_int q
theorem Zka:OpR X (compareOp .Is) (λx y H Q=>y=.non/\Q (.bl (decide (x=.non))) H):=by
 intro pins s σ H x y v u Q I rx ry h
 obtain⟨rfl,q⟩:=h
 cases ry
 refine is_none_gen (Zaq I q ?_)
 cases x<;>first
  |(cases rx;rfl)
  |(obtain⟨t,rfl⟩:=rx;rfl)
theorem ZcD:OpR X (compareOp .IsNot) (λx y H Q=>y=.non/\Q (.bl (!decide (x=.non))) H):=by
 intro pins s σ H x y v u Q I rx ry h
 obtain⟨rfl,q⟩:=h
 cases ry
 refine isnot_none_gen (Zaq I q ?_)
 cases x<;>first
  |(cases rx;rfl)
  |(obtain⟨t,rfl⟩:=rx;rfl)
theorem Zl (b:Expr) {op:CmpOp} (h:op≠.In:=by decide) (h2:op≠.NotIn:=by decide):behindInMarks op b=false:=by
 have e1:(op==CmpOp.In)=false:=by cases op<;>first|rfl|exact absurd rfl h
 have e2:(op==CmpOp.NotIn)=false:=by cases op<;>first|rfl|exact absurd rfl h2
 cases b<;>simp[behindInMarks,e1,e2]
theorem ZdI {op:CmpOp}{r:R2} (ho:OpR X (compareOp op) r) (ha:PE X a ta) (hb:PE X b tb) (hm:behindInMarks op b=false):PE X (.Compare a [op] [b] pos) (tOp r ta tb):=by
 intro pins s σ H Q I h
 exact wpAny_Compare1 (binT ha hb I h λv u s2 x y H2 I2 rx ry q=>ho pins s2 σ H2 x y v u Q I2 rx ry q) hm
noncomputable def Znw (t:TE):TT:=fun σ H Q=>t σ H λx H'=>∃k,x=.bl k/\Q k H'
theorem Zk {op:CmpOp}{r:R2} (ho:OpR X (compareOp op) r) (ha:PE X a ta) (hb:PE X b tb) (hm:behindInMarks op b=false):PT X (.Compare a [op] [b] pos) (Znw (tOp r ta tb)):=by
 intro pins s σ H Q I h
 refine wpAny_isTrue_Compare1 (thn (ha pins s σ H _ I h) λv s1 ⟨x,H1,I1,r1,q1⟩=>thn (hb pins s1 σ H1 _ I1 q1) λu s2 ⟨y,H2,I2,r2,q2⟩ =>
  thn (ho pins s2 σ H2 x y v u _ I2 r1 r2 q2) λc s3 ⟨z,H3,I3,r3,k,e,q3⟩=>?_) hm
 subst e
 cases r3
 exact wpAny_truthy_bool ⟨H3,I3,q3⟩
noncomputable def Zml (r r':R2) (ta tb tc:TE):TE:=fun σ H Q=>ta σ H λx H1=>tb σ H1 λy H2=>r x y H2 λz H3=>∃k,z=.bl k /\
 (if k=true then tc σ H3 λw' H4=>r' y w' H4 Q else Q (.bl false) H3)
theorem ZpG {op op':CmpOp}{r r':R2} (ho:OpR X (compareOp op) r) (ho':OpR X (compareOp op') r') (ha:PE X a ta) (hb:PE X b tb) (hc:PE X c tc)
  (hm:lastMarks [op,op'] [b,c]=false:=by with_unfolding_all rfl):PT X (.Compare a [op,op'] [b,c] pos) (Znw (Zml r r' ta tb tc)):=by
 intro pins s σ H Q I h
 refine isTrue_chain (thn (ha pins s σ H _ I h) λv s1 ⟨x,H1,I1,r1,q1⟩=>test_link (thn (hb pins s1 σ H1 _ I1 q1) λu s2 ⟨y,H2,I2,r2,q2⟩ =>
  thn (ho pins s2 σ H2 x y v u _ I2 r1 r2 q2) λd s3 ⟨z,H3,I3,r3,k,e,q3⟩=>?_)) hm
 subst e
 cases r3
 refine wpAny_truthy_bool ?_
 cases k with
 |false =>
  obtain⟨k',e',q'⟩:=q3
  cases e'
  exact ite_ff ⟨H3,I3,q'⟩
 |true =>
  refine ite_tt (test_last (thn (hc pins s3 σ H3 _ I3 q3) λw' s4 ⟨z',H4,I4,r4,q4⟩=>thn (ho' pins s4 σ H4 y z' u w' _ I4 r2 r4 q4) λd' s5 ⟨z2,H5,I5,r5,k2,e2,q5⟩=>?_))
  subst e2
  cases r5
  exact wpAny_truthy_bool ⟨H5,I5,q5⟩
theorem Zkb:(sizeLine:Nat)<2 ^ 63:=by rw[sizeLine_eq];decide
theorem vals1 {x:V}{us:List Value} (r:Vals [x] us):∃u,us=[u]/\RelV x u:=by
 cases r with
 |cons r1 r2=>cases r2;exact⟨_,rfl,r1⟩
theorem vals2 {x y:V}{us:List Value} (r:Vals [x,y] us):∃u w',us=[u,w']/\RelV x u/\RelV y w':=by
 cases r with
 |cons r1 r2 =>
  cases r2 with
  |cons r3 r4=>cases r4;exact⟨_,_,rfl,r1,r3⟩
theorem Zor (hc:X.calm=true):Zcf X (.builtin "max") (λxs H Q=>∃i j,xs=[.int i,.int j]/\Q (.int (if j>i then j else i)) H):=by
 intro pins s σ H xs us Q I r h
 obtain⟨i,j,rfl,q⟩:=h
 obtain⟨u,w',rfl,⟨t,rfl⟩,⟨t',rfl⟩⟩:=vals2 r
 refine max_two_ints (I.ok.hd hc) λh' tk k=>⟨_,H,I.kept k,?_,q⟩
 by_cases hj:j>i
 ·rw[Yd hj,Yd hj];exact⟨_,rfl⟩
 ·rw[Yb hj,Yb hj];exact⟨_,rfl⟩
theorem Zos (hc:X.calm=true):Zcf X (.builtin "min") (λxs H Q=>∃i j,xs=[.int i,.int j]/\Q (.int (if j<i then j else i)) H):=by
 intro pins s σ H xs us Q I r h
 obtain⟨i,j,rfl,q⟩:=h
 obtain⟨u,w',rfl,⟨t,rfl⟩,⟨t',rfl⟩⟩:=vals2 r
 refine min_two_ints (I.ok.hd hc) λh' tk k=>⟨_,H,I.kept k,?_,q⟩
 by_cases hj:j<i
 ·rw[Yd hj,Yd hj];exact⟨_,rfl⟩
 ·rw[Yb hj,Yb hj];exact⟨_,rfl⟩
end
structure ObjM (h:Heap) (x dx C:Addr) (mA:Str->Option Value):Prop where
 obj:h.get? x=some (PySem.W.instObj C dx)
 ns:h.Ns1 dx mA
 ne:dx≠x
theorem Zot {h:Heap}{dx:Addr}{mA:Str->Option Value} (n:h.Ns1 dx mA):∃od,h.get? dx=some od/\∀name,PySem.W.lookIn name od=some (mA name):=by
 obtain⟨o,es,ep,ho,hd,hk,_,hm⟩:=n
 refine⟨o,ho,λname=>?_⟩
 have e:=hm name
 unfold nsFind findBy at e
 rw[<-Array.find?_toList]at e
 unfold PySem.W.lookIn
 rw[hd]
 dsimp only
 split
 ·rename_i y q
  rw[q]at e
  exact congrArg some e
 ·rename_i q
  rw[q]at e
  have a:es.toList.any (·.refKey)=false:=by
   rw[List.any_eq_false]
   intro y hy
   obtain⟨z,t,hkey⟩:=hk y (Array.mem_toList_iff.mp hy)
   simp[DictEntry.refKey,hkey]
  have a':¬ es.toList.any (·.refKey)=true:=by rw[a];exact YS
  rw[Yb a']
  exact congrArg some e
theorem ObjM.look {h:Heap}{x dx C:Addr}{mA:Str->Option Value} (I:ObjM h x dx C mA):∃od,PySem.W.InstAt h x (PySem.W.instObj C dx) C (some od)/\∀name,PySem.W.lookIn name od=some (mA name) :=
 let ⟨od,ho,hl⟩:=Zot I.ns
 ⟨od,⟨I.obj,rfl,rfl,ho⟩,hl⟩
section
variable {prog:Program}{w:World}{A:Around}{E:Value->Shared->Prop}{s:Shared}{K:PySem.W.Frag}{x dx C f:Addr}{mA:Str->Option Value}{name:Str}{v:Value}
theorem get_map {expr:Bool}{Q:Value->Shared->Prop} (X:K.In s.heap) (I:ObjM s.heap x dx C mA) (hg:PySem.W.plainGet K C name=true) (hh:PySem.W.hasDictIn K C=true)
  (ha:PySem.W.findIn K (.ref C) name=some none) (hv:mA name=some v) (hv':PySem.W.handedIn v=true) (h:Q v {s with toks:=s.toks+1}) :
  wpAny (model prog w) A (getAttr (.ref x) name expr) Q E s:=by
 obtain⟨od,J,hl⟩:=I.look
 exact PySem.W.get_value X J (PySem.W.plainGet_of hg).1 (PySem.W.findObj_own hh ha rfl (by rw[hl,hv])) hv' h
theorem ZpH {pl:Sem Bool}{Q:Value×List Value->Shared->Prop} (X:K.In s.heap) (I:ObjM s.heap x dx C mA) (hg:PySem.W.plainGet K C name=true)
  (hf:PySem.W.findIn K (.ref C) name=some (some (.ref f))) (ht:PySem.W.isFn K (.ref f)=true) (hv:mA name=none) (h:Q (.ref f,[.ref x]) s) :
  wpAny (model prog w) A (getMethod (.ref x) name pl) Q E s:=by
 obtain⟨od,J,hl⟩:=I.look
 exact PySem.W.method_fn X J (PySem.W.plainGet_of hg).1 (PySem.W.plainGet_of hg).2 hf (beq_iff_eq.mp ht) (by show(PySem.W.lookIn name od).map (·.isSome)=some false;rw[hl,hv];rfl) h
theorem Zs5 {ns:List Str}{Q:Unit->Shared->Prop} (X:K.In s.heap) (I:ObjM s.heap x dx C mA)
  (hs:PySem.W.findIn K (.ref C) "__setattr__"=some (some (.builtin "object.__setattr__"))) (hp:PySem.W.plainOver K C=true) (ht:PySem.W.takerIn K C name=some none) (hh:PySem.W.hasDictIn K C=true)
  (hw:PySem.Within mA ns) (hsz:ns.length<=sizeLine)
  (h:∀h',ObjM h' x dx C (λy=>if y=name then some v else mA y)->Heap.SameBut dx s.heap h'->Q () {s with heap:=h',toks:=s.toks+2}) :
  wpAny (model prog w) A (setAttr (.ref x) name v) Q E s:=by
 obtain⟨od,J,hl⟩:=I.look
 refine PySem.W.set_plain X J hs (PySem.W.osa_open (s:={s with toks:=s.toks+1}) (r:=none) X J hp ht λb=>?_)
 obtain⟨cd,hc,hd'⟩:=PySem.W.any_some hh
 have hx:s.heap.get? x=some ⟨.ref C,some dx,.plain,#[]⟩:=I.obj
 refine Ya (Yc (Ya (Ya (wpAny_loadPart hx (Ya (PySem.W.Looks.here (s:={s with toks:=s.toks+1}) (PySem.W.looks_clsIn X hc) ?_))))))
 rw[hd']
 refine Yc (a:=some dx) (Ya (Yc (Ya ?_)))
 refine wpAny_nsSet1 (s:={s with toks:=s.toks+1}) I.ns λh' hn2 hs2=>?_
 obtain⟨oD,esD,epD,hoD,hdD,hcD⟩:=hn2.count (PySem.Within.cons name v hw)
 refine Ya (wpAny_lookBehind hoD (by rw[hdD];exact pastItsLine_dict (Yo hcD (by rw[Yw];omega))) ?_)
 exact Yc (h _ ⟨(hs2.2 _ (Ne.symm I.ne)).trans I.obj,hn2,I.ne⟩ hs2)
theorem ZpI {R:Result->Shared->Prop}{vs:List Value}{kw:List (Str×Value)} (X:K.In s.heap) (hm:PySem.W.makesIn K C=true)
  (hi:PySem.W.findIn K (.ref C) "__init__"=some (some (.ref f))) (hf:PySem.W.typeIn K (.ref f)=some (.type "function"))
  (h:codeAny (model prog w) (A.under (.builtin "type.__call__" ⟨.ref C::vs,kw⟩)) (.call (.ref f) ⟨.ref (s.heap.objs.size+1)::vs,kw⟩) (PySem.W.InitBack (s.heap.objs.size+1) R)
   {s with heap:=(s.heap.push PySem.W.emptyDict).push (PySem.W.instObj C s.heap.objs.size)}) :
  codeAny (model prog w) A (.call (.ref C) ⟨vs,kw⟩) R s:=by
 obtain⟨hh,g,d,t,os⟩:=s
 exact PySem.W.make_core (PySem.W.makes_of X hm) (PySem.W.looks_findIn X hi) (λself=>PySem.W.bind_fn X self hf) (.inl rfl) h
end
noncomputable def ZbH (f:Str) (v:V):List (Str×V)->List (Str×V)
 |[]=>[(f,v)]
 |(g,x)::r=>if g=f then (g,v)::r else (g,x)::ZbH f v r
theorem ZbI (f g:Str) (v:V):∀fs:List (Str×V),(ZbH f v fs).lookup g=if g=f then some v else fs.lookup g
 |[]=>by
  show List.lookup g [(f,v)]=_
  by_cases h:g=f
  ·have hb:(g==f)=true:=beq_iff_eq.mpr h
   simp only[List.lookup,hb,Yd h]
  ·have hb:(g==f)=false:=beq_eq_false_iff_ne.mpr h
   simp only[List.lookup,hb,Yb h]
 |(k,x)::r=>by
  have ih:=ZbI f g v r
  rw[show ZbH f v ((k,x)::r)=(if k=f then (k,v)::r else (k,x)::ZbH f v r)from rfl]
  by_cases hk:k=f
  ·rw[Yd hk]
   by_cases h:g=k
   ·have hb:(g==k)=true:=beq_iff_eq.mpr h
    simp only[List.lookup,hb,Yd (h.trans hk)]
   ·have hb:(g==k)=false:=beq_eq_false_iff_ne.mpr h
    simp only[List.lookup,hb,Yb (λe:g=f=>h (e.trans hk.symm))]
  ·rw[Yb hk]
   by_cases h:g=k
   ·have hb:(g==k)=true:=beq_iff_eq.mpr h
    simp only[List.lookup,hb,Yb (λe:g=f=>hk (h.symm.trans e))]
   ·have hb:(g==k)=false:=beq_eq_false_iff_ne.mpr h
    simp only[List.lookup,hb]
    exact ih
theorem ZgF (f:Str) (v:V):∀fs:List (Str×V),f∈(ZbH f v fs).map (·.1)/\∀g,g∈fs.map (·.1)->g∈(ZbH f v fs).map (·.1)
 |[]=>⟨by simp[ZbH],λg h=>by simp at h⟩
 |(k,x)::r=>by
  obtain⟨i1,i2⟩:=ZgF f v r
  rw[show ZbH f v ((k,x)::r)=(if k=f then (k,v)::r else (k,x)::ZbH f v r)from rfl]
  by_cases hk:k=f
  ·rw[Yd hk]
   subst hk
   exact⟨by simp,λg h=>by simpa using h⟩
  ·rw[Yb hk]
   refine⟨?_,λg h=>?_⟩
   ·rw[YC]
    exact Yq _ i1
   ·rw[YC]at h⊢
    rcases Yg.mp h with e|e
    ·exact Yg.mpr (.inl e)
    ·exact Yq _ (i2 g e)
theorem ZbJ (f:Str) (v:V):∀fs:List (Str×V),(ZbH f v fs).length<=fs.length+1
 |[]=>by simp[ZbH]
 |(k,x)::r=>by
  have ih:=ZbJ f v r
  rw[show ZbH f v ((k,x)::r)=(if k=f then (k,v)::r else (k,x)::ZbH f v r)from rfl]
  by_cases hk:k=f
  ·rw[Yd hk,Yw,Yw];omega
  ·rw[Yb hk,Yw,Yw];omega
theorem Zfh.some_of {v:V}{o:Option Value} (r:Zfh (some v) o):∃u,o=some u/\RelV v u:=by
 cases o with
 |none=>exact(show False from r).elim
 |some u=>exact⟨u,rfl,r⟩
theorem Zfh.none_of {o:Option Value} (r:Zfh none o):o=none:=by
 cases o with
 |none=>rfl
 |some u=>exact(show False from r).elim
theorem Zou {v:V}{u:Value} (r:RelV v u):PySem.W.handedIn u=true:=by
 cases v with
 |non=>cases(show u=Value.none from r);rfl
 |bl b=>cases(show u=Value.bool b from r);rfl
 |int i=>obtain⟨t,e⟩:=(show ∃t,u=Value.int i t from r);cases e;rfl
 |str x=>obtain⟨t,e⟩:=(show ∃t,u=Value.str x t from r);cases e;rfl
 |byt b=>obtain⟨t,e⟩:=(show ∃t,u=Value.bytes b t from r);cases e;rfl
 |flt b=>obtain⟨t,e⟩:=(show ∃t,u=Value.float b t from r);cases e;rfl
 |ref a=>cases(show u=Value.ref a from r);rfl
 |ty n=>cases(show u=Value.type n from r);rfl
section
variable {P:Program}{w:World}{H H':Hp}{h h':Heap}{a C dx:Addr}{fs fs':List (Str×V)}
theorem ZdJ (hok:HOk P w H h) (e:H a=some (.ins C dx fs)):∃mA,ObjM h a dx C mA/\(∀f,Zfh (fs.lookup f) (mA f))/\PySem.Within mA (fs.map (·.1))/\fs.length<=1000/\H dx=some (.own a):=by
 obtain⟨d,z,ne,ob,mA,n,r,q⟩:=(show ZI P w H h a (.ins C dx fs)from hok a _ e)
 exact⟨mA,⟨ob,n,ne⟩,r,q,z,d⟩
end
structure Cls (K:PySem.W.Frag) (C:Addr):Prop where
 pg:PySem.W.plainGet K C Str.empty=true
 hd:PySem.W.hasDictIn K C=true
 po:PySem.W.plainOver K C=true
 sa:PySem.W.findIn K (.ref C) "__setattr__"=some (some (.builtin "object.__setattr__"))
theorem Cls.get {K:PySem.W.Frag}{C:Addr} (c:Cls K C) (f:Str):PySem.W.plainGet K C f=true:=c.pg
noncomputable def NoAttr (K:PySem.W.Frag) (C:Addr) (f:Str):Prop:=PySem.W.findIn K (.ref C) f=some none
theorem NoAttr.taker {K:PySem.W.Frag}{C:Addr}{f:Str} (n:NoAttr K C f):PySem.W.takerIn K C f=some none:=by
 unfold PySem.W.takerIn
 rw[show PySem.W.findIn K (.ref C) f=some none from n]
 rfl
structure Meth (K:PySem.W.Frag) (C:Addr) (m:Str) (f:Addr):Prop where
 at_:PySem.W.findIn K (.ref C) m=some (some (.ref f))
 fn:PySem.W.isFn K (.ref f)=true
 kp:PySem.W.keepIn K (.ref f)=true
section
variable {X:Cx}{pins:List (Addr×Obj)}{σ:St}{H:Hp}{s:Shared}{a C dx:Addr}{fs:List (Str×V)}{f:Str}{v:V}{A:Around}{E:Value->Shared->Prop}
theorem Zmm {b:Bool}{Q:Value->Shared->Prop} (I:Inv X pins σ H s) (e:H a=some (.ins C dx fs)) (c:Cls X.K C) (n:NoAttr X.K C f) (l:fs.lookup f=some v)
  (h:∀u s',Inv X pins σ H s'->RelV v u->Q u s'):wpAny (model X.prog X.w) A (getAttr (.ref a) f b) Q E s:=by
 obtain⟨mA,O,r,_,_,_⟩:=ZdJ I.hok e
 obtain⟨u,hu,ru⟩:=Zfh.some_of (v:=v) (o:=mA f) (by rw[<-l];exact r f)
 exact get_map I.kIn O (c.get f) c.hd n hu (Zou ru) (h u _ (I.tok _) ru)
theorem Zmn {m:Str}{g:Addr}{pl:Sem Bool}{Q:Value×List Value->Shared->Prop} (I:Inv X pins σ H s) (e:H a=some (.ins C dx fs)) (c:Cls X.K C) (k:Meth X.K C m g) (l:fs.lookup m=none)
  (h:Q (.ref g,[.ref a]) s):wpAny (model X.prog X.w) A (getMethod (.ref a) m pl) Q E s:=by
 obtain⟨mA,O,r,_,_,_⟩:=ZdJ I.hok e
 have hn:mA m=none:=Zfh.none_of (by rw[<-l];exact r m)
 exact ZpH I.kIn O (c.get m) k.at_ k.fn hn h
theorem Zmo {y:V}{u:Value}{Q:Unit->Shared->Prop} (I:Inv X pins σ H s) (e:H a=some (.ins C dx fs)) (c:Cls X.K C) (n:NoAttr X.K C f) (hl:fs.length<1000) (ry:RelV y u)
  (h:∀s',Inv X pins σ (upd H a (.ins C dx (ZbH f y fs))) s'->Q () s'):wpAny (model X.prog X.w) A (setAttr (.ref a) f u) Q E s:=by
 obtain⟨mA,O,r,wi,_,ho⟩:=ZdJ I.hok e
 have hz:(fs.map (·.1)).length<=sizeLine:=by rw[Yj,sizeLine_eq];omega
 refine Zs5 I.kIn O c.sa c.po n.taker c.hd wi hz λh' O' sb=>h _ ?_
 have hd:∃o,h'.get? dx=some o:=let ⟨o,_,_,e',_⟩:=O'.ns;⟨o,e'⟩
 refine I.write (x:=a) (e:=dx) (by rw[e];exact True.intro) (.inr ho) (λb q hb z=>(sb.2 b hb).trans z) hd ?_
 refine⟨by rw[Zf O.ne];exact ho,?_,O.ne,O'.obj,_,O'.ns,λg=>?_,λg hg=>?_⟩
 ·have:=ZbJ f y fs;omega
 ·show Zfh ((ZbH f y fs).lookup g) (if g=f then some u else mA g)
  rw[ZbI]
  by_cases q:g=f
  ·rw[Yd q,Yd q];exact ry
  ·rw[Yb q,Yb q];exact r g
 ·by_cases q:g=f
  ·rw[q];exact(ZgF f y fs).1
  ·refine(ZgF f y fs).2 g (wi g λz=>hg ?_)
   show(if g=f then some u else mA g)=none
   rw[Yb q];exact z
theorem Inv.made (I:Inv X pins σ H s):Inv X pins σ (upd (upd H s.heap.objs.size (.own (s.heap.objs.size+1))) (s.heap.objs.size+1) (.ins C s.heap.objs.size []))
  {s with heap:=(s.heap.push PySem.W.emptyDict).push (PySem.W.instObj C s.heap.objs.size)}:=by
 have e1:(s.heap.push PySem.W.emptyDict).get? s.heap.objs.size=some PySem.W.emptyDict:=Yt s.heap rfl
 have e2:((s.heap.push PySem.W.emptyDict).push (PySem.W.instObj C s.heap.objs.size)).get? (s.heap.objs.size+1)=some (PySem.W.instObj C s.heap.objs.size):=by
  have:=Yt (s.heap.push PySem.W.emptyDict) (o:=PySem.W.instObj C s.heap.objs.size) rfl
  rwa [Heap.size_push]at this
 have e3:(s.heap.push PySem.W.emptyDict).Ns s.heap.objs.size (λ_=>none):=⟨PySem.W.emptyDict,#[],_,e1,rfl,(λe he=>absurd he (by simp)),λ_=>rfl⟩
 have I1:=I.laid (a:=s.heap.objs.size) (o:=.own (s.heap.objs.size+1)) (h':=s.heap.push PySem.W.emptyDict) (t':=s.toks) (λb u q=>Yi _ q) (Yf _) ⟨_,e1⟩
 refine I1.laid (a:=s.heap.objs.size+1) (o:=.ins C s.heap.objs.size []) (t':=s.toks) (λb u q=>Yi _ q) (Y8 (Heap.size_push _ _)) ?_
 have ne:s.heap.objs.size≠s.heap.objs.size+1:=Yk (Nat.lt_succ_self _)
 refine⟨by rw[Zf ne,Zc],Yu _,ne,e2,λ_=>none,(Heap.Ns1.of_empty e3).at λo q=>Yi _ q,λ_=>True.intro,λy hy=>absurd rfl hy⟩
theorem Zs6 {prog:Program}{w:World}{env:Env}{e:Expr}{f:Str}{pos:Pos}{s:Shared}{Q:Value->Shared->Prop} (hb:attributeBase e f env (eval e env)=eval e env)
  (h:wpAny (model prog w) A (eval e env) (λo s₁=>wpAny (model prog w) A (getAttr o f true) Q E s₁) E s):wpAny (model prog w) A (eval (.Attribute e f pos) env) Q E s :=
 Attribute_any_ h (by rw[arm_eval_Attribute,hb])
end
section
variable {X:Cx}{pins:List (Addr×Obj)}{σ:St}{H:Hp}{s:Shared}{A:Around}{E:Value->Shared->Prop}{Q:Value->Shared->Prop}{c:Value}{b:Bool}
inductive TyOf (K:PySem.W.Frag) (H:Hp):V->Value->Prop where
 |non:TyOf K H .non (.type "NoneType")
 |bl (x:Bool):TyOf K H (.bl x) (.type "bool")
 |int (i:Int):TyOf K H (.int i) (.type "int")
 |str (x:Str):TyOf K H (.str x) (.type "str")
 |flt (x:UInt64):TyOf K H (.flt x) (.type "float")
 |lst {a:Addr}{xs:List V} (e:H a=some (.lst xs)):TyOf K H (.ref a) (.type "list")
 |frz {a:Addr}{o:Obj}{xs:List V} (e:H a=some (.frz o (.lst xs))):TyOf K H (.ref a) (.type "list")
 |tup {a:Addr}{xs:List V} (e:H a=some (.tup xs)):TyOf K H (.ref a) (.type "tuple")
 |dK {a:Addr}{kvs:List (Key×V)} (e:H a=some (.dK kvs)):TyOf K H (.ref a) (.type "dict")
 |dT {a:Addr}{kvs:List (List Key×V)} (e:H a=some (.dT kvs)):TyOf K H (.ref a) (.type "dict")
 |ins {a C dx:Addr}{fs:List (Str×V)} (e:H a=some (.ins C dx fs)) (cl:Cls K C) (ha:PySem.W.findIn K (.ref C) "__class__"=some (some (.builtin "object.__class__")))
   (hn:PySem.W.specialIn K (.builtin "object.__class__") "__get__"=some (some (.builtin "getset_descriptor.__get__"))) (htk:PySem.W.takesIn K (.builtin "object.__class__")=some true)
   (hm:PySem.W.mroIn K C (.type "object")=some true):TyOf K H (.ref a) (.ref C)
theorem Zov {x:V}{u t:Value} (I:Inv X pins σ H s) (rx:RelV x u) (ty:TyOf X.K H x t) (e:PySem.W.kitOne X.K t c=some b) (h:∀tk,Q (.bool b) {s with toks:=tk}) :
  wpAny (model X.prog X.w) A (call (.builtin "isinstance") [u,c]) Q E s:=by
 cases ty with
 |non=>cases(show u=Value.none from rx);exact PySem.W.kia_one PySem.W.kitx_none I.kIn True.intro e (λz=>nomatch z) h
 |bl y=>cases(show u=Value.bool y from rx);exact PySem.W.kia_one PySem.W.kitx_bool I.kIn True.intro e (λz=>nomatch z) h
 |int i=>obtain⟨t,q⟩:=(show ∃t,u=Value.int i t from rx);cases q;exact PySem.W.kia_one PySem.W.kitx_int I.kIn True.intro e (λz=>nomatch z) h
 |str y=>obtain⟨t,q⟩:=(show ∃t,u=Value.str y t from rx);cases q;exact PySem.W.kia_one PySem.W.kitx_str I.kIn True.intro e (λz=>nomatch z) h
 |flt y=>obtain⟨t,q⟩:=(show ∃t,u=Value.float y t from rx);cases q;exact PySem.W.kia_one PySem.W.kitx_float I.kIn True.intro e (λz=>nomatch z) h
 |@lst a xs ea =>
  cases(show u=Value.ref a from rx)
  obtain⟨_,_,n,_,h1⟩:=(show ZI X.prog X.w H s.heap a (.lst xs)from I.hok a _ ea)
  exact PySem.W.kia_one PySem.W.kitx_list I.kIn ⟨_,h1,rfl⟩ e (λz=>nomatch z) h
 |@frz a ob xs ea =>
  cases(show u=Value.ref a from rx)
  obtain⟨_,_,_,n,_,h1⟩:=(show ZI X.prog X.w H s.heap a (.frz ob (.lst xs))from I.hok a _ ea)
  exact PySem.W.kia_one PySem.W.kitx_list I.kIn ⟨_,h1,rfl⟩ e (λz=>nomatch z) h
 |@tup a xs ea =>
  cases(show u=Value.ref a from rx)
  obtain⟨_,_,_,p⟩:=(show ZI X.prog X.w H s.heap a (.tup xs)from I.hok a _ ea)
  obtain⟨o,h1,h2,_⟩:=p
  exact PySem.W.kia_one PySem.W.kitx_tuple I.kIn ⟨o,h1,h2⟩ e (λz=>nomatch z) h
 |@dK a kvs ea =>
  cases(show u=Value.ref a from rx)
  obtain⟨_,_,vs,_,p⟩:=(show ZI X.prog X.w H s.heap a (.dK kvs)from I.hok a _ ea)
  obtain⟨o,es,ep,h1,h2,_⟩:=p
  exact PySem.W.kia_one PySem.W.kitx_dict I.kIn ⟨o,h1,h2.1⟩ e (λz=>nomatch z) h
 |@dT a kvs ea =>
  cases(show u=Value.ref a from rx)
  obtain⟨_,_,xs,_,o,es,ep,h1,h2,_⟩:=(show ZI X.prog X.w H s.heap a (.dT kvs)from I.hok a _ ea)
  exact PySem.W.kia_one PySem.W.kitx_dict I.kIn ⟨o,h1,h2.1⟩ e (λz=>nomatch z) h
 |@ins a C dx fs ea cl ha hn htk hm =>
  cases(show u=Value.ref a from rx)
  obtain⟨mA,O,_⟩:=ZdJ I.hok ea
  obtain⟨od,J,_⟩:=O.look
  exact PySem.W.kia_one (PySem.W.kitx_own (cl.get _) cl.hd ha hn htk hm) I.kIn J e (λz=>nomatch z) h
end
structure Room (k:Nat) (A:Around):Prop where
 hd:A.handled=none
 dp:A.depth+3*k+5<recursionLimit
 un:A.units+16*k+200<cLine
theorem Room.mono {j k:Nat}{A:Around} (r:Room k A) (h:j<=k):Room j A:=⟨r.hd,by have:=r.dp;omega,by have:=r.un;omega⟩
theorem Room.deeper {k:Nat}{A:Around} (r:Room (k+1) A) (env:Env):Room k (A.deeper env) :=
 ⟨r.hd,by have:=r.dp;show A.depth+1+3*k+5 < _;omega,by have:=r.un;show A.units+3+16*k+200 < _;omega⟩
theorem Room.in1 {k:Nat}{A:Around} (r:Room (k+1) A):Room k A.in1 :=
 ⟨r.hd,by have:=r.dp;show A.depth+3*k+5 < _;omega,by have:=r.un;show A.units+1+16*k+200 < _;omega⟩
theorem Zmp {A:Around}{C:Addr}{us:List Value}{kw:List (Str×Value)}:(A.under (.builtin "type.__call__" ⟨.ref C::us,kw⟩)).depth=A.depth+1:=by
 first|rfl|simp[Around.under,Code.weight,Code.isCreation,Code.isGuard,Code.isCaller,Code.frames,Code.isFrame,guardIds]
theorem Zmq {A:Around}{C:Addr}{us:List Value}{kw:List (Str×Value)}:(A.under (.builtin "type.__call__" ⟨.ref C::us,kw⟩)).units=A.units+1:=by
 first|rfl|simp[Around.under,Code.cUnits,Code.frames,Code.isFrame]
theorem Room.make {k:Nat}{A:Around} (r:Room (k+1) A) (C:Addr) (us:List Value) (kw:List (Str×Value)):Room k (A.under (.builtin "type.__call__" ⟨.ref C::us,kw⟩)) :=
 ⟨r.hd,by have:=r.dp;rw[Zmp];omega,by have:=r.un;rw[Zmq];omega⟩
theorem Room.depth {k:Nat}{A:Around} (r:Room k A):A.depth<recursionLimit:=by have:=r.dp;omega
theorem Room.units {k:Nat}{A:Around} (r:Room k A):A.units+64<cLine:=by have:=r.un;omega
noncomputable def tNil:TA:=λ_ H Q=>Q [] H
noncomputable def Znx (ta:TE) (tr:TA):TA:=fun σ H Q=>ta σ H λx H1=>tr σ H1 λxs H2=>Q (x::xs) H2
section
variable {X:Cx}{e:Expr}{es:List Expr}{te:TE}{t:TA}{pos:Pos}
theorem Zb:PA X [] tNil:=λ_ _ _ _ H Q I h=>Calls.spliced_nil ⟨[],H,I,.nil,h⟩
theorem Za (ha:PE X e te) (hr:PA X es t) (hs:starEach (e::es) X.env=(false,eval e X.env)::starEach es X.env:=by rfl):PA X (e::es) (Znx te t):=by
 intro pos pins s σ H Q I h
 rw[hs]
 show wpAny _ _ (spliced ((false,eval e X.env)::backTo pos (starEach es X.env))) _ _ s
 refine Calls.spliced_cons (thn (ha pins s σ H _ I h) λu s1 ⟨x,H1,I1,r1,q1⟩=>?_)
 exact thn (hr pos pins s1 σ H1 _ I1 q1) λus s2 ⟨xs,H2,I2,r2,q2⟩=>⟨x::xs,H2,I2,.cons r1 r2,q2⟩
noncomputable def tTup (t:TA):TE:=fun σ H Q=>t σ H λxs H1=>xs.length<=sizeLine/\∀p,H1 p=none->Q (.ref p) (upd H1 p (.tup xs))
noncomputable def tLst (t:TA):TE:=fun σ H Q=>t σ H λxs H1=>xs.length<=sizeLine/\∀p,H1 p=none->Q (.ref p) (upd H1 p (.lst xs))
theorem Zew {x1} (h:PA X es t):PE X (.Tuple es x1 pos) (tTup t):=by
 intro pins s σ H Q I hq
 refine wpAny_Tuple_spliced (thn (h pos pins s σ H _ I hq) λus s1 ⟨xs,H1,I1,r,z,q⟩=>⟨by rw[<-r.length];exact z,?_⟩)
 have hf:H1 s1.heap.objs.size=none:=I1.hok.fresh (Yf _)
 refine⟨.ref s1.heap.objs.size,upd H1 s1.heap.objs.size (.tup xs),I1.laid (t':=s1.toks) (λb u e=>Yi _ e) (Yf _) ?_,rfl,q _ hf⟩
 exact⟨z,us,r,⟨_,Yt _ rfl,rfl,_,rfl⟩⟩
theorem ZcW (h:PA X es t):PE X (.List es pos) (tLst t):=by
 intro pins s σ H Q I hq
 refine wpAny_List_spliced (thn (h pos pins s σ H _ I hq) λus s1 ⟨xs,H1,I1,r,z,q⟩=>⟨by rw[<-r.length];exact z,?_⟩)
 have hf:H1 s1.heap.objs.size=none:=I1.hok.fresh (Yf _)
 refine⟨.ref s1.heap.objs.size,upd H1 s1.heap.objs.size (.lst xs),I1.laid (t':=s1.toks) (λb u e=>Yi _ e) (Yf _) ?_,rfl,q _ hf⟩
 exact⟨z,us,0,r,Yt _ rfl⟩
end
noncomputable abbrev Sp:=List V->Hp->VK->XK->Prop
noncomputable abbrev CXT:=List Env->Hp->Shared->XK->Value->Shared->Prop
structure Env0 (P:Program) (w:World) (K:PySem.W.Frag) (mg:Str->Option Value) (base:Heap) (A:Around) (outer:List Env) (s:Shared) (H:Hp):Prop where
 frames:A.frames=some outer
 mod:Mod K mg base
 bs:∀b o,base.get? b=some o->s.heap.get? b=some o/\H b=none
 bsz:base.objs.size<=s.heap.objs.size
 funs:s.heap.FunFrames base outer
 frf:∀b∈frs outer,H b=none
 hok:HOk P w H s.heap
 bare:AllBare s.gens
noncomputable def CE (outer:List Env) (P:Program) (w:World) (H:Hp) (s:Shared) (Q:VK) (u:Value) (s':Shared):Prop :=
 ∃v H',s'.os=s.os/\AllBare s'.gens/\Un (frs outer) [] H H' s.heap s'.heap/\HOk P w H' s'.heap/\RelV v u/\Q v H'
noncomputable def CR (CX:CXT) (outer:List Env) (P:Program) (w:World) (H:Hp) (s:Shared) (Q:VK) (E:XK) (r:Result) (s':Shared):Prop :=
 match r with
 |.ok (.ret u)=>CE outer P w H s Q u s'
 |.ok _=>False
 |.error e=>CX outer H s E e s'
structure FnOk (P:Program) (w:World) (K:PySem.W.Frag) (mg:Str->Option Value) (base:Heap) (CX:CXT) (k:Nat) (f:Addr) (fd:FuncData) (ps:List Str) (sp:Sp):Prop where
 len:∀vs H Q E,sp vs H Q E->vs.length=ps.length
 run:∀(A:Around) (outer:List Env) (s:Shared) (H:Hp) (args:Args) (us:List Value) (vs:List V) (Q:VK) (E:XK),Room k A->Env0 P w K mg base A outer s H->BindsTo s fd args (ps.zip us)->Vals vs us->sp vs H Q E ->
  codeAny (model P w) A (.call (.ref f) args) (CR CX outer P w H s Q E) s
theorem Env0.make {P:Program}{w:World}{K:PySem.W.Frag}{mg:Str->Option Value}{base:Heap}{A:Around}{outer:List Env}{s:Shared}{H:Hp} (e:Env0 P w K mg base A outer s H) (C:Addr) (us:List Value) (kw:List (Str×Value)) :
  Env0 P w K mg base (A.under (.builtin "type.__call__" ⟨.ref C::us,kw⟩)) outer s H:=⟨by first|exact e.frames|(simpa[Around.under,Code.envs,Code.isFrame,pushEnvs]using e.frames),e.mod,e.bs,e.bsz,e.funs,e.frf,e.hok,e.bare⟩
section
variable {X:Cx}{pins:List (Addr×Obj)}{σ:St}{H:Hp}{s s':Shared}
theorem Inv.env0 (I:Inv X pins σ H s):Env0 X.prog X.w X.K X.mg X.base X.A X.stack s H :=
 ⟨I.ok.frames,I.ok.mod,I.bs,Yo I.ok.bsz I.sz,I.stack,I.Zf2,I.hok,I.bare⟩
theorem Inv.after {Q:VK}{u:Value} (I:Inv X pins σ H s) (h:CE X.stack X.prog X.w H s Q u s'):EP X pins σ Q u s':=by
 obtain⟨v,H',os,bare,un,hok,r,q⟩:=h
 obtain⟨hh,g,d,t,os'⟩:=s'
 obtain rfl:os'=s.os:=os
 exact⟨v,H',I.call (h':=hh) (g':=g) (d':=d) (t':=t) (ch:=[]) un hok bare (λb z=>absurd z (by simp)),r,q⟩
end
noncomputable def Zlc (sp:Sp) (dvs:List V) (E:XK) (t:TA):TE:=fun σ H Q=>t σ H λvs H1=>sp (vs++dvs) H1 Q E
noncomputable def Zny (C:Addr) (m:Str) (sp:Sp) (dvs:List V) (E:XK) (ta:TE) (t:TA):TE:=fun σ H Q=>ta σ H λx H1=>∃a dx fs,x=.ref a/\H1 a=some (.ins C dx fs)/\fs.lookup m=none /\
 t σ H1 λvs H2=>sp (x::(vs++dvs)) H2 Q E
noncomputable def Znz (C:Addr) (sp:Sp) (dvs:List V) (E:XK) (t:TA):TE:=fun σ H Q=>t σ H λvs H1=>∀x dx,H1 x=none->H1 dx=none->dx≠x ->
 sp (.ref x::(vs++dvs)) (upd (upd H1 dx (.own x)) x (.ins C dx [])) (λv H2=>v=.non/\Q (.ref x) H2) E
noncomputable def Binds (K:PySem.W.Frag) (fd:FuncData) (ps:List Str) (ds:List Value):Prop :=
 ∀(s:Shared) (us:List Value),K.In s.heap->(us++ds).length=ps.length->BindsTo s fd ⟨us,[]⟩ (ps.zip (us++ds))
theorem Binds.all {K:PySem.W.Frag}{fd:FuncData}{ps:List Str} (h:∀us:List Value,us.length=ps.length->bindArgs fd ⟨us,[]⟩=pure (ps.zip us)):Binds K fd ps []:=λs us _ hl=>by
 rw[List.append_nil]at hl⊢
 exact .of_eq (h us hl)
noncomputable def Passes (CX:CXT) (X:Cx) (E:XK):Prop:=∀(pins:List (Addr×Obj)) (σ:St) (H:Hp) (s:Shared) (e:Value) (s':Shared),Inv X pins σ H s->CX X.stack H s E e s'->X.xe e s'
section
variable {X:Cx}{CX:CXT}{k:Nat}{f C:Addr}{fd:FuncData}{ps:List Str}{sp:Sp}{dvs:List V}{ds:List Value}{E:XK}{x m:Str}{p pos apos:Pos}{e o:Expr}{es:List Expr}{ta:TE}{t:TA}
theorem ZpJ {pins:List (Addr×Obj)}{σ:St}{H:Hp}{s:Shared}{Q:VK}{us:List Value}{vs:List V} (F:FnOk X.prog X.w X.K X.mg X.base CX k f fd ps sp) (hr:Room k X.A) (hb:Binds X.K fd ps ds) (hd:Vals dvs ds) (hx:Passes CX X E)
  (I:Inv X pins σ H s) (r:Vals vs us) (h:sp (vs++dvs) H Q E):wpAny (model X.prog X.w) X.A (call (.ref f) us) (EP X pins σ Q) X.xe s:=by
 have r2:Vals (vs++dvs) (us++ds):=r.append hd
 have hl:(us++ds).length=ps.length:=by rw[<-r2.length];exact F.len _ _ _ _ h
 refine wpAny_call (codeAny_mono (F.run X.A X.stack s H ⟨us,[]⟩ (us++ds) (vs++dvs) Q E hr I.env0 (hb s us I.kIn hl) r2 h) λr s' hq=>?_)
 cases r with
 |error e=>exact hx pins σ H s e s' I hq
 |ok fl =>
  cases fl with
  |ret u=>exact I.after hq
  |next=>exact False.elim hq
  |brk=>exact False.elim hq
  |cont=>exact False.elim hq
theorem ZnA (F:FnOk X.prog X.w X.K X.mg X.base CX k f fd ps sp) (hr:Room k X.A) (hg:Gl X x) (hm:X.mg x=some (.ref f)) (hk:PySem.W.keepIn X.K (.ref f)=true) (hb:Binds X.K fd ps ds) (hd:Vals dvs ds) (hx:Passes CX X E)
  (ha:PA X (e::es) t) (hdb:(x==("__debug__":Str))=false:=by decide) (he:starEach (e::es) X.env=(false,eval e X.env)::starEach es X.env:=by rfl) (hpl:(backTo pos (starEach es X.env)).any (·.1)=false:=by rfl) :
  PE X (.Call (.Name x p) (e::es) [] pos) (Zlc sp dvs E t):=by
 intro pins s σ H Q I h
 refine wpAny_Call_Name_kw (Ze6 I hg hm ?_ hdb)
 refine PySem.W.callWith_K (h₀:=X.base) I.ok.mod.kin hk (thn (ha pos pins s σ H _ I h) λus s1 ⟨vs,H1,I1,r,q⟩=>⟨I1.kIn,?_⟩) he hpl
 exact ZpJ F hr hb hd hx I1 r q
theorem Zs7 {pl:Sem Bool} (he:PE X o ta) (c:Cls X.K C) (hm:Meth X.K C m f) (F:FnOk X.prog X.w X.K X.mg X.base CX k f fd ps sp) (hr:Room k X.A) (hb:Binds X.K fd ps ds) (hd:Vals dvs ds) (hx:Passes CX X E) (ha:PA X (e::es) t)
  (hst:starEach (e::es) X.env=(false,eval e X.env)::starEach es X.env:=by rfl) (hpl:(backTo pos (starEach es X.env)).any (·.1)=false:=by rfl)
  (ht:eval (.Call (.Attribute o m apos) (e::es) [] pos) X.env=(do
   let ov <-eval o X.env
   standAt apos.atName
   let (f,first) <-holding [ov] (getMethod ov m pl)
   callWith pos f first (backTo pos (starEach (e::es) X.env)) (backToKw pos (keywordEach [] X.env))):=by rfl) :
  PE X (.Call (.Attribute o m apos) (e::es) [] pos) (Zny C m sp dvs E ta t):=by
 intro pins s σ H Q I h
 refine PySem.W.methodCall_KW (pl:=pl) (thn (he pins s σ H _ I h) λu s1 ⟨x,H1,I1,rx,a,dx,fs,ex,ea,l,q⟩=>?_) ht
 subst ex
 obtain rfl:u=Value.ref a:=rx
 refine Zmn I1 ea c hm l ?_
 refine PySem.W.callWith_K (first:=[.ref a]) (h₀:=X.base) I.ok.mod.kin hm.kp (thn (ha pos pins s1 σ H1 _ I1 q) λus s2 ⟨vs,H2,I2,r,q2⟩=>⟨I2.kIn,?_⟩) hst hpl
 exact ZpJ (us:=.ref a::us) (vs:=.ref a::vs) F hr hb hd hx I2 (.cons rfl r) q2
structure Mk (K:PySem.W.Frag) (C f:Addr):Prop where
 makes:PySem.W.makesIn K C=true
 init:PySem.W.findIn K (.ref C) "__init__"=some (some (.ref f))
 fn:PySem.W.isFn K (.ref f)=true
 kp:PySem.W.keepIn K (.ref C)=true
theorem ZpK {pins:List (Addr×Obj)}{σ:St}{H:Hp}{s:Shared}{Q:VK}{us:List Value}{vs:List V} (M:Mk X.K C f) (F:FnOk X.prog X.w X.K X.mg X.base CX k f fd ps sp) (hr:Room (k+1) X.A) (hb:Binds X.K fd ps ds) (hd:Vals dvs ds)
  (hx:Passes CX X E) (I:Inv X pins σ H s) (r:Vals vs us)
  (h:∀x dx,H x=none->H dx=none->dx≠x->sp (.ref x::(vs++dvs)) (upd (upd H dx (.own x)) x (.ins C dx [])) (λv H2=>v=.non/\Q (.ref x) H2) E) :
  wpAny (model X.prog X.w) X.A (call (.ref C) us) (EP X pins σ Q) X.xe s:=by
 have hq:=h (s.heap.objs.size+1) s.heap.objs.size (I.hok.fresh (YW _)) (I.hok.fresh (Yf _)) (Yk (Nat.lt_succ_self _))
 have I2:=Inv.made (C:=C) I
 have r2:Vals (V.ref (s.heap.objs.size+1)::(vs++dvs)) (Value.ref (s.heap.objs.size+1)::(us++ds)):=.cons rfl (r.append hd)
 have hl:(Value.ref (s.heap.objs.size+1)::us++ds).length=ps.length:=by
  have e:=r2.length
  rw[F.len _ _ _ _ hq]at e
  exact e.symm
 refine wpAny_call (ZpI (f:=f) I.kIn M.makes M.init (beq_iff_eq.mp M.fn) (codeAny_mono (F.run _ X.stack _ _ ⟨Value.ref (s.heap.objs.size+1)::us,[]⟩ (Value.ref (s.heap.objs.size+1)::(us++ds)) _ _ E (hr.make C us [])
  (I2.env0.make C us []) (hb _ (Value.ref (s.heap.objs.size+1)::us) I2.kIn hl) r2 hq) λr s' hq'=>?_))
 cases r with
 |error e=>exact hx pins σ _ _ e s' I2 hq'
 |ok fl =>
  cases fl with
  |ret u =>
   obtain⟨v,H',I3,rv,ev,q3⟩:=I2.after hq'
   subst ev
   exact⟨rv,⟨V.ref (s.heap.objs.size+1),H',I3,rfl,q3⟩⟩
  |next=>exact False.elim hq'
  |brk=>exact False.elim hq'
  |cont=>exact False.elim hq'
theorem Zs8 (M:Mk X.K C f) (F:FnOk X.prog X.w X.K X.mg X.base CX k f fd ps sp) (hr:Room (k+1) X.A) (hg:Gl X x) (hm:X.mg x=some (.ref C)) (hb:Binds X.K fd ps ds) (hd:Vals dvs ds) (hx:Passes CX X E)
  (ha:PA X (e::es) t) (hdb:(x==("__debug__":Str))=false:=by decide) (he:starEach (e::es) X.env=(false,eval e X.env)::starEach es X.env:=by rfl) (hpl:(backTo pos (starEach es X.env)).any (·.1)=false:=by rfl) :
  PE X (.Call (.Name x p) (e::es) [] pos) (Znz C sp dvs E t):=by
 intro pins s σ H Q I h
 refine wpAny_Call_Name_kw (Ze6 I hg hm ?_ hdb)
 refine PySem.W.callWith_K (h₀:=X.base) I.ok.mod.kin M.kp (thn (ha pos pins s σ H _ I h) λus s1 ⟨vs,H1,I1,r,q⟩=>⟨I1.kIn,?_⟩) he hpl
 exact ZpK M F hr hb hd hx I1 r q
end
noncomputable def PK (X:Cx) (kws:List Keyword) (t:TA):Prop :=
 ∀(pos:Pos) (pins:List (Addr×Obj)) (s:Shared) (σ:St) (H:Hp) (Q:List V->Hp->Prop),Inv X pins σ H s->t σ H Q->wpAny (model X.prog X.w) X.A (evalAll ((backToKw pos (keywordEach kws X.env)).map (·.2))) (AP X pins σ Q) X.xe s
section
variable {X:Cx}{CX:CXT}{k:Nat}{f C:Addr}{fd:FuncData}{ps ks:List Str}{sp:Sp}{E:XK}{x m:Str}{p pos apos kpos:Pos}{e o:Expr}{es:List Expr}{kws:List Keyword}{te ta:TE}{t tk:TA}{nm:Option Str}
theorem Zmr:PK X [] tNil:=λ_ _ _ _ H Q I h=>wpAny_evalAll_nil ⟨[],H,I,.nil,h⟩
theorem Ze9 (ha:PE X e te) (hr:PK X kws t):PK X (⟨nm,e,kpos⟩::kws) (Znx te t):=by
 intro pos pins s σ H Q I h
 show wpAny _ _ (evalAll ((do let v <-eval e X.env;standAt pos;pure v)::(backToKw pos (keywordEach kws X.env)).map (·.2))) _ _ s
 refine wpAny_evalAll_cons (Ya (thn (ha pins s σ H _ I h) λu s1 ⟨x,H1,I1,r1,q1⟩=>Ya (wpAny_standAt (Yc ?_))))
 exact thn (hr pos pins s1 σ H1 _ I1 q1) λus s2 ⟨xs,H2,I2,r2,q2⟩=>⟨x::xs,H2,I2,.cons r1 r2,q2⟩
variable {g:List Value->List Value->List Value}{gV:List V->List V->List V}
end
structure FnScope (N P:List Str) (sc:Scope):Prop where
 kind:sc.kind=.function
 co:sc.isCoroutine=false
 gen:sc.isGenerator=false
 nd:N.Nodup
 pre:N.take P.length=P
 par:∀x∈P,sc.names.lookup x=some .local\/sc.names.lookup x=some .cell
 nofree:∀y∈sc.names,y.2≠.free
theorem ZjB {kindOf:Str->Option NameKind}{x:Str}:∀{binds:List (Str×Value)}{m:Str->Option Value},(∀v,(x,v)∉binds)->bindL kindOf binds m x=m x
 |[],_,_=>rfl
 |(n,v)::r,m,h=>by
  unfold bindL
  rw[ZjB λw hw=>h w (Yq _ hw)]
  split
  ·have:x≠n:=by rintro rfl;exact h v Ys
   simp[this]
  ·rfl
theorem ZjC {kindOf:Str->Option NameKind}{x:Str}:∀{binds:List (Str×Value)}{m:Str->Option Value},(∀v,(x,v)∉binds)->bindC kindOf binds m x=m x
 |[],_,_=>rfl
 |(n,v)::r,m,h=>by
  unfold bindC
  rw[ZjC λw hw=>h w (Yq _ hw)]
  split
  ·rfl
  ·have:x≠n:=by rintro rfl;exact h v Ys
   simp[this]
theorem ZjD {kindOf:Str->Option NameKind}{x:Str}{v:Value}:∀{P:List Str}{vs:List Value}{i:Nat}{m:Str->Option Value},P.Nodup->P[i]?=some x->vs[i]?=some v->kindOf x=some .local ->
  bindL kindOf (P.zip vs) m x=some v
 |[],_,_,_,_,h,_,_=>by simp at h
 |_::_,[],_,_,_,_,h,_=>by simp at h
 |p::P,w::vs,0,m,nd,h1,h2,hk=>by
  simp at h1 h2;subst h1;subst h2
  show bindL kindOf ((p,w)::P.zip vs) m p=_
  unfold bindL
  rw[ZjB λv hv=>(List.nodup_cons.mp nd).1 (List.of_mem_zip hv).1,Yd hk]
  simp
 |p::P,w::vs,i+1,m,nd,h1,h2,hk=>by
  show bindL kindOf ((p,w)::P.zip vs) m x=_
  unfold bindL
  exact ZjD (i:=i) (List.nodup_cons.mp nd).2 (by simpa using h1) (by simpa using h2) hk
theorem ZjE {kindOf:Str->Option NameKind}{x:Str}{v:Value}:∀{P:List Str}{vs:List Value}{i:Nat}{m:Str->Option Value},P.Nodup->P[i]?=some x->vs[i]?=some v->kindOf x≠some .local ->
  bindC kindOf (P.zip vs) m x=some v
 |[],_,_,_,_,h,_,_=>by simp at h
 |_::_,[],_,_,_,_,h,_=>by simp at h
 |p::P,w::vs,0,m,nd,h1,h2,hk=>by
  simp at h1 h2;subst h1;subst h2
  show bindC kindOf ((p,w)::P.zip vs) m p=_
  unfold bindC
  rw[ZjC λv hv=>(List.nodup_cons.mp nd).1 (List.of_mem_zip hv).1,Yb hk]
  simp
 |p::P,w::vs,i+1,m,nd,h1,h2,hk=>by
  show bindC kindOf ((p,w)::P.zip vs) m x=_
  unfold bindC
  exact ZjE (i:=i) (List.nodup_cons.mp nd).2 (by simpa using h1) (by simpa using h2) hk
noncomputable def start (N:List Str) (vs:List V):St:=vs.map some++List.replicate (N.length-vs.length) none
noncomputable def ZfB (CX:CXT) (P:Program) (w:World) (K:PySem.W.Frag) (mg:Str->Option Value) (base:Heap) (N:List Str) (qual:Str) (scope:Scope) (f:Addr) (cd:Value) (A:Around) (outer:List Env) (s:Shared) (H:Hp) (E:XK):Cx where
 prog:=P
 w:=w
 K:=K
 mg:=mg
 base:=base
 A:=A.deeper (envOfC qual scope s.heap.objs.size f cd)
 N:=N
 s₀:=s
 H₀:=H
 env:=envOfC qual scope s.heap.objs.size f cd
 outer:=outer
 stack:=envOfC qual scope s.heap.objs.size f cd::outer
 ex:=[]
 calm:=true
 fn:=λ_=>true
 pn:=[]
 xe:=λe s'=>wpAny (model P w) (A.deeper (envOfC qual scope s.heap.objs.size f cd)) (leaving (envOfC qual scope s.heap.objs.size f cd) e) (λ_ s''=>CX outer H s E e s'') (λe' s''=>CX outer H s E e' s'') s'
theorem Zld {sc:Scope}{n:Nat}{x:Str} (h:sc.names.lookup x=some .cell):∃c,(cellsFrom n sc.names []).lookup x=some c:=by
 have q:=PySem.W.cellsFrom_some sc.names n [] (.inl h)
 exact Option.isSome_iff_exists.mp q
theorem Zow {CX:CXT}{P:Program}{w:World}{K:PySem.W.Frag}{mg:Str->Option Value}{base:Heap}{N ps:List Str}{qual:Str}{scope:Scope}{f:Addr}{cd:Value}{A:Around}{outer:List Env}{s s1:Shared}{H:Hp}{E:XK}{us:List Value}{vs:List V}
  (S:FnScope N ps scope) (hd:A.handled=none) (e0:Env0 P w K mg base A outer s H) (hl:vs.length=ps.length) (r:Vals vs us)
  (x:InCallC s s.heap.objs.size (bindL (envOfC qual scope s.heap.objs.size f cd).kindOf (ps.zip us) λ_=>none) (cellsFrom (s.heap.objs.size+1) scope.names []) (bindC (envOfC qual scope s.heap.objs.size f cd).kindOf (ps.zip us) λ_=>none) s1) :
  Inv (ZfB CX P w K mg base N qual scope f cd A outer s H E) [] (start N vs) H s1:=by
 have hpl:ps.length<=N.length:=by have:=congrArg List.length S.pre;rw[YZ]at this;omega
 obtain⟨h1,tk,rfl,hk⟩:=x.done
 have noA:∀b:Addr,b∉(ZfB CX P w K mg base N qual scope f cd A outer s H E).ex:=λb z=>absurd (show b∈([]:List Addr)from z) (by simp)
 refine⟨⟨e0.mod,S.kind,rfl,rfl,Yf _,λy z c h1 h2=>?_,λy hy=>?_,λy c _ h=>?_,λ_=>hd,Around.frames_deeper e0.frames,.inr ⟨rfl,rfl⟩,λb z=>absurd z (noA b),e0.bs,e0.bsz,λb _ _=>noA b,λb z=>absurd z (noA b),e0.funs,e0.frf⟩,
  rfl,e0.bare,Un.kept hk,⟨_,x.toInCall.ns,λi y v h1 h2 h3=>?_⟩,λy c h=>⟨_,x.cell y c h⟩,e0.hok.fresh (Yf _),λy c h=>?_,λp hp=>absurd (show p∈([]:List (Addr×Obj))from hp) (by simp),e0.hok.kept hk,?_⟩
 ·exact name_of_addr x.apart (PySem.mem_of_lookup h1) (PySem.mem_of_lookup h2)
 ·have hy:scope.names.lookup y=some .cell\/scope.names.lookup y=some .free:=hy
  rcases hy with hy|hy
  ·exact Zld hy
  ·exact absurd rfl (S.nofree _ (PySem.mem_of_lookup hy))
 ·exact YU (x.above y c (PySem.mem_of_lookup h))
 ·have hi:i<vs.length:=by
   unfold start at h2
   by_cases hi:i<vs.length
   ·exact hi
   ·rw[YX (by simpa using hi)]at h2
    rw[List.getElem?_replicate]at h2
    split at h2<;>cases h2
  have ha:vs[i]?=some v:=by
   unfold start at h2
   rw[Y2 (by simpa using hi),YD]at h2
   cases e:vs[i]? with
   |none=>rw[e]at h2;cases h2
   |some a=>rw[e]at h2;cases h2;rfl
  obtain⟨u,hu,rv⟩:=r.get ha
  have hp:ps[i]?=some y:=by
   rw[<-S.pre,List.getElem?_take_of_lt (by omega)];exact h1
  have ndP:ps.Nodup:=by rw[<-S.pre];exact S.nd.sublist (List.take_sublist _ _)
  refine⟨u,rv,?_⟩
  rcases S.par y (List.mem_of_getElem? hp)with k|k
  ·exact .inl ⟨k,ZjD ndP hp hu k⟩
  ·obtain⟨c,e⟩:=Zld (n:=s.heap.objs.size+1) k
   refine .inr ⟨.inl k,c,e,?_⟩
   have q:=x.cell y c e
   rw[ZjE ndP hp hu (by show scope.names.lookup y≠_;rw[k];decide)]at q
   exact q
 ·exact e0.hok.fresh (YU (x.above y c (PySem.mem_of_lookup h)))
 ·unfold start
  show _=N.length
  rw[YT,Yj,List.length_replicate]
  omega
theorem ZpL {CX:CXT}{P:Program}{w:World}{K:PySem.W.Frag}{mg:Str->Option Value}{base:Heap}{k:Nat}{f:Addr}{name qual:Str}{params:Arguments}{body:List Stmt}{scope:Scope}{dV kV doc pm cdv ct oc:Value}{an od:Option Addr}
  {osl:Array (Option Value)}{N ps:List Str}{sp:Sp} (lk:K.lookup f=some ⟨oc,od,.func (PySem.W.fnOf name qual params body scope dV kV doc pm an cdv ct),osl⟩) (hcd:PySem.W.codeIn K cdv qual=true) (S:FnScope N ps scope)
  (len:∀vs H Q E,sp vs H Q E->vs.length=ps.length)
  (hbody:∀(A:Around) (outer:List Env) (s:Shared) (H:Hp) (vs:List V) (Q:VK) (E:XK),Room k (A.deeper (envOfC qual scope s.heap.objs.size f cdv))->sp vs H Q E ->
   ∃t,PSs (ZfB CX P w K mg base N qual scope f cdv A outer s H E) body t/\t {nx:=λ_ H'=>Q .non H',rt:=Q} (start N vs) H) :
  FnOk P w K mg base CX (k+1) f (PySem.W.fnOf name qual params body scope dV kV doc pm an cdv ct) ps sp:=by
 refine⟨len,λA outer s H args us vs Q E hr e0 hb r hsp=>?_⟩
 have hl:=len _ _ _ _ hsp
 have KX:K.In s.heap:=e0.mod.kin.keeps λb o e=>(e0.bs b o e).1
 have lim:s.heap.NoLimit:=e0.mod.nolimit.keeps λb o e=>(e0.bs b o e).1
 have hkind:∀y∈ps.zip us,scope.names.lookup y.1=some .local\/(scope.names.lookup y.1=some .cell/\((cellsFrom (s.heap.objs.size+1) scope.names []).lookup y.1).isSome=true):=λ⟨n,v⟩ hy=>by
  rcases S.par n (List.of_mem_zip hy).1 with q|q
  ·exact .inl q
  ·exact .inr ⟨q,PySem.W.cellsFrom_some _ _ _ (.inl q)⟩
 refine codeAny_call_function hr.depth (KX _ _ lk) rfl S.co S.gen rfl (PySem.W.codeRec_of KX hcd) (hb _ _ _ _ ?_)
 refine wpAny_newFunctionEnv_cells S.kind hkind λenv he s1 x=>?_
 subst he
 refine⟨lim.keeps x.toInCall.keep,codeAny_func ?_⟩
 obtain⟨t,ht,hq⟩:=hbody A outer s H vs Q E (hr.deeper _) hsp
 have I:Inv (ZfB CX P w K mg base N qual scope f cdv A outer s H E) [] (start N vs) H s1:=Zow S hr.hd e0 hl r x
 refine Yz (ht [] s1 (start N vs) H _ I hq) (λfl s' hs=>?_) λe s' hs=>hs
 have fin:∀{σ':St}{H':Hp}{v:V}{u:Value},Inv (ZfB CX P w K mg base N qual scope f cdv A outer s H E) [] σ' H' s'->RelV v u->Q v H'->CE outer P w H s Q u s' :=
  λ{σ' H' v u} J rv q=>⟨v,H',J.os,J.bare,J.base,J.hok,rv,q⟩
 cases fl with
 |ret u =>
  obtain⟨v,σ',H',J,rv,q⟩:=hs
  exact fin J rv q
 |next =>
  obtain⟨σ',H',J,q⟩:=hs
  exact fin (v:=V.non) (u:=Value.none) J rfl q
 |brk =>
  obtain⟨_,_,_,q⟩:=hs
  exact False.elim q
 |cont =>
  obtain⟨_,_,_,q⟩:=hs
  exact False.elim q
section
variable {X:Cx}{x:Str}{p pos:Pos}{e:Expr}{es:List Expr}{t:TA}{id T:String}{r:List V->Hp->VK->Prop}
noncomputable def tCB (r:List V->Hp->VK->Prop) (t:TA):TE:=fun σ H Q=>t σ H λvs H1=>r vs H1 Q
theorem Zj (hc:Zcf X (.builtin id) r) (hg:Gl X x) (hm:X.mg x=none) (hv:bootBuiltins x=some (.builtin id)) (ha:PA X (e::es) t) (hn:x≠"__name__":=by decide) (hdb:(x==("__debug__":Str))=false:=by decide)
  (he:starEach (e::es) X.env=(false,eval e X.env)::starEach es X.env:=by rfl) (hpl:(backTo pos (starEach es X.env)).any (·.1)=false:=by rfl):PE X (.Call (.Name x p) (e::es) [] pos) (tCB r t):=by
 intro pins s σ H Q I h
 refine wpAny_Call_Name_kw (ZbR I hg hm hv ?_ hn hdb)
 exact PyProof.Rows.callWith_builtin1 (thn (ha pos pins s σ H _ I h) λus s1 ⟨vs,H1,I1,r1,q1⟩=>hc pins s1 σ H1 vs us Q I1 r1 q1) he hpl
theorem Zdt (hc:Zcf X (.type T) r) (hg:Gl X x) (hm:X.mg x=none) (hv:bootBuiltins x=some (.type T)) (ha:PA X (e::es) t) (hn:x≠"__name__":=by decide) (hdb:(x==("__debug__":Str))=false:=by decide)
  (he:starEach (e::es) X.env=(false,eval e X.env)::starEach es X.env:=by rfl) (hpl:(backTo pos (starEach es X.env)).any (·.1)=false:=by rfl):PE X (.Call (.Name x p) (e::es) [] pos) (tCB r t):=by
 intro pins s σ H Q I h
 refine wpAny_Call_Name_kw (ZbR I hg hm hv ?_ hn hdb)
 exact PyProof.Rows.callWith_type1 (thn (ha pos pins s σ H _ I h) λus s1 ⟨vs,H1,I1,r1,q1⟩=>hc pins s1 σ H1 vs us Q I1 r1 q1) he hpl
end
end L2
namespace HT
open PySem PyProof.Rows
section
open PySem.SeqAt
open PySem.AutoSeq1 (wpAny_loadPart')
open PySem.MeetsSeq PySem.MeetsSeq2 PySem.MeetsSeq3
end
section
variable {prog:Program}{w:World}{A:Around}{E:Value->Shared->Prop}{s:Shared}
noncomputable def sIx (n d:Nat):Option Int->Nat
 |none=>d
 |some v=>if v<0 then (v+(n:Int)).toNat else min v.toNat n
theorem sIx_le (n d:Nat) (hd:d<=n) (o:Option Int):sIx n d o<=n:=by
 cases o with
 |none=>exact hd
 |some v =>
  show(if v<0 then (v+(n:Int)).toNat else min v.toNat n)<=n
  by_cases hv:v<0
  ·rw[Yd hv];omega
  ·rw[Yb hv];exact Nat.min_le_right _ _
theorem ZnB (v:Int) (n d:Nat):(if v<0 then max (v+(n:Int)) 0 else min v (n:Int))=((sIx n d (some v):Nat):Int):=by
 show(if v<0 then max (v+(n:Int)) 0 else min v (n:Int))=(((if v<0 then (v+(n:Int)).toNat else min v.toNat n):Nat):Int)
 by_cases hv:v<0
 ·simp only[Yd hv];omega
 ·simp only[Yb hv];omega
theorem Zms (lo hi:Option Int) (n:Nat):Builtin.Slice.sliceAdjust lo hi 1 (n:Int)=(((sIx n 0 lo:Nat):Int),((sIx n n hi:Nat):Int)):=by
 have h1:¬ ((1:Int)<0):=by omega
 unfold Builtin.Slice.sliceAdjust
 simp only[h1,if_false]
 refine Prod.ext ?_ ?_
 ·cases lo with
  |none=>rfl
  |some v=>exact ZnB v n 0
 ·cases hi with
  |none=>rfl
  |some v=>exact ZnB v n n
theorem Zmt (i j:Nat):Builtin.Slice.slicePlaces (i:Int) (j:Int) 1=j-i:=by
 unfold Builtin.Slice.slicePlaces
 have h1:(1:Int)>0:=by omega
 simp only[h1,if_true,Int.ediv_one]
 split<;>omega
theorem ZhS {v:Value}{o:Option Int}{Q:Option Int->Shared->Prop} (p:IsPart v o) (h:Q o s):wpAny (model prog w) A (Builtin.Slice.slicePartIndex v) Q E s:=by
 cases p with
 |none=>exact slicePart_none h
 |int i t=>exact slicePart_int h
theorem Zdu {sl:Addr}{vl vu:Value}{lo hi:Option Int}{n:Nat}{Q:Int×Int×Nat->Shared->Prop} (hs:s.heap.IsSliceOf sl vl vu .none) (pl:IsPart vl lo) (pu:IsPart vu hi)
  (h:Q (((sIx n 0 lo:Nat):Int),1,sIx n n hi-sIx n 0 lo) s):wpAny (model prog w) A (Builtin.Slice.sliceApplied (.ref sl) (pure (n:Int))) Q E s:=by
 obtain⟨os,hos,hcs,hds⟩:=id hs
 unfold Builtin.Slice.sliceApplied Builtin.Slice.sliceFields
 refine Ya (Ya (wpAny_field hos hds (x:=vl) rfl (Ya (wpAny_field hos hds (x:=vu) rfl (Ya (wpAny_field hos hds (x:=.none) rfl (Yc ?_)))))))
 refine Ya (slicePart_none ?_)
 show wpAny _ _ (if ((1:Int)==0)=true then _ else _) _ _ s
 rw[Yb (by decide)]
 refine Ya (ZhS pl (Ya (ZhS pu (Ya (Yc ?_)))))
 show wpAny _ _ (match Builtin.Slice.sliceAdjust lo hi 1 (n:Int)with|(lo,hi)=>pure (lo,(1:Int),Builtin.Slice.slicePlaces lo hi 1)) _ _ s
 rw[Zms lo hi n]
 show wpAny _ _ (pure (((sIx n 0 lo:Nat):Int),(1:Int),Builtin.Slice.slicePlaces ((sIx n 0 lo:Nat):Int) ((sIx n n hi:Nat):Int) 1)) _ _ s
 rw[Zmt]
 exact Yc h
theorem ZpM (xs:Array Value) (i k:Nat):((List.range k).filterMap λ(m:Nat)=>xs[((i:Int)+(m:Int)*1).toNat]?).toArray=((xs.toList.drop i).take k).toArray:=by
 have e:(λ(m:Nat)=>xs[((i:Int)+(m:Int)*1).toNat]?)=λm=>xs[i+m]?:=by
  funext m
  have:((i:Int)+(m:Int)*1).toNat=i+m:=by omega
  rw[this]
 rw[e]
 have:=pick_run xs i k
 rw[List.filterMap_map]at this
 have e2:((λx=>xs[x]?) ∘ λx=>i+x)=λm=>xs[i+m]?:=rfl
 rw[e2]at this
 rw[this]
theorem Zf5 {t sl:Addr}{items:Array Value}{vl vu:Value}{lo hi:Option Int}{Q:Value->Shared->Prop} (ht:IsTup s.heap t items) (hs:s.heap.IsSliceOf sl vl vu .none) (pl:IsPart vl lo) (pu:IsPart vu hi)
  (hw:¬ (sIx items.size 0 lo=0/\sIx items.size items.size hi=items.size))
  (h:Q (.ref s.heap.objs.size) {s with heap:=s.heap.push {cls:=.type "tuple",data:=.seq ((items.toList.drop (sIx items.size 0 lo)).take (sIx items.size items.size hi-sIx items.size 0 lo)).toArray}})
  (hsz:items.size<=sizeLine):wpAny (model prog w) A (getItem (.ref t) (.ref sl)) Q E s:=by
 have htake:sizeOk (.seq ((items.toList.drop (sIx items.size 0 lo)).take (sIx items.size items.size hi-sIx items.size 0 lo)).toArray):=by
  show((items.toList.drop (sIx items.size 0 lo)).take (sIx items.size items.size hi-sIx items.size 0 lo)).toArray.size<=sizeLine
  rw[Yr,YZ,Je,Yp]
  omega
 have hj:sIx items.size items.size hi<=items.size:=sIx_le _ _ (Yf _) hi
 obtain⟨os,hos,hcs,hds⟩:=id hs
 have hTs:s.TypeIs (.ref sl) "slice":=⟨os,hos,hcs⟩
 unfold getItem
 try with_reducible refine YB ?_
 first|refine Ya (Yc ?_)|skip
 refine Ya (wpAny_sequenceKey ht.typeIs (by decide) ?_)
 refine Ya (wpAny_callSpecial?_slot (name:=Str.ofString "__getitem__") ht.typeIs PyProof.Rows.slot_tuple_getitem
  (wpAny_call_entry PyProof.Rows.slot_tuple_getitem ht.typeIs entry_tuple_getitem ?_ (args_tuple_getitem _ _)))
 show wpAny _ _ (Builtin.Tuple.tupleItemsOf (.ref t) >>= _) _ _ s
 refine Ya (tupleItemsOf_ ht ?_)
 refine Ya (wpAny_typeOf hTs ?_)
 rw[Yd (by decide)]
 refine Ya (Zdu hs pl pu ?_)
 have hno:¬ ((((sIx items.size 0 lo:Nat):Int)==0&&(1:Int)==1&&(sIx items.size items.size hi-sIx items.size 0 lo)==items.size)=true):=by
  intro q
  rw[Bool.and_eq_true,Bool.and_eq_true]at q
  have q1:((sIx items.size 0 lo:Nat):Int)=0:=eq_of_beq q.1.1
  have q2:sIx items.size items.size hi-sIx items.size 0 lo=items.size:=eq_of_beq q.2
  exact hw ⟨by omega,by omega⟩
 show wpAny _ _ (if (((sIx items.size 0 lo:Nat):Int)==0&&(1:Int)==1&&(sIx items.size items.size hi-sIx items.size 0 lo)==items.size)=true then _ else _) _ _ s
 rw[Yb hno,ZpM]
 first
  |exact Ya (m:=Builtin.Tuple.tupleExact _) (wpAny_newObj_type (Yc ⟨_,rfl,Yc h⟩) htake)
  |exact Ya (m:=Builtin.Tuple.tupleExact _) (wpAny_newObj_type (Ya (Yc (Yc ⟨_,rfl,Yc h⟩))) htake)
  |exact Ya (Ya (m:=Builtin.Tuple.tupleExact _) (wpAny_newObj_type (Yc (Yc ⟨_,rfl,Yc h⟩)) htake))
  |exact Ya (Ya (m:=Builtin.Tuple.tupleExact _) (wpAny_newObj_type (Yc ⟨_,rfl,Yc h⟩) htake))
end
end HT
namespace L2
open PySem PySem.Spec PyProof.Rows
noncomputable abbrev TO:=St->Hp->(Option Int->Hp->Prop)->Prop
noncomputable def PO (X:Cx) (e:Option Expr) (t:TO):Prop :=
 ∀(pins:List (Addr×Obj)) (s:Shared) (σ:St) (H:Hp) (Q:Option Int->Hp->Prop),Inv X pins σ H s->t σ H Q ->
  wpAny (model X.prog X.w) X.A (evalPart e X.env) (λu s'=>∃o H',Inv X pins σ H' s'/\IsPart u o/\Q o H') X.xe s
noncomputable def ZpN (t:TE):TO:=fun σ H Q=>t σ H λx H1=>∃i,x=.int i/\Q (some i) H1
theorem intsAre_of {ns:List Int}:∀{us:List Value},Vals (ns.map V.int) us->IntsAre us ns:=by
 induction ns with
 |nil=>intro us r;rw[List.map_nil]at r;cases r;exact .nil
 |cons n ns ih =>
  intro us r
  rw[YC]at r
  cases r with
  |cons r1 r2 =>
   obtain⟨t,e⟩:=r1
   subst e
   exact .cons n t (ih r2)
section
variable {X:Cx}{e:Expr}{te:TE}{lo hi:Option Expr}{tl th:TO}{pos p2:Pos}
theorem ZnC (h:PE X e te):PO X (some e) (ZpN te):=by
 intro pins s σ H Q I hw
 rw[evalPart_some]
 refine thn (h pins s σ H _ I hw) λu s1 ⟨x,H1,I1,r1,q1⟩=>?_
 obtain⟨i,rfl,q⟩:=q1
 obtain⟨t,rfl⟩:=r1
 exact⟨some i,H1,I1,.int i t,q⟩
noncomputable def SlR (X:Cx) (r:V->Option Int->Option Int->Hp->VK->Prop):Prop :=
 ∀(pins:List (Addr×Obj)) (s:Shared) (σ:St) (H:Hp) (x:V) (v vl vu:Value) (lo hi:Option Int) (sl:Addr) (Q:VK),Inv X pins σ H s->RelV x v->s.heap.IsSliceOf sl vl vu .none->IsPart vl lo->IsPart vu hi->r x lo hi H Q ->
  ∃T id,typeLookup (.type T) "__getitem__"=pure (some (.builtin id))/\s.TypeIs v T/\wpAny (model X.prog X.w) X.A (getItem v (.ref sl)) (EP X pins σ Q) X.xe s
noncomputable def tSl (r:V->Option Int->Option Int->Hp->VK->Prop) (te:TE) (tl th:TO):TE:=fun σ H Q=>te σ H λx H1=>tl σ H1 λl H2=>th σ H2 λu H3=>r x l u H3 Q
theorem ZpO {r:V->Option Int->Option Int->Hp->VK->Prop} (hr:SlR X r) (he:PE X e te) (hl:PO X lo tl) (hu:PO X hi th):PE X (.Subscript e (.Slice lo hi none p2) pos) (tSl r te tl th):=by
 intro pins s σ H Q I h
 refine Subscript_ (thn (he pins s σ H _ I h) λv s1 ⟨x,H1,I1,r1,q1⟩=>?_)
 refine wpAny_Slice (thn (hl pins s1 σ H1 _ I1 q1) λvl s2 ⟨l,H2,I2,pl,q2⟩=>thn (hu pins s2 σ H2 _ I2 q2) λvu s3 ⟨u,H3,I3,pu,q3⟩=>?_)
 rw[evalPart_none]
 refine Yc ?_
 have I4:Inv X pins σ H3 {s3 with heap:=s3.heap.push {cls:=.type "slice",data:=.fields #[vl,vu,.none]}}:=I3.kept (t':=s3.toks) λb ob q=>Yi _ q
 obtain⟨T,id,hT,ht,hg⟩:=hr pins {s3 with heap:=s3.heap.push {cls:=.type "slice",data:=.fields #[vl,vu,.none]}} σ H3 x v vl vu l u s3.heap.objs.size Q I4 r1 (Heap.IsSliceOf.new ..) pl pu q3
 show wpAny (model X.prog X.w) X.A (subscriptTail e (.Slice lo hi none p2) v (.ref s3.heap.objs.size)) (EP X pins σ Q) X.xe {s3 with heap:=s3.heap.push {cls:=.type "slice",data:=.fields #[vl,vu,.none]}}
 exact tail_any (ops:=[.ref s3.heap.objs.size,v]) ht hT hg (by with_unfolding_all rfl)
noncomputable def ZiY (xs:List V) (lo hi:Option Int):List V:=(xs.drop (HT.sIx xs.length 0 lo)).take (HT.sIx xs.length xs.length hi-HT.sIx xs.length 0 lo)
theorem Zex (xs:List V) (lo hi:Option Int):(ZiY xs lo hi).length<=xs.length:=by
 unfold ZiY
 rw[YZ,Je]
 omega
noncomputable def rSlT (K:PySem.W.Frag):V->Option Int->Option Int->Hp->VK->Prop:=λx lo hi H Q=>∃a xs,x=.ref a/\SqT K H a xs /\
 ¬ (HT.sIx xs.length 0 lo=0/\HT.sIx xs.length xs.length hi=xs.length)/\∀p,H p=none->Q (.ref p) (upd H p (.tup (ZiY xs lo hi)))
theorem sl_tup:SlR X (rSlT X.K):=by
 intro pins s σ H x v vl vu lo hi sl Q I rx hs pl pu h
 obtain⟨a,xs,rfl,hx,hw,q⟩:=h
 cases rx
 obtain⟨its,r,ht,hz⟩:=I.tuple hx
 have hlen:its.toArray.size=xs.length:=by rw[Yr];exact r.length.symm
 refine⟨"tuple",_,PyProof.Rows.slot_tuple_getitem.lookup,ht.typeIs,?_⟩
 refine HT.Zf5 ht hs pl pu (by rw[hlen];exact hw) ?_ (by rw[hlen];exact hz)
 rw[hlen]
 refine⟨.ref s.heap.objs.size,_,I.laid (t':=s.toks) (o:=.tup (ZiY xs lo hi)) (λb ob q=>Yi _ q) (Yf _) ?_,rfl,q _ (I.hok.fresh (Yf _))⟩
 exact⟨Yo (Zex xs lo hi) hz,_,(r.drop (HT.sIx xs.length 0 lo)).take (HT.sIx xs.length xs.length hi-HT.sIx xs.length 0 lo),IsTup.new _ _⟩
end
noncomputable def ixN (n:Nat) (i:Int):Option Nat:=if 0<=i then (if i<n then some i.toNat else none)else if -(n:Int)<=i then some (i+n).toNat else none
noncomputable def atI {α:Type} (xs:List α) (i:Int):Option α:=(ixN xs.length i).bind λj=>xs[j]?
theorem ZnD {n:Nat}{i:Int}{j:Nat} (h:ixN n i=some j):seqIndex? i n=some j/\j<n/\-(n:Int)<=i/\i<n:=by
 unfold ixN at h
 by_cases h0:0<=i
 ·rw[Yd h0]at h
  by_cases h1:i<n
  ·rw[Yd h1]at h
   have e:i.toNat=j:=YA h
   exact⟨by rw[seqIndex_of h0 h1,e],by omega,by omega,h1⟩
  ·rw[Yb h1]at h;cases h
 ·rw[Yb h0]at h
  by_cases h1:-(n:Int)<=i
  ·rw[Yd h1]at h
   have e:(i+n).toNat=j:=YA h
   exact⟨by rw[seqIndex_neg (by omega) h1,e],by omega,h1,by omega⟩
  ·rw[Yb h1]at h;cases h
theorem ZnE {α:Type}{xs:List α}{i:Int}{v:α} (h:atI xs i=some v):∃j,seqIndex? i xs.length=some j/\xs[j]?=some v/\j<xs.length/\-(xs.length:Int)<=i/\i<xs.length:=by
 unfold atI at h
 cases e:ixN xs.length i with
 |none=>rw[e]at h;cases h
 |some j =>
  rw[e]at h
  obtain⟨h1,h2,h3,h4⟩:=ZnD e
  exact⟨j,h1,h,h2,h3,h4⟩
theorem ZdK {α:Type}{xs:List α}{j:Nat}{v:α} (h:xs[j]?=some v):atI xs (j:Int)=some v:=by
 have hj:j<xs.length:=(Ym.mp h).1
 have e:ixN xs.length (j:Int)=some j:=by
  unfold ixN
  rw[Yd (by omega),Yd (by omega)];simp
 unfold atI;rw[e];exact h
noncomputable def Zs9 (b:Expr):Prop:=∀o i,subscripted b false o i=operate [o,i] (getItem o i)
noncomputable def IxR (X:Cx) (r:R2):Prop :=
 ∀(value slice:Expr) (pins:List (Addr×Obj)) (s:Shared) (σ:St) (H:Hp) (x y:V) (v u:Value) (Q:VK),Inv X pins σ H s->RelV x v->RelV y u->r x y H Q ->
  subscripted slice false v u=operate [v,u] (getItem v u)->wpAny (model X.prog X.w) X.A (subscriptTail value slice v u) (EP X pins σ Q) X.xe s
noncomputable def MtR (X:Cx) (id:String) (r:V->List V->Hp->VK->Prop):Prop :=
 ∀(pins:List (Addr×Obj)) (s:Shared) (σ:St) (H:Hp) (x:V) (xs:List V) (v:Value) (us:List Value) (Q:VK),Inv X pins σ H s->RelV x v->Vals xs us->r x xs H Q ->
  wpAny (model X.prog X.w) X.A (call (.builtin id) (v::us)) (EP X pins σ Q) X.xe s
section
variable {X:Cx}{a b:Expr}{ta tb:TE}{pos:Pos}
theorem IxR.or {r r':R2} (h:IxR X r) (h':IxR X r'):IxR X (λx y H Q=>r x y H Q\/r' x y H Q):=by
 intro value slice pins s σ H x y v u Q I rx ry q hs
 rcases q with q|q
 ·exact h value slice pins s σ H x y v u Q I rx ry q hs
 ·exact h' value slice pins s σ H x y v u Q I rx ry q hs
theorem Zq {r:R2} (hr:IxR X r) (ha:PE X a ta) (hb:PE X b tb) (hs:Zs9 b):PE X (.Subscript a b pos) (tOp r ta tb):=by
 intro pins s σ H Q I h
 exact Subscript_ (binT ha hb I h λv u s2 x y H2 I2 rx ry q=>hr a b pins s2 σ H2 x y v u Q I2 rx ry q (hs _ _))
noncomputable def ZiZ (K:PySem.W.Frag):R2:=λx y H Q=>∃p xs i v,x=.ref p/\y=.int i/\SqL K H p xs/\atI xs i=some v/\Q v H
noncomputable def Zmu (K:PySem.W.Frag):R2:=λx y H Q=>∃p xs i v,x=.ref p/\y=.int i/\SqT K H p xs/\atI xs i=some v/\Q v H
theorem Zu:IxR X (ZiZ X.K):=by
 intro value slice pins s σ H x y v u Q I rx ry h hs
 obtain⟨p,xs,i,z,rfl,rfl,hq,he,q⟩:=h
 cases rx
 obtain⟨t,rfl⟩:=ry
 obtain⟨its,r,pl,hz⟩:=I.list hq
 obtain⟨j,h1,h2,h3,h4,h5⟩:=ZnE he
 obtain⟨w,ew,rw'⟩:=r.get h2
 have hl:=r.length
 have hn:=Zkb
 have fin:EP X pins σ Q w s:=⟨z,H,I,rw',q⟩
 by_cases h0:0<=i
 ·have hj:i.toNat=j:=by
   rw[seqIndex_of h0 h5]at h1
   exact YA h1
  exact item_listR pl.isList h0 (by omega) (by rw[hj];simpa using ew) fin hs
 ·have hj:(i+(its.toArray.size:Int)).toNat=j:=by
   rw[seqIndex_neg (by omega) h4]at h1
   rw[Yr,<-hl]
   exact YA h1
  exact subscriptTail_builtinR (x:=w) pl.isList.typeIs slot_list_getitem.lookup
   (wpAny_getItem_list_neg (Q:=λr s'=>r=w/\EP X pins σ Q r s') pl.isList (by omega) (by rw[Yr]<;>omega) (by omega) (by rw[hj];simpa using ew) ⟨rfl,fin⟩) hs
theorem ZaR:IxR X (Zmu X.K):=by
 intro value slice pins s σ H x y v u Q I rx ry h hs
 obtain⟨p,xs,i,z,rfl,rfl,hq,he,q⟩:=h
 cases rx
 obtain⟨t,rfl⟩:=ry
 obtain⟨its,r,pl,hz⟩:=I.tuple hq
 obtain⟨j,h1,h2,h3,h4,h5⟩:=ZnE he
 obtain⟨w,ew,rw'⟩:=r.get h2
 have hl:=r.length
 have hn:=Zkb
 have fin:EP X pins σ Q w s:=⟨z,H,I,rw',q⟩
 exact subscriptTail_builtinR (x:=w) pl.typeIs slot_tuple_getitem.lookup
  (getItem_tuple (j:=j) (Q:=λr s'=>r=w/\EP X pins σ Q r s') pl (by omega) (by omega) (by rw[Yr,<-hl];exact h1) (by simpa using ew) ⟨rfl,fin⟩) hs
theorem Zmv (its:List Value) (n j:Nat) (u:Value):Obj.mapSeq (·.setIfInBounds j u) {cls:=.type "list",data:=.seq its.toArray n}={cls:=.type "list",data:=.seq (its.set j u).toArray n}:=by
 simp[Obj.mapSeq]
theorem Inv.lst {pins:List (Addr×Obj)}{σ:St}{H:Hp}{s:Shared}{p:Addr}{xs:List V} (I:Inv X pins σ H s) (h:H p=some (.lst xs)) :
  ∃(its:List Value) (n:Nat),Vals xs its/\s.heap.get? p=some {cls:=.type "list",data:=.seq its.toArray n}/\xs.length<=sizeLine:=by
 obtain⟨z,its,n,r,e⟩:=I.hok p _ h
 exact⟨its,n,r,e,z⟩
theorem Inv.lstUpd {pins:List (Addr×Obj)}{σ:St}{H:Hp}{s:Shared}{p:Addr}{xs ys:List V}{its its':List Value}{n n':Nat}{f:Obj->Obj} (I:Inv X pins σ H s) (h:H p=some (.lst xs))
  (ho:s.heap.get? p=some {cls:=.type "list",data:=.seq its.toArray n}) (hf:f {cls:=.type "list",data:=.seq its.toArray n}={cls:=.type "list",data:=.seq its'.toArray n'}) (r:Vals ys its') (hz:ys.length<=sizeLine) (t:Nat) :
  Inv X pins σ (upd H p (.lst ys)) {s with heap:=s.heap.update p f,toks:=t}:=by
 have e:(s.heap.update p f).get? p=some {cls:=.type "list",data:=.seq its'.toArray n'}:=by
  rw[Heap.get?_update_self f ho (by rw[hf]<;>rfl),hf]
 refine I.write (x:=p) (e:=p) (by rw[h];trivial) (.inl rfl) (λb u hb q=>(Heap.get?_update_other _ _ (Ne.symm hb)).trans q) ⟨_,e⟩ ?_
 exact⟨hz,its',n',r,e⟩
noncomputable def ZpP:V->V->V->Hp->(Hp->Prop)->Prop:=λo i v H Q=>∃p xs k j,o=.ref p/\i=.int k/\H p=some (.lst xs)/\ixN xs.length k=some j/\Q (upd H p (.lst (xs.set j v)))
theorem set_list:PSet X ZpP:=by
 intro pins s σ H o i v ov iv u Q I ro ri rv h
 obtain⟨p,xs,k,j,rfl,rfl,hp,hj,q⟩:=h
 cases ro
 obtain⟨t,rfl⟩:=ri
 obtain⟨its,n,r,ho,hz⟩:=I.lst hp
 obtain⟨h1,h2,h3,h4⟩:=ZnD hj
 have hl:=r.length
 have hn:=Zkb
 have I':Inv X pins σ (upd H p (.lst (xs.set j v))) {s with heap:=s.heap.update p (Obj.mapSeq (·.setIfInBounds j u))} :=
  I.lstUpd hp ho (Zmv its n j u) (r.set rv j) (by rw[List.length_set];exact hz) s.toks
 by_cases h0:0<=k
 ·have hk:k.toNat=j:=by
   rw[seqIndex_of h0 h4]at h1
   exact YA h1
  exact PySem.W.ki_setAt ho h0 (by omega) (by rw[Yr,<-hl];exact h4) (by rw[hk];exact⟨_,I',q⟩)
 ·have hk:(k+(its.toArray.size:Int)).toNat=j:=by
   rw[seqIndex_neg (by omega) h3]at h1
   rw[Yr,<-hl]
   exact YA h1
  exact PySem.W.ki_setBack ho (by omega) (by rw[Yr,<-hl];exact h3) (by omega) (by rw[hk];exact⟨_,I',q⟩)
theorem Zkc (lo hi:Option Int) (n:Nat):(sliceBounds lo hi none n).1=((HT.sIx n 0 lo:Nat):Int)/\(sliceBounds lo hi none n).2.1=((HT.sIx n n hi:Nat):Int)/\(sliceBounds lo hi none n).2.2=1:=by
 refine⟨?_,?_,rfl⟩
 ·cases lo with
  |none=>simp[sliceBounds,HT.sIx]
  |some i =>
   simp only[sliceBounds,HT.sIx,Option.getD_none,show(1:Int)>0 by decide,if_true]
   by_cases h:i<0
   ·simp only[h,if_true]<;>omega
   ·simp only[h,if_false]<;>omega
 ·cases hi with
  |none=>simp[sliceBounds,HT.sIx]
  |some i =>
   simp only[sliceBounds,HT.sIx,Option.getD_none,show(1:Int)>0 by decide,if_true]
   by_cases h:i<0
   ·simp only[h,if_true]<;>omega
   ·simp only[h,if_false]<;>omega
theorem Zi0 (its:List Value) (lo hi:Option Int):slicePick its.toArray lo hi none=((its.drop (HT.sIx its.length 0 lo)).take (HT.sIx its.length its.length hi-HT.sIx its.length 0 lo)).toArray:=by
 obtain⟨h1,h2,h3⟩:=Zkc lo hi its.toArray.size
 unfold slicePick
 rw[h1,h2,h3]
 simp only[sliceRange_one,pick_run,Yr]<;>rfl
noncomputable def rSlL (K:PySem.W.Frag):V->Option Int->Option Int->Hp->VK->Prop:=λx lo hi H Q=>∃a xs,x=.ref a/\SqL K H a xs/\∀p,H p=none->Q (.ref p) (upd H p (.lst (ZiY xs lo hi)))
theorem Zta:SlR X (rSlL X.K):=by
 intro pins s σ H x v vl vu lo hi sl Q I rx hs pl pu h
 obtain⟨a,xs,rfl,hx,q⟩:=h
 cases rx
 obtain⟨its,r,ht,hz⟩:=I.list hx
 have hlen:=r.length
 refine⟨"list",_,slot_list_getitem.lookup,ht.isList.typeIs,?_⟩
 refine wpAny_getItem_list_slice ht.isList hs pl pu .none (by simp) ?_ (by rw[Yr]<;>omega)
 rw[Zi0,<-hlen]
 refine⟨.ref s.heap.objs.size,_,I.laid (t':=s.toks) (o:=.lst (ZiY xs lo hi)) (λb ob q=>Yi _ q) (Yf _) ?_,rfl,q _ (I.hok.fresh (Yf _))⟩
 exact⟨Yo (Zex xs lo hi) hz,_,0,(r.drop (HT.sIx xs.length 0 lo)).take (HT.sIx xs.length xs.length hi-HT.sIx xs.length 0 lo),Yt _ rfl⟩
noncomputable def flatV:V->Bool
 |.non=>true
 |.bl _=>true
 |.int _=>true
 |.str _=>true
 |_=>false
noncomputable def eqV:V->V->Bool
 |.non,.non=>true
 |.bl a,.bl b=>a==b
 |.bl a,.int b=>(if a then 1 else 0)==b
 |.int a,.bl b=>a==(if b then 1 else 0)
 |.int a,.int b=>a==b
 |.str a,.str b=>a==b
 |_,_=>false
theorem ZpQ {A:Around}{s:Shared}{y x:V}{u v:Value} (ry:RelV y u) (rx:RelV x v) (fy:flatV y=true) (fx:flatV x=true):SeqAt.EqAt A s u v (eqV y x):=by
 cases y with
 |non =>
  cases ry
  cases x with
  |non=>cases rx;exact SeqAt.EqAt.same _
  |bl b=>cases rx;exact SeqAt.EqAt.none_bool b
  |int b=>obtain⟨t,rfl⟩:=rx;exact SeqAt.EqAt.none_int b t
  |str b=>obtain⟨t,rfl⟩:=rx;exact SeqAt.EqAt.none_str b t
  |_=>exact absurd (show false=true from fx) YS
 |bl a =>
  cases ry
  cases x with
  |non=>cases rx;exact SeqAt.EqAt.bool_none a
  |bl b=>cases rx;exact SeqAt.EqAt.bool_bool a b
  |int b=>obtain⟨t,rfl⟩:=rx;exact SeqAt.EqAt.bool_int a b t
  |str b=>obtain⟨t,rfl⟩:=rx;exact SeqAt.EqAt.bool_str a b t
  |_=>exact absurd (show false=true from fx) YS
 |int a =>
  obtain⟨t',rfl⟩:=ry
  cases x with
  |non=>cases rx;exact SeqAt.EqAt.int_none a t'
  |bl b=>cases rx;exact SeqAt.EqAt.int_bool a t' b
  |int b=>obtain⟨t,rfl⟩:=rx;exact SeqAt.EqAt.int_int a t' b t
  |str b=>obtain⟨t,rfl⟩:=rx;exact SeqAt.EqAt.int_str a t' b t
  |_=>exact absurd (show false=true from fx) YS
 |str a =>
  obtain⟨t',rfl⟩:=ry
  cases x with
  |non=>cases rx;exact SeqAt.EqAt.str_none a t'
  |bl b=>cases rx;exact SeqAt.EqAt.str_bool a t' b
  |int b=>obtain⟨t,rfl⟩:=rx;exact SeqAt.EqAt.str_int a t' b t
  |str b=>obtain⟨t,rfl⟩:=rx;exact SeqAt.EqAt.str_str a t' b t
  |_=>exact absurd (show false=true from fx) YS
 |_=>exact absurd (show false=true from fy) YS
theorem Zkd:Zcf X (.builtin "len") (λxs H Q=>∃p ys,xs=[.ref p]/\(SqL X.K H p ys\/SqT X.K H p ys)/\Q (.int ys.length) H):=by
 intro pins s σ H xs us Q I r h
 obtain⟨p,ys,rfl,hq,q⟩:=h
 obtain⟨u,rfl,rx⟩:=vals1 r
 cases rx
 have hn:=Zkb
 rcases hq with hq|hq
 ·obtain⟨its,r',pl,hz⟩:=I.list hq
  have hlen:=r'.length
  exact Calls.call_len_list pl.isList (by simp only[Yr]<;>omega) ⟨.int ys.length,H,I.tok _,⟨s.toks+1,by rw[Yr,hlen]⟩,q⟩
 ·obtain⟨its,r',pl,hz⟩:=I.tuple hq
  have hlen:=r'.length
  exact len_tuple pl (by simp only[Yr]<;>omega) ⟨.int ys.length,H,I.tok _,⟨s.toks+1,by rw[Yr,hlen]⟩,q⟩
theorem Zke:Zcf X (.type "list") (λxs H Q=>∃p ys,xs=[.ref p]/\(SqL X.K H p ys\/SqT X.K H p ys)/\∀l,H l=none->Q (.ref l) (upd H l (.lst ys))):=by
 intro pins s σ H xs us Q I r h
 obtain⟨p,ys,rfl,hq,q⟩:=h
 obtain⟨u,rfl,rx⟩:=vals1 r
 cases rx
 have fin:∀(its:List Value),Vals ys its->ys.length<=sizeLine->∀(h':Heap) (c':Nat),(∀b o',s.heap.get? b=some o'->h'.get? b=some o') ->
   h'.get? s.heap.objs.size=some {cls:=.type "list",dict:=none,data:=.seq its.toArray c',slots:=#[]}->EP X pins σ Q (.ref s.heap.objs.size) {s with heap:=h'}:=λits r' hz h' c' kp e =>
  ⟨.ref s.heap.objs.size,_,I.laid (t':=s.toks) kp (Yf _) (show ZI X.prog X.w _ h' _ (.lst ys)from⟨hz,its,c',r',e⟩),rfl,q _ (I.hok.fresh (Yf _))⟩
 rcases hq with hq|hq
 ·obtain⟨its,r',pl,hz⟩:=I.list hq
  have hlen:=r'.length
  obtain⟨o,ho,hc,n,hd⟩:=pl.isList
  exact call_list_seq p (.inl rfl) ho hc hd (λh' c' kp e=>fin its r' hz h' c' kp e) (by simp only[Yr]<;>omega)
 ·obtain⟨its,r',pl,hz⟩:=I.tuple hq
  have hlen:=r'.length
  obtain⟨o,ho,hc,n,hd⟩:=pl
  exact call_list_seq p (.inr rfl) ho hc hd (λh' c' kp e=>fin its r' hz h' c' kp e) (by simp only[Yr]<;>omega)
theorem Zi1:Zcf X (.type "tuple") (λxs H Q=>∃p ys,xs=[.ref p]/\((SqL X.K H p ys/\∀l,H l=none->Q (.ref l) (upd H l (.tup ys)))\/(SqT X.K H p ys/\Q (.ref p) H))):=by
 intro pins s σ H xs us Q I r h
 obtain⟨p,ys,rfl,h⟩:=h
 obtain⟨u,rfl,rx⟩:=vals1 r
 cases rx
 rcases h with⟨hq,q⟩|⟨hq,q⟩
 ·obtain⟨its,r',pl,hz⟩:=I.list hq
  have hlen:=r'.length
  refine call_tuple_list pl.isList (λh' kp=>?_) (by simp only[Yr]<;>omega)
  have I1:Inv X pins σ H {s with heap:=h'}:=I.kept (t':=s.toks) kp
  have I2:Inv X pins σ (upd H h'.objs.size (.tup ys)) {s with heap:=h'.push {cls:=.type "tuple",data:=.seq its.toArray}} :=
   I1.laid (t':=s.toks) (λb o e=>Yi _ e) (Yf _) (show ZI X.prog X.w _ _ _ (.tup ys)from⟨hz,its,r',IsTup.new _ _⟩)
  exact⟨.ref h'.objs.size,_,I2,rfl,q _ (I1.hok.fresh (Yf _))⟩
 ·obtain⟨its,r',pl,hz⟩:=I.tuple hq
  exact call_tuple_same pl ⟨.ref p,H,I,rfl,q⟩
noncomputable def tyV (K:PySem.W.Frag) (T:String) (x:V) (H:Hp):Prop:=match x with
 |.str _=>T="str"
 |.int _=>T="int"
 |.ref p=>(T="list"/\∃xs,SqL K H p xs)\/(T="tuple"/\∃o,K.lookup p=some o/\o.cls=.type "tuple"/\o.dict=none) \/
   (T="dict"/\((∃kvs,H p=some (.dK kvs))\/∃kvs,H p=some (.dT kvs)))\/(T="set"/\∃S n,H p=some (.set S n))
 |_=>False
theorem tyV_is {pins:List (Addr×Obj)}{σ:St}{H:Hp}{s:Shared}{T:String}{x:V}{v:Value} (I:Inv X pins σ H s) (r:RelV x v) (ty:tyV X.K T x H) :
  s.TypeIs v T/\∀a,v=.ref a->∃ob,s.heap.get? a=some ob/\ob.dict=none:=by
 cases x with
 |str z =>
  obtain⟨t,rfl⟩:=r
  cases(show T="str" from ty)
  exact⟨typeIs_str s z t,λ_ e=>nomatch e⟩
 |int i =>
  obtain⟨t,rfl⟩:=r
  cases(show T="int" from ty)
  exact⟨typeIs_int s i t,λ_ e=>nomatch e⟩
 |ref p =>
  cases r
  rcases ty with⟨rfl,xs,hq⟩|⟨rfl,o,hk,hc,hd⟩|⟨rfl,hk⟩|⟨rfl,S,n,hk⟩
  ·obtain⟨its,_,pl,_⟩:=I.list hq
   refine⟨pl.isList.typeIs,λa e=>?_⟩
   cases e
   obtain⟨o,n,e,c,hd,_⟩:=pl
   exact⟨o,e,hd⟩
  ·refine⟨⟨o,I.kIn p o hk,hc⟩,λa e=>?_⟩
   cases e
   exact⟨o,I.kIn _ o hk,hd⟩
  ·have z:∃o,s.heap.get? p=some o/\o.ExactDict:=by
    rcases hk with⟨kvs,hk⟩|⟨kvs,hk⟩
    ·obtain⟨_,_,_,_,o,_,_,e,ex,_⟩:=I.hok p _ hk
     exact⟨o,e,ex⟩
    ·obtain⟨_,_,_,_,o,_,_,e,ex,_⟩:=I.hok p _ hk
     exact⟨o,e,ex⟩
   obtain⟨o,e,ex⟩:=z
   refine⟨⟨o,e,ex.1⟩,λa e2=>?_⟩
   cases e2
   exact⟨o,e,ex.2.1⟩
  ·obtain⟨o,_,_,_,e,ex,_⟩:=I.hok p _ hk
   refine⟨⟨o,e,ex.1⟩,λa e2=>?_⟩
   cases e2
   exact⟨o,e,ex.2.1⟩
 |_=>exact False.elim ty
noncomputable def tBM (K:PySem.W.Frag) (T:String) (r:V->List V->Hp->VK->Prop) (to:TE) (t:TA):TE:=fun σ H Q=>to σ H λx H1=>tyV K T x H1/\t σ H1 λxs H2=>r x xs H2 Q
variable {o e:Expr}{es:List Expr}{to:TE}{t:TA}{name:Str}{apos cpos:Pos}{T id:String}{r:V->List V->Hp->VK->Prop}
theorem ZpR (pa:PlainAttrs T) (slot:Slot T name id) (hty:typeOf (.builtin id)=pure (.type "method_descriptor")) (hm:MtR X id r) (ho:PE X o to) (ha:PA X (e::es) t)
  (hbase:attributeBase o name X.env (eval o X.env)=eval o X.env:=by rfl)
  (hfew:((backTo cpos (starEach (e::es) X.env)).all (λx=>!x.1)&&(backToKw cpos (keywordEach [] X.env)).all (λx=>x.1.isSome)
   && decide ((e::es).length+([]:List Keyword).length+(if ([]:List Keyword).isEmpty then 0 else 1)<30))=true:=by rfl)
  (hline:(apos.endLine==cpos.line)=true:=by rfl) (hs:starEach (e::es) X.env=(false,eval e X.env)::starEach es X.env:=by rfl) (hplain:(backTo cpos (starEach es X.env)).any (·.1)=false:=by rfl) :
  PE X (.Call (.Attribute o name apos) (e::es) [] cpos) (tBM X.K T r to t):=by
 intro pins s σ H Q I h
 refine wpAny_Call_method_late hbase hfew hline rfl (thn (ho pins s σ H _ I h) λv s1 ⟨x,H1,I1,r1,ty,q1⟩=>?_)
 obtain⟨h1,h2⟩:=tyV_is I1 r1 ty
 refine⟨T,id,pa,slot,hty,h1,h2,?_⟩
 have hA:=ha cpos pins s1 σ H1 _ I1 q1
 rw[hs]at hA⊢
 refine Calls.callWith_builtin (by show(false||(backTo cpos (starEach es X.env)).any (·.1))=false;rw[hplain]<;>rfl) (Calls.evalArgs_plain ?_)
 exact thn hA λus s2 ⟨vs,H2,I2,r2,q2⟩=>hm pins s2 σ H2 x vs v us Q I2 r1 r2 q2
end
noncomputable def MtM (X:Cx) (id:String) (r:V->List V->Hp->VK->Prop):Prop :=
 ∀(pins:List (Addr×Obj)) (s:Shared) (σ:St) (H:Hp) (x:V) (xs:List V) (v:Value) (us:List Value) (Q:VK),Inv X pins σ H s->RelV x v->Vals xs us->r x xs H Q ->
  wpAny (model X.prog X.w) X.A (call (.builtin id) (v::us)) (EP X pins σ Q) X.xe s
theorem Vals.one:∀{x:V}{us:List Value},Vals [x] us->∃u,us=[u]/\RelV x u
 |_,_,.cons r .nil=>⟨_,rfl,r⟩
theorem Vals.two:∀{x y:V}{us:List Value},Vals [x,y] us->∃u v,us=[u,v]/\RelV x u/\RelV y v
 |_,_,_,.cons r (.cons q .nil)=>⟨_,_,rfl,r,q⟩
theorem Vals.rep {xs:List V}{us:List Value} (h:Vals xs us):∀k:Nat,Vals (List.replicate k xs).flatten (List.replicate k us).flatten
 |0=>.nil
 |k+1=>by
  rw[List.replicate_succ,List.replicate_succ,List.flatten_cons,List.flatten_cons]
  exact Vals.append h (Vals.rep h k)
theorem foldl_rep (its:List Value):∀(k:Nat) (acc:List Value),
  List.foldl (λx1 x2=>x1++x2) acc.toArray (List.replicate k its.toArray)=(acc++(List.replicate k its).flatten).toArray
 |0,acc=>by simp
 |k+1,acc=>by
  have e:acc.toArray++its.toArray=(acc++its).toArray:=by simp
  have e2:(acc++its)++(List.replicate k its).flatten=acc++(List.replicate (k+1) its).flatten:=by
   rw[List.replicate_succ,List.flatten_cons,Y3]
  rw[<-e2,<-foldl_rep its k (acc++its),<-e,List.replicate_succ,List.foldl_cons]
section
variable {X:Cx}{pins:List (Addr×Obj)}{σ:St}{H:Hp}{s:Shared}{l b:Addr}{xs ys zs:List V}
theorem Inv.lset {its its':List Value}{n:Nat}{f:Array Value->Array Value}{t':Nat} (I:Inv X pins σ H s) (hH:H l=some (.lst xs))
  (e:s.heap.get? l=some {cls:=.type "list",data:=.seq its.toArray n}) (hf:f its.toArray=its'.toArray) (hv:Vals ys its') (hz:ys.length<=sizeLine) :
  Inv X pins σ (upd H l (.lst ys)) {s with heap:=s.heap.update l (Obj.mapSeq f),toks:=t'}:=by
 have q:=PySem.IsL.update e f
 rw[hf]at q
 refine I.write (x:=l) (e:=l) (by rw[hH];exact trivial) (.inl rfl) (λb' u hb hu=>(Heap.get?_update_other s.heap (Obj.mapSeq f) (Ne.symm hb)).trans hu) ⟨_,q⟩ ?_
 exact⟨hz,its',_,hv,q⟩
theorem Inv.lnew {its:List Value}{t':Nat} (I:Inv X pins σ H s) (hv:Vals ys its) (hz:ys.length<=sizeLine) :
  Inv X pins σ (upd H s.heap.objs.size (.lst ys)) {s with heap:=s.heap.push {cls:=.type "list",data:=.seq its.toArray},toks:=t'} :=
 I.laid (λ_ _ q=>Yi _ q) (Yf _) ⟨hz,its,0,hv,Yt _ rfl⟩
theorem Inv.fresh (I:Inv X pins σ H s):H s.heap.objs.size=none:=I.hok.fresh (Yf _)
theorem Inv.lstM (I:Inv X pins σ H s) (hH:H l=some (.lst xs)):xs.length<=sizeLine/\∃(its:List Value) (n:Nat),Vals xs its/\xs.length=its.length/\s.heap.get? l=some {cls:=.type "list",data:=.seq its.toArray n}:=by
 obtain⟨z,its,n,r,e⟩:=I.hok l _ hH
 exact⟨z,its,n,r,r.length,e⟩
theorem ZpS {n:Nat} (h:n<=sizeLine):Builtin.List.listTooLong n=false:=by
 unfold Builtin.List.listTooLong
 exact YI (by omega)
end
section
variable {X:Cx}
noncomputable def Zkf:V->List V->Hp->VK->Prop:=λx vs H Q=>∃l xs y,x=.ref l/\vs=[y]/\H l=some (.lst xs)/\xs.length<sizeLine/\Q .non (upd H l (.lst (xs++[y])))
theorem ZjF:MtM X "list.append" Zkf:=by
 intro pins s σ H x vs v us Q I rx rv h
 obtain⟨l,xs,y,rfl,rfl,hH,hz,q⟩:=h
 cases rx
 obtain⟨u,rfl,ru⟩:=rv.one
 obtain⟨z,its,n,r,hl,e⟩:=I.lstM hH
 refine call_meets F.slot_list_append ⟨_,e,rfl⟩ F.entry_list_append (F.args_list_append_2 _ _) (PySem.list_append l its.toArray n u (by rw[Yr];omega)) ⟨e,?_⟩
 refine⟨.non,_,I.lset (its':=its++[u]) hH e (by simp) (r.append (.cons ru .nil)) ?_,rfl,q⟩
 rw[YT,List.length_singleton]
 omega
noncomputable def rRep:R2:=λx y H Q=>∃l k xs,x=.ref l/\y=.int k/\H l=some (.lst xs)/\-(2 ^ 63)<=k/\k<2 ^ 63/\xs.length*k.toNat<=sizeLine /\
 ∀p,H p=none->Q (.ref p) (upd H p (.lst (List.replicate k.toNat xs).flatten))
theorem len_rep {α:Type} (xs:List α) (k:Nat):(List.replicate k xs).flatten.length=k*xs.length:=by
 induction k with
 |zero=>simp
 |succ k ih=>rw[List.replicate_succ,List.flatten_cons,YT,ih,Nat.succ_mul,Nat.add_comm]
theorem Zmw:OpR X (binaryOp .Mult) rRep:=by
 intro pins s σ H x y v u Q I rx ry h
 obtain⟨l,k,xs,rfl,rfl,hH,h1,h2,hz,q⟩:=h
 cases rx
 obtain⟨t,rfl⟩:=ry
 obtain⟨z,its,n,r,hl,e⟩:=I.lstM hH
 have hlen:its.toArray.size*k.toNat<=sizeLine:=by rw[Yr,<-hl];exact hz
 have hcap:¬ its.toArray.size*k.toNat>(2 ^ 63-1) / 8:=by
  have:(sizeLine:Nat)<=(2 ^ 63-1) / 8:=by decide
  omega
 have hfit:¬ (!Builtin.List.listFitsIndex k)=true:=by
  rw[fitsIndex_both h1 h2]
  exact YS
 have hlong:¬ Builtin.List.listTooLong (its.toArray.size*k.toNat)=true:=by
  rw[ZpS hlen]
  exact YS
 have hnew:List.foldl (λx1 x2=>x1++x2) #[] (List.replicate (if its.toArray.isEmpty=true then 0 else k.toNat) its.toArray)=(List.replicate k.toNat its).flatten.toArray:=by
  have f0:∀m:Nat,List.foldl (λx1 x2=>x1++x2) #[] (List.replicate m its.toArray)=(List.replicate m its).flatten.toArray:=λm=>by
   have:=foldl_rep its m []
   rw[List.nil_append]at this
   exact this
  rw[f0]
  cases its with
  |nil=>simp
  |cons a r'=>rw[Yb (by simp)]
 refine wpAny_binaryOp_repeat_ref (T:="list") (U:="int") (by decide) ⟨_,e,rfl⟩ (λs'=>typeIs_int s' k t) noFill_list_mul F.fills_int_mul F.slot_int_rmul repeat_list F.slot_int_index.lookup
  (call_meets F.slot_int_rmul (typeIs_int s k t) F.entry_int_rmul (F.args_int_rmul_2 _ _) (int___rmul___int_list k t l its.toArray n)
   ⟨e,rfl,⟨_,e,rfl⟩,call_meets F.slot_list_mul ⟨_,e,rfl⟩ F.entry_list_mul (F.args_list_mul_2 _ _) (AutoListH.list___mul___list_int_3 l its.toArray n k t hfit hcap hlong) ⟨e,?_⟩⟩)
 rw[hnew]
 exact⟨.ref _,_,I.lnew (t':=s.toks) (r.rep k.toNat) (by rw[len_rep,Nat.mul_comm];exact hz),rfl,q _ I.fresh⟩
end
end L2
namespace Att
open PySem PySem.W PySem.Calls PyProof.Rows
theorem Zhq {P:Params}{h:Heap}:∀(ns:List Int) (vs:List Value),WellAll P h vs (ns.map WData.int)->IntsAre vs ns:=by
 intro ns
 induction ns with
 |nil =>
  intro vs w
  rw[List.map_nil]at w
  cases w
  exact .nil
 |cons n ns ih =>
  intro vs w
  rw[YC]at w
  cases w with
  |cons a b =>
   cases a
   exact .cons _ _ (ih _ b)
theorem Zox {l:OpenLaw}{n:Nat} (hn:l.most=some n) {P:Params}{h:Heap}{args:List WData}{vals:List Value}
  (hpre:l.row.toRowW.claim.pre args=true) (hwl:WellAll P h vals args) :
  ∃a vs ns,vals=[Value.ref a]/\args=[WData.list (ns.map WData.int)]/\h.get? a=some {cls:=.type "list",data:=.seq vs.toArray}/\IntsAre vs ns/\ns.length<=n:=by
 have hsh:WShape.hasAll [] args [.list .int]=true:=(pre_splitW hpre).1
 have hc:l.pre.holds [] {args:=args}=true:=(pre_splitW hpre).2
 obtain⟨d,r,rfl,h1,h2⟩:=hasAllW_cons hsh
 obtain rfl:=hasAllW_nil h2
 obtain⟨xs,rfl,h3⟩:=hasW_list h1
 obtain⟨ns,rfl⟩:=items_int h3
 have hlen:ns.length<=n:=by
  unfold OpenLaw.pre at hc
  have h4:(WTm.not (.lt (.lit (.int (n:Int))) (.len (.arg 0)))).holds [] {args:=[.list (ns.map .int)]}=true:=by
   have h4:=(holds_andW hc).1
   rw[hn]at h4
   exact h4
  have h5:=condW_of h4 (w_not (w_lt w_lit (w_len_list (w_arg rfl))))
  rw[Yj]at h5
  refine Nat.le_of_not_lt λq=>?_
  have q':(n:Int)<((ns.length:Nat):Int):=by omega
  first
   |(rw[YO q']at h5;exact absurd h5 (by decide))
   |(simp at h5;omega)
 cases hwl with
 |cons w1 w2 =>
  cases w2
  cases w1 with
  |list ho hall=>exact⟨_,_,ns,rfl,rfl,ho,Zhq ns _ hall,hlen⟩
theorem Zoy (l:OpenLaw) (args:List WData):l.row.toRowW.claim.post args (.bool true) args=true :=
 postW_of (r:=l.row.toRowW) (X:=(true==true))
  (show WShape.has [] (.bool true) .bool=true by first|rfl|decide|simp[WShape.has,WShape.arms,WShape.armsAll])
  (show(WTm.eq .res (.lit (.bool true))).value [] {args:=args,res:=some (.bool true),after:=args}=some (.bool (true==true))from w_eq_bool (w_res rfl) w_lit) rfl
theorem Zle {l:OpenLaw}{n:Nat}{q:Program}{loose:List Str}{XP:(Str->Option Value)->Heap->Prop}{YP:World->Heap->Prop}{d:DefRec}
  (hn:l.most=some n) (hdf:d.params.defaults=[])
  (call:∀(w:World) (s₀ s₁:Shared) (mg mb:Str->Option Value) (fa:Addr) (o:Obj) (pm cd doc:Value) (a:Addr) (vs:List Value) (ns:List Int),
   Ground q loose [] XP w s₀ mg mb s₁.heap->YP w s₁.heap ->
   s₁.heap.get? fa=some o->o.data=.func (docDef d.name d.params d.body d.scope pm cd doc)->s₁.heap.CodeRec cd d.name->mg d.name=some (.ref fa) ->
   s₁.heap.get? a=some {cls:=.type "list",data:=.seq vs.toArray}->IntsAre vs ns->ns.length<=n->s₁.gens=#[] ->
   codeAny (model l.prog w) callerA (.call (.ref fa) ⟨[.ref a],[]⟩) (λr s'=>r=.ok (.ret (.bool true))/\OldK s₁.heap s'.heap/\s'.os=s₁.os/\AllBare s'.gens) s₁) :
  WalkO q loose XP YP l.row.toRowW d [] (λf vs=>PySem.call f vs):=by
 intro w s₀ s₁ mg mb G Y fa o pm cd doc dV kV ho hd hcd hD hmg hg args vals as hpre hlay hrd hwl hlo
 obtain rfl:dV=.none:=Dflts.none hD hdf
 obtain rfl:kV=.none:=Dflts.noKw hD
 obtain⟨a,vs,ns,rfl,rfl,hobj,hints,hlen⟩:=Zox hn hpre hwl
 refine enter_call (codeAny_mono (call w s₀ s₁ mg mb fa o pm cd doc a vs ns G Y ho (fd_plain hd) hcd hmg hobj hints hlen hg) λr s' hq=>?_)
 obtain⟨rfl,h2,h3,h4⟩:=hq
 exact⟨.inl ⟨.bool true,.bool true,[],rfl,λ_=>rfl,.bool true,Zoy l _,λ_=>⟨List.Pairwise.nil,λ_ hm=>(nomatch hm)⟩⟩,h2,h3,h4⟩
end Att
namespace L2
open PySem PySem.Spec PyProof.Rows
theorem ZgG:∀{vs:List Value}{ns:List Int},IntsAre vs ns->Vals (ns.map V.int) vs
 |_,_,.nil=>.nil
 |_,_,.cons n t h=>.cons ⟨t,rfl⟩ (ZgG h)
noncomputable def inClass (s:Stmt) (j:Nat):Stmt:=match s with
 |.ClassDef _ _ _ body _ _ _ _ _ _ _=>body.getD j (.Pass ⟨0,0,0,0⟩)
 |_=>.Pass ⟨0,0,0,0⟩
noncomputable def defArgs (s:Stmt):Arguments:=match s with
 |.FunctionDef _ a _ _ _ _ _ _ _ _=>a
 |_=>{posonlyargs:=[],args:=[],vararg:=none,kwonlyargs:=[],kw_defaults:=[],kwarg:=none,defaults:=[]}
noncomputable def defBody (s:Stmt):List Stmt:=match s with
 |.FunctionDef _ _ b _ _ _ _ _ _ _=>b
 |_=>[]
noncomputable def defScope (s:Stmt):Scope:=match s with
 |.FunctionDef _ _ _ _ _ _ sc _ _ _=>sc
 |_=>{kind:=.function,names:=[],isGenerator:=false,isCoroutine:=false}
noncomputable abbrev E0:XK:=λ_ _ _=>False
structure Fun (K:PySem.W.Frag) (x qual:Str) (st:Stmt) (f:Addr) (fd:FuncData):Prop where
 ex:∃(oc:Value) (od:Option Addr) (kV doc pm:Value) (an:Option Addr) (cdv ct:Value) (osl:Array (Option Value)),
  fd=PySem.W.fnOf x qual (defArgs st) (defBody st) (defScope st) .none kV doc pm an cdv ct/\K.lookup f=some ⟨oc,od,.func fd,osl⟩/\PySem.W.codeIn K cdv qual=true
 kp:PySem.W.keepIn K (.ref f)=true
section
variable {P:Program}{w:World}{K:PySem.W.Frag}{mg:Str->Option Value}{base:Heap}
theorem Fun.binds {x qual:Str}{st:Stmt}{f:Addr}{fd:FuncData}{ps:List Str} (F:Fun K x qual st f fd)
  (h:∀(kV doc pm:Value) (an:Option Addr) (cdv ct:Value) (us:List Value),us.length=ps.length->bindArgs (PySem.W.fnOf x qual (defArgs st) (defBody st) (defScope st) .none kV doc pm an cdv ct) ⟨us,[]⟩=pure (ps.zip us)):Binds K fd ps []:=by
 obtain⟨oc,od,kV,doc,pm,an,cdv,ct,osl,rfl,lk,hcd⟩:=F.ex
 exact .all (h kV doc pm an cdv ct)
theorem ZF {x qual:Str}{st:Stmt}{f:Addr}{oc:Value}{od an:Option Addr}{osl:Array (Option Value)}{kV doc pm cdv ct:Value} (l:K.lookup f=some ⟨oc,od,.func (PySem.W.fnOf x qual (defArgs st) (defBody st) (defScope st) .none kV doc pm an cdv ct),osl⟩)
  (c:PySem.W.codeIn K cdv qual=true) (k:PySem.W.keepIn K (.ref f)=true):Fun K x qual st f (PySem.W.fnOf x qual (defArgs st) (defBody st) (defScope st) .none kV doc pm an cdv ct):=⟨⟨oc,od,kV,doc,pm,an,cdv,ct,osl,rfl,l,c⟩,k⟩
end
theorem Zha {A:Around}{k:Nat} (hr:Room k A):A.units+1<cLine:=YF (Nat.add_le_add_left (by decide:1<=64) _) hr.units
section
variable {X:Cx}
theorem pv (i:Nat) {x:Str}{pos:Pos} (hN:X.N[i]?=some x:=by rfl) (hv:Vis X.env.scope x:=by first|exact Or.inl rfl|exact Or.inr (Or.inl rfl)|exact Or.inr (Or.inr rfl)) (hd:(x==("__debug__":Str))=false:=by decide)
  (hcd:(x==("__classdict__":Str))=false:=by decide):PE X (.Name x pos) (tVar i):=pe_var hN hv hd hcd
end
theorem ZC {c A B:Prop} [Decidable c] (h1:c->A) (h2:¬ c->B):if c then A else B:=by
 by_cases h:c
 ·rw[Yd h]
  exact h1 h
 ·rw[Yb h]
  exact h2 h
noncomputable def Ze (H H':Hp):Prop:=∀b o,H b=some o->H' b=some o
theorem Ze.refl (H:Hp):Ze H H:=λ_ _ h=>h
theorem Ze.trans {H H1 H2:Hp} (a:Ze H H1) (b:Ze H1 H2):Ze H H2:=λc o h=>b c o (a c o h)
theorem Ze.free {H H':Hp} (e:Ze H H') {l:Addr} (h:H' l=Option.none):H l=Option.none:=by
 cases q:H l with
 |none=>rfl
 |some o =>
  rw[e l o q]at h
  cases h
theorem Ze.seq {K:PySem.W.Frag}{H H':Hp}{a:Addr}{xs:List V} (e:Ze H H') (h:SqL K H a xs):SqL K H' a xs:=by
 rcases h with(h|⟨o,h⟩)|h
 ·exact .inl (.inl (e _ _ h))
 ·exact .inl (.inr ⟨o,e _ _ h⟩)
 ·exact .inr h
theorem ZdL {env:Env}:∀(names:List (Str×NameKind)) (cs0:List (Str×Addr)),(∀y∈names,y.2=.free->∃c,env.cells.lookup y.1=some c) ->
  ∃cl,(forIn names cs0 (λ(x:Str×NameKind) r=>(do
   match x with
   |(name,kind)=>if (kind==NameKind.free)=true then do let a <-cellOf env name;pure (ForInStep.yield ((name,a)::r))else pure (ForInStep.yield r)):_->_->Sem (ForInStep (List (Str×Addr)))))=pure cl /\
   (∀p∈cl,p∈cs0\/env.cells.lookup p.1=some p.2)/\(∀p∈cs0,p∈cl)/\(∀y∈names,y.2=.free->∃c,(y.1,c)∈cl)
 |[],cs0,_=>⟨cs0,rfl,λp h=>.inl h,λp h=>h,λy h=>by cases h⟩
 |(n,k)::r,cs0,h=>by
  by_cases hk:k=.free
  ·subst hk
   obtain⟨c,hc⟩:=h (n,.free) (.head _) rfl
   obtain⟨cl,e,h1,h2,h3⟩:=ZdL r ((n,c)::cs0) λy hy=>h y (.tail _ hy)
   refine⟨cl,?_,λp hp=>?_,λp hp=>h2 p (.tail _ hp),λy hy hf=>?_⟩
   ·rw[List.forIn_cons]
    have e1:cellOf env n=pure c:=by unfold cellOf;rw[hc]
    simp only[beq_self_eq_true,if_true,e1,pure_bind]
    exact e
   ·rcases h1 p hp with q|q
    ·rcases Yg.mp q with q|q
     ·subst q;exact .inr hc
     ·exact .inl q
    ·exact .inr q
   ·rcases Yg.mp hy with q|q
    ·subst q;exact⟨c,h2 _ (.head _)⟩
    ·exact h3 y q hf
  ·obtain⟨cl,e,h1,h2,h3⟩:=ZdL r cs0 λy hy=>h y (.tail _ hy)
   refine⟨cl,?_,h1,h2,λy hy hf=>?_⟩
   ·rw[List.forIn_cons]
    have e1:(k==NameKind.free)=false:=by cases k<;>first|rfl|exact absurd rfl hk
    simp only[e1,Bool.false_eq_true,if_false,pure_bind]
    exact e
   ·rcases Yg.mp hy with q|q
    ·subst q;exact absurd hf hk
    ·exact h3 y q hf
theorem ZhT {env:Env}{scope:Scope} (h:∀y∈scope.names,y.2=.free->∃c,env.cells.lookup y.1=some c) :
  ∃cl,closureFor scope env=pure cl/\(∀x c,cl.lookup x=some c->env.cells.lookup x=some c)/\(∀y∈scope.names,y.2=.free->∃c,cl.lookup y.1=some c/\env.cells.lookup y.1=some c):=by
 obtain⟨cl,e,h1,h2,h3⟩:=ZdL (env:=env) scope.names [] h
 have up:∀x c,cl.lookup x=some c->env.cells.lookup x=some c:=λx c q=>by
  rcases h1 _ (PySem.mem_of_lookup q)with z|z
  ·cases z
  ·exact z
 refine⟨cl,?_,up,λy hy hf=>?_⟩
 ·unfold closureFor
  simp only[bind_pure_comp]at e⊢
  rw[e]
  exact pure_bind _ _
 ·obtain⟨c,hc⟩:=h3 y hy hf
  cases q:cl.lookup y.1 with
  |none=>exact absurd (List.lookup_eq_none_iff.mp q _ hc) (by simp)
  |some c'=>exact⟨c',rfl,up _ _ q⟩
noncomputable def compOk (around scope:Scope):Bool :=
 scope.kind==.function&&around.kind==.function&&scope.names.all λy=>match y.2 with
  |.local=>scope.names.lookup y.1==some .local
  |.cell=>false
  |.free=>(scope.names.lookup y.1==some .free)&&(around.names.lookup y.1==some .cell||around.names.lookup y.1==some .free)
  |_=>true
theorem ZcE {a s:Scope} (h:compOk a s=true):s.kind=.function:=by
 simp only[compOk,Bool.and_eq_true,beq_iff_eq]at h;exact h.1.1
theorem ZgH {a s:Scope} (h:compOk a s=true) {y:Str×NameKind} (hy:y∈s.names):(match y.2 with
  |.local=>s.names.lookup y.1==some .local
  |.cell=>false
  |.free=>(s.names.lookup y.1==some .free)&&(a.names.lookup y.1==some .cell||a.names.lookup y.1==some .free)
  |_=>true)=true:=by
 simp only[compOk,Bool.and_eq_true]at h
 exact List.all_eq_true.mp h.2 y hy
theorem Zkg {a s:Scope} (h:compOk a s=true):∀y∈s.names,y.2=.local->s.names.lookup y.1=some .local:=λy hy e=>by
 have q:=ZgH h hy
 rw[e]at q
 exact beq_iff_eq.mp q
theorem ZcF {a s:Scope} (h:compOk a s=true):∀y∈s.names,y.2≠.cell:=λy hy e=>by
 have q:=ZgH h hy
 rw[e]at q
 cases q
theorem ZcG {a s:Scope} (h:compOk a s=true):∀y∈s.names,y.2=.free->a.names.lookup y.1=some .cell\/a.names.lookup y.1=some .free:=λy hy e=>by
 have q:=ZgH h hy
 rw[e]at q
 simp only[Bool.and_eq_true,Bool.or_eq_true,beq_iff_eq]at q
 exact q.2
theorem ZP {env:Env}:∀{names:List (Str×NameKind)}{x:Str}{k:NameKind},(names.map λ(n,k)=>if (k==NameKind.free&&env.scope.kind==.function&&env.kindOf n==some .cell)then (n,NameKind.cell)else (n,k)).lookup x=some k ->
  ∃k',names.lookup x=some k'/\(k=k'\/(k'=.free/\k=.cell))
 |[],_,_,h=>by simp at h
 |(n,k0)::r,x,k,h=>by
  by_cases hx:x=n
  ·subst hx
   refine⟨k0,by simp,?_⟩
   simp only[YC]at h
   split at h
   ·rename_i hc
    simp only[Bool.and_eq_true,beq_iff_eq]at hc
    simp only[List.lookup_cons_self,Option.some.injEq]at h
    exact .inr ⟨hc.1.1,h.symm⟩
   ·simp only[List.lookup_cons_self,Option.some.injEq]at h
    exact .inl h.symm
  ·have hb:(x==n)=false:=by simpa using hx
   simp only[YC]at h
   have e2:∀k1,((n,k1)::r).lookup x=r.lookup x:=λk1=>by simp[List.lookup_cons,hb]
   split at h<;>(simp only[List.lookup_cons,hb]at h;obtain⟨k',h1,h2⟩:=ZP h;exact⟨k',by rw[e2];exact h1,h2⟩)
noncomputable def ZbT (X:Cx) (Nc:List Str) (scope:Scope) (cl:List (Str×Addr)) (C:Addr) (s2:Shared) (H2:Hp) (fp:List Addr):Cx where
 prog:=X.prog
 w:=X.w
 K:=X.K
 mg:=X.mg
 base:=X.base
 A:=X.A
 N:=Nc
 s₀:=s2
 H₀:=H2
 env:=compEnvC scope cl C X.env
 outer:=X.stack
 stack:=X.stack
 ex:=fp
 fn:=λ_=>false
 calm:=X.calm
 pn:=[]
 xe:=λ_ _=>False
noncomputable def ZM (js:List (Option Nat)) (σ:St):St:=js.map λj=>match j with
 |none=>none
 |some i=>(σ[i]?).join
noncomputable def takesC (N Nc:List Str) (scope:Scope):List (Option Nat)->Nat->Bool
 |[],i=>i==Nc.length
 |none::r,i=>takesC N Nc scope r (i+1)
 |some j::r,i=>(match Nc[i]?,N[j]? with
  |some x,some y=>x==y&&scope.names.lookup x==some .free
  |_,_=>false)&&takesC N Nc scope r (i+1)
theorem Zcg {N Nc:List Str}{scope:Scope}:∀{js:List (Option Nat)}{i:Nat},takesC N Nc scope js i=true->i+js.length=Nc.length
 |[],i,h=>by simpa[takesC]using h
 |none::r,i,h=>by
  have:=Zcg (js:=r) (i:=i+1) (by simpa[takesC]using h)
  simp only[Yw];omega
 |some j::r,i,h=>by
  simp only[takesC,Bool.and_eq_true]at h
  have:=Zcg (js:=r) (i:=i+1) h.2
  simp only[Yw];omega
theorem Zdv {N Nc:List Str}{scope:Scope}:∀{js:List (Option Nat)}{i k j:Nat},takesC N Nc scope js i=true->js[k]?=some (some j)->∃x,Nc[i+k]?=some x/\N[j]?=some x/\scope.names.lookup x=some .free
 |[],i,k,j,h,e=>by simp at e
 |none::r,i,0,j,h,e=>by simp at e
 |none::r,i,k+1,j,h,e=>by
  obtain⟨x,h1,h2,h3⟩:=Zdv (js:=r) (i:=i+1) (k:=k) (j:=j) (by simpa[takesC]using h) (by simpa using e)
  exact⟨x,by rw[<-h1];congr 1;omega,h2,h3⟩
 |some j0::r,i,0,j,h,e=>by
  simp only[takesC,Bool.and_eq_true]at h
  simp only[List.getElem?_cons_zero,Option.some.injEq]at e
  subst e
  cases e1:Nc[i]? with
  |none=>rw[e1]at h;simp at h
  |some x =>
   cases e2:N[j0]? with
   |none=>rw[e1,e2]at h;simp at h
   |some y =>
    rw[e1,e2]at h
    simp only[Bool.and_eq_true,beq_iff_eq]at h
    exact⟨x,by simpa using e1,by rw[h.1.1],h.1.2⟩
 |some j0::r,i,k+1,j,h,e=>by
  simp only[takesC,Bool.and_eq_true]at h
  obtain⟨x,h1,h2,h3⟩:=Zdv (js:=r) (i:=i+1) (k:=k) (j:=j) h.2 (by simpa using e)
  exact⟨x,by rw[<-h1];congr 1;omega,h2,h3⟩
section
variable {X:Cx}
theorem lookup_mem {names:List (Str×NameKind)}{x:Str}{k:NameKind} (h:names.lookup x=some k):(x,k)∈names:=PySem.mem_of_lookup h
theorem Zmx {pins:List (Addr×Obj)}{σ:St}{H2:Hp}{s2:Shared}{Nc:List Str}{js:List (Option Nat)}{scope:Scope}{cl:List (Str×Addr)}{fp:List Addr}{h1:Heap}{tk:Nat}{D C:Addr}{oD:Obj}{m:Str->Option Value}
  (I:Inv X pins σ H2 s2) (hok:compOk X.env.scope scope=true) (htk:takesC X.N Nc scope js 0=true) (up:∀x c,cl.lookup x=some c->X.env.cells.lookup x=some c) (hfr:∀y∈scope.names,y.2=.free->∃c,cl.lookup y.1=some c/\X.env.cells.lookup y.1=some c)
  (hfp:∀b∈fp,FpOk X pins H2 b) (hfl:∀b∈fp,b<s2.heap.objs.size) (hD:D=s2.heap.objs.size) (hC:C=s2.heap.objs.size+1) (old:∀b o,s2.heap.get? b=some o->h1.get? b=some o) (hns:h1.Ns C m) (hoD:h1.get? D=some oD) (hdD:∀v,oD.data≠.cell v) :
  Inv (ZbT X Nc scope cl C s2 H2 fp) [(D,oD)] (ZM js σ) H2 {s2 with heap:=h1,toks:=tk}:=by
 have leC:s2.heap.objs.size<=C:=by rw[hC];exact YW _
 have leD:s2.heap.objs.size<=D:=Y8 hD.symm
 have kf:∀x,((compEnvC scope cl C X.env).kindOf x=some .cell\/(compEnvC scope cl C X.env).kindOf x=some .free)->∃c,cl.lookup x=some c/\X.env.cells.lookup x=some c:=λx hx=>by
  have:∃k,(compEnvC scope cl C X.env).kindOf x=some k/\(k=.cell\/k=.free):=hx.elim (λq=>⟨_,q,.inl rfl⟩) λq=>⟨_,q,.inr rfl⟩
  obtain⟨k,e,hk⟩:=this
  obtain⟨k',h1,h2⟩:=ZP (show(scope.names.map _).lookup x=some k from e)
  have hm:=lookup_mem h1
  have:k'=.free:=by
   rcases h2 with q|q
   ·subst q
    rcases hk with q|q
    ·subst q;exact absurd rfl (ZcF hok _ hm)
    ·exact q
   ·exact q.1
  subst this
  exact hfr _ hm rfl
 have nC:∀c x,X.env.cells.lookup x=some c->c<s2.heap.objs.size:=λc x e=>by
  obtain⟨v,q⟩:=I.cell x c e
  exact q.lt
 have noB:∀b,b∈fp->b∉frs X.stack:=λb hb q=>by
  rcases Yg.mp (I.Zeq b q)with z|z
  ·exact(hfp b hb).2.1 z
  ·exact(hfp b hb).2.2.1 z
 have okX:(ZbT X Nc scope cl C s2 H2 fp).Ok:=by
  refine⟨I.ok.mod,(show scope.kind=.function from ZcE hok),I.ok.glob,I.ok.blt,?_,λx y c e1 e2=>I.ok.inj x y c (up _ _ e1) (up _ _ e2),λx hx=>?_,(λx c e=>nomatch e),I.ok.hd,I.ok.frames,.inl rfl,λb hb=>⟨?_,λx c e=>(hfp b hb).2.2.2.2.1 x c (up _ _ e)⟩,I.bs,Yo I.ok.bsz I.sz,λb o e hb=>?_,λb hb=>noB b hb,I.stack,I.Zf2⟩
  ·show s2.heap.objs.size<=C;exact leC
  ·obtain⟨c,q,_⟩:=kf x hx;exact⟨c,q⟩
  ·exact Yk (Yv (hfl b hb) leC)
  ·rcases(hfp b hb).2.2.2.1 with q|q
   ·exact I.ok.noex b o e q
   ·exact absurd (Yv (Yh e) (Yo I.ok.bsz q)) (YJ _)
 refine⟨okX,rfl,I.bare,Un.kept old,⟨m,hns,λi x v e1 e2 e3=>?_⟩,λx c e=>?_,I.hok.fresh leC,λx c e=>I.freeC x c (up _ _ e),λp hp=>?_,I.hok.kept old,?_⟩
 ·have e2':(ZM js σ)[i]?=some (some v):=e2
  unfold ZM at e2'
  rw[YD]at e2'
  cases q:js[i]? with
  |none=>rw[q]at e2';cases e2'
  |some j0 =>
   cases j0 with
   |none=>rw[q]at e2';cases e2'
   |some j =>
    rw[q]at e2'
    simp only[Option.map_some,Option.some.injEq]at e2'
    have e4:σ[j]?=some (some v):=by
     cases z:σ[j]? with
     |none=>rw[z]at e2';cases e2'
     |some o=>rw[z]at e2';simp only[Option.join_some]at e2';rw[e2']
    obtain⟨y,y1,y2,y3⟩:=Zdv htk q
    rw[Nat.zero_add]at y1
    have:x=y:=YA ((show Nc[i]?=some x from e1).symm.trans y1)
    subst this
    have hm:=lookup_mem y3
    obtain⟨c,c1,c2⟩:=hfr _ hm rfl
    have hk:=ZcG hok _ hm rfl
    obtain⟨m0,hn0,hl0⟩:=I.loc
    obtain⟨u,r,l⟩:=hl0 j x v y2 e4 (hk.elim (λz=>.inr (.inl z)) λz=>.inr (.inr z))
    refine⟨u,r,.inr ⟨?_,c,c1,?_⟩⟩
    ·rcases e3 with z|z|z
     ·obtain⟨k',w1,w2⟩:=ZP (show(scope.names.map _).lookup x=some NameKind.local from z)
      rw[y3]at w1;cases w1
      rcases w2 with w|w
      ·cases w
      ·cases w.2
     ·exact .inl z
     ·exact .inr z
    ·rcases l with⟨lk,_⟩|⟨_,c',c3,c4⟩
     ·rcases hk with z|z
      ·rw[show X.env.kindOf x=some .cell from z]at lk;cases lk
      ·rw[show X.env.kindOf x=some .free from z]at lk;cases lk
     ·rw[c2]at c3;cases c3
      obtain⟨oc,w1,w2⟩:=c4
      exact⟨oc,old _ _ w1,w2⟩
 ·obtain⟨v,oc,w1,w2⟩:=I.cell x c (up _ _ e)
  exact⟨v,oc,old _ _ w1,w2⟩
 ·have:p=(D,oD):=by
   have hp':p∈([]++[(D,oD)]:List (Addr×Obj)):=hp
   simpa using hp'
  subst this
  refine⟨hoD,I.hok.fresh leD,(by show D≠C;rw[hD,hC];exact Yk (Nat.lt_succ_self _)),λhb=>?_,hdD⟩
  have hb':D∈frs X.stack:=hb
  obtain⟨_,o,ho,_⟩:=I.stack.mem hb'
  exact absurd (Yv (Yh ho) leD) (YJ _)
 ·have:=Zcg htk
  show(ZM js σ).length=Nc.length
  unfold ZM;rw[Yj];omega
theorem Zey {prog:Program}{w:World}{A:Around}{R:Result->Shared->Prop}{s:Shared}{elt target iter:Expr}{ifs:List Expr}{scope:Scope}{pos:Pos}{it acc:Value}{env:Env} (I:Nat->Shared->Prop)
  (turn:∀n s,I n s->wpAny (model prog w) A (pyNext it) (λr s₁=>match r with
   |none=>R (.ok .next) s₁
   |some v=>wpAny (model prog w) A (letOwnedTupleGo target it v) (λ_ s₁=>wpAny (model prog w) A (assign target env v) (λ_ s₂ =>
     wpAny (model prog w) A (forIn ifs true λc r=>if r=true then do let ok <-isTrue c env (eval c env);pure (ForInStep.yield ok)else pure (ForInStep.yield r)) (λok s₃ =>
      if ok=true then wpAny (model prog w) A (eval elt env) (λx s₄ =>
       wpAny (model prog w) A (call (.builtin "list.append") [acc,x]) (λ_ s₅=>∃m,m<n/\I m s₅) (λ_ _=>False) s₄) (λ_ _=>False) s₃
      else ∃m,m<n/\I m s₃) (λ_ _=>False) s₂) (λ_ _=>False) s₁) (λ_ _=>False) s₁) (λ_ _=>False) s)
  (n:Nat) (h:I n s) :
  codeAny (model prog w) A (.compLoop (.ListComp elt [⟨target,iter,ifs,0⟩] scope pos) 0 it acc env) R s:=by
 refine codeAny_loop rfl I (λn s hI=>?_) n h
 show wpAny _ A ((compTurn (.ListComp elt [⟨target,iter,ifs,0⟩] scope pos) 0 it acc env).onRaise (λx=>do noteFrame x env;theTreesLotGoes x)) _ _ s
 refine wpAny_noted ?_
 rw[compTurn_list]
 refine Ya (wpAny_standAt (Ya (Yz (turn n s hI) (λr s₁ h₁=>?_) λ_ _ h'=>h'.elim)))
 cases r with
 |none=>exact Yc h₁
 |some v =>
  refine Ya (Yz h₁ (λ_ s₁' h₁=>?_) λ_ _ h'=>h'.elim)
  refine Ya (Yz h₁ (λ_ s₂ h₂=>Ya (Yz h₂ (λok s₃ h₃=>?_) λ_ _ h'=>h'.elim)) λ_ _ h'=>h'.elim)
  cases ok with
  |false=>exact Yc ⟨rfl,h₃⟩
  |true =>
   exact Ya (Ya (Yz h₃ (λx s₄ h₄=>Ya (Yz h₄ (λ_ s₅ h₅=>Yc (Yc ⟨rfl,h₅⟩)) λ_ _ h'=>h'.elim)) λ_ _ h'=>h'.elim))
noncomputable def Zkh (X:Cx) (ifs:List Expr) (t:TT):Prop :=
 ∀(pins:List (Addr×Obj)) (s:Shared) (σ:St) (H:Hp) (Q:Bool->Hp->Prop),Inv X pins σ H s->t σ H Q ->
  wpAny (model X.prog X.w) X.A (forIn ifs true λc r=>if r=true then do let ok <-isTrue c X.env (eval c X.env);pure (ForInStep.yield ok)else pure (ForInStep.yield r)) (TP X pins σ Q) X.xe s
noncomputable def tYes:TT:=λ_ H Q=>Q true H
theorem ZaN:Zkh X [] tYes:=λpins s σ H Q I h=>wpAny_tests_nil ⟨H,I,h⟩
theorem Zez {c:Expr}{t:TT} (h:PT X c t):Zkh X [c] t:=λpins s σ H Q I hq=>wpAny_tests_one (h pins s σ H Q I hq)
noncomputable def Zmy (L:List Nat) (σ σ':St):Prop:=σ'.length=σ.length/\∀k,k∉L->σ'[k]?=σ[k]?
noncomputable def ZjG (g:TG) (L:List Nat):Prop:=∀v σ H (Q Q':St->Hp->Prop),(∀σ' H',Zmy L σ σ'->Q σ' H'->Q' σ' H')->g v σ H Q->g v σ H Q'
theorem ZG {i:Nat}:ZjG (Zg7 i) [i]:=λv σ H Q Q' hq h=>hq _ _ ⟨by simp,λk hk=>by
 rw[List.getElem?_set_ne]
 intro z;subst z;exact hk (by simp)⟩ h
noncomputable def ZnF (wi:TI) (g:TG) (tt:TT) (te:TE) (js:List (Option Nat)):TE:=fun σ H Q=>wi σ H λJ H1=>∃W:Nat->Nat->List V->Hp->Prop,(∃m,W 0 m [] H1)/\∀i m acc H,W i m acc H ->
 (J.stop i H/\acc.length<=sizeLine/\∀p,H p=none->Q (.ref p) (upd H p (.lst acc))) \/
 (J.go i H/\acc.length<sizeLine/\∀x H',J.yld i H x H'->g x (ZM js σ) H' fun σ2 H2=>tt σ2 H2 λb H3=>if b=true then te σ2 H3 λv H4=>∃m',m'<m/\W (i+1) m' (acc++[v]) H4 else ∃m',m'<m/\W (i+1) m' acc H3)
theorem Zki {C:Addr}{h:Heap}:Heap.SameBut C h h:=by
 first|exact Heap.SameBut.refl|exact⟨rfl,λ_ _=>rfl⟩
end
end L2
namespace L2
open PySem PySem.Spec PyProof.Rows PySem.W PySem.Builtin.ObjectAttr PySem.Builtin.Getset_descriptor
noncomputable def Zlf (x C:Addr) (h:Heap):Prop:=∃o,h.get? x=some o/\o.cls=.ref C
structure ExK (K:Frag) (C:Addr):Prop where
 dk:hasDictIn K C=true
 ga:findIn K (.ref C) "__getattribute__"=some (some (.builtin "BaseException.__getattribute__"))
 gt:findIn K (.ref C) "__getattr__"=some none
 cl:findIn K (.ref C) "__class__"=some (some (.builtin "object.__class__"))
 gg:specialIn K (.builtin "object.__class__") "__get__"=some (some (.builtin "getset_descriptor.__get__"))
 tk:takesIn K (.builtin "object.__class__")=some true
 mo:mroIn K C (.type "object")=some true
 mb:mroIn K C (.type "BaseException")=some true
section
variable {K:Frag}{x C:Addr}
theorem Zlf.type {M:Model}{h:Heap} (I:Zlf x C h):Looks M h (typeOf (.ref x)) (.ref C):=by
 obtain⟨o,e,c⟩:=I
 exact c▸(Looks.ld e).andThen .now
theorem ZpT {M:Model}{h:Heap} (X:K.In h) (Z:ExK K C):Looks M h (find (.ref x) (.ref C) "__class__") (.bind (.builtin "getset_descriptor.__get__") (.builtin "object.__class__")):=by
 have L3:=looks_takesIn (M:=M) X Z.tk
 exact(looks_findIn (M:=M) X Z.cl).andThen ((looks_specialIn X Z.gg).andThen
  ((show Looks M h (dataDescriptor? (some (.builtin "object.__class__")) (some (.builtin "getset_descriptor.__get__"))) (some (.builtin "getset_descriptor.__get__",.builtin "object.__class__"))from L3.andThen .now).andThen (Looks.tag .now)))
theorem Ztb {prog:Program}{w:World}{A:Around}{R:Result->Shared->Prop}{s:Shared}{tp:Value} (X:K.In s.heap) (I:Zlf x C s.heap) (Z:ExK K C) (hR:R (.ok (.ret (.ref C))) s) :
  codeAny (model prog w) A (.call (.builtin "getset_descriptor.__get__") ⟨[.builtin "object.__class__",.ref x,tp],[]⟩) R s:=by
 obtain⟨hp,gn,dw,tk,os⟩:=s
 have L0:=I.type (M:=model prog w)
 have L1:=looks_mroIn (M:=model prog w) X Z.mo
 refine codeAny_call_builtin KF.slot_gs.plain KF.entry_gs (KF.slot_gs.check _ _ _ _ _ _ _ _ KF.type_class (KF.args_gs _ _ _) ?_)
 unfold Builtin.«getset_descriptor.__get__» descrGet;rw[dga_obj];refine Ya (Yc ?_)
 unfold descrGetter descrCheckInstance descrNameAndClass isInstance;simp only[KF.owner_class]
 repeat lk
 refine⟨Code.quiet_builtin _ (by decide +kernel),codeAny_builtin KF.entry_class ?_⟩;unfold Builtin.«object.__class__» shownTypeOf
 repeat lk
 exact hR
theorem Zoz {prog:Program}{w:World}{A:Around}{E:Value->Shared->Prop}{s:Shared}{tk:Tok}{Q:Fin->Shared->Prop} (X:K.In s.heap) (I:Zlf x C s.heap) (Z:ExK K C) (hQ:Q (.done (.ret (.ref C))) s) :
  wpAny (model prog w) A (Builtin.«object.__getattribute__» ⟨[.ref x,.str "__class__" tk],[]⟩) Q E s:=by
 obtain⟨hp,gn,dw,t,os⟩:=s
 have L0:=I.type (M:=model prog w)
 have L2:=ZpT (M:=model prog w) (x:=x) X Z
 unfold Builtin.«object.__getattribute__»
 refine Ya (Yc (Ya (Yc (Ya (L0.at (Ya (L2.at ?_)))))))
 show wpAny _ _ (holding _ (call _ _) >>= ret) _ _ _
 exact Ya (YB (wpAny_call (Ztb (s:=⟨hp,gn,dw,t,os⟩) X I Z (Yc hQ))))
theorem ZoA {M:Model}{A:Around}{E:Value->Shared->Prop}{s:Shared}{nameV:Value}{Q:Unit->Shared->Prop} (X:K.In s.heap) (I:Zlf x C s.heap) (Z:ExK K C) (hq:Q () s) :
  wpAny M A (checkBuiltinCall "BaseException.__getattribute__" ⟨[.ref x,nameV],[]⟩) Q E s:=by
 obtain⟨hp,gn,dw,t,os⟩:=s
 have hk:builtinKind "BaseException.__getattribute__"=some .slot:=by decide +kernel
 have hsplit:splitId "BaseException.__getattribute__"=some ("BaseException","__getattribute__"):=by decide +kernel
 have L0:=I.type (M:=M)
 have L1:=looks_mroIn (M:=M) X Z.mb
 have ha:=F.args_bexc_ga (.ref x) nameV
 simp only[checkBuiltinCall,hk,hsplit]
 refine Ya ?_
 unfold isInstance
 refine Ya (L0.at (L1.at ?_))
 repeat (first|assumption|wp_step)
theorem ZoB {prog:Program}{w:World}{A:Around}{E:Value->Shared->Prop}{s:Shared}{Q:Option Value->Shared->Prop} (X:K.In s.heap) (I:Zlf x C s.heap) (Z:ExK K C) (hQ:Q (some (.ref C)) {s with toks:=s.toks+1}) :
  wpAny (model prog w) A (getAttr? (.ref x) "__class__") Q E s:=by
 obtain⟨hp,gn,dw,tk,os⟩:=s
 have L0:=I.type (M:=model prog w)
 have L1:=looks_findIn (M:=model prog w) X Z.ga
 have L3:=looks_findIn (M:=model prog w) X Z.gt
 have hb:=(F.attrBase_ValueError.ga).bind (.ref x)
 unfold getAttr? getAttrBy? getAttrBy;refine Ya (wpAny_mkText (Ya (wpAny_attempt (YB (Ya (L0.at (Ya (L1.at ?_))))))))
 show wpAny _ _ (getAttrByItsOwn _ _ _ _ _ _) _ _ _
 unfold getAttrByItsOwn hookBefore
 refine Ya (L3.at ?_)
 refine Ya (wpAny_attempt (YB ?_))
 unfold callGetattribute
 show wpAny _ _ (boundAndCalled _ _ _) _ _ _
 unfold boundAndCalled
 rw[hb]
 refine Ya (Yc ?_)
 refine wpAny_call ?_
 refine codeAny_call_builtin F.attrBase_ValueError.ga.plain F.entry_bexc_ga (ZoA (s:=⟨hp,gn,dw,tk+1,os⟩) X I Z (Zoz (s:=⟨hp,gn,dw,tk+1,os⟩) X I Z ?_))
 exact handed_on rfl (Yc hQ)
theorem Ztc (Z:ExK K C):KitX K (.ref x) (.ref C) (Zlf x C) where
 ty:=λ_ _ _ I=>I.type
 it:=λ_ _ X _=>by
  obtain⟨cdD,hcD,_⟩:=any_some Z.dk
  unfold clsIn at hcD
  split at hcD
  ·rename_i c' d' cd' sl' ho
   intro A' Q' E' s' k q
   unfold isType loadHead;exact Ya (wpAny_loadPart (k _ _ (X _ _ ho)) (Yc q))
  ·cases hcD
 ne:=λh tp dd its n sl X htp=>by
  obtain⟨cdD,hcD,_⟩:=any_some Z.dk
  refine Bool.eq_false_iff.mpr λq=>?_
  have e:C=tp:=Value.ref.inj (beq_iff_eq.mp q);subst e
  unfold clsIn at hcD
  split at hcD
  ·rename_i c' d' cd' sl' ho
   have z:=(X _ _ ho).symm.trans htp;cases z
  ·cases hcD
 ca:=λX I k=>ZoB X I Z k
end
noncomputable def Zhr (e C:Addr):HO:=.ext (Zlf e C)
noncomputable def tyIs (K:Frag) (H:Hp) (x:V) (c:Value) (b:Bool):Prop :=
 (∃t,TyOf K H x t/\kitOne K t c=some b)\/∃e C,x=.ref e/\H e=some (Zhr e C)/\ExK K C/\kitOne K (.ref C) c=some b
noncomputable def cOf:V->Option Value
 |.ref a=>some (.ref a)
 |.ty n=>some (.type n)
 |_=>none
section
variable {X:Cx}
noncomputable def rIsi (K:Frag):List V->Hp->VK->Prop:=λxs H Q=>∃x v c b,xs=[x,v]/\cOf v=some c/\tyIs K H x c b/\Q (.bl b) H
theorem ZpU:Zcf X (.builtin "isinstance") (rIsi X.K):=by
 intro pins s σ H xs us Q I r h
 obtain⟨x,v,c,b,rfl,hc,ht,q⟩:=h
 obtain⟨u,u2,rfl,ru,ru2⟩:=r.two
 have e2:u2=c:=by
  cases v with
  |ref a=>have:=(show u2=Value.ref a from ru2);cases hc;exact this
  |ty n=>have:=(show u2=Value.type n from ru2);cases hc;exact this
  |_=>cases hc
 subst e2
 have fin:∀tk,EP X pins σ Q (.bool b) {s with toks:=tk}:=λtk=>⟨.bl b,H,I.tok tk,rfl,q⟩
 rcases ht with⟨t,ty,e⟩|⟨e,C,rfl,hH,Z,e1⟩
 ·exact Zov I ru ty e fin
 ·cases(show u=Value.ref e from ru)
  obtain⟨p,_,_⟩:=(show ZI X.prog X.w H s.heap e (Zhr e C)from I.hok e _ hH)
  exact kia_one (Ztc Z) I.kIn p e1 (λz=>nomatch z) fin
end
end L2
namespace L2
open PySem PySem.Spec PyProof.Rows
theorem ZI.has {P:Program}{w:World}{H:Hp}{h:Heap}{a:Addr}{o:HO} (x:ZI P w H h a o):∃u,h.get? a=some u:=by
 induction o with
 |lst xs=>obtain⟨_,_,_,_,e⟩:=x;exact⟨_,e⟩
 |tup xs=>obtain⟨_,_,_,o,e,_⟩:=x;exact⟨_,e⟩
 |dK kvs=>obtain⟨_,_,_,_,o,_,_,e,_⟩:=x;exact⟨_,e⟩
 |dT kvs=>obtain⟨_,_,_,_,o,_,_,e,_⟩:=x;exact⟨_,e⟩
 |set S n=>obtain⟨o,_,_,_,e,_⟩:=x;exact⟨_,e⟩
 |ins C dx fs=>obtain⟨_,_,_,e,_⟩:=x;exact⟨_,e⟩
 |own y=>exact x
 |xd fs=>obtain⟨_,⟨_,_,_,e,_⟩,_⟩:=x;exact⟨_,e⟩
 |rng lo hi=>obtain⟨_,_,_,e⟩:=x;exact⟨_,e⟩
 |frz ob u _=>obtain⟨e,_⟩:=x;exact⟨_,e⟩
 |tbl ps=>obtain⟨_,e,_⟩:=x;exact⟨_,e⟩
 |met f y=>exact⟨_,x⟩
 |ext φ=>obtain⟨_,e,_⟩:=x;exact e
structure Fly (P:Program) (w:World) (outer:List Env) (H:Hp) (s:Shared) (H':Hp) (B:Heap) (e:Addr) (C a0:Value) (s':Shared):Prop where
 os:s'.os=s.os
 bare:AllBare s'.gens
 fly:Heap.FlyingW B outer e C a0 s'.heap
 hok:HOk P w H' B
 keep:∀b o,s.heap.get? b=some o->H b=none->b∉frs outer->B.get? b=some o
 slot:∀b o,s.heap.get? b=some o->b∈frs outer->(∀vs,o.data≠.fields vs)->∃sl,s'.heap.get? b=some {o with slots:=sl}
 free:∀b o,s.heap.get? b=some o->H b=none->H' b=none
 there:∀b o,s.heap.get? b=some o->b∉frs outer->∃o',B.get? b=some o'
 tups:∀b xs,H b=some (.tup xs)->H' b=some (.tup xs)
 frzs:∀b o u,H b=some (.frz o u)->H' b=some (.frz o u)
 tbls:∀b ps,H b=some (.tbl ps)->∃more,H' b=some (.tbl (ps++more))
noncomputable def CXE (P:Program) (w:World):CXT:=λouter H s E ev s'=>∃e C a0 H' B,ev=.ref e/\Fly P w outer H s H' B e C a0 s'/\E C none H'
theorem Zw {P:Program}{w:World}{X:Cx}:Passes (CXE P w) X E0:=λ_ _ _ _ _ _ _ ⟨_,_,_,_,_,_,_,z⟩=>z.elim
section
variable {P:Program}{w:World}{K:PySem.W.Frag}{mg:Str->Option Value}{base:Heap}{N:List Str}{qual:Str}{scope:Scope}{f:Addr}{cd:Value}{A:Around}{outer:List Env}{s:Shared}{H:Hp}{E:XK}
theorem Zkj {pins:List (Addr×Obj)}{σ:St}{H1:Hp}{s1:Shared}{h':Heap}{e:Addr}{C:Value}{vs:List Value} (I:Inv (ZfB (CXE P w) P w K mg base N qual scope f cd A outer s H E) pins σ H1 s1)
  (hx:Heap.MadeExcOf s1.heap h' e C vs) (hE:E C none H1):(ZfB (CXE P w) P w K mg base N qual scope f cd A outer s H E).xe (.ref e) {s1 with heap:=h'}:=by
 let env:=envOfC qual scope s.heap.objs.size f cd
 let B:=PySem.W.hideAll s1.heap (frs (env::outer))
 have hin:∀en∈(env::outer),∀b,en.frame=some b->b∈frs (env::outer):=λen he b hb=>List.mem_filterMap.mpr ⟨en,he,hb⟩
 have st:s1.heap.FunFrames base (env::outer):=I.stack
 have loc:∀b,b∈frs (env::outer)->b=s.heap.objs.size\/b∈frs outer:=λb hb=>Yg.mp (I.Zeq b hb)
 have old:∀b o,s.heap.get? b=some o->b∉frs outer->b∉frs (env::outer):=λb o q nb hb=>by
  rcases loc b hb with z|z
  ·exact absurd (Yh q) (by rw[z];exact YJ _)
  ·exact nb z
 have un:Un (frs outer) [] H H1 s.heap s1.heap:=I.base
 have hokB:HOk P w H1 B:=λa o q=>by
  have nf:∀b o,H1 b=some o->b∉frs (env::outer):=λb o z hb=>by
   have:=I.Zf2 b hb
   rw[this]at z;cases z
  refine(I.hok a o q).Zf1 (λb u hb z=>?_) (λ_ z=>z) (λ_ _ z=>z) λ_ _ _ z=>z
  rcases hb with hb|hb
  ·rw[hb]at z⊢;exact PySem.W.hideAll_get _ z (nf a o q)
  ·exact PySem.W.hideAll_get _ z (nf b _ hb)
 refine wpAny_leaves_madeW (base:=B) (h:=s1.heap) (env:=env) (outer:=outer) (L:=s.heap.objs.size) I.ok.frames rfl (λb o q=>PySem.W.of_hideAll _ q) (PySem.W.funFrames_hide st hin) hx λh2 t x1 x2 x3 x4=>?_
 refine⟨e,C,.ref t,H1,B,rfl,⟨I.os,I.bare,x1,hokB,λb o q n nb=>?_,λb o q hb hd=>?_,λb o q n=>un.free b o q n (by simp),λb o q nb=>?_,un.tups,un.frzs,un.tbls⟩,hE⟩
 ·exact PySem.W.hideAll_get _ (un.keep b o q n nb (by simp)) (old b o q nb)
 ·obtain⟨sl,z⟩:=un.slot b o q (I.ok.frf b hb) hb (by simp)
  obtain⟨sl2,z2⟩:=x4 b _ (hx.keeps _ _ z) hd
  exact⟨sl2,z2⟩
 ·obtain⟨o',z⟩:=un.there b o q (by simp)
  exact⟨o',PySem.W.hideAll_get _ z (old b o q nb)⟩
theorem ZdM:Passes (CXE P w) (ZfB (CXE P w) P w K mg base N qual scope f cd A outer s H E) E:=by
 intro pins σ H1 s1 ev s2 I h
 obtain⟨e,C,a0,H',B,rfl,F,hE⟩:=h
 let env:=envOfC qual scope s.heap.objs.size f cd
 have un:Un (frs outer) [] H H1 s.heap s1.heap:=I.base
 have loc:∀b,b∈frs (env::outer)->b=s.heap.objs.size\/b∈frs outer:=λb hb=>Yg.mp (I.Zeq b hb)
 have old:∀b o,s.heap.get? b=some o->b∉frs outer->b∉frs (env::outer):=λb o q nb hb=>by
  rcases loc b hb with z|z
  ·exact absurd (Yh q) (by rw[z];exact YJ _)
  ·exact nb z
 refine wpAny_leaves_onW (env:=env) (outer:=outer) (L:=s.heap.objs.size) I.ok.frames rfl F.fly λh2 x1 x2=>?_
 refine⟨e,C,a0,H',B,rfl,⟨F.os.trans I.os,F.bare,x1,F.hok,λb o q n nb=>F.keep b o (un.keep b o q n nb (by simp)) (un.free b o q n (by simp)) (old b o q nb),λb o q hb hd=>?_,λb o q n=>?_,λb o q nb=>?_,λb xs z=>F.tups b xs (un.tups b xs z),λb o u z=>F.frzs b o u (un.frzs b o u z),λb ps z=>?_⟩,hE⟩
 ·obtain⟨sl,z⟩:=un.slot b o q (I.ok.frf b hb) hb (by simp)
  obtain⟨en,he,hf⟩:=List.mem_filterMap.mp hb
  obtain⟨sl2,z2⟩:=F.slot b _ z (List.mem_filterMap.mpr ⟨en,.tail _ he,hf⟩) hd
  obtain⟨sl3,z3⟩:=x2 b _ z2 hd
  exact⟨sl3,z3⟩
 ·by_cases hb:b∈frs outer
  ·have h1:H1 b=none:=un.free b o q n (by simp)
   obtain⟨sl,z⟩:=un.slot b o q n hb (by simp)
   exact F.free b _ z h1
  ·exact F.free b o (un.keep b o q n hb (by simp)) (un.free b o q n (by simp))
 ·obtain⟨o',z⟩:=un.there b o q (by simp)
  exact F.there b o' z (old b o q nb)
 ·obtain⟨m1,z1⟩:=un.tbls b ps z
  obtain⟨m2,z2⟩:=F.tbls b _ z1
  exact⟨m1++m2,by rw[<-Array.append_assoc];exact z2⟩
end
abbrev bmV:List Value:=[.type "ValueError",.type "Exception",.type "BaseException",.type "object"]
abbrev newV:String:="ValueError.__new__"
theorem ZpV {K:PySem.W.Frag}{h:Heap}{mg:Str->Option Value}{x:Str}{C:Addr} (X:K.In h) (hm:mg x=some (.ref C)) (q:PySem.W.excIn K C bmV newV=true):OwnCls x C bmV newV mg h:=by
 refine⟨hm,?_⟩
 unfold PySem.W.excIn at q;split at q
 ·rename_i dd cd sl ho
  split at q
  ·rename_i C' bm k0 k1 k2 k3 n k5 hmm hs
   simp only[Bool.and_eq_true,beq_iff_eq,Bool.not_eq_true']at q;obtain⟨⟨⟨⟨⟨rfl,rfl⟩,hdel⟩,ht⟩,hok⟩,hni⟩:=q
   obtain⟨nm,bs,mro,ns,qn,hd,sn,sub,ab,col,del⟩:=cd;dsimp only at hmm hdel hok hni;subst hmm hdel
   have hsl:sl=#[k0,k1,k2,k3,some (.builtin newV),k5]:=by obtain⟨l⟩:=sl;simp only at hs;rw[hs]
   subst hsl;exact⟨bm,ns,nm,qn,bs,hd,sn,sub,ab,col,dd,k0,k1,k2,k3,k5,_,X _ _ ho,.of_isNs (PySem.W.isNs_of_in X hok),PySem.W.nsMap_none_of_in X hok hni,PySem.W.tail_of_in X ht⟩
  ·cases q
 ·cases q
section
variable {X:Cx}
noncomputable def Zmz (C:Addr) (E:XK) (t:TA):TS:=λ_ σ H=>t σ H λvs H1=>vs.length<=sizeLine/\E (.ref C) none H1
theorem Zf6 {x:Str}{C:Addr}{np cpos pos:Pos}{e0:Expr}{es:List Expr}{t:TA}{E:XK} (hc:X.calm=true) (hg:Gl X x) (hm:X.mg x=some (.ref C)) (q:PySem.W.excIn X.K C bmV newV=true) (ha:PA X (e0::es) t)
  (hx:∀pins σ H s h' e vs,Inv X pins σ H s->Heap.MadeExcOf s.heap h' e (.ref C) vs->E (.ref C) none H->X.xe (.ref e) {s with heap:=h'})
  (he:starEach (e0::es) X.env=(false,eval e0 X.env)::starEach es X.env:=by rfl) (hpl:(backTo cpos (starEach es X.env)).any (·.1)=false:=by rfl) (hd:(x==("__debug__":Str))=false:=by decide) :
  PS X (.Raise (some (.Call (.Name x np) (e0::es) [] cpos)) none pos) (Zmz C E t):=by
 intro pins s σ H D I h
 obtain⟨tl,Nn,nm,qn,bs,hdct,sn,sub,ab,col,dd,k0,k1,k2,k3,k5,mN,hC,hN,hni,T⟩:=(ZpV (x:=x) I.mod.kin hm q).obj
 refine wpAny_Raise_call_subT (C:=C) (nm:=nm) (q:=qn) (N:=Nn) (bs:=bs) (bm:=tl) (hdct:=hdct) (sn:=sn) (sub:=sub) (ab:=ab) (col:=col) (dd:=dd) (k0:=k0) (k1:=k1) (k2:=k2) (k3:=k3) (k5:=k5)
  PySem.F.excBase_ValueError (mN:=mN) (T.hasType PySem.F.excBase_ValueError.hasBase) (I.ok.hd hc) (by rw[he];show(false||(backTo cpos (starEach es X.env)).any (·.1))=false;rw[hpl];rfl) hni (Ze6 I hg hm ⟨rfl,?_⟩ hd)
 have h2:=ha cpos pins s σ H _ I h
 rw[he]at h2⊢
 exact Calls.evalArgs_plain (thn h2 λus s2 ⟨vs,H2,I2,r,z,q2⟩=>⟨rfl,by rw[<-r.length];exact z,I2.bk _ _ hC,hN.keeps I2.bk,T.keeps I2.bk,λh' e hm'=>hx pins σ H2 s2 h' e us I2 hm' q2⟩)
end
noncomputable def Cx.tries (X:Cx) (Ec:St->XK) (pl:List (Addr×Obj)):Cx:={X with pn:=X.pn++pl,xe:=λev s'=>∃σ H s,Inv X pl σ H s/\CXE X.prog X.w X.stack H s (Ec σ) ev s'}
noncomputable def Cx.Zfl (X:Cx) (A':Around):Cx:={X with A:=A',calm:=false,xe:=λ_ _=>False}
section
variable {X:Cx}
theorem Inv.tries {pins:List (Addr×Obj)}{σ:St}{H:Hp}{s:Shared} (I:Inv X pins σ H s) (Ec:St->XK):Inv (X.tries Ec pins) [] σ H s :=
 ⟨⟨I.ok.mod,I.ok.kind,I.ok.glob,I.ok.blt,I.ok.above,I.ok.inj,I.ok.has,I.ok.cab,I.ok.hd,I.ok.frames,I.ok.stk,I.ok.exf,I.ok.bs,I.ok.bsz,I.ok.noex,I.ok.exfs,I.ok.funs,I.ok.frf⟩,I.os,I.bare,I.base,I.loc,I.cell,I.free,I.freeC,
  λp hp=>I.pin p (by simpa[Cx.tries]using hp),I.hok,I.len⟩
theorem Inv.Zf7 {pins pl:List (Addr×Obj)}{σ:St}{H:Hp}{s:Shared}{Ec:St->XK} (I:Inv (X.tries Ec pl) pins σ H s):Inv X pl σ H s :=
 ⟨⟨I.ok.mod,I.ok.kind,I.ok.glob,I.ok.blt,I.ok.above,I.ok.inj,I.ok.has,I.ok.cab,I.ok.hd,I.ok.frames,I.ok.stk,I.ok.exf,I.ok.bs,I.ok.bsz,I.ok.noex,I.ok.exfs,I.ok.funs,I.ok.frf⟩,I.os,I.bare,I.base,I.loc,I.cell,I.free,I.freeC,
  λp hp=>I.pin p (YR _ (by simpa[Cx.tries]using hp)),I.hok,I.len⟩
theorem Inv.Zfl {pins:List (Addr×Obj)}{σ:St}{H:Hp}{s:Shared}{A':Around} (I:Inv X pins σ H s) (hA:A'.frames=X.A.frames):Inv (X.Zfl A') pins σ H s :=
 ⟨⟨I.ok.mod,I.ok.kind,I.ok.glob,I.ok.blt,I.ok.above,I.ok.inj,I.ok.has,I.ok.cab,(λz=>nomatch z),hA.trans I.ok.frames,I.ok.stk,I.ok.exf,I.ok.bs,I.ok.bsz,I.ok.noex,I.ok.exfs,I.ok.funs,I.ok.frf⟩,I.os,I.bare,I.base,I.loc,I.cell,I.free,I.freeC,I.pin,I.hok,I.len⟩
theorem Inv.Ztd {pins:List (Addr×Obj)}{σ:St}{H:Hp}{s:Shared}{A':Around} (ok:X.Ok) (I:Inv (X.Zfl A') pins σ H s):Inv X pins σ H s :=
 ⟨ok,I.os,I.bare,I.base,I.loc,I.cell,I.free,I.freeC,I.pin,I.hok,I.len⟩
noncomputable def Zkk (sp:Sp) (E:St->XK) (t:TA):TE:=fun σ H Q=>t σ H λvs H1=>sp vs H1 Q (E σ)
theorem ZpW {f:Addr}{fd:FuncData}{ps:List Str}{sp:Sp}{k:Nat}{x:Str}{p pos:Pos}{e:Expr}{es:List Expr}{t:TA}{E:St->XK} (F:FnOk X.prog X.w X.K X.mg X.base (CXE X.prog X.w) k f fd ps sp) (hr:Room k X.A) (hg:Gl X x) (hm:X.mg x=some (.ref f)) (hk:PySem.W.keepIn X.K (.ref f)=true) (hb:Binds X.K fd ps [])
  (hx:∀pins σ H s ev s',Inv X pins σ H s->CXE X.prog X.w X.stack H s (E σ) ev s'->X.xe ev s') (ha:PA X (e::es) t)
  (hdb:(x==("__debug__":Str))=false:=by decide) (he:starEach (e::es) X.env=(false,eval e X.env)::starEach es X.env:=by rfl) (hpl:(backTo pos (starEach es X.env)).any (·.1)=false:=by rfl) :
  PE X (.Call (.Name x p) (e::es) [] pos) (Zkk sp E t):=by
 intro pins s σ H Q I h
 refine wpAny_Call_Name_kw (Ze6 I hg hm ?_ hdb)
 refine PySem.W.callWith_K (h₀:=X.base) I.ok.mod.kin hk (thn (ha pos pins s σ H _ I h) λus s1 ⟨vs,H1,I1,r,q⟩=>⟨I1.kIn,?_⟩) he hpl
 have hl:us.length=ps.length:=by rw[<-r.length];exact F.len _ _ _ _ q
 have hbb:=hb s1 us I1.kIn (by simpa using hl)
 rw[List.append_nil]at hbb
 refine wpAny_call (codeAny_mono (F.run X.A X.stack s1 H1 ⟨us,[]⟩ us vs Q (E σ) hr I1.env0 hbb r q) λr s' hq=>?_)
 cases r with
 |error ev=>exact hx pins σ H1 s1 ev s' I1 hq
 |ok fl =>
  cases fl with
  |ret u=>exact I1.after hq
  |next=>exact False.elim hq
  |brk=>exact False.elim hq
  |cont=>exact False.elim hq
theorem Zlg {Ec:St->XK}{pl:List (Addr×Obj)}:∀pins σ H s ev s',Inv (X.tries Ec pl) pins σ H s->CXE X.prog X.w X.stack H s (Ec σ) ev s'->(X.tries Ec pl).xe ev s':=λpins σ H s ev s' I h=>⟨σ,H,s,I.Zf7,h⟩
theorem Zi2 {M:Model}{A:Around}{E:Value->Shared->Prop}{C D:Addr}{nm' q':Str}{N':Addr}{bs' bm':List Value}{hdct':Bool}{sn':List Str}{sub':List Value}{ab':Bool}{col':Option Bool}{dd':Option Addr}{k0' k1' k2' k3' k5':Option Value}{newId':String}
  {h:Heap}{g:Array GenState}{d:Drawn}{t:Nat}{os:OsState}{e:Addr}{oe:Obj}{Q:Bool->Shared->Prop}
  (LC:PySem.W.Looks M h (isSubtype (.ref C) (.ref D)) true) (hD:h.get? D=some (excClassObj nm' q' D N' bs' bm' hdct' sn' sub' ab' col' dd' k0' k1' k2' k3' k5' newId'))
  (he:h.get? e=some oe) (hcls:oe.cls=.ref C) (hbase:bm'.contains (.type "BaseException")=true)
  (hq:Q true ⟨h,g,d,t,os⟩):wpAny M A (excMatches (.ref e) (.ref D)) Q E ⟨h,g,d,t,os⟩:=by
 have hcB:(Value.ref D::bm').contains (.type "BaseException")=true:=by rw[List.contains_cons,hbase,Bool.or_true]
 have f:=tc_notTuple
 unfold excMatches
 repeat (first|(with_reducible refine wpAny_loadPart_at he ?_;rw[hcls])|with_reducible refine wpAny_loadPart_at hD ?_|(with_reducible refine wpAny_isSubtype_exc hD ?_;rw[hcB])|(with_reducible refine LC.at ?_)|wp_step)
 exact hq
theorem Fly.land {pins:List (Addr×Obj)}{σ:St}{H1 H':Hp}{s1 s2:Shared}{B h5:Heap}{e C:Addr}{a0:Value} (I:Inv X pins σ H1 s1) (F:Fly X.prog X.w X.stack H1 s1 H' B e (.ref C) a0 s2)
  (fl:Heap.FlyingW B X.stack e (.ref C) a0 h5) (sm:s2.heap.UpToSlots h5):H' e=none/\Inv X pins σ (upd H' e (Zhr e C)) {s2 with heap:=h5}:=by
 obtain⟨oe,vs,hoe,hoc,hod,_⟩:=fl.first
 have nB:B.get? e=none:=fl.2.1
 have trk:∀b o,H' b=some o->b≠e:=λb o q z=>by
  obtain⟨u,hu⟩:=(F.hok b o q).has
  rw[z,nB]at hu;cases hu
 have hHe:H' e=none:=by
  cases q:H' e with
  |none=>rfl
  |some o=>exact absurd rfl (trk e o q)
 have nfr:e∉frs X.stack:=λhb=>by
  obtain⟨_,o,ho,hd⟩:=fl.2.2.1.mem hb
  rw[hoe]at ho;cases ho
  exact hd _ hod
 have frd:∀b o,s1.heap.get? b=some o->b∈frs X.stack->∀vs,o.data≠.fields vs:=λb o q hb=>by
  obtain⟨_,o',ho,hd⟩:=I.stack.mem hb
  rw[q]at ho;cases ho
  exact hd
 refine⟨hHe,I.Znu (s':={s2 with heap:=h5}) (ch:=[]) F.os ⟨λb o q n nb _=>fl.1 b o (F.keep b o q n nb),λb o q n hb _=>?_,λb o q n _=>?_,λb o q _=>?_,λb xs q=>?_,λb o u q=>?_,λb ps q=>?_⟩ (λa o q=>?_) F.bare λb z=>absurd z (by simp)⟩
 ·obtain⟨sl,z⟩:=F.slot b o q hb (frd b o q hb)
  obtain⟨sl2,z2⟩:=sm b _ z (frd b o q hb)
  exact⟨sl2,z2⟩
 ·rw[Zf]
  ·exact F.free b o q n
  ·intro z
   by_cases hb:b∈frs X.stack
   ·exact nfr (z▸hb)
   ·have:=F.keep b o q n hb
    rw[z,nB]at this;cases this
 ·by_cases hb:b∈frs X.stack
  ·obtain⟨sl,z⟩:=F.slot b o q hb (frd b o q hb)
   obtain⟨sl2,z2⟩:=sm b _ z (frd b o q hb)
   exact⟨_,z2⟩
  ·obtain⟨o',z⟩:=F.there b o q hb
   exact⟨o',fl.1 b o' z⟩
 ·have z:=F.tups b xs q;rw[Zf (trk b _ z)];exact z
 ·have z:=F.frzs b o u q;rw[Zf (trk b _ z)];exact z
 ·obtain⟨m,z⟩:=F.tbls b ps q
  exact⟨m,by rw[Zf (trk b _ z)];exact z⟩
 ·by_cases ha:a=e
  ·subst ha
   rw[Zc]at q;cases q
   exact⟨⟨oe,hoe,hoc⟩,⟨oe,hoe⟩,λh1 h2 ⟨o,z1,z2⟩ k=>⟨o,k o z1,z2⟩⟩
  ·rw[Zf ha]at q
   exact(F.hok a o q).Zf1 (λb u _ z=>fl.1 b u z) (λb z=>by rw[Zf (trk b _ z)];exact z) (λb xs z=>by rw[Zf (trk b _ z)];exact z) λb o u z=>by rw[Zf (trk b _ z)];exact z
theorem Inv.forget {pins:List (Addr×Obj)}{σ:St}{H:Hp}{s:Shared}{h':Heap}{j:Nat}{n:Str}{m:Str->Option Value}{u:Option Value} (I:Inv X pins σ H s) (hj:X.N[j]?=some n) (hN:X.N.Nodup)
  (hl:∀(i:Nat) (x:Str) (v:V),X.N[i]?=some x->σ[i]?=some (some v)->Vis X.env.scope x->∃u,RelV v u/\Look X.env s.heap m x u)
  (hn:h'.Ns X.env.locals (λx=>if x=n then u else m x)) (hs:Heap.SameBut X.env.locals s.heap h'):Inv X pins (σ.set j none) H {s with heap:=h'}:=by
 have same:∀b o,b≠X.env.locals->s.heap.get? b=some o->h'.get? b=some o:=λb o hb e=>hs.extBut b o hb e
 have old:∀b o,X.s₀.heap.get? b=some o->b≠X.env.locals:=λb o e=>Yk (Yv (Yh e) I.ok.above)
 have trk:∀b o,H b=some o->b≠X.env.locals:=λb o e z=>by rw[z,I.free]at e;cases e
 refine⟨I.ok,I.os,I.bare,⟨λb o e n hb hx=>same _ _ (old b o e) (I.base.keep b o e n hb hx),λb o e n hb hx=>?_,I.base.free,λb o e hx=>?_,I.base.tups,I.base.frzs,I.base.tbls⟩,⟨_,hn,λi x v e1 e2 e3=>?_⟩,λx c e=>?_,I.free,I.freeC,λp hp=>?_,λa o e=>?_,by rw[List.length_set];exact I.len⟩
 ·obtain⟨sl,z⟩:=I.base.slot b o e n hb hx
  exact⟨sl,same _ _ (old b o e) z⟩
 ·obtain⟨o',z⟩:=I.base.there b o e hx
  exact⟨o',same _ _ (old b o e) z⟩
 ·have hij:i≠j:=λz=>by
   subst z
   rw[List.getElem?_set]at e2
   split at e2
   ·split at e2<;>cases e2
   ·rename_i hh;exact hh rfl
  rw[List.getElem?_set_ne (Ne.symm hij)]at e2
  obtain⟨w,r,l⟩:=hl i x v e1 e2 e3
  refine⟨w,r,?_⟩
  have hxn:x≠n:=λz=>by subst z;exact hij (ZhN hN e1 hj)
  rcases l with⟨l1,l2⟩|⟨l1,c,l2,l3⟩
  ·exact .inl ⟨l1,by show(if x=n then u else m x)=_;rw[Yb hxn];exact l2⟩
  ·obtain⟨oc,z1,z2⟩:=l3
   exact .inr ⟨l1,c,l2,oc,same _ _ (I.cne x c l2) z1,z2⟩
 ·obtain⟨v,oc,z1,z2⟩:=I.cell x c e
  exact⟨v,oc,same _ _ (I.cne x c e) z1,z2⟩
 ·obtain⟨z1,z2,z3,z4,z5⟩:=I.pin p hp
  exact⟨same _ _ z3 z1,z2,z3,z4,z5⟩
 ·refine(I.hok a o e).Zf1 (λb u hb z=>same b u ?_ z) (λ_ z=>z) (λ_ _ z=>z) λ_ _ _ z=>z
  rcases hb with hb|hb
  ·rw[hb];exact trk a o e
  ·exact trk b _ hb
noncomputable def tTry (K:PySem.W.Frag) (D:Addr) (tb:(St->XK)->TS) (ts:TS) (j:Nat):TS:=λDe σ H=>∃Ec:St->XK,tb Ec De σ H/\∀σ1 C H1,Ec σ1 C none H1->∃C',C=.ref C'/\PySem.W.mroIn K C' (.ref D)=some true /\
 ∀e,H1 e=none->ts {nx:=fun σ2 H2=>De.nx (σ2.set j none) H2,rt:=λ_ _=>False} (σ1.set j (some (.ref e))) (upd H1 e (Zhr e C'))
theorem ps_try {body:List Stmt}{n x:Str}{np hpos pos:Pos}{b0:Stmt}{Zfl:List Stmt}{D:Addr}{tb:(St->XK)->TS}{ts:TS}{j:Nat}
  (hst:X.stack=X.env::X.outer/\X.env.frame=some X.env.locals) (hN:X.N.Nodup) (hj:X.N[j]?=some n) (hn:X.env.scope.names.lookup n=some .local)
  (hg:Gl X x) (hm:X.mg x=some (.ref D)) (qD:PySem.W.excIn X.K D bmV newV=true) (hb:∀Ec pl,PSs (X.tries Ec pl) body (tb Ec)) (hs:∀A',PSs (X.Zfl A') (b0::Zfl) ts)
  (hd:(x==("__debug__":Str))=false:=by decide) :
  PS X (.Try body [.ExceptHandler (some (.Name x np)) (some n) (b0::Zfl) hpos] [] [] pos) (tTry X.K D tb ts j):=by
 intro pins s σ H De I h
 obtain⟨Ec,hb1,hx⟩:=h
 refine wpAny_Try_except (Yz (hb Ec pins [] s σ H De (I.tries Ec) hb1) (λfl s1 q=>?_) λev s1 q=>?_)
 ·cases fl with
  |next=>obtain⟨σ',H',I',q⟩:=q;exact wpAny_execs_nil ⟨σ',H',I'.Zf7,q⟩
  |brk=>obtain⟨σ',H',I',q⟩:=q;exact⟨σ',H',I'.Zf7,q⟩
  |cont=>obtain⟨σ',H',I',q⟩:=q;exact⟨σ',H',I'.Zf7,q⟩
  |ret u=>obtain⟨v,σ',H',I',r,q⟩:=q;exact⟨v,σ',H',I'.Zf7,r,q⟩
 ·obtain⟨σ1,H1,s0,I1,e,C,a0,H',B,rfl,F,hE⟩:=q
  obtain⟨C',rfl,hup,hx⟩:=hx σ1 C H' hE
  refine wpAny_looks_onW (by rw[I.ok.frames,hst.1]) hst.2 (hst.1▸F.fly) λh4 held sm4=>?_
  refine wpAny_landsW held λh5 fl5 sm5=>?_
  have fl5':Heap.FlyingW B X.stack e (.ref C') a0 h5:=by rw[hst.1];exact fl5
  obtain⟨hHe,I5⟩:=F.land I1 fl5' (sm4.trans sm5)
  refine wpAny_handleBy_cons (codeAny_handlers_test ?_) (by intro q;cases q)
  have I5s:=I5.Zfl (A':=X.A.mark (some (.ref e))) rfl
  refine Ze6 (X:=X.Zfl (X.A.mark (some (.ref e)))) I5s hg hm ?_ hd
  obtain⟨tl,Nn,nm,qn,bs,hdct,sn,sub,ab,col,dd,k0,k1,k2,k3,k5,mN,hC,_,_,T⟩:=(ZpV (x:=x) I5.kIn hm qD).obj
  obtain⟨oe,hoe,hoc⟩:=fl5.there
  refine Zi2 (PySem.W.looks_mroIn I5.kIn hup) hC hoe hoc (T.hasType PySem.F.excBase_ValueError.hasBase) ?_
  refine codeAny_handlers_suite_as ?_
  refine lands_againW fl5 λh6 fl6 sm6=>?_
  obtain⟨_,I6⟩:=F.land I1 (h5:=h6) (by rw[hst.1];exact fl6) ((sm4.trans sm5).trans sm6)
  refine Zer I6 hN hj (Or.inl hn) (v:=.ref e) rfl (λs7 I7=>?_) (.inr hn)
  refine Yz (hs _ pins s7 _ _ _ (I7.Zfl rfl) (hx e hHe)) (λfl s8 q=>?_) λ_ _ z=>z.elim
  cases fl with
  |brk=>obtain⟨_,_,_,q⟩:=q;exact q.elim
  |cont=>obtain⟨_,_,_,q⟩:=q;exact q.elim
  |ret u=>obtain⟨_,_,_,_,_,q⟩:=q;exact q.elim
  |next =>
   obtain⟨σ8,H8,I8,q8⟩:=q
   have I8':=I8.Ztd I.ok
   refine Ya (wpAny_bindName (Zer I8' hN hj (Or.inl hn) (v:=.non) (u:=.none) rfl (λs9 I9=>?_) (.inr hn)))
   unfold unbindBehindTheSuite
   refine wpAny_onRaise ?_
   obtain⟨m9,hn9,hl9⟩:=I9.loc
   have hlen:j < σ8.length:=by
    have e1:=I8'.len
    have e2:=(Ym.mp hj).1
    omega
   obtain⟨u9,r9,l9⟩:=hl9 j n .non hj (by rw[List.getElem?_set_self hlen]) (Or.inl hn)
   have hm9:m9 n=some u9:=by
    rcases l9 with⟨_,z⟩|⟨z,_⟩
    ·exact z
    ·rcases z with z|z
     ·rw[show X.env.kindOf n=some .local from hn]at z;cases z
     ·rw[show X.env.kindOf n=some .local from hn]at z;cases z
   refine wpAny_unbindName_local hn hn9 hm9 (by rw[I.ok.kind];rfl) λh' u hns hsb=>?_
   have J:=I9.forget hj hN hl9 hns hsb
   rw[List.set_set]at J
   exact⟨_,_,J,q8⟩
end
section
variable {P:Program}{w:World}{K:PySem.W.Frag}{mg:Str->Option Value}{base:Heap}
theorem Fun.okX {x qual:Str}{st:Stmt}{f:Addr}{fd:FuncData}{N ps:List Str}{k:Nat}{sp:Sp} (F:Fun K x qual st f fd) (S:FnScope N ps (defScope st)) (len:∀vs H Q E,sp vs H Q E->vs.length=ps.length)
  (hbody:∀(cdv:Value) (A:Around) (outer:List Env) (s:Shared) (H:Hp) (vs:List V) (Q:VK) (E:XK),Room k (A.deeper (envOfC qual (defScope st) s.heap.objs.size f cdv))->sp vs H Q E ->
   ∃t,PSs (ZfB (CXE P w) P w K mg base N qual (defScope st) f cdv A outer s H E) (defBody st) t/\t {nx:=λ_ H'=>Q .non H',rt:=Q} (start N vs) H):FnOk P w K mg base (CXE P w) (k+1) f fd ps sp:=by
 obtain⟨oc,od,kV,doc,pm,an,cdv,ct,osl,rfl,lk,hcd⟩:=F.ex
 exact ZpL lk hcd S len λA outer s H vs Q E hr hsp=>hbody cdv A outer s H vs Q E hr hsp
end
end L2
namespace L2
open PySem PySem.Spec PyProof.Rows PySem.W
theorem ZnG:∀{ns:List Int}{us:List Value},Vals (ns.map V.int) us->∃xs:Array (Int×Tok),us.toArray=intItems xs/\xs.toList.map (·.1)=ns
 |[],_,.nil=>⟨#[],by simp[intItems],rfl⟩
 |n::ns,_,.cons (b:=u) r t=>by
  obtain⟨tk,rfl⟩:=(show ∃t,u=Value.int n t from r)
  obtain⟨xs,e1,e2⟩:=ZnG t
  refine⟨#[(n,tk)]++xs,?_,by simp[e2]⟩
  have:∀(l:List Value),(Value.int n tk::l).toArray=#[Value.int n tk]++l.toArray:=λl=>by simp
  rw[this,e1]
  simp[intItems]
section
variable {X:Cx}
theorem ZcH:OpR X (binaryOp .Mult) (rI IntMulOk λi j=>.int (i*j)):=opI λ_ _ _ _ _ _ _ hc q=>mul_int q hc
noncomputable def rSum (K:Frag):List V->Hp->VK->Prop:=λxs H Q=>∃(p:Addr) (ns:List Int),xs=[.ref p]/\SqL K H p (ns.map V.int)/\Q (.int ns.sum) H
theorem ZpX (hc:X.calm=true):Zcf X (.builtin "sum") (rSum X.K):=by
 intro pins s σ H xs us Q I r h
 obtain⟨p,ns,rfl,hp,q⟩:=h
 obtain⟨u,rfl,ru⟩:=r.one
 cases(show u=Value.ref p from ru)
 obtain⟨its,rv,pl,hz⟩:=I.list hp
 obtain⟨ys,e1,e2⟩:=ZnG rv
 refine sum_intListG (xs:=ys) (I.ok.hd hc) (e1▸pl.isList) λh' tk t' k=>⟨.int ns.sum,H,I.kept k,⟨t',?_⟩,q⟩
 congr 1
 rw[preSum_eq,<-e2,List.take_of_length_le (by simp)]
noncomputable def ZmA:V->List V->Hp->VK->Prop:=λx vs H Q=>∃l xs y,x=.ref l/\vs=[y]/\H l=some (.lst xs)/\(∃b,y=.bl b)/\(∀z∈xs,∃b,z=.bl b)/\Q (.int (xs.countP λz=>decide (z=y))) H
theorem ZpY (a b:Bool):PySem.MeetsSeq.EqGives (.bool a) (.bool b) (a==b):=λprog w A E s Q h=>SeqAt.EqAt.bool_bool a b prog w E Q h
theorem ZpZ:MtM X "list.count" ZmA:=by
 intro pins s σ H x vs v us Q I rx rv h
 obtain⟨l,xs,y,rfl,rfl,hH,⟨b,rfl⟩,hall,q⟩:=h
 cases rx
 obtain⟨u,rfl,ru⟩:=rv.one
 cases(show u=Value.bool b from ru)
 obtain⟨z,its,n,r,hl,e⟩:=I.lstM hH
 have key:∀{xs:List V}{its:List Value},Vals xs its->(∀z∈xs,∃b,z=.bl b)->(∀y∈its,∃c,y=Value.bool c)/\its.countP (λy=>y==Value.bool b)=xs.countP λz=>decide (z=.bl b):=by
  intro xs its r
  induction r with
  |nil=>intro _;exact⟨λy hy=>by simp at hy,rfl⟩
  |@cons a u l1 l2 ra rt ih =>
   intro hb
   obtain⟨c,rfl⟩:=hb a (.head _)
   obtain rfl:u=Value.bool c:=ra
   obtain⟨i1,i2⟩:=ih λz hz=>hb z (.tail _ hz)
   refine⟨λy hy=>?_,?_⟩
   ·rcases Yg.mp hy with rfl|hy
    ·exact⟨c,rfl⟩
    ·exact i1 y hy
   ·rw[List.countP_cons,List.countP_cons,i2]
    congr 1
    cases c<;>cases b<;>simp
 obtain⟨k1,k2⟩:=key r hall
 refine call_meets F.slot_list_count ⟨_,e,rfl⟩ F.entry_list_count (F.args_list_count_2 _ _) (PySem.MeetsSeq.list_count l its.toArray n (.bool b) (λy=>y==Value.bool b) (λy hy=>?_)) ⟨e,?_⟩
 ·obtain⟨c,rfl⟩:=k1 y (by simpa using hy)
  have:=ZpY c b
  have e2:(Value.bool c==Value.bool b)=(c==b):=by cases c<;>cases b<;>rfl
  rw[e2];exact this
 ·refine⟨.int _,H,I.tok _,⟨_,rfl⟩,?_⟩
  simp only[List.countP_toArray,k2]
  exact q
noncomputable def PJ (X:Cx) (es:List (Sem Value)) (t:St->Hp->(Hp->Prop)->Prop):Prop :=
 ∀(out:Str) (pins:List (Addr×Obj)) (s:Shared) (σ:St) (H:Hp) (Q:Hp->Prop),out.length+2000*es.length<=100000->Inv X pins σ H s->t σ H Q ->
  wpAny (model X.prog X.w) X.A (joinParts out es) (λu s'=>∃y tk H',u=.str y tk/\Inv X pins σ H' s'/\Q H') X.xe s
theorem Zkl:PJ X [] (λ_ H Q=>Q H):=λout pins s σ H Q hl I h =>
 joinParts_nil ⟨out,_,H,rfl,I.tok _,h⟩ (by simp at hl;exact Yo hl (by decide))
theorem Zb0 {x:Str}{j:Nat}{pos:Pos}{es:List (Sem Value)}{t:St->Hp->(Hp->Prop)->Prop} (hx:x.length<=2000) (h:PJ X es t):PJ X (eval (.Constant (.str x) j pos) X.env::es) t:=by
 intro out pins s σ H Q hl I hq
 have hl':(out++x).length+2000*es.length<=100000:=by rw[PySem.strLen_append];simp at hl;omega
 refine joinParts_cons (Calls.Constant_str ⟨Yo (Yo (Nat.le_add_right _ _) hl') (by decide),?_⟩)
 exact h _ pins _ σ H Q hl' (I.tok _) hq
theorem ZoC {i:Int} (h0:0<=i) (h1:i<10 ^ 18):i.natAbs.log2<1920:=by
 by_cases hz:i.natAbs=0
 ·rw[hz];decide
 ·have h3:i.natAbs<2 ^ 60:=by
   have:(2:Nat) ^ 60=1152921504606846976:=by decide
   have h2:(10:Int) ^ 18=1000000000000000000:=by decide
   omega
  exact Yv ((Nat.log2_lt hz).mpr h3) (by decide)
theorem ZhU {e:Expr}{pos:Pos}{es:List (Sem Value)}{te:TE}{t:St->Hp->(Hp->Prop)->Prop} (he:PE X e te) (h:PJ X es t):PJ X (eval (.FormattedValue e (-1) none pos) X.env::es) (fun σ H Q=>te σ H λx H1=>∃i:Int,x=.int i/\(0<=i/\i<10 ^ 18)/\t σ H1 Q):=by
 intro out pins s σ H Q hl I hq
 refine joinParts_cons (FormattedValue_plain (thn (he pins s σ H _ I hq) λu s1 ⟨x,H1,I1,r1,i,ex,⟨h0,h1⟩,q⟩=>?_))
 subst ex
 obtain⟨tk,rfl⟩:=(show ∃t,u=Value.int i t from r1)
 refine wpAny_formatField_int (ZoC h0 h1) ?_
 have hx:(Str.ofString (toString i)).length<=18:=toString_length_le h0 (by decide) h1
 have hl':(out++Str.ofString (toString i)).length+2000*es.length<=100000:=by rw[PySem.strLen_append];simp at hl;omega
 refine⟨Yo (Yo (Nat.le_add_right _ _) hl') (by decide),?_⟩
 exact h _ pins _ σ H1 Q hl' (I1.tok _) q
theorem Zlh (env:Env):∀l:List Expr,(evalEach l env).length=l.length
 |[]=>rfl
 |e::r=>by
  have:evalEach (e::r) env=eval e env::evalEach r env:=rfl
  rw[this,Yw,Yw,Zlh env r]
theorem Zfa {e1 e2:Expr}{rest:List Expr}{pos:Pos}{t:St->Hp->(Hp->Prop)->Prop} (h:PJ X (eval e1 X.env::eval e2 X.env::evalEach rest X.env) t) (hn:rest.length<=20:=by decide) :
  PE X (.JoinedStr (e1::e2::rest) pos) (fun σ H Q=>t σ H λH1=>∀y,Q (.str y) H1):=by
 intro pins s σ H Q I hq
 have hle:=Zlh X.env rest
 refine JoinedStr_many (thn (h Str.empty pins s σ H _ (by simp only[Yw,hle];show 0+_<=_;omega) I hq) λu s' ⟨y,tk,H',e,I',q⟩=>?_)
 subst e
 exact⟨.str y,H',I',⟨tk,rfl⟩,q y⟩
end
noncomputable def clsAt (mg:Str->Option Value) (x:Str):Addr:=match mg x with
 |some (.ref C)=>C
 |_=>0
noncomputable def tokAt (mg:Str->Option Value) (x:Str):Tok:=match mg x with
 |some (.int _ t)=>t
 |_=>default
noncomputable def Callee (P:Program) (w:World) (K:Frag) (mg:Str->Option Value) (base:Heap) (x:Str) (k:Nat) (ps:List Str) (sp:Sp):Prop :=
 ∃f fd,mg x=some (.ref f)/\keepIn K (.ref f)=true/\Binds K fd ps []/\FnOk P w K mg base (CXE P w) k f fd ps sp
section
variable {X:Cx}
theorem ZcX {st:Stmt}{t:TS} (h:PS X.nox st t):PS X st t:=λpins s σ H D I hw =>
 Yz (h pins s σ H D (I.ZiX _) hw) (λ_ _ q=>q.Zes) λ_ _ z=>False.elim z
theorem Zi {x:Str}{k:Nat}{ps:List Str}{sp:Sp}{E:XK}{e:Expr}{es:List Expr}{t:TA}{p pos:Pos} (C:Callee X.prog X.w X.K X.mg X.base x k ps sp) (hr:Room k X.A) (hg:Gl X x) (hx:Passes (CXE X.prog X.w) X E)
  (ha:PA X (e::es) t) (hdb:(x==("__debug__":Str))=false:=by decide) (he:starEach (e::es) X.env=(false,eval e X.env)::starEach es X.env:=by rfl) (hpl:(backTo pos (starEach es X.env)).any (·.1)=false:=by rfl) :
  PE X (.Call (.Name x p) (e::es) [] pos) (Zlc sp [] E t):=by
 obtain⟨f,fd,hm,hk,hb,F⟩:=C
 exact ZnA F hr hg hm hk hb .nil hx ha hdb he hpl
theorem Zdw {x:Str}{k:Nat}{ps:List Str}{sp:Sp}{E:St->XK}{e:Expr}{es:List Expr}{t:TA}{p pos:Pos} (C:Callee X.prog X.w X.K X.mg X.base x k ps sp) (hr:Room k X.A) (hg:Gl X x)
  (hx:∀pins σ H s ev s',Inv X pins σ H s->CXE X.prog X.w X.stack H s (E σ) ev s'->X.xe ev s')
  (ha:PA X (e::es) t) (hdb:(x==("__debug__":Str))=false:=by decide) (he:starEach (e::es) X.env=(false,eval e X.env)::starEach es X.env:=by rfl) (hpl:(backTo pos (starEach es X.env)).any (·.1)=false:=by rfl) :
  PE X (.Call (.Name x p) (e::es) [] pos) (Zkk sp E t):=by
 obtain⟨f,fd,hm,hk,hb,F⟩:=C
 exact ZpW F hr hg hm hk hb hx ha hdb he hpl
theorem ZhF {P:Program}{w:World}{K:Frag}{mg:Str->Option Value}{base:Heap}{N:List Str}{qual:Str}{scope:Scope}{f:Addr}{cd:Value}{A:Around}{outer:List Env}{s0:Shared}{H0:Hp}{E:XK}{C:Addr} :
  ∀pins σ H s h' e vs,Inv (ZfB (CXE P w) P w K mg base N qual scope f cd A outer s0 H0 E) pins σ H s->Heap.MadeExcOf s.heap h' e (.ref C) vs->E (.ref C) none H->(ZfB (CXE P w) P w K mg base N qual scope f cd A outer s0 H0 E).xe (.ref e) {s with heap:=h'} :=
 λ_ _ _ _ _ _ _ I hx hE=>Zkj I hx hE
end
theorem Zp0:bootBuiltins "max"=some (.builtin "max"):=by decide +kernel
theorem Zp1:bootBuiltins "min"=some (.builtin "min"):=by decide +kernel
theorem bt_sum:bootBuiltins "sum"=some (.builtin "sum"):=by decide +kernel
theorem Zs:bootBuiltins "isinstance"=some (.builtin "isinstance"):=by decide +kernel
theorem ZnH:bootBuiltins "list"=some (.type "list"):=by decide +kernel
theorem ZhV:bootBuiltins "tuple"=some (.type "tuple"):=by decide +kernel
theorem Zi3:bootBuiltins "ValueError"=some (.type "ValueError"):=by decide +kernel
section
variable {X:Cx}{pins:List (Addr×Obj)}{σ:St}{H:Hp}{s:Shared}{h':Heap}
theorem Inv.ZnI {t':Nat}{fp:List Addr} (I:Inv X pins σ H s) (k:∀b o,b∉fp->s.heap.get? b=some o->h'.get? b=some o) (hf:∀b∈fp,FpOk X pins H b):Inv X pins σ H {s with heap:=h',toks:=t'}:=by
 have nit:∀b u,H b=some u->b∉fp:=λb u e z=>by rw[(hf b z).1]at e;cases e
 refine I.step (g':=s.gens) (d':=s.drawn) (ch:=fp) (λb hb=>?_) (λb o _ _ hc e _=>k b o hc e) (λb o _ _ hc e _=>⟨o.slots,k b o hc e⟩) (λ_ _ _ _ n=>n)
  (λb o hc e=>⟨o,k b o hc e⟩) (λ_ _ e=>e) (λ_ _ _ e=>e) (λb ps e=>⟨#[],by rw[e];simp⟩) (λm hm=>?_) (λb u e=>?_) I.bare
 ·obtain⟨_,f1,_,f3,f4,f5⟩:=hf b hb
  exact⟨f3,f1,f4,f5⟩
 ·obtain⟨o,es,ep,ho,r⟩:=hm
  exact⟨o,es,ep,k _ o (λz=>(hf _ z).2.1 rfl) ho,r⟩
 ·refine(I.hok b u e).Zf1 (λc v hc q=>k c v ?_ q) (λ_ q=>q) (λ_ _ q=>q) λ_ _ _ q=>q
  rcases hc with z|z
  ·rw[z];exact nit b u e
  ·exact nit c _ z
end
theorem cxK {CX:CXT}{P:Program}{w:World}{K:Frag}{mg:Str->Option Value}{base:Heap}{N:List Str}{qual:Str}{scope:Scope}{f:Addr}{cd:Value}{A:Around}{outer:List Env}{s:Shared}{H:Hp}{E:XK} :
  (ZfB CX P w K mg base N qual scope f cd A outer s H E).K=K:=rfl
theorem Ze.upd {H H1:Hp}{p:Addr}{o:HO} (h:H p=none) (e:Ze H H1):Ze H (upd H1 p o):=λb u z=>by
 rw[Zf (Zp z h)];exact e b u z
theorem Ze.Zch {H H1:Hp}{p:Addr}{o:HO} (e:Ze H H1) (h:H1 p=none):Ze H (L2.upd H1 p o):=e.upd (e.free h)
noncomputable def LoopR (J:It) (g:TG) (tb:TS) (D:Ends) (σ:St) (H1:Hp):Prop:=∃W:Nat->Nat->St->Hp->Prop,(∃m,W 0 m σ H1)/\∀i m σ H,W i m σ H ->
 (J.stop i H/\D.nx σ H)\/(J.go i H/\∃N:St->Hp->Prop,(∀σ' H',N σ' H'->∃m',m'<m/\W (i+1) m' σ' H')/\∀x H',J.yld i H x H'->g x σ H' fun σ2 H2=>tb {D with nx:=N,ct:=N,bk:=D.nx} σ2 H2)
theorem ZnJ {wi:TI}{g:TG}{tb:TS}{D:Ends}{σ:St}{H:Hp}:tFor wi g tb D σ H=wi σ H λJ H1=>LoopR J g tb D σ H1:=rfl
noncomputable def Zp2 (c:TT) (tb:TS) (D:Ends) (σ:St) (H:Hp):Prop:=Zmh c tb D σ H
theorem ZjH {c:TT}{tb:TS}{D:Ends}{σ:St}{H:Hp}:Zmh c tb D σ H=Zp2 c tb D σ H:=rfl
noncomputable def Zli (J:It) (g:TG) (tt:TT) (te:TE) (σ0:St) (Q:VK) (H1:Hp):Prop:=∃W:Nat->Nat->List V->Hp->Prop,(∃m,W 0 m [] H1)/\∀i m acc H,W i m acc H ->
 (J.stop i H/\acc.length<=sizeLine/\∀p,H p=none->Q (.ref p) (upd H p (.lst acc))) \/
 (J.go i H/\acc.length<sizeLine/\∀x H',J.yld i H x H'->g x σ0 H' fun σ2 H2=>tt σ2 H2 λb H3=>if b=true then te σ2 H3 λv H4=>∃m',m'<m/\W (i+1) m' (acc++[v]) H4 else ∃m',m'<m/\W (i+1) m' acc H3)
theorem Zlj {wi:TI}{g:TG}{tt:TT}{te:TE}{js:List (Option Nat)}{σ:St}{H:Hp}{Q:VK}:ZnF wi g tt te js σ H Q=wi σ H λJ H1=>Zli J g tt te (ZM js σ) Q H1:=rfl
noncomputable def CW (n:Nat) (vals:Nat->V) (H1:Hp) (i m:Nat) (acc:List V) (H:Hp):Prop:=m=n-i/\i<=n/\acc=(List.range i).map vals/\Ze H1 H
theorem CW.next {n:Nat}{vals:Nat->V}{H1 H:Hp}{i:Nat}{v:V} (hi:i<n) (hv:v=vals i) (s:Ze H1 H):∃m',m'<n-i/\CW n vals H1 (i+1) m' ((List.range i).map vals++[v]) H :=
 ⟨n-(i+1),by omega,rfl,hi,by rw[Y5,Y4,hv];rfl,s⟩
theorem comp_map {J:It}{n:Nat}{H1:Hp}{g:TG}{tt:TT}{te:TE}{σ0:St}{Q:VK} (vals:Nat->V) (hn:n<sizeLine) (hgo:∀i H,Ze H1 H->i<n->J.go i H) (hstop:∀H,Ze H1 H->J.stop n H)
  (hb:∀i x H H',i<n->Ze H1 H->J.yld i H x H'->g x σ0 H' fun σ2 H2=>tt σ2 H2 λb H3=>if b=true then te σ2 H3 λv H4=>∃m',m'<n-i/\CW n vals H1 (i+1) m' ((List.range i).map vals++[v]) H4 else ∃m',m'<n-i/\CW n vals H1 (i+1) m' ((List.range i).map vals) H3)
  (hk:∀l H',Ze H1 H'->H' l=none->Q (.ref l) (upd H' l (.lst ((List.range n).map vals)))) :
  Zli J g tt te σ0 Q H1:=by
 refine⟨CW n vals H1,⟨n,rfl,Yu _,rfl,Ze.refl _⟩,?_⟩
 rintro i m acc H ⟨rfl,hi,rfl,s⟩
 by_cases h:i<n
 ·refine .inr ⟨hgo i H s h,by simpa using Nat.lt_trans h hn,λx H' y=>hb i x H H' h s y⟩
 ·have e:i=n:=by omega
  subst e
  exact .inl ⟨hstop H s,by simpa using YU hn,λp hp=>hk p H s hp⟩
theorem ZgI {α:Type}{xs:List α}{i:Int}{j:Nat} (h:i=(j:Int)) (hj:j<xs.length):atI xs i=some xs[j]:=by
 subst h
 unfold atI ixN
 rw[Yd (by omega),Yd (by omega)]
 simp
theorem ZnK {α:Type}{xs:List α}{i:Int} (C:α->Prop) (h0:0<=i) (h1:i<xs.length) (h:∀x∈xs,C x):∃v,atI xs i=some v/\C v:=by
 obtain⟨j,rfl⟩:=Jc h0
 have hj:j<xs.length:=by omega
 exact⟨xs[j],ZgI rfl hj,h _ (YL hj)⟩
theorem mul_r {a b:Int} (h1:-(2 ^ 64)<b) (h2:b<2 ^ 64):IntMulOk a b:=IntMulOk.of_right (intBits_le_64 h1 h2)
theorem Zp3 {a b:Int} (h1:-(2 ^ 64)<a) (h2:a<2 ^ 64):IntMulOk a b:=IntMulOk.of_left (intBits_le_64 h1 h2)
theorem ZhG {a b:Int} (ha:Builtin.Int.intBits a<=2 ^ 20) (hb:Builtin.Int.intBits b<=2 ^ 20):IntMulOk a b:=IntMulOk.of_bits ha hb
theorem cp18:CPow 10 18:=by unfold CPow;decide
noncomputable def Exc (p:Addr) (H H':Hp):Prop:=∀b o,b≠p->H b=some o->H' b=some o
theorem Ze.exc {H H1 H2:Hp}{p:Addr} (s:Ze H H1) (h:H p=none) (e:Exc p H1 H2):Ze H H2:=λb o z=>e b o (Zp z h) (s b o z)
theorem Ze.Zfm {H H':Hp}{p:Addr} (s:Ze H H'):Exc p H H':=λb o _ z=>s b o z
theorem Exc.upd {H:Hp}{p:Addr}{o:HO}:Exc p H (L2.upd H p o):=λb u n z=>by rw[Zf n];exact z
theorem ZhW {K:Frag}{H:Hp}{p:Addr}{xs:List V} (h:H p=some (.lst xs)):tyV K "list" (.ref p) H:=.inl ⟨rfl,_,SqL.of h⟩
theorem ZnL {i j:Int}:Zmk (.int i) (.int j)=true:=rfl
theorem ZnM {i j:Bool}:Zmk (.bl i) (.bl j)=true:=rfl
theorem ZnN {i j:Str}:Zmk (.str i) (.str j)=true:=rfl
theorem ZnO:Zmk .non .non=true:=rfl
theorem ZnP {i:Int}:Zmk .non (.int i)=true:=rfl
theorem ZnQ {i:Int}:Zmk (.int i) .non=true:=rfl
section
variable {X:Cx}
noncomputable def rLen (K:Frag):List V->Hp->VK->Prop:=λxs H Q=>∃p ys,xs=[.ref p]/\(SqL K H p ys\/SqT K H p ys)/\Q (.int ys.length) H
theorem Zm {K:Frag} (hK:X.K=K):Zcf X (.builtin "len") (rLen K):=by subst hK;exact Zkd
noncomputable def rLof (K:Frag):List V->Hp->VK->Prop:=λxs H Q=>∃p ys,xs=[.ref p]/\(SqL K H p ys\/SqT K H p ys)/\∀l,H l=none->Q (.ref l) (upd H l (.lst ys))
theorem ZhX {K:Frag} (hK:X.K=K):Zcf X (.type "list") (rLof K):=by subst hK;exact Zke
noncomputable def rTof (K:Frag):List V->Hp->VK->Prop:=λxs H Q=>∃p ys,xs=[.ref p]/\((SqL K H p ys/\∀l,H l=none->Q (.ref l) (upd H l (.tup ys)))\/(SqT K H p ys/\Q (.ref p) H))
theorem ZjI {K:Frag} (hK:X.K=K):Zcf X (.type "tuple") (rTof K):=by subst hK;exact Zi1
theorem ZO {K:Frag} (hK:X.K=K):Zcf X (.builtin "isinstance") (rIsi K):=by subst hK;exact ZpU
end
theorem tyE {K:Frag}{H:Hp}{e C:Addr}{c:Value}{b:Bool} (he:H e=some (Zhr e C)) (Z:ExK K C) (k:kitOne K (.ref C) c=some b):tyIs K H (.ref e) c b:=.inr ⟨e,C,rfl,he,Z,k⟩
theorem ZhY {K:Frag}{t:Value}:kitOne K t t=some true:=by unfold kitOne;simp
theorem Zr {K:Frag}{A C:Addr}{b:Bool} (ne:A≠C) (h1:hasDictIn K C=true) (h2:typeIn K (.ref C)=some (.type "type")) (h3:subIn K (.ref A) (.ref C)=some b):kitOne K (.ref A) (.ref C)=some b:=by
 obtain⟨cd,hc,_⟩:=any_some h1
 unfold kitOne
 rw[Yb (by intro z;exact ne (Value.ref.inj (beq_iff_eq.mp z)))]
 unfold kitCls
 dsimp only
 rw[Yd (by rw[hc,h2];rfl)]
 exact h3
theorem Zp4 {K:Frag}{A:Addr}{b:Bool} (h:subIn K (.ref A) (.type "ValueError")=some b):kitOne K (.ref A) (.type "ValueError")=some b:=by
 unfold kitOne
 rw[Yb (by intro z;cases beq_iff_eq.mp z)]
 unfold kitCls
 dsimp only
 rw[Yd (by decide +kernel)]
 exact h
theorem ZnR {a:Addr}{x:Value}:(cOf (.ref a)=some x)=(.ref a=x):=by simp[cOf]
theorem Zp5 {n:String}{x:Value}:(cOf (.ty n)=some x)=(.type n=x):=by simp[cOf]
theorem Zp6 {α:Type}{f:Nat->Option α}{g:Nat->α}:∀{l:List Nat},(∀k∈l,f k=some (g k))->l.filterMap f=l.map g
 |[],_=>rfl
 |k::r,h=>by
  rw[List.filterMap_cons,h k (Ys ..),YC,Zp6 λj hj=>h j (Yq _ hj)]
theorem Zp7 (its:List Value):slicePick its.toArray none none (some (-1))=its.reverse.toArray:=by
 have e:=PyProof.Rows.picked_rev its.length
 unfold Builtin.Str.strSliceIndices at e
 have e2:sliceRange ((its.length:Int)-1) (-1) (-1)=(List.range its.length).map λk=>its.length-1-k:=by
  rw[<-e];rfl
 unfold slicePick
 congr 1
 show((sliceRange ((its.toArray.size:Int)-1) (-1) (-1)).filterMap (its.toArray[·]?))=_
 rw[Yr,e2,List.filterMap_map,Zp6 (g:=λk=>(its.reverse[k]?).getD .none)]
 ·refine List.ext_getElem (by simp) λj h1 h2=>?_
  have hj:j<its.length:=by simpa using h1
  simp[hj]
 ·intro k hk
  have hk':k<its.length:=Yy.mp hk
  have h3:its.length-1-k<its.length:=by omega
  simp[hk',h3]
section
variable {X:Cx}{e st:Expr}{te ts:TE}{pos p2:Pos}
noncomputable def tRev (K:Frag) (te ts:TE):TE:=fun σ H Q=>te σ H λx H1=>ts σ H1 λz H2=>∃a xs,x=.ref a/\z=.int (-1)/\SqL K H2 a xs/\∀p,H2 p=none->Q (.ref p) (upd H2 p (.lst xs.reverse))
theorem Vals.rev:∀{xs:List V}{us:List Value},Vals xs us->Vals xs.reverse us.reverse:=by
 intro xs us h
 induction h with
 |nil=>exact .nil
 |cons r _ ih=>rw[List.reverse_cons,List.reverse_cons];exact ih.append (.cons r .nil)
theorem ZoD {K:Frag} (hK:X.K=K) (he:PE X e te) (hs:PE X st ts):PE X (.Subscript e (.Slice none none (some st) p2) pos) (tRev K te ts):=by
 subst hK
 intro pins s σ H Q I h
 refine Subscript_ (thn (he pins s σ H _ I h) λv s1 ⟨x,H1,I1,r1,q1⟩=>?_)
 refine wpAny_Slice ?_
 rw[evalPart_none]
 refine Yc ?_
 refine Yc ?_
 rw[evalPart_some]
 refine thn (hs pins s1 σ H1 _ I1 q1) λvs s2 ⟨z,H2,I2,r2,a,xs,e1,e2,hx,q⟩=>?_
 subst e1 e2
 obtain⟨tk,rfl⟩:=r2
 cases r1
 have I4:Inv X pins σ H2 {s2 with heap:=s2.heap.push {cls:=.type "slice",data:=.fields #[.none,.none,.int (-1) tk]}}:=I2.kept (t':=s2.toks) λb ob q=>Yi _ q
 show wpAny (model X.prog X.w) X.A (subscriptTail e (.Slice none none (some st) p2) (.ref a) (.ref s2.heap.objs.size)) (EP X pins σ Q) X.xe {s2 with heap:=s2.heap.push {cls:=.type "slice",data:=.fields #[.none,.none,.int (-1) tk]}}
 obtain⟨its,r,ht,hz⟩:=I4.list hx
 have hlen:=r.length
 refine tail_any (ops:=[.ref a,.ref s2.heap.objs.size]) ht.isList.typeIs slot_list_getitem.lookup ?_ (by with_unfolding_all rfl)
 refine wpAny_getItem_list_slice (s:={s2 with heap:=s2.heap.push {cls:=.type "slice",data:=.fields #[.none,.none,.int (-1) tk]}}) ht.isList (Heap.IsSliceOf.new ..) .none .none (.int (-1) tk) (by simp) ?_ (by rw[Yr]<;>omega)
 rw[Zp7]
 refine⟨.ref _,_,I4.laid (t':=s2.toks) (o:=.lst xs.reverse) (λb ob q=>Yi _ q) (Yf _) ?_,rfl,q _ (I4.hok.fresh (Yf _))⟩
 exact⟨by rw[List.length_reverse];exact hz,_,0,r.rev,Yt _ rfl⟩
end
noncomputable def suf:List Int->List Int
 |[]=>[]
 |x::r=>(x+r.sum)::suf r
noncomputable def grow (l:List Int):List Int:=l.sum::suf l
noncomputable def stepW (m:Nat) (l:List Int):List Int:=(grow l).take (min m l.length+1)
noncomputable def ways (m:Nat):Nat->List Int
 |0=>[1]
 |t+1=>stepW m (ways m t)
noncomputable def Rows (H:Hp) (l:Addr) (rs:List (List Int)):Prop:=∃as:List Addr,H l=some (.lst (as.map V.ref))/\l∉as/\as.length=rs.length/\∀i (h1:i<as.length) (h2:i<rs.length),H as[i]=some (.lst (rs[i].map V.int))
inductive EqD (K:Frag) (H:Hp):Nat->V->V->Bool->Prop
 |flat {n:Nat}{x y:V} (fx:flatV x=true) (fy:flatV y=true):EqD K H n x y (eqV x y)
 |lst {n:Nat}{a b:Addr}{xs ys:List V} (e:Nat->Bool) (hx:SqL K H a xs) (hy:SqL K H b ys) (hl:xs.length=ys.length) (h:∀j x y,xs[j]?=some x->ys[j]?=some y->EqD K H n x y (e j)):EqD K H (n+1) (.ref a) (.ref b) ((List.range xs.length).all e)
 |len {n:Nat}{a b:Addr}{xs ys:List V} (hx:SqL K H a xs) (hy:SqL K H b ys) (hl:xs.length≠ys.length):EqD K H (n+1) (.ref a) (.ref b) false
 |tup {n:Nat}{a b:Addr}{xs ys:List V} (e:Nat->Bool) (hx:SqT K H a xs) (hy:SqT K H b ys) (h:∀j x y,xs[j]?=some x->ys[j]?=some y->EqD K H n x y (e j)):EqD K H (n+1) (.ref a) (.ref b) ((List.range (min xs.length ys.length)).all e&&xs.length==ys.length)
theorem Zlk {x:V} (h:flatV x=true):eqV x x=true:=by
 cases x<;>first
  |rfl
  |(simp[eqV];done)
  |cases h
section
variable {X:Cx}{pins:List (Addr×Obj)}{σ:St}{H:Hp}{s:Shared}
theorem Zll (I:Inv X pins σ H s) {n:Nat}{x y:V}{b:Bool} (h:EqD X.K H n x y b):x=y->b=true:=by
 induction h with
 |flat fx fy=>rintro rfl;exact Zlk fx
 |lst e hx hy hl h ih =>
  intro z
  cases z
  have:=I.ZbG hx hy
  subst this
  refine List.all_eq_true.mpr λj hj=>?_
  have hj':=Yy.mp hj
  exact ih j _ _ (Ye hj') (Ye hj') rfl
 |len hx hy hl =>
  intro z
  cases z
  have:=I.ZbG hx hy
  subst this
  exact absurd rfl hl
 |tup e hx hy h ih =>
  intro z
  cases z
  have:=I.Ze7 hx hy
  subst this
  rw[Nat.min_self]
  have:(List.range _).all e=true:=List.all_eq_true.mpr λj hj=>by
   have hj':=Yy.mp hj
   exact ih j _ _ (Ye hj') (Ye hj') rfl
  rw[this];simp
theorem Zp8 (I:Inv X pins σ H s) {n:Nat}{x y:V}{b:Bool} (h:EqD X.K H n x y b):∀(A:Around) (u v:Value),A.units+n<cLine->RelV x u->RelV y v->SeqAt.EqAt A s u v b:=by
 induction h with
 |flat fx fy=>intro A u v _ ru rv;exact ZpQ ru rv fx fy
 |@lst n a b xs ys e hx hy hl h ih =>
  intro A u v hu ru rv
  have hb:=Zll I (.lst e hx hy hl h)
  cases ru
  cases rv
  by_cases hab:a=b
  ·subst hab
   rw[hb rfl];exact SeqAt.EqAt.same _
  ·obtain⟨is1,r1,p1,_⟩:=I.list hx
   obtain⟨is2,r2,p2,_⟩:=I.list hy
   have e1:=r1.length
   have e2:=r2.length
   have key:=SeqAt.RcAt.lists (A:=A) (s:=s) (e:=e) p1.isList p2.isList (by simp;omega) (by omega) λj h1 h2=>by
    have h1':j<xs.length:=by simpa[e1]using h1
    have h2':j<ys.length:=by simpa[e2]using h2
    obtain⟨u,hu1,ru⟩:=r1.get (Ye h1')
    obtain⟨v,hv1,rv⟩:=r2.get (Ye h2')
    have eu:is1.toArray[j]=u:=by simpa using(Ym.mp hu1).2
    have ev:is2.toArray[j]=v:=by simpa using(Ym.mp hv1).2
    rw[eu,ev]
    exact ih j _ _ (Ye h1') (Ye h2') A.in1 u v (by show A.units+1+n<cLine;omega) ru rv
   have e3:is1.toArray.size=xs.length:=by simp[e1]
   rw[e3]at key
   exact SeqAt.EqAt.of_refs hab key
 |@len n a b xs ys hx hy hl =>
  intro A u v hu ru rv
  cases ru
  cases rv
  have hab:a≠b:=λz=>by subst z;exact hl (congrArg List.length (I.ZbG hx hy))
  obtain⟨is1,r1,p1,_⟩:=I.list hx
  obtain⟨is2,r2,p2,_⟩:=I.list hy
  have e1:=r1.length
  have e2:=r2.length
  exact SeqAt.EqAt.of_refs hab (SeqAt.RcAt.lists_lengths p1.isList p2.isList (by simp;omega) (by omega))
 |@tup n a b xs ys e hx hy h ih =>
  intro A u v hu ru rv
  have hb:=Zll I (.tup e hx hy h)
  cases ru
  cases rv
  by_cases hab:a=b
  ·subst hab
   rw[hb rfl];exact SeqAt.EqAt.same _
  ·obtain⟨is1,r1,p1,_⟩:=I.tuple hx
   obtain⟨is2,r2,p2,_⟩:=I.tuple hy
   have e1:=r1.length
   have e2:=r2.length
   have key:=SeqAt.RcAt.tuples (A:=A) (s:=s) (e:=e) p1 p2 (by omega) λj h1 h2=>by
    have h1':j<xs.length:=by simpa[e1]using h1
    have h2':j<ys.length:=by simpa[e2]using h2
    obtain⟨u,hu1,ru⟩:=r1.get (Ye h1')
    obtain⟨v,hv1,rv⟩:=r2.get (Ye h2')
    have eu:is1.toArray[j]=u:=by simpa using(Ym.mp hu1).2
    have ev:is2.toArray[j]=v:=by simpa using(Ym.mp hv1).2
    rw[eu,ev]
    exact ih j _ _ (Ye h1') (Ye h2') A.in1 u v (by show A.units+1+n<cLine;omega) ru rv
   have e3:is1.toArray.size=xs.length:=by simp[e1]
   have e4:is2.toArray.size=ys.length:=by simp[e2]
   rw[e3,e4]at key
   exact SeqAt.EqAt.of_refs hab key
end
noncomputable def rEqD (K:Frag) (neg:Bool):R2:=λx y H Q=>∃a b k,x=.ref a/\y=.ref b/\EqD K H 3 x y k/\Q (.bl (if neg then !k else k)) H
section
variable {X:Cx}
theorem op_neD {K:Frag} (hK:X.K=K) {k:Nat} (hr:Room k X.A):OpR X (compareOp .NotEq) (rEqD K true):=by
 subst hK
 have hu0:=hr.un
 intro pins s σ H x y v u Q I rx ry h
 obtain⟨a,b,k,rfl,rfl,h,q⟩:=h
 cases rx
 cases ry
 cases h with
 |flat fx fy=>cases fx
 |@lst n _ _ xs ys e hx hy hl h =>
  obtain⟨is1,r1,p1,_⟩:=I.list hx
  obtain⟨is2,r2,p2,_⟩:=I.list hy
  have e1:=r1.length
  have e2:=r2.length
  have e3:is1.toArray.size=xs.length:=by simp[e1]
  refine SeqAt.RcNeAt.lists (e:=e) p1.isList p2.isList (by simp;omega) (by omega) (λj h1 h2=>?_) _ _ _ _ ⟨.bl _,H,I,rfl,by rw[e3];exact q⟩
  have h1':j<xs.length:=by simpa[e1]using h1
  have h2':j<ys.length:=by simpa[e2]using h2
  obtain⟨u,hu1,ru⟩:=r1.get (Ye h1')
  obtain⟨v,hv1,rv⟩:=r2.get (Ye h2')
  have eu:is1.toArray[j]=u:=by simpa using(Ym.mp hu1).2
  have ev:is2.toArray[j]=v:=by simpa using(Ym.mp hv1).2
  rw[eu,ev]
  exact Zp8 I (h j _ _ (Ye h1') (Ye h2')) X.A.in1 u v (by show X.A.units+1+2<cLine;omega) ru rv
 |@len n _ _ xs ys hx hy hl =>
  obtain⟨is1,r1,p1,_⟩:=I.list hx
  obtain⟨is2,r2,p2,_⟩:=I.list hy
  have e1:=r1.length
  have e2:=r2.length
  exact SeqAt.RcNeAt.lists_lengths p1.isList p2.isList (by simp;omega) (by omega) _ _ _ _ ⟨.bl _,H,I,rfl,q⟩
 |@tup n _ _ xs ys e hx hy h =>
  obtain⟨is1,r1,p1,_⟩:=I.tuple hx
  obtain⟨is2,r2,p2,_⟩:=I.tuple hy
  have e1:=r1.length
  have e2:=r2.length
  have e3:is1.toArray.size=xs.length:=by simp[e1]
  have e4:is2.toArray.size=ys.length:=by simp[e2]
  refine SeqAt.RcNeAt.tuples (e:=e) p1 p2 (by omega) (λj h1 h2=>?_) _ _ _ _ ⟨.bl _,H,I,rfl,by rw[e3,e4];exact q⟩
  have h1':j<xs.length:=by simpa[e1]using h1
  have h2':j<ys.length:=by simpa[e2]using h2
  obtain⟨u,hu1,ru⟩:=r1.get (Ye h1')
  obtain⟨v,hv1,rv⟩:=r2.get (Ye h2')
  have eu:is1.toArray[j]=u:=by simpa using(Ym.mp hu1).2
  have ev:is2.toArray[j]=v:=by simpa using(Ym.mp hv1).2
  rw[eu,ev]
  exact Zp8 I (h j _ _ (Ye h1') (Ye h2')) X.A.in1 u v (by show X.A.units+1+2<cLine;omega) ru rv
end
noncomputable def IsI (v:V) (i:Int):Prop:=v=.int i
noncomputable def IsL (K:Frag) (H:Hp) {α:Type} (P:V->α->Prop) (v:V) (as:List α):Prop:=∃a xs,v=.ref a/\SqL K H a xs/\xs.length=as.length/\∀(j:Nat) (x:V) (y:α),xs[j]?=some x->as[j]?=some y->P x y
noncomputable def IsT (K:Frag) (H:Hp) {α:Type} (P:V->α->Prop) (v:V) (as:List α):Prop:=∃a xs,v=.ref a/\SqT K H a xs/\xs.length=as.length/\∀(j:Nat) (x:V) (y:α),xs[j]?=some x->as[j]?=some y->P x y
noncomputable def EqP (K:Frag) (H:Hp) (n:Nat) {α:Type} [DecidableEq α] (P:V->α->Prop):Prop:=∀x y a b,P x a->P y b->EqD K H n x y (decide (a=b))
theorem Zte {K:Frag}{H:Hp}{n:Nat}:EqP K H n IsI:=by
 rintro x y a b rfl rfl
 have:=EqD.flat (K:=K) (H:=H) (n:=n) (x:=.int a) (y:=.int b) rfl rfl
 have e:eqV (.int a) (.int b)=decide (a=b):=by simp[eqV,Bool.beq_eq_decide_eq]
 rw[<-e];exact this
theorem all_eq {α:Type} [DecidableEq α] (as bs:List α) (h:as.length=bs.length):(List.range as.length).all (λj=>decide (as[j]?=bs[j]?))=decide (as=bs):=by
 rw[Bool.eq_iff_iff,List.all_eq_true,decide_eq_true_iff]
 constructor
 ·intro q
  refine List.ext_getElem? λj=>?_
  by_cases hj:j<as.length
  ·simpa using q j (Yy.mpr hj)
  ·rw[List.getElem?_eq_none (by omega),List.getElem?_eq_none (by omega)]
 ·rintro rfl j _;simp
theorem Ztf {K:Frag}{H:Hp}{n:Nat}{α:Type} [DecidableEq α] {P:V->α->Prop} (h:EqP K H n P):EqP K H (n+1) (IsT K H P):=by
 rintro x y as bs ⟨a,xs,rfl,hx,lx,px⟩ ⟨b,ys,rfl,hy,ly,py⟩
 have key:=EqD.tup (K:=K) (H:=H) (n:=n) (λj=>decide (as[j]?=bs[j]?)) hx hy λj x y h1 h2=>by
  have j1:=(Ym.mp h1).1
  have j2:=(Ym.mp h2).1
  have ha:as[j]?=some as[j]:=Ye (by omega)
  have hb:bs[j]?=some bs[j]:=Ye (by omega)
  have:=h x y _ _ (px j _ _ h1 ha) (py j _ _ h2 hb)
  rw[ha,hb]
  simpa using this
 have e:((List.range (min xs.length ys.length)).all (λj=>decide (as[j]?=bs[j]?))&&xs.length==ys.length)=decide (as=bs):=by
  rw[lx,ly]
  by_cases hl:as.length=bs.length
  ·rw[<-hl,Nat.min_self,all_eq as bs hl];simp
  ·have e:decide (as=bs)=false:=by simp;intro z;exact hl (congrArg List.length z)
   rw[e]
   simp[hl]
 rw[e]at key
 exact key
theorem ZhZ {K:Frag}{H:Hp}{a:Addr}{ns:List Int} (h:SqT K H a (ns.map V.int)):IsT K H IsI (.ref a) ns:=⟨a,_,rfl,h,by simp,λj x y h1 h2=>by
 rw[YD,h2]at h1
 exact(YA h1).symm⟩
section
variable {X:Cx}
noncomputable def Zp9 (ta:TA):TE:=fun σ H Q=>ta σ H λvs H1=>∃j:Int,vs=[.int j]/\-(2 ^ 62)<=j/\j<2 ^ 62/\∀p,H1 p=none->Q (.ref p) (upd H1 p (.rng 0 j))
theorem ZoE {a:Expr}{ta:TA}{p pos:Pos} (hg:Gl X "range") (hm:X.mg "range"=none) (ha:PA X [a] ta) (hs:starEach [a] X.env=[(false,eval a X.env)]:=by rfl):PE X (.Call (.Name "range" p) [a] [] pos) (Zp9 ta):=by
 intro pins s σ H Q I h
 refine wpAny_Call_Name_kw (ZbR I hg hm boot_range (PyProof.Rows.callWith_type1 (thn (ha pos pins s σ H _ I h) λus s1 ⟨vs,H1,I1,r1,q1⟩=>?_) hs rfl))
 obtain⟨j,e,q1,q2,q⟩:=q1
 subst e
 obtain⟨u,rfl,ru⟩:=r1.one
 obtain⟨t,rfl⟩:=ru
 refine call_range_1 ⟨.ref s1.heap.objs.size,_,I1.laid (λb o e=>Yi _ e) (Yf _) ?_,rfl,q _ (I1.hok.fresh (Yf _))⟩
 exact⟨_,_,_,Yt _ rfl⟩
theorem Ztg {g:Nat->V}{P:Nat->Value->Prop} (hP:∀i v,P i v->RelV (g i) v):∀(n:Nat) (us:List Value),us.length=n->(∀(j:Nat) (v:Value),us[j]?=some v->P j v)->Vals ((List.range n).map g) us:=by
 intro n
 induction n with
 |zero =>
  intro us hl _
  cases us with
  |nil=>exact .nil
  |cons _ _=>cases hl
 |succ n ih =>
  intro us hl h
  have hne:us≠[]:=λz=>by rw[z]at hl;cases hl
  rw[Y5,Y4,<-List.dropLast_concat_getLast hne]
  have hl2:us.dropLast.length=n:=by rw[List.length_dropLast,hl];rfl
  refine(ih us.dropLast hl2 λj v hj=>?_).append (.cons ?_ .nil)
  ·have hj2:=(Ym.mp hj).1
   refine h j v ?_
   rw[List.getElem?_dropLast]at hj
   split at hj
   ·exact hj
   ·cases hj
  ·refine hP n _ (h n _ ?_)
   rw[List.getLast_eq_getElem]
   rw[Ym]
   refine⟨by omega,?_⟩
   congr 1
   omega
noncomputable def rAny (K:Frag):List V->Hp->VK->Prop:=λxs H Q=>∃(p:Addr) (bs:List Bool),xs=[.ref p]/\SqL K H p (bs.map V.bl)/\Q (.bl (bs.any id)) H
theorem any_ix (bs:List Bool):(List.range bs.length).any (λi=>bs.getD i false)=bs.any id:=by
 rw[Bool.eq_iff_iff,List.any_eq_true,List.any_eq_true]
 constructor
 ·rintro⟨j,hj,e⟩
  have hj':=Yy.mp hj
  exact⟨_,YL hj',by simpa[Yn,hj']using e⟩
 ·rintro⟨x,hx,e⟩
  obtain⟨j,hj,rfl⟩:=YY hx
  exact⟨j,Yy.mpr hj,by simpa[Yn,hj]using e⟩
theorem Zlm {prog:Program}{w:World}{A:Around}{bs:List Bool}{its:List Value} (r:Vals (bs.map V.bl) its):TruthOf prog w A (λi v=>its.toArray[i]?=some v) (λi=>bs.getD i false):=by
 intro i v s Q E hv hq
 have hv':its[i]?=some v:=by simpa using hv
 have hl:=r.length
 have hi:i<bs.length:=by
  have:=(Ym.mp hv').1
  rw[Yj]at hl;omega
 obtain⟨u,hu,ru⟩:=r.get (i:=i) (x:=V.bl bs[i]) (by rw[YD,Ye hi];rfl)
 rw[hv']at hu
 cases hu
 cases ru
 refine wpAny_truthy_bool ?_
 simpa[Yn,hi]using hq
theorem Zqa {K:Frag} (hK:X.K=K) (hc:X.calm=true):Zcf X (.builtin "any") (rAny K):=by
 subst hK
 intro pins s σ H xs us Q I r h
 obtain⟨p,bs,rfl,hp,q⟩:=h
 obtain⟨u,rfl,ru⟩:=r.one
 cases(show u=Value.ref p from ru)
 obtain⟨its,r',pl,hz⟩:=I.list hp
 have hl:=r'.length
 refine call_any_walk (wpAny_pyIter_list pl.isList ?_)
 have hne:p≠s.heap.objs.size:=by obtain⟨o,e,_⟩:=pl.isList;exact Yk (Yh e)
 refine⟨s.heap.objs.size,_,_,_,_,_,λi=>bs.getD i false,rfl,Walks.list (A:=X.A.in1) (show X.A.in1.handled=none from I.ok.hd hc) _ p hne its.toArray,⟨⟨_,Yt _ rfl,rfl,rfl⟩,pl.isList.push _⟩,Zlm r',λh' tk kp=>?_⟩
 have e1:its.toArray.size=bs.length:=by rw[Yr];rw[Yj]at hl;omega
 rw[e1,any_ix]
 exact⟨.bl _,H,I.kept (t':=tk) λb o e=>kp b o (by simp;exact Yk (Yh e)) (Yi _ e),rfl,q⟩
noncomputable def rIxQ (K:Frag):R2:=λx y H Q=>∃p xs i v,x=.ref p/\y=.int i/\(SqL K H p xs\/SqT K H p xs)/\atI xs i=some v/\Q v H
theorem Zhs {K:Frag} (hK:X.K=K):IxR X (rIxQ K):=by
 subst hK
 intro value slice pins s σ H x y v u Q I rx ry h hs
 refine(Zu.or ZaR) (value:=value) (slice:=slice) pins s σ H x y v u Q I rx ry ?_ hs
 obtain⟨p,xs,i,v,rfl,rfl,hq,ha,q⟩:=h
 rcases hq with hq|hq
 ·exact .inl ⟨p,xs,i,v,rfl,rfl,hq,ha,q⟩
 ·exact .inr ⟨p,xs,i,v,rfl,rfl,hq,ha,q⟩
theorem bt_any:bootBuiltins "any"=some (.builtin "any"):=by decide +kernel
end
noncomputable def nth (ns:List Int) (i:Nat):Int:=ns.getD i 0
theorem Zbe {ns:List Int}{i:Nat} (h:i<ns.length):atI (ns.map V.int) (i:Int)=some (V.int (nth ns i)):=by
 rw[ZgI rfl (by simpa using h)]
 simp[nth,Yn,h]
noncomputable def WI (N:Nat) (Pv:Nat->St->Hp->Prop) (m:Nat) (σ:St) (H:Hp):Prop:=∃i,m=N-i/\i<=N/\Pv i σ H
theorem WI.next {N:Nat}{Pv:Nat->St->Hp->Prop}{i:Nat}:∀σ' H',(i+1<=N/\Pv (i+1) σ' H')->∃m',m'<N-i/\WI N Pv m' σ' H':=fun σ' H' h=>⟨N-(i+1),by omega,i+1,rfl,h.1,h.2⟩
theorem ZnS {c:TT}{tb:TS}{D:Ends}{σ:St}{H:Hp} (N:Nat) (Pv:Nat->St->Hp->Prop) (h0:Pv 0 σ H)
  (hs:∀i σ H,i<=N->Pv i σ H->c σ H λb H1=>if b=true then ∃Nx:St->Hp->Prop,(∀σ' H',Nx σ' H'->∃m',m'<N-i/\WI N Pv m' σ' H')/\tb {D with nx:=Nx,ct:=Nx,bk:=D.nx} σ H1 else D.nx σ H1):Zp2 c tb D σ H:=by
 refine⟨WI N Pv,⟨N,0,rfl,Yu _,h0⟩,?_⟩
 rintro m σ H ⟨i,rfl,hi,p⟩
 exact hs i σ H hi p
theorem Ze.ZeA {K:Frag}{H H':Hp}{a:Addr}{xs:List V} (e:Ze H H') (h:SqT K H a xs):SqT K H' a xs:=by
 rcases h with(h|⟨o,h⟩)|h
 ·exact .inl (.inl (e _ _ h))
 ·exact .inl (.inr ⟨o,e _ _ h⟩)
 ·exact .inr h
theorem Ze.q {K:Frag}{H H':Hp}{a:Addr}{xs:List V} (e:Ze H H') (h:SqL K H a xs\/SqT K H a xs):SqL K H' a xs\/SqT K H' a xs:=h.imp e.seq e.ZeA
theorem Exc.trans {p:Addr}{H H1 H2:Hp} (a:Exc p H H1) (b:Exc p H1 H2):Exc p H H2:=λc o n z=>b c o n (a c o n z)
theorem Exc.same {p:Addr}{H H1 H2:Hp} (a:Exc p H H1) (s:Ze H1 H2):Exc p H H2:=a.trans s.Zfm
section
variable {X:Cx}{a b c d:Expr}{ta tb tc td:TE}{pos:Pos}
noncomputable def Zkm (r r' r'':R2) (ta tb tc td:TE):TE:=fun σ H Q=>ta σ H λx H1=>tb σ H1 λy H2=>r x y H2 λz H3=>∃k,z=.bl k /\
 (if k=true then tc σ H3 λy' H4=>r' y y' H4 λz' H5=>∃k',z'=.bl k'/\(if k'=true then td σ H5 λy'' H6=>r'' y' y'' H6 Q else Q (.bl false) H5)else Q (.bl false) H3)
theorem ZoF {op op' op'':CmpOp}{r r' r'':R2} (ho:OpR X (compareOp op) r) (ho':OpR X (compareOp op') r') (ho'':OpR X (compareOp op'') r'') (ha:PE X a ta) (hb:PE X b tb) (hc:PE X c tc) (hd:PE X d td)
  (hm:lastMarks [op,op',op''] [b,c,d]=false:=by with_unfolding_all rfl):PE X (.Compare a [op,op',op''] [b,c,d] pos) (Zkm r r' r'' ta tb tc td):=by
 intro pins s σ H Q I h
 refine Compare_chain (thn (ha pins s σ H _ I h) λv s1 ⟨x,H1,I1,r1,q1⟩=>chain_link (thn (hb pins s1 σ H1 _ I1 q1) λu s2 ⟨y,H2,I2,r2,q2⟩ =>
  thn (ho pins s2 σ H2 x y v u _ I2 r1 r2 q2) λd s3 ⟨z,H3,I3,r3,k,e,q3⟩=>?_)) hm
 subst e
 cases r3
 refine wpAny_truthy_bool ?_
 cases k with
 |false=>exact ite_ff ⟨.bl false,H3,I3,rfl,q3⟩
 |true =>
  refine ite_tt (chain_link (thn (hc pins s3 σ H3 _ I3 q3) λu' s4 ⟨y',H4,I4,r4,q4⟩=>thn (ho' pins s4 σ H4 y y' u u' _ I4 r2 r4 q4) λd' s5 ⟨z',H5,I5,r5,k',e',q5⟩=>?_))
  subst e'
  cases r5
  refine wpAny_truthy_bool ?_
  cases k' with
  |false=>exact ite_ff ⟨.bl false,H5,I5,rfl,q5⟩
  |true=>exact ite_tt (chain_last (thn (hd pins s5 σ H5 _ I5 q5) λw' s6 ⟨z'',H6,I6,r6,q6⟩=>ho'' pins s6 σ H6 y' z'' u' w' Q I6 r4 r6 q6))
noncomputable def iSeq (K:Frag) (tl:TE):TI:=fun σ H R=>tl σ H λx H1=>∃a,x=.ref a/\(((∃xs,SqL K H1 a xs)/\R (Itl K a) H1)\/((∃xs,SqT K H1 a xs)/\R (Itt K a) H1))
theorem pi_seq {tg l:Expr}{tl:TE}{K:Frag} (hK:X.K=K) (hl:PE X l tl):PI X tg l (iSeq K tl):=by
 subst hK
 intro pins s σ H R I h
 refine thn (hl pins s σ H _ I h) λv s1 ⟨x,H1,I1,r1,q1⟩=>?_
 obtain⟨a,e,q1⟩:=q1
 subst e
 cases r1
 rcases q1 with⟨⟨xs,hq⟩,q⟩|⟨⟨xs,hq⟩,q⟩
 ·obtain⟨its,rv,p,hz⟩:=I1.list hq
  refine wpAny_pyIter_list p.isList ?_
  refine⟨s1.heap.objs.size,[s1.heap.objs.size],_,_,H1,rfl,I1.kept (t':=s1.toks) λb o e=>Yi _ e,Zjy a _,⟨_,Yt _ rfl,rfl,rfl⟩,λb hb=>?_,q⟩
  have e:b=s1.heap.objs.size:=by simpa using hb
  subst e
  exact I1.Zmi (Yf _) (I1.hok.fresh (Yf _))
 ·obtain⟨its,rv,p,hz⟩:=I1.tuple hq
  refine wpAny_pyIter_tuple (show s1.heap.IsTuple a its.toArray from p) ?_
  refine⟨s1.heap.objs.size,[s1.heap.objs.size],_,_,H1,rfl,I1.kept (t':=s1.toks) λb o e=>Yi _ e,ZhR a _,⟨_,Yt _ rfl,rfl,rfl⟩,λb hb=>?_,q⟩
  have e:b=s1.heap.objs.size:=by simpa using hb
  subst e
  exact I1.Zmi (Yf _) (I1.hok.fresh (Yf _))
end
noncomputable def CA (n:Nat) (Pv:Nat->List V->Hp->Prop) (i m:Nat) (acc:List V) (H:Hp):Prop:=m=n-i/\i<=n/\acc.length<=i/\Pv i acc H
theorem CA.take {n:Nat}{Pv:Nat->List V->Hp->Prop}{i:Nat}{acc:List V}{v:V}{H:Hp} (hi:i<n) (hl:acc.length<=i) (h:Pv (i+1) (acc++[v]) H):∃m',m'<n-i/\CA n Pv (i+1) m' (acc++[v]) H:=⟨n-(i+1),by omega,rfl,hi,by simp;omega,h⟩
theorem CA.skip {n:Nat}{Pv:Nat->List V->Hp->Prop}{i:Nat}{acc:List V}{H:Hp} (hi:i<n) (hl:acc.length<=i) (h:Pv (i+1) acc H):∃m',m'<n-i/\CA n Pv (i+1) m' acc H:=⟨n-(i+1),by omega,rfl,hi,by omega,h⟩
theorem ZaO {J:It}{n:Nat}{H1:Hp}{g:TG}{tt:TT}{te:TE}{σ0:St}{Q:VK} (Pv:Nat->List V->Hp->Prop) (hn:n<sizeLine) (h0:Pv 0 [] H1) (hgo:∀i acc H,Pv i acc H->i<n->J.go i H) (hstop:∀acc H,Pv n acc H->J.stop n H)
  (hb:∀i x acc H H',i<n->acc.length<=i->Pv i acc H->J.yld i H x H'->g x σ0 H' fun σ2 H2=>tt σ2 H2 λb H3=>if b=true then te σ2 H3 λv H4=>∃m',m'<n-i/\CA n Pv (i+1) m' (acc++[v]) H4 else ∃m',m'<n-i/\CA n Pv (i+1) m' acc H3)
  (hk:∀l acc H',Pv n acc H'->acc.length<=n->H' l=none->Q (.ref l) (upd H' l (.lst acc))):Zli J g tt te σ0 Q H1:=by
 refine⟨CA n Pv,⟨n,rfl,Yu _,Yf _,h0⟩,?_⟩
 rintro i m acc H ⟨rfl,hi,hl,p⟩
 by_cases h:i<n
 ·exact .inr ⟨hgo i acc H p h,by omega,λx H' y=>hb i x acc H H' h hl p y⟩
 ·have e:i=n:=by omega
  subst e
  exact .inl ⟨hstop acc H p,by omega,λq hq=>hk q acc H p hl hq⟩
section
variable {X:Cx}
theorem Vals.takeN:∀{xs:List V}{us:List Value} (k:Nat),Vals xs us->Vals (xs.take k) (us.take k)
 |_,_,0,_=>by simp;exact .nil
 |_,_,_+1,.nil=>.nil
 |_,_,k+1,.cons r h=>.cons r (Vals.takeN k h)
end
noncomputable def Zal (H:Hp) (p:Addr):Prop:=∃x:Int,H p=some (.lst [.int x])/\0<=x
theorem Zal.ne {H:Hp}{p q:Addr} (P:Zal H p) (h:H q=none):q≠p:=by
 obtain⟨x,e,_⟩:=P
 exact(Zp e h).symm
theorem Zal.same {H H':Hp}{p:Addr} (P:Zal H p) (s:Ze H H'):Zal H' p:=by
 obtain⟨x,e,r⟩:=P
 exact⟨x,s _ _ e,r⟩
theorem Zal.upd {H:Hp}{p q:Addr}{o:HO} (P:Zal H p) (h:H q=none):Zal (L2.upd H q o) p:=P.same ((Ze.refl H).upd h)
theorem cp60:CPow 10 60:=by unfold CPow;decide
theorem qm1:IntMulOk (10 ^ Int.toNat 60) (10 ^ Int.toNat 60):=ZhG (by decide +kernel) (by decide +kernel)
theorem qm2:IntMulOk (10 ^ Int.toNat 60*10 ^ Int.toNat 60) (10 ^ Int.toNat 60):=ZhG (by decide +kernel) (by decide +kernel)
theorem qm3:IntMulOk (10 ^ Int.toNat 60*10 ^ Int.toNat 60*10 ^ Int.toNat 60) (10 ^ Int.toNat 60):=ZhG (by decide +kernel) (by decide +kernel)
theorem qm4:(0:Int)<10 ^ Int.toNat 60*10 ^ Int.toNat 60*10 ^ Int.toNat 60*10 ^ Int.toNat 60:=by decide +kernel
end L2
namespace L2
noncomputable def ZaK (f:Nat->Int) (p q:Nat):Prop:=q<p/\f q<=f p/\∀r,q<r->r<p->f p<f r
noncomputable def Zar (f:Nat->Int) (n p r:Nat):Prop:=p<r/\r<n/\f r<f p/\∀s,p<s->s<r->f p<=f s
noncomputable def ZeB (f:Nat->Int) (p:Nat):Prop:=∀q,q<p->f p<f q
noncomputable def ZcY (f:Nat->Int) (n p:Nat):Prop:=∀r,p<r->r<n->f p<=f r
noncomputable def ZN (f:Nat->Int) (n p:Nat) (e:Int):Prop :=
 (ZeB f p/\ZcY f n p/\e=-1)\/(∃q,ZaK f p q/\ZcY f n p/\e=q)\/(∃r,ZeB f p/\Zar f n p r/\e=r) \/
 ∃q r,ZaK f p q/\Zar f n p r/\e=if f q<=f r then (r:Int)else q
theorem Zln {P:Nat->Prop} [DecidablePred P] (i:Nat):∀d r,r+d=i->P r->∃t,r<=t/\t<=i/\P t/\∀s,t<s->s<=i->¬ P s:=by
 intro d
 induction d with
 |zero=>intro r e h;exact⟨r,Yf _,by omega,h,λs h1 h2=>by omega⟩
 |succ d ih =>
  intro r e h
  by_cases hx:∃t,r<t/\t<=i/\P t
  ·obtain⟨t,h1,h2,h3⟩:=hx
   -- step to r+1 by cases
   by_cases h4:P (r+1)
   ·obtain⟨u,u1,u2,u3,u4⟩:=ih (r+1) (by omega) h4
    exact⟨u,by omega,u2,u3,u4⟩
   ·-- go on from the next one
    have gen:∀k t,t+k=i->r<t->P t->∃u,r<=u/\u<=i/\P u/\∀s,u<s->s<=i->¬ P s:=by
     intro k
     induction k with
     |zero=>intro t e h1 h3;exact⟨t,by omega,by omega,h3,λs h1 h2=>by omega⟩
     |succ k ihk =>
      intro t e h1 h3
      by_cases hy:∃s,t<s/\s<=i/\P s
      ·-- the last one of the rest
       have key:∀m,m<=i->(∃s,t<s/\s<=m/\P s)->∃u,t<u/\u<=m/\P u/\∀s,u<s->s<=m->¬ P s:=by
        intro m
        induction m with
        |zero=>rintro _ ⟨s,h5,h6,_⟩;omega
        |succ m ihm =>
         rintro hm ⟨s,h5,h6,h7⟩
         by_cases hp:P (m+1)
         ·exact⟨m+1,by omega,Yf _,hp,λs h1 h2=>by omega⟩
         ·have hs:s<=m:=by
           rcases Nat.lt_or_ge m s with z|z
           ·have:s=m+1:=by omega
            rw[this]at h7;exact absurd h7 hp
           ·exact z
          obtain⟨u,u1,u2,u3,u4⟩:=ihm (by omega) ⟨s,h5,hs,h7⟩
          refine⟨u,u1,by omega,u3,λs' h1 h2=>?_⟩
          by_cases e:s'=m+1
          ·rw[e];exact hp
          ·exact u4 s' h1 (by omega)
       obtain⟨u,u1,u2,u3,u4⟩:=key i (Yf _) hy
       exact⟨u,by omega,u2,u3,u4⟩
      ·exact⟨t,by omega,by omega,h3,λs h1 h2 h5=>hy ⟨s,h1,h2,h5⟩⟩
    exact gen (i-t) t (by omega) h1 h3
  ·exact⟨r,Yf _,by omega,h,λs h1 h2 h3=>hx ⟨s,h1,h2,h3⟩⟩
theorem ZmB {P:Nat->Prop} [DecidablePred P] {n r:Nat} (hr:r<n) (h:P r):∃t,r<=t/\t<n/\P t/\∀s,t<s->s<n->¬ P s:=by
 obtain⟨t,h1,h2,h3,h4⟩:=Zln (P:=P) (n-1) (n-1-r) r (by omega) h
 exact⟨t,h1,by omega,h3,λs a b=>h4 s a (by omega)⟩
noncomputable def Zqb (f:Nat->Int) (i:Nat) (sp:List Nat):Prop:=sp.Pairwise (· < ·)/\∀q,q∈sp↔q<i/\∀r,q<r->r<i->f q<=f r
theorem ZnT (f:Nat->Int) (p:Nat):ZeB f p\/∃q,ZaK f p q:=by
 by_cases h:∃q,q<p/\f q<=f p
 ·obtain⟨q,h1,h2⟩:=h
  obtain⟨t,_,t2,t3,t4⟩:=ZmB (P:=λq=>f q<=f p) h1 h2
  exact .inr ⟨t,t2,t3,λr a b=>by have:=t4 r a b;omega⟩
 ·exact .inl λq hq=>by
   have:¬ (f q<=f p):=λz=>h ⟨q,hq,z⟩
   omega
theorem ZoG {f:Nat->Int}{i p q:Nat} (hp:p<i) (ho:∀r,p<r->r<i->f p<=f r) (h:ZaK f p q):(∀r,q<r->r<i->f q<=f r)/\∀s,q<s->s<p->¬ ∀r,s<r->r<i->f s<=f r:=by
 obtain⟨h1,h2,h3⟩:=h
 refine⟨λr a b=>?_,λs a b z=>?_⟩
 ·rcases Nat.lt_trichotomy r p with c|c|c
  ·have:=h3 r a c;omega
  ·rw[c];exact h2
  ·have:=ho r c b;omega
 ·have:=z p b hp
  have:=h3 s a b
  omega
theorem ZmC {f:Nat->Int}{i:Nat}{A B:List Nat} (hs:Zqb f i (A++B)) (hA:∀q∈A,f q<=f i) (hB:∀q∈B,f i<f q) :
  Zqb f (i+1) (A++[i])/\ZN f (i+1) i (match A.getLast? with|some q=>(q:Int)|none=>-1)/\∀p e,p<i->ZN f i p e->ZN f (i+1) p (if B.head?=some p then (i:Int)else e):=by
 obtain⟨hso,hm⟩:=hs
 have hAB:=List.pairwise_append.mp hso
 have noNx:ZcY f (i+1) i:=λr a b=>by omega
 refine⟨⟨?_,λq=>?_⟩,?_,λp e hp he=>?_⟩
 ·refine List.pairwise_append.mpr ⟨hAB.1,List.pairwise_singleton _ _,λa ha b hb=>?_⟩
  have:b=i:=by simpa using hb
  rw[this]
  exact((hm a).mp (YR _ ha)).1
 ·rw[YE,Y6]
  constructor
  ·rintro(h|h)
   ·obtain⟨h1,h2⟩:=(hm q).mp (YR _ h)
    refine⟨by omega,λr a b=>?_⟩
    by_cases e:r=i
    ·rw[e];exact hA q h
    ·exact h2 r a (by omega)
   ·subst h;exact⟨by omega,λr a b=>by omega⟩
  ·rintro⟨h1,h2⟩
   by_cases e:q=i
   ·exact .inr e
   ·have hq:q∈A++B:=(hm q).mpr ⟨by omega,λr a b=>h2 r a (by omega)⟩
    rcases YE.mp hq with h|h
    ·exact .inl h
    ·have:=hB q h
     have:=h2 i (by omega) (by omega)
     omega
 ·-- the elder of i
  rcases ZnT f i with h|⟨q,h⟩
  ·have hA0:A=[]:=by
    cases A with
    |nil=>rfl
    |cons a r =>
     have h1:=((hm a).mp (by simp)).1
     have:=hA a (by simp)
     have:=h a h1
     omega
   rw[hA0]
   exact .inl ⟨h,noNx,rfl⟩
  ·have ho:∀r,q<r->r<i->f q<=f r:=λr a b=>by have:=h.2.2 r a b;have:=h.2.1;omega
   have hqA:q∈A:=by
    rcases YE.mp ((hm q).mpr ⟨h.1,ho⟩)with z|z
    ·exact z
    ·have:=hB q z;have:=h.2.1;omega
   have hlast:A.getLast?=some q:=by
    have hne:A≠[]:=λz=>by rw[z]at hqA;cases hqA
    rw[List.getLast?_eq_some_getLast hne]
    congr 1
    have hl:A.getLast hne∈A:=List.getLast_mem hne
    -- q<=last,and last is not past q
    by_cases e:A.getLast hne=q
    ·exact e
    ·exfalso
     have hlt:q<A.getLast hne:=by
      have hd:=List.dropLast_concat_getLast hne
      have hq2:q∈A.dropLast:=by
       rw[<-hd]at hqA
       rcases YE.mp hqA with z|z
       ·exact z
       ·exact absurd (by simpa using z) (Ne.symm e)
      have hp2:=hAB.1
      rw[<-hd]at hp2
      exact(List.pairwise_append.mp hp2).2.2 q hq2 _ (by simp)
     have h1:=((hm (A.getLast hne)).mp (YR _ hl)).1
     have:=h.2.2 _ hlt h1
     have:=hA _ hl
     omega
   rw[hlast]
   exact .inr (.inl ⟨q,h,noNx,rfl⟩)
 ·-- the elder of an earlier place
  have nxt:∀r,Zar f i p r->Zar f (i+1) p r:=λr ⟨a,b,c,d⟩=>⟨a,by omega,c,d⟩
  by_cases hop:ZcY f i p
  ·have hmem:p∈A++B:=(hm p).mpr ⟨hp,hop⟩
   by_cases hlt:f i<f p
   ·have hnx:Zar f (i+1) p i:=⟨hp,by omega,hlt,λs a b=>hop s a b⟩
    have hpB:p∈B:=by
     rcases YE.mp hmem with z|z
     ·have:=hA p z;omega
     ·exact z
    obtain⟨b0,Br,rfl⟩:∃b0 Br,B=b0::Br:=by
     cases B with
     |nil=>cases hpB
     |cons b0 Br=>exact⟨b0,Br,rfl⟩
    have hhead:(b0::Br).head?=some b0:=rfl
    rw[hhead]
    rcases ZnT f p with hn|⟨q,hq⟩
    ·-- nothing ahead: p is the first of all
     have e0:b0=p:=by
      by_cases z:b0=p
      ·exact z
      ·exfalso
       have hpr:p∈Br:=by
        rcases Yg.mp hpB with y|y
        ·exact absurd y.symm z
        ·exact y
       have hlt2:b0<p:=(Jd.mp hAB.2.1).1 p hpr
       have:=((hm b0).mp (by simp)).2 p hlt2 hp
       have:=hn b0 hlt2
       omega
     rw[Yd (by rw[e0])]
     exact .inr (.inr (.inl ⟨i,hn,hnx,rfl⟩))
    ·obtain⟨hq1,hq2⟩:=ZoG hp hop hq
     have hqm:q∈A++b0::Br:=(hm q).mpr ⟨Nat.lt_trans hq.1 hp,hq1⟩
     by_cases hqi:f q<=f i
     ·-- q is kept: p is the first of B
      have e0:b0=p:=by
       by_cases z:b0=p
       ·exact z
       ·exfalso
        have hpr:p∈Br:=by
         rcases Yg.mp hpB with y|y
         ·exact absurd y.symm z
         ·exact y
        have hlt2:b0<p:=(Jd.mp hAB.2.1).1 p hpr
        have hb0:=(hm b0).mp (by simp)
        have hqA:q∈A:=by
         rcases YE.mp hqm with y|y
         ·exact y
         ·have:=hB q y;omega
        have hqb:q<b0:=hAB.2.2 q hqA b0 (by simp)
        exact hq2 b0 hqb hlt2 hb0.2
      rw[Yd (by rw[e0])]
      refine .inr (.inr (.inr ⟨q,i,hq,hnx,?_⟩))
      rw[Yd hqi]
     ·-- q goes,too: the elder stays
      have hqB:q∈b0::Br:=by
       rcases YE.mp hqm with y|y
       ·exact absurd (hA q y) hqi
       ·exact y
      have hne:b0≠p:=by
       intro z
       subst z
       rcases Yg.mp hqB with y|y
       ·have:=hq.1;omega
       ·have:=(Jd.mp hAB.2.1).1 q y
        have:=hq.1;omega
      rw[Yb (by intro z;exact hne (YA z))]
      have ee:e=q:=by
       rcases he with⟨h1,_,_⟩|⟨q',h1,_,h3⟩|⟨r,h1,_,_⟩|⟨q',r,_,h2,_⟩
       ·have:=h1 q hq.1;have:=hq.2.1;omega
       ·have:q'=q:=by
         rcases Nat.lt_trichotomy q' q with y|y|y
         ·have:=h1.2.2 q y hq.1;have:=hq.2.1;omega
         ·exact y
         ·have:=hq.2.2 q' y h1.1;have:=h1.2.1;omega
        rw[h3,this]
       ·have:=h1 q hq.1;have:=hq.2.1;omega
       ·have:=hop r h2.1 h2.2.1;have:=h2.2.2.1;omega
      refine .inr (.inr (.inr ⟨q,i,hq,hnx,?_⟩))
      rw[Yb hqi,ee]
   ·-- still open: not of B
    have hnn:ZcY f (i+1) p:=λr a b=>by
     by_cases z:r=i
     ·rw[z];omega
     ·exact hop r a (by omega)
    have hne:B.head?≠some p:=λz=>by
     have:p∈B:=List.mem_of_head? z
     have:=hB p this
     omega
    rw[Yb hne]
    rcases he with⟨h1,_,h3⟩|⟨q,h1,_,h3⟩|⟨r,_,h2,_⟩|⟨q,r,_,h2,_⟩
    ·exact .inl ⟨h1,hnn,h3⟩
    ·exact .inr (.inl ⟨q,h1,hnn,h3⟩)
    ·have:=hop r h2.1 h2.2.1;have:=h2.2.2.1;omega
    ·have:=hop r h2.1 h2.2.1;have:=h2.2.2.1;omega
  ·-- shut already
   have hne:B.head?≠some p:=λz=>hop ((hm p).mp (Yl _ (List.mem_of_head? z))).2
   rw[Yb hne]
   rcases he with⟨_,h2,_⟩|⟨q,_,h2,_⟩|⟨r,h1,h2,h3⟩|⟨q,r,h1,h2,h3⟩
   ·exact absurd h2 hop
   ·exact absurd h2 hop
   ·exact .inr (.inr (.inl ⟨r,h1,nxt r h2,h3⟩))
   ·exact .inr (.inr (.inr ⟨q,r,h1,nxt r h2,h3⟩))
end L2
namespace L2
open PySem PySem.Spec PyProof.Rows PySem.W
theorem Zh0 {α β:Type}{f g:α->Option β}:∀{l:List α},(∀x∈l,f x=g x)->l.filterMap f=l.filterMap g
 |[],_=>rfl
 |x::r,h=>by rw[List.filterMap_cons,List.filterMap_cons,h x (Ys ..),Zh0 λy hy=>h y (Yq _ hy)]
theorem ZoH (its:List Value) (k:Nat) (hk:k<=its.length) (start:Nat):(its.zipIdx start).filterMap (λxk=>if (decide (((start+k:Nat):Int)<=(xk.2:Int))&&decide ((xk.2:Int)<((start+its.length:Nat):Int))&&(((xk.2:Int)-((start+k:Nat):Int)) % 1==0))=true then none else some xk.1)=its.take k:=by
 induction its generalizing k start with
 |nil=>simp
 |cons x r ih =>
  rw[List.zipIdx_cons,List.filterMap_cons]
  cases k with
  |zero =>
   have h1:(decide (((start+0:Nat):Int)<=(start:Int))&&decide ((start:Int)<((start+(x::r).length:Nat):Int))&&(((start:Int)-((start+0:Nat):Int)) % 1==0))=true:=by
    simp;omega
   simp only[h1,if_true]
   have:=ih 0 (by omega) (start+1)
   rw[List.take_zero]at this⊢
   rw[<-this]
   refine Zh0 λxk hxk=>?_
   have hm:=List.mem_zipIdx hxk
   have e1:(decide (((start+0:Nat):Int)<=(xk.2:Int)))=(decide (((start+1+0:Nat):Int)<=(xk.2:Int))):=by
    rw[decide_eq_decide];omega
   have e2:((start+(x::r).length:Nat):Int)=((start+1+r.length:Nat):Int):=by simp;omega
   have e3:(((xk.2:Int)-((start+0:Nat):Int)) % 1==0)=(((xk.2:Int)-((start+1+0:Nat):Int)) % 1==0):=by simp[Int.emod_one]
   rw[e1,e2,e3]
  |succ k =>
   have h1:(decide (((start+(k+1):Nat):Int)<=(start:Int))&&decide ((start:Int)<((start+(x::r).length:Nat):Int))&&(((start:Int)-((start+(k+1):Nat):Int)) % 1==0))=false:=by
    have:decide (((start+(k+1):Nat):Int)<=(start:Int))=false:=YI (by omega)
    rw[this];rfl
   simp only[h1,Bool.false_eq_true,if_false]
   rw[List.take_succ_cons]
   congr 1
   have:=ih k (by simpa using hk) (start+1)
   rw[<-this]
   refine Zh0 λxk hxk=>?_
   have e1:((start+(k+1):Nat):Int)=((start+1+k:Nat):Int):=by omega
   have e2:((start+(x::r).length:Nat):Int)=((start+1+r.length:Nat):Int):=by simp;omega
   rw[e1,e2]
section
variable {X:Cx}{e st:Expr}{te ts:TE}{pos pos1 p2:Pos}
noncomputable def Zqc (te ts:TE):TS:=λD σ H=>te σ H λx H1=>ts σ H1 λz H2=>∃(l:Addr) (xs:List V) (k:Nat),x=.ref l/\z=.int k/\H2 l=some (.lst xs)/\k<=xs.length/\D.nx σ (upd H2 l (.lst (xs.take k)))
theorem ZmD (he:PE X e te) (hs:PE X st ts):PS X (.Delete [.Subscript e (.Slice (some st) none none p2) pos1] pos) (Zqc te ts):=by
 intro pins s σ H D I h
 refine wpAny_Delete (wpAny_deleteEach_cons ?_)
 show wpAny _ _ (eval e X.env >>= λov=>holding [ov] (eval (.Slice (some st) none none p2) X.env) >>= λiv=>(do standAt pos1;holding [ov,iv] (delItem ov iv);release [ov,iv] [])) _ _ _
 refine Ya (thn (he pins s σ H _ I h) λv s1 ⟨x,H1,I1,r1,q1⟩=>?_)
 refine Ya (YB ?_)
 refine wpAny_Slice ?_
 rw[evalPart_some]
 refine thn (hs pins s1 σ H1 _ I1 q1) λvs s2 ⟨z,H2,I2,r2,l,xs,k,e1,e2,hx,hk,q⟩=>?_
 subst e1 e2
 obtain⟨tk,rfl⟩:=r2
 cases r1
 rw[evalPart_none]
 refine Yc ?_
 refine Yc ?_
 have I4:Inv X pins σ H2 {s2 with heap:=s2.heap.push {cls:=.type "slice",data:=.fields #[.int k tk,.none,.none]}}:=I2.kept (t':=s2.toks) λb ob q=>Yi _ q
 have hsl:({s2 with heap:=s2.heap.push {cls:=.type "slice",data:=.fields #[.int k tk,.none,.none]}}:Shared).heap.get? s2.heap.objs.size=some {cls:=.type "slice",data:=.fields #[.int k tk,.none,.none]}:=Yt _ rfl
 obtain⟨z,its,n,r,hlen,hob⟩:=I4.lstM hx
 generalize ({s2 with heap:=s2.heap.push {cls:=.type "slice",data:=.fields #[.int k tk,.none,.none]}}:Shared)=s4 at I4 hsl hob⊢
 have hT:s4.TypeIs (.ref l) "list":=⟨_,hob,rfl⟩
 have hTs:s4.TypeIs (.ref s2.heap.objs.size) "slice":=⟨_,hsl,rfl⟩
 refine Ya (wpAny_standAt (Ya (YB ?_)))
 refine wpAny_delItem_slot hT (by decide) F.slot_list_delitem (wpAny_call_entry F.slot_list_delitem hT F.entry_list_delitem ?_ (F.args_list_delitem_2 _ _))
 show wpAny _ _ (Builtin.List.listSubscript? (.ref s2.heap.objs.size) >>= _) _ _ s4
 refine Ya ?_;unfold Builtin.List.listSubscript?;refine Ya (wpAny_specialOf hTs slice_no_index ?_)
 simp only[Option.isNone_none,if_true];refine Yc ?_
 show wpAny _ _ (typeOf (.ref s2.heap.objs.size) >>= _) _ _ s4
 refine Ya (wpAny_typeOf hTs ?_);rw[Yb (by decide),listSliceParts_eq]
 refine Ya (Ya (wpAny_field hsl rfl (x:=.none) rfl (Ya (wpAny_listPart (k:=none) .none ?_))));rw[Yb (show ¬ ((rawPart none==rawInt 0)=true)from YS)]
 refine Ya (wpAny_field hsl rfl (x:=.int k tk) rfl (Ya (wpAny_listPart (.int (k:Int) tk) ?_)))
 refine Ya (wpAny_field hsl rfl (x:=.none) rfl (Ya (wpAny_listPart (k:=none) .none (Yc ?_))))
 refine Ya (m:=Builtin.List.listItems (.ref l)) ?_;unfold Builtin.List.listItems
 refine Ya (wpAny_seqItems hob rfl (Yc ?_));refine Ya (wpAny_of_eq (sliceIndices_raw (some (k:Int)) none none its.toArray.size (by simp)) (Ya (wpAny_rule ?_)))
 have hb:sliceBounds (some (k:Int)) none none its.toArray.size=((k:Int),((its.length:Nat):Int),1):=by
  unfold sliceBounds
  simp
  omega
 rw[hb]
 have hf:∀f:Array Value->Array Value,(∀ys:Array Value,f ys=(ys.toList.zipIdx.filterMap λxk=>if (decide ((k:Int)<=(xk.2:Int))&&decide ((xk.2:Int)<((its.length:Nat):Int))&&(((xk.2:Int)-(k:Int)) % 1==0))=true then none else some xk.1).toArray)->f its.toArray=(its.take k).toArray:=λf h=>by
  rw[h]
  congr 1
  have:=ZoH its k (by omega) 0
  simpa using this
 refine Ya (m:=updateSeq l _) ?_
 refine wpAny_updateSeq (n:=n) hob rfl ?_ (by rw[Yr];omega) ?_
 ·refine Ya (wpAny_letGo (Yc ⟨_,rfl,?_⟩))
  refine wpAny_release (wpAny_deleteEach_nil ⟨σ,_,I4.lset hx hob (hf _ λys=>rfl) (r.takeN k) ?_,q⟩)
  rw[YZ];omega
 ·rw[Yr]
  refine Yo (List.length_filterMap_le _ _) ?_
  rw[List.length_zipIdx]
  show its.length<=sizeLine+1
  omega
end
theorem ZaK.unique {f:Nat->Int}{p q q':Nat} (h:ZaK f p q) (k:ZaK f p q'):q=q':=by
 rcases Nat.lt_trichotomy q q' with z|z|z
 ·have:=h.2.2 q' z k.1;have:=k.2.1;omega
 ·exact z
 ·have:=k.2.2 q z h.1;have:=h.2.1;omega
theorem Zar.unique {f:Nat->Int}{n p r r':Nat} (h:Zar f n p r) (k:Zar f n p r'):r=r':=by
 rcases Nat.lt_trichotomy r r' with z|z|z
 ·have:=k.2.2.2 r h.1 z;have:=h.2.2.1;omega
 ·exact z
 ·have:=h.2.2.2 r' k.1 z;have:=k.2.2.1;omega
theorem ZaK.no {f:Nat->Int}{p q:Nat} (h:ZaK f p q) (k:ZeB f p):False:=by have:=k q h.1;have:=h.2.1;omega
theorem Zar.no {f:Nat->Int}{n p r:Nat} (h:Zar f n p r) (k:ZcY f n p):False:=by have:=k r h.1 h.2.1;have:=h.2.2.1;omega
noncomputable def Zx (ns:List Int) (es:List Int):Prop:=es.length=ns.length/\∀p,p<ns.length->ZN (nth ns) ns.length p (es.getD p 0)
end L2
namespace L2
noncomputable def Over (f:Nat->Int) (o p:Nat):Prop:=(o<p/\∀r,o<r->r<=p->f o<=f r)\/(p<o/\∀r,p<=r->r<o->f o<f r)
theorem Over.irrefl {f:Nat->Int}{p:Nat}:¬ Over f p p:=by rintro(⟨h,_⟩|⟨h,_⟩)<;>omega
theorem Over.trans {f:Nat->Int}{o e p:Nat} (h:Over f o e) (k:Over f e p):Over f o p:=by
 rcases h with⟨h1,h2⟩|⟨h1,h2⟩<;>rcases k with⟨k1,k2⟩|⟨k1,k2⟩
 ·refine .inl ⟨by omega,λr r1 r2=>?_⟩
  by_cases z:r<=e
  ·exact h2 r r1 z
  ·have:=k2 r (by omega) r2;have:=h2 e h1 (Yf _);omega
 ·have he:=h2 e h1 (Yf _)
  rcases Nat.lt_trichotomy o p with z|z|z
  ·exact .inl ⟨z,λr r1 r2=>h2 r r1 (by omega)⟩
  ·have:=k2 p (Yf _) k1;subst z;omega
  ·exact .inr ⟨z,λr r1 r2=>by have:=k2 r r1 (by omega);omega⟩
 ·have he:=h2 e (Yf _) h1
  rcases Nat.lt_trichotomy o p with z|z|z
  ·exact .inl ⟨z,λr r1 r2=>by have:=k2 r (by omega) r2;omega⟩
  ·have:=k2 p k1 (Yf _);subst z;omega
  ·exact .inr ⟨z,λr r1 r2=>h2 r (by omega) r2⟩
 ·refine .inr ⟨by omega,λr r1 r2=>?_⟩
  by_cases z:r<e
  ·have:=k2 r r1 z;have:=h2 e (Yf _) h1;omega
  ·exact h2 r (by omega) r2
theorem Zci {f:Nat->Int}{n p:Nat}{e:Int} (hp:p<n) (h:ZN f n p e):e=-1\/∃q:Nat,e=q/\q<n/\Over f q p:=by
 have pv:∀q,ZaK f p q->Over f q p:=λq h=>.inl ⟨h.1,λr r1 r2=>by
  by_cases z:r=p
  ·rw[z];exact h.2.1
  ·have:=h.2.2 r r1 (by omega);have:=h.2.1;omega⟩
 have nx:∀q,Zar f n p q->Over f q p:=λq h=>.inr ⟨h.1,λr r1 r2=>by
  by_cases z:r=p
  ·rw[z];exact h.2.2.1
  ·have:=h.2.2.2 r (by omega) r2;have:=h.2.2.1;omega⟩
 rcases h with⟨_,_,h⟩|⟨q,h1,_,h⟩|⟨r,_,h1,h⟩|⟨q,r,h1,h2,h⟩
 ·exact .inl h
 ·exact .inr ⟨q,h,by have:=h1.1;omega,pv q h1⟩
 ·exact .inr ⟨r,h,h1.2.1,nx r h1⟩
 ·by_cases z:f q<=f r
  ·rw[Yd z]at h;exact .inr ⟨r,h,h2.2.1,nx r h2⟩
  ·rw[Yb z]at h;exact .inr ⟨q,h,by have:=h1.1;omega,pv q h1⟩
theorem ZjJ {f:Nat->Int}{n p o:Nat}{e:Int} (hp:p<n) (ho:o<n) (h:ZN f n p e) (hO:Over f o p):∃q:Nat,e=q/\q<n/\(o=q\/Over f o q):=by
 rcases hO with⟨o1,o2⟩|⟨o1,o2⟩
 ·have op:=o2 p o1 (Yf _)
  have pv:∀q,ZaK f p q->o=q\/(o<q/\Over f o q/\f o<=f q):=λq h=>by
   rcases Nat.lt_trichotomy o q with z|z|z
   ·have:=h.1;exact .inr ⟨z,.inl ⟨z,λr r1 r2=>o2 r r1 (by omega)⟩,o2 q z (by omega)⟩
   ·exact .inl z
   ·have:=h.2.2 o z o1;omega
  rcases h with⟨h1,_,h⟩|⟨q,h1,_,h⟩|⟨r,h1,_,h⟩|⟨q,r,h1,h2,h⟩
  ·have:=h1 o o1;omega
  ·refine⟨q,h,by have:=h1.1;omega,?_⟩
   rcases pv q h1 with z|z
   ·exact .inl z
   ·exact .inr z.2.1
  ·have:=h1 o o1;omega
  ·by_cases z:f q<=f r
   ·rw[Yd z]at h
    refine⟨r,h,h2.2.1,.inr (.inl ⟨by have:=h2.1;omega,λs s1 s2=>?_⟩)⟩
    by_cases sp:s<=p
    ·exact o2 s s1 sp
    ·by_cases sr:s=r
     ·rw[sr]
      rcases pv q h1 with y|y
      ·rw[y];exact z
      ·have:=y.2.2;omega
     ·have:=h2.2.2.2 s (by omega) (by omega);omega
   ·rw[Yb z]at h
    refine⟨q,h,by have:=h1.1;omega,?_⟩
    rcases pv q h1 with z|z
    ·exact .inl z
    ·exact .inr z.2.1
 ·have op:=o2 p (Yf _) o1
  have nx:∀r,Zar f n p r->o=r\/(r<o/\Over f o r/\f o<f r):=λr h=>by
   rcases Nat.lt_trichotomy o r with z|z|z
   ·have:=h.2.2.2 o o1 z;omega
   ·exact .inl z
   ·have:=h.1;exact .inr ⟨z,.inr ⟨z,λs s1 s2=>o2 s (by omega) s2⟩,o2 r (by omega) z⟩
  rcases h with⟨_,h1,h⟩|⟨q,_,h1,h⟩|⟨r,_,h1,h⟩|⟨q,r,h1,h2,h⟩
  ·have:=h1 o o1 ho;omega
  ·have:=h1 o o1 ho;omega
  ·refine⟨r,h,h1.2.1,?_⟩
   rcases nx r h1 with z|z
   ·exact .inl z
   ·exact .inr z.2.1
  ·by_cases z:f q<=f r
   ·rw[Yd z]at h
    refine⟨r,h,h2.2.1,?_⟩
    rcases nx r h2 with z|z
    ·exact .inl z
    ·exact .inr z.2.1
   ·rw[Yb z]at h
    refine⟨q,h,by have:=h1.1;omega,.inr (.inr ⟨by have:=h1.1;omega,λs s1 s2=>?_⟩)⟩
    by_cases sp:p<=s
    ·exact o2 s sp s2
    ·by_cases sq:s=q
     ·rw[sq]
      rcases nx r h2 with y|y
      ·rw[y];omega
      ·have:=y.2.2;omega
     ·have:=h1.2.2 s (by omega) (by omega);omega
theorem ZbK {f:Nat->Int}{n p o q:Nat} (hp:p<n) (ho:o<n) (h:ZN f n p (q:Int)):Over f o p↔o=q\/Over f o q:=by
 refine⟨λk=>?_,λk=>?_⟩
 ·obtain⟨q',e,_,z⟩:=ZjJ hp ho h k
  have:q'=q:=by omega
  rw[this]at z;exact z
 ·rcases Zci hp h with z|⟨q',e,_,z⟩
  ·omega
  ·have:q'=q:=by omega
   rw[this]at z
   rcases k with k|k
   ·rw[k];exact z
   ·exact k.trans z
theorem ZjK {f:Nat->Int}{n p o:Nat} (hp:p<n) (ho:o<n) (h:ZN f n p (-1)):¬ Over f o p:=λk=>by
 obtain⟨q',e,_,z⟩:=ZjJ hp ho h k
 omega
theorem Zh1 {P Q:Nat->Bool}:∀n,(∀o,o<n->P o=Q o)->(List.range n).countP P=(List.range n).countP Q
 |0,_=>rfl
 |n+1,h=>by
  rw[Y5,List.countP_append,List.countP_append,Zh1 n (λo ho=>h o (by omega))]
  simp[List.countP_cons,h n (by omega)]
theorem ZfC {P Q:Nat->Bool}{e:Nat}:∀n,e<n->(∀o,o<n->(P o=true↔o=e\/Q o=true))->Q e=false->(List.range n).countP P=(List.range n).countP Q+1
 |0,h,_,_=>by omega
 |n+1,h,hi,hq=>by
  rw[Y5,List.countP_append,List.countP_append]
  by_cases z:e=n
  ·have e1:(List.range n).countP P=(List.range n).countP Q:=Zh1 n λo ho=>by
    have:=hi o (by omega)
    cases hP:P o<;>cases hQ:Q o<;>simp[hP,hQ]at this<;>first|rfl|omega
   have hPn:P n=true:=(hi n (by omega)).mpr (.inl z.symm)
   rw[z]at hq
   rw[e1];simp[List.countP_cons,hPn,hq]
  ·rw[ZfC n (by omega) (λo ho=>hi o (by omega)) hq]
   have:=hi n (by omega)
   have hn:P n=Q n:=by
    cases hP:P n<;>cases hQ:Q n<;>simp[hP,hQ]at this<;>first|rfl|omega
   simp[List.countP_cons,hn];omega
theorem Zqd {P:Nat->Bool}{e n:Nat} (he:e<n) (h:P e=false):(List.range n).countP P<n:=by
 have h1:=ZfC (P:=λo=>decide (o=e)||P o) (Q:=P) n he (λo _=>by simp) h
 have h2:=List.countP_le_length (p:=λo=>decide (o=e)||P o) (l:=List.range n)
 rw[h1,Y9]at h2
 omega
noncomputable def Zap (T:List Int):Nat->Int->List Nat
 |0,_=>[]
 |k+1,at_=>if 0<=at_/\at_<T.length then at_.toNat::Zap T k (nth T at_.toNat)else []
open Classical in
noncomputable def dep (f:Nat->Int) (n p:Nat):Nat:=(List.range n).countP λo=>decide (Over f o p)
theorem Zqe {f:Nat->Int}{n p:Nat} (hp:p<n):dep f n p<n:=by
 classical
 exact Zqd hp (by simpa using Over.irrefl)
theorem ZgJ {f:Nat->Int}{n p q:Nat} (hp:p<n) (h:ZN f n p (q:Int)):dep f n p=dep f n q+1:=by
 classical
 have hq:q<n:=by
  rcases Zci hp h with z|⟨q',e,z,_⟩<;>omega
 exact ZfC n hq (λo ho=>by simpa using ZbK hp ho h) (by simpa using Over.irrefl)
theorem Zth {f:Nat->Int}{n p:Nat} (hp:p<n) (h:ZN f n p (-1)):dep f n p=0:=by
 classical
 unfold dep
 rw[List.countP_eq_zero]
 intro o ho
 simpa using ZjK hp (by simpa using ho) h
theorem Zh2 {ns T:List Int} (hT:Zx ns T):∀k p,p<ns.length->dep (nth ns) ns.length p<=k->(∀o,o∈Zap T k (nth T p)↔o<ns.length/\Over (nth ns) o p)/\(Zap T k (nth T p)).length=dep (nth ns) ns.length p
 |k,p,hp,hk=>by
  have hE:ZN (nth ns) ns.length p (nth T p):=hT.2 p hp
  rcases Zci hp hE with z|⟨q,e,hq,hO⟩
  ·have e0:Zap T k (nth T p)=[]:=by
    cases k with
    |zero=>rfl
    |succ k=>rw[Zap,Yb (by omega)]
   rw[e0]
   rw[z]at hE
   exact⟨λo=>⟨λh=>by simp at h,λh=>absurd h.2 (ZjK hp h.1 hE)⟩,by rw[Zth hp hE];rfl⟩
  ·rw[e]at hE
   have hd:=ZgJ hp hE
   obtain⟨k',rfl⟩:∃k',k=k'+1:=⟨k-1,by omega⟩
   have ih:=Zh2 hT k' q hq (by omega)
   have eT:((q:Nat):Int).toNat=q:=by omega
   rw[Zap,e,Yd ⟨by omega,by rw[hT.1];omega⟩,eT]
   refine⟨λo=>?_,by simp[ih.2,hd]⟩
   rw[Yg,ih.1 o]
   refine⟨λh=>?_,λh=>?_⟩
   ·rcases h with h|h
    ·rw[h];exact⟨hq,hO⟩
    ·exact⟨h.1,h.2.trans hO⟩
   ·rcases(ZbK hp h.1 hE).mp h.2 with z|z
    ·exact .inl z
    ·exact .inr ⟨h.1,z⟩
end L2
namespace L2
open PySem PySem.Spec PyProof.Rows PySem.W
noncomputable def Zht (es:List Int) (A B:List Nat) (i:Nat):List Int:=match A.getLast? with
 |some q=>(match B.head? with|some b=>es.set b i|none=>es).set i (q:Int)
 |none=>match B.head? with|some b=>es.set b i|none=>es
noncomputable def Z2 (l:List Nat):List V:=l.map λq=>V.int (q:Nat)
theorem ZbL (l:List Int) (a p:Nat) (v:Int) (h:p<l.length):(l.set a v).getD p 0=if a=p then v else l.getD p 0:=by
 rw[Yn,Yn]
 by_cases e:a=p
 ·subst e;rw[Yd rfl,List.getElem?_set_self h];rfl
 ·rw[Yb e,List.getElem?_set_ne e]
theorem Zqf (es:List Int) (A B:List Nat) (i:Nat):(Zht es A B i).length=es.length:=by
 unfold Zht
 cases A.getLast?<;>cases B.head?<;>simp
theorem ZnU (es:List Int) (A B:List Nat) (i p:Nat) (hp:p<es.length) (hb:∀b,B.head?=some b->b≠i):(Zht es A B i).getD p 0=if p=i then (match A.getLast? with|some q=>(q:Int)|none=>es.getD i 0)else if B.head?=some p then (i:Int)else es.getD p 0:=by
 unfold Zht
 cases hA:A.getLast? with
 |none =>
  cases hB:B.head? with
  |none =>
   by_cases e:p=i
   ·rw[Yd e,e]
   ·rw[Yb e,Yb (by simp)]
  |some b =>
   show(es.set b i).getD p 0=_
   rw[ZbL _ _ _ _ hp]
   by_cases e:p=i
   ·rw[Yd e,Yb (by rw[e];exact hb b hB),e]
   ·rw[Yb e]
    by_cases e2:b=p
    ·rw[Yd e2,Yd (by rw[e2])]
    ·rw[Yb e2,Yb (by intro z;exact e2 (YA z))]
 |some q =>
  cases hB:B.head? with
  |none =>
   show(es.set i q).getD p 0=_
   rw[ZbL _ _ _ _ hp]
   by_cases e:p=i
   ·rw[Yd e,Yd e.symm]
   ·rw[Yb e,Yb (λz=>e z.symm),Yb (by simp)]
  |some b =>
   show((es.set b i).set i q).getD p 0=_
   rw[ZbL _ _ _ _ (by simpa using hp),ZbL _ _ _ _ hp]
   by_cases e:p=i
   ·rw[Yd e,Yd e.symm]
   ·rw[Yb e,Yb (λz=>e z.symm)]
    by_cases e2:b=p
    ·rw[Yd e2,Yd (by rw[e2])]
    ·rw[Yb e2,Yb (by intro z;exact e2 (YA z))]
theorem Zqg:∀(l:List Nat) (i lo:Nat),l.Pairwise (· < ·)->(∀q∈l,lo<=q/\q<i)->l.length+lo<=i\/l=[]
 |[],_,_,_,_=>.inr rfl
 |q::r,i,lo,h,hq=>by
  have h1:=hq q (by simp)
  have hr:=Jd.mp h
  rcases Zqg r i (q+1) hr.2 (λx hx=>⟨hr.1 x hx,(hq x (by simp[hx])).2⟩)with z|z
  ·left;simp;omega
  ·left;rw[z];simp;omega
theorem Zbf (l:List Nat):(Z2 l).length=l.length:=by simp[Z2]
theorem ZgK (a b:List Nat):Z2 (a++b)=Z2 a++Z2 b:=by simp[Z2]
theorem Zh3 {l:List Nat}{j q:Nat} (h:l[j]?=some q):atI (Z2 l) (j:Int)=some (V.int (q:Nat)):=by
 have hj:=(Ym.mp h).1
 have e:=(Ym.mp h).2
 rw[ZgI rfl (by rw[Zbf];exact hj)]
 simp[Z2,e]
theorem Zkn {n j:Nat} (h:j<n):ixN n (j:Int)=some j:=by
 unfold ixN
 rw[Yd (by omega),Yd (by omega)];simp
noncomputable def wayI (T:List Int) (p:Nat):List Int:=(Zap T T.length (nth T p)).map λq=>((q:Nat):Int)
noncomputable def Zek (T:List Int):Prop:=T.length<=40/\∃ns,Zx ns T
noncomputable def ZaI (T:List Int):Nat->Int->Int
 |0,a=>a
 |j+1,a=>if 0<=a/\a<T.length then ZaI T j (nth T a.toNat)else a
theorem ZjL (T:List Int):∀j a,0<=ZaI T j a->ZaI T j a<T.length->(Zap T j a).length=j->Zap T (j+1) a=Zap T j a++[(ZaI T j a).toNat]/\ZaI T (j+1) a=nth T (ZaI T j a).toNat
 |0,a,h0,h1,_=>by
  have h0':0<=a:=h0
  have h1':a<T.length:=h1
  constructor
  ·simp[Zap,ZaI,h0',h1']
  ·simp[ZaI,h0',h1']
 |j+1,a,h0,h1,hl=>by
  rw[Zap]at hl
  by_cases z:0<=a/\a<T.length
  ·rw[Yd z]at hl
   have e1:ZaI T (j+1) a=ZaI T j (nth T a.toNat):=by rw[ZaI,Yd z]
   rw[e1]at h0 h1
   have ih:=ZjL T j (nth T a.toNat) h0 h1 (by simpa using hl)
   constructor
   ·rw[Zap,Yd z,ih.1,Zap.eq_def T (j+1) a]
    simp only[Yd z,e1];simp
   ·rw[ZaI,Yd z,ih.2,e1]
  ·rw[Yb z]at hl;simp at hl
theorem ZjM (T:List Int):∀j k a,j<=k->(Zap T j a).length=j->¬ (0<=ZaI T j a/\ZaI T j a<T.length)->Zap T k a=Zap T j a
 |0,k,a,_,_,h=>by
  have h':¬ (0<=a/\a<T.length):=h
  cases k with
  |zero=>rfl
  |succ k=>rw[show Zap T 0 a=[]from rfl,Zap,Yb h']
 |j+1,k,a,hk,hl,h=>by
  rw[Zap]at hl
  by_cases z:0<=a/\a<T.length
  ·rw[Yd z]at hl
   rw[ZaI,Yd z]at h
   obtain⟨k',rfl⟩:∃k',k=k'+1:=⟨k-1,by omega⟩
   rw[Zap,Yd z,ZjM T j k' _ (by omega) (by simpa using hl) h,Zap,Yd z]
  ·rw[Yb z]at hl;simp at hl
theorem ZcZ {a b:TS}{D:Ends}{σ:St}{H:Hp} (Mid:St->Hp->Prop) (h1:∀R:St->Hp->Prop,(∀σ' H',Mid σ' H'->R σ' H')->a {D with nx:=R} σ H) (h2:∀σ' H',Mid σ' H'->b D σ' H'):tSeq a b D σ H:=h1 _ h2
end L2
namespace L2
open PySem PySem.Spec PyProof.Rows
structure CellsOf (cl:List (Str×Addr)) (n0:Nat) (cs:List (Str×Addr)) (h0 h:Heap) (done:List (Str×NameKind)):Prop where
 old:∀b o,h0.get? b=some o->h.get? b=some o
 sz:n0<=h.objs.size
 mem:∀p∈cs,p∈cl\/(n0<=p.2/\p.2<h.objs.size/\h.IsCell p.2 none)
 inj:∀p∈cs,∀q∈cs,n0<=p.2->p.2=q.2->p.1=q.1
 own:∀y∈done,y.2=.cell->∃c,cs.lookup y.1=some c/\n0<=c
 oth:∀x,(∀y∈done,y.2=.cell->y.1≠x)->cs.lookup x=cl.lookup x
theorem ZgL {M:Model}{A:Around}{E:Value->Shared->Prop}{cl:List (Str×Addr)}{n0:Nat}{h0:Heap} (hcl:∀p∈cl,p.2<n0):∀(names:List (Str×NameKind)) (cs:List (Str×Addr)) (done:List (Str×NameKind)) (s:Shared),CellsOf cl n0 cs h0 s.heap done ->
  wpAny M A (forIn names cs λ(x:Str×NameKind) (r:List (Str×Addr))=>(match x with
   |(name,kind)=>if (kind==NameKind.cell)=true then do
     let a <-alloc {cls:=.type "cell",data:=.cell none}
     pure (ForInStep.yield ((name,a)::r))
    else pure (ForInStep.yield r):Sem (ForInStep (List (Str×Addr))))) (λcs' s'=>∃h',s'={s with heap:=h'}/\CellsOf cl n0 cs' h0 h' (done++names)) E s
 |[],cs,done,s,I=>by
  rw[List.forIn_nil,List.append_nil]
  exact Yc ⟨s.heap,rfl,I⟩
 |(n,k)::r,cs,done,s,I=>by
  rw[List.forIn_cons]
  by_cases hk:k=.cell
  ·subst hk
   simp only[beq_self_eq_true,if_true]
   refine Ya (Ya (wpAny_alloc (Yc ?_)))
   have hget:(s.heap.push {cls:=.type "cell",data:=.cell none}).get? s.heap.objs.size=some {cls:=.type "cell",data:=.cell none}:=Yt _ rfl
   have I':CellsOf cl n0 ((n,s.heap.objs.size)::cs) h0 (s.heap.push {cls:=.type "cell",data:=.cell none}) (done++[(n,.cell)]):=by
    refine⟨λb o e=>Yi _ (I.old b o e),by rw[Heap.size_push];exact Nat.le_succ_of_le I.sz,λp hp=>?_,λp hp q hq hn e=>?_,λy hy hc=>?_,λx hx=>?_⟩
    ·rcases Yg.mp hp with z|z
     ·subst z
      exact .inr ⟨I.sz,by rw[Heap.size_push];exact Nat.lt_succ_self _,_,hget,rfl⟩
     ·rcases I.mem p z with w|⟨w1,w2,o,w3,w4⟩
      ·exact .inl w
      ·exact .inr ⟨w1,by rw[Heap.size_push];exact YM w2,o,Yi _ w3,w4⟩
    ·have lt:∀p∈cs,p.2<s.heap.objs.size:=λp hp=>by
      rcases I.mem p hp with w|w
      ·exact Yv (hcl p w) I.sz
      ·exact w.2.1
     rcases Yg.mp hp with z|z<;>rcases Yg.mp hq with z'|z'
     ·rw[z,z']
     ·subst z;exact absurd (show s.heap.objs.size<s.heap.objs.size from(show s.heap.objs.size=q.2 from e)▸lt q z') (YJ _)
     ·subst z';exact absurd (show s.heap.objs.size<s.heap.objs.size from(show p.2=s.heap.objs.size from e)▸lt p z) (YJ _)
     ·exact I.inj p z q z' hn e
    ·rcases YE.mp hy with z|z
     ·obtain⟨c,e1,e2⟩:=I.own y z hc
      by_cases hx:y.1=n
      ·exact⟨s.heap.objs.size,by rw[hx];simp,I.sz⟩
      ·have hb:(y.1==n)=false:=by simpa using hx
       exact⟨c,by simp only[List.lookup_cons,hb];exact e1,e2⟩
     ·have:y=(n,.cell):=by simpa using z
      subst this
      exact⟨s.heap.objs.size,by simp,I.sz⟩
    ·have hxn:n≠x:=hx (n,.cell) (by simp) rfl
     have hb:(x==n)=false:=by simpa using hxn.symm
     simp only[List.lookup_cons,hb]
     exact I.oth x λy hy=>hx y (YR _ hy)
   refine thn (ZgL hcl r _ _ {s with heap:=s.heap.push {cls:=.type "cell",data:=.cell none}} I') λcs' s' ⟨h',e1,e2⟩=>⟨h',e1,?_⟩
   rw[Y3]at e2
   exact e2
  ·have e1:(k==NameKind.cell)=false:=by cases k<;>first|rfl|exact absurd rfl hk
   simp only[e1,Bool.false_eq_true,if_false]
   refine Ya (Yc ?_)
   have I':CellsOf cl n0 cs h0 s.heap (done++[(n,k)]):=by
    refine⟨I.old,I.sz,I.mem,I.inj,λy hy hc=>?_,λx hx=>I.oth x λy hy=>hx y (YR _ hy)⟩
    rcases YE.mp hy with z|z
    ·exact I.own y z hc
    ·have:y=(n,k):=by simpa using z
     subst this
     exact absurd hc hk
   refine thn (ZgL hcl r _ _ s I') λcs' s' ⟨h',e1,e2⟩=>⟨h',e1,?_⟩
   rw[Y3]at e2
   exact e2
theorem ZmE {M:Model}{A:Around}{E:Value->Shared->Prop}{s:Shared}{scope:Scope}{globals:Addr}{cl:List (Str×Addr)}{qual:Str}{around:Env}{Q:Env->Shared->Prop} (hcl:∀p∈cl,p.2<s.heap.objs.size)
  (h:∀cs h',CellsOf cl (s.heap.objs.size+1) cs (s.heap.push {cls:=.type "dict",data:=.dict #[]}) h' scope.names->Q {scope:=scope,locals:=s.heap.objs.size,globals:=globals,cells:=cs,qual:=qual,func:=none,code:=around.code,frame:=around.frame,builtins:=around.builtins} {s with heap:=h'}) :
  wpAny M A (newFunctionEnv scope globals cl [] qual none .none (some around)) Q E s:=by
 unfold newFunctionEnv
 refine Ya (wpAny_alloc ?_)
 refine Ya (thn (ZgL (cl:=cl) (n0:=s.heap.objs.size+1) (h0:=s.heap.push {cls:=.type "dict",data:=.dict #[]}) (λp hp=>YM (hcl p hp)) scope.names cl [] {s with heap:=s.heap.push {cls:=.type "dict",data:=.dict #[]}} ⟨λb o e=>e,by rw[Heap.size_push];exact Yf _,λp hp=>.inl hp,λp hp q hq hn e=>absurd (hcl p hp) (Nat.not_lt_of_le (Nat.le_of_succ_le hn)),λy hy=>(nomatch hy),λx hx=>rfl⟩) λcs s' ⟨h',e1,e2⟩=>?_)
 subst e1
 rw[List.nil_append]at e2
 exact Ya (Yc (Yc (h cs h' e2)))
noncomputable def ZaY (around scope:Scope):Bool :=
 scope.kind==.function&&around.kind==.function&&scope.names.all λy=>match y.2 with
  |.local=>scope.names.lookup y.1==some .local
  |.cell=>scope.names.lookup y.1==some .cell
  |.free=>(scope.names.lookup y.1==some .free)&&(around.names.lookup y.1==some .cell||around.names.lookup y.1==some .free)
  |_=>true
theorem Zf8 {a s:Scope} (h:ZaY a s=true):s.kind=.function:=by
 simp only[ZaY,Bool.and_eq_true,beq_iff_eq]at h;exact h.1.1
theorem ZfD {a s:Scope} (h:ZaY a s=true) {y:Str×NameKind} (hy:y∈s.names):(match y.2 with
  |.local=>s.names.lookup y.1==some .local
  |.cell=>s.names.lookup y.1==some .cell
  |.free=>(s.names.lookup y.1==some .free)&&(a.names.lookup y.1==some .cell||a.names.lookup y.1==some .free)
  |_=>true)=true:=by
 simp only[ZaY,Bool.and_eq_true]at h
 exact List.all_eq_true.mp h.2 y hy
theorem Zi4 {a s:Scope} (h:ZaY a s=true):∀y∈s.names,y.2=.local->s.names.lookup y.1=some .local:=λy hy e=>by
 have q:=ZfD h hy
 rw[e]at q
 exact beq_iff_eq.mp q
theorem Zko {a s:Scope} (h:ZaY a s=true):∀y∈s.names,y.2=.cell->s.names.lookup y.1=some .cell:=λy hy e=>by
 have q:=ZfD h hy
 rw[e]at q
 exact beq_iff_eq.mp q
theorem ZdN {a s:Scope} (h:ZaY a s=true):∀y∈s.names,y.2=.free->s.names.lookup y.1=some .free/\(a.names.lookup y.1=some .cell\/a.names.lookup y.1=some .free):=λy hy e=>by
 have q:=ZfD h hy
 rw[e]at q
 simp only[Bool.and_eq_true,Bool.or_eq_true,beq_iff_eq]at q
 exact q
noncomputable def Zaw (X:Cx) (Nc:List Str) (scope:Scope) (cs:List (Str×Addr)) (C:Addr) (s2:Shared) (H2:Hp) (fp:List Addr):Cx :=
 {ZbT X Nc scope cs C s2 H2 fp with fn:=λx=>scope.names.lookup x==some .cell}
theorem Zlo {env:Env}{scope:Scope} (h:∀y∈scope.names,y.2=.free->∃c,env.cells.lookup y.1=some c) :
  ∃cl,closureFor scope env=pure cl/\(∀p∈cl,env.cells.lookup p.1=some p.2)/\(∀y∈scope.names,y.2=.free->∃c,cl.lookup y.1=some c/\env.cells.lookup y.1=some c):=by
 obtain⟨cl,e,h1,h2,h3⟩:=ZdL (env:=env) scope.names [] h
 have up:∀p∈cl,env.cells.lookup p.1=some p.2:=λp q=>by
  rcases h1 _ q with z|z
  ·cases z
  ·exact z
 refine⟨cl,?_,up,λy hy hf=>?_⟩
 ·unfold closureFor
  simp only[bind_pure_comp]at e⊢
  rw[e]
  exact pure_bind _ _
 ·obtain⟨c,hc⟩:=h3 y hy hf
  cases q:cl.lookup y.1 with
  |none=>exact absurd (List.lookup_eq_none_iff.mp q _ hc) (by simp)
  |some c'=>exact⟨c',rfl,up _ (PySem.mem_of_lookup q)⟩
section
variable {X:Cx}
theorem Zlp {pins:List (Addr×Obj)}{σ:St}{H2:Hp}{s2:Shared}{Nc:List Str}{js:List (Option Nat)}{scope:Scope}{cs:List (Str×Addr)}{fp:List Addr}{h1:Heap}{tk:Nat}{D C:Addr}{oD:Obj}{m:Str->Option Value}
  (I:Inv X pins σ H2 s2) (hok:ZaY X.env.scope scope=true) (htk:takesC X.N Nc scope js 0=true) (up:∀x c,cs.lookup x=some c->X.env.cells.lookup x=some c\/(C<c/\h1.IsCell c none)) (hinj:∀x y c,cs.lookup x=some c->cs.lookup y=some c->x=y) (hown:∀y∈scope.names,y.2=.cell->∃c,cs.lookup y.1=some c/\C<c) (hfr:∀y∈scope.names,y.2=.free->∃c,cs.lookup y.1=some c/\X.env.cells.lookup y.1=some c)
  (hfp:∀b∈fp,FpOk X pins H2 b) (hfl:∀b∈fp,b<s2.heap.objs.size) (hD:D=s2.heap.objs.size) (hC:C=s2.heap.objs.size+1) (old:∀b o,s2.heap.get? b=some o->h1.get? b=some o) (hns:h1.Ns C m) (hoD:h1.get? D=some oD) (hdD:∀v,oD.data≠.cell v) :
  Inv (Zaw X Nc scope cs C s2 H2 fp) [(D,oD)] (ZM js σ) H2 {s2 with heap:=h1,toks:=tk}:=by
 have leC:s2.heap.objs.size<=C:=by rw[hC];exact YW _
 have leD:s2.heap.objs.size<=D:=Y8 hD.symm
 have kf:∀x,((compEnvC scope cs C X.env).kindOf x=some .cell\/(compEnvC scope cs C X.env).kindOf x=some .free)->∃c,cs.lookup x=some c:=λx hx=>by
  have:∃k,(compEnvC scope cs C X.env).kindOf x=some k/\(k=.cell\/k=.free):=hx.elim (λq=>⟨_,q,.inl rfl⟩) λq=>⟨_,q,.inr rfl⟩
  obtain⟨k,e,hk⟩:=this
  obtain⟨k',h1,h2⟩:=ZP (show(scope.names.map _).lookup x=some k from e)
  have hm:=lookup_mem h1
  have:k'=.free\/k'=.cell:=by
   rcases h2 with q|q
   ·subst q
    exact hk.symm
   ·exact .inl q.1
  rcases this with z|z
  ·subst z
   obtain⟨c,q,_⟩:=hfr _ hm rfl
   exact⟨c,q⟩
  ·subst z
   obtain⟨c,q,_⟩:=hown _ hm rfl
   exact⟨c,q⟩
 have nC:∀c x,X.env.cells.lookup x=some c->c<s2.heap.objs.size:=λc x e=>by
  obtain⟨v,q⟩:=I.cell x c e
  exact q.lt
 have noB:∀b,b∈fp->b∉frs X.stack:=λb hb q=>by
  rcases Yg.mp (I.Zeq b q)with z|z
  ·exact(hfp b hb).2.1 z
  ·exact(hfp b hb).2.2.1 z
 have okX:(Zaw X Nc scope cs C s2 H2 fp).Ok:=by
  refine⟨I.ok.mod,(show scope.kind=.function from Zf8 hok),I.ok.glob,I.ok.blt,?_,λx y c e1 e2=>hinj x y c e1 e2,λx hx=>?_,(λx c e1 e2=>?_),I.ok.hd,I.ok.frames,.inl rfl,λb hb=>⟨?_,λx c e=>(up _ _ e).elim (λz=>(hfp b hb).2.2.2.2.1 x c z) λz=>Nat.ne_of_gt (Nat.lt_trans (Yv (hfl b hb) leC) z.1)⟩,I.bs,Yo I.ok.bsz I.sz,λb o e hb=>?_,λb hb=>noB b hb,I.stack,I.Zf2⟩
  ·show s2.heap.objs.size<=C;exact leC
  ·exact kf x hx
  ·have hm:=lookup_mem (beq_iff_eq.mp (show(scope.names.lookup x==some NameKind.cell)=true from e1))
   obtain⟨c',q1,q2⟩:=hown _ hm rfl
   have:c=c':=YA ((show cs.lookup x=some c from e2).symm.trans q1)
   rw[this]
   exact Yo leC (YU q2)
  ·exact Yk (Yv (hfl b hb) leC)
  ·rcases(hfp b hb).2.2.2.1 with q|q
   ·exact I.ok.noex b o e q
   ·exact absurd (Yv (Yh e) (Yo I.ok.bsz q)) (YJ _)
 refine⟨okX,rfl,I.bare,Un.kept old,⟨m,hns,λi x v e1 e2 e3=>?_⟩,λx c e=>?_,I.hok.fresh leC,λx c e=>(up _ _ e).elim (λz=>I.freeC x c z) λz=>I.hok.fresh (Yo leC (YU z.1)),λp hp=>?_,I.hok.kept old,?_⟩
 ·have e2':(ZM js σ)[i]?=some (some v):=e2
  unfold ZM at e2'
  rw[YD]at e2'
  cases q:js[i]? with
  |none=>rw[q]at e2';cases e2'
  |some j0 =>
   cases j0 with
   |none=>rw[q]at e2';cases e2'
   |some j =>
    rw[q]at e2'
    simp only[Option.map_some,Option.some.injEq]at e2'
    have e4:σ[j]?=some (some v):=by
     cases z:σ[j]? with
     |none=>rw[z]at e2';cases e2'
     |some o=>rw[z]at e2';simp only[Option.join_some]at e2';rw[e2']
    obtain⟨y,y1,y2,y3⟩:=Zdv htk q
    rw[Nat.zero_add]at y1
    have:x=y:=YA ((show Nc[i]?=some x from e1).symm.trans y1)
    subst this
    have hm:=lookup_mem y3
    obtain⟨c,c1,c2⟩:=hfr _ hm rfl
    have hk:=(ZdN hok _ hm rfl).2
    obtain⟨m0,hn0,hl0⟩:=I.loc
    obtain⟨u,r,l⟩:=hl0 j x v y2 e4 (hk.elim (λz=>.inr (.inl z)) λz=>.inr (.inr z))
    refine⟨u,r,.inr ⟨?_,c,c1,?_⟩⟩
    ·rcases e3 with z|z|z
     ·obtain⟨k',w1,w2⟩:=ZP (show(scope.names.map _).lookup x=some NameKind.local from z)
      rw[y3]at w1;cases w1
      rcases w2 with w|w
      ·cases w
      ·cases w.2
     ·exact .inl z
     ·exact .inr z
    ·rcases l with⟨lk,_⟩|⟨_,c',c3,c4⟩
     ·rcases hk with z|z
      ·rw[show X.env.kindOf x=some .cell from z]at lk;cases lk
      ·rw[show X.env.kindOf x=some .free from z]at lk;cases lk
     ·rw[c2]at c3;cases c3
      obtain⟨oc,w1,w2⟩:=c4
      exact⟨oc,old _ _ w1,w2⟩
 ·rcases up _ _ e with z|z
  ·obtain⟨v,oc,w1,w2⟩:=I.cell x c z
   exact⟨v,oc,old _ _ w1,w2⟩
  ·exact⟨_,z.2⟩
 ·have:p=(D,oD):=by
   have hp':p∈([]++[(D,oD)]:List (Addr×Obj)):=hp
   simpa using hp'
  subst this
  refine⟨hoD,I.hok.fresh leD,(by show D≠C;rw[hD,hC];exact Yk (Nat.lt_succ_self _)),λhb=>?_,hdD⟩
  have hb':D∈frs X.stack:=hb
  obtain⟨_,o,ho,_⟩:=I.stack.mem hb'
  exact absurd (Yv (Yh ho) leD) (YJ _)
 ·have:=Zcg htk
  show(ZM js σ).length=Nc.length
  unfold ZM;rw[Yj];omega
theorem ZjN {pins:List (Addr×Obj)}{σ:St}{H:Hp}{s:Shared}{tg elt iter:Expr}{ifs:List Expr}{scope:Scope}{pos:Pos}{wi:TI}{g:TG}{tt:TT}{te:TE}{Nc:List Str}{js:List (Option Nat)}{use:Option (Value->Sem Unit)}{Q:VK}{QQ:Value->Shared->Prop}
  (hc:X.calm=true) (hok:ZaY X.env.scope scope=true) (htk:takesC X.N Nc scope js 0=true) (hi:PI X tg iter wi)
  (hg:∀cl C s2 H2 fp,PG (Zaw X Nc scope cl C s2 H2 fp) tg g) (ht:∀cl C s2 H2 fp,Zkh (Zaw X Nc scope cl C s2 H2 fp) ifs tt) (he:∀cl C s2 H2 fp,PE (Zaw X Nc scope cl C s2 H2 fp) elt te)
  (hs:∀x,foldedSetIterable iter X.env x=pure x) {L:List Nat} (ho:ZjG g L) (hL:(L.all λk=>js[k]?==some none)=true) (I:Inv X pins σ H s) (h:ZnF wi g tt te js σ H Q)
  (fin:∀(D C:Addr) (H' H2:Hp) (s2 s':Shared) (xs:List V) (m:Str->Option Value),Inv X pins σ H2 s2->H' C=none->C=D+1->D=s2.heap.objs.size->s'.heap.Ns C m->(∀h',Heap.SameBut C s'.heap h'->Inv X pins σ (upd H' D (.lst xs)) {s' with heap:=h'})->Q (.ref D) (upd H' D (.lst xs)) ->
   compPost (model X.prog X.w) X.A X.xe use QQ (.ref D) C (.ok .next) s') :
  wpAny (model X.prog X.w) X.A (comprehension (.ListComp elt [⟨tg,iter,ifs,0⟩] scope pos) scope X.env (firstIterPos [⟨tg,iter,ifs,0⟩] pos) (newList []) false (eval iter X.env) use) QQ X.xe s:=by
 have hcells:∀y∈scope.names,y.2=.free->∃c,X.env.cells.lookup y.1=some c:=λy hy hf=>I.ok.has y.1 (ZdN hok y hy hf).2
 obtain⟨cl,hcl,upM,hfr0⟩:=Zlo hcells
 have hk:=Zf8 hok
 refine wpAny_comprehension_free (use:=use) rfl hs hcl hk (Zi4 hok) (thn (hi pins s σ H _ I h) λv s1 h1=>thn h1 λitv s2 h2=>?_)
 obtain⟨it,fp,tn,J,H2,e,I2,T,st2,f2,W,⟨m0,w0⟩,turn⟩:=h2
 subst e
 have clt:∀p∈cl,p.2<s2.heap.objs.size:=λp hp=>by
  obtain⟨v,q⟩:=I2.cell p.1 p.2 (upM p hp)
  exact q.lt
 refine wpAny_newObj_type (ZmE (λp hp=>?_) λcs h₁ CO=>?_)
 ·show p.2<(s2.heap.push _).objs.size
  rw[Heap.size_push];exact YM (clt p hp)
 dsimp only at CO⊢
 generalize hH2:s2.heap.push {cls:=.type "list",dict:=none,data:=.seq ([]:List Value).toArray}=HH at CO⊢
 have hC:HH.objs.size=s2.heap.objs.size+1:=by rw[<-hH2,Heap.size_push]
 have hcl':∀p∈cl,p.2<HH.objs.size:=λp hp=>by rw[hC];exact YM (clt p hp)
 have hns₁:h₁.Ns HH.objs.size (λ_=>none):=⟨_,#[],_,CO.old _ _ (Yt _ rfl),rfl,λe he=>absurd he (by simp),λn=>rfl⟩
 have up:∀x c,cs.lookup x=some c->X.env.cells.lookup x=some c\/(HH.objs.size<c/\h₁.IsCell c none):=λx c e=>by
  rcases CO.mem _ (PySem.mem_of_lookup e)with z|z
  ·exact .inl (upM _ z)
  ·exact .inr ⟨z.1,z.2.2⟩
 have hinj:∀x y c,cs.lookup x=some c->cs.lookup y=some c->x=y:=λx y c e1 e2=>by
  have m1:=PySem.mem_of_lookup e1
  have m2:=PySem.mem_of_lookup e2
  rcases CO.mem _ m1 with z|z
  ·rcases CO.mem _ m2 with z'|z'
   ·exact I2.ok.inj x y c (upM _ z) (upM _ z')
   ·exact absurd (hcl' _ z) (Nat.not_lt_of_le (Nat.le_of_succ_le z'.1))
  ·exact CO.inj _ m1 _ m2 z.1 rfl
 have hfr:∀y∈scope.names,y.2=.free->∃c,cs.lookup y.1=some c/\X.env.cells.lookup y.1=some c:=λy hy hf=>by
  obtain⟨c,q1,q2⟩:=hfr0 y hy hf
  refine⟨c,?_,q2⟩
  rw[CO.oth y.1 λy' hy' hc' z=>?_]
  ·exact q1
  ·have w1:=Zko hok y' hy' hc'
   have w2:=(ZdN hok y hy hf).1
   rw[z,w2]at w1;cases w1
 have hfl:∀b∈fp,b<s2.heap.objs.size:=λb hb=>by
  obtain⟨o,ho,_⟩:=T.obj 0 _ st2 b hb
  exact Yh ho
 have hDC:s2.heap.objs.size≠HH.objs.size:=by rw[hC];exact Yk (Nat.lt_succ_self _)
 have old:∀b o,s2.heap.get? b=some o->h₁.get? b=some o:=λb o e=>CO.old b o (Yi _ (hH2▸Yi _ e))
 have hacc:h₁.get? s2.heap.objs.size=some {cls:=.type "list",dict:=none,data:=.seq ([]:List Value).toArray}:=CO.old _ _ (Yi _ (hH2▸Yt _ rfl))
 have I4:=Zlp (Nc:=Nc) (js:=js) (tk:=s2.toks) I2 hok htk up hinj (λy hy hc=>CO.own y hy hc) hfr f2 hfl rfl hC old hns₁ hacc (by intro v z;cases z)
 have st4:tn 0 h₁:=T.keep _ _ _ st2 λb _ o e=>old b o e
 generalize hXc:Zaw X Nc scope cs HH.objs.size s2 H2 fp=Xc at I4
 have hXA:Xc.A=X.A:=by rw[<-hXc];rfl
 have hXe:Xc.env=compEnvC scope cs HH.objs.size X.env:=by rw[<-hXc];rfl
 have hXp:Xc.prog=X.prog:=by rw[<-hXc];rfl
 have hXw:Xc.w=X.w:=by rw[<-hXc];rfl
 have hXx:Xc.xe=λ_ _=>False:=by rw[<-hXc];rfl
 have hXk:Xc.K=X.K:=by rw[<-hXc];rfl
 have hXcalm:Xc.calm=true:=by rw[<-hXc];exact hc
 have fpok:∀{pl:List (Addr×Obj)}{H':Hp},(∀p∈pl,s2.heap.objs.size<=p.1)->(∀b∈fp,H' b=none)->∀b∈fp,FpOk Xc pl H' b:=λ{pl H'} hpl hn b hb=>by
  have k1:b≠HH.objs.size:=Yk (by rw[hC];exact YM (hfl b hb))
  have k2:b∉frs X.stack:=λq=>by
   rcases Yg.mp (I2.Zeq b q)with z|z
   ·exact(f2 b hb).2.1 z
   ·exact(f2 b hb).2.2.1 z
  rw[<-hXc]
  refine⟨hn b hb,k1,k2,.inl hb,λx c e=>(up _ _ e).elim (λz=>(f2 b hb).2.2.2.2.1 x c z) λz=>Nat.ne_of_gt (Nat.lt_trans (by rw[hC];exact YM (hfl b hb)) z.1),λp hp=>?_⟩
  have hp':p∈pl:=by simpa[Zaw,ZbT]using hp
  exact Nat.ne_of_gt (Yv (hfl b hb) (hpl p hp'))
 have gX:PG Xc tg g:=hXc▸hg cs HH.objs.size s2 H2 fp
 have tX:Zkh Xc ifs tt:=hXc▸ht cs HH.objs.size s2 H2 fp
 have eX:PE Xc elt te:=hXc▸he cs HH.objs.size s2 H2 fp
 have hs0:Xc.s₀=s2:=by rw[<-hXc];rfl
 have hh0:Xc.H₀=H2:=by rw[<-hXc];rfl
 have hfs:Xc.fs=frs X.stack:=by rw[<-hXc];rfl
 have hex:Xc.ex=fp:=by rw[<-hXc];rfl
 have loop:codeAny (model X.prog X.w) X.A (.compLoop (.ListComp elt [⟨tg,iter,ifs,0⟩] scope pos) 0 (.ref it) (.ref s2.heap.objs.size) (compEnvC scope cs HH.objs.size X.env)) (compPost (model X.prog X.w) X.A X.xe use QQ (.ref s2.heap.objs.size) HH.objs.size)
   {s2 with heap:=h₁,toks:=s2.toks}:=by
  refine Zey (λn s'=>∃i acc its nn H',Inv Xc [(s2.heap.objs.size,{cls:=.type "list",dict:=none,data:=.seq (its:List Value).toArray nn})] (ZM js σ) H' s'/\Vals acc its/\acc.length<=sizeLine/\tn i s'.heap/\(∀b∈fp,H' b=none)/\W i n acc H') ?_ m0
   ⟨0,[],[],0,H2,I4,.nil,Yu _,st4,λb hb=>(f2 b hb).1,w0⟩
  rintro n s3 ⟨i,acc,its,nn,H3,I3,va,hlen,st3,fr3,w3⟩
  have pg:∀p∈([(s2.heap.objs.size,{cls:=.type "list",dict:=none,data:=.seq its.toArray nn})]:List (Addr×Obj)),s2.heap.objs.size<=p.1:=λp hp=>by
   simp only[Yg,List.not_mem_nil,or_false]at hp
   subst hp;exact Yf _
  rcases turn i n acc H3 w3 with⟨stop,hl,qn⟩|⟨go,hl,step⟩
  ·have q:=T.done Xc hXp hXw hXk hXcalm i _ s3 (ZM js σ) H3 (λ_ _=>False) I3 (fpok pg fr3) st3 stop
   rw[hXA]at q
   refine thn q λr s4 ⟨hr,I5⟩=>?_
   subst hr
   have hpin:=I5.pin _ (Yl _ (.head _))
   obtain⟨m5,hn5,_⟩:=I5.loc
   rw[hXe]at hn5
   refine fin _ _ H3 H2 s2 s4 acc m5 I2 (by have:=I5.free;rw[hXe]at this;exact this) hC rfl hn5 (λh' hsb=>?_) (qn _ hpin.2.1)
   have same:∀b o,b≠HH.objs.size->s4.heap.get? b=some o->h'.get? b=some o:=λb o hb e=>hsb.extBut b o hb e
   have un:=I5.base
   rw[hfs,hex,hh0,hs0]at un
   have lt:∀b o,s2.heap.get? b=some o->b<s2.heap.objs.size:=λb o e=>Yh e
   have neC:∀b o,s2.heap.get? b=some o->b≠HH.objs.size:=λb o e=>Yk (by rw[hC];exact YM (lt b o e))
   have neD:∀b o,s2.heap.get? b=some o->b≠s2.heap.objs.size:=λb o e=>Yk (lt b o e)
   have trkC:∀b o,H3 b=some o->b≠HH.objs.size:=λb o e z=>by
    have:=I5.free;rw[hXe]at this;rw[z,show H3 HH.objs.size=none from this]at e;cases e
   refine I2.Znu (s':={s4 with heap:=h'}) (ch:=fp) (I5.os.trans (by rw[hs0])) ⟨λb o e n hb hx=>same _ _ (neC b o e) (un.keep b o e n hb hx),λb o e n hb hx=>?_,λb o e n hx=>by rw[Zf (neD b o e)];exact un.free b o e n hx,λb o e hx=>?_,λb xs e=>?_,λb o u e=>?_,λb ps e=>?_⟩ (λa o e=>?_) I5.bare λb hb=>⟨(f2 b hb).2.2.2.1,(f2 b hb).2.1,(f2 b hb).2.2.2.2.1,(f2 b hb).2.2.2.2.2⟩
   ·obtain⟨sl,z⟩:=un.slot b o e n hb hx
    exact⟨sl,same _ _ (neC b o e) z⟩
   ·obtain⟨o',z⟩:=un.there b o e hx
    exact⟨o',same _ _ (neC b o e) z⟩
   ·rw[Zf (Yk (I2.hok.lt e))];exact un.tups b xs e
   ·rw[Zf (Yk (I2.hok.lt e))];exact un.frzs b o u e
   ·obtain⟨more,z⟩:=un.tbls b ps e
    exact⟨more,by rw[Zf (Yk (I2.hok.lt e))];exact z⟩
   ·by_cases ha:a=s2.heap.objs.size
    ·subst ha
     rw[Zc]at e;cases e
     exact⟨hl,its,nn,va,same _ _ hDC hpin.1⟩
    ·rw[Zf ha]at e
     have q:=I5.hok a o e
     rw[hXp,hXw]at q
     refine q.Zf1 (λb u hb z=>same b u ?_ z) (λb z=>by rw[Zf];exact z;intro y;subst y;rw[hpin.2.1]at z;cases z) (λb xs z=>by rw[Zf];exact z;intro y;subst y;rw[hpin.2.1]at z;cases z) λb o u z=>by rw[Zf];exact z;intro y;subst y;rw[hpin.2.1]at z;cases z
     rcases hb with hb|hb
     ·subst hb;exact trkC _ _ e
     ·exact trkC _ _ hb
  ·have q:=T.item Xc hXp hXw hXk hXcalm i _ s3 (ZM js σ) H3 (λ_ _=>False) I3 (fpok pg fr3) st3 go
   rw[hXA]at q
   refine thn q λr s4 ⟨u,hr,h4⟩=>?_
   subst hr
   refine thn h4 λ_ s5 ⟨x,H5,I5,r5,y5,st5,fr5⟩=>?_
   have I5':=I5.pinned (fpok pg fr5) (T.obj _ _ st5)
   have again:∀{σ7:St}{H7:Hp}{s7:Shared}{acc7:List V}{its7:List Value}{n7:Nat}{m:Nat},Inv Xc ([(s2.heap.objs.size,{cls:=.type "list",dict:=none,data:=.seq its7.toArray n7})]++ZbS fp s5.heap) σ7 H7 s7->Vals acc7 its7->acc7.length<=sizeLine->W (i+1) m acc7 H7->σ7.length=(ZM js σ).length->(∀(k:Nat) v,(ZM js σ)[k]?=some (some v)->σ7[k]?=some (some v)) ->
     ∃i acc its nn H',Inv Xc [(s2.heap.objs.size,{cls:=.type "list",dict:=none,data:=.seq (its:List Value).toArray nn})] (ZM js σ) H' s7/\Vals acc its/\acc.length<=sizeLine/\tn i s7.heap/\(∀b∈fp,H' b=none)/\W i m acc H':=λ{σ7 H7 s7 acc7 its7 n7 m} I7 v7 l7 w7 hl7 hw7=>by
    refine⟨i+1,acc7,its7,n7,H7,(I7.weak hl7.symm hw7).Zds,v7,l7,T.keep _ _ _ st5 λb hb o e=>(I7.pin (b,o) (Yl _ (Yl _ (Zbd hb e)))).1,λb hb=>?_,w7⟩
    obtain⟨o,e,d⟩:=T.obj _ _ st5 b hb
    exact(I7.pin (b,o) (Yl _ (Yl _ (Zbd hb e)))).2.1
   have keep:∀{σ6:St},Zmy L (ZM js σ) σ6->σ6.length=(ZM js σ).length/\∀(k:Nat) v,(ZM js σ)[k]?=some (some v)->σ6[k]?=some (some v):=λ{σ6} hk=>⟨hk.1,λk v e=>by
    rw[hk.2 k]
    ·exact e
    ·intro z
     have q:=List.all_eq_true.mp hL k z
     simp only[beq_iff_eq]at q
     unfold ZM at e
     rw[YD,q]at e
     cases e⟩
   have q6:=gX _ s5 (ZM js σ) H5 x u _ I5' r5 (ho _ _ _ _ _ (fun σ' H' kk z=>And.intro kk z) (step x H5 y5))
   rw[hXe,hXA,hXp,hXw,hXx]at q6
   refine thn q6 λ_ s6 ⟨σ6,H6,I6,k6,q6⟩=>?_
   obtain⟨kl,kv⟩:=keep k6
   have q7:=tX _ s6 σ6 H6 _ I6 q6
   rw[hXe,hXA,hXp,hXw,hXx]at q7
   refine thn q7 λb s7 ⟨H7,I7,q7⟩=>?_
   cases b with
   |false =>
    obtain⟨m',hm,w7⟩:=q7
    exact⟨m',hm,again I7 va hlen w7 kl kv⟩
   |true =>
    have q8:=eX _ s7 σ6 H7 _ I7 q7
    rw[hXe,hXA,hXp,hXw,hXx]at q8
    refine thn q8 λy s8 ⟨v8,H8,I8,r8,m',hm,w8⟩=>?_
    have pinD:=I8.pin _ (Yl _ (YR _ (.head _)))
    have hnf:∀p∈ZbS fp s5.heap,p.1≠s2.heap.objs.size:=λp hp=>by
     obtain⟨z,_⟩:=ZgB hp
     exact Yk (hfl _ z)
    have va':=va.length
    refine call_meets F.slot_list_append ⟨_,pinD.1,rfl⟩ F.entry_list_append (F.args_list_append_2 _ _) (PySem.list_append s2.heap.objs.size its.toArray nn y (by rw[Yr];omega)) ⟨pinD.1,?_⟩
    have e9:=PySem.IsL.update pinD.1 (λa=>a.push y)
    have e9':its.toArray.push y=(its++[y]).toArray:=by simp
    dsimp only at e9
    rw[e9']at e9
    have I8':Inv Xc (ZbS fp s5.heap) σ6 H8 s8:=I8.Zy λp hp=>I8.pin p (Yl _ (Yl _ hp))
    have hXpn:Xc.pn=[]:=by rw[<-hXc];rfl
    have hXs:s2.heap.objs.size∉frs X.stack:=by rw[<-hfs];exact pinD.2.2.2.1
    have I9:=I8'.turned (t':=s8.toks) (it:=s2.heap.objs.size) (h':=s8.heap.update s2.heap.objs.size (Obj.mapSeq λa=>a.push y)) (λb o hb e=>(Heap.get?_update_other s8.heap _ (Ne.symm hb)).trans e) pinD.2.1 pinD.2.2.1
     (.inr (by rw[hs0];exact Yf _)) (λx c e=>by
      rw[hXe]at e
      intro z
      rcases up _ _ e with y|y
      ·obtain⟨v,q⟩:=I2.cell x c y
       exact absurd q.lt (by rw[z];exact YJ _)
      ·have:=y.1
       rw[z,hC]at this
       exact absurd this (Nat.not_lt_of_le (YW _))) (λp hp=>by rw[hXpn,List.nil_append]at hp;exact hnf p hp)
    have I10:=I9.Zy (pins':=[(s2.heap.objs.size,{cls:=.type "list",dict:=none,data:=.seq (its++[y]).toArray _})]++ZbS fp s5.heap) λp hp=>by
     rcases YE.mp hp with z|z
     ·simp only[Yg,List.not_mem_nil,or_false]at z
      subst z
      exact⟨e9,pinD.2.1,pinD.2.2.1,pinD.2.2.2.1,by intro v z;cases z⟩
     ·exact I9.pin p (Yl _ z)
    exact⟨m',hm,again I10 (va.append (.cons r8 .nil)) (by rw[YT,List.length_singleton];omega) w8 kl kv⟩
 exact codeAny_compStart_list loop (T.self _ 0 _ _ _ st4 loop)
theorem ZbM {tg elt iter:Expr}{ifs:List Expr}{scope:Scope}{pos:Pos}{wi:TI}{g:TG}{tt:TT}{te:TE} (Nc:List Str) (js:List (Option Nat)) {L:List Nat}
  (hc:X.calm=true) (hok:ZaY X.env.scope scope=true) (htk:takesC X.N Nc scope js 0=true) (hi:PI X tg iter wi)
  (hg:∀cl C s2 H2 fp,PG (Zaw X Nc scope cl C s2 H2 fp) tg g) (ht:∀cl C s2 H2 fp,Zkh (Zaw X Nc scope cl C s2 H2 fp) ifs tt) (he:∀cl C s2 H2 fp,PE (Zaw X Nc scope cl C s2 H2 fp) elt te)
  (ho:ZjG g L) (hL:(L.all λk=>js[k]?==some none)=true:=by rfl) (hs:∀x,foldedSetIterable iter X.env x=pure x:=by intro _;rfl):PE X (.ListComp elt [⟨tg,iter,ifs,0⟩] scope pos) (ZnF wi g tt te js):=by
 intro pins s σ H Q I h
 rw[eval_ListComp]
 exact ZjN (use:=none) hc hok htk hi hg ht he hs ho hL I h λD C H' H2 s2 s' xs m I2 hHC e1 e2 hn hI q=>⟨m,hn,λh' hsb=>⟨.ref D,_,hI h' hsb,rfl,q⟩⟩
theorem Zdx {i:Nat}{x:Str}{pos' spos:Pos}{tg elt iter:Expr}{ifs:List Expr}{scope:Scope}{pos:Pos}{wi:TI}{g:TG}{tt:TT}{te:TE} (Nc:List Str) (js:List (Option Nat)) {L:List Nat}
  (hN:X.N.Nodup) (hxi:X.N[i]?=some x) (hx:Loc X.env.scope x)
  (hc:X.calm=true) (hok:ZaY X.env.scope scope=true) (htk:takesC X.N Nc scope js 0=true) (hi:PI X tg iter wi)
  (hg:∀cl C s2 H2 fp,PG (Zaw X Nc scope cl C s2 H2 fp) tg g) (ht:∀cl C s2 H2 fp,Zkh (Zaw X Nc scope cl C s2 H2 fp) ifs tt) (he:∀cl C s2 H2 fp,PE (Zaw X Nc scope cl C s2 H2 fp) elt te)
  (ho:ZjG g L) (hL:(L.all λk=>js[k]?==some none)=true:=by rfl) (hs:∀x,foldedSetIterable iter X.env x=pure x:=by intro _;rfl)
  (hsw:swapsWith (.ListComp elt [⟨tg,iter,ifs,0⟩] scope pos) (some (.Name x pos')) spos.line X.env=pure true:=by rfl)
  (hf:X.fn x=true\/X.env.scope.names.lookup x=some .local:=by first|exact .inl rfl|exact .inr rfl|assumption) :
  PS X (.Assign [.Name x pos'] (.ListComp elt [⟨tg,iter,ifs,0⟩] scope pos) spos) (tAsg (ZnF wi g tt te js) (Zg7 i)):=by
 intro pins s σ H D I h
 rw[exec_Assign_Name_used _ _ _ _ hsw]
 refine Ya (wpAny_standAt (Ya ?_))
 show wpAny _ _ (comprehension _ _ _ _ _ _ _ _ >>= _) _ _ _
 refine Ya (thn (Q:=λ_ s'=>∃σ' H',Inv X pins σ' H' s'/\D.nx σ' H') (ZjN (Q:=λv H1=>Zg7 i v σ H1 D.nx) (use:=some (assign (.Name x pos') X.env)) hc hok htk hi hg ht he hs ho hL I h ?_) λ_ s' ⟨σ',H',I',q⟩=>Yc (Yc ⟨σ',H',I',q⟩))
 intro D' C H' H2 s2 s' xs m I2 hHC e1 e2 hn hI q
 obtain⟨oC,es,ep,hoC,hdC,hrest⟩:=id hn
 have leC:s2.heap.objs.size<=C:=by rw[e1,e2];exact YW _
 have ltC:s2.heap.objs.size<C:=by rw[e1,e2];exact Nat.lt_succ_self _
 have neDC:C≠D':=by rw[e2];exact Nat.ne_of_gt ltC
 have fresh:s2.heap.get? C=none:=by
  cases e:s2.heap.get? C with
  |none=>rfl
  |some o=>exact absurd (Yv (Yh e) leC) (YJ _)
 have neL:C≠X.env.locals:=Nat.ne_of_gt (Yv I2.lt leC)
 have nfs:C∉X.fs:=I2.Zk5 leC
 have ncl:∀x c,X.env.cells.lookup x=some c->c≠C:=λx c e z=>by
  obtain⟨v,q⟩:=I2.cell x c e
  exact absurd (Yv q.lt leC) (by rw[z];exact YJ _)
 have npn:∀p∈X.pn++pins,p.1≠C:=λp hp z=>by
  have:=(I2.pin p hp).1
  rw[z,fresh]at this;cases this
 have hH:(upd H' D' (HO.lst xs)) C=none:=by rw[Zf neDC];exact hHC
 have I0:=hI s'.heap Zki
 have I1:Inv X (pins++[(C,oC)]) σ (upd H' D' (.lst xs)) s':=I0.Zy λp hp=>by
  rcases YE.mp hp with z|z
  ·exact I0.pin p (Yl _ z)
  ·simp only[Yg,List.not_mem_nil,or_false]at z
   subst z
   exact⟨hoC,hH,neL,nfs,λv z=>by rw[hdC]at z;cases z⟩
 show wpAny _ _ _ _ _ _
 refine thn (Zn (X:=X) (i:=i) hN hxi hx hf (pins++[(C,oC)]) s' σ _ (.ref D') (.ref D') _ I1 rfl q) λ_ s3 ⟨σ3,H3,I3,q3⟩=>?_
 have pC:=I3.pin (C,oC) (Yl _ (Yl _ (.head _)))
 refine⟨m,⟨oC,es,ep,pC.1,hdC,hrest⟩,λh' hsb=>⟨σ3,H3,?_,q3⟩⟩
 exact I3.Zds.turned (t':=s3.toks) (it:=C) (λb o hb e=>hsb.extBut b o hb e) pC.2.1 neL (.inr (Yo I2.sz leC)) ncl npn
end
end L2
namespace L2
open PySem PySem.Spec PyProof.Rows PySem.W
noncomputable def CF (n:Nat) (P:Nat->Bool) (vals:Nat->V) (H1:Hp) (i m:Nat) (acc:List V) (H:Hp):Prop:=m=n-i/\i<=n/\acc=((List.range i).filter P).map vals/\Ze H1 H
theorem CF.take {n:Nat}{P:Nat->Bool}{vals:Nat->V}{H1 H:Hp}{i:Nat}{v:V} (hi:i<n) (hP:P i=true) (hv:v=vals i) (s:Ze H1 H):∃m',m'<n-i/\CF n P vals H1 (i+1) m' (((List.range i).filter P).map vals++[v]) H :=
 ⟨n-(i+1),by omega,rfl,hi,by rw[Y5,List.filter_append,Y4,hv];simp[hP],s⟩
theorem CF.skip {n:Nat}{P:Nat->Bool}{vals:Nat->V}{H1 H:Hp}{i:Nat} (hi:i<n) (hP:P i=false) (s:Ze H1 H):∃m',m'<n-i/\CF n P vals H1 (i+1) m' (((List.range i).filter P).map vals) H :=
 ⟨n-(i+1),by omega,rfl,hi,by rw[Y5,List.filter_append,Y4];simp[hP],s⟩
theorem ZgM {J:It}{n:Nat}{H1:Hp}{g:TG}{tt:TT}{te:TE}{σ0:St}{Q:VK} (P:Nat->Bool) (vals:Nat->V) (hn:n<sizeLine) (hgo:∀i H,Ze H1 H->i<n->J.go i H) (hstop:∀H,Ze H1 H->J.stop n H)
  (hb:∀i x H H',i<n->Ze H1 H->J.yld i H x H'->g x σ0 H' fun σ2 H2=>tt σ2 H2 λb H3=>if b=true then te σ2 H3 λv H4=>∃m',m'<n-i/\CF n P vals H1 (i+1) m' (((List.range i).filter P).map vals++[v]) H4 else ∃m',m'<n-i/\CF n P vals H1 (i+1) m' (((List.range i).filter P).map vals) H3)
  (hk:∀l H',Ze H1 H'->H' l=none->Q (.ref l) (upd H' l (.lst (((List.range n).filter P).map vals)))) :
  Zli J g tt te σ0 Q H1:=by
 refine⟨CF n P vals H1,⟨n,rfl,Yu _,rfl,Ze.refl _⟩,?_⟩
 rintro i m acc H ⟨rfl,hi,rfl,s⟩
 have hlen:(((List.range i).filter P).map vals).length<=n:=by
  rw[Yj]
  have:=Jf P (List.range i)
  rw[Y9]at this
  omega
 by_cases h:i<n
 ·exact .inr ⟨hgo i H s h,by omega,λx H' y=>hb i x H H' h s y⟩
 ·have:i=n:=by omega
  subst this
  exact .inl ⟨hstop H s,by omega,λp hp=>hk p H s hp⟩
end L2
namespace HT
open PySem PyProof.Rows
section
open PySem.SeqAt
open PySem.AutoSeq1 (wpAny_loadPart')
open PySem.MeetsSeq PySem.MeetsSeq2 PySem.MeetsSeq3
variable {prog:Program}{w:World}{A:Around}{E:Value->Shared->Prop}{s:Shared}
theorem Zf9 {t sl:Addr}{items:Array Value}{vl vu:Value}{lo hi:Option Int}{Q:Value->Shared->Prop} (ht:IsTup s.heap t items) (hs:s.heap.IsSliceOf sl vl vu .none) (pl:IsPart vl lo) (pu:IsPart vu hi)
  (hw:sIx items.size 0 lo=0/\sIx items.size items.size hi=items.size) (h:Q (.ref t) s):wpAny (model prog w) A (getItem (.ref t) (.ref sl)) Q E s:=by
 obtain⟨os,hos,hcs,hds⟩:=id hs
 have hTs:s.TypeIs (.ref sl) "slice":=⟨os,hos,hcs⟩
 unfold getItem
 try with_reducible refine YB ?_
 first|refine Ya (Yc ?_)|skip
 refine Ya (wpAny_sequenceKey ht.typeIs (by decide) ?_)
 refine Ya (wpAny_callSpecial?_slot (name:=Str.ofString "__getitem__") ht.typeIs PyProof.Rows.slot_tuple_getitem
  (wpAny_call_entry PyProof.Rows.slot_tuple_getitem ht.typeIs entry_tuple_getitem ?_ (args_tuple_getitem _ _)))
 show wpAny _ _ (Builtin.Tuple.tupleItemsOf (.ref t) >>= _) _ _ s
 refine Ya (tupleItemsOf_ ht ?_)
 refine Ya (wpAny_typeOf hTs ?_)
 rw[Yd (by decide)]
 refine Ya (Zdu hs pl pu ?_)
 have hyes:(((sIx items.size 0 lo:Nat):Int)==0&&(1:Int)==1&&(sIx items.size items.size hi-sIx items.size 0 lo)==items.size)=true:=by
  rw[hw.1,hw.2];simp
 show wpAny _ _ (if (((sIx items.size 0 lo:Nat):Int)==0&&(1:Int)==1&&(sIx items.size items.size hi-sIx items.size 0 lo)==items.size)=true then _ else _) _ _ s
 rw[Yd hyes]
 refine Ya ?_
 unfold Builtin.Tuple.tupleIsExact
 refine Ya (wpAny_typeOf ht.typeIs (Yc ?_))
 rw[Yd (by decide)]
 refine Ya (wpAny_rule ?_)
 first
  |exact Yc ⟨_,rfl,Yc h⟩
  |exact Ya (Yc (Yc ⟨_,rfl,Yc h⟩))
  |exact Ya (Yc ⟨_,rfl,Yc h⟩)
end
end HT
namespace L2
open PySem PySem.Spec PyProof.Rows PySem.W
section
variable {X:Cx}
noncomputable def rSlQ (K:Frag):V->Option Int->Option Int->Hp->VK->Prop:=λx lo hi H Q=>∃a xs,x=.ref a/\((SqL K H a xs/\∀p,H p=none->Q (.ref p) (upd H p (.lst (ZiY xs lo hi)))) \/
 (SqT K H a xs/\(HT.sIx xs.length 0 lo=0/\HT.sIx xs.length xs.length hi=xs.length->Q (.ref a) H)/\(¬ (HT.sIx xs.length 0 lo=0/\HT.sIx xs.length xs.length hi=xs.length)->∀p,H p=none->Q (.ref p) (upd H p (.tup (ZiY xs lo hi))))))
theorem sl_q {K:Frag} (hK:X.K=K):SlR X (rSlQ K):=by
 subst hK
 intro pins s σ H x v vl vu lo hi sl Q I rx hs pl pu h
 obtain⟨a,xs,rfl,h|⟨hx,h1,h2⟩⟩:=h
 ·exact Zta pins s σ H _ v vl vu lo hi sl Q I rx hs pl pu ⟨a,xs,rfl,h⟩
 ·by_cases hw:HT.sIx xs.length 0 lo=0/\HT.sIx xs.length xs.length hi=xs.length
  ·cases rx
   obtain⟨its,r,ht,hz⟩:=I.tuple hx
   have hlen:its.toArray.size=xs.length:=by rw[Yr];exact r.length.symm
   refine⟨"tuple",_,PyProof.Rows.slot_tuple_getitem.lookup,ht.typeIs,?_⟩
   exact HT.Zf9 ht hs pl pu (by rw[hlen];exact hw) ⟨.ref a,H,I,rfl,h1 hw⟩
  ·exact sl_tup pins s σ H _ v vl vu lo hi sl Q I rx hs pl pu ⟨a,xs,rfl,hx,hw,h2 hw⟩
end
section
variable {X:Cx}{tg l:Expr}{tl:TE}
theorem Zqh {K:Frag} (hK:X.K=K) (hl:PE X l tl):PI X tg l (Znv K tl):=hK▸ZdH hl
end
theorem Zlq (T:List Int):∀k a,(Zap T k a).length<k->Zap T (k+1) a=Zap T k a
 |0,_,h=>by omega
 |k+1,a,h=>by
  rw[Zap]at h⊢
  by_cases z:0<=a/\a<T.length
  ·rw[Yd z]at h⊢
   rw[Zlq T k _ (by simpa using h),Zap,Yd z]
  ·rw[Yb z]at h⊢
   rw[Zap,Yb z]
noncomputable def way (T:List Int) (p:Nat):List Nat:=Zap T T.length (nth T p)
theorem Zti {T:List Int}{p:Nat} (h:nth T p=-1):way T p=[]:=by
 unfold way
 rw[h]
 cases T.length with
 |zero=>rfl
 |succ k=>rw[Zap,Yb (by omega)]
theorem Zcj {ns T:List Int} (hT:Zx ns T) {p q:Nat} (hp:p<ns.length) (h:nth T p=q):way T p=q::way T q:=by
 have hE:ZN (nth ns) ns.length p (q:Int):=h▸hT.2 p hp
 have hq:q<ns.length:=by
  rcases Zci hp hE with z|⟨q',e,z,_⟩<;>omega
 have hd:=ZgJ hp hE
 have hl:=Zqe (f:=nth ns) hp
 unfold way
 rw[h,hT.1]
 obtain⟨k,hk⟩:∃k,ns.length=k+1:=⟨ns.length-1,by omega⟩
 rw[hk,Zap,Yd ⟨by omega,by rw[hT.1];omega⟩,show((q:Nat):Int).toNat=q by omega]
 rw[Zlq T k (nth T q)]
 rw[(Zh2 hT k q hq (by omega)).2]
 omega
theorem Zqi (T:List Int) (p:Nat):wayI T p=(way T p).map λq=>((q:Nat):Int):=rfl
theorem ZbN {ns T:List Int} (hT:Zx ns T) {p:Nat} (hp:p<ns.length):nth T p=-1\/∃q:Nat,nth T p=q/\q<ns.length/\Over (nth ns) q p/\dep (nth ns) ns.length p=dep (nth ns) ns.length q+1:=by
 rcases Zci hp (hT.2 p hp)with z|⟨q,e,hq,hO⟩
 ·exact .inl z
 ·have e':nth T p=(q:Int):=e
  have hE:ZN (nth ns) ns.length p (q:Int):=e'▸hT.2 p hp
  exact .inr ⟨q,e,hq,hO,ZgJ hp hE⟩
theorem Zqj {ns T:List Int} (hT:Zx ns T) {p o:Nat} (hp:p<ns.length):o∈way T p↔o<ns.length/\Over (nth ns) o p:=by
 unfold way
 rw[hT.1]
 exact(Zh2 hT ns.length p hp (YU (Zqe hp))).1 o
section
variable {X:Cx}{pins:List (Addr×Obj)}{σ:St}{H:Hp}{s:Shared}{h':Heap}
theorem Inv.ZnV {t':Nat}{fp:List Addr}{T:Addr}{o:HO} (I:Inv X pins σ H s) (k:∀b u,b∉fp->s.heap.get? b=some u->h'.get? b=some u) (hf:∀b∈fp,FpOk X pins H b) (hT:s.heap.objs.size<=T) (new:ZI X.prog X.w (upd H T o) h' T o) :
  Inv X pins σ (upd H T o) {s with heap:=h',toks:=t'}:=by
 have nit:∀b u,H b=some u->b∉fp:=λb u e z=>by rw[(hf b z).1]at e;cases e
 have hfr:H T=none:=I.hok.fresh hT
 have neT:∀b u,s.heap.get? b=some u->b≠T:=λb u e z=>absurd (Yh e) (by rw[z];exact Nat.not_lt_of_le hT)
 have neH:∀b u,H b=some u->b≠T:=λb u e z=>by rw[z,hfr]at e;cases e
 refine I.step (g':=s.gens) (d':=s.drawn) (ch:=fp) (λb hb=>?_) (λb o _ _ hc e _=>k b o hc e) (λb o _ _ hc e _=>⟨o.slots,k b o hc e⟩) (λb u _ e n=>by rw[Zf (neT b u e)];exact n)
  (λb o hc e=>⟨o,k b o hc e⟩) (λb xs e=>by rw[Zf (neH b _ e)];exact e) (λb o u e=>by rw[Zf (neH b _ e)];exact e) (λb ps e=>⟨#[],by rw[Zf (neH b _ e),e];simp⟩) (λm hm=>?_) (λb u e=>?_) I.bare
 ·obtain⟨_,f1,_,f3,f4,f5⟩:=hf b hb
  exact⟨f3,f1,f4,f5⟩
 ·obtain⟨o,es,ep,ho,r⟩:=hm
  exact⟨o,es,ep,k _ o (λz=>(hf _ z).2.1 rfl) ho,r⟩
 ·by_cases z:b=T
  ·subst z
   rw[Zc]at e;cases e
   exact new
  ·rw[Zf z]at e
   refine(I.hok b u e).Zf1 (λc v hc q=>k c v ?_ q) (λc q=>?_) (λc xs q=>?_) λc o u q=>?_
   ·rcases hc with y|y
    ·rw[y];exact nit b u e
    ·exact nit c _ y
   ·rw[Zf (neH _ _ q)];exact q
   ·rw[Zf (neH _ _ q)];exact q
   ·rw[Zf (neH _ _ q)];exact q
noncomputable def Ite (K : Frag) (a : Addr) : It :=
  ⟨fun i H => ∃ xs x, SqL K H a xs ∧ xs[i]? = some x,
   fun i H v H' => ∃ p x, H p = none ∧ v = .ref p ∧ H' = upd H p (.tup [.int (i : Int), x]) ∧ ∀ xs, SqL K H a xs → xs[i]? = some x,
   fun i H => ∃ xs, SqL K H a xs ∧ xs.length = i⟩
theorem ZoI {P:Program}{w:World}{K:Frag}{elts:List Expr} {x1}{pos:Pos}{a e it:Addr} (h1:e≠it) (h2:a≠e) (h3:a≠it) :
  Turn P w K (.Tuple elts x1 pos) (Ite K a) [e,it] e (λi h=>(∃old,IsEnum h e it (i:Int) old)/\h.IsListIter it a i) where
 mem:=by simp
 obj:=λi h st c hc=>by
  obtain⟨⟨old,q1⟩,⟨o4,q4,_,d4⟩⟩:=st
  simp at hc
  rcases hc with rfl|rfl
  ·exact⟨_,q1,λv z=>by cases z⟩
  ·exact⟨_,q4,λv z=>by rw[d4]at z;cases z⟩
 keep:=λi h h' st k=>by
  obtain⟨⟨old,q1⟩,q4⟩:=st
  exact⟨⟨old,k e (by simp) _ q1⟩,q4.at λo z=>k it (by simp) o z⟩
 item:=by
  intro X hP hw hK hc i pins s σ H E I hf st hg
  subst hP hw hK
  obtain⟨xs,x,qa,hx⟩:=hg
  obtain⟨is1,r1,p1,hz1⟩:=I.list qa
  obtain⟨u,hu,ru⟩:=r1.get hx
  have W:=WalksT.enumerate (prog:=X.prog) (w:=X.w) (I.ok.hd hc) e it a h1 h2 h3 is1.toArray
  have hi:i<is1.toArray.size:=by
   have:=(Ym.mp hu).1
   simpa using this
  refine W.item i s _ E hi ⟨st.1,st.2,p1.isList⟩ λT vals h' tk Pt hT hTup Mid keep=>⟨_,rfl,W.go elts x1 pos i T _ _ E Mid λh2' St2 keep2=>?_⟩
  obtain⟨t,y,hy,rfl⟩:=Pt
  have hyu:y=u:=by
   have:is1[i]?=some y:=by simpa using hy
   rw[hu]at this;exact(YA this).symm
  subst hyu
  have nT:=W.apart i T h' Mid
  have hfr:H T=none:=I.hok.fresh hT
  have kk:∀b o,b∉[e,it]->s.heap.get? b=some o->h2'.get? b=some o:=λb o hb q=>keep2 b o hb (keep b o hb q)
  have nTe:∀c∈[e,it],c≠T:=λc hc z=>nT (z▸hc)
  refine⟨.ref T,_,Inv.ZnV (s:=s) (t':=tk) (o:=.tup [.int (i:Int),x]) I kk hf hT ?_,rfl,⟨T,x,hfr,rfl,rfl,λxs' q'=>?_⟩,⟨?_,St2.2.1⟩,λc hc=>?_⟩
  ·obtain⟨oT,q1,q2,n,q3⟩:=hTup
   exact⟨by show 2<=sizeLine;decide,[.int (i:Int) t,y],.cons ⟨t,rfl⟩ (.cons ru .nil),⟨oT,keep2 T oT nT q1,q2,n,q3⟩⟩
  ·rw[I.ZbG q' qa];exact hx
  ·obtain⟨old,q⟩:=St2.1
   exact⟨old,by rw[show(((i+1:Nat)):Int)=(i:Int)+1 by omega]at *;exact q⟩
  ·rw[Zf (nTe c hc)];exact(hf c hc).1
 done:=by
  intro X hP hw hK hc i pins s σ H E I hf st hg
  subst hP hw hK
  obtain⟨xs,qa,hx⟩:=hg
  obtain⟨is1,r1,p1,_⟩:=I.list qa
  have W:=WalksT.enumerate (prog:=X.prog) (w:=X.w) (I.ok.hd hc) e it a h1 h2 h3 is1.toArray
  have hi:i=is1.toArray.size:=by
   have:=r1.length
   simp;omega
  refine W.done s _ E ?_ λh' tk keep=>⟨rfl,I.ZnI (t':=tk) (fp:=[e,it]) (λc o hc q=>keep c o hc q) hf⟩
  rw[<-hi]
  exact⟨st.1,st.2,p1.isList⟩
 self:=λA i s Q E st h=>by
  obtain⟨⟨old,q⟩,_⟩:=st
  exact wpAny_pyIter_enum q h
noncomputable def Zqk (K:Frag) (ta:TA):TI:=fun σ H R=>ta σ H λvs H1=>∃a xs,vs=[.ref a]/\SqL K H1 a xs/\R (Ite K a) H1
theorem Zh4:bootBuiltins "enumerate"=some (.type "enumerate"):=by decide +kernel
theorem Ztj {K:Frag}{elts:List Expr} {x1}{tp:Pos}{e1:Expr}{ta:TA}{p pos:Pos} (hK:X.K=K) (hg:Gl X "enumerate") (hm:X.mg "enumerate"=none) (ha:PA X [e1] ta) (hs:starEach [e1] X.env=[(false,eval e1 X.env)]:=by rfl) :
  PI X (.Tuple elts x1 tp) (.Call (.Name "enumerate" p) [e1] [] pos) (Zqk K ta):=by
 subst hK
 intro pins s σ H R I h
 refine wpAny_Call_Name_kw (ZbR I hg hm Zh4 ?_)
 refine PyProof.Rows.callWith_type1 (thn (ha pos pins s σ H _ I h) λus s1 ⟨vs,H1,I1,r1,a,xs,e1,qa,q⟩=>?_) hs rfl
 subst e1
 obtain⟨u,rfl,ru⟩:=r1.one
 cases(show u=Value.ref a from ru)
 obtain⟨is1,rr1,p1,_⟩:=I1.list qa
 refine call_enumerate_list p1.isList λh' c1 c2 c3 c4=>?_
 have l1:a<s1.heap.objs.size:=by obtain⟨o,e,_⟩:=p1.isList;exact Yh e
 have sm:∀b,s1.heap.objs.size<=b->FpOk X pins H1 b:=λb hb=>I1.Zmi hb (I1.hok.fresh hb)
 have n1:s1.heap.objs.size+1≠s1.heap.objs.size:=by show ¬ ((_:Nat)=_);omega
 have n2:a≠s1.heap.objs.size+1:=Yk (YM l1)
 have n3:a≠s1.heap.objs.size:=Yk l1
 have T:=ZoI (P:=X.prog) (w:=X.w) (K:=X.K) (elts:=elts) (x1:=x1) (pos:=tp) n1 n2 n3
 refine T.self _ 0 _ _ _ ⟨⟨_,c1⟩,c2⟩ ?_
 refine⟨_,[s1.heap.objs.size+1,s1.heap.objs.size],_,_,H1,rfl,I1.kept (t':=s1.toks) c4,T,⟨⟨_,c1⟩,c2⟩,λc hc=>?_,q⟩
 simp at hc
 rcases hc with rfl|rfl<;>exact sm _ (by omega)
end
section
variable {X:Cx}
theorem ZjO:bootBuiltins "sorted"=some (.builtin "sorted"):=by decide +kernel
end
section
variable {prog:Program}{w:World}{A:Around}{E Q:Value->Shared->Prop}{s:Shared}{it t:Addr}{i:Nat}{items:Array Value}
theorem Zga {x:Value} (hi:s.heap.IsTupleIter it t i) (ht:s.heap.IsTuple t items) (hx:items[i]?=some x) (h:∀h',h'.IsTupleIter it t (i+1)->Heap.SameBut it s.heap h'->Q x {s with heap:=h'}):wpAny (model prog w) A (Builtin.SmallTypes.nextOf (.ref it)) Q E s:=by
 obtain⟨o,ho,hc,hd⟩:=id hi
 obtain⟨ot,hot,hct,n,hdt⟩:=id ht
 have hT:s.TypeIs (.ref it) "tuple_iterator":=⟨o,ho,hc⟩
 unfold Builtin.SmallTypes.nextOf
 refine Ya (wpAny_callSpecial?_slot hT F.slot_tuple_iterator_next (wpAny_call_entry F.slot_tuple_iterator_next hT F.entry_tuple_iterator_next ?_ (F.args_tuple_iterator_next_1 _)))
 show wpAny _ _ (_ >>= _) _ _ _
 refine Ya (wpAny_of_eq (show slotArgs "__next__" 0 {pos:=[.ref it]}=pure (.ref it,[])from rfl) ?_)
 refine Ya (wpAny_field ho hd (x:=.ref t) rfl ?_)
 rw[Yb (by simp)]
 refine Ya (wpAny_field ho hd (x:=.int (i:Int) 0) rfl ?_)
 refine Ya (wpAny_seqItems hot hdt ?_)
 dsimp only
 rw[Int.toNat_natCast,hx]
 refine Ya (wpAny_setField ho hd (by show 1<2;decide) (Yc ⟨x,rfl,?_⟩))
 refine Yc (h _ ?_ ⟨by simp,λb hb=>Heap.get?_update_other _ _ (Ne.symm hb)⟩)
 obtain⟨cls,dict,data,slots⟩:=o
 simp only at hc hd
 subst hc hd
 exact⟨_,Heap.get?_update_self _ ho rfl,rfl,rfl⟩
theorem ZgN (hA:A.handled=none) (hi:s.heap.IsTupleIter it t i) (ht:s.heap.IsTuple t items) (hx:items[i]?=none) (h:∀h' e,Heap.ExtBut it s.heap h'->(∃o,h'.get? e=some o/\o.cls=.type "StopIteration")->E (.ref e) {s with heap:=h'}):wpAny (model prog w) A (Builtin.SmallTypes.nextOf (.ref it)) Q E s:=by
 obtain⟨o,ho,hc,hd⟩:=id hi
 obtain⟨ot,hot,hct,n,hdt⟩:=id ht
 have hT:s.TypeIs (.ref it) "tuple_iterator":=⟨o,ho,hc⟩
 unfold Builtin.SmallTypes.nextOf
 refine Ya (wpAny_callSpecial?_slot hT F.slot_tuple_iterator_next (wpAny_call_entry F.slot_tuple_iterator_next hT F.entry_tuple_iterator_next ?_ (F.args_tuple_iterator_next_1 _)))
 show wpAny _ _ (_ >>= _) _ _ _
 refine Ya (wpAny_of_eq (show slotArgs "__next__" 0 {pos:=[.ref it]}=pure (.ref it,[])from rfl) ?_)
 refine Ya (wpAny_field ho hd (x:=.ref t) rfl ?_)
 rw[Yb (by simp)]
 refine Ya (wpAny_field ho hd (x:=.int (i:Int) 0) rfl ?_)
 refine Ya (wpAny_seqItems hot hdt ?_)
 dsimp only
 rw[Int.toNat_natCast,hx]
 refine Ya (wpAny_rule (Ya (wpAny_setField ho hd (by show 0<2;decide) ?_)))
 unfold Builtin.SmallTypes.stopIteration
 refine Ya ?_
 unfold newExc
 refine Ya (wpAny_newTuple ?_ (Yu _))
 refine Ya (wpAny_of_eq (show firstArgMember (.type "StopIteration") []=pure .none by first|rfl|(unfold firstArgMember;rfl)) ?_)
 refine wpAny_newObj_type (wpAny_raiseNew_none hA (h _ _ (λb o' hb e=>?_) ⟨_,Yt _ rfl,rfl⟩))
 exact Yi _ (Yi _ ((Heap.get?_update_other _ _ (Ne.symm hb)).trans e))
theorem Zhb (hA:A.handled=none) (it t:Addr) (hne:t≠it) (items:Array Value):Draws prog w A it [it,t] items.size (λi v=>items[i]?=some v) (λi h=>h.IsTupleIter it t i/\h.IsTuple t items) where
 live:=λi h st=>by obtain⟨⟨o,ho,_⟩,_⟩:=st;exact⟨o,ho⟩
 frame:=λi h h' st k=>by
  obtain⟨⟨o,ho,r⟩,⟨ot,hot,rt⟩⟩:=st
  exact⟨⟨o,k it (by simp) o ho,r⟩,⟨ot,k t (by simp) ot hot,rt⟩⟩
 item:=λi s Q E hi st h=>by
  obtain⟨ot,hot,rt⟩:=st.2
  refine Zga st.1 st.2 (Array.getElem?_eq_getElem hi) λh' hit hs=>h _ h' s.toks (Array.getElem?_eq_getElem hi) ⟨hit,⟨ot,(hs.2 t hne).trans hot,rt⟩⟩ hs
 done:=λs Q E st h=>ZgN hA st.1 st.2 (Array.getElem?_eq_none (Yf _)) h
end
section
variable {X:Cx}{pins:List (Addr×Obj)}{σ:St}{H:Hp}{s:Shared}{h':Heap}
noncomputable def IteT (K : Frag) (a : Addr) : It :=
  ⟨fun i H => ∃ xs x, SqT K H a xs ∧ xs[i]? = some x,
   fun i H v H' => ∃ p x, H p = none ∧ v = .ref p ∧ H' = upd H p (.tup [.int (i : Int), x]) ∧ ∀ xs, SqT K H a xs → xs[i]? = some x,
   fun i H => ∃ xs, SqT K H a xs ∧ xs.length = i⟩
theorem ZmF {P:Program}{w:World}{K:Frag}{elts:List Expr} {x1}{pos:Pos}{a e it:Addr} (h1:e≠it) (h2:a≠e) (h3:a≠it) :
  Turn P w K (.Tuple elts x1 pos) (IteT K a) [e,it] e (λi h=>(∃old,IsEnum h e it (i:Int) old)/\h.IsTupleIter it a i) where
 mem:=by simp
 obj:=λi h st c hc=>by
  obtain⟨⟨old,q1⟩,⟨o4,q4,_,d4⟩⟩:=st
  simp at hc
  rcases hc with rfl|rfl
  ·exact⟨_,q1,λv z=>by cases z⟩
  ·exact⟨_,q4,λv z=>by rw[d4]at z;cases z⟩
 keep:=λi h h' st k=>by
  obtain⟨⟨old,q1⟩,⟨o,ho,r⟩⟩:=st
  exact⟨⟨old,k e (by simp) _ q1⟩,⟨o,k it (by simp) o ho,r⟩⟩
 item:=by
  intro X hP hw hK hc i pins s σ H E I hf st hg
  subst hP hw hK
  obtain⟨xs,x,qa,hx⟩:=hg
  obtain⟨is1,r1,p1,hz1⟩:=I.tuple qa
  obtain⟨u,hu,ru⟩:=r1.get hx
  have W:=WalksT.enumerateD (prog:=X.prog) (w:=X.w) (A:=X.A) (Zhb (A:=X.A.in1) (I.ok.hd hc) it a h3 is1.toArray) e h1 (by simp;exact⟨h1,h2.symm⟩) (by simp)
  have hi:i<is1.toArray.size:=by
   have:=(Ym.mp hu).1
   simpa using this
  refine W.item i s _ E hi ⟨st.1,st.2,p1⟩ λT vals h' tk Pt hT hTup Mid keep=>⟨_,rfl,W.go elts x1 pos i T _ _ E Mid λh2' St2 keep2=>?_⟩
  obtain⟨t,y,hy,rfl⟩:=Pt
  have hyu:y=u:=by
   have:is1[i]?=some y:=by simpa using hy
   rw[hu]at this;exact(YA this).symm
  subst hyu
  have nT:=W.apart i T h' Mid
  have hfr:H T=none:=I.hok.fresh hT
  have kk:∀b o,b∉[e,it]->s.heap.get? b=some o->h2'.get? b=some o:=λb o hb q=>keep2 b o hb (keep b o hb q)
  have nTe:∀c∈[e,it],c≠T:=λc hc z=>nT (z▸hc)
  refine⟨.ref T,_,Inv.ZnV (s:=s) (t':=tk) (o:=.tup [.int (i:Int),x]) I kk hf hT ?_,rfl,⟨T,x,hfr,rfl,rfl,λxs' q'=>?_⟩,⟨?_,St2.2.1⟩,λc hc=>?_⟩
  ·obtain⟨oT,q1,q2,n,q3⟩:=hTup
   exact⟨by show 2<=sizeLine;decide,[.int (i:Int) t,y],.cons ⟨t,rfl⟩ (.cons ru .nil),⟨oT,keep2 T oT nT q1,q2,n,q3⟩⟩
  ·rw[I.Ze7 q' qa];exact hx
  ·obtain⟨old,q⟩:=St2.1
   exact⟨old,by rw[show(((i+1:Nat)):Int)=(i:Int)+1 by omega]at *;exact q⟩
  ·rw[Zf (nTe c hc)];exact(hf c hc).1
 done:=by
  intro X hP hw hK hc i pins s σ H E I hf st hg
  subst hP hw hK
  obtain⟨xs,qa,hx⟩:=hg
  obtain⟨is1,r1,p1,_⟩:=I.tuple qa
  have W:=WalksT.enumerateD (prog:=X.prog) (w:=X.w) (A:=X.A) (Zhb (A:=X.A.in1) (I.ok.hd hc) it a h3 is1.toArray) e h1 (by simp;exact⟨h1,h2.symm⟩) (by simp)
  have hi:i=is1.toArray.size:=by
   have:=r1.length
   simp;omega
  refine W.done s _ E ?_ λh' tk keep=>⟨rfl,I.ZnI (t':=tk) (fp:=[e,it]) (λc o hc q=>keep c o hc q) hf⟩
  rw[<-hi]
  exact⟨st.1,st.2,p1⟩
 self:=λA i s Q E st h=>by
  obtain⟨⟨old,q⟩,_⟩:=st
  exact wpAny_pyIter_enum q h
theorem ZmG {M:Model}{A:Around}{E:Value->Shared->Prop}{s:Shared} (cls:Value):wpAny M A (Builtin.SmallTypes.calledThroughType cls) (λ_ s'=>s'=s) E s:=by
 unfold Builtin.SmallTypes.calledThroughType
 exact Ya (wpAny_stack λst _ _ _=>Yc rfl)
theorem Zlr {prog:Program}{w:World} (l:Addr) (items:Array Value):MeetsIn prog w (Builtin.«enumerate.__new__» {pos:=[.type "enumerate",.ref l]}) λA R s=>s.heap.IsTuple l items/\R (.ok (.ret (.ref (s.heap.objs.size+1)))) {s with heap:=(s.heap.push {cls:=.type "tuple_iterator",data:=.fields #[.ref l,.int 0 0]}).push {cls:=.type "enumerate",data:=.fields #[.none,.bool false,.ref s.heap.objs.size,rawInt 0,.none,.none]}}:=by
 intro A R s ⟨h,hR⟩
 unfold Builtin.«enumerate.__new__»
 refine Ya (wpAny_of_eq (show Builtin.SmallTypes.newClass "enumerate" {pos:=[.type "enumerate",.ref l]}=pure (.type "enumerate",[.ref l])from by first|rfl|(unfold Builtin.SmallTypes.newClass;rfl)) ?_)
 show wpAny _ _ (_ >>= _) _ _ _
 have hsz:(s.heap.push {cls:=.type "tuple_iterator",data:=.fields #[.ref l,.int 0 0]}).objs.size=s.heap.objs.size+1:=Heap.size_push _ _
 refine Ya (thn (ZmG (.type "enumerate")) λb s' e=>?_)
 subst e
 cases b with
 |true =>
  show wpAny _ _ (_ >>= _) _ _ _
  refine Ya (wpAny_of_eq (show _=pure (.ref l,none)from rfl) ?_)
  show wpAny _ _ (_ >>= _) _ _ _
  refine Ya (wpAny_pyIter_tuple h ?_)
  show wpAny _ _ (newObj (.type "enumerate") (.fields #[.none,.bool false,.ref s'.heap.objs.size,rawInt 0,.none,.none]) >>= _) _ _ _
  refine Ya (wpAny_newObj_type (Yc ?_))
  rw[hsz];exact hR
 |false =>
  show wpAny _ _ (_ >>= _) _ _ _
  refine Ya (wpAny_of_eq (show _=pure (.ref l,none)from rfl) ?_)
  show wpAny _ _ (_ >>= _) _ _ _
  refine Ya (wpAny_pyIter_tuple h ?_)
  show wpAny _ _ (newObj (.type "enumerate") (.fields #[.none,.bool false,.ref s'.heap.objs.size,rawInt 0,.none,.none]) >>= _) _ _ _
  refine Ya (wpAny_newObj_type (Yc ?_))
  rw[hsz];exact hR
noncomputable def ZmH (K:Frag) (ta:TA):TI:=fun σ H R=>ta σ H λvs H1=>∃a xs,vs=[.ref a]/\SqT K H1 a xs/\R (IteT K a) H1
theorem Zql {K:Frag}{elts:List Expr} {x1}{tp:Pos}{e1:Expr}{ta:TA}{p pos:Pos} (hK:X.K=K) (hg:Gl X "enumerate") (hm:X.mg "enumerate"=none) (ha:PA X [e1] ta) (hs:starEach [e1] X.env=[(false,eval e1 X.env)]:=by rfl) :
  PI X (.Tuple elts x1 tp) (.Call (.Name "enumerate" p) [e1] [] pos) (ZmH K ta):=by
 subst hK
 intro pins s σ H R I h
 refine wpAny_Call_Name_kw (ZbR I hg hm Zh4 ?_)
 refine PyProof.Rows.callWith_type1 (thn (ha pos pins s σ H _ I h) λus s1 ⟨vs,H1,I1,r1,a,xs,e1,qa,q⟩=>?_) hs rfl
 subst e1
 obtain⟨u,rfl,ru⟩:=r1.one
 cases(show u=Value.ref a from ru)
 obtain⟨is1,rr1,p1,_⟩:=I1.tuple qa
 have l1:a<s1.heap.objs.size:=by obtain⟨o,e,_⟩:=p1;exact Yh e
 have sm:∀b,s1.heap.objs.size<=b->FpOk X pins H1 b:=λb hb=>I1.Zmi hb (I1.hok.fresh hb)
 have n1:s1.heap.objs.size+1≠s1.heap.objs.size:=by show ¬ ((_:Nat)=_);omega
 have n2:a≠s1.heap.objs.size+1:=Yk (YM l1)
 have n3:a≠s1.heap.objs.size:=Yk l1
 have T:=ZmF (P:=X.prog) (w:=X.w) (K:=X.K) (elts:=elts) (x1:=x1) (pos:=tp) n1 n2 n3
 have hsz:(s1.heap.push {cls:=.type "tuple_iterator",data:=.fields #[.ref a,.int 0 0]}).objs.size=s1.heap.objs.size+1:=Heap.size_push _ _
 have c1:IsEnum ((s1.heap.push {cls:=.type "tuple_iterator",data:=.fields #[.ref a,.int 0 0]}).push {cls:=.type "enumerate",data:=.fields #[.none,.bool false,.ref s1.heap.objs.size,rawInt 0,.none,.none]}) (s1.heap.objs.size+1) s1.heap.objs.size 0 .none:=by
  show Heap.get? _ _=_
  rw[<-hsz];exact Yt _ rfl
 have c2:((s1.heap.push {cls:=.type "tuple_iterator",data:=.fields #[.ref a,.int 0 0]}).push {cls:=.type "enumerate",data:=.fields #[.none,.bool false,.ref s1.heap.objs.size,rawInt 0,.none,.none]}).IsTupleIter s1.heap.objs.size a 0:=⟨_,Yi _ (Yt _ rfl),rfl,rfl⟩
 refine callType_newIn F.called_enumerate rfl (by first|rfl|decide) (F.newCall_enumerate_1 _) (λobj=>by first|rfl|decide) F.entry_enumerate_new (Zlr a is1.toArray) ⟨p1,⟨_,c1,rfl⟩,?_⟩
 refine T.self _ 0 _ _ _ ⟨⟨_,c1⟩,c2⟩ ?_
 refine⟨_,[s1.heap.objs.size+1,s1.heap.objs.size],_,_,H1,rfl,I1.kept (t':=s1.toks) (λb o e=>Yi _ (Yi _ e)),T,⟨⟨_,c1⟩,c2⟩,λc hc=>?_,q⟩
 simp at hc
 rcases hc with rfl|rfl<;>exact sm _ (by omega)
end
open Classical in
noncomputable def Zi5 (f:Nat->Int) (p:Nat):Int:=if h:∃q,ZaK f p q then (Classical.choose h:Nat)else -1
open Classical in
noncomputable def Zi6 (f:Nat->Int) (n p:Nat):Int:=if h:∃r,Zar f n p r then (Classical.choose h:Nat)else (n:Int)
theorem Zbg {f:Nat->Int}{p q:Nat} (h:ZaK f p q):Zi5 f p=q:=by
 have hx:∃q,ZaK f p q:=⟨q,h⟩
 unfold Zi5
 rw[dif_pos hx,(Classical.choose_spec hx).unique h]
theorem ZhH {f:Nat->Int}{p:Nat} (h:ZeB f p):Zi5 f p=-1:=by
 unfold Zi5
 rw[dif_neg λ⟨q,hq⟩=>hq.no h]
theorem Zbh {f:Nat->Int}{n p r:Nat} (h:Zar f n p r):Zi6 f n p=r:=by
 have hx:∃r,Zar f n p r:=⟨r,h⟩
 unfold Zi6
 rw[dif_pos hx,(Classical.choose_spec hx).unique h]
theorem Zgb {f:Nat->Int}{n p:Nat} (h:ZcY f n p):Zi6 f n p=n:=by
 unfold Zi6
 rw[dif_neg λ⟨q,hq⟩=>hq.no h]
theorem Zkp {f:Nat->Int}{n p:Nat}{e:Int} (h:ZN f n p e):(ZeB f p\/∃q,ZaK f p q)/\(ZcY f n p\/∃r,Zar f n p r):=by
 rcases h with⟨h1,h2,_⟩|⟨q,h1,h2,_⟩|⟨r,h1,h2,_⟩|⟨q,r,h1,h2,_⟩
 ·exact⟨.inl h1,.inl h2⟩
 ·exact⟨.inr ⟨q,h1⟩,.inl h2⟩
 ·exact⟨.inl h1,.inr ⟨r,h2⟩⟩
 ·exact⟨.inr ⟨q,h1⟩,.inr ⟨r,h2⟩⟩
theorem Zqm {J:It}{n:Nat}{g:TG}{tb:TS}{D:Ends}{σ:St}{H:Hp} (Pv:Nat->St->Hp->Prop) (h0:Pv 0 σ H) (hgo:∀i σ H,i<n->Pv i σ H->J.go i H) (hstop:∀σ H,Pv n σ H->J.stop n H)
  (hs:∀i x σ H H',i<n->Pv i σ H->J.yld i H x H'->g x σ H' fun σ2 H2=>tb {D with nx:=Pv (i+1),ct:=Pv (i+1),bk:=D.nx} σ2 H2) (hd:∀σ H,Pv n σ H->D.nx σ H):LoopR J g tb D σ H:=by
 refine⟨λi m σ H=>m=n-i/\i<=n/\Pv i σ H,⟨n,by simp,Yu _,h0⟩,?_⟩
 rintro i m σ H ⟨rfl,hi,p⟩
 by_cases hlt:i<n
 ·exact .inr ⟨hgo i σ H hlt p,Pv (i+1),fun σ' H' p'=>⟨n-(i+1),by omega,rfl,hlt,p'⟩,λx H' y=>hs i x σ H H' hlt p y⟩
 ·have:i=n:=by omega
  subst this
  exact .inl ⟨hstop σ H p,hd σ H p⟩
end L2
namespace PySem
open Sem (wp)
end PySem
namespace L2
open PySem PySem.Spec PyProof.Rows PySem.W
noncomputable def CDivL (i j:Int):Prop:=0<j/\j<18446744073709551616
theorem Zls {X:Cx}:OpR X (binaryOp .FloorDiv) (rI CDivL λi j=>.int (i / j)):=opI λi j _ _ _ _ _ hc q=>by
 have h1:(0:Int)<j:=hc.1
 have h2:j<18446744073709551616:=hc.2
 refine floordiv_int (by omega) (by rw[Int.fdiv_eq_ediv_of_nonneg i (by omega)];exact q) (.inl (PyProof.noPylong_of_log2 ?_))
 have h3:j.natAbs<2 ^ 64:=by omega
 have:j.natAbs.log2<64:=(Nat.log2_lt (by omega)).mpr h3
 omega
end L2
namespace L2
open PySem PySem.Spec PyProof.Rows PySem.W
end L2
namespace L2
open PySem PySem.Spec PyProof.Rows PySem.W
structure FunD (K:PySem.W.Frag) (x qual:Str) (st:Stmt) (f:Addr) (fd:FuncData) (dV:Value):Prop where
 ex:∃(oc:Value) (od:Option Addr) (kV doc pm:Value) (an:Option Addr) (cdv ct:Value) (osl:Array (Option Value)),
  fd=PySem.W.fnOf x qual (defArgs st) (defBody st) (defScope st) dV kV doc pm an cdv ct/\K.lookup f=some ⟨oc,od,.func fd,osl⟩/\PySem.W.codeIn K cdv qual=true
 kp:PySem.W.keepIn K (.ref f)=true
section
variable {P:Program}{w:World}{K:PySem.W.Frag}{mg:Str->Option Value}{base:Heap}
theorem FunD.okX {x qual:Str}{st:Stmt}{f:Addr}{fd:FuncData}{dV:Value}{N ps:List Str}{k:Nat}{sp:Sp} (F:FunD K x qual st f fd dV) (S:FnScope N ps (defScope st)) (len:∀vs H Q E,sp vs H Q E->vs.length=ps.length)
  (hbody:∀(cdv:Value) (A:Around) (outer:List Env) (s:Shared) (H:Hp) (vs:List V) (Q:VK) (E:XK),Room k (A.deeper (envOfC qual (defScope st) s.heap.objs.size f cdv))->sp vs H Q E ->
   ∃t,PSs (ZfB (CXE P w) P w K mg base N qual (defScope st) f cdv A outer s H E) (defBody st) t/\t {nx:=λ_ H'=>Q .non H',rt:=Q} (start N vs) H):FnOk P w K mg base (CXE P w) (k+1) f fd ps sp:=by
 obtain⟨oc,od,kV,doc,pm,an,cdv,ct,osl,rfl,lk,hcd⟩:=F.ex
 exact ZpL lk hcd S len λA outer s H vs Q E hr hsp=>hbody cdv A outer s H vs Q E hr hsp
theorem FunD.binds {x qual:Str}{st:Stmt}{f:Addr}{fd:FuncData}{D:Addr}{ps:List Str}{ds:List Value}{oc:Value}{od:Option Addr}{items:Array Value}{ep:Nat}{sl:Array (Option Value)} (F:FunD K x qual st f fd (.ref D))
  (lk:K.lookup D=some ⟨oc,od,.seq items ep,sl⟩)
  (h:∀(kV doc pm:Value) (an:Option Addr) (cdv ct:Value) (us:List Value),(us++ds).length=ps.length->∃k,bindArgs (PySem.W.fnOf x qual (defArgs st) (defBody st) (defScope st) (.ref D) kV doc pm an cdv ct) ⟨us,[]⟩=seqItems? (.ref D) >>= k/\k (some items)=pure (ps.zip (us++ds))):Binds K fd ps ds:=by
 obtain⟨oc,od,kV,doc,pm,an,cdv,ct,osl,rfl,lf,hcd⟩:=F.ex
 intro s us KX hl
 obtain⟨k,h1,h2⟩:=h kV doc pm an cdv ct us hl
 exact BindsTo.of_defaults rfl (KX _ _ lk) rfl h1 h2
theorem Ztk {x qual:Str}{st:Stmt}{f:Addr}{oc:Value}{od an:Option Addr}{osl:Array (Option Value)}{dV kV doc pm cdv ct:Value} (l:K.lookup f=some ⟨oc,od,.func (PySem.W.fnOf x qual (defArgs st) (defBody st) (defScope st) dV kV doc pm an cdv ct),osl⟩)
  (c:PySem.W.codeIn K cdv qual=true) (k:PySem.W.keepIn K (.ref f)=true):FunD K x qual st f (PySem.W.fnOf x qual (defArgs st) (defBody st) (defScope st) dV kV doc pm an cdv ct) dV:=⟨⟨oc,od,kV,doc,pm,an,cdv,ct,osl,rfl,l,c⟩,k⟩
end
noncomputable def Zkq (P:Program) (w:World) (K:Frag) (mg:Str->Option Value) (base:Heap) (x:Str) (k:Nat) (ps:List Str) (dvs:List V) (sp:Sp):Prop :=
 ∃f fd ds,mg x=some (.ref f)/\keepIn K (.ref f)=true/\Binds K fd ps ds/\Vals dvs ds/\FnOk P w K mg base (CXE P w) k f fd ps sp
theorem ZoJ {X:Cx}{x:Str}{k:Nat}{ps:List Str}{dvs:List V}{sp:Sp}{E:XK}{e:Expr}{es:List Expr}{t:TA}{p pos:Pos} (C:Zkq X.prog X.w X.K X.mg X.base x k ps dvs sp) (hr:Room k X.A) (hg:Gl X x) (hx:Passes (CXE X.prog X.w) X E)
  (ha:PA X (e::es) t) (hdb:(x==("__debug__":Str))=false:=by decide) (he:starEach (e::es) X.env=(false,eval e X.env)::starEach es X.env:=by rfl) (hpl:(backTo pos (starEach es X.env)).any (·.1)=false:=by rfl) :
  PE X (.Call (.Name x p) (e::es) [] pos) (Zlc sp dvs E t):=by
 obtain⟨f,fd,ds,hm,hk,hb,hv,F⟩:=C
 exact ZnA F hr hg hm hk hb hv hx ha hdb he hpl
structure KindsOf (K:Frag) (mg:Str->Option Value) (C:Addr) (b:Nat->Bool):Prop where
 z:ExK K C
 k0:kitOne K (.ref C) (.ref (clsAt mg "Unlike"))=some (b 0)
 k1:kitOne K (.ref C) (.ref (clsAt mg "Empty"))=some (b 1)
 k2:kitOne K (.ref C) (.ref (clsAt mg "TooMany"))=some (b 2)
 k3:kitOne K (.ref C) (.ref (clsAt mg "NoTree"))=some (b 3)
 k4:kitOne K (.ref C) (.ref (clsAt mg "NoTelling"))=some (b 4)
 k5:kitOne K (.ref C) (.ref (clsAt mg "NoPlace"))=some (b 5)
 k6:kitOne K (.ref C) (.ref (clsAt mg "NoNumber"))=some (b 6)
 k7:kitOne K (.ref C) (.ref (clsAt mg "NoPast"))=some (b 7)
 k8:kitOne K (.ref C) (.ref (clsAt mg "NoText"))=some (b 8)
 k9:kitOne K (.ref C) (.ref (clsAt mg "NoLine"))=some (b 9)
 kd:kitOne K (.ref C) (.ref (clsAt mg "DipError"))=some true
 kv:kitOne K (.ref C) (.type "ValueError")=some true
noncomputable def Zck (H:Hp) (l:Addr) (rs:List (List Int)):Prop:=∃as:List Addr,H l=some (.lst (as.map V.ref))/\as.length=rs.length/\∀i (h1:i<as.length) (h2:i<rs.length),H as[i]=some (.tup (rs[i].map V.int))
theorem Zck.same {H H':Hp}{l:Addr}{rs:List (List Int)} (R:Zck H l rs) (s:Ze H H'):Zck H' l rs:=by
 obtain⟨as,h1,h2,h3⟩:=R
 exact⟨as,s _ _ h1,h2,λi i1 i2=>s _ _ (h3 i i1 i2)⟩
noncomputable def Once (k:Nat) (ss ls:List Int):Prop:=ss=((List.range k).map λ(j:Nat)=>(j:Int)).filter (λj=>decide (j∉ls))/\ls=((List.range k).map λ(j:Nat)=>(j:Int)).filter (λj=>decide (j∈ls))
noncomputable instance (k:Nat) (ss ls:List Int):Decidable (Once k ss ls):=inferInstanceAs (Decidable (_/\_))
theorem Zck.walk {K:Frag}{H1:Hp}{d:Addr}{rs:List (List Int)} (R:Zck H1 d rs):(∀i H,Ze H1 H->i<rs.length->(Itl K d).go i H)/\(∀H,Ze H1 H->(Itl K d).stop rs.length H) /\
  ∀i x H H' (h:i<rs.length),Ze H1 H->(Itl K d).yld i H x H'->H'=H/\∃a,x=.ref a/\H a=some (.tup (rs[i].map V.int)):=by
 obtain⟨as,e,hl,hh⟩:=R
 refine⟨λi H s hi=>⟨_,V.ref (as[i]'(by omega)),SqL.of (s _ _ e),by simp[show i<as.length by omega]⟩,λH s=>⟨_,SqL.of (s _ _ e),by simp[hl]⟩,λi x H H' hi s y=>?_⟩
 obtain⟨e1,y⟩:=y
 have h1:=y _ (SqL.of (s _ _ e))
 rw[YD,Ye (show i<as.length by omega)]at h1
 cases h1
 exact⟨e1,_,rfl,s _ _ (hh i (by omega) hi)⟩
theorem Zck.sq {K:Frag}{H:Hp}{l:Addr}{rs:List (List Int)} (R:Zck H l rs):∃xs,SqL K H l xs:=by
 obtain⟨as,e,_⟩:=R
 exact⟨_,SqL.of e⟩
section
variable {N:Nat}{k:Nat->Int}{cmp:Nat->Nat->(Bool->Shared->Prop)->Shared->Prop}{s:Shared}{p:Array Nat}
noncomputable def kk (k:Nat->Int) (p:Array Nat) (i:Nat):Int:=k (p.getD i 0)
noncomputable def SoT (k:Nat->Int) (p:Array Nat) (m:Nat):Prop:=∀i j,i<=j->j<m->kk k p i<=kk k p j
noncomputable def DeT (k:Nat->Int) (p:Array Nat) (m:Nat):Prop:=∀i j,i<=j->j<m->kk k p j<=kk k p i
noncomputable def Bd (N:Nat) (p:Array Nat):Prop:=p.Perm (List.range N).toArray
theorem ZeC {p q:Array Nat}{i j:Nat} (h:p[i]?=q[j]?):kk k p i=kk k q j:=by
 unfold kk;rw[YK,YK,h]
theorem Bd.size (h:Bd N p):p.size=N:=by
 have:=(Array.perm_iff_toList_perm.mp h).length_eq
 simpa using this
theorem Bd.lt (h:Bd N p) (hN:0<N) (i:Nat):p.getD i 0<N:=by
 rw[YK]
 by_cases hi:i<p.size
 ·rw[getElem?_pos p i hi]
  have:=(Array.Perm.mem_iff h (a:=p[i])).mp (Array.getElem_mem hi)
  simpa using this
 ·rw[getElem?_neg p i hi];exact hN
theorem Bd.rev (h:Bd N p) (i j:Nat):Bd N (kas_rev p i j):=(mirror_perm p i j _).trans h
theorem Bd.bub (h:Bd N p) (i j:Nat):Bd N (bubble p i j):=(bubble_perm p i j).trans h
theorem ZmI {i j:Nat} (hj:j<=p.size) (x:Nat):kk k (kas_rev p i j) x=if i<=x/\x<j then kk k p (i+j-1-x)else kk k p x:=by
 have e:=getElem?_mirror_all (xs:=p) (i:=i) hj x
 by_cases h:i<=x/\x<j
 ·rw[Yd h]at e⊢;exact ZeC e
 ·rw[Yb h]at e⊢;exact ZeC e
theorem ZgO {i j:Nat} (hj:j<=p.size) (heq:∀x,i<=x->x<j->kk k p x=kk k p (j-1)) (x:Nat):kk k (kas_rev p i j) x=kk k p x:=by
 rw[ZmI hj]
 split
 ·rw[heq _ (by omega) (by omega),heq x (by omega) (by omega)]
 ·rfl
theorem Zqn {src d:Nat} (hs:src<p.size) (hd:d<=src) (x:Nat):kk k (bubble p src d) x=if x=src-d then kk k p src else if src-d<x/\x<=src then kk k p (x-1)else kk k p x:=by
 have e:=getElem?_bubble hs d hd x
 by_cases h1:x=src-d
 ·rw[Yd h1]at e⊢;exact ZeC e
 ·rw[Yb h1]at e⊢
  by_cases h2:src-d<x/\x<=src
  ·rw[Yd h2]at e⊢;exact ZeC e
  ·rw[Yb h2]at e⊢;exact ZeC e
noncomputable def Zgc (N:Nat) (k:Nat->Int) (cmp:Nat->Nat->(Bool->Shared->Prop)->Shared->Prop) (s:Shared):Prop:=∀i j C,i<N->j<N->C (decide (k i<k j)) s->cmp i j C s
theorem SoT.next {m:Nat} (h:SoT k p m) (h1:1<=m) (h2:kk k p (m-1)<=kk k p m):SoT k p (m+1):=by
 intro i j hij hj
 by_cases e:j=m
 ·subst e
  by_cases e2:i=j
  ·rw[e2];exact Int.le_refl _
  ·exact Int.le_trans (h i (j-1) (by omega) (by omega)) h2
 ·exact h i j hij (by omega)
theorem DeT.next {m:Nat} (h:DeT k p m) (h1:1<=m) (h2:kk k p m<=kk k p (m-1)):DeT k p (m+1):=by
 intro i j hij hj
 by_cases e:j=m
 ·subst e
  by_cases e2:i=j
  ·rw[e2];exact Int.le_refl _
  ·exact Int.le_trans h2 (h i (j-1) (by omega) (by omega))
 ·exact h i j hij (by omega)
theorem ZmJ (hc:Zgc N k cmp s) (hN:0<N) (hB:Bd N p) {Q:Nat->Shared->Prop}:∀f n,1<=n->SoT k p n->(∀m,n<=m->m<=n+f->SoT k p m->(m<n+f->kk k p m<kk k p (m-1))->Q m s)->(kas_asc p f n).kasWp cmp Q s
 |0,n,h1,hS,h=>h n (Yf _) (by omega) hS (λz=>by omega)
 |f+1,n,h1,hS,h=>by
  refine hc _ _ _ (hB.lt hN n) (hB.lt hN (n-1)) ?_
  by_cases z:kk k p n<kk k p (n-1)
  ·have:decide (k (p.getD n 0)<k (p.getD (n-1) 0))=true:=YO z
   rw[this]
   exact h n (Yf _) (by omega) hS λ_=>z
  ·have:decide (k (p.getD n 0)<k (p.getD (n-1) 0))=false:=YI z
   rw[this]
   exact ZmJ hc hN hB f (n+1) (by omega) (hS.next h1 (by omega)) λm m1 m2 hm hl=>h m (by omega) (by omega) hm λy=>hl (by omega)
theorem ZhI (hc:Zgc N k cmp s) (hN:0<N) {Q:Array Nat×Nat×Nat->Shared->Prop}:∀f (p:Array Nat) n q,Bd N p->1<=n->n+f<=N->q<n->DeT k p n->(∀x,n-(q+1)<=x->x<n->kk k p x=kk k p (n-1)) ->
  (∀p' n' q',Bd N p'->n<=n'->n'<=n+f->q'<n'->DeT k p' n'->(∀x,n'-(q'+1)<=x->x<n'->kk k p' x=kk k p' (n'-1))->Q (p',n',q') s)->(kas_desc f p n q).kasWp cmp Q s
 |0,p,n,q,hB,h1,hn,hq,hD,he,h=>h p n q hB (Yf _) (by omega) hq hD he
 |f+1,p,n,q,hB,h1,hn,hq,hD,he,h=>by
  refine hc _ _ _ (hB.lt hN n) (hB.lt hN (n-1)) ?_
  have hz:=hB.size
  by_cases z:kk k p n<kk k p (n-1)
  ·have:decide (k (p.getD n 0)<k (p.getD (n-1) 0))=true:=YO z
   rw[this]
   show KasT.kasWp cmp (if q>0 then kas_desc f (kas_rev p (n-(q+1)) n) (n+1) 0 else kas_desc f p (n+1) 0) Q s
   by_cases y:q>0
   ·rw[Yd y]
    have ke:=ZgO (k:=k) (p:=p) (i:=n-(q+1)) (j:=n) (by omega) he
    refine ZhI hc hN f _ (n+1) 0 (hB.rev _ _) (by omega) (by omega) (by omega) ?_ (λx x1 x2=>by rw[show x=n+1-1 by omega]) λp' n' q' b1 b2 b3=>h p' n' q' b1 (by omega) (by omega)
    refine DeT.next (λi j i1 j1=>by rw[ke,ke];exact hD i j i1 j1) h1 (by rw[ke,ke];omega)
   ·rw[Yb y]
    exact ZhI hc hN f p (n+1) 0 hB (by omega) (by omega) (by omega) (hD.next h1 (by omega)) (λx x1 x2=>by rw[show x=n+1-1 by omega]) λp' n' q' b1 b2 b3=>h p' n' q' b1 (by omega) (by omega)
  ·have:decide (k (p.getD n 0)<k (p.getD (n-1) 0))=false:=YI z
   rw[this]
   refine hc _ _ _ (hB.lt hN (n-1)) (hB.lt hN n) ?_
   by_cases y:kk k p (n-1)<kk k p n
   ·have:decide (k (p.getD (n-1) 0)<k (p.getD n 0))=true:=YO y
    rw[this]
    exact h p n q hB (Yf _) (by omega) hq hD he
   ·have:decide (k (p.getD (n-1) 0)<k (p.getD n 0))=false:=YI y
    rw[this]
    have e:kk k p n=kk k p (n-1):=by omega
    refine ZhI hc hN f p (n+1) (q+1) hB (by omega) (by omega) (by omega) (hD.next h1 (by omega)) (λx x1 x2=>?_) λp' n' q' b1 b2 b3=>h p' n' q' b1 (by omega) (by omega)
    rw[Nat.add_sub_cancel]
    by_cases w:x=n
    ·rw[w]
    ·rw[e];exact he x (by omega) (by omega)
theorem Zlt (hc:Zgc N k cmp s) (hN:0<N) {Q:Nat×Array Nat->Shared->Prop}{n nrem:Nat} (hB:Bd N p) (h1:1<=n) (hn:n<=nrem) (hr:nrem<=N) (hD:DeT k p n)
  (h:∀m p',Bd N p'->n<=m->m<=nrem->SoT k p' m->Q (m,p') s):(kas_tail3 n nrem p).kasWp cmp Q s:=by
 unfold kas_tail3
 rw[KasT.kasWp_bind]
 have hz:=hB.size
 refine ZmJ hc hN (hB.rev 0 n) _ n h1 (λi j hij hj=>?_) λm m1 m2 hS _=>h m _ (hB.rev 0 n) m1 (by omega) hS
 rw[ZmI (by omega),ZmI (by omega),Yd (by omega),Yd (by omega)]
 exact hD _ _ (by omega) (by omega)
theorem Zhc (hc:Zgc N k cmp s) (hN:0<N) {Q:Nat×Array Nat->Shared->Prop}{n nrem:Nat} (hB:Bd N p) (hn:n+1<=nrem) (hr:nrem<=N) (hD:DeT k p (n+1))
  (h:∀m p',Bd N p'->1<=m->m<=nrem->SoT k p' m->Q (m,p') s):(kas_descPart n nrem p).kasWp cmp Q s:=by
 unfold kas_descPart
 rw[KasT.kasWp_bind]
 refine ZhI hc hN _ p (n+1) 0 hB (by omega) (by omega) (by omega) hD (λx x1 x2=>by rw[show x=n+1-1 by omega]) λp' n' q' b1 b2 b3 b4 hD' he=>?_
 show KasT.kasWp cmp (if q'>0 then kas_tail3 n' nrem (kas_rev p' (n'-(q'+1)) n')else kas_tail3 n' nrem p') Q s
 have hz:=b1.size
 by_cases y:q'>0
 ·rw[Yd y]
  have ke:=ZgO (k:=k) (p:=p') (i:=n'-(q'+1)) (j:=n') (by omega) he
  exact Zlt hc hN (b1.rev _ _) (by omega) (by omega) hr (λi j i1 j1=>by rw[ke,ke];exact hD' i j i1 j1) λm p2 c1 c2 c3=>h m p2 c1 (by omega) c3
 ·rw[Yb y]
  exact Zlt hc hN b1 (by omega) (by omega) hr hD' λm p2 c1 c2 c3=>h m p2 c1 (by omega) c3
theorem Zqo (hc:Zgc N k cmp s) (hN:0<N) {Q:Nat×Array Nat->Shared->Prop}{nrem:Nat} (hB:Bd N p) (h0:1<=nrem) (hr:nrem<=N)
  (h:∀m p',Bd N p'->1<=m->m<=nrem->SoT k p' m->Q (m,p') s):(kas_count nrem p).kasWp cmp Q s:=by
 unfold kas_count
 rw[KasT.kasWp_bind]
 have hz:=hB.size
 refine ZmJ hc hN hB _ 1 (Yf _) (λi j hij hj=>by rw[show i=j by omega];exact Int.le_refl _) λn n1 n2 hS hl=>?_
 by_cases e:(n==nrem)=true
 ·rw[Yd e]
  exact h n p hB n1 (by omega) hS
 ·rw[Yb e]
  have ne:n≠nrem:=λz=>e (by rw[z];exact beq_self_eq_true _)
  have hlt:=hl (by omega)
  by_cases y:n>1
  ·rw[Yd y]
   refine hc _ _ _ (hB.lt hN 0) (hB.lt hN (n-1)) ?_
   by_cases z:kk k p 0<kk k p (n-1)
   ·have:decide (k (p.getD 0 0)<k (p.getD (n-1) 0))=true:=YO z
    rw[this]
    exact h n p hB n1 (by omega) hS
   ·have:decide (k (p.getD 0 0)<k (p.getD (n-1) 0))=false:=YI z
    rw[this]
    have alle:∀x,0<=x->x<n->kk k p x=kk k p (n-1):=λx _ hx=>by
     have a:=hS 0 x (by omega) hx
     have b:=hS x (n-1) (by omega) (by omega)
     omega
    have ke:=ZgO (k:=k) (p:=p) (i:=0) (j:=n) (by omega) alle
    refine Zhc hc hN (hB.rev 0 n) (by omega) hr (DeT.next (λi j i1 j1=>?_) (by omega) (by rw[ke,ke];omega)) h
    rw[ke,ke,alle i (by omega) (by omega),alle j (by omega) (by omega)]
    exact Int.le_refl _
  ·rw[Yb y]
   have:n=1:=by omega
   subst this
   exact Zhc hc hN hB (by omega) hr (DeT.next (λi j i1 j1=>by rw[show i=j by omega];exact Int.le_refl _) (Yf _) (by omega)) h
theorem Zh5 (hc:Zgc N k cmp s) (hN:0<N) (hB:Bd N p) {x:Nat}{Q:Nat->Shared->Prop} (hS:SoT k p x):∀f l r,l<=r->r<=x->r-l<=f->(∀i,i<l->kk k p i<=kk k p x)->(∀i,r<=i->i<x->kk k p x<kk k p i) ->
  (∀l,l<=x->(∀i,i<l->kk k p i<=kk k p x)->(∀i,l<=i->i<x->kk k p x<kk k p i)->Q l s)->(kas_place p x f l r).kasWp cmp Q s
 |0,l,r,h1,h2,h3,hlo,hhi,h=>h l (by omega) hlo (λi i1 i2=>hhi i (by omega) i2)
 |f+1,l,r,h1,h2,h3,hlo,hhi,h=>by
  show KasT.kasWp cmp (if l ≥ r then .ret l else .ask (p.getD x 0) (p.getD ((l+r) / 2) 0) λc=>if c=true then kas_place p x f l ((l+r) / 2)else kas_place p x f ((l+r) / 2+1) r) Q s
  by_cases y:l ≥ r
  ·rw[Yd y]
   exact h l (by omega) hlo (λi i1 i2=>hhi i (by omega) i2)
  ·rw[Yb y]
   refine hc _ _ _ (hB.lt hN x) (hB.lt hN _) ?_
   by_cases z:kk k p x<kk k p ((l+r) / 2)
   ·have:decide (k (p.getD x 0)<k (p.getD ((l+r) / 2) 0))=true:=YO z
    rw[this]
    exact Zh5 hc hN hB hS f l ((l+r) / 2) (by omega) (by omega) (by omega) hlo (λi i1 i2=>Int.lt_of_lt_of_le z (hS _ _ i1 i2)) h
   ·have:decide (k (p.getD x 0)<k (p.getD ((l+r) / 2) 0))=false:=YI z
    rw[this]
    exact Zh5 hc hN hB hS f ((l+r) / 2+1) r (by omega) (by omega) (by omega) (λi i1=>Int.le_trans (hS i ((l+r) / 2) (by omega) (by omega)) (Int.not_lt.mp z)) hhi h
theorem Zqp (hc:Zgc N k cmp s) (hN:0<N) {Q:Array Nat->Shared->Prop}:∀f (p:Array Nat) x,Bd N p->x+f<=N->SoT k p x->(∀p',Bd N p'->SoT k p' (x+f)->Q p' s)->(kas_bin f p x).kasWp cmp Q s
 |0,p,x,hB,hx,hS,h=>h p hB hS
 |f+1,p,x,hB,hx,hS,h=>by
  show KasT.kasWp cmp ((kas_place p x x 0 x).bind λl=>kas_bin f (bubble p x (x-l)) (x+1)) Q s
  rw[KasT.kasWp_bind]
  have hz:=hB.size
  refine Zh5 hc hN hB hS x 0 x (by omega) (Yf _) (by omega) (λi hi=>by omega) (λi i1 i2=>by omega) λl hl hlo hhi=>?_
  refine Zqp hc hN f _ (x+1) (hB.bub _ _) (by omega) (λi j hij hj=>?_) λp' b1 b2=>h p' b1 (by rw[show x+(f+1)=x+1+f by omega];exact b2)
  rw[Zqn (by omega) (by omega),Zqn (by omega) (by omega),show x-(x-l)=l by omega]
  repeat' split
  all_goals first
   |(exfalso;omega)
   |exact Int.le_refl _
   |exact hlo _ (by omega)
   |exact Int.le_of_lt (hhi _ (by omega) (by omega))
   |exact hS _ _ (by omega) (by omega)
theorem Ztl (hN:0<N) (hc:Zgc N k cmp s) {Q:Array Nat->Shared->Prop} (h:∀p,Bd N p->SoT k p N->Q p s):(kas_sort N).kasWp cmp Q s:=by
 unfold kas_sort
 rw[KasT.kasWp_bind]
 refine Zqo hc hN (show Bd N (List.toArray (List.range N))from Array.Perm.refl _) (by omega) (Yf _) λm p' b1 b2 b3 b4=>?_
 show KasT.kasWp cmp (if m<N then kas_bin (N-max m 1) p' (max m 1)else .ret p') Q s
 by_cases y:m<N
 ·rw[Yd y]
  have e:max m 1=m:=by omega
  rw[e]
  exact Zqp hc hN _ p' m b1 (by omega) b4 λp2 c1 c2=>h p2 c1 (by rw[show m+(N-m)=N by omega]at c2;exact c2)
 ·rw[Yb y]
  have:m=N:=by omega
  subst this
  exact h p' b1 b4
end
section
variable {prog:Program}{w:World}{E:Value->Shared->Prop}{s:Shared}
noncomputable def Zhd (vs:List Value) (p:Array Nat):Array Value:=List.toArray (p.toList.map λi=>vs.getD i Value.none)
theorem ZmK {A:Around}{κ:SortKind}{key:Nat->Int}{a:Addr}{vs:List Value}{n:Nat}{P:PySem.Fin->Shared->Prop} (ho:s.heap.get? a=some (seqObj "list" vs.toArray n)) (h64:vs.length<64)
  (hk:∀s':Shared,(∀b o,b≠a->s.heap.get? b=some o->s'.heap.get? b=some o)->2<=vs.length->(∀Q:SortKind->Shared->Prop,Q κ s'->wpAny (model prog w) A (keyKind' vs.toArray) Q E s')/\Zgc vs.length key (kas_ask prog w A κ vs) s')
  (fin:∀p:Array Nat,Bd vs.length p->SoT key p vs.length->P (.done (.ret .none)) {s with heap:=sortedHeap s.heap a vs (Zhd vs p)}):wpAny (model prog w) A (Builtin.«list.sort» ⟨[.ref a],[]⟩) P E s:=by
 have lt:=Yh ho
 obtain⟨c1,oc1⟩:∃c1,(s.heap.update a (Obj.mapSeq λ_=>#[])).get? a=some (seqObj "list" #[] c1):=⟨_,get?_update_seq ho λ_=>#[]⟩
 have oc6:(((s.heap.update a (Obj.mapSeq λ_=>#[])).push (seqObj "tuple" vs.toArray 0)).push (seqObj "list" #[] 0)).get? a=some (seqObj "list" #[] c1):=Yi _ (Yi _ oc1)
 have kp:∀b o,b≠a->s.heap.get? b=some o->(((s.heap.update a (Obj.mapSeq λ_=>#[])).push (seqObj "tuple" vs.toArray 0)).push (seqObj "list" #[] 0)).get? b=some o:=λb o nb e =>
  Yi _ (Yi _ (by rw[Heap.get?_update_ne _ _ _ _ nb];exact e))
 have z1:vs.toArray.size=vs.length:=Yr ..
 have za:∀p:Array Nat,Bd vs.length p->(Zhd vs p).size<=sizeLine:=λp hp=>by
  have:=hp.size
  unfold Zhd
  rw[Yr,Yj,Yp,this,sizeLine_eq];omega
 rw[list_sort_plain]
 have hob:=ho
 refine Ya (listItems_at hob rfl (Ya ?_))
 refine listUpdate_at hob rfl (Ya (seqEpoch_at oc1 rfl (Ya ?_))) (by rw[z1,sizeLine_eq];omega) (Yu _)
 refine wpAny_newTuple (Ya ?_) (Yo (show vs.length<=64 by omega) (by decide))
 refine wpAny_newList (YB ?_) (Yu _)
 show wpAny (model prog w) A _ P E {s with heap:=(((s.heap.update a (Obj.mapSeq λ_=>#[])).push (seqObj "tuple" vs.toArray 0)).push (seqObj "list" #[] 0))}
 dsimp only
 by_cases h2:vs.toArray.size<2
 ·rw[Yd h2,Yd h2]
  refine Ya (Yc ?_)
  rw[StateT.run_pure]
  refine Ya (Yc ?_)
  have hB:Bd vs.length (List.range vs.length).toArray:=Array.Perm.refl _
  have e:=kas_range (vs.toArray.zip vs.toArray)
  rw[show(vs.toArray.zip vs.toArray).size=vs.length by simp]at e
  have eo:(arrOf (SortSt.mk' general' (vs.toArray.zip vs.toArray) #[] 7 none)).map (·.2)=Zhd vs (List.range vs.length).toArray:=kat_snds (ks:=vs) (vs:=vs) rfl e.symm
  dsimp only
  rw[eo]
  refine Ya (seqEpoch_at oc6 rfl (Ya (listUpdate_at oc6 rfl ?_ (Yu _) (Nat.le_succ_of_le (za _ hB)))))
  simp only[bne_self_eq_false,Bool.false_eq_true,if_false]
  exact Yc (fin _ hB λi j h1 hj=>by rw[show i=j by omega];exact Int.le_refl _)
 ·rw[Yb h2,Yb h2]
  have h2':2<=vs.length:=by omega
  obtain⟨hk1,hk2⟩:=hk {s with heap:=(((s.heap.update a (Obj.mapSeq λ_=>#[])).push (seqObj "tuple" vs.toArray 0)).push (seqObj "list" #[] 0))} kp h2'
  refine Ya (hk1 _ (Ya (Yz (kat_run (ks:=vs) (vs:=vs) (Q:=λst s'=>∃p:Array Nat,Bd vs.length p/\SoT key p vs.length/\arrOf st=p.map (kas_item (vs.toArray.zip vs.toArray))/\failedOf st=none/\s'={s with heap:=(((s.heap.update a (Obj.mapSeq λ_=>#[])).push (seqObj "tuple" vs.toArray 0)).push (seqObj "list" #[] 0))})
   (G:=λp s'=>Bd vs.length p/\SoT key p vs.length/\s'={s with heap:=(((s.heap.update a (Obj.mapSeq λ_=>#[])).push (seqObj "tuple" vs.toArray 0)).push (seqObj "list" #[] 0))}) rfl h2' h64 (λp st s' _ a2 a3 a4=>⟨p,a4.1,a4.2.1,a2,a3,a4.2.2⟩) (Ztl (by omega) hk2 λp b1 b2=>⟨b1,b2,rfl⟩)) ?_ λ_ _ z=>z)))
  rintro⟨⟨⟩,st⟩ s' ⟨p,b1,b2,har,hf,rfl⟩
  have eo:(arrOf st).map (·.2)=Zhd vs p:=kat_snds (ks:=vs) (vs:=vs) rfl har
  dsimp only
  rw[eo]
  refine Ya (seqEpoch_at oc6 rfl (Ya (listUpdate_at oc6 rfl ?_ (Yu _) (Nat.le_succ_of_le (za _ b1)))))
  rw[hf]
  simp only[bne_self_eq_false,Bool.false_eq_true,if_false]
  exact Yc (fin p b1 b2)
end
noncomputable def goN:Nat->Nat->Int
 |0,_=>1
 |r+1,j=>((List.range (j+1)).map λi=>goN r (i+1)).sum
noncomputable def fewer (r st d:Nat):Int:=((List.range d).map λf=>goN r (st+1-f)).sum
end L2
namespace L2
open PySem PySem.Spec PyProof.Rows PySem.W
theorem Zgd:∀ds:List Nat,(ds.map λ(d:Nat)=>(d:Int)).sum=((ds.sum:Nat):Int)
 |[]=>rfl
 |d::ds=>by rw[YC,List.sum_cons,List.sum_cons,Zgd ds];omega
end L2
namespace L2
noncomputable def rk:Nat->List Nat->Int
 |_,[]=>0
 |st,d::ds=>fewer ds.length st d+rk (st-d+1) ds
noncomputable def Ok:Nat->List Nat->Prop
 |_,[]=>True
 |st,d::ds=>d<=st/\Ok (st-d+1) ds
end L2
namespace L2
open PySem PySem.Spec PyProof.Rows PySem.W
end L2
namespace L2
open PySem PySem.Spec PyProof.Rows PySem.W
noncomputable def Zkr (P:Program) (w:World) (K:Frag) (mg:Str->Option Value) (base:Heap) (c:Str) (k:Nat) (ps:List Str) (sp:Sp):Prop :=
 ∃f fd,Mk K (clsAt mg c) f/\mg c=some (.ref (clsAt mg c))/\Binds K fd ps []/\FnOk P w K mg base (CXE P w) k f fd ps sp
noncomputable def ZcI (P:Program) (w:World) (K:Frag) (mg:Str->Option Value) (base:Heap) (c m:Str) (k:Nat) (ps:List Str) (sp:Sp):Prop :=
 ∃f fd,Cls K (clsAt mg c)/\Meth K (clsAt mg c) m f/\Binds K fd ps []/\FnOk P w K mg base (CXE P w) k f fd ps sp
section
variable {X:Cx}{a:Expr}{ta:TE}{pos:Pos}
noncomputable def Zqq (C:Addr) (ta:TE) (f:Str):TE:=fun σ H Q=>ta σ H λx H1=>∃(o dx:Addr) (fs:List (Str×V)) (v:V),x=.ref o/\H1 o=some (.ins C dx fs)/\fs.lookup f=some v/\Q v H1
theorem ZaZ {K:Frag}{C:Addr}{f:Str} (hK:X.K=K) (c:Cls K C) (n:NoAttr K C f) (he:PE X a ta) (hb:attributeBase a f X.env (eval a X.env)=eval a X.env:=by rfl):PE X (.Attribute a f pos) (Zqq C ta f):=by
 subst hK
 intro pins s σ H Q I h
 refine Zs6 hb (thn (he pins s σ H _ I h) λu s1 ⟨x,H1,I1,rx,o,dx,fs,v,ex,ea,l,q⟩=>?_)
 subst ex
 obtain rfl:u=Value.ref o:=rx
 exact Zmm I1 ea c n l λu' s2 I2 ru=>⟨v,H1,I2,ru,q⟩
noncomputable def Zqr (C:Addr) (ta tv:TE) (f:Str):TS:=λD σ H=>tv σ H λy H1=>ta σ H1 λx H2=>∃(o dx:Addr) (fs:List (Str×V)),x=.ref o/\H2 o=some (.ins C dx fs)/\fs.length<1000/\D.nx σ (upd H2 o (.ins C dx (ZbH f y fs)))
theorem ZhJ {K:Frag}{C:Addr}{f:Str}{value:Expr}{tv:TE}{pos':Pos} (hK:X.K=K) (c:Cls K C) (n:NoAttr K C f) (ha:PE X a ta) (hv:PE X value tv) (hs:swapsWith value (some (.Attribute a f pos')) pos.line X.env=pure false:=by rfl):PS X (.Assign [.Attribute a f pos'] value pos) (Zqr C ta tv f):=by
 subst hK
 intro pins s σ H D I h
 refine plainObj_wpAny_Assign_Attribute (thn (hv pins s σ H _ I h) λu s1 ⟨y,H1,I1,ry,q⟩=>thn (ha pins s1 σ H1 _ I1 q) λov s2 ⟨x,H2,I2,rx,o,dx,fs,ex,ea,l,q2⟩=>?_) hs
 subst ex
 obtain rfl:ov=Value.ref o:=rx
 exact Zmo I2 ea c n l ry λs3 I3=>⟨σ,_,I3,q2⟩
theorem Zqs {x:Str}{k:Nat}{ps:List Str}{sp:Sp}{E:XK}{e:Expr}{es:List Expr}{t:TA}{p:Pos}{mg:Str->Option Value} (hmg:X.mg=mg) (C:Zkr X.prog X.w X.K mg X.base x k ps sp) (hr:Room (k+1) X.A) (hg:Gl X x) (hx:Passes (CXE X.prog X.w) X E)
  (ha:PA X (e::es) t) (hdb:(x==("__debug__":Str))=false:=by decide) (he:starEach (e::es) X.env=(false,eval e X.env)::starEach es X.env:=by rfl) (hpl:(backTo pos (starEach es X.env)).any (·.1)=false:=by rfl) :
  PE X (.Call (.Name x p) (e::es) [] pos) (Znz (clsAt mg x) sp [] E t):=by
 subst hmg
 obtain⟨f,fd,hM,hm,hb,F⟩:=C
 exact Zs8 hM F hr hg hm hb .nil hx ha hdb he hpl
theorem ZeD {c m:Str}{k:Nat}{ps:List Str}{sp:Sp}{E:XK}{e:Expr}{es:List Expr}{t:TA}{apos:Pos}{mg:Str->Option Value} (hmg:X.mg=mg) {pl:Sem Bool} (C:ZcI X.prog X.w X.K mg X.base c m k ps sp) (hr:Room k X.A) (hx:Passes (CXE X.prog X.w) X E) (he:PE X a ta)
  (ha:PA X (e::es) t) (hst:starEach (e::es) X.env=(false,eval e X.env)::starEach es X.env:=by rfl) (hpl:(backTo pos (starEach es X.env)).any (·.1)=false:=by rfl)
  (ht:eval (.Call (.Attribute a m apos) (e::es) [] pos) X.env=(do
   let ov <-eval a X.env
   standAt apos.atName
   let (f,first) <-holding [ov] (getMethod ov m pl)
   callWith pos f first (backTo pos (starEach (e::es) X.env)) (backToKw pos (keywordEach [] X.env))):=by rfl) :
  PE X (.Call (.Attribute a m apos) (e::es) [] pos) (Zny (clsAt mg c) m sp [] E ta t):=by
 subst hmg
 obtain⟨f,fd,hc,hm,hb,F⟩:=C
 exact Zs7 he hc hm F hr hb .nil hx ha hst hpl ht
end
end L2
namespace L2
open PySem PySem.Spec PyProof.Rows
section
variable {κ:Type} [DecidableEq κ]
noncomputable def ZaX (kvs:List (κ×V)) (k:κ):Option V:=(kvs.find? λkv=>decide (kv.1=k)).map (·.2)
noncomputable def putK (kvs:List (κ×V)) (k:κ) (v:V):List (κ×V) :=
 if (kvs.any λkv=>decide (kv.1=k))=true then kvs.map (λkv=>if kv.1=k then (kv.1,v)else kv)else kvs++[(k,v)]
theorem Zqt {k:κ}:ZaX ([]:List (κ×V)) k=none:=rfl
theorem Zaa {p:κ×V}{r:List (κ×V)}{k:κ} (e:p.1=k):ZaX (p::r) k=some p.2:=by simp[ZaX,List.find?_cons,e]
theorem Zab {p:κ×V}{r:List (κ×V)}{k:κ} (e:¬ p.1=k):ZaX (p::r) k=ZaX r k:=by simp[ZaX,List.find?_cons,e]
theorem Zcl (k:κ):∀kvs:List (κ×V),(kvs.any λkv=>decide (kv.1=k))=(ZaX kvs k).isSome
 |[]=>rfl
 |p::r=>by
  rw[List.any_cons]
  by_cases e:p.1=k
  ·simp only[Zaa e,YO e,Bool.true_or,Option.isSome_some]
  ·rw[Zab e,YI e,Bool.false_or];exact Zcl k r
theorem Zlu (k j:κ) (y:V):∀kvs:List (κ×V),ZaX (kvs.map λkv=>if kv.1=k then (kv.1,y)else kv) j=(ZaX kvs j).map λx=>if j=k then y else x
 |[]=>rfl
 |p::r=>by
  have ih:=Zlu k j y r
  rw[YC]
  by_cases h:p.1=k
  ·rw[Yd h]
   by_cases e:p.1=j
   ·rw[Zaa (p:=(p.1,y)) e,Zaa e,Option.map_some,Yd (e.symm.trans h)]
   ·rw[Zab (p:=(p.1,y)) e,Zab e,ih]
  ·rw[Yb h]
   by_cases e:p.1=j
   ·rw[Zaa (p:=p) e,Zaa e,Option.map_some,Yb (λz=>h (e.trans z))]
   ·rw[Zab (p:=p) e,Zab e,ih]
theorem ZjP (k j:κ) (y:V):∀kvs:List (κ×V),ZaX kvs k=none->ZaX (kvs++[(k,y)]) j=if j=k then some y else ZaX kvs j
 |[],_=>by
  by_cases e:k=j
  ·rw[Yd e.symm];exact Zaa (p:=(k,y)) e
  ·rw[Yb (λz=>e z.symm)];exact Zab (p:=(k,y)) e
 |p::r,hn=>by
  rw[List.cons_append]
  have hk:¬ p.1=k:=λz=>by rw[Zaa z]at hn;cases hn
  rw[Zab hk]at hn
  have ih:=ZjP k j y r hn
  by_cases e:p.1=j
  ·rw[Zaa e,Zaa e,Yb (λz=>hk (e.trans z))]
  ·rw[Zab e,Zab e,ih]
theorem Zh6 (kvs:List (κ×V)) (k j:κ) (y:V):ZaX (putK kvs k y) j=if j=k then some y else ZaX kvs j:=by
 unfold putK
 by_cases a:(kvs.any λkv=>decide (kv.1=k))=true
 ·rw[Yd a,Zlu]
  rw[Zcl]at a
  by_cases e:j=k
  ·obtain⟨x,hx⟩:=Option.isSome_iff_exists.mp a
   rw[Yd e,e,hx,Option.map_some,Yd rfl]
  ·rw[Yb e]
   cases ZaX kvs j with
   |none=>rfl
   |some x=>rw[Option.map_some,Yb e]
 ·rw[Yb a]
  refine ZjP k j y kvs ?_
  rw[Zcl]at a
  cases q:ZaX kvs k with
  |none=>rfl
  |some x=>rw[q]at a;exact(a rfl).elim
theorem ZbO (kvs:List (κ×V)) (k:κ) (v:V):(putK kvs k v).length<=kvs.length+1:=by
 unfold putK
 split
 ·rw[Yj];omega
 ·rw[YT,Yw,List.length_nil];omega
theorem Zqu {kvs:List (κ×V)}{k:κ} (v:V) (h:ZaX kvs k=none):putK kvs k v=kvs++[(k,v)]:=by
 unfold putK
 rw[Zcl,h]
 exact Yb (by decide)
theorem Zfh.ZgP {o:Option V}{u:Option Value} (r:Zfh o u):o.isSome=u.isSome:=by
 cases o with
 |none=>cases u with
  |none=>rfl
  |some _=>exact(show False from r).elim
 |some _=>cases u with
  |none=>exact(show False from r).elim
  |some _=>rfl
theorem KV.val {kvs:List (κ×V)}{vs:List (κ×Value)} (r:KV kvs vs) (k:κ):Zfh (ZaX kvs k) (valueAt vs k):=by
 unfold KV at r
 induction r with
 |nil=>exact True.intro
 |@cons p q ps qs h t ih =>
  obtain⟨h1,h2⟩:=h
  by_cases e:p.1=k
  ·have e':q.1=k:=h1.symm.trans e
   have b:valueAt (q::qs) k=some q.2:=by simp[valueAt,List.find?_cons,e']
   rw[Zaa e,b];exact h2
  ·have e':¬ q.1=k:=λz=>e (h1.trans z)
   have b:valueAt (q::qs) k=valueAt qs k:=by simp[valueAt,List.find?_cons,e']
   rw[Zab e,b];exact ih
theorem KV.any {kvs:List (κ×V)}{vs:List (κ×Value)} (r:KV kvs vs) (k:κ):(kvs.any λkv=>decide (kv.1=k))=vs.any λkv=>decide (kv.1=k):=by
 unfold KV at r
 induction r with
 |nil=>rfl
 |cons h t ih=>rw[List.any_cons,List.any_cons,ih,h.1]
theorem KV.repl {kvs:List (κ×V)}{vs:List (κ×Value)} (r:KV kvs vs) (k:κ) {y:V}{u:Value} (ry:RelV y u) :
  KV (kvs.map λkv=>if kv.1=k then (kv.1,y)else kv) (vs.map λkv=>if kv.1=k then (kv.1,u)else kv):=by
 unfold KV at r⊢
 induction r with
 |nil=>exact .nil
 |@cons p q ps qs h t ih =>
  rw[YC,YC]
  refine .cons ?_ ih
  obtain⟨h1,h2⟩:=h
  by_cases e:p.1=k
  ·rw[Yd e,Yd (h1.symm.trans e)];exact⟨h1,ry⟩
  ·rw[Yb e,Yb (λz=>e (h1.trans z))];exact⟨h1,h2⟩
theorem KV.put {kvs:List (κ×V)}{vs:List (κ×Value)} (r:KV kvs vs) (k:κ) {y:V}{u:Value} (ry:RelV y u):KV (putK kvs k y) (stored vs k u):=by
 unfold putK stored
 rw[r.any k]
 by_cases e:(vs.any λkv=>decide (kv.1=k))=true
 ·rw[Yd e,Yd e];exact r.repl k ry
 ·rw[Yb e,Yb e];exact Paired.snoc r ⟨rfl,ry⟩
theorem KV.length {kvs:List (κ×V)}{vs:List (κ×Value)} (r:KV kvs vs):kvs.length=vs.length:=Paired.length r
end
theorem Zlv {P:Program}{w:World}{k:Key}{u:Value} (r:RelV (kV k) u):(Z3 P w).is k u=true:=by
 cases k with
 |inl i=>obtain⟨t,e⟩:=(show ∃t,u=Value.int i t from r);subst e;exact Zk3 P w i t
 |inr x=>obtain⟨t,e⟩:=(show ∃t,u=Value.str x t from r);subst e;exact Zk4 P w x t
theorem ZjQ {P:Program}{w:World}:∀{ks:List Key}{us:List Value},Vals (ks.map kV) us->ItemsAre (Z3 P w) ks us
 |[],_,r=>by rw[List.map_nil]at r;cases r;exact .nil
 |k::ks,_,r=>by
  rw[YC]at r
  cases r with
  |cons h t=>exact .cons (Zlv h) (ZjQ t)
noncomputable abbrev KT (H:Hp):List (List Key×V)->List (List Key×Addr×Value)->Prop:=Paired λp q=>p.1=q.1/\H q.2.1=some (.tup (p.1.map kV))/\RelV p.2 q.2.2
theorem KT.val {H:Hp}{kvs:List (List Key×V)}{xs:List (List Key×Addr×Value)} (r:KT H kvs xs) (k:List Key):Zfh (ZaX kvs k) ((atKey xs k).map (·.2)):=by
 induction r with
 |nil=>exact True.intro
 |@cons p q ps qs h t ih =>
  obtain⟨h1,_,h2⟩:=h
  by_cases e:p.1=k
  ·have e':q.1=k:=h1.symm.trans e
   have b:atKey (q::qs) k=some q.2:=by simp[atKey,List.find?_cons,e']
   rw[Zaa e,b];exact h2
  ·have e':¬ q.1=k:=λz=>e (h1.trans z)
   have b:atKey (q::qs) k=atKey qs k:=by simp[atKey,List.find?_cons,e']
   rw[Zab e,b];exact ih
theorem KT.repl {H:Hp}{kvs:List (List Key×V)}{xs:List (List Key×Addr×Value)} (r:KT H kvs xs) (k:List Key) {y:V}{u:Value} (ry:RelV y u) :
  KT H (kvs.map λkv=>if kv.1=k then (kv.1,y)else kv) (xs.map (putAt k u)):=by
 induction r with
 |nil=>exact .nil
 |@cons p q ps qs h t ih =>
  rw[YC,YC]
  refine .cons ?_ ih
  obtain⟨h1,h2,h3⟩:=h
  unfold putAt
  by_cases e:p.1=k
  ·rw[Yd e,Yd (h1.symm.trans e)];exact⟨h1,h2,ry⟩
  ·rw[Yb e,Yb (λz=>e (h1.trans z))];exact⟨h1,h2,h3⟩
theorem KT.put {H:Hp}{kvs:List (List Key×V)}{xs:List (List Key×Addr×Value)} (r:KT H kvs xs) (k:List Key) {b:Addr}{y:V}{u:Value} (hb:H b=some (.tup (k.map kV))) (ry:RelV y u) :
  KT H (putK kvs k y) (storedH xs k b u):=by
 have e:(kvs.any λkv=>decide (kv.1=k))=(atKey xs k).isSome:=by
  rw[Zcl,(r.val k).ZgP,Option.isSome_map]
 unfold putK storedH
 rw[e]
 by_cases q:(atKey xs k).isSome=true
 ·rw[Yd q,Yd q];exact r.repl k ry
 ·rw[Yb q,Yb q];exact Paired.snoc r ⟨rfl,hb,ry⟩
theorem KT.keeps {H H':Hp}{kvs:List (List Key×V)}{xs:List (List Key×Addr×Value)} (r:KT H kvs xs) (ht:∀b ys,H b=some (.tup ys)->H' b=some (.tup ys)):KT H' kvs xs :=
 Paired.mapP r λ_ _ z=>⟨z.1,ht _ _ z.2.1,z.2.2⟩
section
variable {P:Program}{w:World}{H:Hp}{h:Heap}{a:Addr}
theorem rd_of {u:HO} (ok:HOk P w H h) (e:Rd H a u):ZI P w H h a u:=e.ok ok
theorem ZnW {kvs:List (Key×V)} (ok:HOk P w H h) (e:Rd H a (.dK kvs)):kvs.length<=sizeLine/\(a==sysModules)=false/\∃vs,KV kvs vs/\h.DictOf (Z3 P w) a vs :=
 show ZI P w H h a (.dK kvs)from rd_of ok e
theorem dk_of {kvs:List (Key×V)} (ok:HOk P w H h) (e:H a=some (.dK kvs)):kvs.length<=sizeLine/\(a==sysModules)=false/\∃vs,KV kvs vs/\h.DictOf (Z3 P w) a vs:=ZnW ok (.inl e)
theorem Zks {ks:List Key} (ok:HOk P w H h) (e:H a=some (.tup (ks.map kV))):(tupleKind (Z3 P w)).is h ks a:=by
 obtain⟨_,its,r,o,h1,h2,n,h3⟩:=(show ZI P w H h a (.tup (ks.map kV))from ok a _ e)
 exact⟨o,its.toArray,n,h1,h2,h3,by simpa using ZjQ r⟩
theorem ZnX {kvs:List (List Key×V)} (ok:HOk P w H h) (e:Rd H a (.dT kvs)):kvs.length<=sizeLine/\(a==sysModules)=false /\
  ∃xs,KT H kvs xs/\h.DictOfH (tupleKind (Z3 P w)) a xs:=by
 obtain⟨z,y,xs,r,o,es,ep,h1,h2,h3,h4,h5⟩:=(show ZI P w H h a (.dT kvs)from rd_of ok e)
 refine⟨z,y,xs,r,o,es,ep,h1,h2,h3,h4,λx hx=>?_,h5⟩
 have all:∀{l:List (List Key×V)}{m:List (List Key×Addr×Value)},KT H l m->∀x∈m,(tupleKind (Z3 P w)).is h x.1 x.2.1:=by
  intro l m q
  induction q with
  |nil=>intro x hx;exact nomatch hx
  |@cons p q ps qs hq t ih =>
   intro x hx
   rcases Yg.mp hx with e|hx
   ·subst e
    exact Zks ok (by rw[<-hq.1];exact hq.2.1)
   ·exact ih x hx
 exact all r x hx
theorem dt_of {kvs:List (List Key×V)} (ok:HOk P w H h) (e:H a=some (.dT kvs)):kvs.length<=sizeLine/\(a==sysModules)=false /\
  ∃xs,KT H kvs xs/\h.DictOfH (tupleKind (Z3 P w)) a xs:=ZnX ok (.inl e)
end
noncomputable def ZgQ (H:Hp) (a:Addr) (y:V) (r:Option V):Prop :=
 (∃kvs k,Rd H a (.dK kvs)/\y=kV k/\r=ZaX kvs k)\/∃kvs k b,Rd H a (.dT kvs)/\y=.ref b/\H b=some (.tup (k.map kV))/\r=ZaX kvs k
noncomputable def ZmL (H:Hp) (a:Addr) (y v:V) (H':Hp):Prop :=
 (∃kvs k,H a=some (.dK kvs)/\y=kV k/\kvs.length<sizeLine/\H'=upd H a (.dK (putK kvs k v))) \/
 ∃kvs k b,H a=some (.dT kvs)/\y=.ref b/\H b=some (.tup (k.map kV))/\kvs.length<sizeLine/\H'=upd H a (.dT (putK kvs k v))
theorem ZgQ.k {H:Hp}{a:Addr}{kvs:List (Key×V)}{k:Key} (e:H a=some (.dK kvs)):ZgQ H a (kV k) (ZaX kvs k):=.inl ⟨kvs,k,.inl e,rfl,rfl⟩
theorem ZmL.k {H:Hp}{a:Addr}{kvs:List (Key×V)}{k:Key}{v:V} (e:H a=some (.dK kvs)) (hl:kvs.length<sizeLine):ZmL H a (kV k) v (upd H a (.dK (putK kvs k v))):=.inl ⟨kvs,k,e,rfl,hl,rfl⟩
section
variable {X:Cx}{pins:List (Addr×Obj)}{σ:St}{H:Hp}{s:Shared}{a:Addr}{y v:V}{u r:Value}{o:Option V}{A:Around}{E:Value->Shared->Prop}
theorem Inv.big (I:Inv X pins σ H s):sysModules<s.heap.objs.size:=by
 have h:mainGlobals<s.heap.objs.size:=(I.mod.glob.keeps I.bk).lt
 exact Nat.lt_trans (by decide) h
theorem ZoK {Q:Value->Shared->Prop} (hu:A.units+1<cLine) (I:Inv X pins σ H s) (g:ZgQ H a y (some v)) (ry:RelV y u) (h:∀w' s',Inv X pins σ H s'->RelV v w'->Q w' s') :
  wpAny (model X.prog X.w) A (getItem (.ref a) u) Q E s:=by
 rcases g with⟨kvs,k,e,ey,l⟩|⟨kvs,k,b,e,ey,eb,l⟩
 ·subst ey
  obtain⟨z,hd,vs,rel,dd⟩:=ZnW I.hok e
  obtain⟨w',hw,rw'⟩:=Zfh.some_of (v:=v) (o:=valueAt vs k) (by rw[l];exact rel.val k)
  exact wpAny_getItem_of (Zlv ry) dd.mapOf hw (h w' _ (I.tok _) rw')
 ·subst ey
  cases(show u=Value.ref b from ry)
  obtain⟨z,hd,xs,rel,dd⟩:=ZnX I.hok e
  obtain⟨w',hw,rw'⟩:=Zfh.some_of (v:=v) (o:=(atKey xs k).map (·.2)) (by rw[l];exact rel.val k)
  obtain⟨p,hp,hp2⟩:=Option.map_eq_some_iff.mp hw
  refine wpAny_getItem_heap (tupleKind_room_in1 hu) (Zks I.hok eb) dd hp ?_
  rw[hp2]
  exact h w' _ (I.tok _) rw'
theorem Ztm {Q:Value->Shared->Prop} (hu:A.units+1<cLine) (I:Inv X pins σ H s) (g:ZgQ H a y o) (ry:RelV y u) (h:∀s',Inv X pins σ H s'->Q (.bool (!o.isSome)) s') :
  wpAny (model X.prog X.w) A (compareOp .NotIn u (.ref a)) Q E s:=by
 rcases g with⟨kvs,k,e,ey,l⟩|⟨kvs,k,b,e,ey,eb,l⟩
 ·subst ey
  obtain⟨z,hd,vs,rel,dd⟩:=ZnW I.hok e
  refine wpAny_notIn_of (Zlv ry) hd dd.mapOf ?_
  rw[<-(rel.val k).ZgP,<-l]
  exact h _ (I.tok _)
 ·subst ey
  cases(show u=Value.ref b from ry)
  obtain⟨z,hd,xs,rel,dd⟩:=ZnX I.hok e
  refine wpAny_notIn_heap (tupleKind_room_in1 hu) (Zks I.hok eb) hd dd ?_
  have q:=(rel.val k).ZgP
  rw[Option.isSome_map]at q
  rw[<-q,<-l]
  exact h _ (I.tok _)
theorem Zkt {h':Heap}{t':Nat}{ob:HO} (I:Inv X pins σ H s) (mu:Mut (H a)) (hs:Heap.SameBut a s.heap h') (he:∃q,h'.get? a=some q) (new:ZI X.prog X.w (upd H a ob) h' a ob) :
  Inv X pins σ (upd H a ob) {s with heap:=h',toks:=t'} :=
 I.write (x:=a) (e:=a) mu (.inl rfl) (λb q hb z=>(hs.2 b hb).trans z) he new
theorem Zqv {P:Program}{w:World}{H':Hp}{h':Heap}{kvs:List (Key×V)}{vs:List (Key×Value)} (z:kvs.length<=sizeLine) (hd:(a==sysModules)=false) (rel:KV kvs vs) (dd:h'.DictOf (Z3 P w) a vs) :
  ZI P w H' h' a (.dK kvs):=⟨z,hd,vs,rel,dd⟩
theorem ZoL {H':Hp}{Q:Unit->Shared->Prop} (hu:A.units+1<cLine) (I:Inv X pins σ H s) (g:ZmL H a y v H') (ry:RelV y u) (rv:RelV v r) (h:∀s',Inv X pins σ H' s'->Q () s') :
  wpAny (model X.prog X.w) A (setItem (.ref a) u r) Q E s:=by
 rcases g with⟨kvs,k,e,ey,l,eH⟩|⟨kvs,k,b,e,ey,eb,l,eH⟩
 ·subst ey eH
  obtain⟨z,hd,vs,rel,dd⟩:=dk_of I.hok e
  have hz:vs.length<=sizeLine:=by rw[<-rel.length];exact z
  have hl:(putK kvs k v).length<=sizeLine:=by have:=ZbO kvs k v;omega
  refine wpAny_setItem_pairs (hsz:=hz) (Zlv ry) dd λh' dd' hs=>h _ ?_
  have he:∃q,h'.get? a=some q:=let ⟨q,_,_,hq,_⟩:=dd';⟨q,hq⟩
  exact Zkt I (by rw[e];exact True.intro) hs he (Zqv hl hd (rel.put k rv) dd')
 ·subst ey eH
  cases(show u=Value.ref b from ry)
  obtain⟨z,hd,xs,rel,dd⟩:=dt_of I.hok e
  have hz:xs.length<=sizeLine:=by rw[<-Paired.length rel];exact z
  have hl:(putK kvs k v).length<=sizeLine:=by have:=ZbO kvs k v;omega
  refine wpAny_setItem_heap (hsz:=hz) (tupleKind_room_in1 hu) (Zks I.hok eb) dd λh' dd' hs=>h _ ?_
  obtain⟨q,es,ep,hq,h2,h3,h4,_,h5⟩:=dd'
  refine Zkt I (by rw[e];exact True.intro) hs ⟨q,hq⟩ ⟨hl,hd,_,(rel.put k eb rv).keeps λc ys ec=>?_,q,es,ep,hq,h2,h3,h4,h5⟩
  rw[Zf (ne_of ec e (λz=>nomatch z))]
  exact ec
end
noncomputable def NoSl (i:Expr):Prop:=∀ov iv,subscripted i false ov iv=operate [ov,iv] (getItem ov iv)
theorem Ztn {prog:Program}{w:World}{A:Around}{E:Value->Shared->Prop}{s:Shared}{env:Env}{value slice:Expr}{pos:Pos}{T id:String}{Q:Value->Shared->Prop}
  (hl:typeLookup (.type T) "__getitem__"=pure (some (.builtin id))) (hs:NoSl slice)
  (h:wpAny (model prog w) A (eval value env) (λo s₁=>wpAny (model prog w) A (eval slice env) (λi s₂=>s₂.TypeIs o T/\wpAny (model prog w) A (getItem o i) Q E s₂) E s₁) E s) :
  wpAny (model prog w) A (eval (.Subscript value slice pos) env) Q E s:=by
 refine Subscript_ (Yz h (λo s₁ h₁=>Yz h₁ (λi s₂ h₂=>?_) λ_ _ x=>x) λ_ _ x=>x)
 obtain⟨hT,h₂⟩:=h₂
 unfold subscriptTail
 refine Ya ?_
 rw[getitemInPython_of_ne hT.not_modules]
 refine Ya (wpAny_specialOf hT hl ?_)
 have fin:wpAny (model prog w) A (subscripted slice false o i) (λr s₃=>wpAny (model prog w) A (letTemporaryGo value o r >>= λ_=>pure r) Q E s₃) E s₂:=by
  rw[hs o i]
  exact wpAny_operating (Yz h₂ (λr s₃ h₃=>Ya (wpAny_letTemporaryGo (Yc h₃))) λ_ _ x=>x)
 first
  |exact Yc (Ya fin)
  |exact Ya (Yc (Ya fin))
  |exact Ya fin
theorem Zlw {X:Cx}{pins:List (Addr×Obj)}{σ:St}{H:Hp}{s:Shared}{a:Addr}{y:V}{o:Option V} (I:Inv X pins σ H s) (g:ZgQ H a y o):s.TypeIs (.ref a) "dict":=by
 rcases g with⟨kvs,k,e,_,_⟩|⟨kvs,k,b,e,_,_,_⟩
 ·obtain⟨_,_,vs,_,dd⟩:=ZnW I.hok e
  exact dd.typeIs
 ·obtain⟨_,_,xs,_,dd⟩:=ZnX I.hok e
  exact dd.typeIs
noncomputable def Zqw (td ty:TE):TE:=fun σ H Q=>td σ H λx H1=>ty σ H1 λy H2=>∃a v,x=.ref a/\ZgQ H2 a y (some v)/\Q v H2
noncomputable def Zku (ty td:TE):TE:=fun σ H Q=>ty σ H λy H1=>td σ H1 λx H2=>∃a o,x=.ref a/\ZgQ H2 a y o/\Q (.bl (!o.isSome)) H2
noncomputable def Zqx (td ty tv:TE):TS:=λD σ H=>tv σ H λv H1=>td σ H1 λx H2=>ty σ H2 λy H3=>∃a H4,x=.ref a/\ZmL H3 a y v H4/\D.nx σ H4
section
variable {X:Cx}{o i e value:Expr}{pos pos' tpos:Pos}{td ty tv:TE}
theorem ZhK (hu:X.A.units+1<cLine) (ho:PE X o td) (hi:PE X i ty) (hs:NoSl i):PE X (.Subscript o i pos) (Zqw td ty):=by
 intro pins s σ H Q I h
 refine Ztn PySem.F.slot_dict_getitem.lookup hs (thn (ho pins s σ H _ I h) λu s1 ⟨x,H1,I1,rx,q1⟩=>thn (hi pins s1 σ H1 _ I1 q1) λiv s2 ⟨y,H2,I2,ry,a,v,ex,g,q2⟩=>?_)
 subst ex
 obtain rfl:u=Value.ref a:=rx
 exact⟨Zlw I2 g,ZoK hu I2 g ry λw' s3 I3 rw'=>⟨v,H2,I3,rw',q2⟩⟩
theorem ZoM (hu:X.A.units+1<cLine) (hi:PE X i ty) (ho:PE X o td):PC X .NotIn i o (Zku ty td):=by
 intro pins s σ H Q I h
 refine thn (hi pins s σ H _ I h) λiv s1 ⟨y,H1,I1,ry,q1⟩=>thn (ho pins s1 σ H1 _ I1 q1) λu s2 ⟨x,H2,I2,rx,a,ov,ex,g,q2⟩=>?_
 subst ex
 obtain rfl:u=Value.ref a:=rx
 exact Ztm hu I2 g ry λs3 I3=>⟨.bl (!ov.isSome),H2,I3,rfl,q2⟩
theorem Zkv (hu:X.A.units+1<cLine) (ho:PE X o td) (hi:PE X i ty) (hv:PE X value tv) (hs:swapsWith value (some (.Subscript o i pos')) pos.line X.env=pure false) :
  PS X (.Assign [.Subscript o i pos'] value pos) (Zqx td ty tv):=by
 intro pins s σ H D I h
 refine wpAny_Assign_Subscript (thn (hv pins s σ H _ I h) λr s1 ⟨v,H1,I1,rv,q1⟩=>thn (ho pins s1 σ H1 _ I1 q1) λu s2 ⟨x,H2,I2,rx,q2⟩=>thn (hi pins s2 σ H2 _ I2 q2) λiv s3 ⟨y,H3,I3,ry,a,H4,ex,g,q3⟩=>?_) hs
 subst ex
 obtain rfl:u=Value.ref a:=rx
 exact ZoL hu I3 g ry rv λs4 I4=>⟨σ,H4,I4,q3⟩
end
theorem Zqy {P:Program}{w:World}{H:Hp} (h:Heap) (hb:sysModules<h.objs.size):ZI P w H (h.push {cls:=.type "dict",data:=.dict #[]}) h.objs.size (.dK []) :=
 ⟨Yu _,beq_eq_false_iff_ne.mpr (Ne.symm (Yk hb)),[],.nil,Heap.DictOf.new h⟩
theorem Zqz {P:Program}{w:World}{H:Hp} (h:Heap) (hb:sysModules<h.objs.size):ZI P w H (h.push {cls:=.type "dict",data:=.dict #[]}) h.objs.size (.dT []) :=
 ⟨Yu _,beq_eq_false_iff_ne.mpr (Ne.symm (Yk hb)),[],.nil,_,#[],0,Yt _ rfl,⟨rfl,rfl,rfl⟩,rfl,rfl,List.nodup_nil⟩
noncomputable def ZmM:TE:=λ_ H Q=>∀p,H p=none->Q (.ref p) (upd H p (.dT []))
section
variable {X:Cx}{pos:Pos}
theorem ZqA:PE X (.Dict [] [] pos) ZmM:=λpins s σ H Q I h =>
 wpAny_Dict_empty ⟨.ref s.heap.objs.size,_,I.laid (a:=s.heap.objs.size) (o:=.dT []) (t':=s.toks) (λ_ _ q=>Yi _ q) (Yf _) (Zqz s.heap I.big),rfl,h _ (I.hok.fresh (Yf _))⟩
end
noncomputable def Zkw:List (TE×TE)->St->Hp->(List (V×V)->Hp->Prop)->Prop
 |[],_,H,Q=>Q [] H
 |(tk,tv)::r,σ,H,Q=>tk σ H λx H1=>tv σ H1 λy H2=>Zkw r σ H2 λps H3=>Q ((x,y)::ps) H3
noncomputable abbrev VV:List (V×V)->List (Value×Value)->Prop:=Paired λp q=>RelV p.1 q.1/\RelV p.2 q.2
noncomputable def PPs (X:Cx) (pos:Pos) (keys:List (Option Expr)) (values:List Expr) (trs:List (TE×TE)):Prop :=
 ∀(pins:List (Addr×Obj)) (s:Shared) (σ:St) (H:Hp) (Q:List (V×V)->Hp->Prop),Inv X pins σ H s->Zkw trs σ H Q ->
  wpAny (model X.prog X.w) X.A (evalPairs (pairTrees keys values X.env pos)) (λvs s'=>∃ps H',Inv X pins σ H' s'/\VV ps vs/\Q ps H') X.xe s
theorem Zto {X:Cx}{pos:Pos}:PPs X pos [] [] []:=λpins s σ H Q I h=>pairTrees_nil_walk ⟨[],H,I,.nil,h⟩
theorem ZqB {X:Cx}{pos:Pos}{k v:Expr}{ks:List (Option Expr)}{vs:List Expr}{tk tv:TE}{trs:List (TE×TE)} (hk:PE X k tk) (hv:PE X v tv) (hr:PPs X pos ks vs trs) :
  PPs X pos (some k::ks) (v::vs) ((tk,tv)::trs):=λpins s σ H Q I h =>
 pairTrees_cons_walk (thn (hk pins s σ H _ I h) λu s1 ⟨x,H1,I1,rx,q1⟩=>thn (hv pins s1 σ H1 _ I1 q1) λw2 s2 ⟨y,H2,I2,ry,q2⟩ =>
  thn (hr pins s2 σ H2 _ I2 q2) λws s3 ⟨ps,H3,I3,rel,q3⟩=>⟨(x,y)::ps,H3,I3,.cons ⟨rx,ry⟩ rel,q3⟩)
noncomputable def ZgR (kvs more:List (Key×V)):List (Key×V):=more.foldl (λacc kv=>putK acc kv.1 kv.2) kvs
theorem KV.merge:∀{more:List (Key×V)}{rs:List (Key×Value)}{kvs:List (Key×V)}{vs:List (Key×Value)},KV more rs->KV kvs vs->KV (ZgR kvs more) (merged vs rs):=by
 intro more rs kvs vs r
 unfold KV at r
 induction r generalizing kvs vs with
 |nil=>intro q;exact q
 |@cons p q ps qs h t ih =>
  intro r0
  have e:KV (putK kvs p.1 p.2) (stored vs q.1 q.2):=by
   have:=r0.put p.1 h.2
   rw[<-h.1];exact this
  exact ih e
theorem Zfn:∀(more kvs:List (Key×V)),(ZgR kvs more).length<=kvs.length+more.length
 |[],kvs=>by show kvs.length<=kvs.length+0;omega
 |p::r,kvs=>by
  have h1:=Zfn r (putK kvs p.1 p.2)
  have h2:=ZbO kvs p.1 p.2
  show(ZgR (putK kvs p.1 p.2) r).length<=_
  rw[Yw];omega
theorem Zh7 {P:Program}{w:World}:∀{kvs:List (Key×V)}{ws:List (Value×Value)},VV (kvs.map λkv=>(kV kv.1,kv.2)) ws->∃rs,Carries (Z3 P w) ws rs/\KV kvs rs
 |[],_,r=>by rw[List.map_nil]at r;cases r;exact⟨[],True.intro,.nil⟩
 |p::kvs,_,r=>by
  rw[YC]at r
  cases r with
  |@cons a b as bs h t =>
   obtain⟨rs,c,q⟩:=Zh7 (P:=P) (w:=w) t
   obtain⟨b1,b2⟩:=b
   exact⟨(p.1,b2)::rs,⟨Zlv h.1,rfl,c⟩,.cons ⟨rfl,h.2⟩ q⟩
noncomputable def tDisp (trs:List (TE×TE)):TE:=fun σ H Q=>∀p,H p=none->Zkw trs σ (upd H p (.dK [])) λps H2=>H2 p=some (.dK [])/\∃kvs:List (Key×V),ps=kvs.map (λkv=>(kV kv.1,kv.2))/\kvs.length<=15/\Q (.ref p) (upd H2 p (.dK (ZgR [] kvs)))
theorem Ztp {X:Cx}{pos:Pos}{keys:List (Option Expr)}{values:List Expr}{trs:List (TE×TE)} (h:PPs X pos keys values trs) (hall:keys.all (·.isSome)=true) (hl:keys.length=values.length) (h0:keys≠[])
  (h15:keys.length<=15):PE X (.Dict keys values pos) (tDisp trs):=by
 intro pins s σ H Q I q
 have hn:=I.hok.fresh (Yf s.heap.objs.size)
 have I1:=I.laid (a:=s.heap.objs.size) (o:=.dK []) (h':=s.heap.push {cls:=.type "dict",data:=.dict #[]}) (t':=s.toks) (λ_ _ q=>Yi _ q) (Yf _) (Zqy s.heap I.big)
 refine wpAny_Dict_walk (knd:=Z3 X.prog X.w) hall hl h0 h15 (thn (h pins _ σ _ _ I1 (q _ hn)) λws s2 ⟨ps,H2,I2,rel,e,kvs,ep,lk,q2⟩=>?_)
 subst ep
 obtain⟨rs,c,rk⟩:=Zh7 (P:=X.prog) (w:=X.w) rel
 obtain⟨z,hd,vs0,r0,dd⟩:=dk_of I2.hok e
 cases r0
 refine⟨rs,c,dd,λh' dd' hs=>⟨.ref s.heap.objs.size,_,?_,rfl,q2⟩⟩
 have hz:(ZgR [] kvs).length<=sizeLine:=by
  have h1:=Zfn kvs []
  rw[List.length_nil]at h1
  rw[sizeLine_eq];omega
 have he:∃q,h'.get? s.heap.objs.size=some q:=let ⟨q,_,_,hq,_⟩:=dd';⟨q,hq⟩
 exact Zkt I2 (by rw[e];exact True.intro) hs he (Zqv hz hd (rk.merge .nil) dd')
section
variable {κ:Type} [DecidableEq κ]
theorem ZqC {kvs:List (κ×V)}{k:κ} (h:ZaX kvs k=none):¬ k∈kvs.map (·.1):=by
 intro m
 obtain⟨p,hp,e⟩:=YN.mp m
 have q:(kvs.any λkv=>decide (kv.1=k))=true:=List.any_eq_true.mpr ⟨p,hp,YO e⟩
 rw[Zcl,h]at q
 exact absurd q (by simp)
theorem ZnY:∀{l:List κ}{k:κ},l.Nodup->¬ k∈l->(l++[k]).Nodup
 |[],k,_,_=>by simp
 |a::r,k,h,hk=>by
  obtain⟨h1,h2⟩:=List.nodup_cons.mp h
  show(a::(r++[k])).Nodup
  refine List.nodup_cons.mpr ⟨λm=>?_,ZnY h2 λm=>hk (Yg.mpr (Or.inr m))⟩
  rcases YE.mp m with q|q
  ·exact h1 q
  ·exact hk (Yg.mpr (Or.inl (Y6.mp q).symm))
theorem Ztq {kvs:List (κ×V)}{k:κ} (v:V) (hn:(kvs.map (·.1)).Nodup) (h:ZaX kvs k=none):((putK kvs k v).map (·.1)).Nodup:=by
 rw[Zqu v h,Y4]
 exact ZnY hn (ZqC h)
end
end L2
namespace L2
open PySem PySem.Spec PyProof.Rows PySem.W PySem.Calls
theorem Zkx {prog:Program}{w:World}{A:Around}{E:Value->Shared->Prop}{s:Shared}{T:String}{r d:Addr}{n:Nat}{P:Nat->Value->Prop}{OK:Heap->Prop}{R:List Value->Shared->Prop} (S:KdlSrc prog w T r d n P OK) (hh:A.handled=none) (ok:OK s.heap) (hn:n<=sizeLine)
  (k:∀(h':Heap) (tk:Nat) (acc:Array Value),(∀b o,s.heap.get? b=some o->h'.get? b=some o)->s.heap.objs.size<h'.objs.size->ItemsOf P acc n->R acc.toList {s with heap:=h',toks:=tk}):wpAny (model prog w) A (collect (.ref r)) R E s:=by
 obtain⟨lr,ld⟩:=S.there _ ok
 unfold collect;refine Ya (wpAny_runValue (codeAny_builtin entry_proto_collect' ?_));rw[Around.under_plainId PySem.F.plain_proto_collect _]
 show wpAny _ A.in1 (newList [] >>= λz=>again (.builtin "list.__iadd__" ⟨[z,.ref r],[]⟩)) _ _ s
 refine Ya (wpAny_newObj_type (Yc ⟨plainId_quiet PySem.F.plain_list_iadd _,codeAny_builtin entry_list_iadd' ?_⟩));rw[Around.under_plainId PySem.F.plain_list_iadd _]
 have g0:(s.heap.push {cls:=.type "list",data:=.seq ([]:List Value).toArray}).get? s.heap.objs.size=some {cls:=.type "list",data:=.seq #[]} :=
  Yt _ rfl
 show wpAny _ A.in1 (Builtin.List.listExtendWith (.ref s.heap.objs.size) (.ref r) (.ref s.heap.objs.size)) _ E
  {s with heap:=s.heap.push {cls:=.type "list",data:=.seq ([]:List Value).toArray}}
 have main:=kdl_extend (A:=A) (s:={s with heap:=s.heap.push {cls:=.type "list",data:=.seq ([]:List Value).toArray}}) (R:=λ(q:Result) (z:Shared)=>∃(h':Heap) (tk:Nat) (acc:Array Value) (c:Nat),q=.ok (.ret (.ref s.heap.objs.size))/\z={s with heap:=h',toks:=tk}/\(∀b o,s.heap.get? b=some o->h'.get? b=some o)/\h'.get? s.heap.objs.size=some {cls:=.type "list",dict:=none,data:=.seq acc c,slots:=#[]}/\ItemsOf P acc n)
  S hh (S.keep _ _ ok λb _ o e=>Yi _ e) s.heap.objs.size (Nat.ne_of_gt lr) (Nat.ne_of_gt ld) (.ref s.heap.objs.size) 0 g0 (λh' tk acc c e1 e2 e3=>⟨h',tk,acc,c,rfl,rfl,λb o e=>e1 b o (Yk (Yh e)) (Yi _ e),e2,e3⟩) hn
 refine Yz main (λfin z x=>?_) λe z x=>by obtain⟨_,_,_,_,q,_⟩:=x;cases q
 cases fin with
 |done f =>
  obtain⟨h',tk,acc,c,e,rfl,e1,e2,e3⟩:=x;cases e
  exact Ya (m:=load s.heap.objs.size) (wpAny_load e2 (Yc (k h' tk acc e1 (Yh e2) e3)))
 |again c₁ =>
  refine⟨x.1,codeAny_mono x.2 λq z y=>?_⟩
  obtain⟨h',tk,acc,c,rfl,rfl,e1,e2,e3⟩:=y
  exact Ya (m:=load s.heap.objs.size) (wpAny_load e2 (Yc (k h' tk acc e1 (Yh e2) e3)))
end L2
namespace L2
open PySem PySem.Spec PyProof.Rows PySem.W
noncomputable def sF (r:Addr) (f:Int) (t:Addr):List (Str×V):=ZbH "tree" (.ref t) (ZbH "first" (.int f) (ZbH "row" (.ref r) []))
end L2
namespace L2
open PySem PySem.Spec PyProof.Rows PySem.W PySem.Calls
end L2
namespace L2
open PySem PySem.Spec PyProof.Rows PySem.W
noncomputable def ZoN (K:Frag) (f:Addr):Option Addr:=match K.lookup f with
 |some ⟨_,_,.func fd,_⟩=>(match fd.code with|.ref c=>some c|_=>none)
 |_=>none
noncomputable def tabOf (K:Frag) (c:Addr):Addr:=match K.lookup c with
 |some ⟨_,_,.fields vs,_⟩=>(match (vs[11]?:Option Value)with|some (.ref P)=>P|_=>0)
 |_=>0
noncomputable def Zge (K:Frag) (mg:Str->Option Value) (x:Str):Addr:=match mg x with
 |some (.ref f)=>(match ZoN K f with|some c=>tabOf K c|none=>0)
 |_=>0
noncomputable def Zh8 (q:Str):HO:=.tbl #[.str q 0]
noncomputable def BM (mg:Str->Option Value) (base:Heap):Prop :=
 ∃bm o,mg "__builtins__"=some (.ref bm)/\bm≠builtinsNs/\bm≠mainGlobals/\base.get? bm=some o/\o.cls=.type "module"/\o.dict=some builtinsNs/\o.data=.plain
noncomputable def Zky (env:Env) (P:Addr) (q:Str) (params:Arguments) (body:Expr) (scope:Scope) (H:Hp) (f:Addr):Prop :=
 ∃c oc vs t cl pm ctv,H f=some (.frz (kla_obj "<lambda>" q params body scope cl pm c ctv) (.own f))/\H c=some (.frz oc (.own P))/\oc.data=.fields vs/\vs[1]?=some (.str q t) /\
  (∀x c,cl.lookup x=some c->env.cells.lookup x=some c)/\(∀y∈scope.names,y.2=.free->∃c,cl.lookup y.1=some c/\env.cells.lookup y.1=some c)
theorem Zky.same {env:Env}{P:Addr}{q:Str}{params:Arguments}{body:Expr}{scope:Scope}{H H':Hp}{f:Addr} (h:Zky env P q params body scope H f) (s:Ze H H'):Zky env P q params body scope H' f:=by
 obtain⟨c,oc,vs,t,cl,pm,ctv,e1,e2,r⟩:=h
 exact⟨c,oc,vs,t,cl,pm,ctv,s _ _ e1,s _ _ e2,r⟩
structure LamIn (X:Cx) (P:Addr) (q:Str):Prop where
 code:∃c,X.env.code=.ref c/\codeHdIn X.K c P=true
 bm:BM X.mg X.base
 ql:X.env.qual++"<lambda>"=q
theorem ZmN {pos:Pos}{a b:Int}{c cv:Value}:∀(l:List Value),TriplesOk l->codeAmong pos (l++[rawInt a,rawInt b,c])=some cv->codeAmong pos l=some cv\/cv=c:=by
 intro l h e
 fun_induction TriplesOk l with
 |case1 =>
  simp only[List.nil_append,codeAmong,rawInt]at e
  split at e
  ·cases e;exact .inr rfl
  ·cases e
 |case2 a' t b' u x rest ih =>
  simp only[List.cons_append,codeAmong]at e⊢
  split at e
  ·rename_i hc;rw[Yd hc];exact .inl e
  ·rename_i hc;rw[Yb hc];exact ih h e
 |case3 l h1 h2=>exact h.elim
section
variable {X:Cx}
theorem Inv.lam {pins:List (Addr×Obj)}{σ:St}{H:Hp}{s:Shared}{h':Heap}{t':Nat}{P c f:Addr}{q:Str}{oc fo:Obj}{ts:Array Value}{vs:Array Value}{tq:Tok}
  (I:Inv X pins σ H s) (hP:H P=some (Zh8 q)) (k:∀b o,b≠P->s.heap.get? b=some o->h'.get? b=some o) (hts:h'.get? P=some (tabObj ts)) (h3:TriplesOk ts.toList)
  (hc:H c=some (.frz oc (.own P))\/s.heap.objs.size<=c) (hcP:c≠P) (hoc:h'.get? c=some oc) (hd:oc.data=.fields vs) (hv:vs[1]?=some (.str q tq)) (hf:s.heap.objs.size<=f) (hfc:f≠c) (hfo:h'.get? f=some fo)
  (hcodes:∀pos cv,codeAmong pos ts.toList=some cv->cv=.ref c\/∃c2 oc vs t t',cv=.ref c2/\H c2=some (.frz oc (.own P))/\oc.data=.fields vs/\vs[1]?=some (.str q t)/\t'=(0:Tok)) :
  Inv X pins σ (upd (upd H c (.frz oc (.own P))) f (.frz fo (.own f))) {s with heap:=h',toks:=t'}:=by
 have hPlt:P<s.heap.objs.size:=I.hok.lt hP
 have hfP:f≠P:=λz=>by rw[z]at hf;exact absurd (Yv hPlt hf) (YJ _)
 have hfn:H f=none:=I.hok.fresh hf
 have up:∀b o,H b=some o->upd (upd H c (.frz oc (.own P))) f (.frz fo (.own f)) b=some o:=λb o e=>by
  have nf:b≠f:=Zp e hfn
  rw[Zf nf]
  rcases hc with hc|hc
  ·by_cases z:b=c
   ·subst z;rw[Zc,<-e,hc]
   ·rw[Zf z];exact e
  ·rw[Zf (Zp e (I.hok.fresh hc))];exact e
 have un:Un X.fs [] H (upd (upd H c (.frz oc (.own P))) f (.frz fo (.own f))) s.heap h':=by
  have nP:∀b,H b=none->b≠P:=λb n z=>by rw[z,hP]at n;cases n
  refine⟨λb o e n _ _=>k b o (nP b n) e,λb o e n _ _=>⟨o.slots,k b o (nP b n) e⟩,λb o e n _=>?_,λb o e _=>?_,λb xs e=>up _ _ e,λb o u e=>up _ _ e,λb ps e=>⟨#[],by rw[up _ _ e];simp⟩⟩
  ·have lt:=Yh e
   have nf:b≠f:=λz=>by rw[z]at lt;exact absurd (Yv lt hf) (YJ _)
   have nc:b≠c:=λz=>by
    rcases hc with hc|hc
    ·rw[z,hc]at n;cases n
    ·rw[z]at lt;exact absurd (Yv lt hc) (YJ _)
   rw[Zf nf,Zf nc];exact n
  ·by_cases z:b=P
   ·subst z;exact⟨_,hts⟩
   ·exact⟨o,k b o z e⟩
 refine I.un un λb o e=>?_
 by_cases zf:b=f
 ·subst zf
  rw[Zc]at e;cases e
  exact⟨hfo,_,hfo⟩
 rw[Zf zf]at e
 by_cases zc:b=c
 ·subst zc
  rw[Zc]at e;cases e
  exact⟨hoc,_,hoc⟩
 rw[Zf zc]at e
 by_cases zP:b=P
 ·subst zP
  rw[hP]at e;cases e
  refine⟨ts,hts,h3,λpos cv hcv=>?_⟩
  rcases hcodes pos cv hcv with rfl|⟨c2,oc2,vs2,t2,t2',e1,e2,e3,e4,_⟩
  ·exact⟨c,oc,vs,q,0,tq,rfl,by rw[Zf (Ne.symm hfc),Zc],hd,rfl,hv⟩
  ·exact⟨c2,oc2,vs2,q,0,t2,e1,up _ _ e2,e3,rfl,e4⟩
 ·refine(I.hok b o e).Zf1 (λb2 u hb z=>k b2 u ?_ z) (λb2 z=>up _ _ z) (λb2 xs z=>up _ _ z) λb2 o2 u2 z=>up _ _ z
  rcases hb with rfl|hb
  ·exact zP
  ·intro z;rw[z,hP]at hb;cases hb
noncomputable def tLam (env:Env) (P:Addr) (q:Str) (params:Arguments) (body:Expr) (scope:Scope):TE:=λ_ H Q=>H P=some (Zh8 q)/\∀f H',H f=none->Ze H H'->Zky env P q params body scope H' f->Q (.ref f) H'
theorem ZmO {P:Addr}{q:Str}{params:Arguments}{body:Expr}{scope:Scope}{pos:Pos} (L:LamIn X P q) (hok:compOk X.env.scope scope=true) (hdef:defaultsOf params X.env=([],[]):=by rfl) :
  PE X (.Lambda params body scope pos) (tLam X.env P q params body scope):=by
 intro pins s σ H Q I h
 obtain⟨hP,h⟩:=h
 obtain⟨c0,hc0,hcd⟩:=L.code
 have C:CodeHd s.heap c0 P:=codeHd_of_K I.kIn hcd
 obtain⟨bm,ob,b1,b2,b3,b4,b5,b6,b7⟩:=L.bm
 have hbm:=I.bs bm ob b4
 have bP:bm≠P:=λz=>by rw[z,hP]at hbm;cases hbm.2
 have gP:mainGlobals≠P:=λz=>by
  obtain⟨o,es,ep,e,_⟩:=I.ok.mod.glob
  have:=(I.bs _ _ e).2
  rw[z,hP]at this;cases this
 have hg:s.heap.Ns mainGlobals X.mg:=I.ok.mod.glob.keeps I.bk
 have hb:s.heap.BuiltinsAt X.mg P:=⟨bm,ob,b1,b2,b3,bP,hbm.1,b5,b6,b7⟩
 obtain⟨ts,hts,h3,hco⟩:=I.hok P _ hP
 obtain⟨cl,hcl,up,hfr⟩:=ZhT (env:=X.env) (scope:=scope) λy hy hf=>I.ok.has y.1 ((ZcG hok y hy hf).elim (λz=>.inl z) λz=>.inr z)
 have hco':∀pos cv,codeAmong pos ts.toList=some cv->∃c2 oc vs t t',cv=.ref c2/\H c2=some (.frz oc (.own P))/\oc.data=.fields vs/\vs[1]?=some (.str q t)/\t'=(0:Tok):=λpos cv e=>by
  obtain⟨c,oc,vs,q',t,t',e1,e2,e3,e4,e5⟩:=hco pos cv e
  have e4':some (Value.str q (0:Tok))=some (Value.str q' t):=e4
  cases e4'
  exact⟨c,oc,vs,t',0,e1,e2,e3,e5,rfl⟩
 refine kla_eval hdef ?_
 rw[L.ql]
 cases hca:codeAmong pos ts.toList with
 |some cv =>
  obtain⟨c,oc,vs,tq,t',rfl,e2,e3,e4,_⟩:=hco' pos cv hca
  refine kla_makeFunctionHit (mg:=X.mg) hcl I.ok.glob hg hc0 C hts h3 hca hb λctv h' tk hk hsz=>?_
  have hoc:s.heap.get? c=some oc:=(I.hok c _ e2).1
  have hcP:c≠P:=λz=>by rw[z,hP]at e2;cases e2
  have lt:=Yh hoc
  have kk:∀b o,s.heap.get? b=some o->(h'.push {cls:=.type "function",data:=.func (kla_fn "<lambda>" q params body scope cl ((X.mg "__name__").getD .none) (.ref c) ctv)}).get? b=some o:=λb o e=>Yi _ (hk b o e)
  have J:=I.lam (t':=tk) (f:=h'.objs.size) hP (λb o _ e=>kk b o e) (kk _ _ hts) h3 (.inl e2) hcP (kk _ _ hoc) e3 e4 hsz (λz=>by rw[<-z]at lt;exact absurd (Yv lt hsz) (YJ _)) (Yt _ rfl) λp2 cv2 z=>.inr (hco' p2 cv2 z)
  have hfn:H h'.objs.size=none:=I.hok.fresh hsz
  have ne:c≠h'.objs.size:=Yk (Yv lt hsz)
  refine⟨.ref h'.objs.size,_,J,rfl,h _ _ hfn (λb o e=>?_) ⟨c,oc,vs,tq,cl,_,ctv,Zc,by rw[Zf ne,Zc],e3,e4,up,hfr⟩⟩
  rw[Zf (Zp e hfn)]
  by_cases z:b=c
  ·subst z;rw[Zc,<-e,e2]
  ·rw[Zf z];exact e
 |none =>
  refine kla_makeFunction (mg:=X.mg) hcl I.ok.glob hg hc0 C hts h3 hca gP hb λc ctv h' tk hx hge hlt hrec htb=>?_
  obtain⟨c2,oc,vs,tq,e2,hoc,e3,e4⟩:=hrec
  cases e2
  have hsz:s.heap.objs.size<=h'.objs.size:=Yo hge (YU hlt)
  have kk:∀b o,h'.get? b=some o->(h'.push (kla_obj "<lambda>" q params body scope cl ((X.mg "__name__").getD .none) c ctv)).get? b=some o:=λb o e=>Yi _ e
  have hPlt:P<s.heap.objs.size:=I.hok.lt hP
  have hcP:c≠P:=λz=>by rw[z]at hge;exact absurd (Yv hPlt hge) (YJ _)
  have tl:(ts++#[rawInt pos.line,rawInt pos.col,Value.ref c]).toList=ts.toList++[rawInt pos.line,rawInt pos.col,Value.ref c]:=by simp
  have J:=I.lam (t':=tk) (f:=h'.objs.size) (ts:=ts++#[rawInt pos.line,rawInt pos.col,.ref c]) hP (λb o nb e=>kk b o (hx b o nb e)) (kk _ _ htb) (by rw[tl];exact TriplesOk_snoc _ _ _ _ h3) (.inr hge) hcP (kk _ _ hoc) e3 e4 hsz (Nat.ne_of_gt hlt) (Yt _ rfl) λp2 cv2 z=>by
   rw[tl]at z
   rcases ZmN ts.toList h3 z with y|y
   ·exact .inr (hco' p2 cv2 y)
   ·exact .inl y
  have hfn:H h'.objs.size=none:=I.hok.fresh hsz
  have hcn:H c=none:=I.hok.fresh hge
  refine⟨.ref h'.objs.size,_,J,rfl,h _ _ hfn (λb o e=>?_) ⟨c,oc,vs,tq,cl,_,ctv,Zc,by rw[Zf (Yk hlt),Zc],e3,e4,up,hfr⟩⟩
  rw[Zf (Zp e hfn),Zf (Zp e hcn)];exact e
end
noncomputable def Zh9 (X:Cx) (A':Around) (Nc:List Str) (q:Str) (scope:Scope) (cl:List (Str×Addr)) (L f c:Addr) (s:Shared) (H:Hp):Cx where
 prog:=X.prog
 w:=X.w
 K:=X.K
 mg:=X.mg
 base:=X.base
 A:=A'.deeper (envX q scope L f (.ref c) cl)
 N:=Nc
 s₀:=s
 H₀:=H
 env:=envX q scope L f (.ref c) cl
 outer:=X.stack
 stack:=envX q scope L f (.ref c) cl::X.stack
 ex:=[]
 fn:=λ_=>false
 calm:=X.calm
 pn:=[]
 xe:=λ_ _=>False
section
variable {X:Cx}
theorem ZoO {pins:List (Addr×Obj)}{σ:St}{H:Hp}{s:Shared}{A':Around}{Nc:List Str}{js:List (Option Nat)}{q pn:Str}{scope:Scope}{cl:List (Str×Addr)}{h1:Heap}{tk:Nat}{f c:Addr}{v:V}{u:Value}
  (I:Inv X pins σ H s) (hA:A'.frames=some X.stack) (hh:X.calm=true->A'.handled=none) (hok:compOk X.env.scope scope=true) (htk:takesC X.N Nc scope js 0=true) (hp0:Nc[0]?=some pn) (hj0:js[0]?=some none) (hpl:scope.names.lookup pn=some .local)
  (up:∀x c,cl.lookup x=some c->X.env.cells.lookup x=some c) (hfr:∀y∈scope.names,y.2=.free->∃c,cl.lookup y.1=some c/\X.env.cells.lookup y.1=some c)
  (r:RelV v u) (old:∀b o,s.heap.get? b=some o->h1.get? b=some o) (hns:h1.Ns s.heap.objs.size λy=>[(pn,u)].reverse.lookup y) :
  Inv (Zh9 X A' Nc q scope cl s.heap.objs.size f c s H) [] ((ZM js σ).set 0 (some v)) H {s with heap:=h1,toks:=tk}:=by
 have noA:∀b:Addr,b∉(Zh9 X A' Nc q scope cl s.heap.objs.size f c s H).ex:=λb z=>absurd (show b∈([]:List Addr)from z) (by simp)
 have kf:∀x,((envX q scope s.heap.objs.size f (.ref c) cl).kindOf x=some .cell\/(envX q scope s.heap.objs.size f (.ref c) cl).kindOf x=some .free)->∃c,cl.lookup x=some c:=λx hx=>by
  rcases hx with z|z
  ·exact absurd rfl (ZcF hok _ (lookup_mem (show scope.names.lookup x=some .cell from z)))
  ·obtain⟨c,q,_⟩:=hfr _ (lookup_mem (show scope.names.lookup x=some .free from z)) rfl
   exact⟨c,q⟩
 refine⟨⟨I.ok.mod,ZcE hok,rfl,rfl,Yf _,λx y c e1 e2=>I.ok.inj x y c (up _ _ e1) (up _ _ e2),λx hx=>kf x hx,(λx c e=>nomatch e),hh,Around.frames_deeper hA,.inr ⟨rfl,rfl⟩,λb z=>absurd z (noA b),I.bs,Yo I.ok.bsz I.sz,λb _ _=>noA b,λb z=>absurd z (noA b),I.stack,I.Zf2⟩,
  rfl,I.bare,Un.kept old,⟨_,hns,λi x v' e1 e2 e3=>?_⟩,λx c e=>?_,I.hok.fresh (Yf _),λx c e=>I.freeC x c (up _ _ e),λp hp=>absurd (show p∈([]:List (Addr×Obj))from hp) (by simp),I.hok.kept old,?_⟩
 ·by_cases hi:i=0
  ·subst hi
   have ex:x=pn:=YA ((show Nc[0]?=some x from e1).symm.trans hp0)
   subst ex
   have hl:0<(ZM js σ).length:=by
    unfold ZM
    rw[Yj]
    exact(Ym.mp hj0).1
   rw[List.getElem?_set_self hl]at e2
   cases e2
   exact⟨u,r,.inl ⟨hpl,by simp⟩⟩
  ·rw[List.getElem?_set_ne (Ne.symm hi)]at e2
   have e2':(ZM js σ)[i]?=some (some v'):=e2
   unfold ZM at e2'
   rw[YD]at e2'
   cases hq:js[i]? with
   |none=>rw[hq]at e2';cases e2'
   |some j0 =>
    cases j0 with
    |none=>rw[hq]at e2';cases e2'
    |some j =>
     rw[hq]at e2'
     simp only[Option.map_some,Option.some.injEq]at e2'
     have e4:σ[j]?=some (some v'):=by
      cases z:σ[j]? with
      |none=>rw[z]at e2';cases e2'
      |some o=>rw[z]at e2';simp only[Option.join_some]at e2';rw[e2']
     obtain⟨y,y1,y2,y3⟩:=Zdv htk hq
     rw[Nat.zero_add]at y1
     have:x=y:=YA ((show Nc[i]?=some x from e1).symm.trans y1)
     subst this
     have hm:=lookup_mem y3
     obtain⟨c1,h1',h2'⟩:=hfr _ hm rfl
     have hk:=ZcG hok _ hm rfl
     obtain⟨m0,hn0,hl0⟩:=I.loc
     obtain⟨u',r',l⟩:=hl0 j x v' y2 e4 (hk.elim (λz=>.inr (.inl z)) λz=>.inr (.inr z))
     refine⟨u',r',.inr ⟨.inr y3,c1,h1',?_⟩⟩
     rcases l with⟨lk,_⟩|⟨_,c',c3,c4⟩
     ·rcases hk with z|z
      ·rw[show X.env.kindOf x=some .cell from z]at lk;cases lk
      ·rw[show X.env.kindOf x=some .free from z]at lk;cases lk
     ·rw[h2']at c3;cases c3
      obtain⟨oc,w1,w2⟩:=c4
      exact⟨oc,old _ _ w1,w2⟩
 ·obtain⟨v,oc,w1,w2⟩:=I.cell x c (up _ _ e)
  exact⟨v,oc,old _ _ w1,w2⟩
 ·show((ZM js σ).set 0 (some v)).length=Nc.length
  unfold ZM
  have:=Zcg htk
  rw[List.length_set,Yj]
  omega
structure LamSc (X:Cx) (Nc:List Str) (js:List (Option Nat)) (params:Arguments) (body:Expr) (scope:Scope) (pn:Str):Prop where
 ok:compOk X.env.scope scope=true
 tk:takesC X.N Nc scope js 0=true
 p0:Nc[0]?=some pn
 j0:js[0]?=some none
 pl:scope.names.lookup pn=some .local
 co:scope.isCoroutine=false
 gen:scope.isGenerator=false
 bd:∀(q:Str) (cl:List (Str×Addr)) (pm cd ctv u:Value),bindArgs (kla_fn "<lambda>" q params body scope cl pm cd ctv) ⟨[u],[]⟩=pure [(pn,u)]
theorem Zia {pins:List (Addr×Obj)}{σ:St}{H:Hp}{s:Shared}{A':Around}{Nc:List Str}{js:List (Option Nat)}{q pn:Str}{params:Arguments}{body:Expr}{scope:Scope}{P f:Addr}{v:V}{u:Value}{tb:TE}{Q:VK}{E:Value->Shared->Prop}
  (S:LamSc X Nc js params body scope pn) (hbody:∀cl L f c s H,PE (Zh9 X A' Nc q scope cl L f c s H) body tb) (I:Inv X pins σ H s) (hA:A'.frames=some X.stack) (hh:X.calm=true->A'.handled=none) (hroom:A'.depth<recursionLimit) (L:Zky X.env P q params body scope H f)
  (r:RelV v u) (h:tb ((ZM js σ).set 0 (some v)) H Q):wpAny (model X.prog X.w) A' (call (.ref f) [u]) (EP X pins σ Q) E s:=by
 obtain⟨c,oc,vs,t,cl,pm,ctv,e1,e2,e3,e4,up,hfr⟩:=L
 have hfo:=(I.hok f _ e1).1
 have hoc:=(I.hok c _ e2).1
 refine wpAny_call (codeAny_mono (R:=λr s'=>∃u',r=.ok (.ret u')/\EP X pins σ Q u' s') (kla_callFunE hroom hfo rfl S.co S.gen rfl ⟨c,oc,vs,t,rfl,hoc,e3,e4⟩ ?_) λr s' ⟨u',hr,z⟩=>by subst hr;exact z)
 show wpAny _ _ (bindArgs (kla_fn "<lambda>" q params body scope cl pm (.ref c) ctv) ⟨[u],[]⟩) _ _ _
 rw[S.bd]
 refine Yc (wpAny_newFunctionEnv (λx hx=>ZcF S.ok x hx) (λx hx=>?_) (λh₁ hns hsb=>⟨I.nolimit.fresh _ hsb,?_⟩) (ZcE S.ok))
 ·have:x=(pn,u):=by simpa using hx
  subst this;exact S.pl
 show codeAny _ _ (.expr body (envX q scope s.heap.objs.size f (.ref c) cl)) _ _
 have old:∀b o,s.heap.get? b=some o->h₁.get? b=some o:=λb o e=>hsb.extBut b o (Yk (Yh e)) (Yi _ e)
 have J:=ZoO (q:=q) (f:=f) (c:=c) (tk:=s.toks+[(pn,u)].length) I hA hh S.ok S.tk S.p0 S.j0 S.pl up hfr r old hns
 refine kla_codeExpr (Yz (hbody cl _ f c s H [] _ _ H Q J h) (λv' s' ⟨x,H',J',r',q'⟩=>⟨v',rfl,x,H',?_,r',q'⟩) λ_ _ z=>z.elim)
 exact I.Znu (ch:=[]) J'.os J'.base J'.hok J'.bare λb z=>absurd z (by simp)
end
section
variable {prog:Program}{w:World}{A:Around}{E:Value->Shared->Prop}{s:Shared}
noncomputable def ZqD (b:Bool) (st:SortSt):Array Value:=if b then ((arrOf st).map (·.2)).reverse else (arrOf st).map (·.2)
noncomputable def ZmP (h:Heap) (kS a:Addr) (out:Array Value):Heap:=(h.update kS (Obj.mapSeq λ_=>(#[]:Array Value))).update a (Obj.mapSeq λ_=>out)
theorem Ztr {a kS:Addr}{b:Bool}{e e1:Nat}{keys:Array Value}{st:SortSt}{R:PySem.Fin->Shared->Prop} (ok:s.heap.get? kS=some (seqObj "list" keys e)) (oa:s.heap.get? a=some (seqObj "list" #[] e1)) (ne:a≠kS) (z1:keys.size<=1000) (z2:(arrOf st).size<=1000) (hf:failedOf st=none)
  (h:R (.done (.ret .none)) {s with heap:=ZmP s.heap kS a (ZqD b st)}):wpAny (model prog w) A (ksk_tail a b e1 (.ref kS) st) R E s:=by
 have oa1:(s.heap.update kS (Obj.mapSeq λ_=>(#[]:Array Value))).get? a=some (seqObj "list" #[] e1):=(Heap.get?_update_ne _ _ _ _ ne).trans oa
 have zo:(ZqD b st).size<=sizeLine+1:=by
  unfold ZqD
  cases b
  ·rw[Yb YS,Array.size_map];exact Nat.le_succ_of_le (Yo z2 (by decide))
  ·rw[Yd rfl,Array.size_reverse,Array.size_map];exact Nat.le_succ_of_le (Yo z2 (by decide))
 unfold ksk_tail
 dsimp only
 refine Ya (listUpdate_at ok rfl (Ya (wpAny_letGo (Ya (seqEpoch_at oa1 rfl (Ya (listUpdate_at oa1 rfl ?_ (Yu _) zo)))))) (Yo z1 (by decide)) (Yu _))
 rw[hf]
 simp only[bne_self_eq_false,Bool.false_eq_true,if_false]
 exact Yc h
theorem sk_end {a kS:Addr}{b:Bool}{e e1:Nat}{keys:Array Value}{vs:List Value}{kz:List Int}{R:PySem.Fin->Shared->Prop} (ok:s.heap.get? kS=some (seqObj "list" keys e)) (oa:s.heap.get? a=some (seqObj "list" #[] e1)) (ne:a≠kS) (hk:IntsAre keys.toList kz) (hl:kz.length=vs.length) (h64:vs.length<64)
  (h:∀out:Array Value,KskOut b kz vs out.toList->R (.done (.ret .none)) {s with heap:=ZmP s.heap kS a out}):wpAny (model prog w) A (ksk_end a b vs.toArray e1 (.ref kS) keys) R E s:=by
 have hz:keys.size=vs.length:=by
  have q:=hk.length
  rw[Yp]at q;omega
 have hzz:(keys.zip vs.toArray).size=vs.length:=by rw[Array.size_zip,hz,Yr,Nat.min_self]
 have go:∀t:Sem PySem.Fin,wpAny (model prog w) A t R E s->wpAny (model prog w) A (if b=true then (rule "list.sort.reverse" >>= λ_=>t)else t) R E s:=λt ht=>by
  cases b
  ·exact ht
  ·exact Ya (wpAny_rule ht)
 have hst:(if b=true then (keys.zip vs.toArray).reverse else keys.zip vs.toArray).Perm (keys.zip vs.toArray):=by
  cases b
  ·exact .refl _
  ·exact Array.perm_iff_toList_perm.mpr (by rw[Yd rfl,Array.toList_reverse];exact List.reverse_perm _)
 have done:∀st:SortSt,(arrOf st).Perm (keys.zip vs.toArray)->failedOf st=none->SortedTo (arrOf st) (arrOf st).size->wpAny (model prog w) A (ksk_tail a b e1 (.ref kS) st) R E s:=λst q1 q2 q3 =>
  Ztr ok oa ne (by omega) (by rw[q1.size_eq,hzz];omega) q2 (h _ (ksk_out hk q1 q3))
 unfold ksk_end
 refine go _ ?_
 by_cases h2:vs.length<2
 ·have h2':vs.toArray.size<2:=by rw[Yr];exact h2
  rw[Yd h2',Yd h2']
  refine Ya (Yc ?_)
  dsimp only
  rw[StateT.run_pure]
  refine Ya (Yc (done (SortSt.mk' general' (if b=true then (keys.zip vs.toArray).reverse else keys.zip vs.toArray) #[] 7 none) hst rfl λi j hij hj=>?_))
  have hj':j<(if b=true then (keys.zip vs.toArray).reverse else keys.zip vs.toArray).size:=hj
  rw[hst.size_eq,hzz]at hj'
  rw[show i=j by omega]
  exact Int.le_refl _
 ·have h2':¬ vs.toArray.size<2:=by rw[Yr];exact h2
  rw[Yb h2',Yb h2',ksk_kind hk (by omega)]
  refine Ya (Yc (Ya (Yz (wpS_sortRuns (a₀:=keys.zip vs.toArray) (st:=SortSt.mk' oneType' (if b=true then (keys.zip vs.toArray).reverse else keys.zip vs.toArray) #[] 7 none)
   (Q:=λ_ st=>(arrOf st).Perm (keys.zip vs.toArray)/\failedOf st=none/\SortedTo (arrOf st) (keys.zip vs.toArray).size) (ksk_intKeys hk) ⟨hst,rfl,rfl,rfl⟩ (by omega) (by omega) λst q1 q2 q3=>⟨q1,q2,q3⟩) ?_ λ_ _ z=>z)))
  rintro⟨⟨⟩,st⟩ s' ⟨rfl,q1,q2,q3⟩
  exact done st q1 q2 (by rw[q1.size_eq];exact q3)
end
section
variable {X:Cx}
theorem Inv.track {pins:List (Addr×Obj)}{σ:St}{H:Hp}{s:Shared}{a:Addr}{o:HO} (I:Inv X pins σ H s) (hn:H a=none) (hL:a≠X.env.locals) (h1:a∈X.ex\/X.s₀.heap.objs.size<=a) (h2:∀x c,X.env.cells.lookup x=some c->c≠a) (h3:∀p∈X.pn++pins,p.1≠a)
  (new:ZI X.prog X.w (upd H a o) s.heap a o):Inv X pins σ (upd H a o) s:=by
 have up:∀b u,H b=some u->upd H a o b=some u:=λb u e=>by rw[Zf (Zp e hn)];exact e
 have J:=I.step (g':=s.gens) (d':=s.drawn) (t':=s.toks) (h':=s.heap) (H':=upd H a o) (ch:=[a]) (λb hb=>?_) (λb o _ _ _ e _=>e) (λb o _ _ _ e _=>⟨o.slots,e⟩) (λb o hb e n=>?_) (λb o _ e=>⟨o,e⟩) (λb xs e=>up _ _ e) (λb o u e=>up _ _ e) (λb ps e=>⟨#[],by rw[up _ _ e];simp⟩) (λm hm=>hm) (λb u e=>?_) I.bare
 ·exact J
 ·have e:b=a:=by simpa using hb
  subst e
  exact⟨h1,hL,h2,h3⟩
 ·rw[Zf (λz=>hb (by simp[z]))];exact n
 ·by_cases z:b=a
  ·subst z;rw[Zc]at e;cases e;exact new
  ·rw[Zf z]at e
   exact(I.hok b u e).Zf1 (λc v _ q=>q) (λc q=>up _ _ q) (λc xs q=>up _ _ q) λc o' u' q=>up _ _ q
theorem Zts {pins:List (Addr×Obj)}{σ:St}{H:Hp}{s:Shared}{A':Around}{E:Value->Shared->Prop}{f:Value}{b:Bool}{a kS:Addr}{e1:Nat}{vs:List Value}{ns:List Int}{kz:Int->Int}{R:PySem.Fin->Shared->Prop}
  (I:Inv X ((kS,seqObj "list" #[] 0)::(a,seqObj "list" #[] e1)::pins) σ H s) (hk0:X.s₀.heap.objs.size<=kS) (ha0:X.s₀.heap.objs.size<=a) (ne:a≠kS) (hp:∀p∈X.pn++pins,p.1≠kS/\p.1≠a) (hv:IntsAre vs ns) (h64:vs.length<64)
  (turn:∀(H':Hp) (s':Shared) (pins':List (Addr×Obj)) (n:Int) (u:Value),n∈ns->Inv X pins' σ H' s'->Ze H H'->RelV (.int n) u->wpAny (model X.prog X.w) A' (call f [u]) (EP X pins' σ λv H2=>v=.int (kz n)/\Ze H' H2) (λ_ _=>False) s')
  (fin:∀(H':Hp) (s':Shared) (out:Array Value) (c:Nat),Inv X pins σ H' s'->Ze H H'->H' a=none->s'.heap.get? a=some (seqObj "list" out c)->KskOut b (ns.map kz) vs out.toList->R (.done (.ret .none)) s') :
  wpAny (model X.prog X.w) A' (ksk_rest a f b vs.toArray e1 (.ref kS)) R E s:=by
 have hlen:vs.length=ns.length:=hv.length
 have facts:∀{H':Hp}{s':Shared}{ps:List (Addr×Obj)}{x:Addr}{xs:Array Value}{c:Nat},Inv X ps σ H' s'->(x,seqObj "list" xs c)∈ps->s'.heap.get? x=some (seqObj "list" xs c)/\H' x=none/\x≠X.env.locals/\x∉X.fs/\∀y cc,X.env.cells.lookup y=some cc->cc≠x:=λ{H' s' ps x xs c} J hm=>by
  obtain⟨q1,q2,q3,q4,_⟩:=J.pin _ (Yl _ hm)
  refine⟨q1,q2,q3,q4,λy cc hc z=>?_⟩
  obtain⟨v,oc,w1,w2⟩:=J.cell y cc hc
  rw[z,q1]at w1;cases w1;cases w2
 unfold ksk_rest
 refine Ya (wpAny_rule ?_)
 first
  |rw[List.forIn_toArray]
  |(rw[<-Array.forIn_toList];simp only[List.toList_toArray])
 refine Ya (ksk_fold (λi s'=>∃H' kA e,Inv X ((kS,seqObj "list" kA e)::(a,seqObj "list" #[] e1)::pins) σ H' s'/\Ze H H'/\IntsAre kA.toList ((ns.take i).map kz)) vs 0 s ⟨H,#[],0,I,Ze.refl H,by simpa using IntsAre.nil⟩ ?step ?done)
 case step =>
  rintro j x s' hx ⟨H',kA,e,J,sm,hk⟩
  simp only[Nat.zero_add]at hk⊢
  have hj:j<vs.length:=(Ym.mp hx).1
  have hnj:ns[j]?=some ns[j]:=Ye (by omega)
  obtain⟨t,ht⟩:=hv.get j _ hnj
  rw[hx]at ht
  cases ht
  have hz:kA.size<=64:=by
   have h1:=hk.length
   rw[Yp,Yj,YZ]at h1
   omega
  refine Ya (wpAny_attempt (Yz (turn H' s' _ ns[j] _ (YL _) J sm ⟨t,rfl⟩) (λv s'' he=>?_) λ_ _ hF=>hF.elim))
  obtain⟨x2,H2,J2,r2,rfl,sm2⟩:=he
  obtain⟨t2,rfl⟩:=r2
  obtain⟨o1,n1,l1,_,c1⟩:=facts J2 (Ys ..)
  try dsimp only
  obtain⟨c2,hc2⟩:∃c2,(s''.heap.update kS (Obj.mapSeq (·.push (.int (kz ns[j]) t2)))).get? kS=some (seqObj "list" (kA.push (.int (kz ns[j]) t2)) c2):=⟨_,get?_update_seq o1 (·.push (.int (kz ns[j]) t2))⟩
  refine Ya (listUpdate_at o1 rfl ?_ (Yo hz (by decide)) (Yo (Y8 (Array.size_push ..)) (Nat.le_succ_of_le (Yo (Nat.succ_le_succ hz) (by decide)))))
  have J3:Inv X ((a,seqObj "list" #[] e1)::pins) σ H2 s'':=J2.Zy λp hp'=>by
   obtain⟨q1,q2,q3,q4,q5⟩:=J2.pin p (Yl _ (Yq _ hp'))
   exact⟨q1,q2,q3,q4,q5⟩
  have J4:=J3.turned (t':=s''.toks) (h':=s''.heap.update kS (Obj.mapSeq (·.push (.int (kz ns[j]) t2)))) (it:=kS) (λb o nb e=>(Heap.get?_update_ne _ _ _ _ nb).trans e) n1 l1 (.inr hk0) c1 (λp hp'=>by
   rcases YE.mp hp' with z|z
   ·exact(hp p (YR _ z)).1
   ·rcases Yg.mp z with rfl|z
    ·exact ne
    ·exact(hp p (Yl _ z)).1)
  have o1f:=(facts J2 (Ys ..)).2.2.2.1
  have J5:Inv X ((kS,seqObj "list" (kA.push (.int (kz ns[j]) t2)) c2)::(a,seqObj "list" #[] e1)::pins) σ H2 {s'' with heap:=s''.heap.update kS (Obj.mapSeq (·.push (.int (kz ns[j]) t2)))}:=J4.Zy λp hp'=>by
   rcases Yg.mp hp' with rfl|hp'
   ·exact⟨hc2,n1,l1,o1f,λv z=>by cases z⟩
   ·exact J4.pin p (Yl _ hp')
  refine Yc ⟨rfl,H2,_,_,J5,sm.trans sm2,?_⟩
  have ek:(ns.take (j+1)).map kz=(ns.take j).map kz++[kz ns[j]]:=by rw[Jb,hnj,Y4];rfl
  have ea:(kA.push (Value.int (kz ns[j]) t2)).toList=kA.toList++[Value.int (kz ns[j]) t2]:=by simp
  rw[ea,ek];exact ksk_snoc hk
 case done =>
  rintro s' ⟨H',kA,e,J,sm,hk⟩
  have hk':IntsAre kA.toList (ns.map kz):=by
   rw[List.take_of_length_le (by omega)]at hk
   exact hk
  obtain⟨o1,n1,l1,f1,c1⟩:=facts J (Ys ..)
  obtain⟨o2,n2,l2,f2,c2⟩:=facts J (Yq _ (Ys ..))
  refine Ya (listItems_at o1 rfl ?_)
  refine sk_end o1 o2 ne hk' (by rw[Yj];exact hlen.symm) h64 λout ho=>?_
  have J3:Inv X pins σ H' s':=J.Zy λp hp'=>J.pin p (Yl _ (Yq _ (Yq _ hp')))
  have J4:=J3.turned (t':=s'.toks) (h':=s'.heap.update kS (Obj.mapSeq λ_=>(#[]:Array Value))) (it:=kS) (λb o nb e=>(Heap.get?_update_ne _ _ _ _ nb).trans e) n1 l1 (.inr hk0) c1 λp hp'=>(hp p hp').1
  have J5:=J4.turned (t':=s'.toks) (h':=ZmP s'.heap kS a out) (it:=a) (λb o nb e=>(Heap.get?_update_ne _ _ _ _ nb).trans e) n2 l2 (.inr ha0) c2 λp hp'=>(hp p hp').2
  have o3:(s'.heap.update kS (Obj.mapSeq λ_=>(#[]:Array Value))).get? a=some (seqObj "list" #[] e1):=(Heap.get?_update_ne _ _ _ _ ne).trans o2
  exact fin H' _ out _ J5 sm n2 (get?_update_seq o3 λ_=>out) ho
theorem Ztt {pins:List (Addr×Obj)}{σ:St}{H:Hp}{s:Shared}{A':Around}{E:Value->Shared->Prop}{f:Value}{b:Bool}{a:Addr}{e0:Nat}{vs:List Value}{ns:List Int}{kz:Int->Int}{R:PySem.Fin->Shared->Prop}
  (I:Inv X ((a,seqObj "list" vs.toArray e0)::pins) σ H s) (ha0:X.s₀.heap.objs.size<=a) (hp:∀p∈X.pn++pins,p.1≠a) (hv:IntsAre vs ns) (h64:vs.length<64)
  (turn:∀(H':Hp) (s':Shared) (pins':List (Addr×Obj)) (n:Int) (u:Value),n∈ns->Inv X pins' σ H' s'->Ze H H'->RelV (.int n) u->wpAny (model X.prog X.w) A' (call f [u]) (EP X pins' σ λv H2=>v=.int (kz n)/\Ze H' H2) (λ_ _=>False) s')
  (fin:∀(H':Hp) (s':Shared) (out:Array Value) (c:Nat),Inv X pins σ H' s'->Ze H H'->H' a=none->s'.heap.get? a=some (seqObj "list" out c)->KskOut b (ns.map kz) vs out.toList->R (.done (.ret .none)) s') :
  wpAny (model X.prog X.w) A' (ksk_tree a f b) R E s:=by
 obtain⟨oa,na,la,fa,da⟩:=I.pin _ (Yl _ (Ys ..))
 have ca:∀y cc,X.env.cells.lookup y=some cc->cc≠a:=λy cc hc z=>by
  obtain⟨v,oc,w1,w2⟩:=I.cell y cc hc
  rw[z,oa]at w1;cases w1;cases w2
 have lt:=Yh oa
 obtain⟨e1,oa1⟩:∃e1,(s.heap.update a (Obj.mapSeq λ_=>(#[]:Array Value))).get? a=some (seqObj "list" #[] e1):=⟨_,get?_update_seq oa λ_=>#[]⟩
 have I0:Inv X pins σ H s:=I.Zy λp hp'=>I.pin p (Yl _ (Yq _ hp'))
 have I1:=I0.turned (t':=s.toks) (h':=s.heap.update a (Obj.mapSeq λ_=>(#[]:Array Value))) (it:=a) (λb o nb e=>(Heap.get?_update_ne _ _ _ _ nb).trans e) na la (.inr ha0) ca hp
 have sz:(s.heap.update a (Obj.mapSeq λ_=>(#[]:Array Value))).objs.size=s.heap.objs.size:=Heap.size_update ..
 have I2:=I1.kept (h':=((s.heap.update a (Obj.mapSeq λ_=>(#[]:Array Value))).push (seqObj "tuple" vs.toArray 0)).push (seqObj "list" #[] 0)) (t':=s.toks) λb o e=>Yi _ (Yi _ e)
 have sz2:((s.heap.update a (Obj.mapSeq λ_=>(#[]:Array Value))).push (seqObj "tuple" vs.toArray 0)).objs.size=s.heap.objs.size+1:=(size_push' ..).trans (congrArg (·+1) sz)
 have hge:X.s₀.heap.objs.size<=s.heap.objs.size:=I.sz
 have hkL:X.env.locals<s.heap.objs.size:=I.lt
 have nk:H (s.heap.objs.size+1)=none:=I.hok.fresh (YW _)
 unfold ksk_tree
 refine Ya (listItems_at oa rfl (Ya (listUpdate_at oa rfl (Ya (seqEpoch_at oa1 rfl (Ya (wpAny_newTuple (Ya (wpAny_newList (YB ?_) (Yu _))) ?_)))) ?_ (Yu _))))
 ·rw[sz2]
  refine Zts (kS:=s.heap.objs.size+1) (e1:=e1) (I2.Zy λp hp'=>?_) (Nat.le_succ_of_le hge) ha0 (Yk (YM lt)) (λp hp'=>⟨?_,hp p hp'⟩) hv h64 turn fin
  ·rcases Yg.mp hp' with rfl|hp'
   ·exact⟨by rw[<-sz2];exact Yt _ rfl,nk,Nat.ne_of_gt (YM hkL),I.Zk5 (YW _),λv z=>by cases z⟩
   ·rcases Yg.mp hp' with rfl|hp'
    ·exact⟨Yi _ (Yi _ oa1),na,la,fa,λv z=>by cases z⟩
    ·exact I2.pin p (Yl _ hp')
  ·have:=Yh (I0.pin p hp').1
   exact Yk (YM this)
 ·exact Yo (show vs.length<=64 by omega) (by decide)
 ·rw[Yr];exact Yo (show vs.length<=64 by omega) (by decide)
end
theorem ZqE {prog:Program}{w:World}{A:Around}{R:Result->Shared->Prop}{s:Shared}{r S:Addr}{a b c:Int}{t u v:Tok}{n c₀:Nat} (hh:A.handled=none) (hr:IsRange s.heap r a b c t u v) (hsmall:Builtin.Range.small a b c=true)
  (hn:Builtin.Range.rangeSize a b c=n) (hlen:n<=2 ^ 24) (hS:s.heap.get? S=some {cls:=.type "list",data:=.seq #[] c₀})
  (hR:∀h' tk acc' c',(∀b o,b≠S->s.heap.get? b=some o->h'.get? b=some o)->h'.get? S=some {cls:=.type "list",dict:=none,data:=.seq acc' c',slots:=#[]}->ItemsOf (λi v=>∃t,v=.int (a+i*c) t) acc' n->R (.ok (.ret (.ref S))) {s with heap:=h',toks:=tk}) :
  codeAny (model prog w) A (.builtin "list.__iadd__" ⟨[.ref S,.ref r],[]⟩) R s :=
 codeAny_builtin entry_list_iadd' (wpAny_extend_range hh hr hsmall hn hlen S (.ref S) c₀ hS hR)
theorem Zlx {prog:Program}{w:World}{A:Around}{E:Value->Shared->Prop}{s:Shared}{r:Addr}{a b c:Int}{t u v:Tok}{n:Nat}{Q:List Value->Shared->Prop} (hh:A.handled=none) (hr:IsRange s.heap r a b c t u v) (hsmall:Builtin.Range.small a b c=true)
  (hn:Builtin.Range.rangeSize a b c=n) (hlen:n<=2 ^ 24) (h:∀(h':Heap) (tk:Nat) (acc:Array Value),(∀b o,s.heap.get? b=some o->h'.get? b=some o)->ItemsOf (λi v=>∃t,v=.int (a+i*c) t) acc n->Q acc.toList {s with heap:=h',toks:=tk}) :
  wpAny (model prog w) A (collect (.ref r)) Q E s:=by
 unfold collect
 refine Ya (wpAny_runValue (codeAny_builtin entry_proto_collect' ?_))
 show wpAny _ _ (newList [] >>= λl=>again (.builtin "list.__iadd__" ⟨[l,.ref r],[]⟩)) _ _ s
 refine Ya (wpAny_newList (Yc ⟨Code.quiet_builtin _ (by decide +kernel),?_⟩))
 refine ZqE (s:={s with heap:=s.heap.push (seqObj "list" #[] 0)}) hh (Yi _ hr) hsmall hn hlen (Yt _ rfl) λh' tk acc c' hk hS hacc=>?_
 refine Ya (wpAny_load hS (Yc (h h' tk acc (λb o e=>hk b o (Yk (Yh e)) (Yi _ e)) hacc)))
theorem Zly (g:Int->Int):∀vs:List Value,((vs.map numOf).map g).zip vs=vs.map λv=>(g (numOf v),v)
 |[]=>rfl
 |v::vs=>by
  simp only[YC,List.zip_cons_cons]
  rw[Zly g vs]
theorem ZmQ {b:Bool}{g:Int->Int}{vs out:List Value}{ns:List Int} (hv:IntsAre vs ns) (h:KskOut b (ns.map g) vs out):∃ns',IntsAre out ns'/\ns'.Perm ns/\ns'.Pairwise λx y=>if b then g y<=g x else g x<=g y:=by
 obtain⟨ps,hp,rfl,hs⟩:=h
 have en:ns=vs.map numOf:=hv.nums.symm
 rw[en,Zly]at hp
 have mem:∀p∈ps,p.1=g (numOf p.2)/\p.2∈vs:=λp hp'=>by
  obtain⟨v,hv',rfl⟩:=YN.mp (hp.mem_iff.mp hp')
  exact⟨rfl,hv'⟩
 refine⟨(ps.map Prod.snd).map numOf,intsAre_map _ λv hv'=>?_,?_,?_⟩
 ·obtain⟨p,hp',rfl⟩:=YN.mp hv'
  exact hv.all _ (mem p hp').2
 ·have:=(hp.map Prod.snd).map numOf
  rw[Y7 (l:=vs),show(Prod.snd ∘ λv=>(g (numOf v),v))=(id:Value->Value)from rfl,List.map_id]at this
  rw[en];exact this
 ·rw[List.pairwise_map,List.pairwise_map]
  refine hs.imp_of_mem λ{p q} hp' hq' hr=>?_
  rw[<-(mem p hp').1,<-(mem q hq').1]
  exact hr
noncomputable def nats (n:Int):List Int:=(List.range n.toNat).map λ(i:Nat)=>(i:Int)
section
variable {X:Cx}
theorem ZmR {pins:List (Addr×Obj)}{σ:St}{H:Hp}{s:Shared}{kw:List (Str×Value)}{f:Value}{b:Bool}{p:Addr}{n:Int}{kz:Int->Int}{Q:VK} (I:Inv X pins σ H s) (hc:X.calm=true) (hp:H p=some (.rng 0 n)) (h0:0<=n) (h64:n<64)
  (ha1:argsOk "sorted" ⟨[.ref p],kw⟩) (ha2:∀x,argsOk "list.sort" ⟨[.ref x],kw⟩) (ht:∀x,Builtin.«list.sort» ⟨[.ref x],kw⟩=ksk_tree x f b)
  (turn:∀(H':Hp) (s':Shared) (pins':List (Addr×Obj)) (i:Int) (u:Value),0<=i->i<n->Inv X pins' σ H' s'->Ze H H'->RelV (.int i) u->wpAny (model X.prog X.w) X.A.in1.in1 (call f [u]) (EP X pins' σ λv H2=>v=.int (kz i)/\Ze H' H2) (λ_ _=>False) s')
  (fin:∀(ns:List Int) (l:Addr) (H':Hp),ns.Perm (nats n)->(ns.Pairwise λx y=>if b then kz y<=kz x else kz x<=kz y)->Ze H H'->H l=none->H' l=some (.lst (ns.map V.int))->Q (.ref l) H') :
  wpAny (model X.prog X.w) X.A (call (.builtin "sorted") [.ref p] kw) (EP X pins σ Q) X.xe s:=by
 obtain⟨t,u,v,hob⟩:=(show ∃t u v,s.heap.get? p=some {cls:=.type "range",data:=.fields #[.int 0 t,.int n u,.int 1 v]}from I.hok p _ hp)
 refine call_function_entry_kw kind_sorted plain_sorted entry_sorted ha1 ?_
 unfold Builtin.«sorted»
 refine Ya (m:=checkCount "sorted" 1 1 _) (Yc (Ya (Zlx (n:=n.toNat) (I.ok.hd hc) hob (small_one (by omega) (by omega) (by omega) (by omega)) (by rw[rangeSize_one];split<;>omega) (by omega) λh1 tk acc k1 hacc=>Ya (wpAny_newList ?_ ?_))))
 case refine_2=>rw[Yp,hacc.1];exact Yo (show n.toNat<=1000 by omega) (by decide)
 have hia:IntsAre acc.toList (nats n):=by
  have hv:Vals ((nats n).map V.int) acc.toList:=by
   unfold nats
   rw[Y7]
   exact Ztg (g:=λ(i:Nat)=>V.int (i:Int)) (P:=λ(i:Nat) v=>∃t,v=.int (0+(i:Int)*1) t) (λi v h=>by obtain⟨t,e⟩:=h;exact⟨t,by rw[e];simp⟩) _ _ (by rw[Yp];exact hacc.1) λk v hk=>hacc.2 k v (by simpa using hk)
  exact intsAre_of hv
 have I1:=I.kept (t':=tk) k1
 show wpAny _ _ _ _ _ {s with heap:=h1.push (seqObj "list" acc.toList.toArray 0),toks:=tk}
 have oa:(h1.push (seqObj "list" acc.toList.toArray 0)).get? h1.objs.size=some (seqObj "list" acc.toList.toArray 0):=Yt _ rfl
 have I2:=I1.kept (h':=h1.push (seqObj "list" acc.toList.toArray 0)) (t':=tk) λb o e=>Yi _ e
 have na:H h1.objs.size=none:=I1.hok.fresh (Yf _)
 have la:h1.objs.size≠X.env.locals:=Nat.ne_of_gt I1.lt
 have a0:X.s₀.heap.objs.size<=h1.objs.size:=I1.sz
 have hl:acc.toList.length<64:=by rw[Yp,hacc.1];omega
 refine Ya (YB (wpAny_call_entry_kw slot_list_sort ⟨_,oa,rfl⟩ entry_list_sort ?body (ha2 _)))
 case body =>
  show wpAny (model X.prog X.w) X.A.in1.in1 (Builtin.«list.sort» ⟨[.ref h1.objs.size],kw⟩) _ _ _
  rw[ht]
  refine Ztt (e0:=0) (pins:=pins) (ns:=nats n) (kz:=kz) (I2.Zy λq hq=>?_) a0 (λq hq=>?_) hia hl (λH' s' pins' i u hi J sm r=>?_) λH' s' out c J sm n2 o2 ko=>⟨_,rfl,Yc ⟨_,rfl,?_⟩⟩
  ·rcases Yg.mp hq with rfl|hq
   ·exact⟨oa,na,la,I1.Zk5 (Yf _),λv z=>by cases z⟩
   ·exact I2.pin q (Yl _ hq)
  ·exact Yk (Yh (I1.pin q hq).1)
  ·obtain⟨k,hk,rfl⟩:=YN.mp hi
   have:=Yy.mp hk
   exact turn H' s' pins' _ u (by omega) (by omega) J sm r
  ·obtain⟨ns,hi,hpm,hpw⟩:=ZmQ hia ko
   have ca:∀y cc,X.env.cells.lookup y=some cc->cc≠h1.objs.size:=λy cc hc' z=>by
    obtain⟨v,oc,w1,w2⟩:=I1.cell y cc hc'
    exact absurd (Yh w1) (by rw[z];exact YJ _)
   have K:=J.track (a:=h1.objs.size) (o:=.lst (ns.map V.int)) n2 la (.inr a0) ca (λq hq=>Yk (Yh (I1.pin q hq).1)) ⟨?_,out.toList,c,ZgG hi,by rw[Array.toArray_toList];exact o2⟩
   ·exact⟨.ref h1.objs.size,_,K,rfl,fin ns _ _ hpm hpw (λb o e=>by rw[Zf (Zp e na)];exact sm _ _ e) na Zc⟩
   ·rw[Yj,hpm.length_eq]
    unfold nats
    rw[Yj,Y9]
    exact Yo (show n.toNat<=1000 by omega) (by decide)
noncomputable def Zkz (ta td:TA) (tb:TE) (js:List (Option Nat)) (env:Env) (P:Addr) (q:Str) (params:Arguments) (body:Expr) (scope:Scope):TE:=fun σ H Q=>ta σ H λvs H1=>td σ H1 λzs H2=>∃(p f:Addr) (n:Int) (kz:Int->Int),
 vs=[.ref p]/\zs=[.ref f,.bl true]/\H2 p=some (.rng 0 n)/\0<=n/\n<64/\Zky env P q params body scope H2 f /\
 (∀i H3,0<=i->i<n->Ze H2 H3->tb ((ZM js σ).set 0 (some (.int i))) H3 λv H4=>v=.int (kz i)/\Ze H3 H4) /\
 ∀(ns:List Int) (l:Addr) (H3:Hp),ns.Perm (nats n)->(ns.Pairwise λx y=>kz y<=kz x)->Ze H2 H3->H2 l=none->H3 l=some (.lst (ns.map V.int))->Q (.ref l) H3
theorem ZqF {pins':List (Addr×Obj)}{σ:St}{H':Hp}{s':Shared}{Nc:List Str}{js:List (Option Nat)}{q pn:Str}{params:Arguments}{body:Expr}{scope:Scope}{P f:Addr}{tb:TE}{Q:VK}{m:Nat}{i:Int}{u:Value} (hr:Room m X.A)
  (S:LamSc X Nc js params body scope pn) (hbody:∀cl L f c s H,PE (Zh9 X X.A.in1.in1 Nc q scope cl L f c s H) body tb) (J:Inv X pins' σ H' s') (L:Zky X.env P q params body scope H' f) (r:RelV (.int i) u)
  (h:tb ((ZM js σ).set 0 (some (.int i))) H' Q):wpAny (model X.prog X.w) X.A.in1.in1 (call (.ref f) [u]) (EP X pins' σ Q) (λ_ _=>False) s' :=
 Zia S hbody J J.ok.frames J.ok.hd hr.depth L r h
theorem ZoP {Nc:List Str}{js:List (Option Nat)}{q pn:Str}{params:Arguments}{body:Expr}{scope:Scope}{P:Addr}{ta td:TA}{tb:TE}{m:Nat}{e:Expr}{e2:Expr}{p pos lpos kp1 kp2:Pos} (hc:X.calm=true) (hr:Room m X.A) (S:LamSc X Nc js params body scope pn)
  (hbody:∀cl L f c s H,PE (Zh9 X X.A.in1.in1 Nc q scope cl L f c s H) body tb) (hg:Gl X "sorted") (hm:X.mg "sorted"=none) (ha:PA X [e] ta) (hd:PK X [⟨some (Str.ofString "key"),.Lambda params body scope lpos,kp1⟩,⟨some (Str.ofString "reverse"),e2,kp2⟩] td)
  (hpl:(backTo pos (starEach [e] X.env)).any (·.1)=false:=by rfl) (hall:(backToKw pos (keywordEach [⟨some (Str.ofString "key"),.Lambda params body scope lpos,kp1⟩,⟨some (Str.ofString "reverse"),e2,kp2⟩] X.env)).all (·.1.isSome)=true:=by rfl)
  (hnn:(backToKw pos (keywordEach [⟨some (Str.ofString "key"),.Lambda params body scope lpos,kp1⟩,⟨some (Str.ofString "reverse"),e2,kp2⟩] X.env)).any (·.1.isNone)=false:=by rfl) (hks:(backToKw pos (keywordEach [⟨some (Str.ofString "key"),.Lambda params body scope lpos,kp1⟩,⟨some (Str.ofString "reverse"),e2,kp2⟩] X.env)).filterMap (·.1)=[Str.ofString "key",Str.ofString "reverse"]:=by rfl) (hb:backTo pos (starEach [e] X.env)=(false,eval e X.env)::backTo pos (starEach [] X.env):=by rfl) :
  PE X (.Call (.Name "sorted" p) [e] [⟨some (Str.ofString "key"),.Lambda params body scope lpos,kp1⟩,⟨some (Str.ofString "reverse"),e2,kp2⟩] pos) (Zkz ta td tb js X.env P q params body scope):=by
 intro pins s σ H Q I h
 refine wpAny_Call_Name_kw (ZbR I hg hm ZjO ?_)
 refine PyProof.Rows.callWith_kw (thn (ha pos pins s σ H _ I h) λus s1 ⟨vs,H1,I1,r1,q1⟩=>?_) hb hpl hall hnn
 refine thn (hd pos pins s1 σ H1 _ I1 q1) λws s2 ⟨zs,H2,I2,r2,pp,f,n,kz,e1,e2,hp,h0,h64,L,tn,fin⟩=>?_
 subst e1 e2
 obtain⟨u,rfl,ru⟩:=r1.one
 cases(show u=Value.ref pp from ru)
 rw[hks]
 obtain⟨v,v2,rfl,rv,rv2⟩:=r2.two
 cases(show v=Value.ref f from rv)
 cases(show v2=Value.bool true from rv2)
 exact ZmR (f:=.ref f) (b:=true) (kz:=kz) I2 hc hp h0 h64 (ksk_s2 _ _ _) (λx=>ksk_l2 _ _ _) (λx=>ksk_t2 _ _ _) (λH' s' pins' i u hi0 hi1 J sm r=>ZqF hr S hbody J (L.same sm) r (tn i H' hi0 hi1 sm)) (λns l H' a1 a2=>fin ns l H' a1 a2)
end
noncomputable def Zib (x:Str):Str:=(x++".<locals>.")++"<lambda>"
noncomputable def ZQ (K:Frag) (mg:Str->Option Value) (x:Str) (H:Hp):Prop:=H (Zge K mg x)=some (Zh8 (Zib x))
theorem ZQ.same {K:Frag}{mg:Str->Option Value}{x:Str}{H H':Hp} (h:ZQ K mg x H) (s:Ze H H'):ZQ K mg x H':=s _ _ h
noncomputable def ZmS (K:Frag) (mg:Str->Option Value) (x:Str) (f:Addr):Prop:=∃c,ZoN K f=some c/\codeHdIn K c (Zge K mg x)=true
section
variable {P:Program}{w:World}{K:Frag}{mg:Str->Option Value}{base:Heap}
theorem Fun.okL {x qual:Str}{st:Stmt}{f:Addr}{fd:FuncData}{N ps:List Str}{k:Nat}{sp:Sp} (F:Fun K x qual st f fd) (L:ZmS K mg qual f) (B:BM mg base) (S:FnScope N ps (defScope st)) (len:∀vs H Q E,sp vs H Q E->vs.length=ps.length)
  (hbody:∀(cdv:Value) (A:Around) (outer:List Env) (s:Shared) (H:Hp) (vs:List V) (Q:VK) (E:XK),LamIn (ZfB (CXE P w) P w K mg base N qual (defScope st) f cdv A outer s H E) (Zge K mg qual) (Zib qual)->Room k (A.deeper (envOfC qual (defScope st) s.heap.objs.size f cdv))->sp vs H Q E ->
   ∃t,PSs (ZfB (CXE P w) P w K mg base N qual (defScope st) f cdv A outer s H E) (defBody st) t/\t {nx:=λ_ H'=>Q .non H',rt:=Q} (start N vs) H):FnOk P w K mg base (CXE P w) (k+1) f fd ps sp:=by
 obtain⟨oc,od,kV,doc,pm,an,cdv,ct,osl,rfl,lk,hcd⟩:=F.ex
 obtain⟨c,h1,h2⟩:=L
 have e:cdv=.ref c:=by
  unfold ZoN at h1
  rw[lk]at h1
  dsimp only at h1
  cases cdv<;>first|(cases h1;rfl)|(cases h1;done)
 exact ZpL lk hcd S len λA outer s H vs Q E hr hsp=>hbody cdv A outer s H vs Q E ⟨⟨c,e,h2⟩,B,rfl⟩ hr hsp
end
theorem ZqG {b:Addr}{q:Str}:∀{l:List (Addr×Str)},l.lookup b=some q->(b,q)∈l
 |[],e=>by cases e
 |(c,y)::r,e=>by
  rw[List.lookup_cons]at e
  cases hb:b==c with
  |true=>rw[hb]at e;cases e;rw[eq_of_beq hb];exact Ys
  |false=>rw[hb]at e;exact Yq _ (ZqG e)
theorem ZkA {K:Frag}{mg:Str->Option Value}{x:Str}{f c T:Addr}{oc1 oc2:Value}{od1 od2:Option Addr}{fd:FuncData}{sl1 sl2:Array (Option Value)}{vs:Array Value} (hm:mg x=some (.ref f)) (l1:K.lookup f=some ⟨oc1,od1,.func fd,sl1⟩) (e:fd.code=.ref c) (l2:K.lookup c=some ⟨oc2,od2,.fields vs,sl2⟩) (h11:vs[11]?=some (.ref T)):Zge K mg x=T/\ZoN K f=some c:=by
 have h1:ZoN K f=some c:=by
  unfold ZoN
  rw[l1]
  dsimp only
  rw[e]
 refine⟨?_,h1⟩
 unfold Zge
 rw[hm]
 dsimp only
 rw[h1]
 dsimp only
 unfold tabOf
 rw[l2]
 dsimp only
 rw[h11]
theorem ZoQ {P:Program}{w:World}{K:Frag}{mg mb:Str->Option Value}{CX:CXT}{k:Nat}{fa a:Addr}{fd:FuncData}{x:Str}{sp:Sp}{s₁:Shared}{vs:List Value}{ns:List Int}{tabs:List (Addr×Str)}
  (KX:K.In s₁.heap) (hns:s₁.heap.Ns mainGlobals mg) (hb:s₁.heap.Ns builtinsNs mb) (hbb:∀x:Str,x≠"__name__"->mb x=bootBuiltins x) (hlim:s₁.heap.NoLimit) (hg:s₁.gens=#[]) (hbm:BM mg s₁.heap)
  (ha:s₁.heap.get? a=some {cls:=.type "list",data:=.seq vs.toArray}) (hi:IntsAre vs ns) (hl:ns.length<=sizeLine) (hr:Room k callerA)
  (hT:∀p∈tabs,s₁.heap.get? p.1=some (tabObj #[])/\K.lookup p.1=none/\∃c,codeHdIn K c p.1=true) (nd:(tabs.map (·.1)).Nodup)
  (F:∀base:Heap,K.In base->base.Ns mainGlobals mg->BM mg base->FnOk P w K mg base CX k fa fd [x] sp) (hbind:∀(s:Shared) (u:Value),BindsTo s fd ⟨[u],[]⟩ [(x,u)])
  (hsp:∀H:Hp,SqL K H a (ns.map V.int)->(∀p∈tabs,H p.1=some (Zh8 p.2))->sp [.ref a] H (λv _=>v=.bl true) λ_ _ _=>False)
  (hCX:∀H e s',CX [] H s₁ (λ_ _ _=>False) e s'->False) :
  codeAny (model P w) callerA (.call (.ref fa) ⟨[.ref a],[]⟩) (λr s'=>r=.ok (.ret (.bool true))/\OldK s₁.heap s'.heap/\s'.os=s₁.os/\AllBare s'.gens) s₁:=by
 have rv:=ZgG hi
 have lenV:=hi.length
 have tmem:∀b q,tabs.lookup b=some q->(b,q)∈tabs:=λb q e=>ZqG e
 have tlook:∀p∈tabs,tabs.lookup p.1=some p.2:=by
  clear hT hsp tmem
  induction tabs with
  |nil=>intro p hp;cases hp
  |cons t r ih =>
   intro p hp
   rw[YC,List.nodup_cons]at nd
   rcases Yg.mp hp with rfl|hp
   ·rw[List.lookup_cons,beq_self_eq_true]
   ·have:(p.1==t.1)=false:=beq_eq_false_iff_ne.mpr λz=>nd.1 (YN.mpr ⟨p,hp,z⟩)
    rw[List.lookup_cons,this]
    exact ih nd.2 p hp
 have core:∀H:Hp,SqL K H a (ns.map V.int)->HOk P w H s₁.heap->(∀b,H b=none\/(b=a/\K.lookup a=none/\∃o xs,H b=some (.frz o (.lst xs)))\/∃q,(b,q)∈tabs/\H b=some (Zh8 q))->(∀p∈tabs,H p.1=some (Zh8 p.2)) ->
   codeAny (model P w) callerA (.call (.ref fa) ⟨[.ref a],[]⟩) (λr s'=>r=.ok (.ret (.bool true))/\OldK s₁.heap s'.heap/\s'.os=s₁.os/\AllBare s'.gens) s₁:=by
  intro H hS hok hA hTb
  have base_of:∀{b:Addr}{o:Obj},s₁.heap.get? b=some o->H b=none->(ZiW s₁.heap H).get? b=some o:=λe n=>Zpu e n
  have noA:∀{b:Addr}{o:Obj},s₁.heap.get? b=some o->o.cls≠.type "list"->o.cls≠.none->H b=none:=λ{b o} e d1 d2=>by
   rcases hA b with z|⟨z,_⟩|⟨q,z,_⟩
   ·exact z
   ·subst z;rw[ha]at e;cases e;exact absurd rfl d1
   ·rw[(hT _ z).1]at e;cases e;exact absurd rfl d2
  have noD:∀{b:Addr}{o:Obj}{es:Array DictEntry}{ep:Nat},s₁.heap.get? b=some o->o.data=.dict es ep->H b=none:=λ{b o es ep} e d=>by
   rcases hA b with z|⟨z,_⟩|⟨q,z,_⟩
   ·exact z
   ·subst z;rw[ha]at e;cases e;cases d
   ·rw[(hT _ z).1]at e;cases e;cases d
  have nsK:∀{b:Addr}{m:Str->Option Value},s₁.heap.Ns b m->(ZiW s₁.heap H).Ns b m:=λ{b m} ⟨o,es,ep,e,d,r⟩=>⟨o,es,ep,base_of e (noD e d),d,r⟩
  have hKb:K.In (ZiW s₁.heap H):=λb o e=>base_of (KX b o e) (by
   rcases hA b with z|⟨z,zk,_⟩|⟨q,z,_⟩
   ·exact z
   ·subst z;rw[zk]at e;cases e
   ·rw[(hT _ z).2.1]at e;cases e)
  have hM:Mod K mg (ZiW s₁.heap H):=⟨hKb,nsK hns,⟨mb,nsK hb,hbb⟩,let ⟨mc,h1,h2⟩:=hlim;⟨mc,nsK h1,h2⟩⟩
  have hB:BM mg (ZiW s₁.heap H):=by
   obtain⟨bm,ob,b1,b2,b3,b4,b5,b6,b7⟩:=hbm
   exact⟨bm,ob,b1,b2,b3,base_of b4 (noA b4 (by rw[b5];decide) (by rw[b5];nofun)),b5,b6,b7⟩
  have e0:Env0 P w K mg (ZiW s₁.heap H) callerA [] s₁ H:=⟨rfl,hM,λb o e=>ZsZ e,Y8 (Zop _ _),trivial,λb hb=>absurd (show b∈([]:List Addr)from hb) (by simp),hok,.of_eq hg⟩
  refine codeAny_mono ((F _ hKb (nsK hns) hB).run callerA [] s₁ H ⟨[.ref a],[]⟩ [.ref a] [.ref a] _ _ hr e0 (hbind s₁ (.ref a)) (.cons rfl .nil) (hsp H hS hTb)) λr s' h=>?_
  cases r with
  |error e=>exact(hCX H e s' h).elim
  |ok fl =>
   cases fl with
   |next=>exact False.elim h
   |brk=>exact False.elim h
   |cont=>exact False.elim h
   |ret u =>
    obtain⟨v,H',os,bare,un,hok',r',q⟩:=h
    have q':v=.bl true:=q
    subst q'
    obtain rfl:u=Value.bool true:=r'
    have old:∀b o,s₁.heap.get? b=some o->asItWas s₁.heap s'.heap b o/\∃o',s'.heap.get? b=some o':=λb o e=>by
     rcases hA b with z|⟨_,_,ob,xs,z⟩|⟨q,zm,z⟩
     ·have:=un.keep b o e z (by intro y;exact absurd (show b∈([]:List Addr)from y) (by simp)) (by simp)
      exact⟨.inl this,o,this⟩
     ·have z2:=un.frzs b ob _ z
      obtain⟨e1,_⟩:=hok b _ z
      obtain⟨e2,_⟩:=hok' b _ z2
      rw[e]at e1;cases e1
      exact⟨.inl e2,o,e2⟩
     ·obtain⟨more,z2⟩:=un.tbls b _ z
      obtain⟨ts,e2,_⟩:=hok' b _ z2
      obtain⟨t1,_,c,t3⟩:=hT _ zm
      have t1':s₁.heap.get? b=some (tabObj #[]):=t1
      rw[e]at t1';cases t1'
      refine⟨.inr (.inl ⟨((codeHd_of_K KX t3).tab t1).isCodeTable,rfl,#[],ts,rfl,by rw[Array.empty_append];exact e2⟩),_,e2⟩
    exact⟨rfl,⟨λb o e=>(old b o e).1,λb o e=>(old b o e).2⟩,os,bare⟩
 have neA:∀q,(a,q)∉tabs:=λq z=>by
  have:=(hT _ z).1
  rw[show((a,q):Addr×Str).1=a from rfl,ha]at this;cases this
 have tabok:∀(H:Hp) (b:Addr) (q:Str),(b,q)∈tabs->ZI P w H s₁.heap b (Zh8 q):=λH b q z=>⟨#[],(hT _ z).1,trivial,λpos cv e=>by cases e⟩
 cases hk:K.lookup a with
 |some o =>
  have e:=KX a o hk
  rw[ha]at e
  cases e
  refine core (λb=>(tabs.lookup b).map Zh8) (.inr ⟨_,vs.toArray,_,hk,rfl,rfl,rfl,by rw[Yr,lenV];exact hl,by simpa using rv⟩) (λb u z=>?_) (λb=>?_) λp hp=>by rw[tlook p hp];rfl
  ·dsimp only at z
   cases q:tabs.lookup b with
   |none=>rw[q]at z;cases z
   |some y=>rw[q]at z;cases z;exact tabok _ b y (tmem b y q)
  ·cases q:tabs.lookup b with
   |none=>exact .inl rfl
   |some y=>exact .inr (.inr ⟨y,tmem b y q,rfl⟩)
 |none =>
  refine core (λb=>if b=a then some (.frz {cls:=.type "list",data:=.seq vs.toArray} (.lst (ns.map V.int)))else (tabs.lookup b).map Zh8) (.inl (.inr ⟨{cls:=.type "list",data:=.seq vs.toArray},Yd rfl⟩)) (λb u z=>?_) (λb=>?_) λp hp=>?_
  ·by_cases hb:b=a
   ·have z':=(Yd hb).symm.trans z
    cases z'
    subst hb
    exact⟨ha,by rw[Yj];exact hl,vs,_,rv,ha⟩
   ·have z':=(Yb hb).symm.trans z
    cases q:tabs.lookup b with
    |none=>rw[q]at z';cases z'
    |some y=>rw[q]at z';cases z';exact tabok _ b y (tmem b y q)
  ·by_cases hb:b=a
   ·exact .inr (.inl ⟨hb,hk,_,_,Yd hb⟩)
   ·cases q:tabs.lookup b with
    |none=>exact .inl (by rw[Yb hb];rfl)
    |some y=>exact .inr (.inr ⟨y,tmem b y q,by rw[Yb hb];rfl⟩)
  ·have:p.1≠a:=λz=>neA p.2 (by rw[<-z];exact hp)
   rw[Yb this,tlook p hp];rfl
theorem ZqH {l:OpenLaw}{n k:Nat}{q:Program}{loose:List Str}{XP:(Str->Option Value)->Heap->Prop}{YP:World->Heap->Prop}{d:DefRec}{K:Params->Frag}{CX:World->CXT}{sp:World->(Str->Option Value)->Sp}{x:Str}{ts:List Addr}{tabs:Frag->(Str->Option Value)->List (Addr×Str)}
  (hn:l.most=some n) (hn2:n<=sizeLine) (hdf:d.params.defaults=[]) (hr:Room k callerA)
  (hY:∀(w:World) (h:Heap),YP w h->(K w.params).In h) (hY2:∀(w:World) (h:Heap),YP w h->∀P∈ts,h.get? P=some (tabObj #[]))
  (F:∀(w:World) (mg:Str->Option Value) (fa:Addr) (h:Heap),(K w.params).In h->h.Ns mainGlobals mg->mg d.name=some (.ref fa) ->
   ∃fd:FuncData,(∀(s:Shared) (u:Value),BindsTo s fd ⟨[u],[]⟩ [(x,u)])/\(∀p∈tabs (K w.params) mg,p.1∈ts/\(K w.params).lookup p.1=none/\∃c,codeHdIn (K w.params) c p.1=true)/\((tabs (K w.params) mg).map (·.1)).Nodup /\
    ∀base:Heap,(K w.params).In base->base.Ns mainGlobals mg->BM mg base->FnOk l.prog w (K w.params) mg base (CX w) k fa fd [x] (sp w mg))
  (hsp:∀(w:World) (mg:Str->Option Value) (H:Hp) (a:Addr) (ns:List Int),ns.length<=n->SqL (K w.params) H a (ns.map V.int)->(∀p∈tabs (K w.params) mg,H p.1=some (Zh8 p.2))->sp w mg [.ref a] H (λv _=>v=.bl true) λ_ _ _=>False)
  (hCX:∀(w:World) (H:Hp) (s:Shared) (e:Value) (s':Shared),CX w [] H s (λ_ _ _=>False) e s'->False) :
  WalkO q loose XP YP l.row.toRowW d [] (λf vs=>PySem.call f vs):=by
 refine Att.Zle hn hdf λw s₀ s₁ mg mb fa o pm cd doc a vs ns G Y ho hd hcd hmg hobj hints hlen hg=>?_
 have KX:=hY w _ Y
 have TX:=hY2 w _ Y
 obtain⟨fd,hb,hT,nd,hF⟩:=F w mg fa _ KX G.T.g hmg
 have hbm:BM mg s₁.heap:=by
  obtain⟨bm,ob,b1,b2,b3,b4,b5,b6⟩:=G.T.bmain
  have bG:bm≠mainGlobals:=λz=>by
   obtain⟨o,es,ep,e,hd,_⟩:=G.T.g
   rw[z,e]at b3;cases b3;rw[hd]at b6;cases b6
  exact⟨bm,ob,b1,b2,bG,b3,b4,b5,b6⟩
 exact ZoQ KX G.T.g G.T.b G.T.builtins G.T.nolimit hg hbm hobj hints (Yo hlen hn2) hr (λp hp=>⟨TX _ (hT p hp).1,(hT p hp).2⟩) nd hF hb (λH hS hTb=>hsp w mg H a ns hlen hS hTb) λH e s'=>hCX w H s₁ e s'
theorem ZmT (a v d:Value):argsOk "max" ⟨[a],[(Str.ofString "key",v),(Str.ofString "default",d)]⟩:=by unfold argsOk;kernel_rfl
noncomputable def Zdy (kz:Int->Int) (ns:List Int) (m i:Nat):Prop:=∀j,j<m->kz (nth ns j)<=kz (nth ns i)/\(j<i->kz (nth ns j)<kz (nth ns i))
theorem Zdy.one (kz:Int->Int) (ns:List Int):Zdy kz ns 1 0:=λj hj=>⟨by rw[show j=0 by omega];exact Int.le_refl _,λh=>absurd h (by omega)⟩
theorem Zdy.take {kz:Int->Int}{ns:List Int}{m i:Nat} (h:Zdy kz ns m i) (hi:i<m) (c:kz (nth ns m)>kz (nth ns i)):Zdy kz ns (m+1) m:=λj hj=>by
 by_cases e:j=m
 ·subst e;exact⟨Int.le_refl _,λh=>absurd h (by omega)⟩
 ·have:=(h j (by omega)).1
  exact⟨by omega,λ_=>by omega⟩
theorem Zdy.keep {kz:Int->Int}{ns:List Int}{m i:Nat} (h:Zdy kz ns m i) (hi:i<m) (c:¬ kz (nth ns m)>kz (nth ns i)):Zdy kz ns (m+1) i:=λj hj=>by
 by_cases e:j=m
 ·subst e;exact⟨by omega,λz=>absurd z (by omega)⟩
 ·exact h j (by omega)
section
variable {X:Cx}
theorem Zv {σ:St}{H':Hp}{s':Shared}{ps:List (Addr×Obj)}{x:Addr}{o:Obj} (J:Inv X ps σ H' s') (hm:(x,o)∈ps):s'.heap.get? x=some o/\H' x=none/\x≠X.env.locals/\x∉X.fs/\(∀v,o.data≠.cell v)/\∀y cc,X.env.cells.lookup y=some cc->cc≠x:=by
 obtain⟨q1,q2,q3,q4,q5⟩:=J.pin _ (Yl _ hm)
 refine⟨q1,q2,q3,q4,q5,λy cc hc z=>?_⟩
 obtain⟨v,oc,w1,w2⟩:=J.cell y cc hc
 rw[z,q1]at w1;cases w1;exact q5 _ w2
theorem ZoR {pins:List (Addr×Obj)}{σ:St}{H:Hp}{A:Around}{R:Result->Shared->Prop}{d:Value}{dk:Str}{l I S q:Addr}{ns:List Int}{kz:Int->Int}
  (hh:A.handled=none) (hlI:l≠I) (hSI:S≠I) (hI0:X.s₀.heap.objs.size<=I) (hS0:X.s₀.heap.objs.size<=S) (hp:∀p∈X.pn++pins,p.1≠I/\p.1≠S) (hl:H l=some (.lst (ns.map V.int)))
  (turn:∀(H':Hp) (s':Shared) (pins':List (Addr×Obj)) (n:Int) (u:Value),n∈ns->Inv X pins' σ H' s'->Ze H H'->RelV (.int n) u->wpAny (model X.prog X.w) A.in1 (call (.ref q) [u]) (EP X pins' σ λv H2=>v=.int (kz n)/\Ze H' H2) (λ_ _=>False) s')
  (hR0:ns=[]->∀H' s',Inv X pins σ H' s'->Ze H H'->R (.ok (.ret d)) s')
  (hR:∀(i:Nat) (v:Value) H' s',i<ns.length->RelV (.int (nth ns i)) v->Zdy kz ns ns.length i->Inv X pins σ H' s'->Ze H H'->R (.ok (.ret v)) s') :
  ∀(r j:Nat) (H':Hp) (s':Shared) (buf:Array Value) (c:Nat) (oI:Obj),ns.length-j=r->j<=ns.length->Inv X ((S,seqObj "list" buf c)::(I,oI)::pins) σ H' s'->Ze H H'->s'.heap.IsListIter I l j ->
   ((j=0/\buf=#[])\/∃(i:Nat) (vb:Value) (tb:Tok),i<j/\buf=#[vb,.int (kz (nth ns i)) tb]/\RelV (.int (nth ns i)) vb/\Zdy kz ns j i) ->
   codeAny (model X.prog X.w) A (.builtin "max.loop" ⟨[.ref I,.ref q,.ref S],[(dk,d)]⟩) R s':=by
 have hname:(toString "max"++toString ".loop":String)="max.loop":=by decide
 intro r
 induction r with
 |zero =>
  intro j H' s' buf c oI hr hj J sm hit hb
  have hjn:j=ns.length:=by omega
  obtain⟨oS,nS,lS,fS,_,cS⟩:=Zv J (Ys ..)
  obtain⟨oI',nI,lI,fI,dI,cI⟩:=Zv J (Yq _ (Ys ..))
  obtain⟨its,rv,pl,_⟩:=J.list (SqL.of (sm _ _ hl))
  have hlen:its.length=ns.length:=by have:=rv.length;rw[Yj]at this;omega
  have hsz:its.toArray.size=its.length:=Yr ..
  have W:=Walks.list (prog:=X.prog) (w:=X.w) (A:=A.in1) hh I l hlI its.toArray
  have J0:Inv X pins σ H' s':=J.Zy λp hp'=>J.pin p (Yl _ (Yq _ (Yq _ hp')))
  refine codeAny_builtin PySem.F.entry_max_loop ?_
  rw[Around.under_plainId PySem.F.plain_max_loop _]
  show wpAny _ A.in1 (seqItems? (.ref S) >>= _) _ _ _
  refine Ya (wpAny_seqItems oS rfl ?_)
  rcases hb with⟨hj0,rfl⟩|⟨i,vb,tb,hi,rfl,rvb,hB⟩
  ·refine Ya (wpAny_tryCatch (W.done _ _ _ ⟨by rw[hsz,hlen,<-hjn];exact hit,pl.isList⟩ λh' tk' hk'=>?_))
   refine Ya (wpAny_rule (Yc ?_))
   exact hR0 (List.length_eq_zero_iff.mp (by omega)) H' _ (J0.turned (it:=I) (λb o nb e=>hk' b o (by simpa using nb) e) nI lI (.inr hI0) cI λp hp'=>(hp p hp').1) sm
  ·refine Ya (wpAny_tryCatch (W.done _ _ _ ⟨by rw[hsz,hlen,<-hjn];exact hit,pl.isList⟩ λh' tk' hk'=>?_))
   have hS':=hk' S _ (by simpa using hSI) oS
   have J1:=J0.turned (t':=tk') (h':=h') (it:=I) (λb o nb e=>hk' b o (by simpa using nb) e) nI lI (.inr hI0) cI λp hp'=>(hp p hp').1
   refine Ya (wpAny_updateSeq hS' rfl ?_ (show 2<=sizeLine by decide) (Yu _))
   refine Ya (wpAny_letGo (Yc ?_))
   have J2:=J1.turned (t':=tk') (h':=h'.update S (Obj.mapSeq λ_=>(#[]:Array Value))) (it:=S) (λb o nb e=>(Heap.get?_update_ne _ _ _ _ nb).trans e) nS lS (.inr hS0) cS λp hp'=>(hp p hp').2
   exact hR i vb H' _ (by omega) rvb (hjn▸hB) J2 sm
 |succ r ih =>
  intro j H' s' buf c oI hr hj J sm hit hb
  have hlt:j<ns.length:=by omega
  obtain⟨oS,nS,lS,fS,_,cS⟩:=Zv J (Ys ..)
  obtain⟨oI',nI,lI,fI,dI,cI⟩:=Zv J (Yq _ (Ys ..))
  obtain⟨its,rv,pl,_⟩:=J.list (SqL.of (sm _ _ hl))
  have hlen:its.length=ns.length:=by have:=rv.length;rw[Yj]at this;omega
  have hsz:its.toArray.size=its.length:=Yr ..
  have W:=Walks.list (prog:=X.prog) (w:=X.w) (A:=A.in1) hh I l hlI its.toArray
  have J0:Inv X ((S,seqObj "list" buf c)::pins) σ H' s':=J.Zy λp hp'=>J.pin p (Yl _ (by
   rcases Yg.mp hp' with z|z
   ·exact Yg.mpr (.inl z)
   ·exact Yq _ (Yq _ z)))
  refine codeAny_builtin PySem.F.entry_max_loop ?_
  rw[Around.under_plainId PySem.F.plain_max_loop _]
  show wpAny _ A.in1 (seqItems? (.ref S) >>= _) _ _ _
  refine Ya (wpAny_seqItems oS rfl ?_)
  have step:∀(v:Value) (h':Heap) (tk':Nat),its.toArray[j]?=some v->h'.IsListIter I l (j+1)/\h'.IsList l its.toArray->(∀b o,b∉[I]->s'.heap.get? b=some o->h'.get? b=some o)->RelV (.int (nth ns j)) v/\∃oI2,h'.get? I=some oI2/\Inv X ((S,seqObj "list" buf c)::(I,oI2)::pins) σ H' {s' with heap:=h',toks:=tk'}:=λv h' tk' hP hst hk'=>by
   refine⟨?_,?_⟩
   ·obtain⟨v',e1,e2⟩:=rv.get (i:=j) (x:=V.int (nth ns j)) (by unfold nth;rw[YD,Yn,Ye hlt];rfl)
    have:its[j]?=some v:=by simpa using hP
    rw[e1]at this;cases this;exact e2
   ·obtain⟨oI2,g2,hcls,hdat⟩:=id hst.1
    have J1:=J0.turned (t':=tk') (h':=h') (it:=I) (λb o nb e=>hk' b o (by simpa using nb) e) nI lI (.inr hI0) cI λp hp'=>by
     rcases YE.mp hp' with z|z
     ·exact(hp p (YR _ z)).1
     ·rcases Yg.mp z with rfl|z
      ·exact hSI
      ·exact(hp p (Yl _ z)).1
    refine⟨oI2,g2,J1.Zy λp hp'=>?_⟩
    rcases Yg.mp hp' with rfl|hp'
    ·exact J1.pin _ (Yl _ (Ys ..))
    ·rcases Yg.mp hp' with rfl|hp'
     ·exact⟨g2,nI,lI,fI,λv z=>by rw[hdat]at z;cases z⟩
     ·exact J1.pin _ (Yl _ (Yq _ hp'))
  have write:∀{H2:Hp}{s2:Shared}{oI2:Obj} (v:Value) (t2:Tok) (b2:Array Value) (c0:Nat),Inv X ((S,seqObj "list" b2 c0)::(I,oI2)::pins) σ H2 s2->∃c2,Inv X ((S,seqObj "list" #[v,.int (kz (nth ns j)) t2] c2)::(I,oI2)::pins) σ H2 {s2 with heap:=s2.heap.update S (Obj.mapSeq λ_=>#[v,.int (kz (nth ns j)) t2])}:=λ{H2 s2 oI2} v t2 b2 c0 K=>by
   obtain⟨o2,n2,l2,f2,_,cc2⟩:=Zv K (Ys ..)
   obtain⟨c2,hc2⟩:∃c2,(s2.heap.update S (Obj.mapSeq λ_=>#[v,.int (kz (nth ns j)) t2])).get? S=some (seqObj "list" #[v,.int (kz (nth ns j)) t2] c2):=⟨_,get?_update_seq o2 λ_=>#[v,.int (kz (nth ns j)) t2]⟩
   have K0:Inv X ((I,oI2)::pins) σ H2 s2:=K.Zy λp hp'=>K.pin p (Yl _ (Yq _ hp'))
   have K1:=K0.turned (t':=s2.toks) (h':=s2.heap.update S (Obj.mapSeq λ_=>#[v,.int (kz (nth ns j)) t2])) (it:=S) (λb o nb e=>(Heap.get?_update_ne _ _ _ _ nb).trans e) n2 l2 (.inr hS0) cc2 λp hp'=>by
    rcases YE.mp hp' with z|z
    ·exact(hp p (YR _ z)).2
    ·rcases Yg.mp z with rfl|z
     ·exact hSI.symm
     ·exact(hp p (Yl _ z)).2
   refine⟨c2,K1.Zy λp hp'=>?_⟩
   rcases Yg.mp hp' with rfl|hp'
   ·exact⟨hc2,n2,l2,f2,λv z=>by cases z⟩
   ·exact K1.pin p (Yl _ hp')
  have mem:nth ns j∈ns:=by unfold nth;rw[Yn,Ye hlt];exact YL hlt
  rcases hb with⟨hj0,rfl⟩|⟨i,vb,tb,hi,rfl,rvb,hB⟩
  ·refine Ya (wpAny_tryCatch (W.item j _ _ _ (by rw[hsz,hlen];exact hlt) ⟨hit,pl.isList⟩ λv h' tk' hP hst' hk'=>?_))
   obtain⟨rj,oI2,gI,J2⟩:=step v h' tk' hP hst' hk'
   obtain⟨oI3,gI3,hcls,hdat⟩:=id hst'.1
   rw[gI]at gI3;cases gI3
   refine Ya (wpAny_tryCatch (YB (Yz (turn H' _ _ _ v mem J2 sm rj) (λx s'' he=>?_) λ_ _ hF=>hF.elim)))
   obtain⟨x2,H2,J3,r2,rfl,sm2⟩:=he
   obtain⟨t2,rfl⟩:=r2
   obtain⟨oS3,_⟩:=Zv J3 (Ys ..)
   obtain⟨oI4,_⟩:=Zv J3 (Yq _ (Ys ..))
   obtain⟨c2,J4⟩:=write v t2 _ _ J3
   refine Ya (wpAny_updateSeq oS3 rfl ?_ (Yu _) (show 2<=sizeLine+1 by decide))
   rw[hname]
   refine Yc ⟨plainId_quiet PySem.F.plain_max_loop _,ih (j+1) H2 _ _ c2 oI2 (by omega) hlt J4 (sm.trans sm2) ⟨oI2,(Heap.get?_update_ne _ _ _ _ hSI.symm).trans oI4,hcls,hdat⟩ (.inr ⟨j,v,t2,by omega,rfl,rj,?_⟩)⟩
   subst hj0;exact Zdy.one kz ns
  ·refine Ya (wpAny_tryCatch (W.item j _ _ _ (by rw[hsz,hlen];exact hlt) ⟨hit,pl.isList⟩ λv h' tk' hP hst' hk'=>?_))
   obtain⟨rj,oI2,gI,J2⟩:=step v h' tk' hP hst' hk'
   obtain⟨oI3,gI3,hcls,hdat⟩:=id hst'.1
   rw[gI]at gI3;cases gI3
   refine Ya (wpAny_tryCatch (YB (Yz (turn H' _ _ _ v mem J2 sm rj) (λx s'' he=>?_) λ_ _ hF=>hF.elim)))
   obtain⟨x2,H2,J3,r2,rfl,sm2⟩:=he
   obtain⟨t2,rfl⟩:=r2
   obtain⟨oS3,_⟩:=Zv J3 (Ys ..)
   obtain⟨oI4,_⟩:=Zv J3 (Yq _ (Ys ..))
   refine Ya (wpAny_tryCatch (YB (Ya (CmpOf.ints_gt (prog:=X.prog) (w:=X.w) (A:=A.in1) (P:=λi v=>∃t,v=.int (kz (nth ns i)) t) (λi=>kz (nth ns i)) (λi v h=>h) j i _ _ _ _ _ ⟨t2,rfl⟩ ⟨tb,rfl⟩ ?_))))
   refine Ya (YB (wpAny_truthy_bool ?_))
   refine Ya (wpAny_letGo (Yc ?_))
   by_cases hb':kz (nth ns j)>kz (nth ns i)
   ·simp only[hb',decide_true,if_true]
    obtain⟨c2,J4⟩:=write v t2 _ _ J3
    refine Ya (wpAny_updateSeq oS3 rfl (Ya (wpAny_letGo ?_)) (show 2<=sizeLine by decide) (show 2<=sizeLine+1 by decide))
    rw[hname]
    exact Yc ⟨plainId_quiet PySem.F.plain_max_loop _,ih (j+1) H2 _ _ c2 oI2 (by omega) hlt J4 (sm.trans sm2) ⟨oI2,(Heap.get?_update_ne _ _ _ _ hSI.symm).trans oI4,hcls,hdat⟩ (.inr ⟨j,v,t2,by omega,rfl,rj,hB.take hi hb'⟩)⟩
   ·simp only[hb',decide_false,Bool.false_eq_true,if_false]
    refine Ya (wpAny_letGo ?_)
    rw[hname]
    exact Yc ⟨plainId_quiet PySem.F.plain_max_loop _,ih (j+1) H2 _ _ c oI2 (by omega) hlt J3 (sm.trans sm2) ⟨oI2,oI4,hcls,hdat⟩ (.inr ⟨i,vb,tb,by omega,rfl,rvb,hB.keep hi hb'⟩)⟩
theorem maxKD {pins:List (Addr×Obj)}{σ:St}{H:Hp}{s:Shared}{l q:Addr}{ns:List Int}{kz:Int->Int}{d:Value}{dv:V}{Q:VK} (I:Inv X pins σ H s) (hc:X.calm=true) (hl:H l=some (.lst (ns.map V.int))) (rd:RelV dv d)
  (turn:∀(H':Hp) (s':Shared) (pins':List (Addr×Obj)) (n:Int) (u:Value),n∈ns->Inv X pins' σ H' s'->Ze H H'->RelV (.int n) u->wpAny (model X.prog X.w) X.A.in1 (call (.ref q) [u]) (EP X pins' σ λv H2=>v=.int (kz n)/\Ze H' H2) (λ_ _=>False) s')
  (fin0:ns=[]->∀H',Ze H H'->Q dv H') (fin:∀i H',i<ns.length->Zdy kz ns ns.length i->Ze H H'->Q (.int (nth ns i)) H') :
  wpAny (model X.prog X.w) X.A (call (.builtin "max") [.ref l] [(Str.ofString "key",.ref q),(Str.ofString "default",d)]) (EP X pins σ Q) X.xe s:=by
 have hname:(toString "max"++toString ".loop":String)="max.loop":=by decide
 obtain⟨its,rv,pl,_⟩:=I.list (SqL.of hl)
 obtain⟨ol,hol,_⟩:=id pl.isList
 have hll:l<s.heap.objs.size:=Yh hol
 refine kmk_tree PySem.F.kind_max PySem.F.plain_max PySem.F.entry_max (ZmT _ _ _) ?_
 show wpAny _ X.A.in1 (Builtin.Builtins.bindParams "max" ["key","default"] 0 ⟨[],[(Str.ofString "key",.ref q),(Str.ofString "default",d)]⟩ >>= _) _ _ s
 refine Ya (wpAny_of_eq (show Builtin.Builtins.bindParams "max" ["key","default"] 0 ⟨[],[(Str.ofString "key",.ref q),(Str.ofString "default",d)]⟩=pure [some (.ref q),some d]from rfl) ?_)
 refine Ya (Yc ?_)
 refine Ya (wpAny_pyIter_list pl.isList ?_)
 refine Ya (wpAny_newList ?_ (Yu _))
 rw[hname]
 refine Yc ⟨plainId_quiet PySem.F.plain_max_loop _,?_⟩
 have hS:(s.heap.push {cls:=.type "list_iterator",data:=.fields #[.ref l,.int 0 0]}).objs.size=s.heap.objs.size+1:=size_push' ..
 have I2:=I.kept (h':=(s.heap.push {cls:=.type "list_iterator",data:=.fields #[.ref l,.int 0 0]}).push (seqObj "list" #[] 0)) (t':=s.toks) λb o e=>Yi _ (Yi _ e)
 have gI:((s.heap.push {cls:=.type "list_iterator",data:=.fields #[.ref l,.int 0 0]}).push (seqObj "list" #[] 0)).get? s.heap.objs.size=some {cls:=.type "list_iterator",data:=.fields #[.ref l,.int 0 0]}:=Yi _ (Yt _ rfl)
 have gS:((s.heap.push {cls:=.type "list_iterator",data:=.fields #[.ref l,.int 0 0]}).push (seqObj "list" #[] 0)).get? (s.heap.objs.size+1)=some (seqObj "list" #[] 0):=by rw[<-hS];exact Yt _ rfl
 rw[hS]
 refine ZoR (pins:=pins) (H:=H) (ns:=ns) (kz:=kz) (I.ok.hd hc) (Yk hll) (Nat.ne_of_gt (Nat.lt_succ_self _)) I.sz (Nat.le_succ_of_le I.sz) (λp hp=>?_) hl turn (λz H' s' J sm=>⟨dv,H',J,rd,fin0 z H' sm⟩) (λi v H' s' hi r hB J sm=>⟨.int (nth ns i),H',J,r,fin i H' hi hB sm⟩) _ 0 H _ #[] 0 {cls:=.type "list_iterator",data:=.fields #[.ref l,.int 0 0]} rfl (Yu _) (I2.Zy λp hp=>?_) (Ze.refl H) ⟨_,gI,rfl,rfl⟩ (.inl ⟨rfl,rfl⟩)
 ·have:=Yh (I.pin p hp).1
  exact⟨Yk this,Yk (YM this)⟩
 ·rcases Yg.mp hp with rfl|hp
  ·exact⟨gS,I.hok.fresh (YW _),Nat.ne_of_gt (YM I.lt),I.Zk5 (YW _),λv z=>by cases z⟩
  ·rcases Yg.mp hp with rfl|hp
   ·exact⟨gI,I.hok.fresh (Yf _),Nat.ne_of_gt I.lt,I.Zk5 (Yf _),λv z=>by cases z⟩
   ·exact I2.pin p (Yl _ hp)
noncomputable def ZmU (ta td:TA) (tb:TE) (js:List (Option Nat)) (env:Env) (P:Addr) (q:Str) (params:Arguments) (body:Expr) (scope:Scope):TE:=fun σ H Q=>ta σ H λvs H1=>td σ H1 λzs H2=>∃(p f:Addr) (dv:V) (ns:List Int) (kz:Int->Int),
 vs=[.ref p]/\zs=[.ref f,dv]/\H2 p=some (.lst (ns.map V.int))/\Zky env P q params body scope H2 f /\
 (∀n H3,n∈ns->Ze H2 H3->tb ((ZM js σ).set 0 (some (.int n))) H3 λv H4=>v=.int (kz n)/\Ze H3 H4) /\
 (ns=[]->∀H3,Ze H2 H3->Q dv H3)/\∀i H3,i<ns.length->Zdy kz ns ns.length i->Ze H2 H3->Q (.int (nth ns i)) H3
theorem ZqI {Nc:List Str}{js:List (Option Nat)}{q pn:Str}{params:Arguments}{body:Expr}{scope:Scope}{P:Addr}{ta td:TA}{tb:TE}{m:Nat}{e:Expr}{e2:Expr}{p pos lpos kp1 kp2:Pos} (hc:X.calm=true) (hr:Room m X.A) (S:LamSc X Nc js params body scope pn)
  (hbody:∀cl L f c s H,PE (Zh9 X X.A.in1 Nc q scope cl L f c s H) body tb) (hg:Gl X "max") (hm:X.mg "max"=none) (ha:PA X [e] ta) (hd:PK X [⟨some (Str.ofString "key"),.Lambda params body scope lpos,kp1⟩,⟨some (Str.ofString "default"),e2,kp2⟩] td)
  (hpl:(backTo pos (starEach [e] X.env)).any (·.1)=false:=by rfl) (hall:(backToKw pos (keywordEach [⟨some (Str.ofString "key"),.Lambda params body scope lpos,kp1⟩,⟨some (Str.ofString "default"),e2,kp2⟩] X.env)).all (·.1.isSome)=true:=by rfl)
  (hnn:(backToKw pos (keywordEach [⟨some (Str.ofString "key"),.Lambda params body scope lpos,kp1⟩,⟨some (Str.ofString "default"),e2,kp2⟩] X.env)).any (·.1.isNone)=false:=by rfl) (hks:(backToKw pos (keywordEach [⟨some (Str.ofString "key"),.Lambda params body scope lpos,kp1⟩,⟨some (Str.ofString "default"),e2,kp2⟩] X.env)).filterMap (·.1)=[Str.ofString "key",Str.ofString "default"]:=by rfl) (hb:backTo pos (starEach [e] X.env)=(false,eval e X.env)::backTo pos (starEach [] X.env):=by rfl) :
  PE X (.Call (.Name "max" p) [e] [⟨some (Str.ofString "key"),.Lambda params body scope lpos,kp1⟩,⟨some (Str.ofString "default"),e2,kp2⟩] pos) (ZmU ta td tb js X.env P q params body scope):=by
 intro pins s σ H Q I h
 refine wpAny_Call_Name_kw (ZbR I hg hm Zp0 ?_)
 refine PyProof.Rows.callWith_kw (thn (ha pos pins s σ H _ I h) λus s1 ⟨vs,H1,I1,r1,q1⟩=>?_) hb hpl hall hnn
 refine thn (hd pos pins s1 σ H1 _ I1 q1) λws s2 ⟨zs,H2,I2,r2,pp,f,dv,ns,kz,e1,e2,hp,L,tn,fin0,fin⟩=>?_
 subst e1 e2
 obtain⟨u,rfl,ru⟩:=r1.one
 cases(show u=Value.ref pp from ru)
 rw[hks]
 obtain⟨v,v2,rfl,rv,rv2⟩:=r2.two
 cases(show v=Value.ref f from rv)
 exact maxKD (kz:=kz) I2 hc hp rv2 (λH' s' pins' n u hn J sm r=>Zia S hbody J J.ok.frames J.ok.hd hr.depth (L.same sm) r (tn n H' hn sm)) fin0 fin
end
theorem ZmV (a v d:Value):argsOk "min" ⟨[a],[(Str.ofString "key",v),(Str.ofString "default",d)]⟩:=by unfold argsOk;kernel_rfl
noncomputable def Zbi (kz:Int->Int) (ns:List Int) (m i:Nat):Prop:=∀j,j<m->kz (nth ns i)<=kz (nth ns j)/\(j<i->kz (nth ns i)<kz (nth ns j))
theorem Zbi.one (kz:Int->Int) (ns:List Int):Zbi kz ns 1 0:=λj hj=>⟨by rw[show j=0 by omega];exact Int.le_refl _,λh=>absurd h (by omega)⟩
theorem Zbi.take {kz:Int->Int}{ns:List Int}{m i:Nat} (h:Zbi kz ns m i) (hi:i<m) (c:kz (nth ns m)<kz (nth ns i)):Zbi kz ns (m+1) m:=λj hj=>by
 by_cases e:j=m
 ·subst e;exact⟨Int.le_refl _,λh=>absurd h (by omega)⟩
 ·have:=(h j (by omega)).1
  exact⟨by omega,λ_=>by omega⟩
theorem Zbi.keep {kz:Int->Int}{ns:List Int}{m i:Nat} (h:Zbi kz ns m i) (hi:i<m) (c:¬ kz (nth ns m)<kz (nth ns i)):Zbi kz ns (m+1) i:=λj hj=>by
 by_cases e:j=m
 ·subst e;exact⟨by omega,λz=>absurd z (by omega)⟩
 ·exact h j (by omega)
section
variable {X:Cx}
theorem ZoS {pins:List (Addr×Obj)}{σ:St}{H:Hp}{A:Around}{R:Result->Shared->Prop}{d:Value}{dk:Str}{l I S q:Addr}{ns:List Int}{kz:Int->Int}
  (hh:A.handled=none) (hlI:l≠I) (hSI:S≠I) (hI0:X.s₀.heap.objs.size<=I) (hS0:X.s₀.heap.objs.size<=S) (hp:∀p∈X.pn++pins,p.1≠I/\p.1≠S) (hl:H l=some (.lst (ns.map V.int)))
  (turn:∀(H':Hp) (s':Shared) (pins':List (Addr×Obj)) (n:Int) (u:Value),n∈ns->Inv X pins' σ H' s'->Ze H H'->RelV (.int n) u->wpAny (model X.prog X.w) A.in1 (call (.ref q) [u]) (EP X pins' σ λv H2=>v=.int (kz n)/\Ze H' H2) (λ_ _=>False) s')
  (hR0:ns=[]->∀H' s',Inv X pins σ H' s'->Ze H H'->R (.ok (.ret d)) s')
  (hR:∀(i:Nat) (v:Value) H' s',i<ns.length->RelV (.int (nth ns i)) v->Zbi kz ns ns.length i->Inv X pins σ H' s'->Ze H H'->R (.ok (.ret v)) s') :
  ∀(r j:Nat) (H':Hp) (s':Shared) (buf:Array Value) (c:Nat) (oI:Obj),ns.length-j=r->j<=ns.length->Inv X ((S,seqObj "list" buf c)::(I,oI)::pins) σ H' s'->Ze H H'->s'.heap.IsListIter I l j ->
   ((j=0/\buf=#[])\/∃(i:Nat) (vb:Value) (tb:Tok),i<j/\buf=#[vb,.int (kz (nth ns i)) tb]/\RelV (.int (nth ns i)) vb/\Zbi kz ns j i) ->
   codeAny (model X.prog X.w) A (.builtin "min.loop" ⟨[.ref I,.ref q,.ref S],[(dk,d)]⟩) R s':=by
 have hname:(toString "min"++toString ".loop":String)="min.loop":=by decide
 intro r
 induction r with
 |zero =>
  intro j H' s' buf c oI hr hj J sm hit hb
  have hjn:j=ns.length:=by omega
  obtain⟨oS,nS,lS,fS,_,cS⟩:=Zv J (Ys ..)
  obtain⟨oI',nI,lI,fI,dI,cI⟩:=Zv J (Yq _ (Ys ..))
  obtain⟨its,rv,pl,_⟩:=J.list (SqL.of (sm _ _ hl))
  have hlen:its.length=ns.length:=by have:=rv.length;rw[Yj]at this;omega
  have hsz:its.toArray.size=its.length:=Yr ..
  have W:=Walks.list (prog:=X.prog) (w:=X.w) (A:=A.in1) hh I l hlI its.toArray
  have J0:Inv X pins σ H' s':=J.Zy λp hp'=>J.pin p (Yl _ (Yq _ (Yq _ hp')))
  refine codeAny_builtin PySem.F.entry_min_loop ?_
  rw[Around.under_plainId PySem.F.plain_min_loop _]
  show wpAny _ A.in1 (seqItems? (.ref S) >>= _) _ _ _
  refine Ya (wpAny_seqItems oS rfl ?_)
  rcases hb with⟨hj0,rfl⟩|⟨i,vb,tb,hi,rfl,rvb,hB⟩
  ·refine Ya (wpAny_tryCatch (W.done _ _ _ ⟨by rw[hsz,hlen,<-hjn];exact hit,pl.isList⟩ λh' tk' hk'=>?_))
   refine Ya (wpAny_rule (Yc ?_))
   exact hR0 (List.length_eq_zero_iff.mp (by omega)) H' _ (J0.turned (it:=I) (λb o nb e=>hk' b o (by simpa using nb) e) nI lI (.inr hI0) cI λp hp'=>(hp p hp').1) sm
  ·refine Ya (wpAny_tryCatch (W.done _ _ _ ⟨by rw[hsz,hlen,<-hjn];exact hit,pl.isList⟩ λh' tk' hk'=>?_))
   have hS':=hk' S _ (by simpa using hSI) oS
   have J1:=J0.turned (t':=tk') (h':=h') (it:=I) (λb o nb e=>hk' b o (by simpa using nb) e) nI lI (.inr hI0) cI λp hp'=>(hp p hp').1
   refine Ya (wpAny_updateSeq hS' rfl ?_ (show 2<=sizeLine by decide) (Yu _))
   refine Ya (wpAny_letGo (Yc ?_))
   have J2:=J1.turned (t':=tk') (h':=h'.update S (Obj.mapSeq λ_=>(#[]:Array Value))) (it:=S) (λb o nb e=>(Heap.get?_update_ne _ _ _ _ nb).trans e) nS lS (.inr hS0) cS λp hp'=>(hp p hp').2
   exact hR i vb H' _ (by omega) rvb (hjn▸hB) J2 sm
 |succ r ih =>
  intro j H' s' buf c oI hr hj J sm hit hb
  have hlt:j<ns.length:=by omega
  obtain⟨oS,nS,lS,fS,_,cS⟩:=Zv J (Ys ..)
  obtain⟨oI',nI,lI,fI,dI,cI⟩:=Zv J (Yq _ (Ys ..))
  obtain⟨its,rv,pl,_⟩:=J.list (SqL.of (sm _ _ hl))
  have hlen:its.length=ns.length:=by have:=rv.length;rw[Yj]at this;omega
  have hsz:its.toArray.size=its.length:=Yr ..
  have W:=Walks.list (prog:=X.prog) (w:=X.w) (A:=A.in1) hh I l hlI its.toArray
  have J0:Inv X ((S,seqObj "list" buf c)::pins) σ H' s':=J.Zy λp hp'=>J.pin p (Yl _ (by
   rcases Yg.mp hp' with z|z
   ·exact Yg.mpr (.inl z)
   ·exact Yq _ (Yq _ z)))
  refine codeAny_builtin PySem.F.entry_min_loop ?_
  rw[Around.under_plainId PySem.F.plain_min_loop _]
  show wpAny _ A.in1 (seqItems? (.ref S) >>= _) _ _ _
  refine Ya (wpAny_seqItems oS rfl ?_)
  have step:∀(v:Value) (h':Heap) (tk':Nat),its.toArray[j]?=some v->h'.IsListIter I l (j+1)/\h'.IsList l its.toArray->(∀b o,b∉[I]->s'.heap.get? b=some o->h'.get? b=some o)->RelV (.int (nth ns j)) v/\∃oI2,h'.get? I=some oI2/\Inv X ((S,seqObj "list" buf c)::(I,oI2)::pins) σ H' {s' with heap:=h',toks:=tk'}:=λv h' tk' hP hst hk'=>by
   refine⟨?_,?_⟩
   ·obtain⟨v',e1,e2⟩:=rv.get (i:=j) (x:=V.int (nth ns j)) (by unfold nth;rw[YD,Yn,Ye hlt];rfl)
    have:its[j]?=some v:=by simpa using hP
    rw[e1]at this;cases this;exact e2
   ·obtain⟨oI2,g2,hcls,hdat⟩:=id hst.1
    have J1:=J0.turned (t':=tk') (h':=h') (it:=I) (λb o nb e=>hk' b o (by simpa using nb) e) nI lI (.inr hI0) cI λp hp'=>by
     rcases YE.mp hp' with z|z
     ·exact(hp p (YR _ z)).1
     ·rcases Yg.mp z with rfl|z
      ·exact hSI
      ·exact(hp p (Yl _ z)).1
    refine⟨oI2,g2,J1.Zy λp hp'=>?_⟩
    rcases Yg.mp hp' with rfl|hp'
    ·exact J1.pin _ (Yl _ (Ys ..))
    ·rcases Yg.mp hp' with rfl|hp'
     ·exact⟨g2,nI,lI,fI,λv z=>by rw[hdat]at z;cases z⟩
     ·exact J1.pin _ (Yl _ (Yq _ hp'))
  have write:∀{H2:Hp}{s2:Shared}{oI2:Obj} (v:Value) (t2:Tok) (b2:Array Value) (c0:Nat),Inv X ((S,seqObj "list" b2 c0)::(I,oI2)::pins) σ H2 s2->∃c2,Inv X ((S,seqObj "list" #[v,.int (kz (nth ns j)) t2] c2)::(I,oI2)::pins) σ H2 {s2 with heap:=s2.heap.update S (Obj.mapSeq λ_=>#[v,.int (kz (nth ns j)) t2])}:=λ{H2 s2 oI2} v t2 b2 c0 K=>by
   obtain⟨o2,n2,l2,f2,_,cc2⟩:=Zv K (Ys ..)
   obtain⟨c2,hc2⟩:∃c2,(s2.heap.update S (Obj.mapSeq λ_=>#[v,.int (kz (nth ns j)) t2])).get? S=some (seqObj "list" #[v,.int (kz (nth ns j)) t2] c2):=⟨_,get?_update_seq o2 λ_=>#[v,.int (kz (nth ns j)) t2]⟩
   have K0:Inv X ((I,oI2)::pins) σ H2 s2:=K.Zy λp hp'=>K.pin p (Yl _ (Yq _ hp'))
   have K1:=K0.turned (t':=s2.toks) (h':=s2.heap.update S (Obj.mapSeq λ_=>#[v,.int (kz (nth ns j)) t2])) (it:=S) (λb o nb e=>(Heap.get?_update_ne _ _ _ _ nb).trans e) n2 l2 (.inr hS0) cc2 λp hp'=>by
    rcases YE.mp hp' with z|z
    ·exact(hp p (YR _ z)).2
    ·rcases Yg.mp z with rfl|z
     ·exact hSI.symm
     ·exact(hp p (Yl _ z)).2
   refine⟨c2,K1.Zy λp hp'=>?_⟩
   rcases Yg.mp hp' with rfl|hp'
   ·exact⟨hc2,n2,l2,f2,λv z=>by cases z⟩
   ·exact K1.pin p (Yl _ hp')
  have mem:nth ns j∈ns:=by unfold nth;rw[Yn,Ye hlt];exact YL hlt
  rcases hb with⟨hj0,rfl⟩|⟨i,vb,tb,hi,rfl,rvb,hB⟩
  ·refine Ya (wpAny_tryCatch (W.item j _ _ _ (by rw[hsz,hlen];exact hlt) ⟨hit,pl.isList⟩ λv h' tk' hP hst' hk'=>?_))
   obtain⟨rj,oI2,gI,J2⟩:=step v h' tk' hP hst' hk'
   obtain⟨oI3,gI3,hcls,hdat⟩:=id hst'.1
   rw[gI]at gI3;cases gI3
   refine Ya (wpAny_tryCatch (YB (Yz (turn H' _ _ _ v mem J2 sm rj) (λx s'' he=>?_) λ_ _ hF=>hF.elim)))
   obtain⟨x2,H2,J3,r2,rfl,sm2⟩:=he
   obtain⟨t2,rfl⟩:=r2
   obtain⟨oS3,_⟩:=Zv J3 (Ys ..)
   obtain⟨oI4,_⟩:=Zv J3 (Yq _ (Ys ..))
   obtain⟨c2,J4⟩:=write v t2 _ _ J3
   refine Ya (wpAny_updateSeq oS3 rfl ?_ (Yu _) (show 2<=sizeLine+1 by decide))
   rw[hname]
   refine Yc ⟨plainId_quiet PySem.F.plain_min_loop _,ih (j+1) H2 _ _ c2 oI2 (by omega) hlt J4 (sm.trans sm2) ⟨oI2,(Heap.get?_update_ne _ _ _ _ hSI.symm).trans oI4,hcls,hdat⟩ (.inr ⟨j,v,t2,by omega,rfl,rj,?_⟩)⟩
   subst hj0;exact Zbi.one kz ns
  ·refine Ya (wpAny_tryCatch (W.item j _ _ _ (by rw[hsz,hlen];exact hlt) ⟨hit,pl.isList⟩ λv h' tk' hP hst' hk'=>?_))
   obtain⟨rj,oI2,gI,J2⟩:=step v h' tk' hP hst' hk'
   obtain⟨oI3,gI3,hcls,hdat⟩:=id hst'.1
   rw[gI]at gI3;cases gI3
   refine Ya (wpAny_tryCatch (YB (Yz (turn H' _ _ _ v mem J2 sm rj) (λx s'' he=>?_) λ_ _ hF=>hF.elim)))
   obtain⟨x2,H2,J3,r2,rfl,sm2⟩:=he
   obtain⟨t2,rfl⟩:=r2
   obtain⟨oS3,_⟩:=Zv J3 (Ys ..)
   obtain⟨oI4,_⟩:=Zv J3 (Yq _ (Ys ..))
   refine Ya (wpAny_tryCatch (YB (Ya (CmpOf.ints_lt (prog:=X.prog) (w:=X.w) (A:=A.in1) (P:=λi v=>∃t,v=.int (kz (nth ns i)) t) (λi=>kz (nth ns i)) (λi v h=>h) j i _ _ _ _ _ ⟨t2,rfl⟩ ⟨tb,rfl⟩ ?_))))
   refine Ya (YB (wpAny_truthy_bool ?_))
   refine Ya (wpAny_letGo (Yc ?_))
   by_cases hb':kz (nth ns j)<kz (nth ns i)
   ·simp only[hb',decide_true,if_true]
    obtain⟨c2,J4⟩:=write v t2 _ _ J3
    refine Ya (wpAny_updateSeq oS3 rfl (Ya (wpAny_letGo ?_)) (show 2<=sizeLine by decide) (show 2<=sizeLine+1 by decide))
    rw[hname]
    exact Yc ⟨plainId_quiet PySem.F.plain_min_loop _,ih (j+1) H2 _ _ c2 oI2 (by omega) hlt J4 (sm.trans sm2) ⟨oI2,(Heap.get?_update_ne _ _ _ _ hSI.symm).trans oI4,hcls,hdat⟩ (.inr ⟨j,v,t2,by omega,rfl,rj,hB.take hi hb'⟩)⟩
   ·simp only[hb',decide_false,Bool.false_eq_true,if_false]
    refine Ya (wpAny_letGo ?_)
    rw[hname]
    exact Yc ⟨plainId_quiet PySem.F.plain_min_loop _,ih (j+1) H2 _ _ c oI2 (by omega) hlt J3 (sm.trans sm2) ⟨oI2,oI4,hcls,hdat⟩ (.inr ⟨i,vb,tb,by omega,rfl,rvb,hB.keep hi hb'⟩)⟩
theorem minKD {pins:List (Addr×Obj)}{σ:St}{H:Hp}{s:Shared}{l q:Addr}{ns:List Int}{kz:Int->Int}{d:Value}{dv:V}{Q:VK} (I:Inv X pins σ H s) (hc:X.calm=true) (hl:H l=some (.lst (ns.map V.int))) (rd:RelV dv d)
  (turn:∀(H':Hp) (s':Shared) (pins':List (Addr×Obj)) (n:Int) (u:Value),n∈ns->Inv X pins' σ H' s'->Ze H H'->RelV (.int n) u->wpAny (model X.prog X.w) X.A.in1 (call (.ref q) [u]) (EP X pins' σ λv H2=>v=.int (kz n)/\Ze H' H2) (λ_ _=>False) s')
  (fin0:ns=[]->∀H',Ze H H'->Q dv H') (fin:∀i H',i<ns.length->Zbi kz ns ns.length i->Ze H H'->Q (.int (nth ns i)) H') :
  wpAny (model X.prog X.w) X.A (call (.builtin "min") [.ref l] [(Str.ofString "key",.ref q),(Str.ofString "default",d)]) (EP X pins σ Q) X.xe s:=by
 have hname:(toString "min"++toString ".loop":String)="min.loop":=by decide
 obtain⟨its,rv,pl,_⟩:=I.list (SqL.of hl)
 obtain⟨ol,hol,_⟩:=id pl.isList
 have hll:l<s.heap.objs.size:=Yh hol
 refine kmk_tree PySem.F.kind_min PySem.F.plain_min PySem.F.entry_min (ZmV _ _ _) ?_
 show wpAny _ X.A.in1 (Builtin.Builtins.bindParams "min" ["key","default"] 0 ⟨[],[(Str.ofString "key",.ref q),(Str.ofString "default",d)]⟩ >>= _) _ _ s
 refine Ya (wpAny_of_eq (show Builtin.Builtins.bindParams "min" ["key","default"] 0 ⟨[],[(Str.ofString "key",.ref q),(Str.ofString "default",d)]⟩=pure [some (.ref q),some d]from rfl) ?_)
 refine Ya (Yc ?_)
 refine Ya (wpAny_pyIter_list pl.isList ?_)
 refine Ya (wpAny_newList ?_ (Yu _))
 rw[hname]
 refine Yc ⟨plainId_quiet PySem.F.plain_min_loop _,?_⟩
 have hS:(s.heap.push {cls:=.type "list_iterator",data:=.fields #[.ref l,.int 0 0]}).objs.size=s.heap.objs.size+1:=size_push' ..
 have I2:=I.kept (h':=(s.heap.push {cls:=.type "list_iterator",data:=.fields #[.ref l,.int 0 0]}).push (seqObj "list" #[] 0)) (t':=s.toks) λb o e=>Yi _ (Yi _ e)
 have gI:((s.heap.push {cls:=.type "list_iterator",data:=.fields #[.ref l,.int 0 0]}).push (seqObj "list" #[] 0)).get? s.heap.objs.size=some {cls:=.type "list_iterator",data:=.fields #[.ref l,.int 0 0]}:=Yi _ (Yt _ rfl)
 have gS:((s.heap.push {cls:=.type "list_iterator",data:=.fields #[.ref l,.int 0 0]}).push (seqObj "list" #[] 0)).get? (s.heap.objs.size+1)=some (seqObj "list" #[] 0):=by rw[<-hS];exact Yt _ rfl
 rw[hS]
 refine ZoS (pins:=pins) (H:=H) (ns:=ns) (kz:=kz) (I.ok.hd hc) (Yk hll) (Nat.ne_of_gt (Nat.lt_succ_self _)) I.sz (Nat.le_succ_of_le I.sz) (λp hp=>?_) hl turn (λz H' s' J sm=>⟨dv,H',J,rd,fin0 z H' sm⟩) (λi v H' s' hi r hB J sm=>⟨.int (nth ns i),H',J,r,fin i H' hi hB sm⟩) _ 0 H _ #[] 0 {cls:=.type "list_iterator",data:=.fields #[.ref l,.int 0 0]} rfl (Yu _) (I2.Zy λp hp=>?_) (Ze.refl H) ⟨_,gI,rfl,rfl⟩ (.inl ⟨rfl,rfl⟩)
 ·have:=Yh (I.pin p hp).1
  exact⟨Yk this,Yk (YM this)⟩
 ·rcases Yg.mp hp with rfl|hp
  ·exact⟨gS,I.hok.fresh (YW _),Nat.ne_of_gt (YM I.lt),I.Zk5 (YW _),λv z=>by cases z⟩
  ·rcases Yg.mp hp with rfl|hp
   ·exact⟨gI,I.hok.fresh (Yf _),Nat.ne_of_gt I.lt,I.Zk5 (Yf _),λv z=>by cases z⟩
   ·exact I2.pin p (Yl _ hp)
noncomputable def ZmW (ta td:TA) (tb:TE) (js:List (Option Nat)) (env:Env) (P:Addr) (q:Str) (params:Arguments) (body:Expr) (scope:Scope):TE:=fun σ H Q=>ta σ H λvs H1=>td σ H1 λzs H2=>∃(p f:Addr) (dv:V) (ns:List Int) (kz:Int->Int),
 vs=[.ref p]/\zs=[.ref f,dv]/\H2 p=some (.lst (ns.map V.int))/\Zky env P q params body scope H2 f /\
 (∀n H3,n∈ns->Ze H2 H3->tb ((ZM js σ).set 0 (some (.int n))) H3 λv H4=>v=.int (kz n)/\Ze H3 H4) /\
 (ns=[]->∀H3,Ze H2 H3->Q dv H3)/\∀i H3,i<ns.length->Zbi kz ns ns.length i->Ze H2 H3->Q (.int (nth ns i)) H3
theorem ZqJ {Nc:List Str}{js:List (Option Nat)}{q pn:Str}{params:Arguments}{body:Expr}{scope:Scope}{P:Addr}{ta td:TA}{tb:TE}{m:Nat}{e:Expr}{e2:Expr}{p pos lpos kp1 kp2:Pos} (hc:X.calm=true) (hr:Room m X.A) (S:LamSc X Nc js params body scope pn)
  (hbody:∀cl L f c s H,PE (Zh9 X X.A.in1 Nc q scope cl L f c s H) body tb) (hg:Gl X "min") (hm:X.mg "min"=none) (ha:PA X [e] ta) (hd:PK X [⟨some (Str.ofString "key"),.Lambda params body scope lpos,kp1⟩,⟨some (Str.ofString "default"),e2,kp2⟩] td)
  (hpl:(backTo pos (starEach [e] X.env)).any (·.1)=false:=by rfl) (hall:(backToKw pos (keywordEach [⟨some (Str.ofString "key"),.Lambda params body scope lpos,kp1⟩,⟨some (Str.ofString "default"),e2,kp2⟩] X.env)).all (·.1.isSome)=true:=by rfl)
  (hnn:(backToKw pos (keywordEach [⟨some (Str.ofString "key"),.Lambda params body scope lpos,kp1⟩,⟨some (Str.ofString "default"),e2,kp2⟩] X.env)).any (·.1.isNone)=false:=by rfl) (hks:(backToKw pos (keywordEach [⟨some (Str.ofString "key"),.Lambda params body scope lpos,kp1⟩,⟨some (Str.ofString "default"),e2,kp2⟩] X.env)).filterMap (·.1)=[Str.ofString "key",Str.ofString "default"]:=by rfl) (hb:backTo pos (starEach [e] X.env)=(false,eval e X.env)::backTo pos (starEach [] X.env):=by rfl) :
  PE X (.Call (.Name "min" p) [e] [⟨some (Str.ofString "key"),.Lambda params body scope lpos,kp1⟩,⟨some (Str.ofString "default"),e2,kp2⟩] pos) (ZmW ta td tb js X.env P q params body scope):=by
 intro pins s σ H Q I h
 refine wpAny_Call_Name_kw (ZbR I hg hm Zp1 ?_)
 refine PyProof.Rows.callWith_kw (thn (ha pos pins s σ H _ I h) λus s1 ⟨vs,H1,I1,r1,q1⟩=>?_) hb hpl hall hnn
 refine thn (hd pos pins s1 σ H1 _ I1 q1) λws s2 ⟨zs,H2,I2,r2,pp,f,dv,ns,kz,e1,e2,hp,L,tn,fin0,fin⟩=>?_
 subst e1 e2
 obtain⟨u,rfl,ru⟩:=r1.one
 cases(show u=Value.ref pp from ru)
 rw[hks]
 obtain⟨v,v2,rfl,rv,rv2⟩:=r2.two
 cases(show v=Value.ref f from rv)
 exact minKD (kz:=kz) I2 hc hp rv2 (λH' s' pins' n u hn J sm r=>Zia S hbody J J.ok.frames J.ok.hd hr.depth (L.same sm) r (tn n H' hn sm)) fin0 fin
end
section
variable {prog:Program}{w:World}{A:Around}{E:Value->Shared->Prop}{s:Shared}
theorem ZjR {it t:Addr}{items:Array Value} (hh:A.handled=none) (hne:t≠it):∀(n i:Nat) (s:Shared) (Q:List Value->Shared->Prop),s.heap.IsListIter it t i->s.heap.IsList t items->i+n<=items.size ->
  (∀h' tk,h'.IsListIter it t (i+n)->h'.IsList t items->(∀b o,b≠it->s.heap.get? b=some o->h'.get? b=some o)->Q ((items.toList.drop i).take n) {s with heap:=h',toks:=tk})->wpAny (model prog w) A (draw (.ref it) n) Q E s
 |0,i,s,Q,hit,hl,_,hQ=>by
  show wpAny _ _ (pure []) Q E s
  exact Yc (by simpa using hQ s.heap s.toks hit hl λb o _ e=>e)
 |n+1,i,s,Q,hit,hl,hle,hQ=>by
  have hlt:i<items.size:=by omega
  have W:=Walks.list (prog:=prog) (w:=w) (A:=A) hh it t hne items
  show wpAny _ _ (pyNext (.ref it) >>= _) Q E s
  refine Ya (W.item i _ _ _ hlt ⟨hit,hl⟩ λv h₁ tk₁ hP hst hk=>?_)
  have hv:items[i]?=some v:=hP
  rw[getElem?_pos items i hlt]at hv
  cases hv
  refine Ya (YB (ZjR hh hne n (i+1) _ _ hst.1 hst.2 (by omega) λh₂ tk₂ hit₂ hl₂ hk₂=>Yc ?_))
  have hd:items.toList.drop i=items[i]::items.toList.drop (i+1):=by simp[List.drop_eq_getElem_cons,hlt]
  have:=hQ h₂ tk₂ (by rw[show i+(n+1)=i+1+n by omega];exact hit₂) hl₂ λb o hb e=>hk₂ b o hb (hk b o (by simpa using hb) e)
  rw[hd,List.take_succ_cons]at this
  exact this
theorem ZgS {t:Addr}{items:Array Value}{Q:List Value->Shared->Prop} (hh:A.handled=none) (ht:s.heap.IsList t items)
  (hQ:∀h' tk,(∀b o,s.heap.get? b=some o->h'.get? b=some o)->Q items.toList {s with heap:=h',toks:=tk}):wpAny (model prog w) A (unpackItems (.ref t) items.size none) Q E s:=by
 have hlt:t≠s.heap.objs.size:=by obtain⟨o,ho,_⟩:=ht;exact Yk (Yh ho)
 have old:∀b o,s.heap.get? b=some o->b≠s.heap.objs.size:=λb o e=>Yk (Yh e)
 unfold unpackItems
 refine Ya ?_
 ·unfold notIterableAtAll
  refine Ya (wpAny_specialOf ht.typeIs slot_list_iter.lookup ?_)
  refine Yc ?_
  simp only[Bool.false_eq_true,if_false]
  refine Ya (YB (wpAny_pyIter_list ht ?_))
  have hl2:(s.heap.push {cls:=.type "list_iterator",data:=.fields #[.ref t,.int 0 0]}).IsList t items:=by
   obtain⟨o,e,r⟩:=ht
   exact⟨o,Yi _ e,r⟩
  refine Ya (YB (ZjR hh hlt items.size 0 _ _ ⟨_,Yt _ rfl,rfl,rfl⟩ hl2 (by omega) λh₁ tk₁ hit₁ hl₁ hk₁=>?_))
  have hall:List.take items.size (List.drop 0 items.toList)=items.toList:=by
   rw[List.drop_zero];exact List.take_of_length_le (by simp)
  rw[hall]
  rw[Yb (by simp)]
  have W:=Walks.list (prog:=prog) (w:=w) (A:=A) hh s.heap.objs.size t hlt items
  refine Ya (YB (W.done _ _ _ ⟨by rw[Nat.zero_add]at hit₁;exact hit₁,hl₁⟩ λh₂ tk₂ hk₂=>?_))
  simp only[Option.isSome_none,Bool.false_eq_true,if_false]
  exact Yc (hQ h₂ tk₂ λb o e=>hk₂ b o (by simpa using old b o e) (hk₁ b o (old b o e) (Yi _ e)))
end
section
variable {X:Cx}
noncomputable def gLst (K:PySem.W.Frag) (n:Nat) (t:TGs):TG:=λv σ H Q=>∃a xs,v=.ref a/\SqL K H a xs/\xs.length=n/\t xs σ H Q
theorem ZmX {K:Frag}{es:List Expr}{pos:Pos}{k:Nat}{t:TGs}{n:Nat} (hK:X.K=K) (hc:X.calm=true) (h:PGs X es t)
  (hn:(assignEach es X.env).length=n:=by rfl) (hst:(assignEach es X.env).findIdx? (·.1)=none:=by rfl):PG X (.Tuple es k pos) (gLst K n t):=by
 subst hK
 intro pins s σ H v u Q I r hw
 obtain⟨a,xs,e1,hq,hl,hw⟩:=hw
 subst e1
 cases r
 obtain⟨its,rv,pl,hz⟩:=I.list hq
 have hlen:(assignEach es X.env).length=its.toArray.size:=by
  have:=rv.length
  rw[hn,Yr];omega
 rw[assign_Tuple]
 refine Ya (wpAny_standAt ?_)
 unfold unpack
 rw[hlen,hst]
 refine Ya (YB (ZgS (I.ok.hd hc) pl.isList λh' tk kp=>?_))
 exact h pins _ σ H xs _ Q (I.kept kp) (by simpa using rv) hw
noncomputable def ZqK (te:TE) (g g':TG):TS:=λD σ H=>te σ H λx H1=>g x σ H1 fun σ1 H2=>g' x σ1 H2 D.nx
theorem Ztu {tg tg' e:Expr}{te:TE}{g g':TG}{pos:Pos} (he:PE X e te) (hg:PG X tg g) (hg':PG X tg' g') (h1:(assignEach [tg,tg'] X.env).map (·.2)=[assign tg X.env,assign tg' X.env]:=by rfl) (hw:swappedStores [tg,tg'] e X.env=pure none:=by rfl):PS X (.Assign [tg,tg'] e pos) (ZqK te g g'):=by
 intro pins s σ H D I h
 refine wpAny_Assign_two (thn (he pins s σ H _ I h) λv s1 ⟨x,H1,I1,r1,q1⟩=>?_) h1 hw
 exact thn (hg pins s1 σ H1 x v _ I1 r1 q1) λ_ s2 ⟨σ2,H2,I2,q2⟩=>thn (hg' pins s2 σ2 H2 x v _ I2 r1 q2) λ_ s3 q=>q
end
inductive EqN (K:Frag) (H:Hp):Nat->V->V->Bool->Prop
 |flat {n:Nat}{x y:V} (fx:flatV x=true) (fy:flatV y=true):EqN K H n x y (eqV x y)
 |lst {n:Nat}{a b:Addr}{xs ys:List V} (e:Nat->Bool) (hx:SqL K H a xs) (hy:SqL K H b ys) (hl:xs.length=ys.length) (h:∀j x y,xs[j]?=some x->ys[j]?=some y->EqN K H n x y (e j)):EqN K H (n+1) (.ref a) (.ref b) ((List.range xs.length).all e)
 |len {n:Nat}{a b:Addr}{xs ys:List V} (hx:SqL K H a xs) (hy:SqL K H b ys) (hl:xs.length≠ys.length):EqN K H (n+1) (.ref a) (.ref b) false
 |tup {n:Nat}{a b:Addr}{xs ys:List V} (e:Nat->Bool) (hx:SqT K H a xs) (hy:SqT K H b ys) (h:∀j x y,xs[j]?=some x->ys[j]?=some y->EqN K H n x y (e j)):EqN K H (n+1) (.ref a) (.ref b) ((List.range (min xs.length ys.length)).all e&&xs.length==ys.length)
 |nonT {n:Nat}{a:Addr}{xs:List V} (hx:SqT K H a xs):EqN K H n .non (.ref a) false
 |tNon {n:Nat}{a:Addr}{xs:List V} (hx:SqT K H a xs):EqN K H n (.ref a) .non false
 |iT {n:Nat}{i:Int}{a:Addr}{xs:List V} (hx:SqT K H a xs):EqN K H n (.int i) (.ref a) false
section
variable {X:Cx}{pins:List (Addr×Obj)}{σ:St}{H:Hp}{s:Shared}
theorem Zlz (I:Inv X pins σ H s) {n:Nat}{x y:V}{b:Bool} (h:EqN X.K H n x y b):x=y->b=true:=by
 induction h with
 |flat fx fy=>rintro rfl;exact Zlk fx
 |lst e hx hy hl h ih =>
  intro z
  cases z
  have:=I.ZbG hx hy
  subst this
  refine List.all_eq_true.mpr λj hj=>?_
  have hj':=Yy.mp hj
  exact ih j _ _ (Ye hj') (Ye hj') rfl
 |len hx hy hl =>
  intro z
  cases z
  have:=I.ZbG hx hy
  subst this
  exact absurd rfl hl
 |tup e hx hy h ih =>
  intro z
  cases z
  have:=I.Ze7 hx hy
  subst this
  rw[Nat.min_self]
  have:(List.range _).all e=true:=List.all_eq_true.mpr λj hj=>by
   have hj':=Yy.mp hj
   exact ih j _ _ (Ye hj') (Ye hj') rfl
  rw[this];simp
 |nonT hx=>intro z;cases z
 |tNon hx=>intro z;cases z
 |iT hx=>intro z;cases z
theorem ZqL (I:Inv X pins σ H s) {n:Nat}{x y:V}{b:Bool} (h:EqN X.K H n x y b):∀(A:Around) (u v:Value),A.units+n<cLine->RelV x u->RelV y v->SeqAt.EqAt A s u v b:=by
 induction h with
 |flat fx fy=>intro A u v _ ru rv;exact ZpQ ru rv fx fy
 |@lst n a b xs ys e hx hy hl h ih =>
  intro A u v hu ru rv
  have hb:=Zlz I (.lst e hx hy hl h)
  cases ru
  cases rv
  by_cases hab:a=b
  ·subst hab
   rw[hb rfl];exact SeqAt.EqAt.same _
  ·obtain⟨is1,r1,p1,_⟩:=I.list hx
   obtain⟨is2,r2,p2,_⟩:=I.list hy
   have e1:=r1.length
   have e2:=r2.length
   have key:=SeqAt.RcAt.lists (A:=A) (s:=s) (e:=e) p1.isList p2.isList (by simp;omega) (by omega) λj h1 h2=>by
    have h1':j<xs.length:=by simpa[e1]using h1
    have h2':j<ys.length:=by simpa[e2]using h2
    obtain⟨u,hu1,ru⟩:=r1.get (Ye h1')
    obtain⟨v,hv1,rv⟩:=r2.get (Ye h2')
    have eu:is1.toArray[j]=u:=by simpa using(Ym.mp hu1).2
    have ev:is2.toArray[j]=v:=by simpa using(Ym.mp hv1).2
    rw[eu,ev]
    exact ih j _ _ (Ye h1') (Ye h2') A.in1 u v (by show A.units+1+n<cLine;omega) ru rv
   have e3:is1.toArray.size=xs.length:=by simp[e1]
   rw[e3]at key
   exact SeqAt.EqAt.of_refs hab key
 |@len n a b xs ys hx hy hl =>
  intro A u v hu ru rv
  cases ru
  cases rv
  have hab:a≠b:=λz=>by subst z;exact hl (congrArg List.length (I.ZbG hx hy))
  obtain⟨is1,r1,p1,_⟩:=I.list hx
  obtain⟨is2,r2,p2,_⟩:=I.list hy
  have e1:=r1.length
  have e2:=r2.length
  exact SeqAt.EqAt.of_refs hab (SeqAt.RcAt.lists_lengths p1.isList p2.isList (by simp;omega) (by omega))
 |@tup n a b xs ys e hx hy h ih =>
  intro A u v hu ru rv
  have hb:=Zlz I (.tup e hx hy h)
  cases ru
  cases rv
  by_cases hab:a=b
  ·subst hab
   rw[hb rfl];exact SeqAt.EqAt.same _
  ·obtain⟨is1,r1,p1,_⟩:=I.tuple hx
   obtain⟨is2,r2,p2,_⟩:=I.tuple hy
   have e1:=r1.length
   have e2:=r2.length
   have key:=SeqAt.RcAt.tuples (A:=A) (s:=s) (e:=e) p1 p2 (by omega) λj h1 h2=>by
    have h1':j<xs.length:=by simpa[e1]using h1
    have h2':j<ys.length:=by simpa[e2]using h2
    obtain⟨u,hu1,ru⟩:=r1.get (Ye h1')
    obtain⟨v,hv1,rv⟩:=r2.get (Ye h2')
    have eu:is1.toArray[j]=u:=by simpa using(Ym.mp hu1).2
    have ev:is2.toArray[j]=v:=by simpa using(Ym.mp hv1).2
    rw[eu,ev]
    exact ih j _ _ (Ye h1') (Ye h2') A.in1 u v (by show A.units+1+n<cLine;omega) ru rv
   have e3:is1.toArray.size=xs.length:=by simp[e1]
   have e4:is2.toArray.size=ys.length:=by simp[e2]
   rw[e3,e4]at key
   exact SeqAt.EqAt.of_refs hab key
 |nonT hx =>
  intro A u v hu ru rv
  cases ru
  cases rv
  obtain⟨is1,r1,p1,_⟩:=I.tuple hx
  exact SeqAt.EqAt.none_tuple p1 (by omega)
 |tNon hx =>
  intro A u v hu ru rv
  cases ru
  cases rv
  obtain⟨is1,r1,p1,_⟩:=I.tuple hx
  exact SeqAt.EqAt.tuple_none p1 (by omega)
 |iT hx =>
  intro A u v hu ru rv
  obtain⟨t,rfl⟩:=ru
  cases rv
  obtain⟨is1,r1,p1,_⟩:=I.tuple hx
  exact SeqAt.EqAt.int_tuple _ _ p1 (by omega)
end
noncomputable def rEqN (K:Frag) (neg:Bool):R2:=λx y H Q=>∃a b k,x=.ref a/\y=.ref b/\EqN K H 3 x y k/\Q (.bl (if neg then !k else k)) H
section
variable {X:Cx}
theorem op_eqN {K:Frag} (hK:X.K=K) {k:Nat} (hr:Room k X.A):OpR X (compareOp .Eq) (rEqN K false):=by
 subst hK
 have hu0:=hr.un
 intro pins s σ H x y v u Q I rx ry h
 obtain⟨a,b,k,rfl,rfl,h,q⟩:=h
 cases rx
 cases ry
 cases h with
 |flat fx fy=>cases fx
 |@lst n _ _ xs ys e hx hy hl h =>
  obtain⟨is1,r1,p1,_⟩:=I.list hx
  obtain⟨is2,r2,p2,_⟩:=I.list hy
  have e1:=r1.length
  have e2:=r2.length
  have e3:is1.toArray.size=xs.length:=by simp[e1]
  refine SeqAt.eq_listAt (e:=e) p1.isList p2.isList (by simp;omega) (by omega) (λj h1 h2=>?_) ⟨.bl _,H,I,rfl,by rw[e3];exact q⟩
  have h1':j<xs.length:=by simpa[e1]using h1
  have h2':j<ys.length:=by simpa[e2]using h2
  obtain⟨u,hu1,ru⟩:=r1.get (Ye h1')
  obtain⟨v,hv1,rv⟩:=r2.get (Ye h2')
  have eu:is1.toArray[j]=u:=by simpa using(Ym.mp hu1).2
  have ev:is2.toArray[j]=v:=by simpa using(Ym.mp hv1).2
  rw[eu,ev]
  exact ZqL I (h j _ _ (Ye h1') (Ye h2')) X.A.in1 u v (by show X.A.units+1+2<cLine;omega) ru rv
 |@len n _ _ xs ys hx hy hl =>
  obtain⟨is1,r1,p1,_⟩:=I.list hx
  obtain⟨is2,r2,p2,_⟩:=I.list hy
  have e1:=r1.length
  have e2:=r2.length
  exact SeqAt.eq_list_lengthsAt p1.isList p2.isList (by simp;omega) (by omega) ⟨.bl _,H,I,rfl,q⟩
 |@tup n _ _ xs ys e hx hy h =>
  obtain⟨is1,r1,p1,_⟩:=I.tuple hx
  obtain⟨is2,r2,p2,_⟩:=I.tuple hy
  have e1:=r1.length
  have e2:=r2.length
  have e3:is1.toArray.size=xs.length:=by simp[e1]
  have e4:is2.toArray.size=ys.length:=by simp[e2]
  refine SeqAt.eq_tupleAt (e:=e) p1 p2 (by omega) (λj h1 h2=>?_) ⟨.bl _,H,I,rfl,by rw[e3,e4];exact q⟩
  have h1':j<xs.length:=by simpa[e1]using h1
  have h2':j<ys.length:=by simpa[e2]using h2
  obtain⟨u,hu1,ru⟩:=r1.get (Ye h1')
  obtain⟨v,hv1,rv⟩:=r2.get (Ye h2')
  have eu:is1.toArray[j]=u:=by simpa using(Ym.mp hu1).2
  have ev:is2.toArray[j]=v:=by simpa using(Ym.mp hv1).2
  rw[eu,ev]
  exact ZqL I (h j _ _ (Ye h1') (Ye h2')) X.A.in1 u v (by show X.A.units+1+2<cLine;omega) ru rv
end
noncomputable def EqQ (K:Frag) (H:Hp) (n:Nat) {α:Type} [DecidableEq α] (P:V->α->Prop):Prop:=∀x y a b,P x a->P y b->EqN K H n x y (decide (a=b))
theorem Ztv {K:Frag}{H:Hp}{n:Nat}:EqQ K H n IsI:=by
 rintro x y a b rfl rfl
 have:=EqN.flat (K:=K) (H:=H) (n:=n) (x:=.int a) (y:=.int b) rfl rfl
 have e:eqV (.int a) (.int b)=decide (a=b):=by simp[eqV,Bool.beq_eq_decide_eq]
 rw[<-e];exact this
theorem ZnZ {K:Frag}{H:Hp}{n:Nat}{α:Type} [DecidableEq α] {P:V->α->Prop} (h:EqQ K H n P):EqQ K H (n+1) (IsL K H P):=by
 rintro x y as bs ⟨a,xs,rfl,hx,lx,px⟩ ⟨b,ys,rfl,hy,ly,py⟩
 by_cases hl:as.length=bs.length
 ·rw[<-all_eq as bs hl,<-lx]
  refine .lst _ hx hy (by omega) λj x y h1 h2=>?_
  have j1:=(Ym.mp h1).1
  have j2:=(Ym.mp h2).1
  have ha:as[j]?=some as[j]:=Ye (by omega)
  have hb:bs[j]?=some bs[j]:=Ye (by omega)
  have:=h x y _ _ (px j _ _ h1 ha) (py j _ _ h2 hb)
  rw[ha,hb]
  simpa using this
 ·have e:decide (as=bs)=false:=by simp;intro z;exact hl (congrArg List.length z)
  rw[e]
  exact .len hx hy (by omega)
theorem Ztw {K:Frag}{H:Hp}{n:Nat}{α:Type} [DecidableEq α] {P:V->α->Prop} (h:EqQ K H n P):EqQ K H (n+1) (IsT K H P):=by
 rintro x y as bs ⟨a,xs,rfl,hx,lx,px⟩ ⟨b,ys,rfl,hy,ly,py⟩
 have key:=EqN.tup (K:=K) (H:=H) (n:=n) (λj=>decide (as[j]?=bs[j]?)) hx hy λj x y h1 h2=>by
  have j1:=(Ym.mp h1).1
  have j2:=(Ym.mp h2).1
  have ha:as[j]?=some as[j]:=Ye (by omega)
  have hb:bs[j]?=some bs[j]:=Ye (by omega)
  have:=h x y _ _ (px j _ _ h1 ha) (py j _ _ h2 hb)
  rw[ha,hb]
  simpa using this
 have e:((List.range (min xs.length ys.length)).all (λj=>decide (as[j]?=bs[j]?))&&xs.length==ys.length)=decide (as=bs):=by
  rw[lx,ly]
  by_cases hl:as.length=bs.length
  ·rw[<-hl,Nat.min_self,all_eq as bs hl];simp
  ·have e:decide (as=bs)=false:=by simp;intro z;exact hl (congrArg List.length z)
   rw[e]
   simp[hl]
 rw[e]at key
 exact key
section
variable {ky:Keyed->Int}
noncomputable def Srt (ky:Keyed->Int) (l:List Keyed):Prop:=l.Pairwise (λx y=>ky x<=ky y)
variable {a b out:List Keyed}{ia ib:Nat}
noncomputable def Gd (ky:Keyed->Int) (a b res:List Keyed):Prop:=res.Perm (a++b)/\Srt ky res
variable {prog:Program}{w:World}{A:Around}{E:Value->Shared->Prop}{s:Shared}{κ:SortKind}{P:Keyed->Prop}
end
section
variable {ky:Keyed->Int}
noncomputable def kp (ky:Keyed->Int) (a:Array Keyed) (i:Nat):Int:=ky (a.getD i (Value.none,Value.none))
theorem kp_at {a:Array Keyed}{i:Nat} (h:i<a.size):kp ky a i=ky a[i]:=by unfold kp;simp[Array.getD,h]
noncomputable def SoR (ky:Keyed->Int) (a:Array Keyed) (l r:Nat):Prop:=∀i j,l<=i->i<=j->j<r->kp ky a i<=kp ky a j
structure Chg (a a':Array Keyed) (l r:Nat):Prop where
 perm:a'.Perm a
 same:∀i,i<l\/r<=i->a'[i]?=a[i]?
variable {prog:Program}{w:World}{A:Around}{E:Value->Shared->Prop}{s:Shared}{κ:SortKind}{P:Keyed->Prop}
end
section
variable {ky:Keyed->Int}
variable {a a':Array Keyed}
theorem Zn0 (base:Nat):∀(m:List Keyed) (n:Nat) (a:Array Keyed),base+n+m.length<=a.size ->
  (List.foldl (λ(a:Array Keyed) (x:Keyed×Nat)=>a.setIfInBounds (base+x.2) x.1) a (m.zipIdx n)).toList=a.toList.take (base+n)++m++a.toList.drop (base+n+m.length)
 |[],n,a,h=>by simp
 |x::m,n,a,h=>by
  simp only[Yw]at h
  rw[List.zipIdx_cons,List.foldl_cons,Zn0 base m (n+1) _ (by simp;omega)]
  simp only[Array.toList_setIfInBounds,Yw]
  have e1:(a.toList.set (base+n) x).take (base+(n+1))=a.toList.take (base+n)++[x]:=by
   rw[<-Nat.add_assoc,Jb,List.take_set,List.getElem?_set]
   rw[List.set_eq_of_length_le (by simp;omega)]
   simp[show base+n<a.size by omega]
  have e2:(a.toList.set (base+n) x).drop (base+(n+1)+m.length)=a.toList.drop (base+n+(m.length+1)):=by
   rw[List.drop_set_of_lt (by omega)]
   congr 1;omega
  rw[e1,e2]
  simp
variable {prog:Program}{w:World}{A:Around}{E:Value->Shared->Prop}{s:Shared}{κ:SortKind}{P:Keyed->Prop}
theorem laid {base mid r:Nat}{res:Array Keyed} (h1:base<=mid) (h2:mid<=r) (h3:r<=a.size) (hg:Gd ky (a.extract base mid).toList (a.extract mid r).toList res.toList) :
  ∃a':Array Keyed,List.foldl (λ(a:Array Keyed) (x:Keyed×Nat)=>a.setIfInBounds (base+x.2) x.1) a res.toList.zipIdx=a'/\Chg a a' base r/\SoR ky a' base r/\∀j,base<=j->j<r->∃t,base<=t/\t<r/\kp ky a' j=kp ky a t:=by
 have hlen:res.toList.length=r-base:=by
  have:=hg.1.length_eq
  simp only[YT,Yp,Array.size_extract]at this⊢;omega
 have key:=Zn0 base res.toList 0 a (by omega)
 have hb:base+0+res.toList.length=r:=by omega
 rw[hb,Nat.add_zero]at key
 refine⟨_,rfl,⟨?_,?_⟩,?_,?_⟩
 ·rw[Array.perm_iff_toList_perm,key]
  have e:a.toList=a.toList.take base++((a.extract base mid).toList++(a.extract mid r).toList)++a.toList.drop r:=by
   simp only[Array.toList_extract,List.extract_eq_drop_take]
   have:(a.toList.drop base).take (mid-base)++(a.toList.drop mid).take (r-mid)=(a.toList.drop base).take (r-base):=by
    have e2:r-base=(mid-base)+(r-mid):=by omega
    rw[e2,List.take_add,List.drop_drop]
    congr 3;omega
   rw[this]
   have e3:a.toList.drop r=(a.toList.drop base).drop (r-base):=by rw[List.drop_drop];congr 1;omega
   rw[e3,Y3,Jg,Jg]
  conv=>rhs;rw[e]
  exact List.Perm.append_right _ (List.Perm.append_left _ hg.1)
 ·intro i hi
  rw[<-YQ,<-YQ,key]
  have hl0:(a.toList.take base).length=base:=by simp;omega
  rcases hi with hi|hi
  ·rw[Y3,Y2 (by omega),List.getElem?_take_of_lt hi]
  ·rw[YX (by simp;simp at hlen;omega),List.getElem?_drop]
   congr 1
   simp only[YT,hl0,hlen];omega
 all_goals
  have atm:∀j,(hj0:base<=j)->(hj:j<r)->kp ky (List.foldl (λ(a:Array Keyed) (x:Keyed×Nat)=>a.setIfInBounds (base+x.2) x.1) a res.toList.zipIdx) j=ky (res.toList[j-base]'(by omega)):=by
   intro j j1 j2
   have hl0:(a.toList.take base).length=base:=by simp;omega
   have:(List.foldl (λ(a:Array Keyed) (x:Keyed×Nat)=>a.setIfInBounds (base+x.2) x.1) a res.toList.zipIdx)[j]?=some (res.toList[j-base]'(by omega)):=by
    rw[<-YQ,key,Y3,YX (by omega),Y2 (by omega),hl0,Ye (by omega)]
   unfold kp
   rw[YK,this];rfl
 ·intro i j hi hij hj
  rw[atm i hi (by omega),atm j (by omega) hj]
  by_cases e:i=j
  ·subst e;exact Int.le_refl _
  ·exact List.pairwise_iff_getElem.mp hg.2 _ _ _ _ (by omega)
 ·intro j j1 j2
  rw[atm j j1 j2]
  have hm:(res.toList[j-base]'(by omega))∈(a.extract base mid).toList++(a.extract mid r).toList:=(List.Perm.mem_iff hg.1).mp (YL _)
  rcases YE.mp hm with hm|hm
  ·obtain⟨t,ht,e⟩:=List.mem_iff_getElem.mp hm
   simp only[Yp,Array.size_extract]at ht
   simp only[Array.getElem_toList,Array.getElem_extract]at e
   exact⟨base+t,by omega,by omega,by rw[kp_at (by omega),e,Array.getElem_toList]⟩
  ·obtain⟨t,ht,e⟩:=List.mem_iff_getElem.mp hm
   simp only[Yp,Array.size_extract]at ht
   simp only[Array.getElem_toList,Array.getElem_extract]at e
   exact⟨mid+t,by omega,by omega,by rw[kp_at (by omega),e,Array.getElem_toList]⟩
end
end L2
namespace L2
open PySem PySem.Spec PyProof.Rows
end L2
namespace L2
open PySem PySem.Spec PyProof.Rows PySem.W
noncomputable def Zel (H:Hp) (acc:List V) (rs:List (List Int)):Prop:=∃as:List Addr,acc=as.map V.ref/\as.length=rs.length/\∀i (h1:i<as.length) (h2:i<rs.length),H as[i]=some (.tup (rs[i].map V.int))
theorem Zel.nil {H:Hp}:Zel H [] []:=⟨[],rfl,rfl,λi h=>absurd h (by simp)⟩
theorem Zel.same {H H':Hp}{acc:List V}{rs:List (List Int)} (h:Zel H acc rs) (s:Ze H H'):Zel H' acc rs:=by
 obtain⟨as,e,l,k⟩:=h
 exact⟨as,e,l,λi h1 h2=>s _ _ (k i h1 h2)⟩
theorem Zel.snoc {H:Hp}{acc:List V}{rs:List (List Int)}{u:Addr}{r:List Int} (h:Zel H acc rs) (hu:H u=some (.tup (r.map V.int))):Zel H (acc++[V.ref u]) (rs++[r]):=by
 obtain⟨as,e,l,k⟩:=h
 refine⟨as++[u],by rw[e];simp,by simp[l],λi h1 h2=>?_⟩
 by_cases c:i<as.length
 ·rw[List.getElem_append_left c,List.getElem_append_left (by omega)];exact k i c (by omega)
 ·have:i=as.length:=by simp at h1;omega
  subst this
  rw[List.getElem_concat_length,List.getElem_append_right (by omega)]
  simpa[l]using hu
  rfl
theorem Zel.at {H:Hp}{acc:List V}{rs:List (List Int)}{l:Addr} (h:Zel H acc rs) (hl:H l=none):Zck (upd H l (.lst acc)) l rs:=by
 obtain⟨as,e,ln,k⟩:=h
 refine⟨as,by rw[Zc,e],ln,λi h1 h2=>?_⟩
 rw[Zf (λz=>by have:=k i h1 h2;rw[z,hl]at this;cases this)]
 exact k i h1 h2
end L2
namespace L2
open PySem PySem.Spec PyProof.Rows PySem.W PySem.Calls
end L2
namespace L2
open PySem PySem.Spec PyProof.Rows PySem.W
noncomputable def lxI:List Int->List Int->Bool
 |[],[]=>false
 |[],_::_=>true
 |_::_,[]=>false
 |x::xs,y::ys=>if x=y then lxI xs ys else decide (x<y)
theorem Zdz (x y:Int) (xs ys:List Int):lxI (x::xs) (y::ys)=if x=y then lxI xs ys else decide (x<y):=rfl
theorem Zn1:∀xs:List Int,lxI xs xs=false
 |[]=>rfl
 |x::xs=>by rw[Zdz,Yd rfl];exact Zn1 xs
theorem ZmY:∀{xs ys zs:List Int},lxI xs ys=true->lxI ys zs=true->lxI xs zs=true
 |[],[],zs,h,_=>by cases h
 |[],y::ys,[],_,h=>by cases h
 |[],y::ys,z::zs,_,_=>rfl
 |x::xs,[],zs,h,_=>by cases h
 |x::xs,y::ys,[],_,h=>by cases h
 |x::xs,y::ys,z::zs,h1,h2=>by
  rw[Zdz]at h1 h2⊢
  by_cases a:x=y
  ·by_cases b:y=z
   ·rw[Yd a]at h1;rw[Yd b]at h2;rw[Yd (a.trans b)];exact ZmY h1 h2
   ·rw[Yb b]at h2
    have:=Ja h2
    rw[Yb (by omega)];exact YO (by omega)
  ·rw[Yb a]at h1
   have:=Ja h1
   by_cases b:y=z
   ·rw[Yb (by omega)];exact YO (by omega)
   ·rw[Yb b]at h2
    have:=Ja h2
    rw[Yb (by omega)];exact YO (by omega)
theorem Zn2:∀{xs ys:List Int},lxI xs ys=false->lxI ys xs=false->xs=ys
 |[],[],_,_=>rfl
 |[],y::ys,h,_=>by cases h
 |x::xs,[],_,h=>by cases h
 |x::xs,y::ys,h1,h2=>by
  rw[Zdz]at h1 h2
  by_cases a:x=y
  ·rw[Yd a]at h1;rw[Yd a.symm]at h2;rw[a,Zn2 h1 h2]
  ·rw[Yb a]at h1;rw[Yb (Ne.symm a)]at h2
   have:=of_decide_eq_false h1;have:=of_decide_eq_false h2;omega
theorem ZkB {p q:Nat->Bool}:∀l:List Nat,(∀a∈l,p a=true->q a=true)->(l.filter p).length<=(l.filter q).length
 |[],_=>Yf _
 |a::l,h=>by
  have ih:=ZkB l λb hb=>h b (Yq _ hb)
  have ha:=h a Ys
  rw[List.filter_cons,List.filter_cons]
  cases e:p a
  ·cases q a<;>simp<;>omega
  ·rw[ha e];simp;omega
theorem Zn3 {p q:Nat->Bool}{b:Nat} (hp:p b=false) (hq:q b=true):∀l:List Nat,b∈l->(∀a∈l,p a=true->q a=true)->(l.filter p).length<(l.filter q).length
 |[],hb,_=>by cases hb
 |a::l,hb,h=>by
  have h':∀b∈l,p b=true->q b=true:=λb hb=>h b (Yq _ hb)
  have ha:=h a Ys
  rw[List.filter_cons,List.filter_cons]
  rcases Yg.mp hb with rfl|hb
  ·have:=ZkB l h'
   rw[hp,hq];simp;omega
  ·have ih:=Zn3 hp hq l hb h'
   cases e:p a
   ·cases q a<;>simp<;>omega
   ·rw[ha e];simp;omega
noncomputable def Zhe (rs:List (List Int)) (r:List Int):Int:=(((List.range rs.length).filter λj=>lxI (rs.getD j []) r).length:Nat)
theorem ZlA {rs:List (List Int)}{i j:Nat} (hi:i<rs.length) (hj:j<rs.length):decide (Zhe rs (rs.getD i [])<Zhe rs (rs.getD j []))=lxI (rs.getD i []) (rs.getD j []):=by
 unfold Zhe
 cases e:lxI (rs.getD i []) (rs.getD j [])
 ·refine YI λz=>?_
  have:=ZkB (p:=λa=>lxI (rs.getD a []) (rs.getD j [])) (q:=λa=>lxI (rs.getD a []) (rs.getD i [])) (List.range rs.length) λa _ h=>by
   cases e2:lxI (rs.getD j []) (rs.getD i [])
   ·rw[Zn2 e e2];exact h
   ·exact ZmY h e2
  omega
 ·refine YO ?_
  have:=Zn3 (p:=λa=>lxI (rs.getD a []) (rs.getD i [])) (q:=λa=>lxI (rs.getD a []) (rs.getD j [])) (b:=i) (Zn1 _) e (List.range rs.length) (Yy.mpr hi) λa _ h=>ZmY h e
  omega
section
variable {prog:Program}{w:World}{E:Value->Shared->Prop}{s:Shared}
noncomputable def PtW (h:Heap) (v:Value) (r:List Int):Prop:=∃a o n vs,v=.ref a/\h.get? a=some o/\o.cls=.type "tuple"/\o.data=.seq vs n/\IntsAre vs.toList r
theorem PtW.keep {h h':Heap}{v:Value}{r:List Int} (p:PtW h v r) (k:∀b o,h.get? b=some o->h'.get? b=some o):PtW h' v r:=by
 obtain⟨a,o,n,vs,e,g,q⟩:=p
 exact⟨a,o,n,vs,e,k _ _ g,q⟩
theorem ZlB {h:Heap}:∀{vs:List Value},(∀v∈vs,∃r,r≠[]/\PtW h v r)->∃fs,KatTups h vs fs/\fs.length=vs.length/\∀f∈fs,∃x t,f=Value.int x t
 |[],_=>⟨[],trivial,rfl,λf hf=>by cases hf⟩
 |v::vs,hv=>by
  obtain⟨fs,h1,h2,h3⟩:=ZlB (λu hu=>hv u (Yq _ hu))
  obtain⟨r,hr,a,o,n,us,rfl,e,c,d,hi⟩:=hv v Ys
  obtain⟨us⟩:=us
  cases hi with
  |nil=>exact absurd rfl hr
  |cons x t hi' =>
   refine⟨.int x t::fs,KatTups.cons e c d rfl h1,by simp[h2],λf hf=>?_⟩
   rcases Yg.mp hf with rfl|hf
   ·exact⟨x,t,rfl⟩
   ·exact h3 f hf
theorem ZmZ {A:Around}{vs:List Value}{Q:SortKind->Shared->Prop} (h2:2<=vs.length) (hv:∀v∈vs,∃r,r≠[]/\PtW s.heap v r) (h:Q (tuples' true) s):wpAny (model prog w) A (keyKind' vs.toArray) Q E s:=by
 obtain⟨fs,h1,hl,h3⟩:=ZlB hv
 refine kat_kind h1 (by omega) (T:=.type "int") (λf hf=>?_) (by decide) ?_
 ·obtain⟨x,t,rfl⟩:=h3 f hf
  exact .now
 ·rw[show(Value.type "int" != Value.type "tuple")=true by decide];exact h
theorem lexK {A:Around}{C:Bool->Shared->Prop}{fin:Bool}:∀{vs:List Value}{r:List Int}{vs':List Value}{r':List Int} (i:Nat),IntsAre vs r->IntsAre vs' r'->((vs.length<=vs'.length/\fin=decide (vs.length<vs'.length))\/(vs'.length<vs.length/\fin=false))->C (lxI r r') s->KatLex prog w A true fin C (vs.zip vs') i s
 |_,_,_,_,i,.nil,.nil,hf,h=>by
  rw[List.zip_nil_left]
  refine kat_nil ?_
  have:fin=false:=by rcases hf with⟨_,e⟩|⟨_,e⟩<;>simpa using e
  rw[this];exact h
 |_,_,_,_,i,.nil,.cons y t' _,hf,h=>by
  rw[List.zip_nil_left]
  refine kat_nil ?_
  have:fin=true:=by rcases hf with⟨_,e⟩|⟨z,e⟩<;>simp_all
  rw[this];exact h
 |_,_,_,_,i,.cons x t _,.nil,hf,h=>by
  rw[List.zip_nil_right]
  refine kat_nil ?_
  have:fin=false:=by rcases hf with⟨z,e⟩|⟨z,e⟩<;>simp_all
  rw[this];exact h
 |_,_,_,_,i,.cons x t hu,.cons y t' hu',hf,h=>by
  rw[List.zip_cons_cons]
  refine kat_cons (wpAny_eqBool_int ?_)
  rw[Zdz]at h
  by_cases e:x=y
  ·rw[show(x==y)=true from beq_iff_eq.mpr e]
   rw[Yd e]at h
   exact kat_yes (lexK (i+1) hu hu' (by simpa using hf) h)
  ·rw[show(x==y)=false from beq_eq_false_iff_ne.mpr e]
   rw[Yb e]at h
   refine kat_no ?_
   cases i with
   |zero=>exact oneLt_int h
   |succ i=>exact kat_one _ _ (PyProof.Rows.lt_int h)
theorem ZqM {A:Around}{v v':Value}{r r':List Int}{C:Bool->Shared->Prop} (p:PtW s.heap v r) (p':PtW s.heap v' r') (h:C (lxI r r') s):wpAny (model prog w) A (keyLt' (tuples' true) v v') C E s:=by
 obtain⟨a,o,n,vs,rfl,e,c,d,hi⟩:=p
 obtain⟨a',o',n',vs',rfl,e',c',d',hi'⟩:=p'
 refine kat_lt e d e' d' (lexK 0 hi hi' ?_ h)
 rw[Yp,Yp]
 by_cases z:vs.size<=vs'.size
 ·exact .inl ⟨z,rfl⟩
 ·exact .inr ⟨by omega,YI (by omega)⟩
end
theorem le1 {n:Nat}{us:List Value} (e:us.length=n+1):∃a t,us=a::t/\t.length=n:=by
 cases us with
 |nil=>cases e
 |cons a t=>exact⟨a,t,rfl,Nat.succ.inj e⟩
theorem le0 {us:List Value} (e:us.length=0):us=[]:=List.length_eq_zero_iff.mp e
noncomputable def chN:Nat->Nat->Nat
 |0,_=>1
 |_+1,0=>1
 |p+1,q+1=>chN p (q+1)+chN (p+1) q
noncomputable def ZlC (f:Nat->Int) (p:Nat):Nat:=((p:Int)-Zi5 f p-1).toNat
noncomputable def Zn4 (f:Nat->Int) (n p:Nat):Nat:=(Zi6 f n p-p-1).toNat
section
variable {ns T:List Int}
theorem Zfb (hT:Zx ns T) {p:Nat} (hp:p<ns.length):(ZlC (nth ns) p:Int)=p-Zi5 (nth ns) p-1/\(Zn4 (nth ns) ns.length p:Int)=Zi6 (nth ns) ns.length p-p-1/\ZlC (nth ns) p<=p/\p+Zn4 (nth ns) ns.length p<ns.length:=by
 unfold ZlC Zn4
 obtain⟨h1,h2⟩:=Zkp (hT.2 p hp)
 rcases h1 with h1|⟨q,h1⟩<;>rcases h2 with h2|⟨r,h2⟩
 ·rw[ZhH h1,Zgb h2];omega
 ·rw[ZhH h1,Zbh h2];have:=h2.1;have:=h2.2.1;omega
 ·rw[Zbg h1,Zgb h2];have:=h1.1;omega
 ·rw[Zbg h1,Zbh h2];have:=h1.1;have:=h2.1;have:=h2.2.1;omega
theorem ZlD (hT:Zx ns T) {q e:Nat} (hq:q<ns.length) (h:nth T q=e) (hl:q<e):e<ns.length/\Zi5 (nth ns) q=Zi5 (nth ns) e/\Zi6 (nth ns) ns.length q=e/\(∀s,q<s->s<e->nth ns q<=nth ns s)/\∀s:Nat,Zi5 (nth ns) e<s->s<q->nth ns q<nth ns s:=by
 have hE:=hT.2 q hq
 rw[show T.getD q 0=e from h]at hE
 rcases hE with⟨_,_,z⟩|⟨x,h1,_,z⟩|⟨r,h1,h2,z⟩|⟨x,r,h1,h2,z⟩
 ·omega
 ·have:=h1.1;omega
 ·obtain rfl:e=r:=by omega
  have hN:ZeB (nth ns) e:=λr' r1=>by
   have:=h2.2.2.1
   by_cases z1:r'<q
   ·have:=h1 r' z1;omega
   ·by_cases z2:r'=q
    ·subst z2;omega
    ·have:=h2.2.2.2 r' (by omega) r1;omega
  exact⟨h2.2.1,by rw[ZhH h1,ZhH hN],Zbh h2,h2.2.2.2,λs _ s2=>h1 s s2⟩
 ·by_cases c:nth ns x<=nth ns r
  ·rw[Yd c]at z
   obtain rfl:e=r:=by omega
   have hP:ZaK (nth ns) e x:=⟨by have:=h1.1;omega,c,λr' r1 r2=>by
    have:=h2.2.2.1
    by_cases z1:r'<q
    ·have:=h1.2.2 r' r1 z1;omega
    ·by_cases z2:r'=q
     ·subst z2;omega
     ·have:=h2.2.2.2 r' (by omega) r2;omega⟩
   refine⟨h2.2.1,by rw[Zbg h1,Zbg hP],Zbh h2,h2.2.2.2,λs s1 s2=>h1.2.2 s ?_ s2⟩
   rw[Zbg hP]at s1;omega
  ·rw[Yb c]at z
   have:=h1.1;omega
theorem ZjS (hT:Zx ns T) {q e:Nat} (hq:q<ns.length) (h:nth T q=e) (hl:e<q):Zi5 (nth ns) q=e/\Zi6 (nth ns) ns.length q=Zi6 (nth ns) ns.length e/\(∀s,e<s->s<q->nth ns q<nth ns s)/\∀s:Nat,q<s->s<Zi6 (nth ns) ns.length e->nth ns q<=nth ns s:=by
 have hE:=hT.2 q hq
 rw[show T.getD q 0=e from h]at hE
 rcases hE with⟨_,_,z⟩|⟨x,h1,h2,z⟩|⟨r,h1,h2,z⟩|⟨x,r,h1,h2,z⟩
 ·omega
 ·obtain rfl:e=x:=by omega
  have hN:ZcY (nth ns) ns.length e:=λr r1 r2=>by
   have:=h1.2.1
   by_cases z1:r<q
   ·have:=h1.2.2 r r1 z1;omega
   ·by_cases z2:r=q
    ·subst z2;omega
    ·have:=h2 r (by omega) r2;omega
  exact⟨Zbg h1,by rw[Zgb h2,Zgb hN],h1.2.2,λs s1 s2=>h2 s s1 (by rw[Zgb hN]at s2;omega)⟩
 ·have:=h2.1;omega
 ·by_cases c:nth ns x<=nth ns r
  ·rw[Yd c]at z
   have:=h2.1;omega
  ·rw[Yb c]at z
   obtain rfl:e=x:=by omega
   have hP:Zar (nth ns) ns.length e r:=⟨by have:=h2.1;omega,h2.2.1,by omega,λs s1 s2=>by
    have:=h1.2.1
    by_cases z1:s<q
    ·have:=h1.2.2 s s1 z1;omega
    ·by_cases z2:s=q
     ·subst z2;omega
     ·have:=h2.2.2.2 s (by omega) s2;omega⟩
   exact⟨Zbg h1,by rw[Zbh h2,Zbh hP],h1.2.2,λs s1 s2=>h2.2.2.2 s s1 (by rw[Zbh hP]at s2;omega)⟩
theorem ZqN (hT:Zx ns T) {q p e:Nat} (hq:q<ns.length) (hp:p<ns.length) (h:nth T q=e) (k:nth T p=e) (h1:q<e) (k1:p<e):q=p:=by
 obtain⟨he,a1,a2,a3,a4⟩:=ZlD hT hq h h1
 obtain⟨_,b1,b2,b3,b4⟩:=ZlD hT hp k k1
 have c1:=(Zfb hT hq)
 have c2:=(Zfb hT hp)
 rcases Nat.lt_trichotomy q p with z|z|z
 ·have x:=a3 p z k1
  have y:=b4 q (by rw[<-a1];omega) z
  omega
 ·exact z
 ·have x:=b3 q z h1
  have y:=a4 p (by rw[<-b1];omega) z
  omega
theorem ZoT (hT:Zx ns T) {q p e:Nat} (hq:q<ns.length) (hp:p<ns.length) (h:nth T q=e) (k:nth T p=e) (h1:e<q) (k1:e<p):q=p:=by
 obtain⟨a1,a2,a3,a4⟩:=ZjS hT hq h h1
 obtain⟨b1,b2,b3,b4⟩:=ZjS hT hp k k1
 have c1:=(Zfb hT hq)
 have c2:=(Zfb hT hp)
 rcases Nat.lt_trichotomy q p with z|z|z
 ·have x:=a4 p z (by rw[<-b2];omega)
  have y:=b3 q h1 z
  omega
 ·exact z
 ·have x:=b4 q z (by rw[<-a2];omega)
  have y:=a3 p k1 z
  omega
end
end L2
namespace L2
open PySem PySem.Spec PyProof.Rows PySem.W PyProof
theorem Zi7 (l:Addr) (items:Array Value) (n:Nat) (dd:Option Addr) (sl:Array (Option Value)) (x:Value) (e:Value->Bool) (j:Nat) (hj:j<items.size)
  (hit:e items[j]=true) (hno:∀m (hm:m<items.size),m<j->e items[m]=false) :
  Meets (Builtin.«tuple.index» ⟨[.ref l,x],[]⟩)
   (λA R s=>s.heap.get? l=some {cls:=.type "tuple",dict:=dd,data:=.seq items n,slots:=sl}/\(∀y,y∈items->SeqAt.EqAt A.in1 s y x (e y))/\R (.ok (.ret (.int j s.toks))) {s with toks:=s.toks+1}) :=
 .of_wp λprog w A R s h=>by
  obtain⟨hp,g,d,tk,os⟩:=s;obtain⟨hl,he,h⟩:=h
  unfold Builtin.«tuple.index»
  simp only[Std.Legacy.Range.forIn_eq_forIn_range',Std.Legacy.Range.size,Nat.sub_zero,Nat.add_sub_cancel,Nat.div_one]
  wp_walk using wpAny_loadPart' hl,wpAny_forIn_list _ (λrest b s'=>b.1=none/\s'=⟨hp,g,d,tk,os⟩/\∃i,rest=List.range' i (items.size-i)/\i<=j) _
  case turn =>
   rintro y rest b s' ⟨hb,rfl,i,hr,hi⟩
   have hlt:i<items.size:=by omega
   obtain⟨rfl,hrest⟩:y=i/\rest=List.range' (i+1) (items.size-(i+1)):=by
    have e:items.size-i=(items.size-(i+1))+1:=by omega
    rw[e,List.range'_succ]at hr
    injection hr with h1 h2
    exact⟨h1,h2⟩
   rw[Array.getElem?_eq_getElem hlt]
   refine Ya (he items[y] (Array.getElem_mem hlt) prog w _ _ ?_)
   by_cases c:y=j
   ·subst c
    rw[hit]
    wp_walk
    exact⟨_,rfl,h⟩
   ·rw[hno y hlt (by omega)]
    wp_walk
    exact⟨rfl,rfl,y+1,hrest,by omega⟩
  case fin =>
   rintro⟨b1,b2⟩ s' ⟨hb,rfl,i,hr,hi⟩
   have e:items.size-i=(items.size-(i+1))+1:=by omega
   rw[e,List.range'_succ]at hr
   cases hr
  case h =>
   exact⟨rfl,rfl,0,by simp,Yu _⟩
section
variable {X:Cx}
noncomputable def Zgf (K:Frag):V->List V->Hp->VK->Prop:=λx vs H Q=>∃(l:Addr) (ns:List Int) (k:Int),x=.ref l/\vs=[.int k]/\SqT K H l (ns.map V.int)/\k∈ns/\Q (.int (ns.idxOf k:Nat)) H
theorem Zfc {K:Frag} (hK:X.K=K):MtM X "tuple.index" (Zgf K):=by
 subst hK
 intro pins s σ H x vs v us Q I rx rv h
 obtain⟨l,ns,k,rfl,rfl,hH,hk,q⟩:=h
 cases rx
 obtain⟨u,rfl,ru⟩:=rv.one
 obtain⟨t,rfl⟩:=ru
 obtain⟨its,r,pl⟩:=I.tuple hH
 have hi:IntsAre its ns:=intsAre_of r
 have hlen:=r.length
 rw[Yj]at hlen
 obtain⟨⟨cls,dd,data,sl⟩,ho,hc,n,hd⟩:=pl.1
 simp only at hc hd
 subst hc hd
 have hj:ns.idxOf k<ns.length:=List.idxOf_lt_length_iff.mpr hk
 refine call_meets F.slot_tuple_index ⟨_,ho,rfl⟩ F.entry_tuple_index (F.args_tuple_index_2 _ _)
  (Zi7 l its.toArray n dd sl (.int k t) (isInt k) (ns.idxOf k) (by rw[Yr];omega) ?_ ?_) ⟨ho,λy hy=>(eq_isInt k t hi y (by simpa using hy)).at _ _,⟨.int _,H,I.tok _,⟨_,rfl⟩,q⟩⟩
 ·show isInt k its[ns.idxOf k]=true
  rw[isInt_at k hi _ (by omega) hj]
  simpa using List.getElem_idxOf hj
 ·intro j hjs hlt
  show isInt k its[j]=false
  rw[isInt_at k hi j (by simpa using hjs) (by omega)]
  exact ne_of_lt_idxOf hlt _
end
noncomputable def ZfE (H:Hp) (t:Addr) (ys:List V):Prop:=∃ob:Obj,ob.dict=none/\H t=some (.frz ob (.tup ys))
theorem ZfE.same {H H':Hp}{t:Addr}{ys:List V} (h:ZfE H t ys) (s:Ze H H'):ZfE H' t ys:=let ⟨ob,d,e⟩:=h;⟨ob,d,s _ _ e⟩
theorem ZfE.sq {K:Frag}{H:Hp}{t:Addr}{ys:List V} (h:ZfE H t ys):SqT K H t ys:=let ⟨ob,_,e⟩:=h;.inl (.inr ⟨ob,e⟩)
section
variable {X:Cx}
noncomputable def ZlE (K:Frag):List V->Hp->VK->Prop:=λxs H Q=>∃p ys,xs=[.ref p]/\SqL K H p ys/\∀l H',H l=none->Ze H H'->ZfE H' l ys->Q (.ref l) H'
theorem ZoU {K:Frag} (hK:X.K=K):Zcf X (.type "tuple") (ZlE K):=by
 subst hK
 intro pins s σ H xs us Q I r h
 obtain⟨p,ys,rfl,hq,q⟩:=h
 obtain⟨u,rfl,rx⟩:=vals1 r
 cases rx
 obtain⟨its,r',pl,hz⟩:=I.list hq
 have hlen:=r'.length
 refine call_tuple_list pl.isList (λh' kp=>?_) (by simp only[Yr]<;>omega)
 have I1:Inv X pins σ H {s with heap:=h'}:=I.kept (t':=s.toks) kp
 have hn:=I1.hok.fresh (Yf h'.objs.size)
 have I2:Inv X pins σ (upd H h'.objs.size (.frz {cls:=.type "tuple",data:=.seq its.toArray} (.tup ys))) {s with heap:=h'.push {cls:=.type "tuple",data:=.seq its.toArray}} :=
  I1.laid (t':=s.toks) (λb o e=>Yi _ e) (Yf _) (show ZI X.prog X.w _ _ _ (.frz _ (.tup ys))from⟨Yt _ rfl,hz,its,r',IsTup.new _ _⟩)
 exact⟨.ref h'.objs.size,_,I2,rfl,q _ _ hn ((Ze.refl H).upd hn) ⟨_,rfl,Zc⟩⟩
noncomputable def tBMH (r:V->List V->Hp->VK->Prop) (to:TE) (t:TA):TE:=fun σ H Q=>to σ H λx H1=>(∃p xs,x=.ref p/\ZfE H1 p xs)/\t σ H1 λxs H2=>r x xs H2 Q
variable {o e:Expr}{es:List Expr}{to:TE}{t:TA}{name:Str}{apos cpos:Pos}{id:String}{r:V->List V->Hp->VK->Prop}
theorem ZkC (slot:Slot "tuple" name id) (hty:typeOf (.builtin id)=pure (.type "method_descriptor")) (hm:MtM X id r) (ho:PE X o to) (ha:PA X (e::es) t)
  (hbase:attributeBase o name X.env (eval o X.env)=eval o X.env:=by rfl)
  (hfew:((backTo cpos (starEach (e::es) X.env)).all (λx=>!x.1)&&(backToKw cpos (keywordEach [] X.env)).all (λx=>x.1.isSome)
   && decide ((e::es).length+([]:List Keyword).length+(if ([]:List Keyword).isEmpty then 0 else 1)<30))=true:=by rfl)
  (hline:(apos.endLine==cpos.line)=true:=by rfl) (hs:starEach (e::es) X.env=(false,eval e X.env)::starEach es X.env:=by rfl) (hplain:(backTo cpos (starEach es X.env)).any (·.1)=false:=by rfl) :
  PE X (.Call (.Attribute o name apos) (e::es) [] cpos) (tBMH r to t):=by
 intro pins s σ H Q I h
 refine wpAny_Call_method_late hbase hfew hline rfl (thn (ho pins s σ H _ I h) λv s1 ⟨x,H1,I1,r1,⟨p,xs,ex,ob,hd,hp⟩,q1⟩=>?_)
 subst ex
 cases r1
 obtain⟨e1,_,its,_,ob2,e2,e3,_⟩:=(show ZI X.prog X.w H1 s1.heap p (.frz ob (.tup xs))from I1.hok p _ hp)
 rw[e1]at e2
 cases e2
 refine⟨"tuple",id,PySem.F.plainAttrs_tuple,slot,hty,⟨ob,e1,e3⟩,(λa z=>by cases z;exact⟨ob,e1,hd⟩),?_⟩
 have hA:=ha cpos pins s1 σ H1 _ I1 q1
 rw[hs]at hA⊢
 refine Calls.callWith_builtin (by show(false||(backTo cpos (starEach es X.env)).any (·.1))=false;rw[hplain]<;>rfl) (Calls.evalArgs_plain ?_)
 exact thn hA λus s2 ⟨vs,H2,I2,r2,q2⟩=>hm pins s2 σ H2 (.ref p) vs (.ref p) us Q I2 rfl r2 q2
end
theorem ZkD {K:Frag}{n:String}{C:Addr}{b:Bool} (h1:hasDictIn K C=true) (h2:typeIn K (.ref C)=some (.type "type")) (h3:subIn K (.type n) (.ref C)=some b):kitOne K (.type n) (.ref C)=some b:=by
 obtain⟨cd,hc,_⟩:=any_some h1
 unfold kitOne
 rw[Yb (by intro z;exact nomatch (beq_iff_eq.mp z))]
 unfold kitCls
 dsimp only
 rw[Yd (by rw[hc,h2];rfl)]
 exact h3
end L2
namespace L2
open PySem PySem.Spec PyProof.Rows PySem.W
end L2
namespace HT
open PySem PyProof.Rows
section
open PySem.SeqAt
open PySem.AutoSeq1 (wpAny_loadPart')
open PySem.MeetsSeq PySem.MeetsSeq2 PySem.MeetsSeq3
end
end HT
namespace L2
open PySem PySem.Spec PyProof.Rows PySem.W
end L2
namespace L2
open PySem PySem.Spec PyProof.Rows PySem.W PyProof
end L2
namespace PySem.SeqAt
open PySem Sem
open MeetsSeq PyProof.Rows
end PySem.SeqAt
namespace L2
open PySem PySem.Spec PyProof.Rows PySem.W
end L2
namespace ST
open PySem PySem.SetTable
noncomputable def Rise (xs:Array Nat):Prop:=xs.toList.Pairwise (· < ·)
theorem Za0 (xs:Array Nat) (i:Nat):xs.getD i 0=xs.toList.getD i 0:=by
 rw[Yn,YQ,YK]
theorem Rise.lt {xs:Array Nat} (h:Rise xs) {a b:Nat} (ab:a<b) (hb:b<xs.size):xs.getD a 0<xs.getD b 0:=by
 have hb':b<xs.toList.length:=by rw[Yp];exact hb
 rw[Za0,Za0,Yn,Yn,Ye (by omega:a<xs.toList.length),Ye hb']
 exact List.pairwise_iff_getElem.mp h a b (by omega) hb' ab
theorem Zic {xs:Array Nat}{j:Nat} (h:Rise xs):∀(f lo hi:Nat),hi-lo<=f->lo<=hi->hi<=xs.size->(∀i,i<lo->xs.getD i 0<j)->(∀i,hi<=i->i<xs.size->j<=xs.getD i 0) ->
  below.go xs j f lo hi<=xs.size/\(∀i,i<below.go xs j f lo hi->xs.getD i 0<j)/\(∀i,below.go xs j f lo hi<=i->i<xs.size->j<=xs.getD i 0)
 |0,lo,hi,a,b,c,d,e=>by
  have:lo=hi:=by omega
  subst this
  exact⟨c,d,e⟩
 |f+1,lo,hi,a,b,c,d,e=>by
  unfold below.go
  by_cases hlt:lo<hi
  ·rw[Yd hlt]
   dsimp only
   have eD:xs.getD ((lo+hi) / 2) j=xs.getD ((lo+hi) / 2) 0:=by
    rw[YK,YK,Array.getElem?_eq_getElem (by omega)];rfl
   rw[eD]
   by_cases hm:xs.getD ((lo+hi) / 2) 0<j
   ·rw[Yd hm]
    refine Zic h f _ _ (by omega) (by omega) c (λi hi'=>?_) e
    by_cases e1:i=(lo+hi) / 2
    ·rw[e1];exact hm
    ·exact Nat.lt_trans (h.lt (by omega:i<(lo+hi) / 2) (by omega)) hm
   ·rw[Yb hm]
    refine Zic h f _ _ (by omega) (by omega) (by omega) d λi h1 h2=>?_
    by_cases e1:i=(lo+hi) / 2
    ·rw[e1];omega
    ·have:=h.lt (by omega:(lo+hi) / 2<i) h2
     omega
  ·rw[Yb hlt]
   have:lo=hi:=by omega
   subst this
   exact⟨c,d,e⟩
theorem Zcm {xs:Array Nat} (h:Rise xs) (j:Nat):below xs j<=xs.size/\(∀i,i<below xs j->xs.getD i 0<j)/\(∀i,below xs j<=i->i<xs.size->j<=xs.getD i 0) :=
 Zic h xs.size 0 xs.size (by omega) (by omega) (Yf _) (λi hi=>by omega) λi h1 h2=>by omega
theorem gq {xs:Array Nat}{i:Nat} (h:i<xs.size):xs[i]?=some (xs.getD i 0):=by
 rw[YK,Array.getElem?_eq_getElem h];rfl
theorem Zm0 {xs:Array Nat} (h:Rise xs) {k:Nat} (hk:k<xs.size):below xs (xs.getD k 0+1)=k+1:=by
 obtain⟨a,b,c⟩:=Zcm h (xs.getD k 0+1)
 rcases Nat.lt_trichotomy (below xs (xs.getD k 0+1)) (k+1)with g|g|g
 ·have:=c k (by omega) hk;omega
 ·exact g
 ·have h1:=b (k+1) g
  have h2:=h.lt (by omega:k<k+1) (by omega)
  omega
theorem Zm1 {xs:Array Nat} (h:Rise xs):below xs 0=0:=by
 obtain⟨a,b,c⟩:=Zcm h 0
 rcases Nat.eq_zero_or_pos (below xs 0)with g|g
 ·exact g
 ·exact absurd (b 0 g) (Nat.not_lt_zero _)
theorem ZdA {t:SetTable} (hd:t.dummies=#[]) (h:Rise t.place) (j:Nat):(t.slot j=.empty/\j∉t.place.toList)\/(∃i,i<t.place.size/\t.place.getD i 0=j/\t.slot j=.live i):=by
 obtain⟨a,b,c⟩:=Zcm h j
 unfold slot
 dsimp only
 by_cases e:t.place[below t.place j]?==some j
 ·rw[Yd e]
  have e1:t.place[below t.place j]?=some j:=by simpa using e
  obtain⟨h1,h2⟩:=Array.getElem?_eq_some_iff.mp e1
  exact .inr ⟨_,h1,by rw[YK,e1];rfl,rfl⟩
 ·rw[Yb e,hd]
  refine .inl ⟨by simp[has,below],λhm=>e ?_⟩
  obtain⟨i,hi,e1⟩:=YY hm
  rw[Yp]at hi
  have e2:t.place.getD i 0=j:=by rw[YK,Array.getElem?_eq_getElem hi];simpa using e1
  have:below t.place j=i:=by
   rcases Nat.lt_trichotomy (below t.place j) i with g|g|g
   ·have h1:=c _ (Yf _) (by omega)
    have h2:=h.lt g hi
    omega
   ·exact g
   ·have:=b i g;omega
  rw[this,gq hi,e2];simp
theorem ZlF {xs:Array Nat} (h:Rise xs) {j:Nat} (hj:j∉xs.toList):Rise (insertAt xs (below xs j) j)/\(insertAt xs (below xs j) j).toList.Perm (j::xs.toList):=by
 obtain⟨a,b,c⟩:=Zcm h j
 have e:(insertAt xs (below xs j) j).toList=xs.toList.take (below xs j)++j::xs.toList.drop (below xs j):=by
  rw[SetTable.toList_insertAt]
 have p:(xs.toList.take (below xs j)++j::xs.toList.drop (below xs j)).Perm (j::xs.toList):=by
  refine List.perm_middle.trans ?_
  rw[Jg]
 refine⟨?_,e▸p⟩
 unfold Rise
 rw[e,List.pairwise_append]
 have hl:xs.toList.length=xs.size:=Yp
 have lo:∀x∈xs.toList.take (below xs j),x<j:=λx hx=>by
  obtain⟨i,hi,e1⟩:=YY hx
  rw[YZ]at hi
  rw[List.getElem_take]at e1
  have:=b i (by omega)
  rw[Za0,Yn,Ye (by omega)]at this
  rw[<-e1];exact this
 have hi:∀x∈xs.toList.drop (below xs j),j<x:=λx hx=>by
  have hm:x∈xs.toList:=List.mem_of_mem_drop hx
  obtain⟨i,hi,e1⟩:=YY hx
  rw[Je]at hi
  rw[List.getElem_drop]at e1
  have:=c (below xs j+i) (by omega) (by omega)
  rw[Za0,Yn,Ye (by omega)]at this
  have h2:j<=x:=by rw[<-e1];exact this
  have h3:x≠j:=λz=>hj (z▸hm)
  omega
 refine⟨(List.Pairwise.sublist (List.take_sublist _ _) h),Jd.mpr ⟨hi,List.Pairwise.sublist (List.drop_sublist _ _) h⟩,λx hx y hy=>?_⟩
 rcases Yg.mp hy with rfl|hy
 ·exact lo x hx
 ·exact Nat.lt_trans (lo x hx) (hi y hy)
noncomputable def step (N i:Nat):Nat:=(i*5+1) % N
noncomputable def orb (N:Nat):Nat->Nat->Nat
 |0,i=>i
 |k+1,i=>orb N k (step N i)
theorem ZhL (N:Nat):∀a b i,orb N (a+b) i=orb N b (orb N a i)
 |0,b,i=>by rw[Nat.zero_add];rfl
 |a+1,b,i=>by rw[show a+1+b=(a+b)+1 by omega];exact ZhL N a b _
noncomputable def mk (N:Nat):Nat->Nat->Nat->Nat×Nat
 |0,m,i=>(m,i)
 |k+1,m,i=>mk N k (m ||| 1 <<< i) (step N i)
theorem Zn5 (N:Nat):∀k m i,(mk N k m i).2=orb N k i/\∀j,(mk N k m i).1.testBit j=true->m.testBit j=true\/∃a,a<k/\orb N a i=j
 |0,m,i=>⟨rfl,λj h=>.inl h⟩
 |k+1,m,i=>by
  obtain⟨h1,h2⟩:=Zn5 N k (m ||| 1 <<< i) (step N i)
  refine⟨h1,λj h=>?_⟩
  rcases h2 j h with g|⟨a,ha,e⟩
  ·rw[Nat.testBit_or,Bool.or_eq_true]at g
   rcases g with g|g
   ·exact .inl g
   ·rw[Nat.one_shiftLeft,Nat.testBit_two_pow]at g
    exact .inr ⟨0,by omega,by show i=j;simpa using g⟩
  ·exact .inr ⟨a+1,by omega,e⟩
noncomputable def whole (N:Nat):Prop:=mk N N 0 0=(2 ^ N-1,0)
theorem ZoV {N:Nat} (h:whole N) {i j:Nat} (hi:i<N) (hj:j<N):∃m,m<N/\orb N m i=j:=by
 obtain⟨h1,h2⟩:=Zn5 N N 0 0
 have hw:mk N N 0 0=(2 ^ N-1,0):=h
 rw[hw]at h1 h2
 have all:∀x,x<N->∃a,a<N/\orb N a 0=x:=λx hx=>by
  rcases h2 x (by dsimp only;rw[Nat.testBit_two_pow_sub_one];simpa using hx)with g|g
  ·rw[Nat.zero_testBit]at g;cases g
  ·exact g
 obtain⟨a,ha,ea⟩:=all i hi
 obtain⟨b,hb,eb⟩:=all j hj
 by_cases hab:a<=b
 ·refine⟨b-a,by omega,?_⟩
  rw[<-ea,<-ZhL,show a+(b-a)=b by omega,eb]
 ·refine⟨(N-a)+b,by omega,?_⟩
  rw[<-ea,<-ZhL,show a+(N-a+b)=N+b by omega,ZhL,<-h1]
  exact eb
noncomputable def Mask (m:Nat):Prop:=m=7\/m=31\/m=127\/m=511\/m=2047
theorem Mask.whole {m:Nat} (h:Mask m):whole (m+1):=by
 unfold ST.whole
 rcases h with rfl|rfl|rfl|rfl|rfl<;>decide +kernel
noncomputable def Zcn (m:Nat):Nat->Nat×Nat->Nat×Nat
 |0,p=>p
 |k+1,p=>Zcn m k (leap m p.1 p.2)
theorem ZjT (m:Nat):∀a b p,Zcn m (a+b) p=Zcn m b (Zcn m a p)
 |0,b,p=>by rw[Nat.zero_add];rfl
 |a+1,b,p=>by rw[show a+1+b=(a+b)+1 by omega];exact ZjT m a b _
theorem ZeE (m:Nat):∀k p,p.1<=m->(Zcn m k p).1<=m
 |0,p,h=>h
 |k+1,p,h=>ZeE m k _ (by unfold leap;exact Nat.lt_succ_iff.mp (Nat.mod_lt _ (Nat.succ_pos m)))
theorem Zid (m:Nat):∀k p,(Zcn m k p).2=p.2 / 32 ^ k
 |0,p=>by rw[Nat.pow_zero,Nat.div_one];rfl
 |k+1,p=>by
  show(Zcn m k (leap m p.1 p.2)).2=_
  rw[Zid m k]
  show p.2 / 32 / 32 ^ k=_
  rw[Nat.div_div_eq_div_mul,Nat.pow_succ,Nat.mul_comm]
theorem ZjU (m:Nat):∀k i,(Zcn m k (i,0)).1=orb (m+1) k i
 |0,i=>rfl
 |k+1,i=>by
  have:leap m i 0=(step (m+1) i,0):=by unfold leap step;simp
  show(Zcn m k (leap m i 0)).1=_
  rw[this]
  exact ZjU m k _
theorem ZlG {m:Nat} (h:Mask m) {i q j:Nat} (hi:i<=m) (hq:q<2 ^ 64) (hj:j<=m):∃k,k<=m+13/\(Zcn m k (i,q)).1=j:=by
 have h1:=ZeE m 13 (i,q) hi
 have h2:(Zcn m 13 (i,q)).2=0:=by
  rw[Zid]
  exact Nat.div_eq_of_lt (Nat.lt_trans hq (by decide))
 obtain⟨a,ha,e⟩:=ZoV h.whole (Nat.lt_succ_of_le h1) (Nat.lt_succ_of_le hj)
 refine⟨13+a,by omega,?_⟩
 rw[ZjT]
 have:Zcn m 13 (i,q)=((Zcn m 13 (i,q)).1,0):=Prod.ext rfl h2
 rw[this,ZjU,e]
theorem Zn6 (h:Int):bits h<2 ^ 64:=by unfold bits;omega
theorem ZgT {m i:Nat} (h:i<=m):runEnd m i<=m/\i<=runEnd m i/\runEnd m i<=i+9:=by unfold runEnd;split<;>omega
inductive Reach (t:SetTable):Nat->Probe->Prop
 |here {n:Nat}{p:Probe}:p.dummy=none->p.j<=t.mask->t.slot p.j=.empty->Reach t n p
 |on {n:Nat}{p:Probe}:p.dummy=none->p.j<=t.mask->Reach t n (t.advance p)->Reach t (n+1) p
theorem Reach.mono {t:SetTable}{n m:Nat}{p:Probe} (h:Reach t n p) (k:n<=m):Reach t m p:=by
 induction h generalizing m with
 |here a b c=>exact .here a b c
 |on a b c ih =>
  obtain⟨m,rfl⟩:∃m',m=m'+1:=⟨m-1,by omega⟩
  exact .on a b (ih (by omega))
noncomputable def lead (t:SetTable) (p:Nat×Nat):Probe:={j:=p.1,more:=runEnd t.mask p.1-p.1,i:=p.1,perturb:=p.2,dummy:=none}
theorem ZjV {t:SetTable}:∀(more:Nat) (p:Probe) (n:Nat),p.more=more->p.dummy=none->p.j+p.more<=t.mask->Reach t n (lead t (leap t.mask p.i p.perturb))->Reach t (n+more+1) p
 |0,p,n,e,hd,hj,h=>by
  refine .on hd (by omega) ?_
  have:t.advance p=lead t (leap t.mask p.i p.perturb):=by
   unfold advance lead
   rw[Yb (by omega),hd]
  rw[this]
  exact h
 |k+1,p,n,e,hd,hj,h=>by
  refine .on hd (by omega) ?_
  have:t.advance p={p with j:=p.j+1,more:=p.more-1}:=by
   unfold advance
   rw[Yd (by omega)]
  rw[this]
  exact ZjV k _ n (by dsimp only;omega) hd (by dsimp only;omega) h
theorem Zhf {t:SetTable}{j:Nat} (hj:t.slot j=.empty):∀(k:Nat) (p:Nat×Nat),p.1<=t.mask->(Zcn t.mask k p).1=j->Reach t (10*k) (lead t p)
 |0,p,hp,e=>.here rfl hp (by show t.slot p.1=_;rw[show p.1=j from e];exact hj)
 |k+1,p,hp,e=>by
  obtain⟨h1,h2,h3⟩:=ZgT hp
  have hl:(leap t.mask p.1 p.2).1<=t.mask:=ZeE t.mask 1 p hp
  refine(ZjV (lead t p).more (lead t p) (10*k) rfl rfl ?_ (Zhf hj k _ hl e)).mono ?_
  ·show p.1+(runEnd t.mask p.1-p.1)<=_;omega
  ·show 10*k+(runEnd t.mask p.1-p.1)+1<=_;omega
theorem ZlH {t:SetTable} (hm:Mask t.mask) {j:Nat} (hj:t.slot j=.empty) (jm:j<=t.mask) (h:Int):∃n,n<10*turns t.mask/\Reach t n (t.probeStart h):=by
 obtain⟨k,hk,e⟩:=ZlG hm (i:=bits h % (t.mask+1)) (q:=bits h) (Nat.lt_succ_iff.mp (Nat.mod_lt _ (Nat.succ_pos _))) (Zn6 h) jm
 refine⟨10*k,by unfold turns;omega,?_⟩
 exact Zhf hj k (bits h % (t.mask+1),bits h) (Nat.lt_succ_iff.mp (Nat.mod_lt _ (Nat.succ_pos _))) e
structure Ok (t:SetTable) (n:Nat):Prop where
 mask:Mask t.mask
 size:t.place.size=n
 no:t.dummies=#[]
 rise:Rise t.place
 within:∀x∈t.place.toList,x<=t.mask
 room:n*5<t.mask*3
theorem ZlI:∀{a b:List Nat},a.Nodup->(∀x∈a,x∈b)->a.length<=b.length
 |[],b,_,_=>Yu _
 |x::a,b,hn,hs=>by
  obtain⟨h1,h2⟩:=List.nodup_cons.mp hn
  have hx:=hs x (.head _)
  have h3:=ZlI h2 (b:=b.erase x) λy hy=>(List.mem_erase_of_ne (λe:y=x=>h1 (e▸hy))).mpr (hs y (.tail _ hy))
  have h4:=List.length_erase_of_mem hx
  have h5:=List.length_pos_of_mem hx
  rw[Yw];omega
theorem ZlJ:∀(m:Nat) (l:List Nat),l.Nodup->(∀x∈l,x<=m)->l.length<=m->∃j,j<=m/\j∉l:=λm l hn hl hlen=>by
 by_cases h:∃j,j<=m/\j∉l
 ·exact h
 ·have hs:∀x∈List.range (m+1),x∈l:=λx hx=>by
   by_cases hx':x∈l
   ·exact hx'
   ·exact absurd ⟨x,Nat.lt_succ_iff.mp (Yy.mp hx),hx'⟩ h
  have:=ZlI List.nodup_range hs
  rw[Y9]at this
  omega
theorem Rise.nodup {xs:Array Nat} (h:Rise xs):xs.toList.Nodup:=List.Pairwise.imp (λh=>Yk h) h
theorem Ok.free {t:SetTable}{n:Nat} (h:Ok t n):∃j,j<=t.mask/\t.slot j=.empty:=by
 have hz:=h.size
 have hr:=h.room
 obtain⟨j,hj,hn⟩:=ZlJ t.mask t.place.toList h.rise.nodup h.within (by rw[Yp];omega)
 rcases ZdA h.no h.rise j with⟨e,_⟩|⟨i,hi,e1,e⟩
 ·exact⟨j,hj,e⟩
 ·refine absurd ?_ hn
  rw[<-e1,Za0,Yn,Ye (by rw[Yp];exact hi)]
  exact YL _
theorem Ok.start {t:SetTable}{n:Nat} (h:Ok t n) (k:Int):∃m,m<10*turns t.mask/\Reach t m (t.probeStart k):=by
 obtain⟨j,hj,e⟩:=h.free
 exact ZlH h.mask e hj k
inductive Front (m:Nat) (occ:Nat->Prop) (j:Nat):Probe->Prop
 |fin {p:Probe}:p.j=j->Front m occ j p
 |on {p:Probe}{t:SetTable}:t.mask=m->occ p.j->Front m occ j (t.advance p)->Front m occ j p
theorem ZqO {t t':SetTable} (h:t.mask=t'.mask) (p:Probe):t.advance p=t'.advance p:=by unfold advance;rw[h]
theorem Front.mono {m:Nat}{occ occ':Nat->Prop}{j:Nat}{p:Probe} (h:Front m occ j p) (k:∀x,occ x->occ' x):Front m occ' j p:=by
 induction h with
 |fin e=>exact .fin e
 |on a b c ih=>exact .on a (k _ b) ih
noncomputable def ZbU (t:SetTable) (x:Nat):Prop:=x∈t.place.toList
theorem ZqP {t:SetTable} (hd:t.dummies=#[]) (h:Rise t.place) {j i:Nat} (e:t.slot j=.live i):ZbU t j/\i<t.place.size/\t.place.getD i 0=j:=by
 rcases ZdA hd h j with⟨z,_⟩|⟨i',hi,e1,z⟩
 ·rw[e]at z;cases z
 ·rw[e]at z;cases z
  refine⟨?_,hi,e1⟩
  unfold ZbU
  rw[<-e1,Za0,Yn,Ye (by rw[Yp];exact hi)]
  exact YL _
theorem Zie {t:SetTable} (hd:t.dummies=#[]) (h:Rise t.place) {j:Nat} (e:t.slot j=.empty):¬ ZbU t j:=by
 rcases ZdA hd h j with⟨_,z⟩|⟨i',hi,e1,z⟩
 ·exact z
 ·rw[e]at z;cases z
theorem ZoW {t:SetTable} (hd:t.dummies=#[]) (hr:Rise t.place) (ha:Nat->Int) (h:Int) {n:Nat}{p:Probe} (R:Reach t n p):∀f,n<f ->
  (∃j,probe.go t ha h f p=some (.empty j none)/\j<=t.mask/\t.slot j=.empty/\Front t.mask (ZbU t) j p/\∀i,i<t.place.size->ha i=h->¬ Front t.mask (ZbU t) (t.place.getD i 0) p) \/
  (∃j i next m,probe.go t ha h f p=some (.candidate j i next)/\i<t.place.size/\t.slot j=.live i/\ha i=h/\m<n/\Reach t m next/\(∀j',Front t.mask (ZbU t) j' next->Front t.mask (ZbU t) j' p) /\
   ∀i',i'<t.place.size->ha i'=h->i'≠i->Front t.mask (ZbU t) (t.place.getD i' 0) p->Front t.mask (ZbU t) (t.place.getD i' 0) next):=by
 have occ_at:∀i,i<t.place.size->ZbU t (t.place.getD i 0):=λi hi=>by
  unfold ZbU
  rw[Za0,Yn,Ye (by rw[Yp];exact hi)]
  exact YL _
 have same:∀i i',i<t.place.size->i'<t.place.size->t.place.getD i 0=t.place.getD i' 0->i=i':=λi i' hi hi' e=>by
  rcases Nat.lt_trichotomy i i' with g|g|g
  ·have:=hr.lt g hi';omega
  ·exact g
  ·have:=hr.lt g hi;omega
 induction R with
 |@here n p a b c =>
  intro f hf
  obtain⟨f,rfl⟩:∃g,f=g+1:=⟨f-1,by omega⟩
  refine .inl ⟨p.j,?_,b,c,.fin rfl,λi hi _ F=>?_⟩
  ·unfold probe.go
   rw[c,a]
  ·cases F with
   |fin e=>exact Zie hd hr c (e▸occ_at i hi)
   |on _ o _=>exact Zie hd hr c o
 |@on n p a b c ih =>
  intro f hf
  obtain⟨f,rfl⟩:∃g,f=g+1:=⟨f-1,by omega⟩
  unfold probe.go
  rcases ZdA hd hr p.j with⟨e,hn⟩|⟨i,hi,e1,e⟩
  ·rw[e]
   refine .inl ⟨p.j,by rw[a],b,e,.fin rfl,λi hi _ F=>?_⟩
   cases F with
   |fin z=>exact hn (by have:=occ_at i hi;rw[<-z]at this;exact this)
   |on _ o _=>exact hn o
  ·rw[e]
   dsimp only
   have ho:=(ZqP hd hr e).1
   have step:∀i',i'<t.place.size->i'≠i->Front t.mask (ZbU t) (t.place.getD i' 0) p->Front t.mask (ZbU t) (t.place.getD i' 0) (t.advance p):=λi' hi' ne F=>by
    cases F with
    |fin z=>exact absurd (same i' i hi' hi (z.symm.trans e1.symm)) ne
    |on hm _ F=>rw[ZqO hm.symm];exact F
   by_cases he:(ha i==h)=true
   ·rw[Yd he]
    exact .inr ⟨p.j,i,_,n,rfl,hi,e,by simpa using he,by omega,c,λj' F=>.on rfl ho F,λi' hi' _ ne F=>step i' hi' ne F⟩
   ·rw[Yb he]
    have ne:∀i',ha i'=h->i'≠i:=λi' e z=>he (by rw[<-z];simpa using e)
    rcases ih f (by omega)with⟨j,g1,g2,g3,g4,g5⟩|⟨j,i2,next,m,g1,g2,g3,g4,g5,g6,g7,g8⟩
    ·exact .inl ⟨j,g1,g2,g3,.on rfl ho g4,λi' hi' hh F=>g5 i' hi' hh (step i' hi' (ne i' hh) F)⟩
    ·exact .inr ⟨j,i2,next,m,g1,g2,g3,g4,by omega,g6,λj' F=>.on rfl ho (g7 j' F),λi' hi' hh ne2 F=>g8 i' hi' hh ne2 (step i' hi' (ne i' hh) F)⟩
noncomputable def ZlK (o:Array (Option Nat)) (x:Nat):Prop:=∃k,o.getD x none=some k
theorem Zn7 {o:Array (Option Nat)}{x:Nat} (hx:x<o.size) (h:o.getD x (some 0)≠none):ZlK o x:=by
 rw[YK,Array.getElem?_eq_getElem hx]at h
 unfold ZlK
 rw[YK,Array.getElem?_eq_getElem hx]
 exact Option.ne_none_iff_exists'.mp h
theorem ZjW {m:Nat}{occ:Nat->Prop}{t:SetTable} (ht:t.mask=m):∀(k:Nat) (p:Probe),p.dummy=none->k<=p.more->(∀k',k'<k->occ (p.j+k'))->Front m occ (p.j+k) p
 |0,p,hd,hk,ho=>.fin rfl
 |k+1,p,hd,hk,ho=>by
  refine .on ht (ho 0 (by omega)) ?_
  have:t.advance p={p with j:=p.j+1,more:=p.more-1}:=by
   unfold advance
   rw[Yd (by omega)]
  rw[this,show p.j+(k+1)=p.j+1+k by omega]
  exact ZjW ht k {p with j:=p.j+1,more:=p.more-1} hd (by show k<=p.more-1;omega) λk' hk'=>by
   show occ (p.j+1+k')
   have:=ho (k'+1) (by omega)
   rwa [show p.j+(k'+1)=p.j+1+k' by omega]at this
theorem Zif {m:Nat}{occ:Nat->Prop}{t:SetTable}{j:Nat} (ht:t.mask=m):∀(k:Nat) (p:Probe),p.more=k->p.dummy=none->(∀k',k'<=k->occ (p.j+k'))->Front m occ j (lead t (leap t.mask p.i p.perturb))->Front m occ j p
 |0,p,hk,hd,ho,F=>by
  refine .on ht (ho 0 (Yf _)) ?_
  have:t.advance p=lead t (leap t.mask p.i p.perturb):=by
   unfold advance lead
   rw[Yb (by omega),hd]
  rw[this];exact F
 |k+1,p,hk,hd,ho,F=>by
  refine .on ht (ho 0 (Yu _)) ?_
  have:t.advance p={p with j:=p.j+1,more:=p.more-1}:=by
   unfold advance
   rw[Yd (by omega)]
  rw[this]
  refine Zif ht k _ (by show p.more-1=k;omega) hd (λk' hk'=>?_) F
  show occ (p.j+1+k')
  have:=ho (k'+1) (by omega)
  rwa [show p.j+(k'+1)=p.j+1+k' by omega]at this
theorem Zig {o:Array (Option Nat)}{m:Nat}{t:SetTable} (ht:t.mask=m) (hs:o.size=m+1):∀(f:Nat) (p:Nat×Nat) (j:Nat),p.1<=m->layClean.free m o f p.1 p.2=some j->Front m (ZlK o) j (lead t p)
 |0,p,j,hp,e=>by unfold layClean.free at e;cases e
 |f+1,p,j,hp,e=>by
  unfold layClean.free at e
  obtain⟨h1,h2,h3⟩:=ZgT hp
  have em:(lead t p).more=runEnd m p.1-p.1:=by unfold lead;rw[ht]
  cases hx:(List.range (runEnd m p.1+1-p.1)).find? (λk=>(o.getD (p.1+k) (some 0)).isNone)with
  |some k =>
   rw[hx]at e
   have e:p.1+k=j:=YA e
   subst e
   obtain⟨hk,as,bs,hl,hno⟩:=List.find?_eq_some_iff_append.mp hx
   have hk2:k<runEnd m p.1+1-p.1:=Yy.mp (by rw[hl];simp)
   refine ZjW (p:=lead t p) ht k rfl (by rw[em];omega) λk' hk'=>?_
   have hmem:k'∈as:=by
    have hpw:(as++k::bs).Pairwise (· < ·):=by rw[<-hl];exact List.pairwise_lt_range
    have h4:k'∈as++k::bs:=by rw[<-hl];exact Yy.mpr (by omega)
    rcases YE.mp h4 with h5|h5
    ·exact h5
    ·rcases Yg.mp h5 with h6|h6
     ·omega
     ·have:=List.rel_of_pairwise_cons (List.pairwise_append.mp hpw).2.1 h6
      omega
   have:=hno k' hmem
   refine Zn7 (show p.1+k' < _ by omega) ?_
   intro z
   rw[show o.getD ((lead t p).j+k') (some 0)=o.getD (p.1+k') (some 0)from rfl]at z
   rw[z]at this
   exact absurd this (by decide)
  |none =>
   rw[hx]at e
   have e:layClean.free m o f (leap m p.1 p.2).1 (leap m p.1 p.2).2=some j:=e
   have ih:=Zig ht hs f (leap m p.1 p.2) j (ZeE m 1 p hp) e
   refine Zif ht (lead t p).more (lead t p) rfl rfl (λk' hk'=>?_) (by rw[ht];exact ih)
   rw[em]at hk'
   have:=List.find?_eq_none.mp hx k' (Yy.mpr (by omega))
   refine Zn7 (show p.1+k' < _ by omega) ?_
   intro z
   rw[show o.getD ((lead t p).j+k') (some 0)=o.getD (p.1+k') (some 0)from rfl]at z
   rw[z]at this
   exact this rfl
end ST
namespace ST
open PySem PySem.SetTable
noncomputable def vals (o:Array (Option Nat)):List Nat:=o.toList.filterMap id
theorem ZlL:∀(l:List (Option Nat)) (j k:Nat),j<l.length->l.getD j (some 0)=none->((l.set j (some k)).filterMap id).Perm (k::l.filterMap id)
 |[],j,k,h,_=>absurd h (Nat.not_lt_zero _)
 |x::l,0,k,h,e=>by
  have e:x=none:=e
  subst e
  exact List.Perm.refl _
 |x::l,j+1,k,h,e=>by
  have ih:=ZlL l j k (by simpa using h) e
  cases x with
  |none=>exact ih
  |some y=>exact(List.Perm.cons y ih).trans (List.Perm.swap k y _)
theorem ZoX (o:Array (Option Nat)) (m:Nat):∀(k f:Nat) (p:Nat×Nat),p.1<=m->k<f->o.getD (Zcn m k p).1 (some 0)=none->∃j,layClean.free m o f p.1 p.2=some j/\o.getD j (some 0)=none:=λk=>by
 induction k with
 |zero =>
  intro f p hp hf e
  obtain⟨f,rfl⟩:∃g,f=g+1:=⟨f-1,by omega⟩
  have e:o.getD p.1 (some 0)=none:=e
  unfold layClean.free
  cases hx:(List.range (runEnd m p.1+1-p.1)).find? (λk=>(o.getD (p.1+k) (some 0)).isNone)with
  |some k=>exact⟨_,rfl,by have:=List.find?_some hx;simpa using this⟩
  |none =>
   have:=List.find?_eq_none.mp hx 0 (by obtain⟨a,b,c⟩:=ZgT hp;simp;omega)
   rw[Nat.add_zero,e]at this
   exact absurd rfl this
 |succ k ih =>
  intro f p hp hf e
  obtain⟨f,rfl⟩:∃g,f=g+1:=⟨f-1,by omega⟩
  unfold layClean.free
  cases hx:(List.range (runEnd m p.1+1-p.1)).find? (λk=>(o.getD (p.1+k) (some 0)).isNone)with
  |some k=>exact⟨_,rfl,by have:=List.find?_some hx;simpa using this⟩
  |none =>
   exact ih f (leap m p.1 p.2) (ZeE m 1 p hp) (by omega) e
theorem Ztx {o:Array (Option Nat)}{m:Nat} (hm:Mask m) (hs:o.size=m+1) (hv:(vals o).length<=m) (h:Int):∃j,layClean.free m o (turns m) (bits h % (m+1)) (bits h)=some j/\j<=m/\o.getD j (some 0)=none:=by
 have:∃j,j<=m/\o.getD j (some 0)=none:=by
  by_cases hx:∃j,j<=m/\o.getD j (some 0)=none
  ·exact hx
  ·have all:∀x∈o.toList,(id x).isSome=true:=λx hx'=>by
    obtain⟨j,hj,e⟩:=YY hx'
    rw[Yp]at hj
    cases x with
    |some y=>rfl
    |none=>exact absurd ⟨j,by omega,by rw[YK,<-YQ,Ye (by rw[Yp];exact hj),e];rfl⟩ hx
   have:(vals o).length=o.toList.length:=by
    unfold vals
    exact List.filterMap_length_eq_length.mpr all
   have z:o.toList.length=o.size:=Yp
   omega
 obtain⟨j,hj,e⟩:=this
 obtain⟨k,hk,e1⟩:=ZlG hm (i:=bits h % (m+1)) (q:=bits h) (Nat.lt_succ_iff.mp (Nat.mod_lt _ (Nat.succ_pos _))) (Zn6 h) hj
 obtain⟨j',e2,e3⟩:=ZoX o m k (turns m) (bits h % (m+1),bits h) (Nat.lt_succ_iff.mp (Nat.mod_lt _ (Nat.succ_pos _))) (by unfold turns;omega) (by rw[e1];exact e)
 refine⟨j',e2,?_,e3⟩
 by_cases hj':j'<o.size
 ·omega
 ·rw[YK,Array.getElem?_eq_none (by omega)]at e3
  cases e3
noncomputable def Zgg (m:Nat) (acc:Option (Array (Option Nat)×Nat)) (h:Int):Option (Array (Option Nat)×Nat):=do
  let (owner,k) <-acc
  let j <-layClean.free m owner (turns m) (bits h % (m+1)) (bits h)
  pure (owner.setIfInBounds j (some k),k+1)
theorem ZqQ {o:Array (Option Nat)}{j k:Nat} (h:o.getD j none=some k):k∈vals o:=by
 unfold vals
 rw[List.mem_filterMap]
 rw[YK]at h
 cases hx:o[j]? with
 |none=>rw[hx]at h;cases h
 |some y =>
  rw[hx]at h
  have h:y=some k:=h
  subst h
  exact⟨some k,List.mem_of_getElem? (by rw[YQ];exact hx),rfl⟩
noncomputable def ZkE (t:SetTable) (h:Int):Probe:=lead t (bits h % (t.mask+1),bits h)
theorem ZjX (t:SetTable) (h:Int):t.probeStart h=ZkE t h:=rfl
theorem ZlM {m:Nat}{t:SetTable} (ht:t.mask=m) (hm:Mask m):∀(hs pre:List Int) (o:Array (Option Nat)),o.size=m+1->(vals o).Perm (List.range pre.length)->pre.length+hs.length<=m ->
  (∀j k,o.getD j none=some k->Front m (ZlK o) j (ZkE t (pre.getD k 0))) ->
  ∃o',hs.foldl (Zgg m) (some (o,pre.length))=some (o',pre.length+hs.length)/\o'.size=m+1/\(vals o').Perm (List.range (pre.length+hs.length)) /\
   ∀j k,o'.getD j none=some k->Front m (ZlK o') j (ZkE t ((pre++hs).getD k 0))
 |[],pre,o,h1,h2,h3,h4=>⟨o,rfl,h1,h2,by rw[List.append_nil];exact h4⟩
 |h::hs,pre,o,h1,h2,h3,h4=>by
  have h3':pre.length+(hs.length+1)<=m:=h3
  have hv:(vals o).length=pre.length:=by rw[h2.length_eq,Y9]
  obtain⟨j,e1,e2,e3⟩:=Ztx hm h1 (by omega) h
  have fj:=Zig ht h1 (turns m) (bits h % (m+1),bits h) j (Nat.lt_succ_iff.mp (Nat.mod_lt _ (Nat.succ_pos _))) e1
  have st:Zgg m (some (o,pre.length)) h=some (o.setIfInBounds j (some pre.length),pre.length+1):=by
   unfold Zgg
   simp only[Option.bind_eq_bind,Option.bind_some,e1]
   rfl
  have hj:j<o.toList.length:=by rw[Yp];omega
  have hjs:j<o.size:=by omega
  have gs:∀x,(o.setIfInBounds j (some pre.length)).getD x none=if x=j then some pre.length else o.getD x none:=λx=>by
   rw[YK,Array.getElem?_setIfInBounds,YK]
   by_cases e:j=x
   ·subst e;rw[Yd rfl,Yd hjs,Yd rfl];rfl
   ·rw[Yb e,Yb (λz=>e z.symm)]
  have oc:∀x,ZlK o x->ZlK (o.setIfInBounds j (some pre.length)) x:=λx ⟨k,hk⟩=>by
   unfold ZlK
   rw[gs]
   by_cases e:x=j
   ·rw[Yd e];exact⟨_,rfl⟩
   ·rw[Yb e];exact⟨k,hk⟩
  have lp:(pre++[h]).length=pre.length+1:=by rw[YT,List.length_singleton]
  have p:(vals (o.setIfInBounds j (some pre.length))).Perm (List.range (pre++[h]).length):=by
   unfold vals
   rw[Array.toList_setIfInBounds]
   refine(ZlL o.toList j pre.length hj ?_).trans ?_
   ·rw[Yn,YQ,<-YK];exact e3
   ·rw[lp,Y5]
    exact(List.Perm.cons pre.length h2).trans (List.perm_append_singleton pre.length (List.range pre.length)).symm
  obtain⟨o',a,b,c,d⟩:=ZlM ht hm hs (pre++[h]) (o.setIfInBounds j (some pre.length)) (by rw[Array.size_setIfInBounds];exact h1) p (by omega) (λx k hk=>by
   rw[gs]at hk
   by_cases e:x=j
   ·rw[Yd e]at hk
    cases hk
    subst e
    rw[Yn,YX (Yf _),Nat.sub_self]
    have:=fj.mono oc
    rw[<-ht]at this⊢
    exact this
   ·rw[Yb e]at hk
    have hk2:k<pre.length:=Yy.mp (h2.mem_iff.mp (ZqQ hk))
    rw[Yn,Y2 hk2,<-Yn]
    exact(h4 x k hk).mono oc)
  rw[lp]at a c
  refine⟨o',?_,b,?_,?_⟩
  ·rw[List.foldl_cons,st,a,Yw,show pre.length+1+hs.length=pre.length+(hs.length+1) by omega]
  ·rw[Yw,show pre.length+(hs.length+1)=pre.length+1+hs.length by omega];exact c
  ·intro x k hk
   have:=d x k hk
   rwa [Y3]at this
theorem ZqR (n:Nat):vals (Array.replicate n none)=[]:=by
 unfold vals
 rw[Array.toList_replicate]
 induction n with
 |zero=>rfl
 |succ n ih=>rw[List.replicate_succ];exact ih
theorem Zty {m:Nat} (hm:Mask m) (fi mo:Nat) (le pl:Bool) (hs:Array Int) (hr:hs.size*5<m*3) :
  ∃t order,laid m fi mo le pl hs=some (t,order)/\Ok t hs.size/\t.led=le/\t.plain=pl/\t.mask=m/\order.toList.Perm (List.range hs.size) /\
   ∀i k,order.toList[i]?=some k->Front t.mask (ZbU t) (t.place.getD i 0) (t.probeStart (hs.toList.getD k 0)):=by
 have e0:layClean m hs=(hs.foldl (Zgg m) (some (Array.replicate (m+1) none,0))).map (·.1):=rfl
 rw[<-Array.foldl_toList]at e0
 obtain⟨o,e1,e2,e3,e4⟩:=ZlM (t:={mask:=m,place:=#[],dummies:=#[],finger:=0,led:=true,moves:=0,plain:=true}) rfl hm hs.toList [] (Array.replicate (m+1) none) (by simp) (by rw[ZqR];exact List.Perm.refl _) (by rw[Yp];simp;omega) (λj k hk=>by
  rw[YK,Array.getElem?_replicate]at hk
  split at hk<;>cases hk)
 have e1:List.foldl (Zgg m) (some (Array.replicate (m+1) none,0)) hs.toList=_:=e1
 rw[e1]at e0
 have e0:layClean m hs=some o:=e0
 rw[List.length_nil,Nat.zero_add,Yp]at e3
 rw[List.nil_append]at e4
 have fst:((List.range (m+1)).filterMap λj=>(o.getD j none).map (j,·)).map (·.1)=(List.range (m+1)).filter λj=>(o.getD j none).isSome:=by
  generalize List.range (m+1)=l
  induction l with
  |nil=>rfl
  |cons x l ih =>
   rw[List.filterMap_cons,List.filter_cons]
   cases hx:o.getD x none with
   |none=>exact ih
   |some y=>exact congrArg (x::·) ih
 have snd:((List.range (m+1)).filterMap λj=>(o.getD j none).map (j,·)).map (·.2)=vals o:=by
  have:(List.range (m+1)).map (λj=>o.getD j none)=o.toList:=by
   apply List.ext_getElem
   ·simp[e2]
   ·intro i h1 h2
    rw[List.getElem_map,List.getElem_range,YK,<-YQ,Ye h2]
    rfl
  unfold vals
  rw[<-this]
  generalize List.range (m+1)=l
  induction l with
  |nil=>rfl
  |cons x l ih =>
   rw[List.filterMap_cons,YC,List.filterMap_cons]
   cases hx:o.getD x none with
   |none=>exact ih
   |some y=>exact congrArg (y::·) ih
 refine⟨_,_,by unfold laid;rw[e0];rfl,⟨hm,?_,rfl,?_,?_,hr⟩,rfl,rfl,rfl,?_,?_⟩
 ·rw[Yr,Yj,<-Yj (f:=(·.2)),snd,e3.length_eq,Y9]
 ·show List.Pairwise _ _
  rw[fst]
  exact List.Pairwise.sublist List.filter_sublist List.pairwise_lt_range
 ·intro x hx
  have hx:x∈((List.range (m+1)).filterMap λj=>(o.getD j none).map (j,·)).map (·.1):=hx
  rw[fst]at hx
  exact Nat.lt_succ_iff.mp (Yy.mp (YV.mp hx).1)
 ·show(((List.range (m+1)).filterMap λj=>(o.getD j none).map (j,·)).map (·.2)).Perm _
  rw[snd];exact e3
 ·intro i k hk
  have hk:((((List.range (m+1)).filterMap λj=>(o.getD j none).map (j,·)).map (·.2))[i]?)=some k:=hk
  rw[YD]at hk
  cases hl:((List.range (m+1)).filterMap λj=>(o.getD j none).map (j,·))[i]? with
  |none=>rw[hl]at hk;cases hk
  |some q =>
   rw[hl]at hk
   have hk:q.2=k:=YA hk
   have hm1:=List.mem_of_getElem? hl
   obtain⟨j,hj,ej⟩:=List.mem_filterMap.mp hm1
   cases hx:o.getD j none with
   |none=>rw[hx]at ej;cases ej
   |some y =>
    rw[hx]at ej
    have ej:(j,y)=q:=YA ej
    subst ej
    have hk:y=k:=hk
    subst hk
    have F:=e4 j y hx
    have ep:(List.map (λx:Nat×Nat=>x.1) ((List.range (m+1)).filterMap λj=>(o.getD j none).map (j,·))).toArray.getD i 0=j:=by
     rw[Za0,List.toList_toArray,Yn,YD,hl];rfl
    show Front m _ ((List.map (λx:Nat×Nat=>x.1) ((List.range (m+1)).filterMap λj=>(o.getD j none).map (j,·))).toArray.getD i 0) _
    rw[ep]
    refine F.mono λx ⟨y',hy⟩=>?_
    show x∈((List.range (m+1)).filterMap λj=>(o.getD j none).map (j,·)).map (·.1)
    rw[fst,YV,hy]
    refine⟨Yy.mpr ?_,rfl⟩
    rw[<-e2]
    by_cases hx':x<o.size
    ·exact hx'
    ·rw[YK,Array.getElem?_eq_none (by omega)]at hy;cases hy
theorem ZoY {t:SetTable}{n:Nat} (hm:Mask t.mask) (h0:n*5<t.mask*3) (h1:t.mask*3<=(n+1)*5) (hn:n<1228) (hs:Array Int) (hz:hs.size=n+1) :
  ∃t' order,t.relaid hs (grown (n+1))=some (t',order)/\Ok t' (n+1)/\t'.led=t.led/\t'.plain=t.plain/\order.toList.Perm (List.range (n+1))/\sizeAbove (grown (n+1))<=2048 /\
   ∀i k,order.toList[i]?=some k->Front t'.mask (ZbU t') (t'.place.getD i 0) (t'.probeStart (hs.toList.getD k 0)):=by
 have hg:∃m,Mask m/\sizeAbove (grown (n+1))-1=m/\(n+1)*5<m*3/\sizeAbove (grown (n+1))<=2048:=by
  rcases hm with e|e|e|e|e<;>rw[e]at h0 h1
  ·have:n=4:=by omega
   subst this;exact⟨31,.inr (.inl rfl),by decide,by decide,by decide⟩
  ·have:n=18:=by omega
   subst this;exact⟨127,.inr (.inr (.inl rfl)),by decide,by decide,by decide⟩
  ·have:n=76:=by omega
   subst this;exact⟨511,.inr (.inr (.inr (.inl rfl))),by decide,by decide,by decide⟩
  ·have:n=306:=by omega
   subst this;exact⟨2047,.inr (.inr (.inr (.inr rfl))),by decide,by decide,by decide⟩
  ·omega
 obtain⟨m,g1,g2,g3,g4⟩:=hg
 unfold relaid
 rw[g2]
 obtain⟨t',order,a,b,c,d,e,f,g⟩:=Zty g1 t.finger (t.movedTo m) t.led t.plain hs (by rw[hz];exact g3)
 rw[hz]at b f
 exact⟨t',order,a,b,c,d,f,g4,g⟩
theorem Zm2 {α:Type} (es:Array α) (order:Array Nat) (h:order.toList.Perm (List.range es.size)):(order.filterMap (es[·]?)).toList.Perm es.toList:=by
 rw[Array.toList_filterMap]
 refine(h.filterMap _).trans ?_
 have:(List.range es.size).filterMap (es[·]?)=es.toList:=by
  have e1:∀l:List α,(List.range l.length).filterMap (l[·]?)=l:=λl=>by
   induction l with
   |nil=>rfl
   |cons x l ih =>
    rw[Yw,List.range_succ_eq_map,List.filterMap_cons]
    show x::_=_
    rw[List.filterMap_map]
    exact congrArg (x::·) ih
  have:=e1 es.toList
  rw[Yp]at this
  simpa using this
 rw[this]
theorem Ok.fits {t:SetTable}{n:Nat} (h:Ok t n):t.fits n=true:=by
 have:=h.room
 unfold SetTable.fits fill
 rw[h.size,h.no]
 simp;omega
theorem Ok.put {t:SetTable}{n:Nat} (h:Ok t n) {j:Nat} (hj:j<=t.mask) (he:t.slot j=.empty) :
  (t.put j).1.mask=t.mask/\(t.put j).1.led=t.led/\(t.put j).1.plain=t.plain/\(t.put j).1.dummies=#[]/\(t.put j).1.place.size=n+1/\Rise (t.put j).1.place/\(∀x∈(t.put j).1.place.toList,x<=t.mask)/\(t.put j).1.fits (n+1)=true:=by
 have hn:j∉t.place.toList:=by
  rcases ZdA h.no h.rise j with⟨_,e⟩|⟨i,_,_,e⟩
  ·exact e
  ·rw[he]at e;cases e
 obtain⟨a,b⟩:=ZlF h.rise hn
 have hd:(t.put j).1.dummies=#[]:=by
  unfold SetTable.put
  dsimp only
  rw[h.no]
  rfl
 have hs:(t.put j).1.place.size=n+1:=by
  show(insertAt t.place (below t.place j) j).size=_
  rw[<-Yp,b.length_eq,Yw,Yp,h.size]
 refine⟨rfl,rfl,rfl,hd,hs,a,λx hx=>?_,?_⟩
 ·rcases Yg.mp (b.mem_iff.mp hx)with rfl|hx
  ·exact hj
  ·exact h.within x hx
 ·have:=h.room
  unfold SetTable.fits fill
  rw[hs,hd]
  have:(t.put j).1.mask=t.mask:=rfl
  rw[this]
  simp;omega
theorem ZqS (a b:Nat) (led:Bool):Ok (SetTable.fresh a b led) 0:=⟨.inl rfl,rfl,rfl,.nil,λx hx=>(by cases hx),(by show 0*5<7*3;omega)⟩
end ST
namespace ST
open PySem PySem.Spec PySem.SetTable PyProof.Rows
open PySem.W
theorem ZkF:Slot "set_iterator" "__next__" "set_iterator.__next__" :=
 Slot.of (owner:="set_iterator") (n:="__next__") (by rw[typeLookup_type,builtinLookup_eq_fast];kernel_rfl) (by decide +kernel) (by decide +kernel) (by decide +kernel) (by first|exact Or.inl (by decide +kernel)|exact Or.inr (by decide +kernel)) (by rw[isSubtype_type];kernel_rfl)
theorem enNext:entryFor table "set_iterator.__next__"=some Builtin.«set_iterator.__next__»:=entryFor_of_tree (by kernel_rfl)
theorem Zn8:Manifest.owners.lookup (String.ofList ['r','o','t','a','r','e','t','i','_','t','e','s'].reverse)=some Manifest.sig_set_iterator:=by kernel_rfl
theorem ZqT:Slot "set_iterator" "__iter__" "set_iterator.__iter__" :=
 Slot.of (owner:="set_iterator") (n:="__iter__") (by rw[typeLookup_type,builtinLookup_eq_fast];kernel_rfl) (by decide +kernel) (by decide +kernel) (by decide +kernel) (by first|exact Or.inl (by decide +kernel)|exact Or.inr (by decide +kernel)) (by rw[isSubtype_type];kernel_rfl)
theorem enSelf:entryFor table "set_iterator.__iter__"=some Builtin.«dict_keyiterator.__iter__»:=entryFor_alias (id':="dict_keyiterator.__iter__") (by kernel_rfl) rfl (by decide +kernel) (by kernel_rfl)
theorem arSelf (v:Value):argsOk "set_iterator.__iter__" ⟨[v],[]⟩:=by
 unfold argsOk
 rw[signature?_of (id:="set_iterator.__iter__") (n:=['_','_','r','e','t','i','_','_']) (o:=['r','o','t','a','r','e','t','i','_','t','e','s']) (by kernel_rfl) Zn8]
 kernel_rfl
theorem enIter:entryFor table "set.__iter__"=some Builtin.«frozenset.__iter__»:=entryFor_alias (id':="frozenset.__iter__") (by kernel_rfl) rfl (by decide +kernel) (by kernel_rfl)
theorem arNext (v:Value):argsOk "set_iterator.__next__" ⟨[v],[]⟩:=by
 unfold argsOk
 rw[signature?_of (id:="set_iterator.__next__") (n:=['_','_','t','x','e','n','_','_']) (o:=['r','o','t','a','r','e','t','i','_','t','e','s']) (by kernel_rfl) Zn8]
 kernel_rfl
theorem Zih {α:Type}:∀(l:List α) (i:Nat) (h:i<l.length),(l[i]::l.eraseIdx i).Perm l
 |x::l,0,h=>List.Perm.refl _
 |x::l,i+1,h=>(List.Perm.swap x _ _).trans (List.Perm.cons x (Zih l i (by simpa using h)))
theorem Zn9 {α:Type} (f:Nat->Nat):∀(n k:Nat) (l:List α) (o:Array α),l.length=n->(pickOrder.go f n k l o).toList.Perm (o.toList++l)
 |0,k,l,o,h=>by
  have:l=[]:=List.length_eq_zero_iff.mp h
  subst this
  unfold pickOrder.go
  rw[List.append_nil]
 |n+1,k,l,o,h=>by
  have hlt:f k % l.length<l.length:=Nat.mod_lt _ (by omega)
  unfold pickOrder.go
  rw[Ye hlt]
  dsimp only
  refine(Zn9 f n (k+1) _ _ (by rw[List.length_eraseIdx_of_lt hlt];omega)).trans ?_
  rw[Array.toList_push,Y3]
  exact List.Perm.append_left _ (Zih l _ hlt)
theorem ZoZ {α:Type} (f:Nat->Nat) (xs:Array α):(pickOrder f xs).toList.Perm xs.toList:=by
 unfold pickOrder
 exact Zn9 f xs.size 0 xs.toList #[] Yp
noncomputable def TabAt (w:World) (h:Heap) (a:Addr) (es:Array (Int×Value)) (ep:Nat) (t:SetTable):Prop :=
 ∃o,h.get? a=some o/\o.ExactSet/\o.data=.set es ep t/\ST.Ok t es.size/\t.led=!w.params.followText "set-order"/\t.plain=true
noncomputable def Zem (w:World) (a:Addr) (ep:Nat) (es:Array (Int×Value)):Array (Int×Value):=if w.params.followText "set-order"=true then pickOrder (w.params.setOrder a ep) es else es
theorem Zii (w:World) (a:Addr) (ep:Nat) (es:Array (Int×Value)):(Zem w a ep es).toList.Perm es.toList:=by
 unfold Zem
 split
 ·exact ZoZ _ _
 ·exact List.Perm.refl _
noncomputable def ZlN (h:Heap) (it a:Addr) (sl i n ep:Nat):Prop:=∃o,h.get? it=some o/\o.cls=.type "set_iterator"/\o.data=.fields #[.int sl 0,.int i 0,.ref a,.int n 0,.int ep 0]
section
variable {prog:Program}{w:World}{A:Around}{E:Value->Shared->Prop}{s:Shared}{a it:Addr}{es:Array (Int×Value)}{ep n i sl:Nat}{t:SetTable}
theorem TabAt.typeIs (h:TabAt w s.heap a es ep t):s.TypeIs (.ref a) "set":=by
 obtain⟨o,h1,h2,_⟩:=h
 exact⟨o,h1,h2.1⟩
theorem TabAt.at {h h':Heap} (x:TabAt w h a es ep t) (k:∀o,h.get? a=some o->h'.get? a=some o):TabAt w h' a es ep t:=by
 obtain⟨o,h1,h2⟩:=x
 exact⟨o,k o h1,h2⟩
theorem ZlN.typeIs (h:ZlN s.heap it a sl i n ep):s.TypeIs (.ref it) "set_iterator":=by
 obtain⟨o,h1,h2,_⟩:=h
 exact⟨o,h1,h2⟩
theorem ZlN.at {h h':Heap} (x:ZlN h it a sl i n ep) (k:∀o,h.get? it=some o->h'.get? it=some o):ZlN h' it a sl i n ep:=by
 obtain⟨o,h1,h2⟩:=x
 exact⟨o,k o h1,h2⟩
theorem ZqU {Q:Value->Shared->Prop} (h:TabAt w s.heap a es ep t) (hQ:Q (.ref s.heap.objs.size) {s with heap:=s.heap.push {cls:=.type "set_iterator",data:=.fields #[.int 0 0,.int 0 0,.ref a,.int es.size 0,.int ep 0]}}) :
  wpAny (model prog w) A (pyIter (.ref a)) Q E s:=by
 have hT:=h.typeIs
 obtain⟨o,h1,h2,h3,h4,h5,h6⟩:=h
 refine wpAny_pyIter_slot hT F.slot_set_iter (wpAny_call_entry F.slot_set_iter hT enIter ?_ (F.args_set_iter_1 _))
 unfold Builtin.«frozenset.__iter__» Builtin.Frozenset.slot0 slotArgs
 simp only[List.isEmpty_nil,Bool.not_true,Bool.false_eq_true,↓reduceIte,bind_assoc,List.length_nil,bne_self_eq_false]
 unfold Builtin.Frozenset.addrOf Builtin.Frozenset.sizeOf setDrawn setsByText setEpoch
 refine Ya (Yc ?_)
 dsimp only
 refine Ya (Yc ?_)
 refine Ya (Ya (wpAny_setEntries_of h1 h3 h4.fits (Yc ?_)))
 simp only[bind_assoc]
 refine Ya (wpAny_setState_of h1 h3 h4.fits ?_)
 dsimp only
 refine Ya (wpAny_askSetting ?_)
 refine Ya (Yc (Ya (Yc ?_)))
 refine YG (λz=>absurd (show((!w.params.followText "set-order")&&(!t.plain&&decide (es.size>1)))=true from z) (by rw[h6];simp)) (λ_=>?_)
 refine Ya (Yc ?_)
 refine Ya (wpAny_setState_of h1 h3 h4.fits (Ya (Yc ?_)))
 unfold newFields
 refine Ya (wpAny_newObj_type (Yc ⟨_,rfl,"set_iterator",_,⟨_,Yt _ rfl,rfl⟩,ZkF.lookup,hQ⟩))
theorem ZqV {Q:Bool->Shared->Prop} (hT:s.TypeIs (.ref a) "set") (h:Q false s):wpAny (model prog w) A (Builtin.List.listLengthHint (.ref a)) Q E s:=by
 unfold Builtin.List.listLengthHint
 refine Ya (wpAny_specialOf hT PySem.F.slot_set_len.lookup ?_)
 generalize hid:("set.__len__":String)=id0
 wp_delta
 rw[show splitId id0=some ("set","__len__")from by subst hid;decide +kernel]
 subst hid
 refine Ya (wpAny_isInstance (T:="set") (b:=true) hT (by rw[isSubtype_type];kernel_rfl) ?_)
 refine YG (λz=>absurd z (by decide)) (λ_=>?_)
 refine YG (λ_=>?_) (λz=>absurd (by decide +kernel) z)
 refine Ya (wpAny_typeOf hT ?_)
 exact Yc h
theorem Zm3 {Q:Option (Value×Nat)->Shared->Prop} (h:TabAt w s.heap a es ep t) (hle:i<=es.size) (hsl:w.params.followText "set-order"=false->below t.place sl=i)
  (hQ:∀r,(i<es.size->∃e sl',r=some (e.2,sl')/\(Zem w a ep es)[i]?=some e/\(w.params.followText "set-order"=false->below t.place sl'=i+1))->(i=es.size->r=none)->Q r s) :
  wpAny (model prog w) A (setNext a sl i ep) Q E s:=by
 obtain⟨os,h1,h2,h3,h4,h5,h6⟩:=h
 have hz:=h4.size
 unfold setNext setsByText
 simp only[bind_assoc]
 refine Ya (wpAny_setState_of h1 h3 h4.fits ?_)
 dsimp only
 refine Ya (wpAny_askSetting ?_)
 refine Ya (Yc ?_)
 cases hb:w.params.followText "set-order" with
 |true =>
  have ew:Zem w a ep es=pickOrder (w.params.setOrder a ep) es:=by unfold Zem;rw[Yd hb]
  have sz:(Zem w a ep es).size=es.size:=by have:=(Zii w a ep es).length_eq;simpa using this
  refine YG (λ_=>?_) (λz=>absurd (show w.params.followText "set-order"=true from hb) z)
  refine YG (λz=>absurd z (by simp)) (λ_=>?_)
  unfold setWalk setsByText
  simp only[bind_assoc]
  refine Ya (wpAny_setState_of h1 h3 h4.fits ?_)
  dsimp only
  refine Ya (wpAny_askSetting ?_)
  refine Ya (Yc ?_)
  refine Ya (YG (λ_=>?_) (λz=>absurd (show w.params.followText "set-order"=true from hb) z))
  refine Ya (wpAny_askSetting ?_)
  refine Yc ?_
  refine Yc ?_
  refine hQ _ (λhlt=>?_) (λhe=>?_)
  ·have g:(Zem w a ep es)[i]?=some ((Zem w a ep es)[i]'(by omega)):=Array.getElem?_eq_getElem (by omega)
   refine⟨_,sl,?_,g,λz=>absurd (hb.symm.trans z) (by decide)⟩
   show Option.map _ ((pickOrder (w.params.setOrder a ep) es)[i]?)=_
   rw[<-ew,g]
   rfl
  ·show Option.map _ ((pickOrder (w.params.setOrder a ep) es)[i]?)=_
   rw[<-ew,Array.getElem?_eq_none (by omega)]
   rfl
 |false =>
  have ew:Zem w a ep es=es:=by unfold Zem;rw[Yb (by rw[hb];decide)]
  have hs:=hsl hb
  refine YG (λz=>absurd (show w.params.followText "set-order"=true from z) (by rw[hb];decide)) (λ_=>?_)
  refine YG (λz=>absurd (show(!t.plain&&decide (es.size>1))=true from z) (by rw[h6];simp)) (λ_=>?_)
  refine Ya (YG (λz=>absurd (show(!t.led&&!es.isEmpty)=true from z) (by rw[h5,hb];simp)) (λ_=>Yc ?_))
  refine Yc (hQ _ (λhlt=>?_) (λhe=>?_))
  ·refine⟨es[i],t.place.getD i 0+1,?_,by rw[ew];exact Array.getElem?_eq_getElem hlt,λ_=>Zm0 h4.rise (by omega)⟩
   show(match es[below t.place sl]?,t.place[below t.place sl]? with|some (_,x),some j=>some (x,j+1)|_,_=>none)=_
   rw[hs,Array.getElem?_eq_getElem hlt,gq (by omega)]
  ·show(match es[below t.place sl]?,t.place[below t.place sl]? with|some (_,x),some j=>some (x,j+1)|_,_=>none)=_
   rw[hs,Array.getElem?_eq_none (by omega)]
theorem ZlO {Q:Option Value->Shared->Prop} (hh:A.handled=none) (hi:ZlN s.heap it a sl i es.size ep) (h:TabAt w s.heap a es ep t) (hle:i<=es.size) (hsl:w.params.followText "set-order"=false->below t.place sl=i)
  (hQ:i<es.size->∀e h' sl',(Zem w a ep es)[i]?=some e->ZlN h' it a sl' (i+1) es.size ep->(w.params.followText "set-order"=false->below t.place sl'=i+1)->Heap.ExtBut it s.heap h'->Q (some e.2) {s with heap:=h'})
  (hE:i=es.size->∀h',Heap.ExtBut it s.heap h'->Q none {s with heap:=h'}) :
  wpAny (model prog w) A (pyNext (.ref it)) Q E s:=by
 have hT:=hi.typeIs
 obtain⟨o,g1,g2,g3⟩:=hi
 have hx:=h
 obtain⟨os,h1,h2,h3,h4,h5,h6⟩:=h
 unfold pyNext
 refine Ya (wpAny_attempt (wpAny_callSpecial?_slot (name:=Str.ofString "__next__") hT ZkF (wpAny_call_entry ZkF hT enNext ?_ (arNext _))))
 unfold Builtin.«set_iterator.__next__» slotArgs
 simp only[List.isEmpty_nil,Bool.not_true,Bool.false_eq_true,↓reduceIte,bind_assoc,List.length_nil,bne_self_eq_false]
 refine Ya (Yc ?_)
 dsimp only
 refine Ya (wpAny_fieldsOf g1 g3 ?_)
 dsimp only
 refine Ya (wpAny_setEntries_of h1 h3 h4.fits ?_)
 rw[Yb (by simp)]
 refine Ya (m:=setNext a sl i ep) (Zm3 hx hle hsl λr r1 r2=>?_)
 rcases Nat.lt_or_eq_of_le hle with hlt|he
 ·obtain⟨e,sl',rfl,e1,e2⟩:=r1 hlt
  dsimp only
  refine Ya (wpAny_setField g1 g3 (by simp) ?_)
  have g1':(s.heap.update it (Obj.mapFields (·.setIfInBounds 0 (rawInt sl')))).get? it=some (Obj.mapFields (·.setIfInBounds 0 (rawInt sl')) o):=Heap.get?_update_self _ g1 (Obj.isFreed_of_fields (Obj.data_mapFields g3 _))
  have g3':=Obj.data_mapFields g3 (·.setIfInBounds 0 (rawInt sl'))
  refine Ya (wpAny_setField (s:={s with heap:=s.heap.update it (Obj.mapFields (·.setIfInBounds 0 (rawInt sl')))}) g1' g3' (by simp) ?_)
  refine Yc ⟨_,rfl,Yc (hQ hlt e _ sl' e1 ⟨_,Heap.get?_update_self _ g1' (Obj.isFreed_of_fields (Obj.data_mapFields g3' _)),(Obj.cls_mapFields ..).trans ((Obj.cls_mapFields ..).trans g2),by rw[Obj.data_mapFields g3'];simp[rawInt]⟩ e2 ?_)⟩
  exact((Heap.SameBut.update ..).trans (Heap.SameBut.update ..)).extBut
 ·rw[r2 he]
  dsimp only
  refine Ya (wpAny_setField g1 g3 (by simp) ?_)
  show wpAny _ _ (newExc (.type "StopIteration") [] >>= _) _ _ _
  refine Ya ?_
  simp only[newExc,newTuple]
  refine Ya (wpAny_newObj_type ?_ (by size_fits))
  refine Ya (m:=firstArgMember _ _) (wpAny_of_eq (a:=Value.none) (by first|rfl|(simp only[firstArgMember];rfl)) ?_)
  refine wpAny_newObj_type ?_ (by size_fits)
  simp only[raiseNew]
  refine Ya (wpAny_handled ?_)
  rw[show A.in1.handled=none from hh]
  refine Ya (Yc (wpAny_throw ?_))
  refine Ya (wpAny_isInstance (T:="StopIteration") (b:=true) ⟨_,Yt _ rfl,rfl⟩ isSubtype_stop ?_)
  exact Yc (hE he _ (((Heap.SameBut.update ..).extBut.push _).push _))
end
end ST
namespace ST
open PySem PySem.Spec PySem.SetTable PyProof.Rows
open PySem.W
theorem Zhg {α β:Type}{f:α->β}:∀{l m:List β},l.Perm m->∀xs:List α,m=xs.map f->∃ys:List α,l=ys.map f/\ys.Perm xs:=by
 intro l m h
 induction h with
 |nil=>intro xs e;exact⟨xs,e,.refl _⟩
 |cons x h ih =>
  intro xs e
  cases xs with
  |nil=>cases e
  |cons y xs =>
   rw[YC]at e
   injection e with e1 e2
   obtain⟨ys,a,b⟩:=ih xs e2
   exact⟨y::ys,by rw[YC,<-a,<-e1],b.cons y⟩
 |swap x y l =>
  intro xs e
  cases xs with
  |nil=>cases e
  |cons u xs =>
   cases xs with
   |nil=>cases e
   |cons v xs =>
    rw[YC,YC]at e
    injection e with e1 e2
    injection e2 with e2 e3
    exact⟨v::u::xs,by rw[YC,YC,<-e1,<-e2,<-e3],List.Perm.swap u v xs⟩
 |trans h1 h2 ih1 ih2 =>
  intro xs e
  obtain⟨ys,a,b⟩:=ih2 xs e
  obtain⟨zs,c,d⟩:=ih1 ys a
  exact⟨zs,c,d.trans b⟩
section
variable {prog:Program}{w:World}{A:Around}{E:Value->Shared->Prop}{s:Shared}{a:Addr}{es:Array (Int×Value)}{ep n:Nat}{t:SetTable}
theorem Zoa {h:Heap}{o:Obj} (ho:h.get? a=some o) (hd:o.data=.set es ep t) (es':Array (Int×Value)) (t':SetTable):(h.update a (Obj.putSet es' t')).get? a=some {o with data:=.set es' (ep+1) t'}:=by
 have:=Heap.get?_update_self (Obj.putSet es' t') ho (by rw[putSet_of es' t' hd];rfl)
 rw[putSet_of es' t' hd]at this
 exact this
theorem ZfF {n:Nat} (h:n<1300):n<=sizeLine:=fits_of_scanBound (Nat.lt_trans h (by decide))
theorem ZqW {α β:Type} (f:α->Option β):∀(l:List α) (_:∀x∈l,(f x).isSome=true) {i:Nat},(l.filterMap f)[i]?=(l[i]?).bind f
 |[],_,i=>by simp
 |x::l,h,i=>by
  obtain⟨y,hy⟩:=Option.isSome_iff_exists.mp (h x (.head _))
  rw[List.filterMap_cons,hy]
  cases i with
  |zero=>exact hy.symm
  |succ i=>exact ZqW f l λz hz=>h z (.tail _ hz)
noncomputable def Zij (t:SetTable) (es:Array (Int×Value)):Prop:=∀(i:Nat) (e:Int×Value),es[i]?=some e->Front t.mask (ZbU t) (t.place.getD i 0) (t.probeStart e.1)
theorem ZdJ {α:Type} (xs:List α) (p:Nat) (x:α) (hp:p<=xs.length) (i:Nat):(xs.take p++x::xs.drop p)[i]?=if i<p then xs[i]? else if i=p then some x else xs[i-1]?:=by
 by_cases h1:i<p
 ·rw[Yd h1,Y2 (by rw[YZ];omega),List.getElem?_take_of_lt h1]
 ·rw[Yb h1,YX (by rw[YZ];omega),YZ,Nat.min_eq_left hp]
  by_cases h2:i=p
  ·rw[Yd h2,h2,Nat.sub_self];rfl
  ·rw[Yb h2]
   obtain⟨d,hd⟩:∃d,i-p=d+1:=⟨i-p-1,by omega⟩
   rw[hd,List.getElem?_cons_succ,List.getElem?_drop]
   congr 1;omega
theorem Zm4 {k:Int}{x:Value}{j:Nat} (hk:Ok t es.size) (hF:Zij t es) (hj:j<=t.mask) (he:t.slot j=.empty) (hN:Front t.mask (ZbU t) j (t.probeStart k)):Zij (t.put j).1 (insertAt es (t.put j).2 (k,x)):=by
 have hn:j∉t.place.toList:=Zie hk.no hk.rise he
 obtain⟨a1,a2,a3,a4,a5,a6,a7,a8⟩:=hk.put hj he
 obtain⟨r1,r2⟩:=ZlF hk.rise hn
 have hb:below t.place j<=t.place.size:=(Zcm hk.rise j).1
 have oc:∀y,ZbU t y->ZbU (t.put j).1 y:=λy hy=>r2.mem_iff.mpr (.tail _ hy)
 have mv:∀{y:Nat}{h:Int},Front t.mask (ZbU t) y (t.probeStart h)->Front (t.put j).1.mask (ZbU (t.put j).1) y ((t.put j).1.probeStart h):=λF=>by
  have:=F.mono oc
  rw[<-a1]at this
  have e:(t.put j).1.probeStart=t.probeStart:=by funext h;rw[ZjX,ZjX];unfold ZkE lead;rw[a1]
  rw[e];exact this
 intro i e hi
 have pe:(insertAt es (below t.place j) (k,x))[i]?=if i<below t.place j then es.toList[i]? else if i=below t.place j then some (k,x)else es.toList[i-1]?:=by
  rw[<-YQ,SetTable.toList_insertAt,ZdJ _ _ _ (by rw[Yp,<-hk.size];exact hb)]
 have pp:(insertAt t.place (below t.place j) j).getD i 0=(if i<below t.place j then t.place.toList[i]? else if i=below t.place j then some j else t.place.toList[i-1]?).getD 0:=by
  rw[Za0,SetTable.toList_insertAt,Yn,ZdJ _ _ _ (by rw[Yp];exact hb)]
 have hi:(insertAt es (below t.place j) (k,x))[i]?=some e:=hi
 rw[pe]at hi
 show Front _ _ ((insertAt t.place (below t.place j) j).getD i 0) _
 rw[pp]
 by_cases h1:i<below t.place j
 ·rw[Yd h1]at hi⊢
  rw[YQ]at hi
  have:=mv (hF i e hi)
  rwa [Za0,Yn]at this
 ·rw[Yb h1]at hi⊢
  by_cases h2:i=below t.place j
  ·rw[Yd h2]at hi⊢
   cases hi
   exact mv hN
  ·rw[Yb h2]at hi⊢
   rw[YQ]at hi
   have:=mv (hF (i-1) e hi)
   rwa [Za0,Yn]at this
theorem Zo0 {k:Int}{x:Value}{j:Nat} (hk:Ok t n) (hz:es.size=n) (hn:n<1228) (hj:j<=t.mask) (he:t.slot j=.empty) :
  (insertAt es (t.put j).2 (k,x)).toList.Perm ((k,x)::es.toList)/\(insertAt es (t.put j).2 (k,x)).size=n+1/\(t.put j).1.fits (n+1)=true/\(t.put j).1.led=t.led/\(t.put j).1.plain=t.plain /\
  ((t.put j).1.tooFull=false->Ok (t.put j).1 (n+1)) /\
  ((t.put j).1.tooFull=true->∃t2 order,(t.put j).1.relaid ((insertAt es (t.put j).2 (k,x)).map (·.1)) (grown (n+1))=some (t2,order)/\Ok t2 (n+1)/\t2.led=t.led/\t2.plain=t.plain/\order.toList.Perm (List.range (n+1))/\sizeAbove (grown (n+1))<=2048 /\
   (order.filterMap ((insertAt es (t.put j).2 (k,x))[·]?)).toList.Perm ((k,x)::es.toList)/\(order.filterMap ((insertAt es (t.put j).2 (k,x))[·]?)).size=n+1/\Zij t2 (order.filterMap ((insertAt es (t.put j).2 (k,x))[·]?))):=by
 obtain⟨a1,a2,a3,a4,a5,a6,a7,a8⟩:=hk.put hj he
 have hp:(insertAt es (t.put j).2 (k,x)).toList.Perm ((k,x)::es.toList):=by
  refine(SetTable.insertAt_perm es _ _).trans ?_
  rw[Array.toList_push]
  exact List.perm_append_singleton _ _
 have hs:(insertAt es (t.put j).2 (k,x)).size=n+1:=by
  rw[<-Yp,hp.length_eq,Yw,Yp,hz]
 have hf:(t.put j).1.tooFull=decide ((n+1)*5 ≥ t.mask*3):=by
  unfold tooFull SetTable.fill
  rw[a5,a4,a1]
  rfl
 refine⟨hp,hs,a8,a2,a3,λhh=>⟨by rw[a1];exact hk.mask,a5,a4,a6,by rw[a1];exact a7,?_⟩,λhh=>?_⟩
 ·rw[hf]at hh
  have:=of_decide_eq_false hh
  rw[a1];omega
 ·rw[hf]at hh
  have:=Ja hh
  obtain⟨t2,order,b1,b2,b3,b4,b5,b6,b7⟩:=ZoY (t:=(t.put j).1) (n:=n) (by rw[a1];exact hk.mask) (by rw[a1];exact hk.room) (by rw[a1];omega) hn ((insertAt es (t.put j).2 (k,x)).map (·.1)) (by rw[Array.size_map,hs])
  have q:=Zm2 (insertAt es (t.put j).2 (k,x)) order (by rw[hs];exact b5)
  refine⟨t2,order,b1,b2,b3.trans a2,b4.trans a3,b5,b6,q.trans hp,?_,λi e he=>?_⟩
  ·rw[<-Yp,q.length_eq,Yp,hs]
  ·rw[<-YQ,Array.toList_filterMap,ZqW _ _ (λx hx=>by
    have:=Yy.mp (b5.mem_iff.mp hx)
    rw[Array.getElem?_eq_getElem (by omega)];rfl)]at he
   cases ho:order.toList[i]? with
   |none=>rw[ho]at he;cases he
   |some y =>
    rw[ho]at he
    have he:(insertAt es (t.put j).2 (k,x))[y]?=some e:=he
    have:=b7 i y ho
    rw[Yn,YQ,Array.getElem?_map,he]at this
    exact this
end
theorem Ztz {prog:Program}{w:World}{a:Addr}{es:Array (Int×Value)}{ep:Nat}{t:SetTable} (hlt:∀h,TabAt w h a es ep t->a<h.objs.size) :
  KdlSrc prog w "set" a a es.size (λi v=>∃e,(Zem w a ep es)[i]?=some e/\v=e.2) (λh=>TabAt w h a es ep t) where
 type:=λs x=>x.typeIs
 there:=λh x=>⟨hlt h x,hlt h x⟩
 keep:=λh h' x k=>x.at λo e=>k a (.inl rfl) o e
 notList:=by decide
 notTuple:=by decide
 hint:=λA E s Q x hq=>ZqV x.typeIs hq
 iter:=λA s hh x=>⟨_,λi h=>i<=es.size/\∃sl,ZlN h s.heap.objs.size a sl i es.size ep/\(w.params.followText "set-order"=false->below t.place sl=i)/\TabAt w h a es ep t,λE Q hq=>ZqU x hq,
  {sub:=λb hb=>Yg.mpr (.inl (Y6.mp hb))
   frame:=λi h h' st k=>by
    obtain⟨a0,sl,a1,a2,a3⟩:=st
    exact⟨a0,sl,a1.at λo e=>k _ (.head _) o e,a2,a3.at λo e=>k a (.tail _ (.head _)) o e⟩
   item:=λi s' Q E hi st hQ=>by
    obtain⟨a0,sl,a1,a2,a3⟩:=st
    refine ZlO hh a1 a3 a0 a2 (λ_ e h' sl' e1 e2 e3 e4=>hQ e.2 h' s'.toks ⟨e,e1,rfl⟩ ⟨hi,sl',e2,e3,a3.at λo eo=>e4 a o (Yk (hlt _ x)) eo⟩ λb o hb eo=>e4 b o (λz=>hb (Y6.mpr z)) eo) λz=>absurd z (Yk hi)
   done:=λs' Q E st hQ=>by
    obtain⟨a0,sl,a1,a2,a3⟩:=st
    exact ZlO hh a1 a3 a0 a2 (λz=>absurd z (YJ _)) λ_ h' e4=>hQ h' s'.toks λb o hb eo=>e4 b o (λz=>hb (Y6.mpr z)) eo
   self:=λi s' Q E st hQ=>by
    obtain⟨a0,sl,a1,a2,a3⟩:=st
    refine wpAny_pyIter_slot a1.typeIs ZqT (wpAny_call_entry ZqT a1.typeIs enSelf ?_ (arSelf _))
    show wpAny _ _ (ret (.ref _)) _ _ _
    exact Yc ⟨_,rfl,"set_iterator",_,a1.typeIs,ZkF.lookup,hQ⟩},
  ⟨Yu _,0,⟨_,Yt _ rfl,rfl,rfl⟩,λ_=>(by obtain⟨_,_,_,_,ok,_⟩:=x;exact Zm1 ok.rise),x.at λo e=>Yi _ e⟩⟩
end ST
namespace L2
open PySem PySem.Spec PyProof.Rows PySem.W
end L2
namespace ST
open PySem PySem.Spec PySem.SetTable PyProof.Rows
open PySem.W
section
variable {prog:Program}{w:World}{A:Around}{E:Value->Shared->Prop}{s:Shared}{a:Addr}{es:Array (Int×Value)}{ep n:Nat}{t:SetTable}
theorem items_int {ks:List Int}{vs:List Value} (h:ItemsAre (intKind prog w) ks vs):∀v∈vs,∃(i:Int) (t:Tok),v=.int i t:=by
 induction h with
 |nil=>intro v hv;cases hv
 |cons h1 h2 ih =>
  intro v hv
  rcases Yg.mp hv with rfl|hv
  ·obtain⟨t,e⟩:=Value.isInt_shape h1
   exact⟨_,t,e⟩
  ·exact ih v hv
theorem ZqX {k:List Int}{x:Addr}{Q:Bool->Shared->Prop} (hk:IsTupleKey (intKind prog w) s.heap k x) (h:Q false s):wpAny (model prog w) A (ofAClassStatement 8 (.ref x)) Q E s:=by
 have hT:=hk.typeIs
 obtain⟨o,items,n,ho,_,hd,hi⟩:=hk
 have hv:=items_int hi
 unfold ofAClassStatement
 refine Ya (wpAny_typeOf hT ?_)
 refine YG (λ_=>?_) (λz=>absurd rfl z)
 refine Ya (Yc ?_)
 refine YG (λz=>absurd z (by decide)) (λ_=>?_)
 refine Ya (wpAny_seqItems ho hd ?_)
 show wpAny _ _ (forIn items _ _ >>= _) _ _ s
 refine Ya ?_
 rw[<-Array.forIn_toList]
 refine wpAny_forIn_list _ (λrest r s'=>r.1=none/\s'=s/\∀v∈rest,∃(i:Int) (t:Tok),v=.int i t) _ ?_ ?_ _ _ ⟨rfl,rfl,hv⟩
 ·rintro v rest r s' ⟨hr,rfl,hall⟩
  obtain⟨i,t,rfl⟩:=hall v Ys
  refine Ya (m:=ofAClassStatement _ _) (wpAny_of_eq (a:=false) (by unfold ofAClassStatement;rfl) ?_)
  refine YG (λz=>absurd z (by decide)) (λ_=>?_)
  exact Yc ⟨rfl,rfl,λu hu'=>hall u (Yq _ hu')⟩
 ·rintro⟨r1,r2⟩ s' ⟨hr,rfl,_⟩
  simp only at hr
  subst hr
  exact Yc h
theorem by_val {k:List Int}{x:Addr}{Q:Bool->Shared->Prop} (hk:IsTupleKey (intKind prog w) s.heap k x) (h:Q true s):wpAny (model prog w) A (hashByValue 8 (.ref x)) Q E s:=by
 have hT:=hk.typeIs
 obtain⟨o,items,n,ho,_,hd,hi⟩:=hk
 have hv:=items_int hi
 unfold hashByValue
 refine Ya (wpAny_specialOf hT F.slot_tuple_hash.lookup ?_)
 show wpAny _ _ (seqItems? (.ref x) >>= _) _ _ s
 refine Ya (wpAny_seqItems ho hd ?_)
 show wpAny _ _ (forIn items _ _ >>= _) _ _ s
 refine Ya ?_
 rw[<-Array.forIn_toList]
 refine wpAny_forIn_list _ (λrest r s'=>r.1=none/\s'=s/\∀v∈rest,∃(i:Int) (t:Tok),v=.int i t) _ ?_ ?_ _ _ ⟨rfl,rfl,hv⟩
 ·rintro v rest r s' ⟨hr,rfl,hall⟩
  obtain⟨i,t,rfl⟩:=hall v Ys
  refine Ya (m:=hashByValue _ _) (wpAny_of_eq (a:=true) (by unfold hashByValue;rfl) ?_)
  refine YG (λz=>absurd z (by decide)) (λ_=>?_)
  exact Yc ⟨rfl,rfl,λu hu'=>hall u (Yq _ hu')⟩
 ·rintro⟨r1,r2⟩ s' ⟨hr,rfl,_⟩
  simp only at hr
  subst hr
  exact Yc h
theorem unseen {k:List Int}{x:Addr}{Q:Bool->Shared->Prop} (hk:IsTupleKey (intKind prog w) s.heap k x) (vs:List Value) (hvs:∀v∈vs,∃k' y,v=.ref y/\IsTupleKey (intKind prog w) s.heap k' y) (h:Q false s):wpAny (model prog w) A (searchCouldBeSeen (.ref x) vs) Q E s:=by
 unfold searchCouldBeSeen
 refine Ya ?_
 refine wpAny_forIn_list _ (λrest r s'=>r.1=none/\s'=s/\∀v∈rest,∃k' y,v=.ref y/\IsTupleKey (intKind prog w) s.heap k' y) _ ?_ ?_ _ _ ⟨rfl,rfl,hvs⟩
 ·rintro v rest r s' ⟨hr,rfl,hall⟩
  obtain⟨k',y,rfl,hy⟩:=hall v Ys
  refine YG (λ_=>Yc ⟨rfl,rfl,λu hu'=>hall u (Yq _ hu')⟩) (λ_=>?_)
  refine Ya (wpAny_eqIsQuiet_tuple hk ?_)
  refine YG (λz=>absurd z (by decide)) (λ_=>?_)
  refine Ya (wpAny_eqIsQuiet_tuple hy ?_)
  refine YG (λz=>absurd z (by decide)) (λ_=>?_)
  refine Ya (ZqX hk ?_)
  refine YG (λz=>absurd z (by decide)) (λ_=>?_)
  refine Ya (ZqX hy ?_)
  refine YG (λz=>absurd z (by decide)) (λ_=>?_)
  exact Yc ⟨rfl,rfl,λu hu'=>hall u (Yq _ hu')⟩
 ·rintro⟨r1,r2⟩ s' ⟨hr,rfl,_⟩
  simp only at hr
  subst hr
  exact Yc h
noncomputable def Zam (prog:Program) (w:World) (k:List Int):Int:=tupleKeyHash (intKind prog w) k
noncomputable def Zob (prog:Program) (w:World) (h:Heap) (es:Array (Int×Value)) (xs:List (List Int×Addr)):Prop:=es.toList=xs.map (λp=>(Zam prog w p.1,Value.ref p.2))/\∀p∈xs,IsTupleKey (intKind prog w) h p.1 p.2
theorem Zob.get {h:Heap}{xs:List (List Int×Addr)} (R:Zob prog w h es xs) {i:Nat} (hi:i<es.size):∃k y,xs[i]?=some (k,y)/\es[i]?=some (Zam prog w k,.ref y)/\IsTupleKey (intKind prog w) h k y:=by
 have e:=R.1
 have hl:es.size=xs.length:=by rw[<-Yp,e,Yj]
 refine⟨(xs[i]'(by omega)).1,(xs[i]'(by omega)).2,Ye (by omega),?_,R.2 _ (YL _)⟩
 rw[<-YQ,e,YD,Ye (by omega)];rfl
theorem Zo1 {k:List Int}{x:Addr}{xs:List (List Int×Addr)}{Q:SetFound->Shared->Prop} (hu:A.units<cLine) (hk:IsTupleKey (intKind prog w) s.heap k x) (hT:TabAt w s.heap a es ep t) (R:Zob prog w s.heap es xs)
  (hin:k∈xs.map (·.1)->Q (.there none) s) (hout:k∉xs.map (·.1)->∀j,j<=t.mask->t.slot j=.empty->Front t.mask (ZbU t) j (t.probeStart (Zam prog w k))->Q (.free j false) s) :
  ∀(n fuel:Nat) (stand:Option Probe),n<fuel->n<10*turns t.mask->Reach t n (stand.getD (t.probeStart (Zam prog w k))) ->
   (∀i y,xs[i]?=some (k,y)->Front t.mask (ZbU t) (t.place.getD i 0) (stand.getD (t.probeStart (Zam prog w k)))) ->
   (∀j,Front t.mask (ZbU t) j (stand.getD (t.probeStart (Zam prog w k)))->Front t.mask (ZbU t) j (t.probeStart (Zam prog w k))) ->
   wpAny (model prog w) A (setSearchFrom a (.ref x) (Zam prog w k) true fuel stand) Q E s:=by
 have hT0:=hT
 obtain⟨o,h1,h2,h3,h4,h5,h6⟩:=hT
 have hl:es.size=xs.length:=by rw[<-Yp,R.1,Yj]
 intro n
 induction n using Nat.strongRecOn with
 |ind n ih =>
  intro fuel stand hf hn hR hF hB
  obtain⟨fuel,rfl⟩:∃g,fuel=g+1:=⟨fuel-1,by omega⟩
  unfold setSearchFrom
  refine Ya (wpAny_setState_of h1 h3 h4.fits ?_)
  dsimp only
  refine YG (λz=>absurd z ?_) (λ_=>?_)
  ·unfold gaveWay
   rcases h4.mask with e|e|e|e|e<;>rw[e]<;>decide
  unfold probe
  rcases ZoW h4.no h4.rise (λi=>(es[i]?.map (·.1)).getD 0) (Zam prog w k) hR (10*turns t.mask) hn with⟨j,e,g1,g2,g3,g4⟩|⟨j,i,next,m,e,g1,g2,g3,g4,g5,g6,g7⟩
  ·generalize hG:probe.go t _ _ _ _=G
   have hG2:G=some (.empty j none):=hG.symm.trans e
   subst hG2
   refine Yc (hout (λhm=>?_) j g1 g2 (hB j g3))
   obtain⟨p,hp,ep⟩:=YN.mp hm
   obtain⟨i,hi,ei⟩:=YY hp
   have hx:xs[i]?=some (k,p.2):=by rw[Ye hi,ei,<-ep]
   obtain⟨k',y,q1,q2,_⟩:=R.get (i:=i) (by omega)
   rw[hx]at q1
   cases q1
   exact g4 i (by rw[h4.size];omega) (by rw[q2];rfl) (hF i _ hx)
  ·generalize hG:probe.go t _ _ _ _=G
   have hG2:G=some (.candidate j i next):=hG.symm.trans e
   subst hG2
   dsimp only
   obtain⟨k',y,q1,q2,q3⟩:=R.get (i:=i) (by rw[<-h4.size];exact g1)
   have go:wpAny (model prog w) A (do
     let some (_,y):=es[i]?|unsupported "internal:set-entry"
     let equal <-holding [y] (eqBool y (.ref x))
     let (es',_,t') <-setState a
     if true&&equal then return .there none
     let some smm:=t'.sameMemory t.moves t.mask|unsupported "set.changed-during-lookup:is-the-new-block-at-the-old-address"
     let still <-match (if smm then t'.slot j else .empty)with
      |.live i'=>match es'[i']? with
       |some (_,y')=>do pure (if <-isSame y' y then some i' else none)
       |none=>pure none
      |_=>pure none
     match still with
     |none=>rule "set.search.anew";setSearchFrom a (.ref x) (Zam prog w k) true fuel none
     |some i'=>if equal then return .there (some i')else setSearchFrom a (.ref x) (Zam prog w k) true fuel (some next)) Q E s:=by
    rw[q2]
    dsimp only
    refine Ya (YB ((tupleKind (intKind prog w)).eqBool hu q3 hk ?_))
    refine Ya (wpAny_setState_of h1 h3 h4.fits ?_)
    dsimp only
    by_cases hkk:k'=k
    ·rw[YO hkk]
     simp only[Bool.true_and,if_true]
     exact Yc (hin (hkk▸YN.mpr ⟨_,List.mem_of_getElem? q1,rfl⟩))
    ·rw[YI hkk]
     simp only[Bool.true_and,Bool.and_false,Bool.false_eq_true,if_false]
     have hsm:t.sameMemory t.moves t.mask=some true:=by unfold sameMemory;simp
     rw[hsm]
     dsimp only
     simp only[if_true]
     rw[g2]
     dsimp only
     rw[q2]
     dsimp only
     refine Ya (m:=isSame (.ref y) (.ref y)) (wpAny_of_eq (a:=true) (by unfold isSame;simp) ?_)
     refine Ya (Yc ?_)
     simp only[if_true]
     refine ih m g4 fuel (some next) (by omega) (by omega) g5 (λi' y' hx=>?_) (λj' F=>hB j' (g6 j' F))
     obtain⟨k2,y2,r1,r2,_⟩:=R.get (i:=i') (by
      have:=Ym.mp hx
      obtain⟨hh,_⟩:=this
      omega)
     rw[hx]at r1
     cases r1
     refine g7 i' (by rw[h4.size];obtain⟨hh,_⟩:=Ym.mp hx;omega) (by rw[r2];rfl) (λz=>hkk ?_) (hF i' _ hx)
     subst z
     rw[hx]at q1;cases q1;rfl
   refine YG (λ_=>?_) (λ_=>go)
   refine Ya (unseen hk _ (λv hv=>?_) ?_)
   ·obtain⟨e',he',rfl⟩:=YN.mp hv
    have he2:e'∈es.toList:=by
     have:=Array.mem_toList_iff.mp he'
     exact Array.mem_toList_iff.mpr (Array.mem_filter.mp this).1
    rw[R.1]at he2
    obtain⟨p,hp,rfl⟩:=YN.mp he2
    exact⟨p.1,p.2,rfl,R.2 p hp⟩
   ·refine YG (λz=>absurd z (by decide)) (λ_=>go)
noncomputable def ZeF (prog:Program) (w:World) (N:List Int->Addr->Prop) (o:Obj) (kss:List (List Int)):Prop :=
 ∃(es:Array (Int×Value)) (ep:Nat) (t:SetTable) (xs:List (List Int×Addr)),(o.ExactSet/\o.data=.set es ep t/\ST.Ok t es.size/\t.led=!w.params.followText "set-order"/\t.plain=true)/\Zij t es /\
  es.toList=xs.map (λp=>(Zam prog w p.1,Value.ref p.2))/\(∀p∈xs,N p.1 p.2)/\(xs.map (·.1)).Perm kss/\kss.Nodup
theorem ZeF.fresh (prog:Program) (w:World) (N:List Int->Addr->Prop):ZeF prog w N {cls:=.type "set",dict:=none,data:=.set #[] 0 (.fresh 0 0 (!w.params.followText "set-order"))} [] :=
 ⟨#[],0,_,[],⟨⟨rfl,rfl,rfl⟩,rfl,ZqS _ _ _,rfl,rfl⟩,λi e h=>(by cases h),rfl,λp hp=>(by cases hp),.refl _,.nil⟩
theorem ZtA {N:List Int->Addr->Prop}{o:Obj}{kss:List (List Int)}{k:List Int}{x:Addr}{Q:Bool->Shared->Prop} (hu:A.units<cLine) (h1:s.heap.get? a=some o) (hN:∀k y,N k y->IsTupleKey (intKind prog w) s.heap k y) (hk:N k x) (hS:ZeF prog w N o kss) (hroom:kss.length<1228)
  (h:∀b o' h' tk,Heap.SameBut a s.heap h'->h'.get? a=some o'->ZeF prog w N o' (if k∈kss then kss else k::kss)->Q b {s with heap:=h',toks:=tk}) :
  wpAny (model prog w) A (setAdd a (.ref x)) Q E s:=by
 have hkN:=hk
 replace hk:=hN k x hk
 unfold setAdd
 refine YB (Ya ((tupleKind (intKind prog w)).pyHash hu hk ?_))
 generalize s.toks+(tupleKind (intKind prog w)).draws k=tk0
 obtain⟨es,ep,t,xs,⟨h2,h3,h4,h5,h6⟩,hF,R0,RN,e3,e4⟩:=id hS
 have R:Zob prog w s.heap es xs:=⟨R0,λp hp=>hN _ _ (RN p hp)⟩
 have hl:es.size=xs.length:=by rw[<-Yp,R.1,Yj]
 have hlen:es.size=kss.length:=by rw[hl,<-Yj (f:=(·.1)),e3.length_eq]
 show wpAny _ _ (setAddHashed a (.ref x) (Zam prog w k)) _ _ _
 unfold setAddHashed setAddHashedIn
 refine YB (Ya (wpAny_setState_of (s:={s with toks:=tk0}) h1 h3 h4.fits ?_))
 dsimp only
 rw[show byScan (.ref x) es=false from rfl]
 simp only[Bool.false_eq_true,if_false]
 unfold setSearch
 obtain⟨n0,hn0,S0⟩:=h4.start (Zam prog w k)
 have hsm:n0<100000:=by
  have:=h4.mask
  unfold turns at hn0
  rcases this with e|e|e|e|e<;>rw[e]at hn0<;>omega
 refine Ya (Zo1 (s:={s with toks:=tk0}) (xs:=xs) hu hk ⟨o,h1,h2,h3,h4,h5,h6⟩ R (λhm=>?_) (λhm j g1 g2 g3=>?_) n0 100000 none hsm hn0 S0 (λi y hx=>?_) (λj F=>F))
 ·have hm':k∈kss:=e3.mem_iff.mp hm
  exact Yc (h false o s.heap tk0 (Heap.SameBut.refl a s.heap) h1 (by rw[Yd hm'];exact hS))
 ·have hm':k∉kss:=λz=>hm (e3.mem_iff.mpr z)
  dsimp only
  refine Ya (wpAny_setState_of (s:={s with toks:=tk0}) h1 h3 h4.fits ?_)
  dsimp only
  obtain⟨p1,p2,p3,p4,p5,p6,p7⟩:=Zo0 (k:=Zam prog w k) (x:=.ref x) h4 rfl (by omega) g1 g2
  have pF:=Zm4 (k:=Zam prog w k) (x:=.ref x) h4 hF g1 g2 g3
  have hdone:∀(es2:Array (Int×Value)) (ep2:Nat) (t2:SetTable),Ok t2 (es.size+1)->t2.led=t.led->t2.plain=t.plain->Zij t2 es2->es2.toList.Perm ((Zam prog w k,.ref x)::es.toList)->ZeF prog w N {o with data:=.set es2 ep2 t2} (if k∈kss then kss else k::kss):=by
   intro es2 ep2 t2 hO hl2 hp hF2 hq
   rw[Yb hm']
   have hsz:es2.size=es.size+1:=by rw[<-Yp,hq.length_eq,Yw,Yp]
   obtain⟨ys,y1,y2⟩:=Zhg (f:=λp:List Int×Addr=>(Zam prog w p.1,Value.ref p.2)) hq ((k,x)::xs) (by rw[YC,<-R.1])
   refine⟨es2,ep2,t2,ys,⟨h2,rfl,by rw[hsz];exact hO,hl2.trans h5,hp.trans h6⟩,hF2,y1,λp hp=>?_,(List.Perm.map (λp:List Int×Addr=>p.1) y2).trans (List.Perm.cons k e3),List.nodup_cons.mpr ⟨hm',e4⟩⟩
   rcases Yg.mp (y2.mem_iff.mp hp)with rfl|hp
   ·exact hkN
   ·exact RN p hp
  rw[show(t.put j).1.plain=true from p5.trans h6]
  simp only[if_true]
  refine Ya (by_val (s:={s with toks:=tk0}) hk ?_)
  simp only[if_true]
  refine Ya (wpAny_storeSet_of (s:={s with toks:=tk0}) h1 h3 ?_ (ZfF (by rw[p2];omega)))
  have k1:=Zoa h1 h3 (insertAt es (t.put j).2 (Zam prog w k,.ref x)) (t.put j).1
  have k2:=Heap.SameBut.update s.heap a (Obj.putSet (insertAt es (t.put j).2 (Zam prog w k,.ref x)) (t.put j).1)
  cases hf:(t.put j).1.tooFull with
  |false =>
   refine YG (λz=>absurd z (by decide)) (λ_=>?_)
   exact Yc (h true _ _ tk0 k2 k1 (hdone _ _ _ (p6 hf) p4 p5 pF p1))
  |true =>
   obtain⟨t2,order,r1,r2,r3,r4,r5,r6,r7,r8,r9⟩:=p7 hf
   refine YG (λ_=>?_) (λz=>absurd (by decide) z)
   unfold setRelay
   refine Ya ?_
   refine Ya (wpAny_setState_of (s:={s with toks:=tk0,heap:=s.heap.update a (Obj.putSet (insertAt es (t.put j).2 (Zam prog w k,.ref x)) (t.put j).1)}) k1 rfl (by rw[p2];exact p3) ?_)
   dsimp only
   refine YG (λz=>absurd z (Nat.not_lt.mpr (Yo r6 (by decide)))) (λ_=>?_)
   rw[r1]
   generalize insertAt es (t.put j).2 (Zam prog w k,.ref x)=es1 at p1 p2 k1 k2 r1 r7 r8 r9⊢
   have go:wpAny (model prog w) A (do
     let some (t,order):=(some (t2,order):Option (SetTable×Array Nat))|unsupported "internal:set-table-without-room"
     let es':=order.filterMap (es1[·]?)
     if es'.size != es1.size then unsupported "internal:set-table-lost-an-element"
     pure (es',t)) (λr s'=>wpAny (model prog w) A (storeSet a r.1 r.2) (λ_ s'=>wpAny (model prog w) A (pure true) Q E s') E s') E {s with heap:=s.heap.update a (Obj.putSet es1 (t.put j).1),toks:=tk0}:=by
    dsimp only
    refine YG (λz=>absurd z (by rw[r8,p2];simp)) (λ_=>?_)
    refine Yc ?_
    refine(wpAny_storeSet_of (s:={s with heap:=s.heap.update a (Obj.putSet es1 (t.put j).1),toks:=tk0}) k1 rfl ?_ (ZfF (by dsimp only;rw[r8];omega)))
    have k3:=Zoa k1 rfl (order.filterMap (es1[·]?)) t2
    have k4:=k2.trans (Heap.SameBut.update _ a (Obj.putSet (order.filterMap (es1[·]?)) t2))
    exact Yc (h true _ _ tk0 k4 k3 (hdone _ _ _ r2 r3 r4 r9 r7))
   exact Ya go
 ·obtain⟨k2,y2,q1,q2,_⟩:=R.get (i:=i) (by obtain⟨hh,_⟩:=Ym.mp hx;omega)
  rw[hx]at q1
  cases q1
  exact hF i _ q2
end
end ST
namespace L2
open PySem PySem.Spec PyProof.Rows PySem.W
theorem Zik {P:Program}{w:World}:∀{ks:List Int}{us:List Value},Vals (ks.map V.int) us->ItemsAre (intKind P w) ks us
 |[],_,.nil=>.nil
 |k::ks,_,.cons e r=>by
  obtain⟨t,rfl⟩:=(show ∃t,_=Value.int k t from e)
  exact .cons (intKind_is _ _ _ _) (Zik r)
theorem ZqY {P:Program}{w:World}{H:Hp}{h:Heap}{q:Addr}{k:List Int} (hok:HOk P w H h) (hq:H q=some (.tup (k.map V.int))):IsTupleKey (intKind P w) h k q:=by
 obtain⟨_,its,hv,o,e,hc,n,hd⟩:=hok q _ hq
 exact⟨o,its.toArray,n,e,hc,hd,by simpa using Zik hv⟩
theorem ZkG (elt target iter:Expr) (ifs:List Expr) (scope:Scope) (pos:Pos) (it acc:Value) (env:Env) :
  compTurn (.SetComp elt [⟨target,iter,ifs,0⟩] scope pos) 0 it acc env=(do
   standAt iter.pos
   match <-pyNext it with
   |none=>pure (.done .next)
   |some v =>
    letOwnedTupleGo target it v
    assign target env v
    let mut ok:=true
    for c in ifs do
     if ok then ok <-isTrue c env (eval c env)
    if ok then
     (do let v <-eval elt env;standAt elt.pos;let _ <-call (.builtin "set.add") [acc,v])
    again (.compLoop (.SetComp elt [⟨target,iter,ifs,0⟩] scope pos) 0 it acc env)):=by rfl
theorem ZlP {prog:Program}{w:World}{A:Around}{R:Result->Shared->Prop}{s:Shared}{elt target iter:Expr}{ifs:List Expr}{scope:Scope}{pos:Pos}{it acc:Value}{env:Env} (I:Nat->Shared->Prop)
  (turn:∀n s,I n s->wpAny (model prog w) A (pyNext it) (λr s₁=>match r with
   |none=>R (.ok .next) s₁
   |some v=>wpAny (model prog w) A (letOwnedTupleGo target it v) (λ_ s₁=>wpAny (model prog w) A (assign target env v) (λ_ s₂ =>
     wpAny (model prog w) A (forIn ifs true λc r=>if r=true then do let ok <-isTrue c env (eval c env);pure (ForInStep.yield ok)else pure (ForInStep.yield r)) (λok s₃ =>
      if ok=true then wpAny (model prog w) A (eval elt env) (λx s₄ =>
       wpAny (model prog w) A (call (.builtin "set.add") [acc,x]) (λ_ s₅=>∃m,m<n/\I m s₅) (λ_ _=>False) s₄) (λ_ _=>False) s₃
      else ∃m,m<n/\I m s₃) (λ_ _=>False) s₂) (λ_ _=>False) s₁) (λ_ _=>False) s₁) (λ_ _=>False) s)
  (n:Nat) (h:I n s) :
  codeAny (model prog w) A (.compLoop (.SetComp elt [⟨target,iter,ifs,0⟩] scope pos) 0 it acc env) R s:=by
 refine codeAny_loop rfl I (λn s hI=>?_) n h
 show wpAny _ A ((compTurn (.SetComp elt [⟨target,iter,ifs,0⟩] scope pos) 0 it acc env).onRaise (λx=>do noteFrame x env;theTreesLotGoes x)) _ _ s
 refine wpAny_noted ?_
 rw[ZkG]
 refine Ya (wpAny_standAt (Ya (Yz (turn n s hI) (λr s₁ h₁=>?_) λ_ _ h'=>h'.elim)))
 cases r with
 |none=>exact Yc h₁
 |some v =>
  refine Ya (Yz h₁ (λ_ s₁' h₁=>?_) λ_ _ h'=>h'.elim)
  refine Ya (Yz h₁ (λ_ s₂ h₂=>Ya (Yz h₂ (λok s₃ h₃=>?_) λ_ _ h'=>h'.elim)) λ_ _ h'=>h'.elim)
  cases ok with
  |false=>exact Yc ⟨rfl,h₃⟩
  |true =>
   exact Ya (Ya (Yz h₃ (λx s₄ h₄=>Ya (wpAny_standAt (Ya (Yz h₄ (λ_ s₅ h₅=>Yc (Yc ⟨rfl,h₅⟩)) λ_ _ h'=>h'.elim)))) λ_ _ h'=>h'.elim))
theorem ZqZ {prog:Program}{w:World}{A:Around}{R:Result->Shared->Prop}{s:Shared} {elt target iter ifs rest scope pos it acc env}
  (h0:codeAny (model prog w) A (.compLoop (.SetComp elt (⟨target,iter,ifs,0⟩::rest) scope pos) 0 it acc env) R s)
  (h:wpAny (model prog w) A (pyIter it) (λit' s'=>codeAny (model prog w) A (.compLoop (.SetComp elt (⟨target,iter,ifs,0⟩::rest) scope pos) 0 it' acc env) R s') (notedBy (model prog w) A env λx s'=>R (.error x) s') s) :
  codeAny (model prog w) A (.compStart (.SetComp elt (⟨target,iter,ifs,0⟩::rest) scope pos) 0 it acc env) R s:=by
 refine codeAny_of_tree ?_
 show wpAny _ _ ((compStart (.SetComp elt (⟨target,iter,ifs,0⟩::rest) scope pos) 0 it acc env).onRaise (λx=>do noteFrame x env;standAt theWindowsPlace)) _ _ s
 refine wpAny_notedAt ?_
 unfold compStart
 show wpAny _ _ (ask >>= _) _ _ s
 refine Ya (wpAny_askSetting (wpAny_ite ?_))
 split
 ·first
   |exact Ya (Yc (Yc (And.intro rfl h0)))
   |exact Yc (And.intro rfl h0)
 ·first
   |exact Ya (wpAny_rule (Ya (wpAny_standAt (Ya (Yz h (λit' s' h'=>Yc (And.intro rfl h')) λ_ _ x=>x)))))
   |(refine Ya (wpAny_rule ?_);show wpAny _ _ (standAt iter.pos >>= _) _ _ s;exact Ya (wpAny_standAt (Ya (Yz h (λit' s' h'=>Yc (And.intro rfl h')) λ_ _ x=>x))))
theorem Zm5 {prog:Program}{w:World}{A:Around}{E:Value->Shared->Prop}{s:Shared}{Q:Value->Shared->Prop} (h:Q (.ref s.heap.objs.size) {s with heap:=s.heap.push {cls:=.type "set",dict:=none,data:=.set #[] 0 (.fresh 0 0 (!w.params.followText "set-order"))}}) :
  wpAny (model prog w) A (newSet (.type "set")) Q E s:=by
 unfold newSet setsByText
 refine Ya (Ya (wpAny_askSetting (Yc ?_)))
 dsimp only
 simp only[newObj]
 exact Ya (wpAny_alloc (Yc h))
section
variable {X:Cx}
noncomputable def Zoc (J:It) (g:TG) (tt:TT) (te:TE) (σ0:St) (F:List (List Int)->Hp->Prop) (H1:Hp):Prop:=∃W:Nat->Nat->List (List Int)->Hp->Prop,(∃m,W 0 m [] H1)/\∀i m kss H,W i m kss H ->
 (J.stop i H/\kss.length<1000/\F kss H) \/
 (J.go i H/\kss.length<1000/\∀x H',J.yld i H x H'->g x σ0 H' fun σ2 H2=>tt σ2 H2 λb H3=>if b=true then te σ2 H3 λv H4=>∃q k,v=.ref q/\H1 q=some (.tup (k.map V.int))/\∃m',m'<m/\W (i+1) m' (kss++[k]) H4 else ∃m',m'<m/\W (i+1) m' kss H3)
theorem Zq0 {pins:List (Addr×Obj)}{σ:St}{H:Hp}{s:Shared}{tg elt iter:Expr}{ifs:List Expr}{scope:Scope}{pos:Pos}{wi:TI}{g:TG}{tt:TT}{te:TE}{Nc:List Str}{js:List (Option Nat)}{F:List (List Int)->Hp->Prop}{QQ:Value->Shared->Prop}
  (hc:X.calm=true) (hun:X.A.units+100<cLine) (hok:compOk X.env.scope scope=true) (htk:takesC X.N Nc scope js 0=true) (hi:PI X tg iter wi)
  (hg:∀cl C s2 H2 fp,PG (ZbT X Nc scope cl C s2 H2 fp) tg g) (ht:∀cl C s2 H2 fp,Zkh (ZbT X Nc scope cl C s2 H2 fp) ifs tt) (he:∀cl C s2 H2 fp,PE (ZbT X Nc scope cl C s2 H2 fp) elt te)
  (hs:∀x,foldedSetIterable iter X.env x=pure x) {L:List Nat} (ho:ZjG g L) (hL:(L.all λk=>js[k]?==some none)=true) (I:Inv X pins σ H s) (h:wi σ H λJ H1=>Zoc J g tt te (ZM js σ) F H1)
  (fin:∀(D:Addr) (o:Obj) (ds kss:List (List Int)) (H2 H3:Hp) (s':Shared),Inv X pins σ H3 s'->s'.heap.get? D=some o->ST.ZeF X.prog X.w (λk y=>H2 y=some (.tup (k.map V.int))) o ds->(∀y ks,H2 y=some (.tup ks)->H3 y=some (.tup ks))->(∀k,k∈ds↔k∈kss)->F kss H3->QQ (.ref D) s') :
  wpAny (model X.prog X.w) X.A (comprehension (.SetComp elt [⟨tg,iter,ifs,0⟩] scope pos) scope X.env (firstIterPos [⟨tg,iter,ifs,0⟩] pos) (newSet (.type "set")) false (eval iter X.env) none) QQ X.xe s:=by
 have hcells:∀y∈scope.names,y.2=.free->∃c,X.env.cells.lookup y.1=some c:=λy hy hf=>I.ok.has y.1 (ZcG hok y hy hf)
 obtain⟨cl,hcl,up,hfr⟩:=ZhT hcells
 have hk:=ZcE hok
 have hcell:=ZcF hok
 refine wpAny_comprehension_free (use:=none) rfl hs hcl hk (Zkg hok) (thn (hi pins s σ H _ I h) λv s1 h1=>thn h1 λitv s2 h2=>?_)
 obtain⟨it,fp,tn,J,H2,e,I2,T,st2,f2,W,⟨m0,w0⟩,turn⟩:=h2
 subst e
 refine Zm5 (wpAny_newFunctionEnv hcell (by intro y hy;simp at hy) (λh₁ hns₁ hsb₁=>?_) hk)
 dsimp only at hns₁ hsb₁⊢
 generalize hH2:s2.heap.push {cls:=.type "set",dict:=none,data:=.set #[] 0 (.fresh 0 0 (!X.w.params.followText "set-order"))}=HH at hns₁ hsb₁⊢
 have hC:HH.objs.size=s2.heap.objs.size+1:=by rw[<-hH2,Heap.size_push]
 have hfl:∀b∈fp,b<s2.heap.objs.size:=λb hb=>by
  obtain⟨o,ho,_⟩:=T.obj 0 _ st2 b hb
  exact Yh ho
 have hDC:s2.heap.objs.size≠HH.objs.size:=by rw[hC];exact Yk (Nat.lt_succ_self _)
 have old:∀b o,s2.heap.get? b=some o->h₁.get? b=some o:=λb o e=>hsb₁.extBut b o (by rw[hC];exact Yk (YM (Yh e))) (Yi _ (hH2▸Yi _ e))
 have hacc:h₁.get? s2.heap.objs.size=some {cls:=.type "set",dict:=none,data:=.set #[] 0 (.fresh 0 0 (!X.w.params.followText "set-order"))}:=hsb₁.extBut _ _ hDC (Yi _ (hH2▸Yt _ rfl))
 have I4:=Zmx (Nc:=Nc) (js:=js) (tk:=s2.toks+([]:List (Str×Value)).length) I2 hok htk up hfr f2 hfl rfl hC old hns₁ hacc (by intro v z;cases z)
 have st4:tn 0 h₁:=T.keep _ _ _ st2 λb _ o e=>old b o e
 generalize hXc:ZbT X Nc scope cl HH.objs.size s2 H2 fp=Xc at I4
 have hXA:Xc.A=X.A:=by rw[<-hXc];rfl
 have hXe:Xc.env=compEnvC scope cl HH.objs.size X.env:=by rw[<-hXc];rfl
 have hXp:Xc.prog=X.prog:=by rw[<-hXc];rfl
 have hXw:Xc.w=X.w:=by rw[<-hXc];rfl
 have hXx:Xc.xe=λ_ _=>False:=by rw[<-hXc];rfl
 have hXk:Xc.K=X.K:=by rw[<-hXc];rfl
 have hXcalm:Xc.calm=true:=by rw[<-hXc];exact hc
 have fpok:∀{pl:List (Addr×Obj)}{H':Hp},(∀p∈pl,s2.heap.objs.size<=p.1)->(∀b∈fp,H' b=none)->∀b∈fp,FpOk Xc pl H' b:=λ{pl H'} hpl hn b hb=>by
  have k1:b≠HH.objs.size:=Yk (by rw[hC];exact YM (hfl b hb))
  have k2:b∉frs X.stack:=λq=>by
   rcases Yg.mp (I2.Zeq b q)with z|z
   ·exact(f2 b hb).2.1 z
   ·exact(f2 b hb).2.2.1 z
  rw[<-hXc]
  refine⟨hn b hb,k1,k2,.inl hb,λx c e=>(f2 b hb).2.2.2.2.1 x c (up _ _ e),λp hp=>?_⟩
  have hp':p∈pl:=by simpa[ZbT]using hp
  exact Nat.ne_of_gt (Yv (hfl b hb) (hpl p hp'))
 have gX:PG Xc tg g:=hXc▸hg cl HH.objs.size s2 H2 fp
 have tX:Zkh Xc ifs tt:=hXc▸ht cl HH.objs.size s2 H2 fp
 have eX:PE Xc elt te:=hXc▸he cl HH.objs.size s2 H2 fp
 have hs0:Xc.s₀=s2:=by rw[<-hXc];rfl
 have hh0:Xc.H₀=H2:=by rw[<-hXc];rfl
 have hfs:Xc.fs=frs X.stack:=by rw[<-hXc];rfl
 have hex:Xc.ex=fp:=by rw[<-hXc];rfl
 have loop:codeAny (model X.prog X.w) X.A (.compLoop (.SetComp elt [⟨tg,iter,ifs,0⟩] scope pos) 0 (.ref it) (.ref s2.heap.objs.size) (compEnvC scope cl HH.objs.size X.env)) (compPost (model X.prog X.w) X.A X.xe none QQ (.ref s2.heap.objs.size) HH.objs.size)
   {s2 with heap:=h₁,toks:=s2.toks+([]:List (Str×Value)).length}:=by
  refine ZlP (λn s'=>∃i kss ds o H',Inv Xc [(s2.heap.objs.size,o)] (ZM js σ) H' s'/\(∀v,o.data≠.cell v)/\ST.ZeF X.prog X.w (λk y=>H2 y=some (.tup (k.map V.int))) o ds/\(∀k,k∈ds↔k∈kss)/\ds.length<=kss.length/\tn i s'.heap/\(∀b∈fp,H' b=none)/\W i n kss H') ?_ m0
   ⟨0,[],[],_,H2,I4,(by intro v z;cases z),ST.ZeF.fresh _ _ _,λk=>Iff.rfl,Yf _,st4,λb hb=>(f2 b hb).1,w0⟩
  rintro n s3 ⟨i,kss,ds,o,H3,I3,hcl0,hob,hds,hlen,st3,fr3,w3⟩
  have pg:∀p∈([(s2.heap.objs.size,o)]:List (Addr×Obj)),s2.heap.objs.size<=p.1:=λp hp=>by
   simp only[Yg,List.not_mem_nil,or_false]at hp
   subst hp;exact Yf _
  rcases turn i n kss H3 w3 with⟨stop,hl,qn⟩|⟨go,hl,step⟩
  ·have q:=T.done Xc hXp hXw hXk hXcalm i _ s3 (ZM js σ) H3 (λ_ _=>False) I3 (fpok pg fr3) st3 stop
   rw[hXA]at q
   refine thn q λr s4 ⟨hr,I5⟩=>?_
   subst hr
   have hpin:=I5.pin _ (Yl _ (.head _))
   obtain⟨m5,hn5,_⟩:=I5.loc
   rw[hXe]at hn5
   refine⟨m5,hn5,λh' hsb=>?_⟩
   have same:∀b o,b≠HH.objs.size->s4.heap.get? b=some o->h'.get? b=some o:=λb o hb e=>hsb.extBut b o hb e
   have un:=I5.base
   rw[hfs,hex,hh0,hs0]at un
   have lt:∀b o,s2.heap.get? b=some o->b<s2.heap.objs.size:=λb o e=>Yh e
   have neC:∀b o,s2.heap.get? b=some o->b≠HH.objs.size:=λb o e=>Yk (by rw[hC];exact YM (lt b o e))
   have trkC:∀b o,H3 b=some o->b≠HH.objs.size:=λb o e z=>by
    have:=I5.free;rw[hXe]at this;rw[z,show H3 HH.objs.size=none from this]at e;cases e
   have J3:Inv X pins σ H3 {s4 with heap:=h'}:=by
    refine I2.Znu (s':={s4 with heap:=h'}) (ch:=fp) (I5.os.trans (by rw[hs0])) ⟨λb o e n hb hx=>same _ _ (neC b o e) (un.keep b o e n hb hx),λb o e n hb hx=>?_,λb o e n hx=>un.free b o e n hx,λb o e hx=>?_,λb xs e=>un.tups b xs e,λb o u e=>un.frzs b o u e,λb ps e=>un.tbls b ps e⟩ (λa o e=>?_) I5.bare λb hb=>⟨(f2 b hb).2.2.2.1,(f2 b hb).2.1,(f2 b hb).2.2.2.2⟩
    ·obtain⟨sl,z⟩:=un.slot b o e n hb hx
     exact⟨sl,same _ _ (neC b o e) z⟩
    ·obtain⟨o',z⟩:=un.there b o e hx
     exact⟨o',same _ _ (neC b o e) z⟩
    ·have q:=I5.hok a o e
     rw[hXp,hXw]at q
     refine q.Zf1 (λb u hb z=>same b u ?_ z) (λb z=>z) (λb xs z=>z) λb o u z=>z
     rcases hb with hb|hb
     ·subst hb;exact trkC _ _ e
     ·exact trkC _ _ hb
   exact fin _ o ds kss H2 H3 _ J3 (same _ _ hDC hpin.1) hob (λy ks e=>un.tups y ks e) hds qn
  ·have q:=T.item Xc hXp hXw hXk hXcalm i _ s3 (ZM js σ) H3 (λ_ _=>False) I3 (fpok pg fr3) st3 go
   rw[hXA]at q
   refine thn q λr s4 ⟨u,hr,h4⟩=>?_
   subst hr
   refine thn h4 λ_ s5 ⟨x,H5,I5,r5,y5,st5,fr5⟩=>?_
   have I5':=I5.pinned (fpok pg fr5) (T.obj _ _ st5)
   have again:∀{σ7:St}{H7:Hp}{s7:Shared}{kss7 ds7:List (List Int)}{o7:Obj}{m:Nat},Inv Xc ([(s2.heap.objs.size,o7)]++ZbS fp s5.heap) σ7 H7 s7->(∀v,o7.data≠.cell v)->ST.ZeF X.prog X.w (λk y=>H2 y=some (.tup (k.map V.int))) o7 ds7->(∀k,k∈ds7↔k∈kss7)->ds7.length<=kss7.length->W (i+1) m kss7 H7->σ7.length=(ZM js σ).length->(∀(k:Nat) v,(ZM js σ)[k]?=some (some v)->σ7[k]?=some (some v)) ->
     ∃i kss ds o H',Inv Xc [(s2.heap.objs.size,o)] (ZM js σ) H' s7/\(∀v,o.data≠.cell v)/\ST.ZeF X.prog X.w (λk y=>H2 y=some (.tup (k.map V.int))) o ds/\(∀k,k∈ds↔k∈kss)/\ds.length<=kss.length/\tn i s7.heap/\(∀b∈fp,H' b=none)/\W i m kss H':=λ{σ7 H7 s7 kss7 ds7 o7 m} I7 v7 b7 d7 l7 w7 hl7 hw7=>by
    refine⟨i+1,kss7,ds7,o7,H7,(I7.weak hl7.symm hw7).Zds,v7,b7,d7,l7,T.keep _ _ _ st5 λb hb o e=>(I7.pin (b,o) (Yl _ (Yl _ (Zbd hb e)))).1,λb hb=>?_,w7⟩
    obtain⟨o,e,d⟩:=T.obj _ _ st5 b hb
    exact(I7.pin (b,o) (Yl _ (Yl _ (Zbd hb e)))).2.1
   have keep:∀{σ6:St},Zmy L (ZM js σ) σ6->σ6.length=(ZM js σ).length/\∀(k:Nat) v,(ZM js σ)[k]?=some (some v)->σ6[k]?=some (some v):=λ{σ6} hk=>⟨hk.1,λk v e=>by
    rw[hk.2 k]
    ·exact e
    ·intro z
     have q:=List.all_eq_true.mp hL k z
     simp only[beq_iff_eq]at q
     unfold ZM at e
     rw[YD,q]at e
     cases e⟩
   have q6:=gX _ s5 (ZM js σ) H5 x u _ I5' r5 (ho _ _ _ _ _ (fun σ' H' kk z=>And.intro kk z) (step x H5 y5))
   rw[hXe,hXA,hXp,hXw,hXx]at q6
   refine thn q6 λ_ s6 ⟨σ6,H6,I6,k6,q6⟩=>?_
   obtain⟨kl,kv⟩:=keep k6
   have q7:=tX _ s6 σ6 H6 _ I6 q6
   rw[hXe,hXA,hXp,hXw,hXx]at q7
   refine thn q7 λb s7 ⟨H7,I7,q7⟩=>?_
   cases b with
   |false =>
    obtain⟨m',hm,w7⟩:=q7
    exact⟨m',hm,again I7 hcl0 hob hds hlen w7 kl kv⟩
   |true =>
    have q8:=eX _ s7 σ6 H7 _ I7 q7
    rw[hXe,hXA,hXp,hXw,hXx]at q8
    refine thn q8 λy s8 ⟨v8,H8,I8,r8,q,k,e8,hq2,m',hm,w8⟩=>?_
    subst e8
    cases(show y=Value.ref q from r8)
    have pinD:=I8.pin _ (Yl _ (YR _ (.head _)))
    have hnf:∀p∈ZbS fp s5.heap,p.1≠s2.heap.objs.size:=λp hp=>by
     obtain⟨z,_⟩:=ZgB hp
     exact Yk (hfl _ z)
    have hXpn:Xc.pn=[]:=by rw[<-hXc];rfl
    have un:=I8.base
    rw[hfs,hex,hh0,hs0]at un
    have hok8:=I8.hok
    rw[hXp,hXw]at hok8
    have hTy:s8.TypeIs (.ref s2.heap.objs.size) "set":=by
     obtain⟨es,ep,t,xs,⟨⟨h1,_⟩,_⟩,_⟩:=hob
     exact⟨o,pinD.1,h1⟩
    refine wpAny_call_entry PySem.F.slot_set_add hTy PySem.F.entry_set_add ?_ (PySem.F.args_set_add_2 _ _)
    unfold Builtin.«set.add» Builtin.Frozenset.oneOther
    simp only[List.isEmpty_nil,bind_assoc]
    unfold Builtin.Frozenset.addrOf
    refine Ya (Yc ?_)
    try dsimp only
    refine Ya (Yc ?_)
    try dsimp only
    refine Ya (ST.ZtA (N:=λk y=>H2 y=some (.tup (k.map V.int))) (o:=o) (by show X.A.units+1<cLine;omega) pinD.1 (λk y e=>ZqY hok8 (un.tups y _ e)) hq2 hob (by omega) λb o' h' tk hsb hg' hob'=>?_)
    show wpAny _ _ (ret Value.none) _ _ _
    refine Yc ⟨_,rfl,m',hm,?_⟩
    have I8':Inv Xc (ZbS fp s5.heap) σ6 H8 s8:=I8.Zy λp hp=>I8.pin p (Yl _ (Yl _ hp))
    have I9:=I8'.turned (t':=tk) (it:=s2.heap.objs.size) (h':=h') (λb o hb e=>(hsb.2 b hb).trans e) pinD.2.1 pinD.2.2.1
     (.inr (by rw[hs0];exact Yf _)) (λx c e=>by
      rw[hXe]at e
      intro z
      obtain⟨v,q⟩:=I2.cell x c (up _ _ e)
      exact absurd q.lt (by rw[z];exact YJ _)) (λp hp=>by rw[hXpn,List.nil_append]at hp;exact hnf p hp)
    have hcl1:∀v,o'.data≠.cell v:=by
     obtain⟨es,ep,t,xs,⟨_,h1,_⟩,_⟩:=hob'
     rw[h1];intro v z;cases z
    have I10:=I9.Zy (pins':=[(s2.heap.objs.size,o')]++ZbS fp s5.heap) λp hp=>by
     rcases YE.mp hp with z|z
     ·simp only[Yg,List.not_mem_nil,or_false]at z
      subst z
      exact⟨hg',pinD.2.1,pinD.2.2.1,pinD.2.2.2.1,hcl1⟩
     ·exact I9.pin p (Yl _ z)
    refine again I10 hcl1 hob' (λk'=>?_) ?_ w8 kl kv
    ·rw[YE,Y6,<-hds k']
     split
     ·rename_i hm
      exact⟨.inl,λz=>z.elim id λz=>z▸hm⟩
     ·rw[Yg]
      exact⟨λz=>z.elim .inr .inl,λz=>z.elim .inr .inl⟩
    ·rw[YT,List.length_singleton]
     split
     ·omega
     ·rw[Yw];omega
 exact ZqZ loop (T.self _ 0 _ _ _ st4 loop)
theorem Zo2 {A:Around}{E:Value->Shared->Prop}{s:Shared}{prog:Program}{w:World}{a:Addr}{o:Obj}{N:List Int->Addr->Prop}{ds:List (List Int)}{R:List Value->Shared->Prop} (hh:A.handled=none) (ho:s.heap.get? a=some o) (hS:ST.ZeF prog w N o ds) (hn:ds.length<1228)
  (k:∀(h':Heap) (tk:Nat) (as:List Addr) (rs:List (List Int)),(∀b o,s.heap.get? b=some o->h'.get? b=some o)->s.heap.objs.size<h'.objs.size->as.length=rs.length->(∀i (h1:i<as.length) (h2:i<rs.length),N rs[i] as[i])->rs.Perm ds->R (as.map Value.ref) {s with heap:=h',toks:=tk}) :
  wpAny (model prog w) A (collect (.ref a)) R E s:=by
 obtain⟨es,ep,t,xs,⟨g1,g2,g3,g4,g5⟩,hF,e1,e2,e3,e4⟩:=hS
 have hT:ST.TabAt w s.heap a es ep t:=⟨o,ho,g1,g2,g3,g4,g5⟩
 have hsz:es.size=xs.length:=by rw[<-Yp,e1,Yj]
 have hxs:xs.length=ds.length:=by rw[<-e3.length_eq,Yj]
 have hlt:∀h,ST.TabAt w h a es ep t->a<h.objs.size:=λh x=>by obtain⟨o,eo,_⟩:=x;exact Yh eo
 refine Zkx (ST.Ztz (prog:=prog) hlt) hh hT (ST.ZfF (by omega)) λh' tk acc hk hlt' hacc=>?_
 obtain⟨ys,y1,y2⟩:=ST.Zhg (f:=λp:List Int×Addr=>(ST.Zam prog w p.1,Value.ref p.2)) (ST.Zii w a ep es) xs e1
 have hyl:ys.length=xs.length:=y2.length_eq
 have ea:acc.toList=(ys.map (·.2)).map Value.ref:=by
  apply List.ext_getElem?
  intro j
  by_cases hj:j<acc.toList.length
  ·obtain⟨e,f1,f2⟩:=hacc.2 j acc.toList[j] (by rw[<-YQ,Ye hj])
   rw[<-YQ,y1,YD]at f1
   cases hy:ys[j]? with
   |none=>rw[hy]at f1;cases f1
   |some p =>
    rw[hy]at f1
    have f1:(ST.Zam prog w p.1,Value.ref p.2)=e:=YA f1
    subst f1
    rw[Ye hj,YD,YD,hy,f2];rfl
  ·rw[List.getElem?_eq_none (by omega),List.getElem?_eq_none]
   rw[Yp,hacc.1]at hj
   rw[Yj,Yj];omega
 rw[ea]
 refine k h' tk (ys.map (·.2)) (ys.map (·.1)) hk hlt' (by simp) (λi h1 h2=>?_) ((List.Perm.map (λp:List Int×Addr=>p.1) y2).trans e3)
 rw[List.getElem_map,List.getElem_map]
 exact e2 _ (y2.mem_iff.mp (YL _))
theorem Zil:∀r:List Int,lxI r r=false
 |[]=>rfl
 |x::r=>by rw[Zdz,Yd rfl];exact Zil r
theorem ZjY:∀r r':List Int,lxI r r'=false->lxI r' r=false->r=r'
 |[],[],_,_=>rfl
 |[],_::_,h,_=>by cases h
 |_::_,[],_,h=>by cases h
 |x::r,y::r',h1,h2=>by
  rw[Zdz]at h1 h2
  by_cases e:x=y
  ·subst e
   rw[Yd rfl]at h1 h2
   rw[ZjY r r' h1 h2]
  ·rw[Yb e]at h1
   rw[Yb (λz=>e z.symm)]at h2
   have:=of_decide_eq_false h1
   have:=of_decide_eq_false h2
   omega
noncomputable def Zod (H:Hp) (Q:VK) (kss:List (List Int)) (H3:Hp):Prop:=kss.length<64/\(∀k∈kss,k≠[])/\∀(rs:List (List Int)) (l:Addr) (H':Hp),(∀r,r∈rs↔r∈kss)->rs.Pairwise (λx y=>lxI x y=true)->H3 l=none->Ze H3 H'->Zck H' l rs->Q (.ref l) H'
noncomputable def ZjZ (wi:TI) (g:TG) (tt:TT) (te:TE) (js:List (Option Nat)):TE:=fun σ H Q=>wi σ H λJ H1=>Zoc J g tt te (ZM js σ) (Zod H Q) H1
theorem Zm6:∀{a b:List (List Int)},a.Nodup->(∀x∈a,x∈b)->a.length<=b.length
 |[],b,_,_=>Yu _
 |x::a,b,hn,hs=>by
  obtain⟨h1,h2⟩:=List.nodup_cons.mp hn
  have hx:=hs x (.head _)
  have h3:=Zm6 h2 (b:=b.erase x) λy hy=>(List.mem_erase_of_ne (λe:y=x=>h1 (e▸hy))).mpr (hs y (.tail _ hy))
  have h4:=List.length_erase_of_mem hx
  have h5:=List.length_pos_of_mem hx
  rw[Yw];omega
theorem ZlQ {tg elt iter:Expr}{ifs:List Expr}{scope:Scope}{p1 ps pos:Pos}{wi:TI}{g:TG}{tt:TT}{te:TE}{m:Nat} (Nc:List Str) (js:List (Option Nat)) {L:List Nat}
  (hc:X.calm=true) (hr:Room m X.A) (hgs:Gl X "sorted") (hms:X.mg "sorted"=none) (hok:compOk X.env.scope scope=true) (htk:takesC X.N Nc scope js 0=true) (hi:PI X tg iter wi)
  (hg:∀cl C s2 H2 fp,PG (ZbT X Nc scope cl C s2 H2 fp) tg g) (ht:∀cl C s2 H2 fp,Zkh (ZbT X Nc scope cl C s2 H2 fp) ifs tt) (he:∀cl C s2 H2 fp,PE (ZbT X Nc scope cl C s2 H2 fp) elt te)
  (ho:ZjG g L) (hL:(L.all λk=>js[k]?==some none)=true:=by rfl) (hs:∀x,foldedSetIterable iter X.env x=pure x:=by intro _;rfl)
  (hs2:starEach [.SetComp elt [⟨tg,iter,ifs,0⟩] scope pos] X.env=(false,eval (.SetComp elt [⟨tg,iter,ifs,0⟩] scope pos) X.env)::starEach [] X.env:=by rfl) :
  PE X (.Call (.Name "sorted" p1) [.SetComp elt [⟨tg,iter,ifs,0⟩] scope pos] [] ps) (ZjZ wi g tt te js):=by
 intro pins s σ H Q I h
 have hun:X.A.units+100<cLine:=by have:=hr.un;omega
 have hh:X.A.handled=none:=I.ok.hd hc
 refine wpAny_Call_Name_kw (ZbR I hgs hms ZjO ?_)
 refine PyProof.Rows.callWith_builtin1 ?_ hs2 (by rfl)
 rw[hs2]
 show wpAny _ _ (spliced ((false,eval (.SetComp elt [⟨tg,iter,ifs,0⟩] scope pos) X.env)::backTo ps (starEach [] X.env))) _ _ s
 refine Calls.spliced_cons ?_
 show wpAny _ _ (comprehension (.SetComp elt [⟨tg,iter,ifs,0⟩] scope pos) scope X.env (firstIterPos [⟨tg,iter,ifs,0⟩] pos) (newSet (.type "set")) false (eval iter X.env) none) _ _ s
 refine Zq0 hc hun hok htk hi hg ht he hs ho hL I h λD o ds kss H2 H3 s' I3 hD hob hk2 hds ⟨hl,hne,fin⟩=>?_
 refine Calls.spliced_nil ?_
 have hdl:ds.length<64:=by
  have hnd:ds.Nodup:=by obtain⟨_,_,_,_,_,_,_,_,_,z⟩:=hob;exact z
  have:=Zm6 hnd λx hx=>(hds x).mp hx
  omega
 have hnd:ds.Nodup:=by obtain⟨_,_,_,_,_,_,_,_,_,z⟩:=hob;exact z
 refine Calls.call_function_entry kind_sorted plain_sorted entry_sorted (args_sorted1 _) ?_
 unfold Builtin.«sorted»
 refine Ya (m:=checkCount "sorted" 1 1 _) (Yc ?_)
 refine Ya (Zo2 (A:=X.A.in1) hh hD hob (by omega) λh2 tk2 as rs hkp hlt hal hN hP=>?_)
 have hrl:rs.length=ds.length:=hP.length_eq
 have I4:Inv X pins σ H3 {s' with heap:=h2,toks:=tk2}:=I3.kept hkp
 have hH3:∀i (h1:i<as.length) (h2:i<rs.length),H3 as[i]=some (.tup (rs[i].map V.int)):=λi h1 h2=>hk2 _ _ (hN i h1 h2)
 have hPr:∀i (h1:i<as.length) (h3:i<rs.length),PtW h2 (Value.ref as[i]) rs[i]:=λi h1 h3=>by
  obtain⟨_,tv,hv,o,g,c,n,d⟩:=I4.hok _ _ (hH3 i h1 h3)
  exact⟨as[i],o,n,_,rfl,g,c,d,by simpa using intsAre_of hv⟩
 have hits:(as.map Value.ref).length=as.length:=Yj ..
 have hPm:∀v∈as.map Value.ref,∃r,r≠[]/\PtW h2 v r:=λv hv=>by
  obtain⟨y,hy,rfl⟩:=YN.mp hv
  obtain⟨i,h1,rfl⟩:=YY hy
  exact⟨_,hne _ ((hds _).mp (hP.mem_iff.mp (YL (show i<rs.length by omega)))),hPr i h1 (by omega)⟩
 refine Ya (wpAny_newList ?_ (by rw[hits];exact Yo (show _<=1000 by omega) (by decide)))
 have hoL:(h2.push (seqObj "list" (as.map Value.ref).toArray 0)).get? h2.objs.size=some (seqObj "list" (as.map Value.ref).toArray 0):=Yt _ rfl
 refine Ya (YB (wpAny_call_entry slot_list_sort ⟨_,hoL,rfl⟩ entry_list_sort (ZmK (κ:=tuples' true) (key:=λi=>Zhe rs (rs.getD i [])) hoL (by omega) (λs6 k6 h22=>⟨λQ' hq=>ZmZ h22 (λv hv=>?_) hq,λi j C hi hj hC=>?_⟩) λp' hB hSo=>⟨_,rfl,?_⟩) (args_list_sort _)))
 ·obtain⟨r,hr',hp⟩:=hPm v hv
  exact⟨r,hr',hp.keep λb o e=>k6 b o (Yk (Yh e)) (Yi _ e)⟩
 ·rw[hits]at hi hj
  have hp1:=hPr i hi (by omega)
  have hp2:=hPr j hj (by omega)
  have kp:∀b o,h2.get? b=some o->s6.heap.get? b=some o:=λb o e=>k6 b o (Yk (Yh e)) (Yi _ e)
  unfold kas_ask
  rw[show(as.map Value.ref).getD i Value.none=Value.ref as[i] by simp[hi],show(as.map Value.ref).getD j Value.none=Value.ref as[j] by simp[hj]]
  refine ZqM (hp1.keep kp) (hp2.keep kp) ?_
  have:=ZlA (rs:=rs) (i:=i) (j:=j) (by omega) (by omega)
  rw[this]at hC
  simpa[Yn,show i<rs.length by omega,show j<rs.length by omega]using hC
 ·have hsz:p'.size=rs.length:=hB.size.trans (hits.trans hal)
  have hlt3:∀i∈p'.toList,i<rs.length:=λi hi=>by
   have:=(Array.perm_iff_toList_perm.mp hB).mem_iff.mp hi
   rw[hits,hal]at this
   simpa using this
  have hz2:s'.heap.objs.size<=h2.objs.size:=YU hlt
  have fr:H3 h2.objs.size=none:=I3.hok.fresh hz2
  have sm:Ze H3 (upd H3 h2.objs.size (.lst ((p'.toList.map λi=>as.getD i 0).map V.ref))):=(Ze.refl H3).upd fr
  have hperm:(p'.toList.map λi=>rs.getD i []).Perm rs:=by
   have:=(Array.perm_iff_toList_perm.mp hB).map λi=>rs.getD i []
   refine this.trans ?_
   have e:((List.range (as.map Value.ref).length).toArray.toList.map λi=>rs.getD i [])=rs:=by
    rw[hits,hal]
    refine List.ext_getElem (by simp) λi i1 i2=>?_
    have:i<rs.length:=i2
    simp[Yn,this]
   rw[e]
  refine Yc ⟨_,rfl,.ref h2.objs.size,_,I3.laid (t':=tk2) (a:=h2.objs.size) (o:=.lst ((p'.toList.map λi=>as.getD i 0).map V.ref)) (λb o e=>?_) hz2 ?_,rfl,fin (p'.toList.map λi=>rs.getD i []) _ _ (λr=>((hperm.trans hP).mem_iff).trans (hds r)) ?_ fr sm ⟨_,Zc,by simp,λi i1 i2=>sm _ _ ?_⟩⟩
  ·have e1:=hkp _ _ e
   have hb:b<h2.objs.size:=Yh e1
   show(sortedHeap (h2.push (seqObj "list" (as.map Value.ref).toArray 0)) h2.objs.size (as.map Value.ref) (Zhd (as.map Value.ref) p')).get? b=some o
   rw[sortedHeap_old (Yk hb) (by rw[size_push'];exact YM hb)]
   exact Yi _ e1
  ·obtain⟨n,e⟩:=sortedHeap_at (out:=Zhd (as.map Value.ref) p') hoL
   refine⟨Yo (show _<=1000 by simp;omega) (by decide),(Zhd (as.map Value.ref) p').toList,n,?_,by rw[e]⟩
   have key:∀(l:List Nat),(∀i∈l,i<rs.length)->Vals ((l.map λi=>as.getD i 0).map V.ref) (l.map λi=>(as.map Value.ref).getD i Value.none):=by
    intro l
    induction l with
    |nil=>intro _;exact .nil
    |cons a l ih =>
     intro hl'
     refine .cons ?_ (ih λi hi=>hl' i (Yq _ hi))
     have ha:=hl' a Ys
     have h2:a<as.length:=by omega
     show(as.map Value.ref).getD a Value.none=Value.ref (as.getD a 0)
     rw[show(as.map Value.ref).getD a Value.none=Value.ref as[a] by simp[h2],show as.getD a 0=as[a] by simp[h2]]
   exact key _ hlt3
  ·have hnd2:(p'.toList.map λi=>rs.getD i []).Nodup:=(hperm.trans hP).nodup_iff.mpr hnd
   rw[List.pairwise_iff_getElem]
   intro a b ha hb hab
   have ha':a<p'.toList.length:=by simpa using ha
   have hb':b<p'.toList.length:=by simpa using hb
   have ne:(p'.toList.map λi=>rs.getD i [])[a]≠(p'.toList.map λi=>rs.getD i [])[b]:=List.pairwise_iff_getElem.mp hnd2 a b ha hb hab
   rw[List.getElem_map,List.getElem_map]at ne⊢
   have hle:=hSo a b (YU hab) (by rw[hits,hal,<-hsz,<-Yp];exact hb')
   have kka:kk (λi=>Zhe rs (rs.getD i [])) p' a=Zhe rs (rs.getD p'.toList[a] []):=by
    unfold kk;rw[YK,<-YQ,Ye ha'];rfl
   have kkb:kk (λi=>Zhe rs (rs.getD i [])) p' b=Zhe rs (rs.getD p'.toList[b] []):=by
    unfold kk;rw[YK,<-YQ,Ye hb'];rfl
   rw[kka,kkb]at hle
   have h1:=ZlA (rs:=rs) (hlt3 _ (YL hb')) (hlt3 _ (YL ha'))
   rw[YI (by omega)]at h1
   cases h:lxI (rs.getD p'.toList[a] []) (rs.getD p'.toList[b] [])with
   |true=>rfl
   |false=>exact absurd (ZjY _ _ h h1.symm) ne
  ·have i3:i<p'.toList.length:=by simpa using i1
   have hi:=hlt3 _ (YL i3)
   have h2':p'.toList[i]<as.length:=by omega
   rw[List.getElem_map,List.getElem_map]
   have e1:as.getD p'.toList[i] 0=as[p'.toList[i]]:=by rw[Yn,Ye h2'];rfl
   have e2:rs.getD p'.toList[i] []=rs[p'.toList[i]]:=by rw[Yn,Ye hi];rfl
   rw[e1,e2]
   exact hH3 _ h2' hi
noncomputable def SA (n:Nat) (Pv:Nat->List (List Int)->Hp->Prop) (i m:Nat) (kss:List (List Int)) (H:Hp):Prop:=m=n-i/\i<=n/\kss.length<=i/\Pv i kss H
theorem SA.take {n:Nat}{Pv:Nat->List (List Int)->Hp->Prop}{i:Nat}{kss:List (List Int)}{k:List Int}{H:Hp} (hi:i<n) (hl:kss.length<=i) (h:Pv (i+1) (kss++[k]) H):∃m',m'<n-i/\SA n Pv (i+1) m' (kss++[k]) H:=⟨n-(i+1),by omega,rfl,hi,by simp;omega,h⟩
theorem SA.skip {n:Nat}{Pv:Nat->List (List Int)->Hp->Prop}{i:Nat}{kss:List (List Int)}{H:Hp} (hi:i<n) (hl:kss.length<=i) (h:Pv (i+1) kss H):∃m',m'<n-i/\SA n Pv (i+1) m' kss H:=⟨n-(i+1),by omega,rfl,hi,by omega,h⟩
theorem Zq1 {J:It}{n:Nat}{H1:Hp}{g:TG}{tt:TT}{te:TE}{σ0:St}{F:List (List Int)->Hp->Prop} (Pv:Nat->List (List Int)->Hp->Prop) (hn:n<1000) (h0:Pv 0 [] H1) (hgo:∀i kss H,Pv i kss H->i<n->J.go i H) (hstop:∀kss H,Pv n kss H->J.stop n H)
  (hb:∀i x kss H H',i<n->kss.length<=i->Pv i kss H->J.yld i H x H'->g x σ0 H' fun σ2 H2=>tt σ2 H2 λb H3=>if b=true then te σ2 H3 λv H4=>∃q k,v=.ref q/\H1 q=some (.tup (k.map V.int))/\∃m',m'<n-i/\SA n Pv (i+1) m' (kss++[k]) H4 else ∃m',m'<n-i/\SA n Pv (i+1) m' kss H3)
  (hk:∀kss H',Pv n kss H'->kss.length<=n->F kss H'):Zoc J g tt te σ0 F H1:=by
 refine⟨SA n Pv,⟨n,rfl,Yu _,Yf _,h0⟩,?_⟩
 rintro i m kss H ⟨rfl,hi,hl,p⟩
 by_cases h:i<n
 ·exact .inr ⟨hgo i kss H p h,by omega,λx H' y=>hb i x kss H H' h hl p y⟩
 ·have e:i=n:=by omega
  subst e
  exact .inl ⟨hstop kss H p,by omega,hk kss H p hl⟩
end
end L2
namespace L2
theorem Zgh {wi:TI}{g:TG}{tt:TT}{te:TE}{js:List (Option Nat)}{σ:St}{H:Hp}{Q:VK}:ZjZ wi g tt te js σ H Q=wi σ H λJ H1=>Zoc J g tt te (ZM js σ) (Zod H Q) H1:=rfl
end L2
namespace L2
open PySem PySem.Spec PyProof.Rows PySem.W
end L2
namespace K55
open PySem PySem.Spec PyProof.Rows L2
open PySem.W (nsIn mg_of fnOf keepIn codeIn mg_none_of)
local macro_rules | `(tactic| walk_at "rd") => `(tactic| simp only [tIfS, tNot, Znw, Zml, rI0, rI, rU, tVar, tC, tB, tIf, Zpw, Zlc, Zkk, Znx, tNil, tAsg, tSeq, tRet, Zpy, tOp, tUn, tAnd, tOr, Zpz, Zg7, gSub, tAug, tCB, tSl, Zmz, tLst, tTup, L2.start, tYes, gTup, ZpA, gNil, ZM, Option.join_some, Option.join_none, rEq, ZnL, ZnM, ZnN, ZnO, ZnP, ZnQ, tBM, Bool.true_eq_false, YC, List.map_nil, List.cons_append, List.nil_append, Yw, List.length_nil, List.replicate, List.append_nil, List.set_cons_zero, List.set_cons_succ, List.getElem?_cons_zero, List.getElem?_cons_succ, Option.some.injEq, V.int.injEq, V.bl.injEq, V.ref.injEq, List.cons.injEq, and_true, true_and, exists_eq_left, exists_eq_left', exists_and_left, exists_eq, decide_eq_true_eq, Bool.not_eq_true', decide_eq_false_iff_not, cxK, and_assoc, Bool.false_eq_true, ↓reduceIte, ZnJ, ZjH, Zlj, ZpE, ZpF, Znv, iTup, ZiZ, Zmu, ZpP, rIsi, rSum, ZmA, Zqc, rLen, rLof, rTof, ZlE, tBMH, Zgf, Zkm, iSeq, rEqD, Zp9, rSlQ, Zqk, ZmH, rAny, rIxQ, tRev, rSlL, ZpN, tSl, ipI, Zkf, rRep, ZnR, Zp5, V.str.injEq, Zqq, Zqr, Zny, Znz, Zqw, Zqx, Zku, ZmM, tLam, Zkz, ZmU, ZmW, gLst, ZqK, rEqN, Zgf, ZlE, tBMH, Zgh])
noncomputable def top (i:Nat):Stmt:=PySem.Challenge.pw_dipkin_k55_loose_ones_refused.main.body.getD i (.Pass ⟨0,0,0,0⟩)
noncomputable abbrev ZX:Stmt:=top 13
noncomputable abbrev Zax:Stmt:=top 14
noncomputable abbrev ZY:Stmt:=top 15
noncomputable abbrev ZdB:Stmt:=top 17
noncomputable abbrev Zcd:Stmt:=top 18
noncomputable abbrev ZdC:Stmt:=top 19
noncomputable abbrev Zbj:Stmt:=top 20
noncomputable abbrev Zay:Stmt:=top 21
noncomputable abbrev Zaz:Stmt:=top 25
noncomputable abbrev ZaA:Stmt:=top 26
noncomputable abbrev Zad:Stmt:=top 27
noncomputable abbrev Zce:Stmt:=top 28
noncomputable abbrev Zbk:Stmt:=top 29
noncomputable abbrev Zbl:Stmt:=top 30
noncomputable abbrev Zae:Stmt:=top 31
noncomputable abbrev Zaf:Stmt:=top 33
noncomputable abbrev ZK:Stmt:=top 34
noncomputable abbrev ZaT:Stmt:=top 35
noncomputable abbrev ZaU:Stmt:=top 36
noncomputable abbrev ZH:Stmt:=inClass (top 37) 0
noncomputable abbrev ZZ:Stmt:=inClass (top 37) 1
noncomputable abbrev Z0:Stmt:=inClass (top 37) 2
noncomputable abbrev ZL:Stmt:=inClass (top 37) 3
noncomputable abbrev ZaB:Stmt:=top 38
noncomputable abbrev ZaV:Stmt:=top 40
noncomputable abbrev ZaW:Stmt:=top 41
noncomputable abbrev ZaC:Stmt:=top 42
noncomputable abbrev Zag:Stmt:=top 43
noncomputable abbrev ZaD:Stmt:=top 44
noncomputable abbrev Zbm:Stmt:=top 45
noncomputable abbrev Zgi:Stmt:=top 46
structure Txt (K:PySem.W.Frag) (mg:Str->Option Value):Prop where
 b_ValueError:mg "ValueError"=none
 b_any:mg "any"=none
 b_enumerate:mg "enumerate"=none
 b_isinstance:mg "isinstance"=none
 b_len:mg "len"=none
 b_list:mg "list"=none
 b_max:mg "max"=none
 b_min:mg "min"=none
 b_range:mg "range"=none
 b_sorted:mg "sorted"=none
 b_sum:mg "sum"=none
 b_tuple:mg "tuple"=none
 c_DipError:mg "DipError"=some (.ref (clsAt mg "DipError"))
 x_DipError:PySem.W.excIn K (clsAt mg "DipError") bmV newV=true
 c_Unlike:mg "Unlike"=some (.ref (clsAt mg "Unlike"))
 x_Unlike:PySem.W.excIn K (clsAt mg "Unlike") bmV newV=true
 c_Empty:mg "Empty"=some (.ref (clsAt mg "Empty"))
 x_Empty:PySem.W.excIn K (clsAt mg "Empty") bmV newV=true
 c_TooMany:mg "TooMany"=some (.ref (clsAt mg "TooMany"))
 x_TooMany:PySem.W.excIn K (clsAt mg "TooMany") bmV newV=true
 c_NoTree:mg "NoTree"=some (.ref (clsAt mg "NoTree"))
 x_NoTree:PySem.W.excIn K (clsAt mg "NoTree") bmV newV=true
 c_NoTelling:mg "NoTelling"=some (.ref (clsAt mg "NoTelling"))
 x_NoTelling:PySem.W.excIn K (clsAt mg "NoTelling") bmV newV=true
 c_NoPlace:mg "NoPlace"=some (.ref (clsAt mg "NoPlace"))
 x_NoPlace:PySem.W.excIn K (clsAt mg "NoPlace") bmV newV=true
 c_NoNumber:mg "NoNumber"=some (.ref (clsAt mg "NoNumber"))
 x_NoNumber:PySem.W.excIn K (clsAt mg "NoNumber") bmV newV=true
 c_NoPast:mg "NoPast"=some (.ref (clsAt mg "NoPast"))
 x_NoPast:PySem.W.excIn K (clsAt mg "NoPast") bmV newV=true
 c_NoText:mg "NoText"=some (.ref (clsAt mg "NoText"))
 x_NoText:PySem.W.excIn K (clsAt mg "NoText") bmV newV=true
 c_NoLine:mg "NoLine"=some (.ref (clsAt mg "NoLine"))
 x_NoLine:PySem.W.excIn K (clsAt mg "NoLine") bmV newV=true
 ex_Empty:ExK K (clsAt mg "Empty")
 up_Empty:PySem.W.mroIn K (clsAt mg "Empty") (.ref (clsAt mg "DipError"))=some true
 is_Empty_DipError:PySem.W.kitOne K (.ref (clsAt mg "Empty")) (.ref (clsAt mg "DipError"))=some true
 is_Empty_Unlike:PySem.W.kitOne K (.ref (clsAt mg "Empty")) (.ref (clsAt mg "Unlike"))=some false
 is_Empty_Empty:PySem.W.kitOne K (.ref (clsAt mg "Empty")) (.ref (clsAt mg "Empty"))=some true
 is_Empty_TooMany:PySem.W.kitOne K (.ref (clsAt mg "Empty")) (.ref (clsAt mg "TooMany"))=some false
 is_Empty_NoTree:PySem.W.kitOne K (.ref (clsAt mg "Empty")) (.ref (clsAt mg "NoTree"))=some false
 is_Empty_NoTelling:PySem.W.kitOne K (.ref (clsAt mg "Empty")) (.ref (clsAt mg "NoTelling"))=some false
 is_Empty_NoPlace:PySem.W.kitOne K (.ref (clsAt mg "Empty")) (.ref (clsAt mg "NoPlace"))=some false
 is_Empty_NoNumber:PySem.W.kitOne K (.ref (clsAt mg "Empty")) (.ref (clsAt mg "NoNumber"))=some false
 is_Empty_NoPast:PySem.W.kitOne K (.ref (clsAt mg "Empty")) (.ref (clsAt mg "NoPast"))=some false
 is_Empty_NoText:PySem.W.kitOne K (.ref (clsAt mg "Empty")) (.ref (clsAt mg "NoText"))=some false
 is_Empty_NoLine:PySem.W.kitOne K (.ref (clsAt mg "Empty")) (.ref (clsAt mg "NoLine"))=some false
 is_Empty_V:PySem.W.kitOne K (.ref (clsAt mg "Empty")) (.type "ValueError")=some true
 ex_TooMany:ExK K (clsAt mg "TooMany")
 up_TooMany:PySem.W.mroIn K (clsAt mg "TooMany") (.ref (clsAt mg "DipError"))=some true
 is_TooMany_DipError:PySem.W.kitOne K (.ref (clsAt mg "TooMany")) (.ref (clsAt mg "DipError"))=some true
 is_TooMany_Unlike:PySem.W.kitOne K (.ref (clsAt mg "TooMany")) (.ref (clsAt mg "Unlike"))=some false
 is_TooMany_Empty:PySem.W.kitOne K (.ref (clsAt mg "TooMany")) (.ref (clsAt mg "Empty"))=some false
 is_TooMany_TooMany:PySem.W.kitOne K (.ref (clsAt mg "TooMany")) (.ref (clsAt mg "TooMany"))=some true
 is_TooMany_NoTree:PySem.W.kitOne K (.ref (clsAt mg "TooMany")) (.ref (clsAt mg "NoTree"))=some false
 is_TooMany_NoTelling:PySem.W.kitOne K (.ref (clsAt mg "TooMany")) (.ref (clsAt mg "NoTelling"))=some false
 is_TooMany_NoPlace:PySem.W.kitOne K (.ref (clsAt mg "TooMany")) (.ref (clsAt mg "NoPlace"))=some false
 is_TooMany_NoNumber:PySem.W.kitOne K (.ref (clsAt mg "TooMany")) (.ref (clsAt mg "NoNumber"))=some false
 is_TooMany_NoPast:PySem.W.kitOne K (.ref (clsAt mg "TooMany")) (.ref (clsAt mg "NoPast"))=some false
 is_TooMany_NoText:PySem.W.kitOne K (.ref (clsAt mg "TooMany")) (.ref (clsAt mg "NoText"))=some false
 is_TooMany_NoLine:PySem.W.kitOne K (.ref (clsAt mg "TooMany")) (.ref (clsAt mg "NoLine"))=some false
 is_TooMany_V:PySem.W.kitOne K (.ref (clsAt mg "TooMany")) (.type "ValueError")=some true
 ex_NoPlace:ExK K (clsAt mg "NoPlace")
 up_NoPlace:PySem.W.mroIn K (clsAt mg "NoPlace") (.ref (clsAt mg "DipError"))=some true
 is_NoPlace_DipError:PySem.W.kitOne K (.ref (clsAt mg "NoPlace")) (.ref (clsAt mg "DipError"))=some true
 is_NoPlace_Unlike:PySem.W.kitOne K (.ref (clsAt mg "NoPlace")) (.ref (clsAt mg "Unlike"))=some false
 is_NoPlace_Empty:PySem.W.kitOne K (.ref (clsAt mg "NoPlace")) (.ref (clsAt mg "Empty"))=some false
 is_NoPlace_TooMany:PySem.W.kitOne K (.ref (clsAt mg "NoPlace")) (.ref (clsAt mg "TooMany"))=some false
 is_NoPlace_NoTree:PySem.W.kitOne K (.ref (clsAt mg "NoPlace")) (.ref (clsAt mg "NoTree"))=some false
 is_NoPlace_NoTelling:PySem.W.kitOne K (.ref (clsAt mg "NoPlace")) (.ref (clsAt mg "NoTelling"))=some false
 is_NoPlace_NoPlace:PySem.W.kitOne K (.ref (clsAt mg "NoPlace")) (.ref (clsAt mg "NoPlace"))=some true
 is_NoPlace_NoNumber:PySem.W.kitOne K (.ref (clsAt mg "NoPlace")) (.ref (clsAt mg "NoNumber"))=some false
 is_NoPlace_NoPast:PySem.W.kitOne K (.ref (clsAt mg "NoPlace")) (.ref (clsAt mg "NoPast"))=some false
 is_NoPlace_NoText:PySem.W.kitOne K (.ref (clsAt mg "NoPlace")) (.ref (clsAt mg "NoText"))=some false
 is_NoPlace_NoLine:PySem.W.kitOne K (.ref (clsAt mg "NoPlace")) (.ref (clsAt mg "NoLine"))=some false
 is_NoPlace_V:PySem.W.kitOne K (.ref (clsAt mg "NoPlace")) (.type "ValueError")=some true
 ty_tuple:PySem.W.kitOne K (.type "tuple") (.ref (clsAt mg "DipError"))=some false
 ty_bool:PySem.W.kitOne K (.type "bool") (.ref (clsAt mg "DipError"))=some false
 ty_list:PySem.W.kitOne K (.type "list") (.ref (clsAt mg "DipError"))=some false
 ty_int:PySem.W.kitOne K (.type "int") (.ref (clsAt mg "DipError"))=some false
 c_Holding:mg "Holding"=some (.ref (clsAt mg "Holding"))
 cl_Holding:Cls K (clsAt mg "Holding")
 n_Holding_text:NoAttr K (clsAt mg "Holding") "text"
 n_Holding_tree:NoAttr K (clsAt mg "Holding") "tree"
 n_Holding_young:NoAttr K (clsAt mg "Holding") "young"
 n_Holding_known:NoAttr K (clsAt mg "Holding") "known"
 m_MOST_HELD:mg "MOST_HELD"=some (.int 6 (tokAt mg "MOST_HELD"))
 m_MOST_HOLDING:mg "MOST_HOLDING"=some (.int 16 (tokAt mg "MOST_HOLDING"))
noncomputable def ZeG (K:PySem.W.Frag) (mg:Str->Option Value):List (Addr×Str):=[(Zge K mg "from_below",Zib "from_below"),(Zge K mg "best_ahead",Zib "best_ahead"),(Zge K mg "best_behind",Zib "best_behind")]
noncomputable abbrev SpT:=PySem.W.Frag->(Str->Option Value)->Sp
noncomputable def Zoe (K:PySem.W.Frag) (mg:Str->Option Value):Sp:=λvs H Q E=>∃(a:Addr) (ns:List Int),vs=[.ref a]/\SqL K H a (ns.map V.int)/\ns.length<=63/\(∀p∈ZeG K mg,H p.1=some (Zh8 p.2))/\∀H',Q (.bl true) H'
noncomputable def ZgU:SpT:=λK mg vs H Q E=>∃(t:Addr) (T:List Int) (p:Nat),vs=[.ref t,.int p]/\(SqL K H t (T.map V.int)\/SqT K H t (T.map V.int))/\T.length<=1000/\p<T.length/\∀(w:Addr) H',H w=none->Ze H H'->H' w=some (.lst ((wayI T p).map V.int))->Q (.ref w) H'
noncomputable def dpI (T:List Int) (i:Int):Int:=((wayI T i.toNat).length:Int)
noncomputable def Zbr:SpT:=λK mg vs H Q E=>∃(t:Addr) (T:List Int),vs=[.ref t]/\SqT K H t (T.map V.int)/\Zek T/\ZQ K mg "from_below" H/\∀(l:Addr) (ps:List Int) H',H l=none->Ze H H'->ps.Perm (nats (T.length:Int))->(ps.Pairwise λx y=>dpI T y<=dpI T x)->H' l=some (.lst (ps.map V.int))->Q (.ref l) H'
noncomputable abbrev Pt:=Option (Int×Int)
noncomputable def Z4 (H:Hp) (v:V):Pt->Prop
 |none=>v=.non
 |some z=>∃a:Addr,v=.ref a/\H a=some (.tup [.int z.1,.int z.2])
noncomputable def Zbc (H:Hp) (a:Addr) (ps:List Pt):Prop:=∃vals:List V,H a=some (.lst vals)/\vals.length=ps.length/\∀(i:Nat) (v:V) (p:Pt),vals[i]?=some v->ps[i]?=some p->Z4 H v p
noncomputable def ZeH (H:Hp) (l:Addr) (tab:List (List Pt)):Prop:=∃as:List Addr,H l=some (.lst (as.map V.ref))/\l∉as/\as.length=tab.length/\∀(i:Nat) (a:Addr) (ps:List Pt),as[i]?=some a->tab[i]?=some ps->Zbc H a ps
noncomputable def optN:Option Nat->V
 |none=>.non
 |some j=>.int (j:Int)
noncomputable def Zfi (ps:List Pt) (j:Nat):Int×Int:=(ps.getD j none).getD (0,0)
noncomputable def ZcJ (ts:List Int) (ps:List Pt) (i j:Nat):Prop:=j<i/\(ps.getD j none).isSome=true/\nth ts i<nth ts j/\(Zfi ps j).2<i
noncomputable def Zco (ts:List Int) (ps:List Pt) (i j:Nat):Prop:=i<j/\j<ts.length/\(ps.getD j none).isSome=true/\nth ts i<=nth ts j/\(i:Int)<(Zfi ps j).1
noncomputable def Zim (ts:List Int) (ps:List Pt) (i:Nat):Option Nat->Prop
 |none=>∀j,¬ ZcJ ts ps i j
 |some j=>ZcJ ts ps i j/\∀j',ZcJ ts ps i j'->(Zfi ps j').1<=(Zfi ps j).1
noncomputable def Zj0 (ts:List Int) (ps:List Pt) (i:Nat):Option Nat->Prop
 |none=>∀j,¬ Zco ts ps i j
 |some j=>Zco ts ps i j/\∀j',Zco ts ps i j'->(Zfi ps j).2<=(Zfi ps j').2
noncomputable def Zbs:SpT:=λK mg vs H Q E=>∃(x q:Addr) (ts:List Int) (ps:List Pt) (i:Nat),vs=[.ref x,.ref q,.int (i:Int)]/\(SqL K H x (ts.map V.int)\/SqT K H x (ts.map V.int))/\Zbc H q ps/\ps.length=ts.length/\ts.length<=16/\i<ts.length/\ZQ K mg "best_ahead" H/\∀(r:Option Nat) H',Ze H H'->Zim ts ps i r->Q (optN r) H'
noncomputable def Zas:SpT:=λK mg vs H Q E=>∃(x q:Addr) (ts:List Int) (ps:List Pt) (i:Nat),vs=[.ref x,.ref q,.int (i:Int)]/\(SqL K H x (ts.map V.int)\/SqT K H x (ts.map V.int))/\Zbc H q ps/\ps.length=ts.length/\ts.length<=16/\i<ts.length/\ZQ K mg "best_behind" H/\∀(r:Option Nat) H',Ze H H'->Zj0 ts ps i r->Q (optN r) H'
noncomputable def ZkH (ts:List Int) (tab:List (List Pt)) (i:Nat) (ah:Option Nat) (r:Option Int):Prop:=match ah with
 |none=>r=some (i:Int)
 |some c=>match r with
  |none=>∀j,¬ ZcJ ts (tab.getD c []) i j
  |some m=>(∃j,ZcJ ts (tab.getD c []) i j/\m=(Zfi (tab.getD c []) j).1)/\∀j,ZcJ ts (tab.getD c []) i j->(Zfi (tab.getD c []) j).1<=m
noncomputable def ZkI (ts:List Int) (tab:List (List Pt)) (i:Nat) (bh:Option Nat) (r:Option Int):Prop:=match bh with
 |none=>r=some (i:Int)
 |some c=>match r with
  |none=>∀j,¬ Zco ts (tab.getD c []) i j
  |some m=>(∃j,Zco ts (tab.getD c []) i j/\m=(Zfi (tab.getD c []) j).2)/\∀j,Zco ts (tab.getD c []) i j->m<=(Zfi (tab.getD c []) j).2
noncomputable def Zm7:Option Int->Option Int->Pt
 |some a,some b=>some (a,b)
 |_,_=>none
noncomputable def ZcK (ts:List Int) (tab:List (List Pt)) (i:Nat) (ah bh:Option Nat) (p:Pt):Prop:=∃a b,ZkH ts tab i ah a/\ZkI ts tab i bh b/\p=Zm7 a b
noncomputable def Zof (tab:List (List Pt)) (n:Nat):Option Nat->Prop
 |none=>True
 |some c=>c<tab.length/\(tab.getD c []).length=n
noncomputable def ZfG:SpT:=λK mg vs H Q E=>∃(x l y:Addr) (ts:List Int) (tab:List (List Pt)) (ah bh:Option Nat) (i:Nat),vs=[.ref x,.ref l,.ref y,.int (i:Int)]/\(SqL K H x (ts.map V.int)\/SqT K H x (ts.map V.int))/\ZeH H l tab/\H y=some (.lst [optN ah,optN bh])/\Zof tab ts.length ah/\Zof tab ts.length bh/\ts.length<=16/\i<ts.length/\ZQ K mg "best_ahead" H/\ZQ K mg "best_behind" H/\∀(v:V) (p:Pt) H',Ze H H'->ZcK ts tab i ah bh p->Z4 H' v p->Q v H'
noncomputable def ZaP:SpT:=λK mg vs H Q E=>∃(r:Addr) (ns:List Int) (k:Int),vs=[.ref r,.int k]/\(SqL K H r (ns.map V.int)\/SqT K H r (ns.map V.int))/\ns.length<=1000/\0<=k/\k<=1000/\(k<=ns.length->Q .non H)/\((ns.length:Int)<k->E (.ref (clsAt mg "Empty")) none H)
noncomputable def ZgV:SpT:=λK mg vs H Q E=>∃(el sp:Addr) (es:List Int) (A B:List Nat) (i:Nat),vs=[.ref el,.ref sp,.int i,.int A.length]/\H el=some (.lst (es.map V.int))/\H sp=some (.lst (Z2 (A++B)))/\el≠sp/\i<es.length/\(∀q∈A++B,q<es.length)/\(A++B).length<=1000 /\
 ∀H',(∀b o,b≠el->b≠sp->H b=some o->H' b=some o)->H' el=some (.lst ((Zht es A B i).map V.int))->H' sp=some (.lst (Z2 (A++[i])))->Q .non H'
noncomputable def Zbn:SpT:=λK mg vs H Q E=>∃(r:Addr) (ns:List Int),vs=[.ref r]/\(SqL K H r (ns.map V.int)\/SqT K H r (ns.map V.int))/\ns.length<=1000/\∀(t:Addr) (es:List Int) H',Zx ns es->Ze H H'->ZfE H' t (es.map V.int)->Q (.ref t) H'
noncomputable def ZaQ (T:List Int) (v:Nat):Option Nat->Prop
 |none=>∀c,c<v->c<T.length->nth T c≠v
 |some c=>c<v/\c<T.length/\nth T c=v
noncomputable def Zac (T:List Int) (v:Nat):Option Nat->Prop
 |none=>∀c,v<c->c<T.length->nth T c≠v
 |some c=>v<c/\c<T.length/\nth T c=v
noncomputable def ZcL (H:Hp) (y:Addr) (T:List Int):Prop:=∃as:List Addr,H y=some (.lst (as.map V.ref))/\as.length=T.length/\∀(v:Nat) (a:Addr),as[v]?=some a->∃ah bh,ZaQ T v ah/\Zac T v bh/\H a=some (.lst [optN ah,optN bh])
noncomputable def ZbP:SpT:=λK mg vs H Q E=>∃(t:Addr) (T:List Int),vs=[.ref t]/\SqT K H t (T.map V.int)/\Zek T/\∀(y:Addr) H',H y=none->ZcL H' y T->Ze H H'->Q (.ref y) H'
noncomputable def Zq2 (T ts:List Int) (tab:List (List Pt)):Prop:=tab.length=T.length/\∀v,v<T.length->(tab.getD v []).length=ts.length/\∀i,i<ts.length->∃ah bh,ZaQ T v ah/\Zac T v bh/\ZcK ts tab i ah bh ((tab.getD v []).getD i none)
noncomputable def FrL (H H':Hp) (l:Addr):Prop:=∃as:List Addr,H' l=some (.lst (as.map V.ref))/\∀a∈as,H a=none
noncomputable def ZbQ:SpT:=λK mg vs H Q E=>∃(t x:Addr) (T ts:List Int),vs=[.ref t,.ref x]/\SqT K H t (T.map V.int)/\(SqL K H x (ts.map V.int)\/SqT K H x (ts.map V.int))/\Zek T/\ts.length<=16/\ZQ K mg "from_below" H/\ZQ K mg "best_ahead" H/\ZQ K mg "best_behind" H/\∀(l:Addr) (tab:List (List Pt)) H',H l=none->ZeH H' l tab->FrL H H' l->Zq2 T ts tab->Ze H H'->Q (.ref l) H'
noncomputable def ZlR (K:PySem.W.Frag) (H:Hp) (a:Addr) (ps:List Pt):Prop:=∃vals:List V,(SqL K H a vals\/SqT K H a vals)/\vals.length=ps.length/\∀(i:Nat) (v:V) (p:Pt),vals[i]?=some v->ps[i]?=some p->Z4 H v p
noncomputable def SqTbl (K:PySem.W.Frag) (H:Hp) (l:Addr) (tab:List (List Pt)):Prop:=∃as:List Addr,(SqL K H l (as.map V.ref)\/SqT K H l (as.map V.ref))/\as.length=tab.length/\∀(i:Nat) (a:Addr) (ps:List Pt),as[i]?=some a->tab[i]?=some ps->ZlR K H a ps
noncomputable def LOk (ns ts:List Int):Prop:=0<ns.length/\ns.length<=6/\ts.length<=16
noncomputable def Zm8 (mg:Str->Option Value) (E:XK) (H:Hp) (ns ts:List Int):Prop:=(ns.length=0->E (.ref (clsAt mg "Empty")) none H)/\(0<ns.length->¬ LOk ns ts->E (.ref (clsAt mg "TooMany")) none H)
noncomputable def RTx (K:PySem.W.Frag) (H:Hp) (r x:Addr) (ns ts:List Int):Prop:=(SqL K H r (ns.map V.int)\/SqT K H r (ns.map V.int))/\(SqL K H x (ts.map V.int)\/SqT K H x (ts.map V.int))/\ns.length<=1000/\ts.length<=1000
noncomputable def TbsH (K:PySem.W.Frag) (mg:Str->Option Value) (H:Hp):Prop:=ZQ K mg "from_below" H/\ZQ K mg "best_ahead" H/\ZQ K mg "best_behind" H
noncomputable def Zah:SpT:=λK mg vs H Q E=>∃(r x:Addr) (ns ts:List Int),vs=[.ref r,.ref x]/\RTx K H r x ns ts/\(LOk ns ts->Q .non H)/\Zm8 mg E H ns ts
noncomputable def ZcM:SpT:=λK mg vs H Q E=>∃(r x:Addr) (ns ts:List Int),vs=[.ref r,.ref x]/\RTx K H r x ns ts/\TbsH K mg H/\(LOk ns ts->∀(l:Addr) (T:List Int) (tab:List (List Pt)) H',H l=none->Zx ns T->ZeH H' l tab->Zq2 T ts tab->Ze H H'->Q (.ref l) H')/\Zm8 mg E H ns ts
noncomputable def Zcp:SpT:=λK mg vs H Q E=>∃(r x l:Addr) (ns ts:List Int) (tb:List (List Pt)),vs=[.ref r,.ref x,.ref l]/\RTx K H r x ns ts/\SqTbl K H l tb/\tb.length<=1000/\TbsH K mg H/\(LOk ns ts->∀(b:Bool) H',Ze H H'->Q (.bl b) H')/\Zm8 mg E H ns ts
noncomputable def ZaS:SpT:=λK mg vs H Q E=>∃(r x:Addr) (ns ts:List Int),vs=[.ref r,.ref x]/\RTx K H r x ns ts/\TbsH K mg H/\(LOk ns ts->∀(l:Addr) (os:List V) H',H' l=some (.lst os)->Ze H H'->Q (.ref l) H')/\Zm8 mg E H ns ts
noncomputable def Zc0:SpT:=λK mg vs H Q E=>∃(r tx:Addr) (ns ts:List Int),vs=[.ref r,.ref tx]/\(H r=some (.lst (ns.map V.int))\/H r=some (.tup (ns.map V.int)))/\(H tx=some (.lst (ts.map V.int))\/H tx=some (.tup (ts.map V.int)))/\ns.length<=1000/\ts.length<=1000/\(LOk ns ts->∀(z:Int) H',Ze H H'->Q (.int z) H')/\Zm8 mg E H ns ts
noncomputable def StrIn (n a b:Int):Prop:=0<=a/\a<=b/\b<n
noncomputable def Zc1:SpT:=λK mg vs H Q E=>∃n a b:Int,vs=[.int n,.int a,.int b]/\(StrIn n a b->Q (.bl true) H)/\(¬ StrIn n a b->Q (.bl false) H)
noncomputable def ZbV:SpT:=λK mg vs H Q E=>∃n a b:Int,vs=[.int n,.int a,.int b]/\0<=n/\n<=1000/\(StrIn n a b->Q .non H)/\(¬ StrIn n a b->E (.ref (clsAt mg "NoPlace")) none H)
noncomputable def ZdO:SpT:=λK mg vs H Q E=>∃(r x:Addr) (ns ts:List Int) (a b:Nat),vs=[.ref r,.ref x,.int a,.int b]/\RTx K H r x ns ts/\TbsH K mg H/\(LOk ns ts->StrIn ts.length a b->∀(v:V) H',Ze H H'->(v=.non\/∃c xs,v=.ref c/\H' c=some (.tup xs))->Q v H')/\Zm8 mg E H ns ts/\(LOk ns ts->¬ StrIn ts.length a b->E (.ref (clsAt mg "NoPlace")) none H)
noncomputable abbrev Win (q r:List Int):Prop:=nth r 0<=nth q 0/\nth q 1<=nth r 1
noncomputable def Zcq:SpT:=λK mg vs H Q E=>∃(p q:Addr) (a b c d:Int),vs=[.ref p,.ref q]/\H p=some (.tup [.int a,.int b])/\H q=some (.tup [.int c,.int d])/\∀z:Bool,(z=true↔¬ (a=c/\b=d)/\c<=a/\b<=d)->Q (.bl z) H
noncomputable abbrev Zhu (i:Int):Key:=.inl i
noncomputable def Zq3 (T ts:List Int) (tab:List (List Pt)) (f:Nat->Nat):Prop:=∀v,v<T.length->f v<ts.length/\((tab.getD v []).getD (f v) none).isSome=true/\∀c,c<T.length->nth T c=(v:Int)->(c<v->Zim ts (tab.getD c []) (f v) (some (f c)))/\(v<c->Zj0 ts (tab.getD c []) (f v) (some (f c)))
noncomputable def ZdP:SpT:=λK mg vs H Q E=>∃(t x l:Addr) (T ts:List Int) (tab:List (List Pt)) (i:Nat),vs=[.ref t,.ref x,.ref l,.int (i:Int)]/\ZfE H t (T.map V.int)/\(SqL K H x (ts.map V.int)\/SqT K H x (ts.map V.int))/\ZeH H l tab/\Zek T/\Zq2 T ts tab/\ts.length<=16/\i<ts.length/\((tab.getD (T.idxOf (-1)) []).getD i none).isSome=true/\ZQ K mg "from_below" H/\ZQ K mg "best_ahead" H/\ZQ K mg "best_behind" H/\∀(r:Addr) (f:Nat->Nat) H',H r=none->f (T.idxOf (-1))=i->Zq3 T ts tab f->Ze H H'->H' r=some (.lst ((List.range T.length).map λv=>V.int (f v:Int)))->Q (.ref r) H'
theorem Zgj {ns T:List Int} (hT:Zx ns T) {p:Nat} (hp:p<T.length):(nth T p=-1/\way T p=[])\/∃q:Nat,nth T p=q/\q<T.length/\way T p=q::way T q:=by
 have e:=hT.1
 rcases ZbN hT (p:=p) (by omega)with z|⟨q,z,hq,_,_⟩
 ·exact .inl ⟨z,Zti z⟩
 ·exact .inr ⟨q,z,by omega,Zcj hT (by omega) z⟩
theorem way_dp {ns T:List Int} (hT:Zx ns T) {a:Nat}:∀(k b:Nat),b<T.length->(way T b).length<=k->a∈way T b->(way T a).length<(way T b).length:=by
 intro k
 induction k with
 |zero =>
  intro b hb hk h
  have:way T b=[]:=List.length_eq_zero_iff.mp (by omega)
  rw[this]at h;cases h
 |succ k ih =>
  intro b hb hk h
  rcases Zgj hT hb with⟨_,e⟩|⟨q,_,hq,e⟩
  ·rw[e]at h;cases h
  ·rw[e,Yw]at hk⊢
   rw[e]at h
   rcases Yg.mp h with rfl|h
   ·omega
   ·have:=ih q hq (by omega) h
    omega
theorem nd_few {L:List Nat}{n:Nat} (nd:L.Nodup) (h:∀q∈L,q<n):L.length<=n:=by
 have pm:L.Perm ((List.range n).filter λx=>decide (x∈L)):=(List.perm_ext_iff_of_nodup nd (List.nodup_range.filter _)).mpr λx=>by
  rw[YV]
  exact⟨λz=>⟨Yy.mpr (h x z),YO z⟩,λz=>Ja z.2⟩
 have l2:=Jf (λx=>decide (x∈L)) (List.range n)
 rw[Y9,<-pm.length_eq]at l2
 exact l2
theorem Zq4 {nsT T:List Int} (hT:Zx nsT T):∀k b,b<T.length->(way T b).length<=k->(way T b).Nodup/\b∉way T b:=by
 have e:=hT.1
 intro k
 induction k with
 |zero =>
  intro b hb hk
  have:way T b=[]:=List.length_eq_zero_iff.mp (by omega)
  rw[this];simp
 |succ k ih =>
  intro b hb hk
  rcases Zgj hT hb with⟨_,z⟩|⟨q,_,hq,z⟩
  ·rw[z];simp
  ·rw[z,Yw]at hk
   obtain⟨h1,h2⟩:=ih q hq (by omega)
   have nb:b∉q::way T q:=λy=>by
    have:=way_dp hT _ b hb (Yf _) (z▸y)
    omega
   rw[z]
   exact⟨List.nodup_cons.mpr ⟨h2,h1⟩,nb⟩
theorem nthV {ns:List Int}{i:Nat} (h:i<ns.length):(ns.map V.int)[i]?=some (V.int (nth ns i)):=by
 unfold nth
 rw[YD,Ye h,Yn,Ye h];rfl
theorem Zog {ns:List Int}{i:Nat} (h:i<ns.length):nth ns i∈ns:=by
 unfold nth
 rw[Yn,Ye h];exact YL h
theorem Zo3 {ns T:List Int} (hT:Zx ns T) {v:Nat}{a b:Option Nat} (h1:ZaQ T v a) (h2:ZaQ T v b):a=b:=by
 have e:=hT.1
 cases a with
 |none =>
  cases b with
  |none=>rfl
  |some q=>exact absurd h2.2.2 (h1 q h2.1 h2.2.1)
 |some p =>
  cases b with
  |none=>exact absurd h1.2.2 (h2 p h1.1 h1.2.1)
  |some q=>rw[ZqN hT (by have:=h1.2.1;omega) (by have:=h2.2.1;omega) h1.2.2 h2.2.2 h1.1 h2.1]
theorem Zm9 {ns T:List Int} (hT:Zx ns T) {v:Nat}{a b:Option Nat} (h1:Zac T v a) (h2:Zac T v b):a=b:=by
 have e:=hT.1
 cases a with
 |none =>
  cases b with
  |none=>rfl
  |some q=>exact absurd h2.2.2 (h1 q h2.1 h2.2.1)
 |some p =>
  cases b with
  |none=>exact absurd h1.2.2 (h2 p h1.1 h1.2.1)
  |some q=>rw[ZoT hT (by have:=h1.2.1;omega) (by have:=h2.2.1;omega) h1.2.2 h2.2.2 h1.1 h2.1]
theorem mulBig {a b:Nat} (ha:a<2 ^ 100000) (hb:b<2 ^ 100000):IntMulOk (a:Int) (b:Int) :=
 ZhG (Yo ((intBits_le_iff (m:=100000)).mpr ha) (by decide)) (Yo ((intBits_le_iff (m:=100000)).mpr hb) (by decide))
noncomputable def ZfH (T:List Int) (p:Nat):Option Nat:=(List.range T.length).find? λc=>decide (c<p)&&(nth T c==(p:Int))
noncomputable def ZfI (T:List Int) (p:Nat):Option Nat:=(List.range T.length).find? λc=>decide (p<c)&&(nth T c==(p:Int))
theorem Zoh (T:List Int) (p:Nat):ZaQ T p (ZfH T p):=by
 unfold ZfH
 cases e:(List.range T.length).find? λc=>decide (c<p)&&(nth T c==(p:Int))with
 |none =>
  intro c c1 c2 z
  have:=List.find?_eq_none.mp e c (Yy.mpr c2)
  simp[c1,z]at this
 |some c =>
  have h1:=List.find?_some e
  have h2:=Yy.mp (List.mem_of_find?_eq_some e)
  simp at h1
  exact⟨h1.1,h2,h1.2⟩
theorem Zoi (T:List Int) (p:Nat):Zac T p (ZfI T p):=by
 unfold ZfI
 cases e:(List.range T.length).find? λc=>decide (p<c)&&(nth T c==(p:Int))with
 |none =>
  intro c c1 c2 z
  have:=List.find?_eq_none.mp e c (Yy.mpr c2)
  simp[c1,z]at this
 |some c =>
  have h1:=List.find?_some e
  have h2:=Yy.mp (List.mem_of_find?_eq_some e)
  simp at h1
  exact⟨h1.1,h2,h1.2⟩
theorem ZdD {T:List Int}{p a:Nat} (h:ZfH T p=some a):a<p/\a<T.length/\nth T a=p:=by
 have:=Zoh T p;rw[h]at this;exact this
theorem ZdE {T:List Int}{p a:Nat} (h:ZfI T p=some a):p<a/\a<T.length/\nth T a=p:=by
 have:=Zoi T p;rw[h]at this;exact this
theorem Zna {ns T:List Int} (hT:Zx ns T) {p:Nat} (hp:p<T.length):(way T p).length<T.length:=by
 have e:=hT.1
 have h3:=Zq4 hT _ p hp (Yf _)
 have nd:(p::way T p).Nodup:=List.nodup_cons.mpr ⟨h3.2,h3.1⟩
 have:=nd_few (n:=T.length) nd (λq hq=>by
  rcases Yg.mp hq with z|z
  ·rw[z];omega
  ·have:=((Zqj hT (by omega)).mp z).1;omega)
 rw[Yw]at this
 omega
theorem Zq5 {ns T:List Int} (hT:Zx ns T):∀k p,p<T.length->(way T p).length<=k->(-1:Int)∈T:=by
 intro k
 induction k with
 |zero =>
  intro p hp hk
  rcases Zgj hT hp with⟨z,_⟩|⟨q,_,_,z⟩
  ·rw[<-z];exact Zog hp
  ·rw[z]at hk;simp at hk
 |succ k ih =>
  intro p hp hk
  rcases Zgj hT hp with⟨z,_⟩|⟨q,_,hq,z⟩
  ·rw[<-z];exact Zog hp
  ·exact ih q hq (by rw[z,Yw]at hk;omega)
noncomputable def ZfJ (T:List Int) (tx:Nat->Int) (v a c i:Nat):Bool:=if nth T v=-1 then true else if nth T v<(v:Int)then decide (tx (a-1)<=tx i)else decide (tx c<tx i)
noncomputable def ZfK (T:List Int) (tx:Nat->Int):Nat->Option Nat->Nat->Nat->List (List Nat)
 |0,_,_,_=>[]
 |_+1,none,_,_=>[[]]
 |h+1,some v,a,c=>((List.range' a (c-a)).filter (ZfJ T tx v a c)).flatMap λi=>(ZfK T tx h (ZfH T v) a i).flatMap λL=>(ZfK T tx h (ZfI T v) (i+1) c).map λR=>L++[i]++R
theorem Zq6 {α β γ:Type} (A:List α) (B:List β) (f:α->β->γ):(A.flatMap λx=>B.map λy=>f x y).length=A.length*B.length:=by
 induction A with
 |nil=>simp
 |cons x A ih=>rw[List.flatMap_cons,YT,ih,Yj,Yw,Nat.add_mul];omega
theorem Zoj (T:List Int) (tx:Nat->Int) (h v a c:Nat):(ZfK T tx (h+1) (some v) a c).length=(((List.range' a (c-a)).filter (ZfJ T tx v a c)).map λi=>(ZfK T tx h (ZfH T v) a i).length*(ZfK T tx h (ZfI T v) (i+1) c).length).sum:=by
 show(List.flatMap _ _).length=_
 rw[List.length_flatMap]
 congr 1
 exact List.map_congr_left λi _=>Zq6 _ _ _
noncomputable def lo (ns:List Int) (v:Nat):Nat:=v-ZlC (nth ns) v
noncomputable def wd (ns:List Int) (v:Nat):Nat:=ZlC (nth ns) v+1+Zn4 (nth ns) ns.length v
theorem ZtB {ns T:List Int} (hT:Zx ns T) {v:Nat} (hv:v<T.length) (h:nth T v=v):False:=by
 have h3:=(Zq4 hT _ v hv (Yf _)).2
 rw[Zcj hT (by have:=hT.1;omega) h]at h3
 exact h3 (by simp)
theorem Zq7 {ns T:List Int} (hT:Zx ns T) (tx:Nat->Int):∀h v,v<T.length->T.length-(way T v).length<h->∀a c,ZfK T tx (h+1) (some v) a c=ZfK T tx h (some v) a c:=by
 have eN:=hT.1
 intro h
 induction h with
 |zero=>intro v hv z;omega
 |succ h ih =>
  intro v hv hl a c
  have hw:=Zna hT hv
  have kid:∀o:Option Nat,(∀q,o=some q->nth T q=v/\q<T.length)->∀a c,ZfK T tx (h+1) o a c=ZfK T tx h o a c:=λo ho a c=>by
   cases o with
   |none =>
    cases h with
    |zero=>omega
    |succ h=>rfl
   |some q =>
    obtain⟨x1,x2⟩:=ho q rfl
    exact ih q x2 (by rw[Zcj hT (by omega) x1,Yw];omega) a c
  have k1:=kid (ZfH T v) (λq e=>⟨(ZdD e).2.2,(ZdD e).2.1⟩)
  have k2:=kid (ZfI T v) (λq e=>⟨(ZdE e).2.2,(ZdE e).2.1⟩)
  show List.flatMap _ _=List.flatMap _ _
  congr 1
  funext i
  rw[k1]
  congr 1
  funext L
  rw[k2]
noncomputable def cHo (mg:Str->Option Value):Addr:=clsAt mg "Holding"
structure Ha where
 x:Addr
 t:Addr
 y:Addr
 tx:Addr
 kn:Addr
noncomputable def HFlds (fs:List (Str×V)) (a:Ha):Prop:=fs.lookup (Str.ofString "text")=some (.ref a.tx)/\fs.lookup (Str.ofString "tree")=some (.ref a.t)/\fs.lookup (Str.ofString "young")=some (.ref a.y)/\fs.lookup (Str.ofString "known")=some (.ref a.kn)/\fs.lookup (Str.ofString "ways")=none/\fs.lookup (Str.ofString "fits")=none/\fs.lookup (Str.ofString "ways_at")=none
noncomputable def waC (T ts:List Int) (o:Option Nat) (a c:Nat):Nat:=match o with
 |none=>1
 |some v=>(ZfK T (nth ts) (T.length+1) (some v) a c).length
noncomputable def ZeI (v a c:Nat):List Key:=[.inl (v:Int),.inl (a:Int),.inl ((c:Int)-1)]
noncomputable def allK (n N:Nat):List (List Key):=(List.range n).flatMap λv=>(List.range (N+2)).flatMap λa=>(List.range (N+1)).map λc=>ZeI v a c
noncomputable def Znb (kvs:List (List Key×V)) (T ts:List Int):Prop:=(kvs.map (·.1)).Nodup/\(∀k∈kvs.map (·.1),k∈allK T.length ts.length)/\∀v a c:Nat,∀w,ZaX kvs (ZeI v a c)=some w->w=.int (waC T ts (some v) a c:Nat)
noncomputable def Zbo (K:PySem.W.Frag) (mg:Str->Option Value) (H:Hp) (a:Ha) (T ts:List Int):Prop:=∃(dx:Addr) (fs:List (Str×V)) (kvs:List (List Key×V)),H a.x=some (.ins (cHo mg) dx fs)/\HFlds fs a/\ZfE H a.t (T.map V.int)/\ZcL H a.y T/\(H a.tx=some (.lst (ts.map V.int))\/H a.tx=some (.tup (ts.map V.int)))/\H a.kn=some (.dT kvs)/\Znb kvs T ts
noncomputable def ZbW:SpT:=λK mg vs H Q E=>∃(h:Ha) (T ts:List Int) (v a c i:Nat),vs=[.ref h.x,.int v,.int a,.int ((c:Int)-1),.int i]/\Zbo K mg H h T ts/\Zek T/\v<T.length/\a<=i/\i<c/\c<=ts.length/\(∀e:Nat,nth T v=e->(e<v->0<a)/\(v<e->c<ts.length))/\Q (.bl (ZfJ T (nth ts) v a c i)) H
noncomputable def Zan (n:Nat):SpT:=λK mg vs H Q E=>match n with
 |0=>False
 |n+1=>∃(h:Ha) (T ts:List Int) (o:Option Nat) (a c:Nat),vs=[.ref h.x,optN o,.int a,.int ((c:Int)-1)]/\Zbo K mg H h T ts/\Zek T/\T.length<=6/\ts.length<=16/\a<=c/\c<=ts.length/\(∀v,o=some v->v<T.length/\2*(T.length-(way T v).length)+1<=n/\∀e:Nat,nth T v=e->(e<v->0<a)/\(v<e->c<ts.length))/\∀H',Exc h.kn H H'->Zbo K mg H' h T ts->Q (.int (waC T ts o a c:Nat)) H'
noncomputable def Zhv:SpT:=Zan 20
noncomputable def Zat (n:Nat):SpT:=λK mg vs H Q E=>match n with
 |0=>False
 |n+1=>∃(h:Ha) (T ts:List Int) (v a c i:Nat),vs=[.ref h.x,.int v,.int a,.int ((c:Int)-1),.int i]/\Zbo K mg H h T ts/\Zek T/\T.length<=6/\ts.length<=16/\a<=i/\i<c/\c<=ts.length/\v<T.length/\2*(T.length-(way T v).length)<=n/\∀H',Exc h.kn H H'->Zbo K mg H' h T ts->Q (.int (waC T ts (ZfH T v) a i*waC T ts (ZfI T v) (i+1) c:Nat)) H'
noncomputable def ZaL:SpT:=λK mg vs H Q E=>∃(x dx r tx:Addr) (ns ts:List Int),vs=[.ref x,.ref r,.ref tx]/\H x=some (.ins (cHo mg) dx [])/\(SqL K H r (ns.map V.int)\/SqT K H r (ns.map V.int))/\(H tx=some (.lst (ts.map V.int))\/H tx=some (.tup (ts.map V.int)))/\ns.length<=6/\(∀Hx,Exc x H Hx->SqL K Hx r (ns.map V.int)\/SqT K Hx r (ns.map V.int))/\∀(a:Ha) (T:List Int) H',a.x=x->H a.kn=none->Exc x H H'->Zx ns T->Zbo K mg H' a T ts->Q .non H'
noncomputable def ZdQ:SpT:=λK mg vs H Q E=>∃(a:Addr) (ns:List Int) (k:Int),vs=[.ref a,.int k]/\SqL K H a (ns.map V.int)/\0<=k/\k<=100/\∀p H',H p=none->Ze H H'->Zal H' p->Q (.ref p) H'
noncomputable def Zb1:SpT:=λK mg vs H Q E=>∃(p:Addr) (many:Int),vs=[.ref p,.int many]/\0<many/\many<=1000000001/\Zal H p/\∀d H',0<=d->d<many->Zal H' p->Exc p H H'->Q (.int d) H'
noncomputable def Zcr:SpT:=λK mg vs H Q E=>∃(p r:Addr) (xs:List V),vs=[.ref p,.ref r]/\Zal H p/\r≠p/\H r=some (.lst xs)/\xs.length<=1000/\∀(u:Addr) H',H u=none->(H' u=some (.lst xs)\/H' u=some (.tup xs))->Zal H' p->Exc p H H'->Q (.ref u) H'
noncomputable def ZaJ (w:Int) (ns ts:List Int) (a b:Nat):Int:=if ns.length=0 then 1 else if 6<ns.length\/16<ts.length then 2 else if w=4/\(b<a\/ts.length<=b)then 5 else -1
noncomputable def LT (H:Hp) (r:Addr) (ns:List Int):Prop:=H r=some (.lst (ns.map V.int))\/H r=some (.tup (ns.map V.int))
noncomputable def ValX (H:Hp) (v:V):Prop:=(∃(c:Addr) (xs:List V),v=.ref c/\(H c=some (.tup xs)\/H c=some (.lst xs)))\/(∃b,v=.bl b)\/∃z,v=.int z
noncomputable def Zc2:SpT:=λK mg vs H Q E=>∃(w:Int) (r x:Addr) (ns ts:List Int) (a b:Nat),vs=[.int w,.ref r,.ref x,.int (a:Int),.int (b:Int)]/\0<=w/\w<5/\LT H r ns/\LT H x ts/\ns.length<=100/\ts.length<=100/\a<=40/\b<=40/\TbsH K mg H/\(ZaJ w ns ts a b=-1->∀(v:V) H',Ze H H'->ValX H' v->Q v H')/\(ZaJ w ns ts a b=1->∀(e:Addr) H',Ze H H'->H' e=some (Zhr e (clsAt mg "Empty"))->Q (.ref e) H')/\(ZaJ w ns ts a b=2->∀(e:Addr) H',Ze H H'->H' e=some (Zhr e (clsAt mg "TooMany"))->Q (.ref e) H')/\(ZaJ w ns ts a b=5->∀(e:Addr) H',Ze H H'->H' e=some (Zhr e (clsAt mg "NoPlace"))->Q (.ref e) H')
noncomputable def ZeJ:SpT:=λK mg vs H Q E=>∃(w:Int) (r x:Addr) (ns ts:List Int) (a b:Nat),vs=[.int w,.ref r,.ref x,.int (a:Int),.int (b:Int)]/\LT H r ns/\LT H x ts/\ns.length<=100/\ts.length<=100/\a<=40/\b<=40/\Q (.int (ZaJ w ns ts a b)) H
noncomputable def Zc3:SpT:=λK mg vs H Q E=>∃(e C:Addr) (i j:Nat),vs=[.ref e,.int (i:Int)]/\i<10/\j<10/\H e=some (Zhr e C)/\KindsOf K mg C (λk=>decide (k=j))/\∀H',Ze H H'->Q (.bl (decide (i=j))) H'
theorem ZlS {K:PySem.W.Frag}{mg:Str->Option Value} (T:Txt K mg):KindsOf K mg (clsAt mg "Empty") (λk=>decide (k=1)):=⟨T.ex_Empty,T.is_Empty_Unlike,T.is_Empty_Empty,T.is_Empty_TooMany,T.is_Empty_NoTree,T.is_Empty_NoTelling,T.is_Empty_NoPlace,T.is_Empty_NoNumber,T.is_Empty_NoPast,T.is_Empty_NoText,T.is_Empty_NoLine,T.is_Empty_DipError,T.is_Empty_V⟩
theorem Zi8 {K:PySem.W.Frag}{mg:Str->Option Value} (T:Txt K mg):KindsOf K mg (clsAt mg "TooMany") (λk=>decide (k=2)):=⟨T.ex_TooMany,T.is_TooMany_Unlike,T.is_TooMany_Empty,T.is_TooMany_TooMany,T.is_TooMany_NoTree,T.is_TooMany_NoTelling,T.is_TooMany_NoPlace,T.is_TooMany_NoNumber,T.is_TooMany_NoPast,T.is_TooMany_NoText,T.is_TooMany_NoLine,T.is_TooMany_DipError,T.is_TooMany_V⟩
theorem Zi9 {K:PySem.W.Frag}{mg:Str->Option Value} (T:Txt K mg):KindsOf K mg (clsAt mg "NoPlace") (λk=>decide (k=5)):=⟨T.ex_NoPlace,T.is_NoPlace_Unlike,T.is_NoPlace_Empty,T.is_NoPlace_TooMany,T.is_NoPlace_NoTree,T.is_NoPlace_NoTelling,T.is_NoPlace_NoPlace,T.is_NoPlace_NoNumber,T.is_NoPlace_NoPast,T.is_NoPlace_NoText,T.is_NoPlace_NoLine,T.is_NoPlace_DipError,T.is_NoPlace_V⟩
section
variable {P:Program}{w:World}{K:PySem.W.Frag}{mg:Str->Option Value}{base:Heap}
theorem Zhw:FnScope ["row","fewest"] ["row","fewest"] (defScope ZX):=⟨rfl,rfl,rfl,by decide +kernel,rfl,by decide +kernel,by decide +kernel⟩
theorem Zja:FnScope ["many","a","b"] ["many","a","b"] (defScope Zax):=⟨rfl,rfl,rfl,by decide +kernel,rfl,by decide +kernel,by decide +kernel⟩
theorem Zhx:FnScope ["many","a","b"] ["many","a","b"] (defScope ZY):=⟨rfl,rfl,rfl,by decide +kernel,rfl,by decide +kernel,by decide +kernel⟩
theorem Zo4:FnScope ["elders","spine","place","keep"] ["elders","spine","place","keep"] (defScope ZdB):=⟨rfl,rfl,rfl,by decide +kernel,rfl,by decide +kernel,by decide +kernel⟩
theorem Zbp:FnScope ["row","elders","spine","place","keep"] ["row"] (defScope Zcd):=⟨rfl,rfl,rfl,by decide +kernel,rfl,by decide +kernel,by decide +kernel⟩
theorem Zfd:FnScope ["tree","place","way","at"] ["tree","place"] (defScope ZdC):=⟨rfl,rfl,rfl,by decide +kernel,rfl,by decide +kernel,by decide +kernel⟩
theorem ZcN:FnScope ["tree","young","place","elder"] ["tree"] (defScope Zbj):=⟨rfl,rfl,rfl,by decide +kernel,rfl,by decide +kernel,by decide +kernel⟩
theorem Zjb:FnScope ["tree"] ["tree"] (defScope Zay):=⟨rfl,rfl,rfl,by decide +kernel,rfl,by decide +kernel,by decide +kernel⟩
theorem Zjc:FnScope ["row","text"] ["row","text"] (defScope Zaz):=⟨rfl,rfl,rfl,by decide +kernel,rfl,by decide +kernel,by decide +kernel⟩
theorem Zfo:FnScope ["text","pairs","i","fit"] ["text","pairs","i"] (defScope ZaA):=⟨rfl,rfl,rfl,by decide +kernel,rfl,by decide +kernel,by decide +kernel⟩
theorem ZeK:FnScope ["text","pairs","i","fit"] ["text","pairs","i"] (defScope Zad):=⟨rfl,rfl,rfl,by decide +kernel,rfl,by decide +kernel,by decide +kernel⟩
theorem Z5:FnScope ["text","table","young","i","ahead","behind","first","last","j"] ["text","table","young","i"] (defScope Zce):=⟨rfl,rfl,rfl,by decide +kernel,rfl,by decide +kernel,by decide +kernel⟩
theorem ZcO:FnScope ["tree","text","young","table","v"] ["tree","text"] (defScope Zbk):=⟨rfl,rfl,rfl,by decide +kernel,rfl,by decide +kernel,by decide +kernel⟩
theorem ZlT:FnScope ["row","text"] ["row","text"] (defScope Zbl):=⟨rfl,rfl,rfl,by decide +kernel,rfl,by decide +kernel,by decide +kernel⟩
theorem Zin:FnScope ["row","text","table"] ["row","text","table"] (defScope Zae):=⟨rfl,rfl,rfl,by decide +kernel,rfl,by decide +kernel,by decide +kernel⟩
theorem Zio:FnScope ["pair","other"] ["pair","other"] (defScope Zaf):=⟨rfl,rfl,rfl,by decide +kernel,rfl,by decide +kernel,by decide +kernel⟩
theorem Z6:FnScope ["row","text","tree","tops","pairs"] ["row","text"] (defScope ZK):=⟨rfl,rfl,rfl,by decide +kernel,rfl,by decide +kernel,by decide +kernel⟩
theorem ZaE:FnScope ["tree","text","table","i","young","chosen","v","ahead","behind"] ["tree","text","table","i"] (defScope ZaT):=⟨rfl,rfl,rfl,by decide +kernel,rfl,by decide +kernel,by decide +kernel⟩
theorem ZaF:FnScope ["row","text","a","b","tree","within","table","i","pair"] ["row","text","a","b"] (defScope ZaU):=⟨rfl,rfl,rfl,by decide +kernel,rfl,by decide +kernel,by decide +kernel⟩
theorem Zfj:FnScope ["self","row","text"] ["self","row","text"] (defScope ZH):=⟨rfl,rfl,rfl,by decide +kernel,rfl,by decide +kernel,by decide +kernel⟩
theorem ZbX:FnScope ["self","v","a","b","fit"] ["self","v","a","b"] (defScope ZZ):=⟨rfl,rfl,rfl,by decide +kernel,rfl,by decide +kernel,by decide +kernel⟩
theorem Zen:FnScope ["self","v","a","b","i","elder"] ["self","v","a","b","i"] (defScope Z0):=⟨rfl,rfl,rfl,by decide +kernel,rfl,by decide +kernel,by decide +kernel⟩
theorem Z7:FnScope ["self","v","a","b","i","ahead","behind"] ["self","v","a","b","i"] (defScope ZL):=⟨rfl,rfl,rfl,by decide +kernel,rfl,by decide +kernel,by decide +kernel⟩
theorem Zfp:FnScope ["row","text","holding"] ["row","text"] (defScope ZaB):=⟨rfl,rfl,rfl,by decide +kernel,rfl,by decide +kernel,by decide +kernel⟩
theorem ZT:FnScope ["script","k","cell","seed","number","turn"] ["script","k"] (defScope ZaV):=⟨rfl,rfl,rfl,by decide +kernel,rfl,by decide +kernel,by decide +kernel⟩
theorem Zgk:FnScope ["pot","many","digit"] ["pot","many"] (defScope ZaW):=⟨rfl,rfl,rfl,by decide +kernel,rfl,by decide +kernel,by decide +kernel⟩
theorem Zfq:FnScope ["e","place","some"] ["e","place"] (defScope ZaC):=⟨rfl,rfl,rfl,by decide +kernel,rfl,by decide +kernel,by decide +kernel⟩
theorem Ziq:FnScope ["pot","some"] ["pot","some"] (defScope Zag):=⟨rfl,rfl,rfl,by decide +kernel,rfl,by decide +kernel,by decide +kernel⟩
theorem ZJ:FnScope ["which","row","text","a","b","told","e"] ["which","row","text","a","b"] (defScope ZaD):=⟨rfl,rfl,rfl,by decide +kernel,rfl,by decide +kernel,by decide +kernel⟩
theorem ZlU:FnScope ["which","row","text","a","b"] ["which","row","text","a","b"] (defScope Zbm):=⟨rfl,rfl,rfl,by decide +kernel,rfl,by decide +kernel,by decide +kernel⟩
theorem Zc4:FnScope ["script","k","pot","row","text","a","b","which","told","due"] ["script"] (defScope Zgi):=⟨rfl,rfl,rfl,by decide +kernel,rfl,by decide +kernel,by decide +kernel⟩
theorem ZkJ {f:Addr}{fd:FuncData} (F:Fun K "_law_deal" "_law_deal" ZaV f fd) (T:Txt K mg):FnOk P w K mg base (CXE P w) 1 f fd ["script","k"] (ZdQ K mg):=by
 refine F.okX ZT (λvs H Q E h=>?_) (λcdv A outer s H vs Q E hr h=>?_)
 ·obtain⟨a,ns,k,rfl,_⟩:=h;rfl
 obtain⟨a,ns,k,rfl,hS,h0,h1,k1⟩:=h
 refine⟨_,(Zd (Zo (i:=2) ZT.nd rfl (Or.inl rfl) Zg)
   (Zd (ZV (Zk Zf4 (pv 1) (Zj (Zm (K:=K) rfl) rfl T.b_len YH (Za (pv 0) Zb)) (Zl _)) (Zh (Zo (i:=2) ZT.nd rfl (Or.inl rfl) (ZA ZgD (Zq Zu (pv 0) (pv 1) (λ_ _=>rfl)) (ZA ZcH (ZA ZcH (ZA ZcH (ZA ZgE Zg Zg) (ZA ZgE Zg Zg)) (ZA ZgE Zg Zg)) (ZA ZgE Zg Zg))))) ZE)
   (Zd (ZV (Zk ZjA (pv 2) (ZA ZgE Zg Zg) (Zl _)) (Zh (Zt (ZcW (Za (ZA ZgC (pv 2) (ZA ZgE Zg Zg)) Zb)))) ZE)
   (Zd (Zo (i:=3) ZT.nd rfl (Or.inl rfl) (ZA ZcV (ZA ZcV (ZA ZgD (pv 2) Zg) (ZA ZcH Zg (pv 1))) Zg))
   (Zd (Zo (i:=4) ZT.nd rfl (Or.inl rfl) Zg)
   (Zd (ZcX (Zeu PassesOwn.never rfl (Zav rfl T.b_range (Za Zg Zb)) (Zn (i:=5) ZT.nd rfl (Or.inl rfl)) (Zd (Zo (i:=3) ZT.nd rfl (Or.inl rfl) (ZA ZgD (ZA ZcV (ZA ZcH (pv 3) Zg) Zg) Zg))
   (Zh (Zo (i:=4) ZT.nd rfl (Or.inl rfl) (ZA ZcV (ZA ZcH (pv 4) Zg) (ZA ZgD (ZA Zls (ZA ZgD (ZA ZcH (pv 3) (pv 3)) Zg) Zg) Zg)))))))
   (Zh (Zt (ZcW (Za (pv 4) Zb)))))))))),?_⟩
 simp only[tIfS,tNot,Znw,Zml,rI0,rI,rU,tVar,tC,tB,tIf,Zpw,Zlc,Zkk,Znx,tNil,tAsg,tSeq,tRet,Zpy,tOp,tUn,tAnd,tOr,Zpz,Zg7,gSub,tAug,tCB,tSl,Zmz,tLst,tTup,L2.start,tYes,gTup,ZpA,gNil,ZM,Option.join_some,Option.join_none,rEq,ZnL,ZnM,ZnN,ZnO,ZnP,ZnQ,tBM,Bool.true_eq_false,YC,List.map_nil,List.cons_append,List.nil_append,Yw,List.length_nil,List.replicate,List.append_nil,List.set_cons_zero,List.set_cons_succ,List.getElem?_cons_zero,List.getElem?_cons_succ,Option.some.injEq,V.int.injEq,V.bl.injEq,V.ref.injEq,List.cons.injEq,and_true,true_and,exists_eq_left,exists_eq_left',exists_and_left,exists_eq,decide_eq_true_eq,Bool.not_eq_true',decide_eq_false_iff_not,cxK,and_assoc,Bool.false_eq_true,↓reduceIte,ZnJ,ZjH,Zlj,ZpE,ZpF,Znv,iTup,ZiZ,Zmu,ZpP,rIsi,rSum,ZmA,Zqc,rLen,rLof,rTof,ZlE,tBMH,Zgf,Zkm,iSeq,rEqD,Zp9,rSlQ,Zqk,ZmH,rAny,rIxQ,tRev,rSlL,ZpN,tSl,ipI,Zkf,rRep,ZnR,Zp5,V.str.injEq,Zqq,Zqr,Zny,Znz,Zqw,Zqx,Zku,ZmM,tLam,Zkz,ZmU,ZmW,gLst,ZqK,rEqN,Zgf,ZlE,tBMH,Zgh,cp18,cp60,qm1,qm2,qm3,qm4]
 have fin:∀g:Int,0<=g->∀p,H p=none->Q (V.ref p) (upd H p (.lst [V.int g])):=λg hg p hp=>k1 p _ hp ((Ze.refl H).upd hp) ⟨_,Zc,hg⟩
 refine⟨_,.inl hS,ZC (λhk=>?_) (λhk=>?_)⟩
 case' refine_1 =>
  obtain⟨j,hj0⟩:=Jc h0
  have hj:j<(ns.map V.int).length:=by omega
  refine⟨_,hS,_,ZgI hj0 hj,ns[j]'(by simpa using hj),by simp,ZC (λc=>⟨by decide,fin _ (Int.sub_nonneg.mpr c)⟩) (λ_=>⟨by decide,Zp3 (by decide) (by decide),by decide,by decide,?_⟩)⟩
 case' refine_2 =>
  refine ZC (λz=>absurd z (by decide)) (λ_=>⟨by decide,Zp3 (by decide) (by decide),by decide,by decide,?_⟩)
 all_goals
  refine Ze8 (λi σ H'=>∃v2 g o v5,σ=[some (.ref a),some (.int k),v2,some (.int o),some (.int g),v5]/\0<=g/\H'=H) ⟨_,0,_,none,rfl,Int.le_refl _,rfl⟩ ?_ ?_
  ·rintro i σ H' hi ⟨v2,g,o,v5,rfl,hg,rfl⟩
   walk_at "rd"
   have b1:=Int.emod_nonneg (o*48271+12345) (b:=2147483647) (by decide)
   have b2:=Int.emod_lt_of_pos (o*48271+12345) (b:=2147483647) (by decide)
   refine⟨mul_r (by decide) (by decide),by decide,mul_r (by decide) (by decide),Zp3 (by omega) (by omega),by decide,⟨by decide,by decide⟩,by decide,?_⟩
   have b3:=Int.emod_nonneg ((o*48271+12345) % 2147483647*((o*48271+12345) % 2147483647) % 2147483629 / 64) (b:=16777216) (by decide)
   have b4:=Int.mul_nonneg hg (show(0:Int)<=16777216 by decide)
   omega
  ·rintro σ H' ⟨v2,g,o,v5,rfl,hg,rfl⟩
   walk_at "rd"
   exact⟨by decide,fin g hg⟩
theorem ZkK {f:Addr}{fd:FuncData} (F:Fun K "_law_take" "_law_take" ZaW f fd) (T:Txt K mg):FnOk P w K mg base (CXE P w) 1 f fd ["pot","many"] (Zb1 K mg):=by
 refine F.okX Zgk (λvs H Q E h=>?_) (λcdv A outer s H vs Q E hr h=>?_)
 ·obtain⟨p,many,rfl,_⟩:=h;rfl
 obtain⟨p,many,rfl,h0,h1,⟨x,hp,hx⟩,k1⟩:=h
 refine⟨_,(Zd (Zo (i:=2) Zgk.nd rfl (Or.inl rfl) (ZA ZgD (Zq Zu (pv 0) Zg (λ_ _=>rfl)) (pv 1)))
   (Zd (Zet (ZA Zls (Zq Zu (pv 0) Zg (λ_ _=>rfl)) (pv 1)) (ZhQ (pv 0) Zg set_list (λ_=>rfl)))
   (Zh (Zt (pv 2))))),?_⟩
 walk_at "rd"
 refine⟨_,SqL.of hp,_,rfl,_,rfl,h0,?_⟩
 refine⟨_,SqL.of hp,_,rfl,_,rfl,⟨h0,by omega⟩,_,hp,_,rfl,?_⟩
 exact k1 _ _ (Int.emod_nonneg _ (by omega)) (Int.emod_lt_of_pos _ h0) ⟨_,Zc,Int.ediv_nonneg hx (by omega)⟩ Exc.upd
theorem Zo5 {f:Addr}{fd:FuncData} (F:Fun K "settle" "settle" ZdB f fd) (T:Txt K mg):FnOk P w K mg base (CXE P w) 1 f fd ["elders","spine","place","keep"] (ZgV K mg):=by
 refine F.okX Zo4 (λvs H Q E h=>?_) (λcdv A outer s H vs Q E hr h=>?_)
 ·obtain⟨el,sp,es,A,B,i,rfl,_⟩:=h;rfl
 obtain⟨el,sp,es,A',B,i,rfl,hel,hsp,hne,hi,hq,hlen,k1⟩:=h
 refine⟨_,(Zd (ZV (Zk Zf4 (pv 3) (Zj (Zm (K:=K) rfl) rfl T.b_len YH (Za (pv 1) Zb)) (Zl _)) (Zh (Zet (pv 2) (ZhQ (pv 0) (Zq Zu (pv 1) (pv 3) (λ_ _=>rfl)) set_list (λ_=>rfl)))) ZE)
   (Zd (ZV (Zk Zej (pv 3) Zg (Zl _)) (Zh (Zet (Zq Zu (pv 1) (ZA ZgC (pv 3) Zg) (λ_ _=>rfl)) (ZhQ (pv 0) (pv 2) set_list (λ_=>rfl)))) ZE)
   (Zd (ZmD (pv 1) (pv 3))
   (Zh (ZbZ (ZpR PySem.F.plainAttrs_list PySem.F.slot_list_append PySem.F.type_list_append ZjF (pv 1) (Za (pv 2) Zb))))))),?_⟩
 walk_at "rd"
 have hb1:(Z2 A').length<sizeLine:=by
  rw[Zbf]
  rw[YT]at hlen
  exact YF (show _<=1000 by omega) (by decide)
 have etk:List.take A'.length (Z2 (A'++B))=Z2 A':=by
  rw[ZgK]
  have:A'.length=(Z2 A').length:=(Zbf A').symm
  rw[this,List.take_left]
 have hle:A'.length<=(Z2 (A'++B)).length:=by rw[Zbf,YT];omega
 have esn:Z2 A'++[V.int (i:Nat)]=Z2 (A'++[i]):=by rw[ZgK];rfl
 refine⟨_,.inl (SqL.of hsp),?_⟩
 rw[Zbf,YT]
 -- the end: behind the two stores
 have fin:∀(es1:List Int) (Hx:Hp),(∀b o,b≠el->b≠sp->H b=some o->Hx b=some o)->Hx el=some (.lst (es1.map V.int))->Hx sp=some (.lst (Z2 (A'++B)))->es1=Zht es A' B i ->
   ∃(xs:List V) (k:Nat),(A'.length:Int)=(k:Int)/\Hx sp=some (HO.lst xs)/\k<=xs.length/\tyV K "list" (V.ref sp) (upd Hx sp (HO.lst (List.take k xs)))/\∃x,upd Hx sp (HO.lst (List.take k xs)) sp=some (HO.lst x)/\x.length<sizeLine/\Q V.non (upd (upd Hx sp (HO.lst (List.take k xs))) sp (HO.lst (x++[V.int (i:Nat)]))):=by
  intro es1 Hx h1 h2 h3 h4
  refine⟨_,A'.length,rfl,h3,hle,ZhW Zc,_,Zc,by rw[etk];exact hb1,k1 _ (λb o n1 n2 z=>by rw[Zf n2,Zf n2];exact h1 b o n1 n2 z) (by rw[Zf hne,Zf hne,h2,h4]) (by rw[Zc,etk,esn])⟩
 -- elders[place]=spine[keep-1]
 have mid:∀(es1:List Int) (Hx:Hp),(∀b o,b≠el->b≠sp->H b=some o->Hx b=some o)->Hx el=some (.lst (es1.map V.int))->es1.length=es.length->Hx sp=some (.lst (Z2 (A'++B)))->∀q,A'.getLast?=some q->es1.set i (q:Int)=Zht es A' B i ->
   ∃x,SqL K Hx sp x/\∃x_1,atI x ((A'.length:Int)-1)=some x_1/\∃x,Hx el=some (HO.lst x)/\∃x_2,ixN x.length (i:Int)=some x_2/\∃(xs:List V) (k:Nat),(A'.length:Int)=(k:Int)/\upd Hx el (HO.lst (x.set x_2 x_1)) sp=some (HO.lst xs)/\k<=xs.length/\tyV K "list" (V.ref sp) (upd (upd Hx el (HO.lst (x.set x_2 x_1))) sp (HO.lst (List.take k xs))) /\
    ∃x_3,upd (upd Hx el (HO.lst (x.set x_2 x_1))) sp (HO.lst (List.take k xs)) sp=some (HO.lst x_3)/\x_3.length<sizeLine/\Q V.non (upd (upd (upd Hx el (HO.lst (x.set x_2 x_1))) sp (HO.lst (List.take k xs))) sp (HO.lst (x_3++[V.int (i:Nat)]))):=by
  intro es1 Hx h1 h2 hl1 h3 q hq h4
  have hpos:0<A'.length:=by
   cases A' with
   |nil=>cases hq
   |cons _ _=>simp
  have hat:(A'++B)[A'.length-1]?=some q:=by
   rw[Y2 (by omega)]
   rw[List.getLast?_eq_getElem?]at hq;exact hq
  have ei:((A'.length:Int)-1)=((A'.length-1:Nat):Int):=by omega
  refine⟨_,SqL.of h3,_,by rw[ei];exact Zh3 hat,_,h2,i,by rw[Yj,hl1];exact Zkn hi,?_⟩
  have em:(es1.map V.int).set i (V.int (q:Nat))=(es1.set i (q:Int)).map V.int:=by rw[List.map_set]
  rw[em]
  exact fin _ _ (λb o n1 n2 z=>by rw[Zf n1];exact h1 b o n1 n2 z) Zc (by rw[Zf hne.symm];exact h3) h4
 cases B with
 |nil =>
  rw[Yb (by simp)]
  cases hq:A'.getLast? with
  |none =>
   have:A'=[]:=List.getLast?_eq_none_iff.mp hq
   rw[Yb (by rw[this];simp)]
   exact fin es H (λb o _ _ z=>z) hel hsp (by unfold Zht;rw[hq];rfl)
  |some q =>
   have:A'≠[]:=λz=>by rw[z]at hq;cases hq
   rw[Yd (by have:=List.length_pos_iff.mpr this;omega)]
   exact mid es H (λb o _ _ z=>z) hel rfl hsp q hq (by unfold Zht;rw[hq];rfl)
 |cons b Br =>
  rw[Yd (by simp;omega)]
  have hat:(A'++b::Br)[A'.length]?=some b:=by rw[YX (Yf _)];simp
  have hbn:b<es.length:=hq b (by simp)
  refine⟨_,SqL.of hsp,_,Zh3 hat,_,_,rfl,hel,b,by rw[Yj];exact Zkn hbn,?_⟩
  have em:(es.map V.int).set b (V.int (i:Nat))=(es.set b (i:Int)).map V.int:=by rw[List.map_set]
  rw[em]
  cases hq2:A'.getLast? with
  |none =>
   have:A'=[]:=List.getLast?_eq_none_iff.mp hq2
   rw[Yb (by rw[this];simp)]
   exact fin (es.set b i) _ (λc o n1 n2 z=>by rw[Zf n1];exact z) Zc (by rw[Zf hne.symm];exact hsp) (by unfold Zht;rw[hq2];rfl)
  |some q =>
   have:A'≠[]:=λz=>by rw[z]at hq2;cases hq2
   rw[Yd (by have:=List.length_pos_iff.mpr this;omega)]
   exact mid (es.set b i) _ (λc o n1 n2 z=>by rw[Zf n1];exact z) Zc (by simp) (by rw[Zf hne.symm];exact hsp) q hq2 (by unfold Zht;rw[hq2];rfl)
theorem Znc {f:Addr}{fd:FuncData} (F:Fun K "tree_of" "tree_of" Zcd f fd) (Ziz:Callee P w K mg base "settle" 1 ["elders","spine","place","keep"] (ZgV K mg)) (T:Txt K mg):FnOk P w K mg base (CXE P w) 2 f fd ["row"] (Zbn K mg):=by
 refine F.okX Zbp (λvs H Q E h=>?_) (λcdv A outer s H vs Q E hr h=>?_)
 ·obtain⟨r,ns,rfl,_⟩:=h;rfl
 obtain⟨r,ns,rfl,hS,hn,k1⟩:=h
 refine⟨_,(Zd (Zo (i:=1) Zbp.nd rfl (Or.inl rfl) (ZA Zmw (ZcW (Za (Zg8 Zev Zg) Zb)) (Zj (Zm (K:=K) rfl) rfl T.b_len YH (Za (pv 0) Zb))))
   (Zd (Zo (i:=2) Zbp.nd rfl (Or.inl rfl) (ZcW Zb))
   (Zd (ZcX (Zeu PassesOwn.never rfl (Zav rfl T.b_range (Za (Zj (Zm (K:=K) rfl) rfl T.b_len YH (Za (pv 0) Zb)) Zb)) (Zn (i:=3) Zbp.nd rfl (Or.inl rfl)) (Zd (Zo (i:=4) Zbp.nd rfl (Or.inl rfl) (Zj (Zm (K:=K) rfl) rfl T.b_len YH (Za (pv 2) Zb)))
   (Zd (ZcX (Zk8 PassesOwn.never (PW.pt (ZdG (Zk Zej (pv 4) Zg (Zl _)) (ZdF (Zk Zej (Zq (Zhs (K:=K) rfl) (pv 0) (Zq Zu (pv 2) (ZA ZgC (pv 4) Zg) (λ_ _=>rfl)) (λ_ _=>rfl)) (Zq (Zhs (K:=K) rfl) (pv 0) (pv 3) (λ_ _=>rfl)) (Zl _))))) (Zh (ps_aug (i:=4) Zbp.nd rfl (Or.inl rfl) Zg ip_sub))))
   (Zh (ZbZ (Zi Ziz (hr.mono (by decide)) rfl Zw (Za (pv 1) (Za (pv 2) (Za (pv 3) (Za (pv 4) Zb)))))))))))
   (Zh (Zt (Zdt (ZoU (K:=K) rfl) rfl T.b_tuple ZhV (Za (pv 1) Zb))))))),?_⟩
 walk_at "rd"
 have eL:(ns.map V.int).length=ns.length:=Yj ..
 refine⟨by decide,λp hp=>⟨_,((Ze.refl H).upd hp).q hS,_,Zc,by omega,by rw[eL];omega,?_,λel hel=>⟨Yu _,λsp hsp=>?_⟩⟩⟩
 ·exact Yo (show _<=1000 by simp;omega) (by decide)
 have s0:Ze H (upd (upd (upd H p (.lst [V.int (-1)])) el (.lst (List.replicate (((ns.map V.int).length:Nat):Int).toNat [V.int (-1)]).flatten)) sp (.lst [])):=(((Ze.refl H).upd hp).Zch hel).Zch hsp
 refine⟨_,s0.q hS,by omega,by rw[eL];omega,?_⟩
 have en:(((ns.map V.int).length:Nat):Int).toNat=ns.length:=by rw[eL];omega
 have hel0:(upd (upd (upd H p (.lst [V.int (-1)])) el (.lst (List.replicate (((ns.map V.int).length:Nat):Int).toNat [V.int (-1)]).flatten)) sp (.lst [])) el=some (.lst ((List.replicate ns.length (-1:Int)).map V.int)):=by
  have:=((Ze.refl _).Zch (o:=.lst []) hsp) el _ Zc
  rw[this,en];simp
 have hsp0:(upd (upd (upd H p (.lst [V.int (-1)])) el (.lst (List.replicate (((ns.map V.int).length:Nat):Int).toNat [V.int (-1)]).flatten)) sp (.lst [])) sp=some (.lst (Z2 [])):=Zc
 have nes:el≠sp:=λz=>by
  subst z
  rw[Zc]at hsp;cases hsp
 have zel:H el=none:=((Ze.refl H).upd hp).free hel
 have zsp:H sp=none:=(((Ze.refl H).upd hp).Zch hel).free hsp
 rw[en]at hel0 hsp0 s0⊢
 generalize (upd (upd (upd H p (.lst [V.int (-1)])) el (.lst (List.replicate ns.length [V.int (-1)]).flatten)) sp (.lst []))=H0 at s0 hel0 hsp0⊢
 refine Ze8 (λi σ Hx=>∃(es:List Int) (S:List Nat) (v3 v4:Option V),σ=[some (.ref r),some (.ref el),some (.ref sp),v3,v4]/\Ze H Hx/\Hx el=some (.lst (es.map V.int))/\Hx sp=some (.lst (Z2 S))/\es.length=ns.length/\Zqb (nth ns) i S/\(∀p e,p<i->e=es.getD p 0->ZN (nth ns) i p e)/\∀p,i<=p->p<ns.length->es.getD p 0=-1)
  ⟨List.replicate ns.length (-1),[],none,none,rfl,s0,hel0,hsp0,by simp,⟨List.Pairwise.nil,λq=>by simp⟩,λp e hp=>by omega,λp _ hp=>by simp[Yn,hp]⟩ ?_ ?_
 ·rintro i σ Hx hi ⟨es,S,v3,v4,rfl,sx,hxe,hxs,hesl,hS2,hE,hE2⟩
  walk_at "rd"
  have hin:i<ns.length:=by omega
  have hSl:S.length<=1000:=by
   rcases Zqg S i 0 hS2.1 (λq hq=>⟨Yu _,((hS2.2 q).mp hq).1⟩)with z|z
   ·omega
   ·rw[z];simp
  refine⟨_,.inl (SqL.of hxs),?_⟩
  rw[Zbf]
  refine ZnS S.length (λj σ Hy=>∃A B,S=A++B/\B.length=j/\(∀q∈B,nth ns i<nth ns q)/\σ=[some (.ref r),some (.ref el),some (.ref sp),some (.int (0+(i:Int))),some (.int (A.length:Nat))]/\Hy=Hx) ⟨S,[],by simp,rfl,(λq hq=>absurd hq (by simp)),rfl,rfl⟩ ?_
  rintro j σ Hy hj ⟨A,B,hAB,hBl,hBg,rfl,rfl⟩
  walk_at "rd"
  have hmem:∀q,q∈A++B->q<i:=λq hq=>((hS2.2 q).mp (by rw[hAB];exact hq)).1
  have hix:(0+(i:Int))=(i:Int):=by omega
  rw[hix]
  by_cases hA0:A=[]
  case' pos =>
   rw[Yb (by rw[hA0];simp)]
   have hA:∀q∈A,nth ns q<=nth ns i:=λq hq=>absurd hq (by rw[hA0];simp)
  case' neg =>
   obtain⟨q,Al,rfl⟩:∃q Al,A=Al++[q]:=⟨A.getLast hA0,A.dropLast,(List.dropLast_concat_getLast hA0).symm⟩
   have hal:(Al++[q]).length=Al.length+1:=by simp
   rw[Yd (by rw[hal];omega)]
   have eiA:(((Al++[q]).length:Nat):Int)-1=(Al.length:Int):=by rw[hal];omega
   have hat:S[Al.length]?=some q:=by
    rw[hAB,Y3,YX (Yf _)];simp
   have hqi:q<i:=hmem q (by simp)
   refine⟨_,SqL.of hxs,_,by rw[eiA];exact Zh3 hat,_,_,rfl,sx.q hS,_,Zbe (by omega),_,sx.q hS,_,Zbe hin,_,rfl,_,rfl,ZC (λhlt=>?_) (λhge=>?_)⟩
   ·have hj2:j+1<=S.length:=by rw[hAB,YT,hal];omega
    refine⟨_,WI.next,hj2,Al,q::B,by rw[hAB];simp,by simp[hBl],λx hx=>?_,by rw[eiA],rfl⟩
    rcases Yg.mp hx with z|z
    ·rw[z];exact hlt
    ·exact hBg x z
   have hA:∀x∈Al++[q],nth ns x<=nth ns i:=λx hx=>by
    by_cases z:x=q
    ·rw[z];omega
    ·have hxa:x∈Al:=by
      rcases YE.mp hx with y|y
      ·exact y
      ·exact absurd (by simpa using y) z
     have hpw:=hS2.1
     rw[hAB]at hpw
     have hxq:x<q:=(List.pairwise_append.mp (List.pairwise_append.mp hpw).1).2.2 x hxa q (by simp)
     have:=((hS2.2 x).mp (by rw[hAB];exact YR _ hx)).2 q hxq hqi
     omega
   generalize Al++[q]=A at hA hAB hmem hA0⊢
  all_goals
   have SS:=ZmC (f:=nth ns) (i:=i) (A:=A) (B:=B) (by rw[<-hAB];exact hS2) hA hBg
   refine⟨el,sp,es,A,B,i,rfl,hxe,by rw[<-hAB];exact hxs,nes,by omega,λq hq=>by have:=hmem q hq;omega,by rw[<-hAB];exact hSl,λH' q1 q2 q3=>?_⟩
   have hbi:∀b,B.head?=some b->b≠i:=λb hb=>by
    have:=hmem b (Yl _ (List.mem_of_head? hb));omega
   refine⟨λb o z=>q1 b o (Zp z zel) (Zp z zsp) (sx b o z),Zht es A B i,q2,A++[i],q3,by rw[Zqf];exact hesl,SS.1,λp e hp he=>?_,λp hp1 hp2=>?_⟩
   ·rw[ZnU _ _ _ _ _ (by omega) hbi]at he
    by_cases z:p=i
    ·subst z
     rw[Yd rfl,hE2 p (Yf _) (by omega)]at he
     rw[he];exact SS.2.1
    ·rw[Yb z]at he
     rw[he]
     exact SS.2.2 p _ (by omega) (hE p _ (by omega) rfl)
   ·rw[ZnU _ _ _ _ _ (by omega) hbi,Yb (by omega),Yb (λz=>?_)]
    ·exact hE2 p (by omega) hp2
    ·have:=hmem p (Yl _ (List.mem_of_head? z));omega
 ·rintro σ Hx ⟨es,S,v3,v4,rfl,sx,hxe,hxs,hesl,hS2,hE,hE2⟩
  walk_at "rd"
  exact⟨_,SqL.of hxe,λt H7 zt s7 ht=>k1 t es H7 ⟨hesl,λp hp=>hE p _ hp rfl⟩ (sx.trans s7) ht⟩
theorem Zo6 {f:Addr}{fd:FuncData} (F:Fun K "way_up" "way_up" ZdC f fd) (T:Txt K mg):FnOk P w K mg base (CXE P w) 1 f fd ["tree","place"] (ZgU K mg):=by
 refine F.okX Zfd (λvs H Q E h=>?_) (λcdv A outer s H vs Q E hr h=>?_)
 ·obtain⟨t,T,p,rfl,_⟩:=h;rfl
 obtain⟨t,T',p,rfl,ht,hn,hp,k1⟩:=h
 have hQ:∀Hx,Ze H Hx->(SqL K Hx t (T'.map V.int)\/SqT K Hx t (T'.map V.int)):=λHx sx=>ht.elim (λz=>.inl (sx.seq z)) λz=>.inr (sx.ZeA z)
 refine⟨_,(Zd (Zo (i:=2) Zfd.nd rfl (Or.inl rfl) (ZcW Zb))
   (Zd (Zo (i:=3) Zfd.nd rfl (Or.inl rfl) (Zq (Zhs (K:=K) rfl) (pv 0) (pv 1) (λ_ _=>rfl)))
   (Zd (ZcX (Zk8 PassesOwn.never (PW.pt (ZdG (ZpG Zlb Zf4 Zg (pv 3) (Zj (Zm (K:=K) rfl) rfl T.b_len YH (Za (pv 0) Zb))) (ZdF (Zk Zf4 (Zj (Zm (K:=K) rfl) rfl T.b_len YH (Za (pv 2) Zb)) (Zj (Zm (K:=K) rfl) rfl T.b_len YH (Za (pv 0) Zb)) (Zl _))))) (Zd (ZbZ (ZpR PySem.F.plainAttrs_list PySem.F.slot_list_append PySem.F.type_list_append ZjF (pv 2) (Za (pv 3) Zb)))
   (Zh (Zo (i:=3) Zfd.nd rfl (Or.inl rfl) (Zq (Zhs (K:=K) rfl) (pv 0) (pv 3) (λ_ _=>rfl)))))))
   (Zh (Zt (pv 2)))))),?_⟩
 walk_at "rd"
 refine⟨Yu _,λl hl=>⟨_,hQ _ ((Ze.refl H).upd hl),_,Zbe hp,?_⟩⟩
 refine ZnS T'.length (λj σ Hx=>Ze H Hx/\Hx l=some (.lst (Z2 (Zap T' j (nth T' p))))/\(Zap T' j (nth T' p)).length=j/\σ=[some (.ref t),some (.int p),some (.ref l),some (.int (ZaI T' j (nth T' p)))]) ⟨(Ze.refl H).upd hl,Zc,rfl,rfl⟩ ?_
 rintro j σ Hx hj ⟨sx,hxl,hjl,rfl⟩
 walk_at "rd"
 have hlen:(Z2 (Zap T' j (nth T' p))).length=j:=by rw[Zbf];exact hjl
 have eL:(T'.map V.int).length=T'.length:=Yj ..
 have done:(j=T'.length\/¬ (0<=ZaI T' j (nth T' p)/\ZaI T' j (nth T' p)<T'.length))->Q (.ref l) Hx:=λz=>by
  refine k1 l Hx hl sx ?_
  have:Zap T' T'.length (nth T' p)=Zap T' j (nth T' p):=by
   rcases z with z|z
   ·rw[<-z]
   ·exact ZjM T' j _ _ hj hjl z
  rw[hxl];unfold wayI;rw[this];simp[Z2]
 refine ZC (λh0=>⟨_,hQ _ sx,ZC (λh1=>⟨_,.inl (SqL.of hxl),_,hQ _ sx,ZC (λh2=>?_) λh2=>done (.inl (by rw[hlen,eL]at h2;omega))⟩) λh1=>done (.inr (by rw[eL]at h1;omega))⟩) λh0=>done (.inr (by omega))
 rw[eL]at h1;rw[hlen,eL]at h2
 obtain⟨a1,a2⟩:=ZjL T' j (nth T' p) h0 h1 hjl
 have ei:ZaI T' j (nth T' p)=(((ZaI T' j (nth T' p)).toNat:Nat):Int):=by omega
 refine⟨_,WI.next,ZhW hxl,_,hxl,by rw[hlen];exact YF (show _<=1000 by omega) (by decide),_,hQ _ (sx.upd hl),_,(congrArg (atI _) ei).trans (Zbe (by omega)),by omega,sx.upd hl,?_,?_,?_⟩
 ·rw[Zc,a1,ZgK]
  have:Z2 [(ZaI T' j (nth T' p)).toNat]=[V.int (ZaI T' j (nth T' p))]:=by rw[ei];simp[Z2]
  rw[this]
 ·rw[a1];simp[hjl]
 ·rw[a2]
theorem Zeo {f:Addr}{fd:FuncData}{dV:Value} (F:FunD K "need_numbers" "need_numbers" ZX f fd dV) (T:Txt K mg):FnOk P w K mg base (CXE P w) 1 f fd ["row","fewest"] (ZaP K mg):=by
 refine F.okX Zhw (λvs H Q E h=>?_) (λcdv A outer s H vs Q E hr h=>?_)
 ·obtain⟨r,ns,k,rfl,_⟩:=h;rfl
 obtain⟨r,ns,k,rfl,hS,hn,h0,h1,k1,k2⟩:=h
 refine⟨_,(Zh (ZV (Zk Zf4 (Zj (Zm (K:=K) rfl) rfl T.b_len YH (Za (pv 0) Zb)) (pv 1) (Zl _)) (Zh (Zf6 rfl rfl T.c_Empty T.x_Empty (Za (Zfa (Zb0 (by decide) (ZhU (Zj (Zm (K:=K) rfl) rfl T.b_len YH (Za (pv 0) Zb)) (Zb0 (by decide) (ZhU (pv 1) (Zb0 (by decide) Zkl)))))) Zb) ZhF)) ZE)),?_⟩
 walk_at "rd"
 have eN:(ns.map V.int).length=ns.length:=Yj ..
 exact⟨_,hS,ZC (λz=>⟨_,hS,by omega,by rw[eN];omega,h0,by omega,λy=>⟨by decide,k2 (by rw[eN]at z;exact z)⟩⟩) λz=>k1 (by rw[eN]at z;omega)⟩
theorem Zjd {f:Addr}{fd:FuncData} (F:Fun K "from_below" "from_below" Zay f fd) (ZiA:Callee P w K mg base "way_up" 1 ["tree","place"] (ZgU K mg)) (L:ZmS K mg "from_below" f) (B:BM mg base) (T:Txt K mg):FnOk P w K mg base (CXE P w) 5 f fd ["tree"] (Zbr K mg):=by
 refine F.okL L B Zjb (λvs H Q E h=>?_) (λcdv A outer s H vs Q E LI hr h=>?_)
 ·obtain⟨t,T,rfl,_⟩:=h;rfl
 obtain⟨t,T',rfl,ht,hG,hTb,k1⟩:=h
 refine⟨_,(Zh (Zt (ZoP (Nc:=["place","tree"]) (js:=[none,some 0]) (pn:="place") (q:=Zib "from_below") (P:=Zge K mg "from_below") rfl hr ⟨rfl,rfl,rfl,rfl,rfl,rfl,rfl,λ_ _ _ _ _ _=>rfl⟩ (λ_ _ _ _ _ _=>(Zj (Zm (K:=K) rfl) rfl T.b_len YH (Za (Zi ZiA ((hr.in1.in1.deeper _).mono (by decide)) rfl Zw (Za (pv 1) (Za (pv 0) Zb))) Zb))) rfl T.b_sorted (Za (ZoE rfl T.b_range (Za (Zj (Zm (K:=K) rfl) rfl T.b_len YH (Za (pv 0) Zb)) Zb)) Zb) (Ze9 (ZmO ⟨LI.code,LI.bm,LI.ql⟩ rfl) (Ze9 Zjx Zmr))))),?_⟩
 walk_at "rd"
 have eL:(T'.map V.int).length=T'.length:=Yj ..
 have h40:=hG.1
 refine⟨_,.inr (ht),by omega,by omega,λp1 hp1=>?_⟩
 rw[eL]
 have g1:=(Ze.refl H).Zch (o:=.rng 0 (T'.length:Int)) hp1
 have h1:=Zc (H:=H) (a:=p1) (o:=.rng 0 (T'.length:Int))
 generalize upd H p1 (.rng 0 (T'.length:Int))=H4 at g1 h1⊢
 refine⟨g1 _ _ hTb,λf1 H5 zf s5 LO=>⟨_,s5 _ _ h1,by omega,by omega,LO,dpI T',λi H6 i0 i1 s6=>?_,λps l H6 hpm hpw s6 zl hl=>k1 l ps H6 ((g1.trans s5).free zl) ((g1.trans s5).trans s6) hpm hpw hl⟩⟩
 obtain⟨j,rfl⟩:=Jc i0
 have g6:=(g1.trans s5).trans s6
 exact⟨t,T',j,rfl,.inr ((g6).ZeA ht),by omega,by omega,λw H7 zw s7 hw=>⟨w,rfl,_,.inl (SqL.of hw),by rw[Yj];rfl,s7⟩⟩
noncomputable instance (ts:List Int) (ps:List Pt) (i j:Nat):Decidable (ZcJ ts ps i j):=by unfold ZcJ;exact inferInstance
noncomputable instance (ts:List Int) (ps:List Pt) (i j:Nat):Decidable (Zco ts ps i j):=by unfold Zco;exact inferInstance
theorem Z4.same {H H':Hp}{v:V}{pr:Pt} (h:Z4 H v pr) (s:Ze H H'):Z4 H' v pr:=by
 cases pr with
 |none=>exact h
 |some z=>obtain⟨a,e,h⟩:=h;exact⟨a,e,s _ _ h⟩
theorem Zbc.same {H H':Hp}{a:Addr}{ps:List Pt} (h:Zbc H a ps) (s:Ze H H'):Zbc H' a ps:=by
 obtain⟨vals,h1,h2,h3⟩:=h
 exact⟨vals,s _ _ h1,h2,λi v p e1 e2=>(h3 i v p e1 e2).same s⟩
theorem ZeH.same {H H':Hp}{a:Addr}{tab:List (List Pt)} (h:ZeH H a tab) (s:Ze H H'):ZeH H' a tab:=by
 obtain⟨as,h1,h0,h2,h3⟩:=h
 exact⟨as,s _ _ h1,h0,h2,λi v p e1 e2=>(h3 i v p e1 e2).same s⟩
theorem ZgW {H:Hp}{vals:List V}{ps:List Pt} (hl:vals.length=ps.length) (h:∀(i:Nat) (v:V) (p:Pt),vals[i]?=some v->ps[i]?=some p->Z4 H v p) {j:Nat} (hj:j<ps.length):∃v,atI vals (j:Int)=some v/\Z4 H v (ps.getD j none):=by
 refine⟨vals[j]'(by omega),ZgI rfl (by omega),h j _ _ (Ye (by omega)) ?_⟩
 rw[Yn,Ye hj];rfl
theorem Zfe {H:Hp}{v:V}{ps:List Pt}{j:Nat} (h:Z4 H v (ps.getD j none)) (hs:(ps.getD j none).isSome=true):∃a,v=.ref a/\H a=some (.tup [.int (Zfi ps j).1,.int (Zfi ps j).2]):=by
 unfold Zfi
 cases e:ps.getD j none with
 |none=>rw[e]at hs;cases hs
 |some z=>rw[e]at h;exact h
theorem ZkL {H:Hp}{v:V}{ps:List Pt}{j:Nat} (h:Z4 H v (ps.getD j none)):v=.non↔(ps.getD j none).isSome=false:=by
 cases e:ps.getD j none with
 |none=>rw[e]at h;exact⟨λ_=>rfl,λ_=>h⟩
 |some z=>rw[e]at h;obtain⟨a,rfl,_⟩:=h;exact⟨λz=>absurd z (λy=>by cases y),λz=>absurd z (by simp)⟩
theorem Zok {ps:List Pt}{ns:List Int}{i:Nat}{P:Nat->Prop} (hm:∀x,x∈ns↔∃j:Nat,x=j/\P j) (hi:i<ns.length):∃j:Nat,nth ns i=j/\P j:=(hm _).mp (by unfold nth;rw[Yn,Ye hi];exact YL hi)
theorem Zq8 (P:Nat->Prop) (f:Nat->Int):∀n,(∀j,j<n->¬ P j)\/∃j,(j<n/\P j)/\∀j',j'<n->P j'->f j'<=f j
 |0=>.inl λj h=>absurd h (by omega)
 |n+1=>by
  classical
  rcases Zq8 P f n with h|⟨j,hj,h⟩
  ·by_cases c:P n
   ·refine .inr ⟨n,⟨by omega,c⟩,λj' h1 h2=>?_⟩
    by_cases e:j'=n
    ·subst e;exact Int.le_refl _
    ·exact absurd h2 (h j' (by omega))
   ·refine .inl λj' h1 h2=>?_
    by_cases e:j'=n
    ·subst e;exact c h2
    ·exact h j' (by omega) h2
  ·by_cases c:P n/\f j<f n
   ·refine .inr ⟨n,⟨by omega,c.1⟩,λj' h1 h2=>?_⟩
    by_cases e:j'=n
    ·subst e;exact Int.le_refl _
    ·have:=h j' (by omega) h2;omega
   ·refine .inr ⟨j,⟨by omega,hj.2⟩,λj' h1 h2=>?_⟩
    by_cases e:j'=n
    ·subst e
     exact Int.not_lt.mp λz=>c ⟨h2,z⟩
    ·exact h j' (by omega) h2
theorem ZtC (ts:List Int) (tab:List (List Pt)) (i:Nat) (bh:Option Nat):∃r,ZkI ts tab i bh r:=by
 cases bh with
 |none=>exact⟨_,rfl⟩
 |some c =>
  rcases Zq8 (Zco ts (tab.getD c []) i) (λj=>-(Zfi (tab.getD c []) j).2) ts.length with h|⟨j,hj,h⟩
  ·exact⟨none,λj hj=>h j hj.2.1 hj⟩
  ·exact⟨some _,⟨j,hj.2,rfl⟩,λj' hj'=>by have:=h j' hj'.2.1 hj';omega⟩
theorem Zol {H:Hp}{as:List Addr}{tab:List (List Pt)} (hl:as.length=tab.length) (h:∀(i:Nat) (a:Addr) (ps:List Pt),as[i]?=some a->tab[i]?=some ps->Zbc H a ps) {c:Nat} (hc:c<tab.length):∃a,atI (as.map V.ref) (c:Int)=some (V.ref a)/\Zbc H a (tab.getD c []):=by
 refine⟨as[c]'(by omega),?_,h c _ _ (Ye (by omega)) ?_⟩
 ·rw[ZgI rfl (by rw[Yj];omega)];simp
 ·rw[Yn,Ye hc];rfl
noncomputable def Zgl (T:List Int) (j v:Nat):Option Nat->Prop
 |none=>∀c,c<v->c<j->nth T c≠v
 |some c=>c<v/\c<j/\nth T c=v
noncomputable def ZeL (T:List Int) (j v:Nat):Option Nat->Prop
 |none=>∀c,v<c->c<j->nth T c≠v
 |some c=>v<c/\c<j/\nth T c=v
noncomputable def YTo (H:Hp) (as:List Addr) (T:List Int) (j:Nat):Prop:=∀(v:Nat) (a:Addr),as[v]?=some a->∃ah bh,Zgl T j v ah/\ZeL T j v bh/\H a=some (.lst [optN ah,optN bh])
theorem Zgl.skip {T:List Int}{j v:Nat}{o:Option Nat} (h:Zgl T j v o) (n:¬ (j<v/\nth T j=v)):Zgl T (j+1) v o:=by
 cases o with
 |none =>
  intro c c1 c2 e
  by_cases z:c=j
  ·subst z;exact n ⟨c1,e⟩
  ·exact h c c1 (by omega) e
 |some c=>exact⟨h.1,by have:=h.2.1;omega,h.2.2⟩
theorem ZeL.skip {T:List Int}{j v:Nat}{o:Option Nat} (h:ZeL T j v o) (n:¬ (v<j/\nth T j=v)):ZeL T (j+1) v o:=by
 cases o with
 |none =>
  intro c c1 c2 e
  by_cases z:c=j
  ·subst z;exact n ⟨c1,e⟩
  ·exact h c c1 (by omega) e
 |some c=>exact⟨h.1,by have:=h.2.1;omega,h.2.2⟩
theorem YTo.same {H H':Hp}{as:List Addr}{T:List Int}{j:Nat} (h:YTo H as T j) (s:Ze H H'):YTo H' as T j:=λv a e=>by
 obtain⟨ah,bh,h1,h2,h3⟩:=h v a e
 exact⟨ah,bh,h1,h2,s _ _ h3⟩
theorem YTo.skip {H:Hp}{as:List Addr}{T:List Int}{j:Nat} (h:YTo H as T j) (n:∀v:Nat,v<as.length->nth T j≠v):YTo H as T (j+1):=λv a e=>by
 obtain⟨ah,bh,h1,h2,h3⟩:=h v a e
 have hv:=(Ym.mp e).1
 exact⟨ah,bh,h1.skip λz=>n v hv z.2,h2.skip λz=>n v hv z.2,h3⟩
theorem YTo.set {H:Hp}{as:List Addr}{T:List Int}{j q:Nat}{a:Addr}{ah bh:Option Nat} (h:YTo H as T j) (nd:as.Nodup) (ea:as[q]?=some a) (hA:Zgl T (j+1) q ah) (hB:ZeL T (j+1) q bh) (eq:nth T j=q):YTo (upd H a (.lst [optN ah,optN bh])) as T (j+1):=λv b e=>by
 by_cases c:v=q
 ·subst c
  rw[ea]at e;cases e
  exact⟨ah,bh,hA,hB,Zc⟩
 ·have nb:b≠a:=λz=>by
   subst z
   obtain⟨h1,e1⟩:=Ym.mp ea
   obtain⟨h2,e2⟩:=Ym.mp e
   exact c ((List.getElem_inj nd (h₀:=h2) (h₁:=h1)).mp (e2.trans e1.symm))
  obtain⟨ah',bh',h1,h2,h3⟩:=h v b e
  exact⟨ah',bh',h1.skip λz=>c (by have:=z.2;omega),h2.skip λz=>c (by have:=z.2;omega),by rw[Zf nb];exact h3⟩
theorem ZlV {K:PySem.W.Frag}{H:Hp}{a:Addr}{x y:Int} (h:H a=some (.tup [.int x,.int y])):IsT K H IsI (.ref a) [x,y]:=ZhZ (SqT.of (show H a=some (.tup ([x,y].map V.int))from h))
theorem eqq_pt {K:PySem.W.Frag}{H:Hp}{n:Nat}:EqQ K H (n+1) (Z4 H):=by
 intro x y a b ha hb
 cases a with
 |none =>
  have ea:x=.non:=ha
  subst ea
  cases b with
  |none =>
   have eb:y=.non:=hb
   subst eb
   exact EqN.flat (x:=.non) (y:=.non) rfl rfl
  |some z =>
   obtain⟨q,rfl,hq⟩:=hb
   exact EqN.nonT (SqT.of hq)
 |some w =>
  obtain⟨p,rfl,hp⟩:=ha
  cases b with
  |none =>
   have eb:y=.non:=hb
   subst eb
   exact EqN.tNon (SqT.of hp)
  |some z =>
   obtain⟨q,rfl,hq⟩:=hb
   have:=Ztw (K:=K) (H:=H) (n:=n) Ztv (V.ref p) (V.ref q) [w.1,w.2] [z.1,z.2] (ZlV hp) (ZlV hq)
   rw[show decide ([w.1,w.2]=[z.1,z.2])=decide (some w=some z)from decide_eq_decide.mpr ⟨λe=>by
    have h1:w.1=z.1:=by simpa using congrArg (λl=>l.getD 0 0) e
    have h2:w.2=z.2:=by simpa using congrArg (λl=>l.getD 1 0) e
    rw[Prod.ext h1 h2],λe=>by rw[YA e]⟩]at this
   exact this
theorem ZtD {K:PySem.W.Frag}{H:Hp}{a:Addr}{ps:List Pt} (h:Zbc H a ps):IsL K H (Z4 H) (.ref a) ps:=by
 obtain⟨vals,h1,h2,h3⟩:=h
 exact⟨a,vals,rfl,SqL.of h1,h2,h3⟩
theorem Zom {K:PySem.W.Frag}{H:Hp}{l:Addr}{as:List Addr}{tab:List (List Pt)} (h1:H l=some (.lst (as.map V.ref))) (h2:as.length=tab.length) (h3:∀(i:Nat) (a:Addr) (ps:List Pt),as[i]?=some a->tab[i]?=some ps->Zbc H a ps):IsL K H (IsL K H (Z4 H)) (.ref l) tab:=by
 refine⟨l,_,rfl,SqL.of h1,by rw[Yj];exact h2,λj x ps e1 e2=>?_⟩
 rw[YD]at e1
 cases e:as[j]? with
 |none=>rw[e]at e1;cases e1
 |some a=>rw[e]at e1;cases e1;exact ZtD (h3 j a ps e e2)
theorem tbl_eq {K:PySem.W.Frag}{H:Hp}{l m:Addr}{as bs:List Addr}{tab tb:List (List Pt)} (h1:H l=some (.lst (as.map V.ref))) (h2:as.length=tab.length) (h3:∀(i:Nat) (a:Addr) (ps:List Pt),as[i]?=some a->tab[i]?=some ps->Zbc H a ps) (g1:H m=some (.lst (bs.map V.ref))) (g2:bs.length=tb.length) (g3:∀(i:Nat) (a:Addr) (ps:List Pt),bs[i]?=some a->tb[i]?=some ps->Zbc H a ps):EqN K H 3 (.ref l) (.ref m) (decide (tab=tb)) :=
 ZnZ (n:=2) (ZnZ (n:=1) (eqq_pt (n:=0))) _ _ tab tb (Zom h1 h2 h3) (Zom g1 g2 g3)
theorem ZlR.same {K:PySem.W.Frag}{H H':Hp}{a:Addr}{ps:List Pt} (h:ZlR K H a ps) (s:Ze H H'):ZlR K H' a ps:=by
 obtain⟨vals,h1,h2,h3⟩:=h
 exact⟨vals,s.q h1,h2,λi v p e1 e2=>(h3 i v p e1 e2).same s⟩
theorem Zj1 {ns T:List Int} (hT:Zx ns T) {p q:Nat} (hp:p<ns.length) (h:nth T p=q):dpI T (p:Int)=dpI T (q:Int)+1:=by
 unfold dpI
 simp only[Int.toNat_natCast,Zqi,Yj]
 rw[Zcj hT hp h,Yw];omega
theorem Zir (n:Int):(nats n).Nodup:=by
 unfold nats
 exact List.Pairwise.map _ (λa b (h:a≠b)=>λ(e:(a:Int)=(b:Int))=>h (by omega)) List.nodup_range
theorem Zj2 {ns T qs:List Int} (hT:Zx ns T) (hpm:qs.Perm (nats (T.length:Int))) (hpw:qs.Pairwise λx y=>dpI T y<=dpI T x) {k c v:Nat} (e:qs[k]?=some (v:Int)) (hc:c<T.length) (h:nth T c=v):(c:Int)∈qs.take k:=by
 have eT:=hT.1
 have hd:=Zj1 hT (p:=c) (by omega) h
 have hm:(c:Int)∈qs:=hpm.mem_iff.mpr (YN.mpr ⟨c,Yy.mpr (by omega),rfl⟩)
 obtain⟨m,hm1,em⟩:=YY hm
 obtain⟨hk,ek⟩:=Ym.mp e
 by_cases hlt:m<k
 ·exact List.mem_take_iff_getElem.mpr ⟨m,by omega,em⟩
 ·exfalso
  by_cases he:m=k
  ·subst he
   rw[em]at ek
   rw[ek]at hd;omega
  ·have:=List.pairwise_iff_getElem.mp hpw k m hk hm1 (by omega)
   rw[em,ek]at this
   omega
noncomputable def ZdR (T ts:List Int) (tab:List (List Pt)) (v:Nat):Prop:=(tab.getD v []).length=ts.length/\∀i,i<ts.length->∃ah bh,ZaQ T v ah/\Zac T v bh/\ZcK ts tab i ah bh ((tab.getD v []).getD i none)
theorem ZbL {tab:List (List Pt)}{v c:Nat}{rs:List Pt} (h:c≠v):(tab.set v rs).getD c []=tab.getD c []:=by
 rw[Yn,Yn,List.getElem?_set_ne (Ne.symm h)]
theorem Zo7 {tab:List (List Pt)}{v:Nat}{rs:List Pt} (h:v<tab.length):(tab.set v rs).getD v []=rs:=by
 rw[Yn,List.getElem?_set_self h];rfl
theorem Zj3 {T ts:List Int}{tab:List (List Pt)}{v w i:Nat}{rs:List Pt}{ah bh:Option Nat}{p:Pt} (hA:ZaQ T w ah) (hB:Zac T w bh) (hk:∀c,c<T.length->nth T c=w->c≠v) (h:ZcK ts tab i ah bh p):ZcK ts (tab.set v rs) i ah bh p:=by
 obtain⟨a,b,h1,h2,h3⟩:=h
 refine⟨a,b,?_,?_,h3⟩
 ·cases ah with
  |none=>exact h1
  |some c =>
   unfold ZkH at h1⊢
   dsimp only at h1⊢
   rw[ZbL (hk c hA.2.1 hA.2.2)];exact h1
 ·cases bh with
  |none=>exact h2
  |some c =>
   unfold ZkI at h2⊢
   dsimp only at h2⊢
   rw[ZbL (hk c hB.2.1 hB.2.2)];exact h2
theorem ZdR.set {T ts:List Int}{tab:List (List Pt)}{v w:Nat}{rs:List Pt} (h:ZdR T ts tab w) (hw:w≠v) (hk:∀c,c<T.length->nth T c=w->c≠v):ZdR T ts (tab.set v rs) w:=by
 unfold ZdR
 rw[ZbL hw]
 refine⟨h.1,λi hi=>?_⟩
 obtain⟨ah,bh,hA,hB,hR⟩:=h.2 i hi
 exact⟨ah,bh,hA,hB,Zj3 hA hB hk hR⟩
theorem ZdR.new {T ts:List Int}{tab:List (List Pt)}{v:Nat}{rs:List Pt}{ah bh:Option Nat} (hv:v<tab.length) (hl:rs.length=ts.length) (hA:ZaQ T v ah) (hB:Zac T v bh) (hk:∀c,c<T.length->nth T c=v->c≠v) (h:∀i,i<ts.length->ZcK ts tab i ah bh (rs.getD i none)):ZdR T ts (tab.set v rs) v:=by
 unfold ZdR
 rw[Zo7 hv]
 exact⟨hl,λi hi=>⟨ah,bh,hA,hB,Zj3 hA hB hk (h i hi)⟩⟩
theorem Z4.excL {H H':Hp}{v:V}{pr:Pt}{l:Addr}{xs:List V} (h:Z4 H v pr) (hl:H l=some (.lst xs)) (s:Exc l H H'):Z4 H' v pr:=by
 cases pr with
 |none=>exact h
 |some z =>
  obtain⟨a,e,h⟩:=h
  exact⟨a,e,s _ _ (λy=>by rw[y,hl]at h;cases h) h⟩
theorem lmin (f:Nat->Int) (a:Nat):∀d,∃m,a<=m/\m<=a+d/\(∀r,a<=r->r<=a+d->f m<=f r)/\∀r,a<=r->r<m->f m<f r
 |0=>⟨a,by omega,by omega,λr h1 h2=>by rw[show r=a by omega];exact Int.le_refl _,λr h1 h2=>absurd h2 (by omega)⟩
 |d+1=>by
  obtain⟨m,h1,h2,h3,h4⟩:=lmin f a d
  by_cases c:f (a+(d+1))<f m
  ·refine⟨a+(d+1),by omega,by omega,λr r1 r2=>?_,λr r1 r2=>?_⟩
   ·by_cases e:r=a+(d+1)
    ·rw[e];exact Int.le_refl _
    ·have:=h3 r r1 (by omega);omega
   ·have:=h3 r r1 (by omega);omega
  ·refine⟨m,h1,by omega,λr r1 r2=>?_,h4⟩
   by_cases e:r=a+(d+1)
   ·rw[e];omega
   ·exact h3 r r1 (by omega)
theorem Zj4 {ns T:List Int} (hT:Zx ns T) {c1 c2 v:Nat} (h12:c1<c2) (h2v:c2<v) (hv:v<ns.length) (e1:nth T c1=v) (e2:nth T c2=v):False:=by
 obtain⟨m,m1,m2,m3,m4⟩:=lmin (nth ns) c1 (c2-c1)
 have E1:ZN (nth ns) ns.length c1 (v:Int):=e1▸hT.2 c1 (by omega)
 have E2:ZN (nth ns) ns.length c2 (v:Int):=e2▸hT.2 c2 (by omega)
 have hv1:Over (nth ns) v c1:=(ZbK (by omega) hv E1).mpr (.inl rfl)
 have lt:nth ns v<nth ns m:=by
  rcases hv1 with h|h
  ·omega
  ·exact h.2 m (by omega) (by omega)
 have hm:Over (nth ns) m v:=by
  by_cases c:m=c1
  ·have:Over (nth ns) m c2:=.inl ⟨by omega,λr r1 r2=>m3 r (by omega) (by omega)⟩
   exact((ZbK (by omega) (by omega) E2).mp this).resolve_left (by omega)
  ·have:Over (nth ns) m c1:=.inr ⟨by omega,λr r1 r2=>m4 r r1 r2⟩
   exact((ZbK (by omega) (by omega) E1).mp this).resolve_left (by omega)
 rcases hm with h|h
 ·have:=h.2 v (by omega) (by omega);omega
 ·omega
theorem Zis {ns T:List Int} (hT:Zx ns T) {c1 c2 v:Nat} (hv1:v<c1) (h12:c1<c2) (hc:c2<ns.length) (e1:nth T c1=v) (e2:nth T c2=v):False:=by
 obtain⟨m,m1,m2,m3,m4⟩:=lmin (nth ns) c1 (c2-c1)
 have E1:ZN (nth ns) ns.length c1 (v:Int):=e1▸hT.2 c1 (by omega)
 have E2:ZN (nth ns) ns.length c2 (v:Int):=e2▸hT.2 c2 (by omega)
 have hv2:Over (nth ns) v c2:=(ZbK (by omega) (by omega) E2).mpr (.inl rfl)
 have le:nth ns v<=nth ns m:=by
  rcases hv2 with h|h
  ·exact h.2 m (by omega) (by omega)
  ·omega
 have hm:Over (nth ns) m v:=by
  by_cases c:m=c1
  ·have:Over (nth ns) m c2:=.inl ⟨by omega,λr r1 r2=>m3 r (by omega) (by omega)⟩
   exact((ZbK (by omega) (by omega) E2).mp this).resolve_left (by omega)
  ·have:Over (nth ns) m c1:=.inr ⟨by omega,λr r1 r2=>m4 r r1 r2⟩
   exact((ZbK (by omega) (by omega) E1).mp this).resolve_left (by omega)
 rcases hm with h|h
 ·omega
 ·have:=h.2 v (by omega) (by omega);omega
theorem Zit {T:List Int} (hG:Zek T) {v:Nat}{o1 o2:Option Nat} (hv:v<T.length) (h1:ZaQ T v o1) (h2:ZaQ T v o2):o1=o2:=by
 obtain⟨_,ns,hT⟩:=hG
 have eT:=hT.1
 cases o1 with
 |none =>
  cases o2 with
  |none=>rfl
  |some c=>exact absurd h2.2.2 (h1 c h2.1 h2.2.1)
 |some c =>
  cases o2 with
  |none=>exact absurd h1.2.2 (h2 c h1.1 h1.2.1)
  |some d =>
   by_cases z:c=d
   ·rw[z]
   ·exfalso
    rcases Nat.lt_or_gt_of_ne z with z|z
    ·exact Zj4 hT z h2.1 (by omega) h1.2.2 h2.2.2
    ·exact Zj4 hT z h1.1 (by omega) h2.2.2 h1.2.2
theorem Zhh {T:List Int} (hG:Zek T) {v:Nat}{o1 o2:Option Nat} (h1:Zac T v o1) (h2:Zac T v o2):o1=o2:=by
 obtain⟨_,ns,hT⟩:=hG
 have eT:=hT.1
 cases o1 with
 |none =>
  cases o2 with
  |none=>rfl
  |some c=>exact absurd h2.2.2 (h1 c h2.1 h2.2.1)
 |some c =>
  cases o2 with
  |none=>exact absurd h1.2.2 (h2 c h1.1 h1.2.1)
  |some d =>
   by_cases z:c=d
   ·rw[z]
   ·exfalso
    rcases Nat.lt_or_gt_of_ne z with z|z
    ·exact Zis hT h1.1 z (by have:=h2.2.1;omega) h1.2.2 h2.2.2
    ·exact Zis hT h2.1 z (by have:=h1.2.1;omega) h2.2.2 h1.2.2
theorem Zje {f:Addr}{fd:FuncData} (F:Fun K "best_ahead" "best_ahead" ZaA f fd) (L:ZmS K mg "best_ahead" f) (B:BM mg base) (T:Txt K mg):FnOk P w K mg base (CXE P w) 1 f fd ["text","pairs","i"] (Zbs K mg):=by
 refine F.okL L B Zfo (λvs H Q E h=>?_) (λcdv A outer s H vs Q E LI hr h=>?_)
 ·obtain⟨x,q,ts,ps,i,rfl,_⟩:=h;rfl
 obtain⟨x,q,ts,ps,i,rfl,hx,hq,hl,h16,hi,hTb,k1⟩:=h
 refine⟨_,(Zd (Zdx (i:=3) ["j","i","pairs","text"] [none,some 2,some 1,some 0] Zfo.nd rfl (Or.inl rfl) rfl rfl rfl (Zav rfl T.b_range (Za (pv 2) Zb)) (λ_ _ _ _ _=>(Zn (i:=0) (show(["j","i","pairs","text"]:List Str).Nodup from by decide +kernel) rfl (Or.inl rfl))) (λ_ _ _ _ _=>Zez (PW.pt (ZdG (Zk ZcD (Zq (r:=ZiZ K) Zu (pv 2) (pv 0) (λ_ _=>rfl)) ZU (Zl _)) (ZdG (Zk Zej (Zq (Zhs (K:=K) rfl) (pv 3) (pv 0) (λ_ _=>rfl)) (Zq (Zhs (K:=K) rfl) (pv 3) (pv 1) (λ_ _=>rfl)) (Zl _)) (ZdF (Zk Zf4 (Zq (r:=Zmu K) ZaR (Zq (r:=ZiZ K) Zu (pv 2) (pv 0) (λ_ _=>rfl)) Zg (λ_ _=>rfl)) (pv 1) (Zl _))))))) (λ_ _ _ _ _=>(pv 0)) ZG)
   (Zh (Zt (ZqI (Nc:=["j","pairs"]) (js:=[none,some 1]) (pn:="j") (q:=Zib "best_ahead") (P:=Zge K mg "best_ahead") rfl hr ⟨rfl,rfl,rfl,rfl,rfl,rfl,rfl,λ_ _ _ _ _ _=>rfl⟩ (λ_ _ _ _ _ _=>(Zq (r:=Zmu K) ZaR (Zq (r:=ZiZ K) Zu (pv 1) (pv 0) (λ_ _=>rfl)) Zg (λ_ _=>rfl))) rfl T.b_max (Za (pv 3) Zb) (Ze9 (ZmO ⟨LI.code,LI.bm,LI.ql⟩ rfl) (Ze9 ZU Zmr)))))),?_⟩
 walk_at "rd"
 obtain⟨vals,hqv,hvl,hvp⟩:=hq
 refine⟨by omega,by omega,?_⟩
 rw[show((i:Nat):Int).toNat=i by omega]
 refine ZgM (n:=i) (λj=>decide (ZcJ ts ps i j)) (λj=>V.int (j:Int)) (YF (show _<=1000 by omega) (by decide)) (λj Hz s hj=>hj) (λHz s=>Yf _) ?_ ?_
 ·rintro j y Hz Hw hj sz ⟨rfl,rfl⟩
  rw[show(0:Int)+(j:Int)=((j:Nat):Int) by omega]
  walk_at "rd"
  obtain⟨v,ev,hv⟩:=ZgW hvl hvp (show j<ps.length by omega)
  have hv:=hv.same sz
  refine⟨_,SqL.of (sz _ _ hqv),_,ev,ZC (λc=>?_) λc=>?_⟩
  ·have hs:(ps.getD j none).isSome=true:=by
    cases e:(ps.getD j none).isSome with
    |true=>rfl
    |false=>exact absurd ((ZkL hv).mpr e) c
   obtain⟨a,rfl,ha⟩:=Zfe hv hs
   refine⟨_,sz.q hx,_,Zbe (by omega),_,sz.q hx,_,Zbe (by omega),_,rfl,_,rfl,ZC (λc2=>?_) λc2=>CF.skip hj (YI λz=>c2 z.2.2.1) sz⟩
   refine⟨_,SqL.of (sz _ _ hqv),_,ev,a,rfl,_,SqT.of ha,_,rfl,_,rfl,?_⟩
   exact ZC (λc3=>CF.take hj (YO ⟨hj,hs,c2,c3⟩) rfl sz) λc3=>CF.skip hj (YI λz=>c3 z.2.2.2) sz
  ·refine CF.skip hj (YI λz=>?_) sz
   have z1:=z.2.1
   rw[(ZkL hv).mp (Decidable.of_not_not c)]at z1
   cases z1
 ·intro lf Hz sz hlf
  have eN:(((List.range i).filter λj=>decide (ZcJ ts ps i j)).map λ(j:Nat)=>V.int (j:Int))=(((List.range i).filter λj=>decide (ZcJ ts ps i j)).map λ(j:Nat)=>(j:Int)).map V.int:=by rw[Y7];rfl
  rw[eN]
  have hmem:∀y,y∈(((List.range i).filter λj=>decide (ZcJ ts ps i j)).map λ(j:Nat)=>(j:Int))↔∃j:Nat,y=j/\ZcJ ts ps i j:=λy=>by
   rw[YN]
   constructor
   ·rintro⟨j,hj,rfl⟩
    exact⟨j,rfl,Ja (YV.mp hj).2⟩
   ·rintro⟨j,rfl,hj⟩
    exact⟨j,YV.mpr ⟨Yy.mpr hj.1,YO hj⟩,rfl⟩
  generalize (((List.range i).filter λj=>decide (ZcJ ts ps i j)).map λ(j:Nat)=>(j:Int))=ns at hmem⊢
  have g1:=sz.Zch (o:=.lst (ns.map V.int)) hlf
  have h1:=Zc (H:=Hz) (a:=lf) (o:=.lst (ns.map V.int))
  generalize upd Hz lf (.lst (ns.map V.int))=H1 at g1 h1⊢
  refine⟨ZQ.same hTb g1,λf1 H5 zf s5 LO=>⟨lf,rfl,ns,s5 _ _ h1,LO,λn=>(Zfi ps n.toNat).1,λn H6 hn s6=>?_,λhns H6 s6=>?_,λa H6 ha hB s6=>?_⟩⟩
  ·obtain⟨j,rfl,hj⟩:=(hmem n).mp hn
   obtain⟨v,ev,hv⟩:=ZgW hvl hvp (show j<ps.length by have:=hj.1;omega)
   have sA:=g1.trans (s5.trans s6)
   obtain⟨a,rfl,ha⟩:=Zfe (hv.same sA) hj.2.1
   exact⟨_,SqL.of (sA _ _ hqv),_,ev,a,rfl,_,SqT.of ha,_,rfl,by simp,Ze.refl _⟩
  ·exact k1 none H6 (g1.trans (s5.trans s6)) λj hj=>by
    have:=(hmem (j:Int)).mpr ⟨j,rfl,hj⟩
    rw[hns]at this;cases this
  ·obtain⟨j,e,hj⟩:=Zok (ps:=ps) hmem ha
   rw[e]
   refine k1 (some j) H6 (g1.trans (s5.trans s6)) ⟨hj,λj' hj'=>?_⟩
   obtain⟨b,hb,eb⟩:=YY ((hmem (j':Int)).mpr ⟨j',rfl,hj'⟩)
   have:=(hB b hb).1
   rw[e,show nth ns b=(j':Int) by unfold nth;rw[Yn,Ye hb,eb];rfl]at this
   simpa using this
theorem Ziu {f:Addr}{fd:FuncData} (F:Fun K "best_behind" "best_behind" Zad f fd) (L:ZmS K mg "best_behind" f) (B:BM mg base) (T:Txt K mg):FnOk P w K mg base (CXE P w) 1 f fd ["text","pairs","i"] (Zas K mg):=by
 refine F.okL L B ZeK (λvs H Q E h=>?_) (λcdv A outer s H vs Q E LI hr h=>?_)
 ·obtain⟨x,q,ts,ps,i,rfl,_⟩:=h;rfl
 obtain⟨x,q,ts,ps,i,rfl,hx,hq,hl,h16,hi,hTb,k1⟩:=h
 refine⟨_,(Zd (Zdx (i:=3) ["j","i","pairs","text"] [none,some 2,some 1,some 0] ZeK.nd rfl (Or.inl rfl) rfl rfl rfl (Zjz rfl T.b_range (Za (ZA ZcV (pv 2) Zg) (Za (Zj (Zm (K:=K) rfl) rfl T.b_len YH (Za (pv 0) Zb)) Zb))) (λ_ _ _ _ _=>(Zn (i:=0) (show(["j","i","pairs","text"]:List Str).Nodup from by decide +kernel) rfl (Or.inl rfl))) (λ_ _ _ _ _=>Zez (PW.pt (ZdG (Zk ZcD (Zq (r:=ZiZ K) Zu (pv 2) (pv 0) (λ_ _=>rfl)) ZU (Zl _)) (ZdG (Zk ZjA (Zq (Zhs (K:=K) rfl) (pv 3) (pv 0) (λ_ _=>rfl)) (Zq (Zhs (K:=K) rfl) (pv 3) (pv 1) (λ_ _=>rfl)) (Zl _)) (ZdF (Zk Zej (Zq (r:=Zmu K) ZaR (Zq (r:=ZiZ K) Zu (pv 2) (pv 0) (λ_ _=>rfl)) Zg (λ_ _=>rfl)) (pv 1) (Zl _))))))) (λ_ _ _ _ _=>(pv 0)) ZG)
   (Zh (Zt (ZqJ (Nc:=["j","pairs"]) (js:=[none,some 1]) (pn:="j") (q:=Zib "best_behind") (P:=Zge K mg "best_behind") rfl hr ⟨rfl,rfl,rfl,rfl,rfl,rfl,rfl,λ_ _ _ _ _ _=>rfl⟩ (λ_ _ _ _ _ _=>(Zq (r:=Zmu K) ZaR (Zq (r:=ZiZ K) Zu (pv 1) (pv 0) (λ_ _=>rfl)) Zg (λ_ _=>rfl))) rfl T.b_min (Za (pv 3) Zb) (Ze9 (ZmO ⟨LI.code,LI.bm,LI.ql⟩ rfl) (Ze9 ZU Zmr)))))),?_⟩
 walk_at "rd"
 obtain⟨vals,hqv,hvl,hvp⟩:=hq
 have eX:(ts.map V.int).length=ts.length:=Yj ..
 refine⟨_,hx,by omega,by omega,by omega,by omega,?_⟩
 rw[eX,show(((ts.length:Nat):Int)-((i:Int)+1)).toNat=ts.length-(i+1) by omega]
 refine ZgM (n:=ts.length-(i+1)) (λk=>decide (Zco ts ps i (i+1+k))) (λk=>V.int ((i+1+k:Nat):Int)) (YF (show _<=1000 by omega) (by decide)) (λj Hz s hj=>hj) (λHz s=>Yf _) ?_ ?_
 ·rintro k y Hz Hw hk sz ⟨rfl,rfl⟩
  rw[show(i:Int)+1+(k:Int)=((i+1+k:Nat):Int) by omega]
  have hj1:i<i+1+k:=by omega
  have hj2:i+1+k<ts.length:=by omega
  generalize hjg:i+1+k=j at hj1 hj2⊢
  walk_at "rd"
  obtain⟨v,ev,hv⟩:=ZgW hvl hvp (show j<ps.length by omega)
  have hv:=hv.same sz
  refine⟨_,SqL.of (sz _ _ hqv),_,ev,ZC (λc=>?_) λc=>?_⟩
  ·have hs:(ps.getD j none).isSome=true:=by
    cases e:(ps.getD j none).isSome with
    |true=>rfl
    |false=>exact absurd ((ZkL hv).mpr e) c
   obtain⟨a,rfl,ha⟩:=Zfe hv hs
   refine⟨_,sz.q hx,_,Zbe (by omega),_,sz.q hx,_,Zbe (by omega),_,rfl,_,rfl,ZC (λc2=>?_) λc2=>CF.skip hk (YI λz=>c2 (hjg▸z).2.2.2.1) sz⟩
   refine⟨_,SqL.of (sz _ _ hqv),_,ev,a,rfl,_,SqT.of ha,_,rfl,_,rfl,?_⟩
   exact ZC (λc3=>CF.take hk (YO (by rw[hjg];exact⟨hj1,hj2,hs,c2,c3⟩)) (by rw[hjg]) sz) λc3=>CF.skip hk (YI λz=>c3 (hjg▸z).2.2.2.2) sz
  ·refine CF.skip hk (YI λz=>?_) sz
   rw[hjg]at z
   have z1:=z.2.2.1
   rw[(ZkL hv).mp (Decidable.of_not_not c)]at z1
   cases z1
 ·intro lf Hz sz hlf
  have eN:(((List.range (ts.length-(i+1))).filter λk=>decide (Zco ts ps i (i+1+k))).map λ(k:Nat)=>V.int ((i+1+k:Nat):Int))=(((List.range (ts.length-(i+1))).filter λk=>decide (Zco ts ps i (i+1+k))).map λ(k:Nat)=>((i+1+k:Nat):Int)).map V.int:=by rw[Y7];rfl
  rw[eN]
  have hmem:∀y,y∈(((List.range (ts.length-(i+1))).filter λk=>decide (Zco ts ps i (i+1+k))).map λ(k:Nat)=>((i+1+k:Nat):Int))↔∃j:Nat,y=j/\Zco ts ps i j:=λy=>by
   rw[YN]
   constructor
   ·rintro⟨k,hk,rfl⟩
    exact⟨i+1+k,rfl,Ja (YV.mp hk).2⟩
   ·rintro⟨j,rfl,hj⟩
    have h1:=hj.1
    have h2:=hj.2.1
    refine⟨j-(i+1),YV.mpr ⟨Yy.mpr (by omega),YO ?_⟩,by omega⟩
    rw[show i+1+(j-(i+1))=j by omega];exact hj
  generalize (((List.range (ts.length-(i+1))).filter λk=>decide (Zco ts ps i (i+1+k))).map λ(k:Nat)=>((i+1+k:Nat):Int))=ns at hmem⊢
  have g1:=sz.Zch (o:=.lst (ns.map V.int)) hlf
  have h1:=Zc (H:=Hz) (a:=lf) (o:=.lst (ns.map V.int))
  generalize upd Hz lf (.lst (ns.map V.int))=H1 at g1 h1⊢
  refine⟨ZQ.same hTb g1,λf1 H5 zf s5 LO=>⟨lf,rfl,ns,s5 _ _ h1,LO,λn=>(Zfi ps n.toNat).2,λn H6 hn s6=>?_,λhns H6 s6=>?_,λa H6 ha hB s6=>?_⟩⟩
  ·obtain⟨j,rfl,hj⟩:=(hmem n).mp hn
   obtain⟨v,ev,hv⟩:=ZgW hvl hvp (show j<ps.length by have:=hj.2.1;omega)
   have sA:=g1.trans (s5.trans s6)
   obtain⟨a,rfl,ha⟩:=Zfe (hv.same sA) hj.2.2.1
   exact⟨_,SqL.of (sA _ _ hqv),_,ev,a,rfl,_,SqT.of ha,_,rfl,by simp,Ze.refl _⟩
  ·exact k1 none H6 (g1.trans (s5.trans s6)) λj hj=>by
    have:=(hmem (j:Int)).mpr ⟨j,rfl,hj⟩
    rw[hns]at this;cases this
  ·obtain⟨j,e,hj⟩:=Zok (ps:=ps) hmem ha
   rw[e]
   refine k1 (some j) H6 (g1.trans (s5.trans s6)) ⟨hj,λj' hj'=>?_⟩
   obtain⟨b,hb,eb⟩:=YY ((hmem (j':Int)).mpr ⟨j',rfl,hj'⟩)
   have:=(hB b hb).1
   rw[e,show nth ns b=(j':Int) by unfold nth;rw[Yn,Ye hb,eb];rfl]at this
   simpa using this
theorem Znd {f:Addr}{fd:FuncData} (F:Fun K "pair_at" "pair_at" Zce f fd) (ZaG:Callee P w K mg base "best_ahead" 1 ["text","pairs","i"] (Zbs K mg)) (Zai:Callee P w K mg base "best_behind" 1 ["text","pairs","i"] (Zas K mg)) (T:Txt K mg):FnOk P w K mg base (CXE P w) 2 f fd ["text","table","young","i"] (ZfG K mg):=by
 refine F.okX Z5 (λvs H Q E h=>?_) (λcdv A outer s H vs Q E hr h=>?_)
 ·obtain⟨x,l,y,ts,tab,ah,bh,i,rfl,_⟩:=h;rfl
 obtain⟨x,l,y,ts,tab,ah,bh,i,rfl,hx,hl,hy,ka,kb,h16,hi,hT1,hT2,k1⟩:=h
 refine⟨_,(Zd (Zet (pv 2) (ZmX (K:=K) rfl (n:=2) rfl (ZaM (Zn (i:=4) Z5.nd rfl (Or.inl rfl)) (ZaM (Zn (i:=5) Z5.nd rfl (Or.inl rfl)) Zf3))))
   (Zd (Ztu (pv 3) (Zn (i:=6) Z5.nd rfl (Or.inl rfl)) (Zn (i:=7) Z5.nd rfl (Or.inl rfl)))
   (Zd (ZV (Zk ZcD (pv 4) ZU (Zl _)) (Zd (Zo (i:=8) Z5.nd rfl (Or.inl rfl) (Zi ZaG (hr.mono (by decide)) rfl Zw (Za (pv 0) (Za (Zq Zu (pv 1) (pv 4) (λ_ _=>rfl)) (Za (pv 3) Zb)))))
   (Zd (ZV (Zk Zka (pv 8) ZU (Zl _)) (Zh (Zt ZU)) ZE)
   (Zh (Zo (i:=6) Z5.nd rfl (Or.inl rfl) (Zq ZaR (Zq Zu (Zq Zu (pv 1) (pv 4) (λ_ _=>rfl)) (pv 8) (λ_ _=>rfl)) Zg (λ_ _=>rfl)))))) ZE)
   (Zd (ZV (Zk ZcD (pv 5) ZU (Zl _)) (Zd (Zo (i:=8) Z5.nd rfl (Or.inl rfl) (Zi Zai (hr.mono (by decide)) rfl Zw (Za (pv 0) (Za (Zq Zu (pv 1) (pv 5) (λ_ _=>rfl)) (Za (pv 3) Zb)))))
   (Zd (ZV (Zk Zka (pv 8) ZU (Zl _)) (Zh (Zt ZU)) ZE)
   (Zh (Zo (i:=7) Z5.nd rfl (Or.inl rfl) (Zq ZaR (Zq Zu (Zq Zu (pv 1) (pv 5) (λ_ _=>rfl)) (pv 8) (λ_ _=>rfl)) Zg (λ_ _=>rfl)))))) ZE)
   (Zh (Zt (Zew (Za (pv 6) (Za (pv 7) Zb))))))))),?_⟩
 obtain⟨as,hla,_,hal,hap⟩:=hl
 refine ZcZ (fun σ Hx=>σ=[some (.ref x),some (.ref l),some (.ref y),some (.int (i:Int)),some (optN ah),some (optN bh),none,none,none]/\Hx=H) (λR hR=>?_) ?_
 ·walk_at "rd"
  exact⟨_,SqL.of hy,rfl,_,_,rfl,_,_,rfl,rfl,hR _ _ ⟨rfl,rfl⟩⟩
 rintro σ Hx ⟨rfl,rfl⟩
 refine ZcZ (fun σ Hy=>σ=[some (.ref x),some (.ref l),some (.ref y),some (.int (i:Int)),some (optN ah),some (optN bh),some (.int (i:Int)),some (.int (i:Int)),none]/\Hy=Hx) (λR hR=>?_) ?_
 ·walk_at "rd"
  exact hR _ _ ⟨rfl,rfl⟩
 rintro σ Hz ⟨rfl,rfl⟩
 refine ZcZ (fun σ Hy=>∃(a:Int) (v8:Option V),σ=[some (.ref x),some (.ref l),some (.ref y),some (.int (i:Int)),some (optN ah),some (optN bh),some (.int a),some (.int (i:Int)),v8]/\ZkH ts tab i ah (some a)/\Ze Hz Hy) (λR hR=>?_) ?_
 ·walk_at "rd"
  cases ah with
  |none=>exact ZC (λz=>absurd rfl z) λ_=>hR _ _ ⟨_,none,rfl,rfl,Ze.refl Hz⟩
  |some c =>
   obtain⟨a,ea,ha⟩:=Zol hal hap ka.1
   refine ZC (λ_=>⟨_,_,rfl,SqL.of hla,_,ea,x,a,ts,tab.getD c [],i,rfl,hx,ha,ka.2,h16,hi,hT1,λr H1 s1 hB=>?_⟩) λz=>absurd z (by simp[optN])
   cases r with
   |none =>
    refine ZC (λ_=>?_) λz=>absurd rfl z
    obtain⟨b,hb⟩:=ZtC ts tab i bh
    exact k1 .non none H1 s1 ⟨none,b,hB,hb,by cases b<;>rfl⟩ rfl
   |some j =>
    refine ZC (λz=>by cases z) λ_=>?_
    have ha1:=ha.same s1
    obtain⟨vals,hqv,hvl,hvp⟩:=ha1
    obtain⟨v,ev,hv⟩:=ZgW hvl hvp (show j<(tab.getD c []).length by have:=hB.1.1;have:=ka.2;omega)
    obtain⟨u,rfl,hu⟩:=Zfe hv hB.1.2.1
    exact⟨_,_,rfl,SqL.of (s1 _ _ hla),_,ea,a,rfl,_,_,rfl,SqL.of hqv,_,ev,u,rfl,_,SqT.of hu,_,rfl,hR _ _ ⟨_,_,rfl,⟨⟨j,hB.1,rfl⟩,hB.2⟩,s1⟩⟩
 rintro σ H1 ⟨a,v8,rfl,hFa,s1⟩
 refine ZcZ (fun σ Hy=>∃(b:Int) (v8:Option V),σ=[some (.ref x),some (.ref l),some (.ref y),some (.int (i:Int)),some (optN ah),some (optN bh),some (.int a),some (.int b),v8]/\ZkI ts tab i bh (some b)/\Ze Hz Hy) (λR hR=>?_) ?_
 ·walk_at "rd"
  cases bh with
  |none=>exact ZC (λz=>absurd rfl z) λ_=>hR _ _ ⟨_,v8,rfl,rfl,s1⟩
  |some c =>
   obtain⟨d,ea,ha⟩:=Zol hal hap kb.1
   refine ZC (λ_=>⟨_,_,rfl,SqL.of (s1 _ _ hla),_,ea,x,d,ts,tab.getD c [],i,rfl,s1.q hx,ha.same s1,kb.2,h16,hi,ZQ.same hT2 s1,λr H2 s2 hB=>?_⟩) λz=>absurd z (by simp[optN])
   cases r with
   |none =>
    refine ZC (λ_=>?_) λz=>absurd rfl z
    exact k1 .non none H2 (s1.trans s2) ⟨some a,none,hFa,hB,rfl⟩ rfl
   |some j =>
    refine ZC (λz=>by cases z) λ_=>?_
    have ha1:=(ha.same s1).same s2
    obtain⟨vals,hqv,hvl,hvp⟩:=ha1
    obtain⟨v,ev,hv⟩:=ZgW hvl hvp (show j<(tab.getD c []).length by have:=hB.1.2.1;have:=kb.2;omega)
    obtain⟨u,rfl,hu⟩:=Zfe hv hB.1.2.2.1
    exact⟨_,_,rfl,SqL.of ((s1.trans s2) _ _ hla),_,ea,d,rfl,_,_,rfl,SqL.of hqv,_,ev,u,rfl,_,SqT.of hu,_,rfl,hR _ _ ⟨_,_,rfl,⟨⟨j,hB.1,rfl⟩,hB.2⟩,s1.trans s2⟩⟩
 rintro σ H2 ⟨b,v8',rfl,hLb,s2⟩
 walk_at "rd"
 exact⟨by decide,λq zq=>k1 (.ref q) (some (a,b)) _ (s2.Zch zq) ⟨some a,some b,hFa,hLb,rfl⟩ ⟨q,rfl,Zc⟩⟩
theorem ZlW {f:Addr}{fd:FuncData} (F:Fun K "young_of" "young_of" Zbj f fd) (T:Txt K mg):FnOk P w K mg base (CXE P w) 1 f fd ["tree"] (ZbP K mg):=by
 refine F.okX ZcN (λvs H Q E h=>?_) (λcdv A outer s H vs Q E hr h=>?_)
 ·obtain⟨t,T,rfl,_⟩:=h;rfl
 obtain⟨t,T',rfl,ht,hG,k1⟩:=h
 refine⟨_,(Zd (Zdx (i:=1) ["place"] [none] ZcN.nd rfl (Or.inl rfl) rfl rfl rfl (ZpD (pv 0)) (λ_ _ _ _ _=>(Zn (i:=0) (show(["place"]:List Str).Nodup from by decide +kernel) rfl (Or.inl rfl))) (λ_ _ _ _ _=>ZaN) (λ_ _ _ _ _=>(ZcW (Za ZU (Za ZU Zb)))) ZG)
   (Zd (ZcX (Zeu PassesOwn.never rfl (Zql (K:=K) rfl rfl T.b_enumerate (Za (pv 0) Zb)) (ZpB (n:=2) rfl (ZaM (Zn (i:=2) ZcN.nd rfl (Or.inl rfl)) (ZaM (Zn (i:=3) ZcN.nd rfl (Or.inl rfl)) Zf3))) (Zh (ZV (Zk ZjA (pv 3) Zg (Zl _)) (Zh (Zet (pv 2) (ZhQ (Zq Zu (pv 1) (pv 3) (λ_ _=>rfl)) (Zk7 (Zk Zej (pv 2) (pv 3) (Zl _)) Zg Zg) set_list (λ_=>rfl)))) ZE))))
   (Zh (Zt (pv 1))))),?_⟩
 have h40:=hG.1
 obtain⟨_,nsT,hT⟩:=id hG
 have eT:=hT.1
 have eL:(T'.map V.int).length=T'.length:=Yj ..
 walk_at "rd"
 refine⟨⟨_,ht⟩,ZaO (n:=T'.length) (λj acc Hz=>∃as:List Addr,acc=as.map V.ref/\as.length=j/\as.Nodup/\(∀a∈as,Hz a=some (.lst [.non,.non])/\H a=none)/\Ze H Hz) (YF (show _<=1000 by omega) (by decide)) ⟨[],rfl,rfl,List.nodup_nil,(λa ha=>absurd ha (by simp)),Ze.refl H⟩ (λj acc Hz ⟨_,_,_,_,_,e⟩ hj=>⟨_,_,(e).ZeA ht,nthV hj⟩) (λacc Hz ⟨_,_,_,_,_,e⟩=>⟨_,(e).ZeA ht,Y8 eL⟩) ?_ ?_⟩
 ·rintro j x acc Hz Hw hj hla ⟨as,rfl,hal,hnd,has,sz⟩ ⟨rfl,hx⟩
  walk_at "rd"
  refine⟨by decide,λp zp=>CA.take hj hla ⟨as++[p],by simp,by simp[hal],?_,λa ha=>?_,sz.Zch zp⟩⟩
  ·rw[List.nodup_append]
   refine⟨hnd,by simp,λa ha b hb=>?_⟩
   have:b=p:=by simpa using hb
   subst this
   exact λz=>by rw[z]at ha;rw[(has _ ha).1]at zp;cases zp
  ·rcases YE.mp ha with z|z
   ·exact⟨((Ze.refl _).upd zp) _ _ (has a z).1,(has a z).2⟩
   ·have:a=p:=by simpa using z
    subst this
    exact⟨Zc,sz.free zp⟩
 rintro y acc Hz ⟨as,rfl,hal,hnd,has,sz⟩ _ zy
 have gy:=(Ze.refl Hz).upd (o:=.lst (as.map V.ref)) zy
 have hyy:=Zc (H:=Hz) (a:=y) (o:=.lst (as.map V.ref))
 have s1:=sz.trans gy
 have zy0:=sz.free zy
 have ny:y∉as:=λz=>by rw[(has _ z).1]at zy;cases zy
 have Y0:YTo (upd Hz y (.lst (as.map V.ref))) as T' 0:=λv a e=>⟨none,none,(λc _ h=>absurd h (by omega)),(λc _ h=>absurd h (by omega)),gy _ _ (has a (List.mem_of_getElem? e)).1⟩
 generalize upd Hz y (.lst (as.map V.ref))=H1 at gy hyy s1 Y0⊢
 refine⟨_,(s1).ZeA ht,?_⟩
 refine Zqm (n:=T'.length) (λj σ Hx=>∃v2 v3:Option V,σ=[some (.ref t),some (.ref y),v2,v3]/\Hx y=some (.lst (as.map V.ref))/\YTo Hx as T' j/\Ze H Hx) ⟨none,none,rfl,hyy,Y0,s1⟩ (λj σ Hx hj ⟨_,_,_,_,_,e⟩=>⟨_,_,(e).ZeA ht,nthV hj⟩) (fun σ Hx ⟨_,_,_,_,_,e⟩=>⟨_,(e).ZeA ht,eL⟩) ?_ ?_
 ·rintro j x σ Hx Hw hj ⟨v2,v3,rfl,hyx,Yx,sx⟩ ⟨p,w,zp,rfl,rfl,hx⟩
  have ex:=hx _ ((sx).ZeA ht)
  rw[nthV hj]at ex
  cases ex
  walk_at "rd"
  have gp:=(Ze.refl Hx).upd (o:=.tup [V.int (j:Int),V.int (nth T' j)]) zp
  have hp:=Zc (H:=Hx) (a:=p) (o:=.tup [V.int (j:Int),V.int (nth T' j)])
  generalize upd Hx p (.tup [V.int (j:Int),V.int (nth T' j)])=H2 at gp hp⊢
  refine⟨_,SqT.of hp,rfl,_,_,rfl,_,_,rfl,rfl,_,rfl,?_⟩
  have sx2:=sx.trans gp
  have hyx2:=gp _ _ hyx
  have Yx2:=Yx.same gp
  refine ZC (λc0=>?_) λc0=>⟨hyx2,Yx2.skip λv _=>by omega,sx2⟩
  have hq:∃q:Nat,nth T' j=q/\q<T'.length/\q≠j:=by
   rcases ZbN hT (p:=j) (by omega)with z|⟨q,ez,hq,hO,hd⟩
   ·omega
   ·refine⟨q,ez,by omega,λe=>?_⟩
    subst e;omega
  obtain⟨q,eq,hqT,nqj⟩:=hq
  obtain⟨a,ea⟩:∃a,as[q]?=some a:=⟨_,Ye (by omega)⟩
  obtain⟨ah,bh,hA,hB,ha⟩:=Yx2 q a ea
  have na:a≠y:=λz=>ny (z▸List.mem_of_getElem? ea)
  have za:H a=none:=(has a (List.mem_of_getElem? ea)).2
  refine⟨_,_,rfl,SqL.of hyx2,V.ref a,by rw[eq];exact ZdK (by rw[YD,ea];rfl),_,rfl,_,rfl,ZC (λc1=>?_) λc1=>?_⟩
  ·refine⟨a,rfl,_,ha,1,rfl,by rw[Zf na.symm];exact hyx2,?_,sx2.upd za⟩
   exact Yx2.set (ah:=ah) (bh:=some j) hnd ea (hA.skip λz=>by omega) ⟨by omega,by omega,eq⟩ eq
  ·refine⟨a,rfl,_,ha,0,rfl,by rw[Zf na.symm];exact hyx2,?_,sx2.upd za⟩
   exact Yx2.set (ah:=some j) (bh:=bh) hnd ea ⟨by omega,by omega,eq⟩ (hB.skip λz=>by omega) eq
 ·rintro σ Hx ⟨v2,v3,rfl,hyx,Yx,sx⟩
  walk_at "rd"
  refine k1 y Hx zy0 ⟨as,hyx,hal,λv a e=>?_⟩ sx
  obtain⟨ah,bh,h1,h2,h3⟩:=Yx v a e
  refine⟨ah,bh,?_,?_,h3⟩
  ·cases ah with
   |none=>exact h1
   |some c=>exact h1
  ·cases bh with
   |none=>exact h2
   |some c=>exact h2
theorem ZlX {f:Addr}{fd:FuncData} (F:Fun K "table_by" "table_by" Zbk f fd) (Z8:Callee P w K mg base "young_of" 1 ["tree"] (ZbP K mg)) (ZaH:Callee P w K mg base "from_below" 5 ["tree"] (Zbr K mg)) (Zg0:Callee P w K mg base "pair_at" 2 ["text","table","young","i"] (ZfG K mg)) (T:Txt K mg):FnOk P w K mg base (CXE P w) 6 f fd ["tree","text"] (ZbQ K mg):=by
 refine F.okX ZcO (λvs H Q E h=>?_) (λcdv A outer s H vs Q E hr h=>?_)
 ·obtain⟨t,x,T,ts,rfl,_⟩:=h;rfl
 obtain⟨t,x,T',ts,rfl,ht,hx,hG,h16,hT1,hT2,hT3,k1⟩:=h
 refine⟨_,(Zd (Zo (i:=2) ZcO.nd rfl (Or.inr rfl) (Zi Z8 (hr.mono (by decide)) rfl Zw (Za (pv 0) Zb)))
   (Zd (Zo (i:=3) ZcO.nd rfl (Or.inr rfl) (ZbM ["v"] [none] rfl rfl rfl (ZpD (pv 0)) (λ_ _ _ _ _=>(Zn (i:=0) (show(["v"]:List Str).Nodup from by decide +kernel) rfl (Or.inl rfl))) (λ_ _ _ _ _=>ZaN) (λ_ _ _ _ _=>(ZcW Zb)) ZG))
   (Zd (ZcX (Zeu PassesOwn.never rfl (ZdH (Zi ZaH (hr.mono (by decide)) rfl Zw (Za (pv 0) Zb))) (Zn (i:=4) ZcO.nd rfl (Or.inr rfl)) (Zh (Zet (ZbM ["i","text","table","young","v"] [none,some 1,some 3,some 2,some 4] rfl rfl rfl (Zav rfl T.b_range (Za (Zj (Zm (K:=K) rfl) rfl T.b_len YH (Za (pv 1) Zb)) Zb)) (λ_ _ _ _ _=>(Zn (i:=0) (show(["i","text","table","young","v"]:List Str).Nodup from by decide +kernel) rfl (Or.inl rfl))) (λ_ _ _ _ _=>ZaN) (λ_ _ _ _ _=>(Zi Zg0 (hr.mono (by decide)) rfl Zw (Za (pv 1) (Za (pv 2) (Za (Zq (r:=ZiZ K) Zu (pv 3) (pv 4) (λ_ _=>rfl)) (Za (pv 0) Zb)))))) ZG) (ZhQ (pv 3) (pv 4) set_list (λ_=>rfl))))))
   (Zh (Zt (pv 3)))))),?_⟩
 have h40:=hG.1
 obtain⟨_,nsT,hT⟩:=id hG
 have eT:=hT.1
 have eL:(T'.map V.int).length=T'.length:=Yj ..
 have eX:(ts.map V.int).length=ts.length:=Yj ..
 refine ZcZ (fun σ Hx=>∃y:Addr,σ=[some (.ref t),some (.ref x),some (.ref y),none,none]/\ZcL Hx y T'/\Ze H Hx) (λR hR=>?_) ?_
 ·walk_at "rd"
  exact⟨t,T',rfl,ht,hG,λy H1 zy Y1 s1=>hR _ _ ⟨y,rfl,Y1,s1⟩⟩
 rintro σ H1 ⟨y,rfl,Y1,s1⟩
 obtain⟨ys,hys,hyl,hyp⟩:=Y1
 refine ZcZ (fun σ Hx=>∃(l:Addr) (tab:List (List Pt)),σ=[some (.ref t),some (.ref x),some (.ref y),some (.ref l),none]/\H1 l=none/\ZeH Hx l tab/\tab.length=T'.length/\FrL H1 Hx l/\Ze H1 Hx) (λR hR=>?_) ?_
 ·walk_at "rd"
  refine⟨⟨_,(s1).ZeA ht⟩,ZaO (n:=T'.length) (λj acc Hz=>∃as:List Addr,acc=as.map V.ref/\as.length=j/\(∀a∈as,Hz a=some (.lst [])/\H1 a=none)/\Ze H1 Hz) (YF (show _<=1000 by omega) (by decide)) ⟨[],rfl,rfl,(λa ha=>absurd ha (by simp)),Ze.refl H1⟩ (λj acc Hz ⟨_,_,_,_,e⟩ hj=>⟨_,_,((s1.trans e)).ZeA ht,nthV hj⟩) (λacc Hz ⟨_,_,_,_,e⟩=>⟨_,((s1.trans e)).ZeA ht,Y8 eL⟩) ?_ ?_⟩
  ·rintro j w acc Hz Hw hj hla ⟨as,rfl,hal,has,sz⟩ ⟨rfl,hx⟩
   walk_at "rd"
   refine⟨Yu _,λp zp=>CA.take hj hla ⟨as++[p],by simp,by simp[hal],λa ha=>?_,sz.Zch zp⟩⟩
   rcases YE.mp ha with z|z
   ·exact⟨((Ze.refl _).upd zp) _ _ (has a z).1,(has a z).2⟩
   ·have:a=p:=by simpa using z
    subst this
    exact⟨Zc,sz.free zp⟩
  ·rintro l acc Hz ⟨as,rfl,hal,has,sz⟩ _ zl
   have gl:=(Ze.refl Hz).upd (o:=.lst (as.map V.ref)) zl
   refine hR _ _ ⟨l,List.replicate T'.length [],rfl,sz.free zl,⟨as,Zc,(λz=>by rw[(has _ z).1]at zl;cases zl),by simp[hal],λi a ps e1 e2=>?_⟩,by simp,⟨as,Zc,λa ha=>(has a ha).2⟩,sz.trans gl⟩
   have:ps=[]:=by
    rw[List.getElem?_replicate]at e2
    split at e2
    ·cases e2;rfl
    ·cases e2
   subst this
   exact⟨[],gl _ _ (has a (List.mem_of_getElem? e1)).1,rfl,λi v p h=>by simp at h⟩
 rintro σ H2 ⟨l,tab0,rfl,zl,TB,htl,FB,s2⟩
 walk_at "rd"
 have s02:=s1.trans s2
 refine⟨t,T',rfl,s02.ZeA ht,hG,ZQ.same hT1 s02,λo ps H3 zo s3 hpm hpw ho=>⟨o,rfl,⟨_,SqL.of ho⟩,?_⟩⟩
 have s03:=s02.trans s3
 have zl0:H l=none:=s1.free zl
 have nd:ps.Nodup:=hpm.nodup_iff.mpr (Zir _)
 obtain⟨as0,hla0,_⟩:=id TB
 have nlo:o≠l:=λz=>by rw[z,hla0]at zo;cases zo
 have nly:y≠l:=λz=>by rw[z,zl]at hys;cases hys
 refine Zla (xs:=ps.map V.int) (λk σ Hx=>∃(v4:Option V) (tab:List (List Pt)),σ=[some (.ref t),some (.ref x),some (.ref y),some (.ref l),v4]/\ZeH Hx l tab/\tab.length=T'.length/\FrL H Hx l/\(∀v:Nat,(v:Int)∈ps.take k->ZdR T' ts tab v)/\Exc l H3 Hx) ⟨none,tab0,rfl,TB.same s3,htl,(by obtain⟨as,h1,h2⟩:=FB;exact⟨as,s3 _ _ h1,λa ha=>s1.free (h2 a ha)⟩),(λv h=>absurd h (by simp)),(Ze.refl H3).Zfm⟩ (λk σ Hx _ ⟨_,_,_,_,_,_,_,e⟩=>SqL.of (e _ _ nlo ho)) ?_ ?_
 ·rintro k w σ Hx hw ⟨v4,tab,rfl,TBx,htx,FBx,hdone,ex⟩
  obtain⟨v,rfl,hpk,hvT⟩:∃v:Nat,w=V.int (v:Int)/\ps[k]?=some (v:Int)/\v<T'.length:=by
   rw[YD]at hw
   cases e:ps[k]? with
   |none=>rw[e]at hw;cases hw
   |some u =>
    rw[e]at hw;cases hw
    obtain⟨v,hv,rfl⟩:=YN.mp (hpm.mem_iff.mp (List.mem_of_getElem? e))
    exact⟨v,rfl,rfl,by have:=Yy.mp hv;omega⟩
  have hv0:(v:Int)∉ps.take k:=λz=>by
   obtain⟨m,hm,em⟩:=List.mem_take_iff_getElem.mp z
   obtain⟨hi,ei⟩:=Ym.mp hpk
   have:=(List.getElem_inj nd (h₀:=by omega) (h₁:=hi)).mp (em.trans ei.symm)
   omega
  have kidT:∀c,c<T'.length->nth T' c=v->(c:Int)∈ps.take k:=λc hc e=>Zj2 hT hpm hpw hpk hc e
  have kidV:∀c,c<T'.length->nth T' c=v->c≠v:=λc hc e z=>hv0 (z▸kidT c hc e)
  obtain⟨a,ea⟩:∃a,ys[v]?=some a:=⟨_,Ye (by omega)⟩
  obtain⟨ah,bh,hA,hB,ha⟩:=hyp v a ea
  have nla:a≠l:=λz=>by rw[z,zl]at ha;cases ha
  have s3x:∀b u,b≠l->H1 b=some u->Hx b=some u:=λb u n e=>ex _ _ n ((s2.trans s3) _ _ e)
  have sHx:Ze H Hx:=s03.exc zl0 ex
  have kA:Zof tab ts.length ah:=by
   cases ah with
   |none=>trivial
   |some c=>exact⟨by have:=hA.2.1;omega,(hdone c (kidT c hA.2.1 hA.2.2)).1⟩
  have kB:Zof tab ts.length bh:=by
   cases bh with
   |none=>trivial
   |some c=>exact⟨by have:=hB.2.1;omega,(hdone c (kidT c hB.2.1 hB.2.2)).1⟩
  have hyx:Hx y=some (.lst (ys.map V.ref)):=s3x _ _ nly hys
  have hax:Hx a=some (.lst [optN ah,optN bh]):=s3x _ _ nla ha
  walk_at "rd"
  refine⟨_,sHx.q hx,by omega,by omega,?_⟩
  rw[eX,show((ts.length:Nat):Int).toNat=ts.length by omega]
  refine ZaO (n:=ts.length) (λj acc Hz=>∃rs:List Pt,acc.length=j/\rs.length=j/\(∀(i:Nat) (u:V) (p:Pt),acc[i]?=some u->rs[i]?=some p->Z4 Hz u p)/\(∀i,i<j->ZcK ts tab i ah bh (rs.getD i none))/\Ze Hx Hz) (YF (show _<=1000 by omega) (by decide)) ⟨[],rfl,rfl,(λi u p h=>by simp at h),(λi h=>absurd h (by omega)),Ze.refl Hx⟩ (λj acc Hz _ hj=>hj) (λacc Hz _=>Yf _) ?_ ?_
  ·rintro j u acc Hz Hw hj hla ⟨rs,hal,hrl,hpr,hru,sz⟩ ⟨rfl,rfl⟩
   rw[show(0:Int)+(j:Int)=((j:Nat):Int) by omega]
   walk_at "rd"
   refine⟨_,SqL.of (sz _ _ hyx),V.ref a,ZdK (by rw[YD,ea];rfl),x,l,a,ts,tab,ah,bh,j,rfl,(sHx.trans sz).q hx,TBx.same sz,sz _ _ hax,kA,kB,h16,hj,ZQ.same hT2 (sHx.trans sz),ZQ.same hT3 (sHx.trans sz),λu p H5 s5 hR hP=>CA.take hj hla ⟨by simp[hal],rs++[p],by simp[hrl],λi u' p' e1 e2=>?_,λi hi=>?_,sz.trans s5⟩⟩
   ·by_cases c:i<j
    ·rw[Y2 (by omega)]at e1 e2
     exact(hpr i u' p' e1 e2).same s5
    ·have h1:=(Ym.mp e1).1
     have:i=j:=by simp at h1;omega
     subst this
     rw[YX (by omega),hal,Nat.sub_self]at e1
     rw[YX (by omega),hrl,Nat.sub_self]at e2
     cases e1;cases e2;exact hP
   ·by_cases c:i<j
    ·rw[Yn,Y2 (by omega),<-Yn]
     exact hru i c
    ·have:i=j:=by omega
     subst this
     rw[Yn,YX (by omega),hrl,Nat.sub_self]
     exact hR
  ·rintro r acc Hz ⟨rs,hal,hrl,hpr,hru,sz⟩ _ zr
   have gr:=(Ze.refl Hz).upd (o:=.lst acc) zr
   obtain⟨as,hla,hasn,hasl,hasp⟩:=TBx
   have hlz:=gr _ _ (sz _ _ hla)
   have hrr:=Zc (H:=Hz) (a:=r) (o:=.lst acc)
   have nrl:r≠l:=λz=>by rw[z,sz _ _ hla]at zr;cases zr
   have szr:=sz.trans gr
   generalize upd Hz r (.lst acc)=H6 at gr hlz hrr szr⊢
   refine⟨_,hlz,v,Zkn (by rw[Yj];omega),tab.set v rs,⟨as.set v r,by rw[Zc,List.map_set],λz=>?_,by simp[hasl],λi b qs e1 e2=>?_⟩,by simp[htx],?_,λw hw=>?_,(ex.same szr).trans Exc.upd⟩
   ·rcases List.mem_or_eq_of_mem_set z with z|z
    ·exact hasn z
    ·exact nrl z.symm
   ·by_cases c:i=v
    ·subst c
     rw[List.getElem?_set_self (by omega)]at e1 e2
     cases e1;cases e2
     exact⟨acc,by rw[Zf nrl];exact hrr,by omega,λi u p f1 f2=>((hpr i u p f1 f2).same gr).excL hlz Exc.upd⟩
    ·rw[List.getElem?_set_ne (Ne.symm c)]at e1 e2
     obtain⟨vals,g1,g2,g3⟩:=(hasp i b qs e1 e2).same szr
     have nb:b≠l:=λz=>hasn (z▸List.mem_of_getElem? e1)
     exact⟨vals,by rw[Zf nb];exact g1,g2,λi u p f1 f2=>(g3 i u p f1 f2).excL hlz Exc.upd⟩
   ·obtain⟨as',f1,f2⟩:=FBx
    rw[hla]at f1
    have ea':as=as':=by
     have:=HO.lst.inj (YA f1)
     exact(List.map_inj_right (λ_ _ h=>V.ref.inj h)).mp this
    subst ea'
    refine⟨as.set v r,by rw[Zc,List.map_set],λb hb=>?_⟩
    rcases List.mem_or_eq_of_mem_set hb with hb|rfl
    ·exact f2 b hb
    ·exact(sHx.trans sz).free zr
   ·rw[List.take_succ,hpk]at hw
    rcases YE.mp hw with hw|hw
    ·refine(hdone w hw).set (λz=>hv0 (z▸hw)) λc hc e z=>?_
     obtain⟨m,hm,em⟩:=List.mem_take_iff_getElem.mp hw
     have:=Zj2 hT hpm hpw (k:=m) (c:=c) (v:=w) (Ym.mpr ⟨by omega,em⟩) hc e
     obtain⟨m2,hm2,em2⟩:=List.mem_take_iff_getElem.mp this
     exact hv0 (z▸List.mem_take_iff_getElem.mpr ⟨m2,by omega,em2⟩)
    ·have:w=v:=by simp at hw;omega
     subst this
     exact ZdR.new (by omega) hrl hA hB kidV hru
 ·rintro σ Hx ⟨v4,tab,rfl,TBx,htx,FBx,hdone,ex⟩
  walk_at "rd"
  refine k1 l tab Hx zl0 TBx FBx ⟨htx,λv hv=>hdone v ?_⟩ (s03.exc zl0 ex)
  rw[List.take_of_length_le (by simp)]
  exact hpm.mem_iff.mpr (YN.mpr ⟨v,Yy.mpr (by omega),rfl⟩)
theorem Zjf {f:Addr}{fd:FuncData} (F:Fun K "is_stretch" "is_stretch" Zax f fd) (T:Txt K mg):FnOk P w K mg base (CXE P w) 1 f fd ["many","a","b"] (Zc1 K mg):=by
 refine F.okX Zja (λvs H Q E h=>?_) (λcdv A outer s H vs Q E hr h=>?_)
 ·obtain⟨n,a,b,rfl,_⟩:=h;rfl
 obtain⟨n,a,b,rfl,k1,k2⟩:=h
 refine⟨_,(Zh (Zt (ZoF Zlb Zlb Zf4 Zg (pv 1) (pv 2) (pv 0)))),?_⟩
 unfold StrIn at k1 k2
 walk_at "rd"
 by_cases h0:0<=a
 ·rw[Yd h0]
  by_cases h1:a<=b
  ·rw[Yd h1]
   by_cases h2:b<n
   ·rw[YO h2];exact k1 ⟨h0,h1,h2⟩
   ·rw[YI h2];exact k2 (by omega)
  ·rw[Yb h1];exact k2 (by omega)
 ·rw[Yb h0];exact k2 (by omega)
theorem Zhy {f:Addr}{fd:FuncData} (F:Fun K "need_stretch" "need_stretch" ZY f fd) (ZdS:Callee P w K mg base "is_stretch" 1 ["many","a","b"] (Zc1 K mg)) (T:Txt K mg):FnOk P w K mg base (CXE P w) 2 f fd ["many","a","b"] (ZbV K mg):=by
 refine F.okX Zhx (λvs H Q E h=>?_) (λcdv A outer s H vs Q E hr h=>?_)
 ·obtain⟨n,a,b,rfl,_⟩:=h;rfl
 obtain⟨n,a,b,rfl,hn0,hn1,k1,k2⟩:=h
 refine⟨_,(Zh (ZV (ZhP (ZfA (Zi ZdS (hr.mono (by decide)) rfl Zw (Za (pv 0) (Za (pv 1) (Za (pv 2) Zb)))))) (Zh (Zf6 rfl rfl T.c_NoPlace T.x_NoPlace (Za (Zfa (Zb0 (by decide) (ZhU (pv 0) (Zb0 (by decide) Zkl)))) Zb) ZhF)) ZE)),?_⟩
 walk_at "rd"
 refine⟨n,a,b,rfl,λh=>?_,λh=>?_⟩
 ·walk_at "rd"
  exact k1 h
 ·walk_at "rd"
  exact⟨by omega,by omega,λy=>⟨by decide,k2 h⟩⟩
theorem Zjg {f:Addr}{fd:FuncData} (F:Fun K "need_loose" "need_loose" Zaz f fd) (ZbY:Zkq P w K mg base "need_numbers" 1 ["row","fewest"] [V.int 1] (ZaP K mg)) (T:Txt K mg):FnOk P w K mg base (CXE P w) 2 f fd ["row","text"] (Zah K mg):=by
 refine F.okX Zjc (λvs H Q E h=>?_) (λcdv A outer s H vs Q E hr h=>?_)
 ·obtain⟨r,x,ns,ts,rfl,_⟩:=h;rfl
 obtain⟨r,x,ns,ts,rfl,⟨hr1,hx,n1,n2⟩,k1,k2,k3⟩:=h
 refine⟨_,(Zd (ZbZ (ZoJ ZbY (hr.mono (by decide)) rfl ZdM (Za (pv 0) Zb)))
   (Zd (ZV (Zk Zej (Zj (Zm (K:=K) rfl) rfl T.b_len YH (Za (pv 0) Zb)) (ZW (v:=.int 6) rfl T.m_MOST_HELD ⟨_,rfl⟩) (Zl _)) (Zh (Zf6 rfl rfl T.c_TooMany T.x_TooMany (Za (Zfa (Zb0 (by decide) (ZhU (ZW (v:=.int 6) rfl T.m_MOST_HELD ⟨_,rfl⟩) (Zb0 (by decide) Zkl)))) Zb) ZhF)) ZE)
   (Zh (ZV (Zk Zej (Zj (Zm (K:=K) rfl) rfl T.b_len YH (Za (pv 1) Zb)) (ZW (v:=.int 16) rfl T.m_MOST_HOLDING ⟨_,rfl⟩) (Zl _)) (Zh (Zf6 rfl rfl T.c_TooMany T.x_TooMany (Za (Zfa (Zb0 (by decide) (ZhU (ZW (v:=.int 16) rfl T.m_MOST_HOLDING ⟨_,rfl⟩) (Zb0 (by decide) Zkl)))) Zb) ZhF)) ZE)))),?_⟩
 unfold LOk at k1 k3
 walk_at "rd"
 have e1:(ns.map V.int).length=ns.length:=Yj ..
 have e2:(ts.map V.int).length=ts.length:=Yj ..
 refine⟨r,ns,1,rfl,hr1,by omega,by decide,by decide,λz1=>⟨_,hr1,ZC (λz=>?_) λz2=>⟨_,hx,ZC (λz=>?_) λz=>k1 (by omega)⟩⟩,λz=>k2 (by omega)⟩
 ·exact⟨by decide,by decide,λy=>⟨by decide,k3 (by omega) (by omega)⟩⟩
 ·exact⟨by decide,by decide,λy=>⟨by decide,k3 (by omega) (by omega)⟩⟩
theorem ZlY {f:Addr}{fd:FuncData} (F:Fun K "table_of" "table_of" Zbl f fd) (ZR:Callee P w K mg base "tree_of" 2 ["row"] (Zbn K mg)) (Zz:Callee P w K mg base "need_loose" 2 ["row","text"] (Zah K mg)) (Z9:Callee P w K mg base "table_by" 6 ["tree","text"] (ZbQ K mg)) (T:Txt K mg):FnOk P w K mg base (CXE P w) 7 f fd ["row","text"] (ZcM K mg):=by
 refine F.okX ZlT (λvs H Q E h=>?_) (λcdv A outer s H vs Q E hr h=>?_)
 ·obtain⟨r,x,ns,ts,rfl,_⟩:=h;rfl
 obtain⟨r,x,ns,ts,rfl,hRT,⟨hT1,hT2,hT3⟩,k1,k2⟩:=h
 refine⟨_,(Zd (ZbZ (Zi Zz (hr.mono (by decide)) rfl ZdM (Za (pv 0) (Za (pv 1) Zb))))
   (Zh (Zt (Zi Z9 (hr.mono (by decide)) rfl Zw (Za (Zi ZR (hr.mono (by decide)) rfl Zw (Za (pv 0) Zb)) (Za (pv 1) Zb)))))),?_⟩
 walk_at "rd"
 refine⟨r,x,ns,ts,rfl,hRT,λok=>?_,k2⟩
 obtain⟨hr1,hx,_,_⟩:=hRT
 obtain⟨h0,h6,h16⟩:=id ok
 exact⟨r,ns,rfl,hr1,by omega,λt es H1 hE s1 ht=>⟨t,x,es,ts,rfl,ht.sq,s1.q hx,⟨by have:=hE.1;omega,ns,hE⟩,h16,ZQ.same hT1 s1,ZQ.same hT2 s1,ZQ.same hT3 s1,λl tab H2 zl hTB _ hTI s2=>k1 ok l es tab H2 (s1.free zl) hE hTB hTI (s1.trans s2)⟩⟩
theorem Zo8 {l:Addr}{rs:List (List Int)}{H1:Hp}{Q:VK}{tt:TT}{σr:L2.St} (P:List Int->Bool) (tl:Zck H1 l rs) (hn:rs.length<=7000)
  (ht:∀(a:Addr) (r:List Int) (H:Hp) (R:Bool->Hp->Prop),r∈rs->Ze H1 H->H a=some (.tup (r.map V.int))->(∀H',Ze H H'->R (P r) H')->tt (some (V.ref a)::σr) H R)
  (hk:∀g H',Ze H1 H'->H1 g=none->Zck H' g (rs.filter P)->Q (.ref g) H'):Zli (Itl K l) (Zg7 0) tt (tVar 0) (none::σr) Q H1:=by
 obtain⟨w1,w2,w3⟩:=tl.walk (K:=K)
 refine ZaO (n:=rs.length) (λj acc Hz=>Zel Hz acc ((rs.take j).filter P)/\Ze H1 Hz) (YF hn (by decide)) ⟨by simpa using Zel.nil,Ze.refl _⟩ (λj acc Hz ⟨_,s⟩ hj=>w1 j Hz s hj) (λacc Hz ⟨_,s⟩=>w2 Hz s) ?_ ?_
 ·rintro j x acc Hz Hw hj hla ⟨tv,sz⟩ y
  obtain⟨rfl,a,rfl,ha⟩:=w3 j x Hz Hw hj sz y
  have etk:rs.take (j+1)=rs.take j++[rs[j]]:=by rw[Jb,Ye hj];rfl
  refine ht a rs[j] Hw _ (YL hj) sz ha λH' s'=>?_
  refine ZC (λc=>?_) λc=>CA.skip hj hla ⟨?_,sz.trans s'⟩
  ·walk_at "rd"
   refine CA.take hj hla ⟨?_,sz.trans s'⟩
   rw[etk,List.filter_append,List.filter_cons_of_pos c,List.filter_nil]
   exact(tv.same s').snoc (s' _ _ ha)
  ·rw[etk,List.filter_append,List.filter_cons_of_neg c,List.filter_nil,List.append_nil]
   exact tv.same s'
 ·rintro g acc Hz ⟨tv,sz⟩ _ zg
  rw[List.take_length]at tv
  exact hk g _ (sz.Zch zg) (sz.free zg) (tv.at zg)
theorem ZlZ {ns T qs:List Int} (hT:Zx ns T) (hpm:qs.Perm (nats (T.length:Int))) (hpw:qs.Pairwise λx y=>dpI T x<=dpI T y) {p q i:Nat} (hp:p<T.length) (hq:q<T.length) (h:nth T p=q):(qs[i]?=some (p:Int)->(q:Int)∈qs.take i)/\((p:Int)∈qs.take i->(q:Int)∈qs.take i):=by
 have eT:=hT.1
 have dp:=Zj1 hT (p:=p) (by omega) h
 have mq:(q:Int)∈qs:=hpm.mem_iff.mpr (YN.mpr ⟨q,Yy.mpr (by omega),rfl⟩)
 obtain⟨m,hm,em⟩:=YY mq
 have key:∀k,qs[k]?=some (p:Int)->m<k:=λk e=>by
  obtain⟨hk,ek⟩:=Ym.mp e
  refine Nat.lt_of_not_le λz=>?_
  rcases Nat.lt_or_eq_of_le z with z|z
  ·have:=List.pairwise_iff_getElem.mp hpw k m hk hm z
   rw[ek,em]at this;omega
  ·subst z
   rw[ek]at em
   rw[em]at dp;omega
 constructor
 ·intro e
  have:=key i e
  rw[List.mem_take_iff_getElem]
  exact⟨m,by omega,em⟩
 ·intro e
  obtain⟨k,hk,ek⟩:=List.mem_take_iff_getElem.mp e
  have:=key k (Ym.mpr ⟨by omega,ek⟩)
  rw[List.mem_take_iff_getElem]
  exact⟨m,by omega,em⟩
theorem Zq9 {rs:List (List Int)} (h:rs.Pairwise λx y=>lxI x y=true):rs.Nodup:=List.Pairwise.imp (λ{x y} h z=>by rw[z,Zil]at h;cases h) h
theorem ZhM {a b c d:Int}:([a,b]:List Int)=[c,d]↔a=c/\b=d:=by simp
theorem Ziv {f:Addr}{fd:FuncData} (F:Fun K "table_right" "table_right" Zae f fd) (Zbq:Callee P w K mg base "table_of" 7 ["row","text"] (ZcM K mg)) (T:Txt K mg):FnOk P w K mg base (CXE P w) 8 f fd ["row","text","table"] (Zcp K mg):=by
 refine F.okX Zin (λvs H Q E h=>?_) (λcdv A outer s H vs Q E hr h=>?_)
 ·obtain⟨r,x,l,ns,ts,tb,rfl,_⟩:=h;rfl
 obtain⟨r,x,l,ns,ts,tb,rfl,hRT,hl,htl,hTs,k1,k2⟩:=h
 refine⟨_,(Zh (Zt (ZdI (op_eqN (K:=K) rfl hr) (Zi Zbq (hr.mono (by decide)) rfl ZdM (Za (pv 0) (Za (pv 1) Zb))) (ZbM ["pairs"] [none] rfl rfl rfl (pi_seq (K:=K) rfl (pv 2)) (λ_ _ _ _ _=>(Zn (i:=0) (show(["pairs"]:List Str).Nodup from by decide +kernel) rfl (Or.inl rfl))) (λ_ _ _ _ _=>ZaN) (λ_ _ _ _ _=>(Zdt (ZhX (K:=K) rfl) rfl T.b_list ZnH (Za (pv 0) Zb))) ZG) (Zl _)))),?_⟩
 walk_at "rd"
 refine⟨r,x,ns,ts,rfl,hRT,hTs,λok l2 T2 tab H1 zl hE hTB hTI s1=>?_,k2⟩
 obtain⟨as,has,hal,hap⟩:=hl
 obtain⟨cs,hcs,_,hcl,hcp⟩:=hTB
 have fin:∀(m:Addr) (bs:List Addr) (H2:Hp),bs.length=tb.length->(∀(i:Nat) (b:Addr) (ps:List Pt),bs[i]?=some b->tb[i]?=some ps->Zbc H2 b ps)->Ze H1 H2->H2 m=none->∃x_2,EqN K (upd H2 m (.lst (bs.map V.ref))) 3 (.ref l2) (.ref m) x_2/\Q (V.bl x_2) (upd H2 m (.lst (bs.map V.ref))):=λm bs H2 hbl hbp s2 zm=>by
  have gm:=(Ze.refl H2).upd (o:=.lst (bs.map V.ref)) zm
  exact⟨_,tbl_eq ((s2.trans gm) _ _ hcs) hcl (λi a ps e1 e2=>(hcp i a ps e1 e2).same (s2.trans gm)) Zc hbl (λi b ps e1 e2=>(hbp i b ps e1 e2).same gm),k1 ok _ _ (s1.trans (s2.trans gm))⟩
 have step:∀(bs:List Addr) (vals:List V) (q:Addr) (j:Nat) (ps:List Pt) (Hz:Hp),bs.length=j->(∀(i:Nat) (b:Addr) (ps:List Pt),bs[i]?=some b->tb[i]?=some ps->Zbc Hz b ps)->tb[j]?=some ps->vals.length=ps.length->(∀(i:Nat) (v:V) (p:Pt),vals[i]?=some v->ps[i]?=some p->Z4 Hz v p)->Hz q=none->∀(i:Nat) (b:Addr) (ps:List Pt),(bs++[q])[i]?=some b->tb[i]?=some ps->Zbc (upd Hz q (.lst vals)) b ps:=λbs vals q j ps Hz hbl hbp etb hvl hvp zq i b ps' e1 e2=>by
  have gq:=(Ze.refl Hz).upd (o:=.lst vals) zq
  by_cases c:i<j
  ·rw[Y2 (by omega)]at e1
   exact(hbp i b ps' e1 e2).same gq
  ·have h1:=(Ym.mp e1).1
   have:i=j:=by simp at h1;omega
   subst this
   rw[YX (by omega),hbl,Nat.sub_self]at e1
   rw[etb]at e2
   cases e1;cases e2
   exact⟨vals,Zc,hvl,λi v p f1 f2=>(hvp i v p f1 f2).same gq⟩
 have get:∀j,j<as.length->∃a ps,as[j]?=some a/\tb[j]?=some ps/\ZlR K H a ps:=λj hj=>⟨as[j],tb[j]'(by omega),Ye hj,Ye (by omega),hap j _ _ (Ye hj) (Ye (by omega))⟩
 rcases has with has|has
 ·refine .inl ⟨⟨_,s1.seq has⟩,ZaO (n:=as.length) (λj acc Hz=>∃bs:List Addr,acc=bs.map V.ref/\bs.length=j/\(∀(i:Nat) (b:Addr) (ps:List Pt),bs[i]?=some b->tb[i]?=some ps->Zbc Hz b ps)/\Ze H1 Hz) (YF (show _<=1000 by omega) (by decide)) ⟨[],rfl,rfl,(λi b ps h=>by simp at h),Ze.refl H1⟩ (λj acc Hz ⟨_,_,_,_,e⟩ hj=>⟨_,_,(s1.trans e).seq has,Ye (by simpa using hj)⟩) (λacc Hz ⟨_,_,_,_,e⟩=>⟨_,(s1.trans e).seq has,by simp⟩) ?_ ?_⟩
  ·rintro j w acc Hz Hw hj hla ⟨bs,rfl,hbl,hbp,sz⟩ ⟨rfl,hx⟩
   obtain⟨a,ps,ea,etb,hps⟩:=get j hj
   have exx:=hx _ ((s1.trans sz).seq has)
   rw[YD,ea]at exx
   cases exx
   obtain⟨vals,hv1,hv2,hv3⟩:=hps.same (s1.trans sz)
   walk_at "rd"
   exact⟨_,hv1,λq zq=>CA.take hj hla ⟨bs++[q],by simp,by simp[hbl],step bs vals q j ps Hw hbl hbp etb hv2 hv3 zq,sz.Zch zq⟩⟩
  ·rintro m acc Hz ⟨bs,rfl,hbl,hbp,sz⟩ _ zm
   exact⟨l2,rfl,m,rfl,fin m bs Hz (by omega) hbp sz zm⟩
 ·refine .inr ⟨⟨_,s1.ZeA has⟩,ZaO (n:=as.length) (λj acc Hz=>∃bs:List Addr,acc=bs.map V.ref/\bs.length=j/\(∀(i:Nat) (b:Addr) (ps:List Pt),bs[i]?=some b->tb[i]?=some ps->Zbc Hz b ps)/\Ze H1 Hz) (YF (show _<=1000 by omega) (by decide)) ⟨[],rfl,rfl,(λi b ps h=>by simp at h),Ze.refl H1⟩ (λj acc Hz ⟨_,_,_,_,e⟩ hj=>⟨_,_,(s1.trans e).ZeA has,Ye (by simpa using hj)⟩) (λacc Hz ⟨_,_,_,_,e⟩=>⟨_,(s1.trans e).ZeA has,by simp⟩) ?_ ?_⟩
  ·rintro j w acc Hz Hw hj hla ⟨bs,rfl,hbl,hbp,sz⟩ ⟨rfl,hx⟩
   obtain⟨a,ps,ea,etb,hps⟩:=get j hj
   have exx:=hx _ ((s1.trans sz).ZeA has)
   rw[YD,ea]at exx
   cases exx
   obtain⟨vals,hv1,hv2,hv3⟩:=hps.same (s1.trans sz)
   walk_at "rd"
   exact⟨_,hv1,λq zq=>CA.take hj hla ⟨bs++[q],by simp,by simp[hbl],step bs vals q j ps Hw hbl hbp etb hv2 hv3 zq,sz.Zch zq⟩⟩
  ·rintro m acc Hz ⟨bs,rfl,hbl,hbp,sz⟩ _ zm
   exact⟨l2,rfl,m,rfl,fin m bs Hz (by omega) hbp sz zm⟩
theorem Ziw {f:Addr}{fd:FuncData} (F:Fun K "lies_within" "lies_within" Zaf f fd) (T:Txt K mg):FnOk P w K mg base (CXE P w) 1 f fd ["pair","other"] (Zcq K mg):=by
 refine F.okX Zio (λvs H Q E h=>?_) (λcdv A outer s H vs Q E hr h=>?_)
 ·obtain⟨p,q,a,b,c,d,rfl,_⟩:=h;rfl
 obtain⟨p,q,a,b,c,d,rfl,hp,hq,k1⟩:=h
 refine⟨_,(Zh (Zt (Zmg (ZdI (op_neD (K:=K) rfl hr) (pv 0) (pv 1) (Zl _)) (Zmg (ZdI Zlb (Zq ZaR (pv 1) Zg (λ_ _=>rfl)) (Zq ZaR (pv 0) Zg (λ_ _=>rfl)) (Zl _)) (Zpx (ZdI Zlb (Zq ZaR (pv 0) Zg (λ_ _=>rfl)) (Zq ZaR (pv 1) Zg (λ_ _=>rfl)) (Zl _))))))),?_⟩
 walk_at "rd"
 refine⟨_,Ztf (n:=2) (K:=K) Zte _ _ _ _ (ZhZ (ns:=[a,b]) (SqT.of hp)) (ZhZ (ns:=[c,d]) (SqT.of hq)),ZC (λz=>?_) λz=>k1 false ?_⟩
 ·have z:¬ ([a,b]=[c,d]):=of_decide_eq_false z
  rw[ZhM]at z
  refine⟨_,SqT.of hq,_,rfl,_,SqT.of hp,_,rfl,_,rfl,_,rfl,ZC (λy=>⟨_,SqT.of hp,_,rfl,_,SqT.of hq,_,rfl,_,rfl,_,rfl,k1 _ ?_⟩) λy=>k1 false ?_⟩
  ·rw[decide_eq_true_iff]
   exact⟨λh=>⟨z,y,h⟩,λh=>h.2.2⟩
  ·exact⟨λh=>absurd h (by simp),λh=>absurd h.2.1 y⟩
 ·have z:[a,b]=[c,d]:=by simpa using z
  rw[ZhM]at z
  exact⟨λh=>absurd h (by simp),λh=>absurd z h.1⟩
noncomputable def ZgX (ps:List Pt):List (List Int):=ps.filterMap λp=>p.map λe=>[e.1,e.2]
theorem Zne {ps:List Pt}{r:List Int}:r∈ZgX ps↔∃e:Int×Int,some e∈ps/\r=[e.1,e.2]:=by
 unfold ZgX
 rw[List.mem_filterMap]
 constructor
 ·rintro⟨p,hp,e⟩
  cases p with
  |none=>cases e
  |some e'=>exact⟨e',hp,(YA e).symm⟩
 ·rintro⟨e,he,rfl⟩
  exact⟨some e,he,rfl⟩
theorem ZkM {ns T:List Int} (hT:Zx ns T) (h0:0<ns.length):(-1:Int)∈T/\T.idxOf (-1)<T.length/\nth T (T.idxOf (-1))=-1:=by
 have hm1:=Zq5 hT _ 0 (by have:=hT.1;omega) (Yf _)
 have ht:=List.idxOf_lt_length_of_mem hm1
 refine⟨hm1,ht,?_⟩
 unfold nth
 rw[Yn,Ye ht]
 simp
theorem ZkN {H:Hp}{l:Addr}{tab:List (List Pt)}{i:Nat} (h:ZeH H l tab) (hi:i<tab.length):∃(xs:List V) (a:Addr) (vals:List V),H l=some (.lst xs)/\xs[i]?=some (.ref a)/\H a=some (.lst vals)/\vals.length=(tab.getD i []).length/\∀(j:Nat) (v:V) (p:Pt),vals[j]?=some v->(tab.getD i [])[j]?=some p->Z4 H v p:=by
 obtain⟨as,h1,_,h2,h3⟩:=h
 obtain⟨vals,g1,g2,g3⟩:=h3 i (as[i]'(by omega)) (tab[i]'hi) (Ye (by omega)) (Ye hi)
 have e:tab.getD i []=tab[i]'hi:=by rw[Yn,Ye hi];rfl
 refine⟨_,as[i]'(by omega),vals,h1,by rw[YD,Ye (by omega)];rfl,g1,by rw[e];exact g2,by rw[e];exact g3⟩
theorem ZfL {f:Addr}{fd:FuncData} (F:Fun K "least_stretches" "least_stretches" ZK f fd) (ZR:Callee P w K mg base "tree_of" 2 ["row"] (Zbn K mg)) (Zz:Callee P w K mg base "need_loose" 2 ["row","text"] (Zah K mg)) (Z9:Callee P w K mg base "table_by" 6 ["tree","text"] (ZbQ K mg)) (Zc5:Callee P w K mg base "lies_within" 1 ["pair","other"] (Zcq K mg)) (T:Txt K mg):FnOk P w K mg base (CXE P w) 7 f fd ["row","text"] (ZaS K mg):=by
 refine F.okX Z6 (λvs H Q E h=>?_) (λcdv A outer s H vs Q E hr h=>?_)
 ·obtain⟨r,x,ns,ts,rfl,_⟩:=h;rfl
 obtain⟨r,x,ns,ts,rfl,hRT,⟨hT1,hT2,hT3⟩,k1,k2⟩:=h
 refine⟨_,(Zd (ZbZ (Zi Zz (hr.mono (by decide)) rfl ZdM (Za (pv 0) (Za (pv 1) Zb))))
   (Zd (Zo (i:=2) Z6.nd rfl (Or.inl rfl) (Zi ZR (hr.mono (by decide)) rfl Zw (Za (pv 0) Zb)))
   (Zd (Zo (i:=3) Z6.nd rfl (Or.inl rfl) (Zq Zu (Zi Z9 (hr.mono (by decide)) rfl Zw (Za (pv 2) (Za (pv 1) Zb))) (ZkC PySem.F.slot_tuple_index PySem.F.type_tuple_index (Zfc (K:=K) rfl) (pv 2) (Za (Zg8 Zev Zg) Zb)) (λ_ _=>rfl)))
   (Zd (Zo (i:=4) Z6.nd rfl (Or.inr rfl) (ZlQ ["pair"] [none] rfl hr rfl T.b_sorted rfl rfl (ZdH (pv 3)) (λ_ _ _ _ _=>(Zn (i:=0) (show(["pair"]:List Str).Nodup from by decide +kernel) rfl (Or.inl rfl))) (λ_ _ _ _ _=>Zez (Zk ZcD (pv 0) ZU (Zl _))) (λ_ _ _ _ _=>(pv 0)) ZG))
   (Zh (Zt (ZbM ["pair","pairs"] [none,some 4] rfl rfl rfl (ZdH (pv 4)) (λ_ _ _ _ _=>(Zn (i:=0) (show(["pair","pairs"]:List Str).Nodup from by decide +kernel) rfl (Or.inr rfl))) (λ_ _ _ _ _=>Zez (ZhP (ZfA (Zj (Zqa (K:=K) rfl rfl) rfl T.b_any bt_any (Za (ZbM ["other","pair"] [none,some 0] rfl rfl rfl (Zqh (K:=K) rfl (pv 1)) (λ_ _ _ _ _=>(Zn (i:=0) (show(["other","pair"]:List Str).Nodup from by decide +kernel) rfl (Or.inl rfl))) (λ_ _ _ _ _=>ZaN) (λ_ _ _ _ _=>(Zi Zc5 (hr.mono (by decide)) rfl Zw (Za (pv 0) (Za (pv 1) Zb)))) ZG) Zb))))) (λ_ _ _ _ _=>(pv 0)) ZG))))))),?_⟩
 walk_at "rd"
 refine⟨r,x,ns,ts,rfl,hRT,λok=>?_,k2⟩
 obtain⟨hr1,hx,_,_⟩:=hRT
 obtain⟨h0,h6,h16⟩:=id ok
 refine⟨r,ns,rfl,hr1,by omega,λt T' H1 hT s1 ht=>⟨t,x,T',ts,rfl,ht.sq,s1.q hx,⟨by have:=hT.1;omega,ns,hT⟩,h16,ZQ.same hT1 s1,ZQ.same hT2 s1,ZQ.same hT3 s1,λl tab H2 zl TB FB hTab s2=>?_⟩⟩
 obtain⟨hm1,htl,ht2⟩:=ZkM hT h0
 obtain⟨xs,a,vals,hl,hxa,ha,hvl,hvp⟩:=ZkN TB (i:=T'.idxOf (-1)) (by rw[hTab.1];exact htl)
 have hpl:=(hTab.2 _ htl).1
 generalize tab.getD (T'.idxOf (-1)) []=ps at hvl hvp hpl
 refine⟨⟨t,rfl,_,ht.same s2⟩,t,rfl,T',(ht.same s2).sq,hm1,l,rfl,xs,SqL.of hl,V.ref a,by rw[ZdK hxa],a,rfl,⟨_,SqL.of ha⟩,?_⟩
 refine Zq1 (n:=vals.length) (λj kss Hz=>kss=ZgX (ps.take j)/\Ze H2 Hz) (by omega) ⟨rfl,Ze.refl _⟩ (λj kss Hz ⟨_,s⟩ hj=>⟨_,_,SqL.of (s _ _ ha),Ye hj⟩) (λkss Hz ⟨_,s⟩=>⟨_,SqL.of (s _ _ ha),Yf _⟩) ?_ ?_
 ·rintro j y kss Hz Hw hj hla ⟨rfl,sz⟩ ⟨rfl,hy⟩
  have:=hy _ (SqL.of (sz _ _ ha))
  rw[Ye hj]at this
  cases this
  have hp:=hvp j vals[j] (ps[j]'(by omega)) (Ye hj) (Ye (by omega))
  have etk:ps.take (j+1)=ps.take j++[ps[j]'(by omega)]:=by rw[Jb,Ye (by omega)];rfl
  generalize vals[j]=y at hp⊢
  generalize ps[j]'(by omega)=pt at hp etk
  cases pt with
  |none =>
   have hp:y=.non:=hp
   subst hp
   walk_at "rd"
   refine ZC (λz=>absurd z (by simp)) λ_=>SA.skip hj hla ⟨?_,sz⟩
   rw[etk];unfold ZgX;rw[List.filterMap_append];simp
  |some e =>
   obtain⟨q,rfl,hq⟩:=hp
   walk_at "rd"
   refine ZC (λ_=>⟨[e.1,e.2],hq,SA.take hj hla ⟨?_,sz⟩⟩) λz=>absurd z (by simp)
   rw[etk];unfold ZgX;rw[List.filterMap_append];simp
 ·rintro kss H3 ⟨rfl,s3⟩ hkl
  rw[List.take_of_length_le (by omega)]at hkl⊢
  have hpp:∀r∈ZgX ps,∃x y:Int,r=[x,y]:=λr hr=>by obtain⟨e,_,rfl⟩:=Zne.mp hr;exact⟨_,_,rfl⟩
  refine⟨by omega,λk hk z=>(by obtain⟨x,y,e⟩:=hpp k hk;rw[e]at z;exact absurd z (by simp)),λrs g H4 hrs hpw zg s4 tg=>⟨g,rfl,tg.sq,?_⟩⟩
  have hrl:rs.length<=16:=by
   have:=Zm6 (Zq9 hpw) λr hr=>(hrs r).mp hr
   omega
  have hrp:∀r∈rs,∃x y:Int,r=[x,y]:=λr hr=>hpp r ((hrs r).mp hr)
  have s14:=s1.trans (s2.trans (s3.trans s4))
  refine Zo8 (λr=>!(rs.any λq=>decide (q≠r/\Win q r))) tg (by omega) ?_ ?_
  ·intro a r Hx R hr sx har hR
   obtain⟨c,d,rfl⟩:=hrp r hr
   have tgx:=tg.same sx
   obtain⟨w1,w2,w3⟩:=tgx.walk (K:=K)
   walk_at "rd"
   refine⟨tgx.sq,?_⟩
   refine comp_map (n:=rs.length) (λj=>V.bl (decide (rs.getD j []≠[c,d]/\Win (rs.getD j []) [c,d]))) (YF (show _<=1000 by omega) (by decide)) (λj Hz s hj=>w1 j Hz s hj) (λHz s=>w2 Hz s) ?_ ?_
   ·rintro j y Hz Hw hj s hy
    obtain⟨rfl,u,rfl,hu⟩:=w3 j y Hz Hw hj s hy
    have ej:rs.getD j []=rs[j]:=by rw[Yn,Ye hj];rfl
    have hm:rs[j]∈rs:=YL hj
    generalize rs[j]=q at hu hm ej
    obtain⟨a',b',rfl⟩:=hrp q hm
    walk_at "rd"
    refine⟨u,a,a',b',c,d,rfl,hu,s _ _ har,λz hz=>CW.next hj ?_ s⟩
    have:z=decide ([a',b']≠[c,d]/\Win [a',b'] [c,d]):=by
     rw[Bool.eq_iff_iff,hz,decide_eq_true_iff]
     exact⟨λh=>⟨λy=>h.1 (ZhM.mp y),h.2⟩,λh=>⟨λy=>h.1 (ZhM.mpr y),h.2⟩⟩
    rw[this,ej]
   ·intro lz Hz sz zlz
    refine⟨lz,rfl,(List.range rs.length).map λj=>decide (rs.getD j []≠[c,d]/\Win (rs.getD j []) [c,d]),SqL.of (by rw[Zc,Y7];rfl),?_⟩
    have ea:((List.range rs.length).map λj=>decide (rs.getD j []≠[c,d]/\Win (rs.getD j []) [c,d])).any id=rs.any λq=>decide (q≠[c,d]/\Win q [c,d]):=by
     have:(List.range rs.length).map (λj=>decide (rs.getD j []≠[c,d]/\Win (rs.getD j []) [c,d]))=rs.map λq=>decide (q≠[c,d]/\Win q [c,d]):=by
      refine List.ext_getElem (by simp) λj h1 h2=>?_
      have:j<rs.length:=by simpa using h2
      simp[Yn,this]
     rw[this,List.any_map];rfl
    have:=hR _ (sz.Zch (o:=.lst ((List.range rs.length).map λj=>V.bl (decide (rs.getD j []≠[c,d]/\Win (rs.getD j []) [c,d])))) zlz)
    rw[<-ea]at this
    exact this
  ·intro g' H5 s5 zg' tg'
   obtain⟨as,e,_⟩:=tg'
   exact k1 ok g' _ H5 e (s14.trans s5)
theorem Zl0 {ns T:List Int} (hT:Zx ns T) {p:Nat} (hp:p<T.length) (h:nth T p=-1):ZeB (nth ns) p/\ZcY (nth ns) ns.length p:=by
 rcases hT.2 p (by have:=hT.1;omega)with⟨a,b,_⟩|⟨q,_,_,e⟩|⟨q,_,_,e⟩|⟨q,r,_,_,e⟩
 ·exact⟨a,b⟩
 ·exact absurd (h.symm.trans e) (by omega)
 ·exact absurd (h.symm.trans e) (by omega)
 ·have:=h.symm.trans e
  split at this<;>omega
theorem Zra {ns T:List Int} (hT:Zx ns T) {u v:Nat} (hu:u<T.length) (hv:v<T.length) (eu:nth T u=-1) (ev:nth T v=-1):u=v:=by
 have e:=hT.1
 have key:∀a b,a<b->b<T.length->nth T a=-1->nth T b=-1->False:=λa b ab hb ea eb=>by
  have h1:=(Zl0 hT (by omega) ea).2 b ab (by omega)
  have h2:=(Zl0 hT hb eb).1 a ab
  omega
 rcases Nat.lt_trichotomy u v with z|z|z
 ·exact(key _ _ z hv eu ev).elim
 ·exact z
 ·exact(key _ _ z hu ev eu).elim
noncomputable def ChS (T ts:List Int) (tab:List (List Pt)) (i:Nat) (dn:List Int) (f:Nat->Option Nat):Prop:=f (T.idxOf (-1))=some i/\(∀v j,f v=some j->v<T.length/\j<ts.length/\((tab.getD v []).getD j none).isSome=true)/\(∀v,f v≠none->v=T.idxOf (-1)\/nth T v∈dn)/\∀v:Nat,(v:Int)∈dn->∃j,f v=some j/\∀c,c<T.length->nth T c=(v:Int)->∃jc,f c=some jc/\(c<v->Zim ts (tab.getD c []) j (some jc))/\(v<c->Zj0 ts (tab.getD c []) j (some jc))
noncomputable def chN (f:Nat->Option Nat) (ah bh:Option Nat) (ja jb:Nat):Nat->Option Nat:=λu=>if bh=some u then some jb else if ah=some u then some ja else f u
theorem ChS.kid {T ts:List Int}{tab:List (List Pt)}{i v c:Nat}{dn:List Int}{f:Nat->Option Nat} (h:ChS T ts tab i dn f) (ht:nth T (T.idxOf (-1))=-1) (hv:(v:Int)∉dn) (hc:nth T c=v):f c=none:=by
 cases e:f c with
 |none=>rfl
 |some j =>
  rcases h.2.2.1 c (by rw[e];simp)with z|z
  ·rw[z,ht]at hc;omega
  ·rw[hc]at z;exact absurd z hv
theorem ChS.next {T ts:List Int}{tab:List (List Pt)}{i v j ja jb:Nat}{dn:List Int}{f:Nat->Option Nat}{ah bh:Option Nat} (h:ChS T ts tab i dn f) (hG:Zek T) (ht:nth T (T.idxOf (-1))=-1) (hv:(v:Int)∉dn) (hvT:v<T.length) (e:f v=some j) (hA:ZaQ T v ah) (hB:Zac T v bh)
  (bA:∀c,ah=some c->Zim ts (tab.getD c []) j (some ja)) (bB:∀c,bh=some c->Zj0 ts (tab.getD c []) j (some jb)):ChS T ts tab i (dn++[(v:Int)]) (chN f ah bh ja jb):=by
 have kid:∀c,nth T c=v->f c=none:=λc hc=>h.kid ht hv hc
 have kA:∀c,ah=some c->c<v/\c<T.length/\nth T c=v:=λc z=>by subst z;exact hA
 have kB:∀c,bh=some c->v<c/\c<T.length/\nth T c=v:=λc z=>by subst z;exact hB
 have keep:∀u k,f u=some k->chN f ah bh ja jb u=some k:=λu k hu=>by
  unfold chN
  have n1:¬ bh=some u:=λz=>by rw[kid u (kB u z).2.2]at hu;cases hu
  have n2:¬ ah=some u:=λz=>by rw[kid u (kA u z).2.2]at hu;cases hu
  rw[Yb n1,Yb n2]
  exact hu
 have hj:=h.2.1 v j e
 refine⟨keep _ _ h.1,λu k hu=>?_,λu hu=>?_,λw hw=>?_⟩
 ·unfold chN at hu
  split at hu
  ·rename_i z
   cases hu
   exact⟨(kB u z).2.1,(bB u z).1.2.1,(bB u z).1.2.2.1⟩
  ·split at hu
   ·rename_i z
    cases hu
    have:=(bA u z).1
    exact⟨(kA u z).2.1,by have:=this.1;omega,this.2.1⟩
   ·exact h.2.1 u k hu
 ·unfold chN at hu
  split at hu
  ·rename_i z
   exact .inr (by rw[(kB u z).2.2];simp)
  ·split at hu
   ·rename_i z
    exact .inr (by rw[(kA u z).2.2];simp)
   ·exact(h.2.2.1 u hu).imp id λz=>YR _ z
 ·rcases YE.mp hw with z|z
  ·obtain⟨k,h1,h2⟩:=h.2.2.2 w z
   exact⟨k,keep _ _ h1,λc c1 c2=>let ⟨jc,g1,g2⟩:=h2 c c1 c2;⟨jc,keep _ _ g1,g2⟩⟩
  ·have:w=v:=by have:=Y6.mp z;omega
   subst this
   refine⟨j,keep _ _ e,λc c1 c2=>?_⟩
   rcases Nat.lt_trichotomy c w with y|y|y
   ·have ea:=Zit hG hvT hA (show ZaQ T w (some c)from⟨y,c1,c2⟩)
    refine⟨ja,?_,λ_=>bA c ea,λq=>absurd y (by omega)⟩
    unfold chN
    rw[Yb λz=>by have:=(kB c z).1;omega,Yd ea]
   ·subst y;rw[kid c c2]at e;cases e
   ·have eb:=Zhh hG hB (show Zac T w (some c)from⟨y,c1,c2⟩)
    refine⟨jb,?_,λq=>absurd y (by omega),λ_=>bB c eb⟩
    unfold chN
    rw[Yd eb]
noncomputable def ChD (kvs:List (Key×V)) (f:Nat->Option Nat):Prop:=∀v:Nat,ZaX kvs (Zhu (v:Int))=(f v).map λj=>V.int (j:Int)
theorem ChD.put {kvs:List (Key×V)}{f:Nat->Option Nat} (h:ChD kvs f) (c j:Nat):ChD (putK kvs (Zhu (c:Int)) (V.int (j:Int))) λu=>if c=u then some j else f u:=λv=>by
 rw[Zh6]
 by_cases z:c=v
 ·subst z;simp
 ·rw[Yb λq=>z (by have:((v:Nat):Int)=c:=Sum.inl.inj q;omega),h v]
  simp[z]
theorem chRow {K:PySem.W.Frag}{H:Hp}{l d:Addr}{tab:List (List Pt)}{c v j:Nat}{kvs:List (Key×V)}{f:Nat->Option Nat}{S:V->V->Prop} (TB:ZeH H l tab) (hc:c<tab.length) (hd:H d=some (.dK kvs)) (hD:ChD kvs f) (ej:f v=some j)
  (k:∀q:Addr,Zbc H q (tab.getD c [])->S (.ref q) (.int (j:Int))):∃(x4:List V) (x5:Int),V.int (c:Int)=V.int x5/\SqL K H l x4/\∃x6,atI x4 x5=some x6/\∃x7,ZgQ H d (V.int (v:Int)) (some x7)/\S x6 x7:=by
 obtain⟨xs,q,vals,hl,hxa,ha,hvl,hvp⟩:=ZkN TB hc
 have g:ZgQ H d (V.int (v:Int)) (some (V.int (j:Int))):=by
  have:=ZgQ.k (k:=Zhu (v:Int)) hd
  rw[hD v,ej]at this;exact this
 exact⟨xs,(c:Int),rfl,SqL.of hl,_,ZdK hxa,_,g,k q ⟨vals,ha,hvl,hvp⟩⟩
theorem ZkO {f:Addr}{fd:FuncData} (F:Fun K "places_by" "places_by" ZaT f fd) (Z8:Callee P w K mg base "young_of" 1 ["tree"] (ZbP K mg)) (ZaH:Callee P w K mg base "from_below" 5 ["tree"] (Zbr K mg)) (ZaG:Callee P w K mg base "best_ahead" 1 ["text","pairs","i"] (Zbs K mg)) (Zai:Callee P w K mg base "best_behind" 1 ["text","pairs","i"] (Zas K mg)) (T:Txt K mg):FnOk P w K mg base (CXE P w) 6 f fd ["tree","text","table","i"] (ZdP K mg):=by
 refine F.okX ZaE (λvs H Q E h=>?_) (λcdv A outer s H vs Q E hr h=>?_)
 ·obtain⟨t,x,l,T,ts,tab,i,rfl,_⟩:=h;rfl
 obtain⟨t,x,l,T',ts,tab,i,rfl,ht,hx,TB,hG,hTab,h16,hi,hsome,hT1,hT2,hT3,k1⟩:=h
 refine⟨_,(Zd (Zo (i:=4) ZaE.nd rfl (Or.inl rfl) (Zi Z8 (hr.mono (by decide)) rfl Zw (Za (pv 0) Zb)))
   (Zd (Zo (i:=5) ZaE.nd rfl (Or.inr rfl) (Ztp (ZqB (ZkC PySem.F.slot_tuple_index PySem.F.type_tuple_index (Zfc (K:=K) rfl) (pv 0) (Za (Zg8 Zev Zg) Zb)) (pv 3) Zto) rfl rfl (by simp) (by decide)))
   (Zd (ZcX (Zeu PassesOwn.never rfl (ZdH (ZoD (K:=K) rfl (Zi ZaH (hr.mono (by decide)) rfl Zw (Za (pv 0) Zb)) (Zg8 Zev Zg))) (Zn (i:=6) ZaE.nd rfl (Or.inl rfl)) (Zd (Zet (Zq Zu (pv 4) (pv 6) (λ_ _=>rfl)) (ZmX (K:=K) rfl (n:=2) rfl (ZaM (Zn (i:=7) ZaE.nd rfl (Or.inl rfl)) (ZaM (Zn (i:=8) ZaE.nd rfl (Or.inl rfl)) Zf3))))
   (Zd (ZV (Zk ZcD (pv 7) ZU (Zl _)) (Zh (Zkv (Zha hr) (pv 5) (pv 7) (Zi ZaG (hr.mono (by decide)) rfl Zw (Za (pv 1) (Za (Zq Zu (pv 2) (pv 7) (λ_ _=>rfl)) (Za (ZhK (Zha hr) (pv 5) (pv 6) (λ_ _=>rfl)) Zb)))) rfl)) ZE)
   (Zh (ZV (Zk ZcD (pv 8) ZU (Zl _)) (Zh (Zkv (Zha hr) (pv 5) (pv 8) (Zi Zai (hr.mono (by decide)) rfl Zw (Za (pv 1) (Za (Zq Zu (pv 2) (pv 8) (λ_ _=>rfl)) (Za (ZhK (Zha hr) (pv 5) (pv 6) (λ_ _=>rfl)) Zb)))) rfl)) ZE))))))
   (Zh (Zt (ZbM ["v","chosen"] [none,some 5] rfl rfl rfl (Zav rfl T.b_range (Za (Zj (Zm (K:=K) rfl) rfl T.b_len YH (Za (pv 0) Zb)) Zb)) (λ_ _ _ _ _=>(Zn (i:=0) (show(["v","chosen"]:List Str).Nodup from by decide +kernel) rfl (Or.inl rfl))) (λ_ _ _ _ _=>ZaN) (λ_ _ _ _ _=>(ZhK (Zha hr) (pv 1) (pv 0) (λ_ _=>rfl))) ZG)))))),?_⟩
 have h40:=hG.1
 obtain⟨_,nsT,hT⟩:=id hG
 have eT:=hT.1
 have eL:(T'.map V.int).length=T'.length:=Yj ..
 have n0:0<nsT.length:=by
  refine Nat.pos_of_ne_zero λz=>?_
  have:tab=[]:=List.eq_nil_of_length_eq_zero (by have:=hTab.1;omega)
  rw[this]at hsome
  simp at hsome
 obtain⟨hm1,htl,ht2⟩:=ZkM hT n0
 walk_at "rd"
 refine⟨t,T',rfl,ht.sq,hG,λy H1 zy Y1 s1=>?_⟩
 intro d zd
 have g2:=(Ze.refl H1).upd (o:=.dK []) zd
 have r2:=Zc (H:=H1) (a:=d) (o:=.dK [])
 generalize e2:upd H1 d (.dK [])=H2 at g2 r2
 simp only[Zkw]
 walk_at "rd"
 refine⟨⟨_,ht.same (s1.trans g2)⟩,T',(ht.same (s1.trans g2)).sq,hm1,r2,[(Zhu ((T'.idxOf (-1):Nat):Int),V.int (i:Int))],rfl,show 1<=15 by decide,?_⟩
 rw[<-e2,ZsY,show ZgR [] [(Zhu ((T'.idxOf (-1):Nat):Int),V.int (i:Int))]=[(Zhu ((T'.idxOf (-1):Nat):Int),V.int (i:Int))]from rfl]
 have g3:=(Ze.refl H1).upd (o:=.dK [(Zhu ((T'.idxOf (-1):Nat):Int),V.int (i:Int))]) zd
 have r3:=Zc (H:=H1) (a:=d) (o:=.dK [(Zhu ((T'.idxOf (-1):Nat):Int),V.int (i:Int))])
 generalize upd H1 d (.dK [(Zhu ((T'.idxOf (-1):Nat):Int),V.int (i:Int))])=H3 at g3 r3⊢
 have s3:=s1.trans g3
 refine⟨t,T',rfl,(ht.same s3).sq,hG,ZQ.same hT1 s3,λo ps H4 zo s4 hpm hpw ho=>⟨o,rfl,_,SqL.of ho,λq zq=>?_⟩⟩
 have gq:=(Ze.refl H4).upd (o:=.lst (ps.map V.int).reverse) zq
 have hq:=Zc (H:=H4) (a:=q) (o:=.lst (ps.map V.int).reverse)
 rw[<-List.map_reverse]at gq hq⊢
 have pm:ps.reverse.Perm (nats (T'.length:Int)):=(List.reverse_perm ps).trans hpm
 have pw:=List.pairwise_reverse.mpr hpw
 generalize ps.reverse=qs at gq hq pm pw⊢
 have r4:=s4 _ _ r3
 have nqd:q≠d:=λz=>by rw[z,r4]at zq;cases zq
 have r5:=gq _ _ r4
 have zd0:H d=none:=s1.free zd
 have s05:=(s3.trans s4).trans gq
 have s15:=(g3.trans s4).trans gq
 generalize upd H4 q (.lst (qs.map V.int))=H5 at gq hq r5 s05 s15⊢
 have nd:qs.Nodup:=pm.nodup_iff.mpr (Zir _)
 have ql:qs.length=T'.length:=by have:=pm.length_eq;unfold nats at this;simpa using this
 obtain⟨ys,hys,hyl,hyp⟩:=Y1
 have nyd:y≠d:=λz=>by rw[z,zd]at hys;cases hys
 refine⟨⟨_,SqL.of hq⟩,?_⟩
 refine Zla (xs:=qs.map V.int) (λk σ Hx=>∃(v6 v7 v8:Option V) (kvs:List (Key×V)) (f:Nat->Option Nat),σ=[some (.ref t),some (.ref x),some (.ref l),some (.int (i:Int)),some (.ref y),some (.ref d),v6,v7,v8]/\Hx d=some (.dK kvs)/\kvs.length<=2*k+1/\ChD kvs f/\ChS T' ts tab i (qs.take k) f/\Exc d H5 Hx) ⟨none,none,none,_,λu=>if T'.idxOf (-1)=u then some i else none,rfl,r5,by simp,λv=>?_,?_,(Ze.refl H5).Zfm⟩ (λk σ Hx _ ⟨_,_,_,_,_,_,_,_,_,_,e⟩=>SqL.of (e _ _ nqd hq)) ?_ ?_
 ·by_cases z:T'.idxOf (-1)=v
  ·subst z;rw[Zaa rfl];simp
  ·rw[Zab (λq=>z (by have:(((T'.idxOf (-1)):Nat):Int)=v:=Sum.inl.inj q;omega)),Zqt];simp[z]
 ·refine⟨by simp,λv j z=>?_,λv z=>?_,λv z=>absurd z (by simp)⟩
  ·dsimp only at z
   split at z
   ·rename_i w;cases z;subst w
    exact⟨htl,hi,hsome⟩
   ·cases z
  ·by_cases w:T'.idxOf (-1)=v
   ·exact .inl w.symm
   ·dsimp only at z;rw[Yb w]at z;exact absurd rfl z
 ·rintro k w σ Hx hw ⟨v6,v7,v8,kvs,f,rfl,hdx,hkl,hD,hS,ex⟩
  have hk:k<qs.length:=by have:=(Ym.mp hw).1;simpa using this
  rw[YD,Ye hk]at hw
  cases hw
  obtain⟨v,hvT,ev⟩:∃v:Nat,v<T'.length/\qs[k]=(v:Int):=by
   obtain⟨v,hv,e⟩:=YN.mp (pm.mem_iff.mp (YL hk))
   exact⟨v,by have:=Yy.mp hv;omega,e.symm⟩
  rw[ev]
  have hpk:qs[k]?=some (v:Int):=Ym.mpr ⟨hk,ev⟩
  have hv0:(v:Int)∉qs.take k:=λz=>by
   obtain⟨m,hm,em⟩:=List.mem_take_iff_getElem.mp z
   have:=(List.getElem_inj nd (h₀:=by omega) (h₁:=hk)).mp (em.trans ev.symm)
   omega
  have htk:qs.take (k+1)=qs.take k++[(v:Int)]:=by rw[Jb,hpk];rfl
  rw[htk]
  obtain⟨j,ej⟩:∃j,f v=some j:=by
   rcases ZbN hT (p:=v) (by omega)with z|⟨u,z,hu,_⟩
   ·have:v=T'.idxOf (-1):=Zra hT hvT htl z ht2
    exact⟨i,by rw[this];exact hS.1⟩
   ·obtain⟨ju,_,h2⟩:=hS.2.2.2 u ((ZlZ hT pm pw hvT (by omega) z).1 hpk)
    obtain⟨jc,g,_⟩:=h2 v hvT z
    exact⟨jc,g⟩
  have hj:=hS.2.1 v j ej
  obtain⟨a,ea⟩:∃a,ys[v]?=some a:=⟨_,Ye (by omega)⟩
  obtain⟨ah,bh,hA,hB,ha⟩:=hyp v a ea
  have nad:a≠d:=λz=>by rw[z,zd]at ha;cases ha
  have hyx:=ex _ _ nyd (s15 _ _ hys)
  have hax:=ex _ _ nad (s15 _ _ ha)
  have s0x:Ze H Hx:=s05.exc zd0 ex
  have TBx:=TB.same s0x
  have hcl:∀c,c<T'.length->(tab.getD c []).length=ts.length:=λc h=>(hTab.2 c h).1
  obtain⟨a0,b0,hF,hL,hE⟩:ZcK ts tab j ah bh ((tab.getD v []).getD j none):=by
   obtain⟨ah',bh',A',B',h⟩:=(hTab.2 v hvT).2 j hj.2.1
   rw[Zit hG hvT hA A',Zhh hG hB B'];exact h
  have hsm:=hj.2.2
  rw[hE]at hsm
  have getA:∀c r,ah=some c->Zim ts (tab.getD c []) j r->∃jc,r=some jc:=λc r z hr=>by
   subst z
   cases r with
   |some jc=>exact⟨jc,rfl⟩
   |none =>
    cases a0 with
    |none=>simp[Zm7]at hsm
    |some m=>obtain⟨⟨j',h,_⟩,_⟩:=hF;exact absurd h (hr j')
  have getB:∀c r,bh=some c->Zj0 ts (tab.getD c []) j r->∃jc,r=some jc:=λc r z hr=>by
   subst z
   cases r with
   |some jc=>exact⟨jc,rfl⟩
   |none =>
    cases b0 with
    |none=>cases a0<;>simp[Zm7]at hsm
    |some m=>obtain⟨⟨j',h,_⟩,_⟩:=hL;exact absurd h (hr j')
  have tail:∀(Hy:Hp) (kvs':List (Key×V)) (ja:Nat),Hy d=some (.dK kvs')->kvs'.length<=2*k+2->ChD kvs' (chN f ah none ja 0)->Exc d H5 Hy->(∀c,ah=some c->Zim ts (tab.getD c []) j (some ja)) ->
    if ¬ optN bh=V.non then ∃(x4:List V) (x5:Int),optN bh=V.int x5/\SqL K Hy l x4/\∃x6,atI x4 x5=some x6/\∃x7,ZgQ Hy d (V.int (v:Int)) (some x7)/\Zas K mg [V.ref x,x6,x7] Hy (λv3 H1=>∃x8,ZmL H1 d (optN bh) v3 x8/\∃kv,x8 d=some (.dK kv)/\kv.length<=2*(k+1)+1/\∃f2,ChD kv f2/\ChS T' ts tab i (qs.take k++[(v:Int)]) f2/\Exc d H5 x8) E0
    else ∃kv,Hy d=some (.dK kv)/\kv.length<=2*(k+1)+1/\∃f2,ChD kv f2/\ChS T' ts tab i (qs.take k++[(v:Int)]) f2/\Exc d H5 Hy:=by
   intro Hy kvs' ja hdy hky hDy ey bA
   have ejy:chN f ah none ja 0 v=some j:=by
    unfold chN
    rw[Yb (by simp),Yb (λz=>by subst z;exact absurd hA.1 (by omega))]
    exact ej
   cases bh with
   |none=>exact ZC (λc0=>absurd rfl c0) λ_=>⟨kvs',hdy,by omega,_,hDy,hS.next hG ht2 hv0 hvT ej hA hB bA (λc z=>by cases z),ey⟩
   |some c =>
    have s0y:Ze H Hy:=s05.exc zd0 ey
    refine ZC (λ_=>chRow (TB.same s0y) (by rw[hTab.1];exact hB.2.1) hdy hDy ejy λp hp=>?_) λc0=>absurd (λz=>by cases z) c0
    refine⟨x,p,ts,_,j,rfl,s0y.q hx,hp,hcl c hB.2.1,h16,hj.2.1,ZQ.same hT3 s0y,λr H6 s6 hr=>?_⟩
    obtain⟨jb,rfl⟩:=getB c r rfl hr
    refine⟨_,ZmL.k (k:=Zhu (c:Int)) (s6 _ _ hdy) (YF (show _<=200 by omega) (by decide)),_,Zc,Yo (ZbO _ _ _) (by omega),_,?_,hS.next (jb:=jb) hG ht2 hv0 hvT ej hA hB bA (λc' z=>by cases z;exact hr),(ey.trans s6.Zfm).trans Exc.upd⟩
    have:=hDy.put c jb
    refine(show _=chN f ah (some c) ja jb from funext λu=>?_)▸this
    unfold chN
    by_cases z:c=u
    ·subst z;simp
    ·rw[Yb z,Yb (by simp),Yb (λq=>z (YA q))]
  walk_at "rd"
  refine⟨_,SqL.of hyx,V.ref a,ZdK (by rw[YD,ea];rfl),a,rfl,_,SqL.of hax,rfl,_,_,rfl,_,_,rfl,rfl,?_⟩
  cases ah with
  |none=>exact ZC (λc0=>absurd rfl c0) λ_=>tail Hx kvs 0 hdx (by omega) hD ex (λc z=>by cases z)
  |some c =>
   refine ZC (λ_=>chRow TBx (by rw[hTab.1];exact hA.2.1) hdx hD ej λp hp=>?_) λc0=>absurd (λz=>by cases z) c0
   refine⟨x,p,ts,_,j,rfl,s0x.q hx,hp,hcl c hA.2.1,h16,hj.2.1,ZQ.same hT2 s0x,λr H6 s6 hr=>?_⟩
   obtain⟨ja,rfl⟩:=getA c r rfl hr
   refine⟨_,ZmL.k (k:=Zhu (c:Int)) (s6 _ _ hdx) (YF (show _<=200 by omega) (by decide)),tail _ _ ja Zc (Yo (ZbO _ _ _) (by omega)) ?_ ((ex.trans s6.Zfm).trans Exc.upd) (λc' z=>by cases z;exact hr)⟩
   have:=hD.put c ja
   refine(show _=chN f (some c) none ja 0 from funext λu=>?_)▸this
   unfold chN
   by_cases z:c=u
   ·subst z;simp
   ·rw[Yb z,Yb (by simp),Yb (λq=>z (YA q))]
 ·rintro σ Hx ⟨v6,v7,v8,kvs,f,rfl,hdx,hkl,hD,hS,ex⟩
  have sF:Ze H Hx:=s05.exc zd0 ex
  have hall:∀v,v<T'.length->∃j,f v=some j/\∀c,c<T'.length->nth T' c=(v:Int)->∃jc,f c=some jc/\(c<v->Zim ts (tab.getD c []) j (some jc))/\(v<c->Zj0 ts (tab.getD c []) j (some jc)):=λv hv=>hS.2.2.2 v (by
   rw[Yj,List.take_length]
   exact pm.mem_iff.mpr (YN.mpr ⟨v,Yy.mpr (by omega),rfl⟩))
  have hF:∀v j,f v=some j->(f v).getD 0=j:=λv j e=>by rw[e];rfl
  walk_at "rd"
  refine⟨_,.inr (ht.same sF).sq,by omega,by omega,?_⟩
  rw[eL,show((T'.length:Nat):Int).toNat=T'.length by omega]
  refine ZaO (n:=T'.length) (λj acc Hz=>acc=(List.range j).map (λv=>V.int (((f v).getD 0:Nat):Int))/\Ze Hx Hz) (YF (show _<=1000 by omega) (by decide)) ⟨rfl,Ze.refl Hx⟩ (λj acc Hz _ hj=>hj) (λacc Hz _=>Yf _) ?_ ?_
  ·rintro v u acc Hz Hw hv hla ⟨rfl,sz⟩ ⟨rfl,rfl⟩
   rw[show(0:Int)+(v:Int)=((v:Nat):Int) by omega]
   obtain⟨j,ej,_⟩:=hall v hv
   have g:ZgQ Hw d (V.int (v:Int)) (some (V.int (j:Int))):=by
    have:=ZgQ.k (k:=Zhu (v:Int)) (sz _ _ hdx)
    rw[hD v,ej]at this;exact this
   walk_at "rd"
   refine⟨_,g,CA.take hv hla ⟨?_,sz⟩⟩
   rw[Y5,Y4,List.map_singleton,hF v j ej]
  ·rintro r acc Hz ⟨rfl,sz⟩ _ zr
   have gr:=(Ze.refl Hz).upd (o:=.lst ((List.range T'.length).map λv=>V.int (((f v).getD 0:Nat):Int))) zr
   refine k1 r (λv=>(f v).getD 0) _ ((sF.trans sz).free zr) (hF _ _ hS.1) (λv hv=>?_) ((sF.trans sz).trans gr) Zc
   obtain⟨j,ej,hk⟩:=hall v hv
   have:=hS.2.1 v j ej
   dsimp only
   refine⟨by rw[hF v j ej];exact this.2.1,by rw[hF v j ej];exact this.2.2,λc hc e=>?_⟩
   obtain⟨jc,ec,h1,h2⟩:=hk c hc e
   rw[hF v j ej,hF c jc ec]
   exact⟨h1,h2⟩
theorem Zrb (ns:List Int) (lo hi:Option Int):∃ps:List Int,ZiY (ns.map V.int) lo hi=ps.map V.int/\ps.length<=ns.length:=by
 have h:=Zex (ns.map V.int) lo hi
 refine⟨(ns.drop (HT.sIx (ns.map V.int).length 0 lo)).take (HT.sIx (ns.map V.int).length (ns.map V.int).length hi-HT.sIx (ns.map V.int).length 0 lo),?_,?_⟩
 ·unfold ZiY
  rw[<-List.map_drop,<-List.map_take]
 ·rw[YZ,Je];omega
theorem ZkP {f:Addr}{fd:FuncData} (F:Fun K "places_in" "places_in" ZaU f fd) (Zcs:Callee P w K mg base "need_stretch" 2 ["many","a","b"] (ZbV K mg)) (ZR:Callee P w K mg base "tree_of" 2 ["row"] (Zbn K mg)) (Zz:Callee P w K mg base "need_loose" 2 ["row","text"] (Zah K mg)) (Z9:Callee P w K mg base "table_by" 6 ["tree","text"] (ZbQ K mg)) (ZeN:Callee P w K mg base "places_by" 6 ["tree","text","table","i"] (ZdP K mg)) (T:Txt K mg):FnOk P w K mg base (CXE P w) 7 f fd ["row","text","a","b"] (ZdO K mg):=by
 refine F.okX ZaF (λvs H Q E h=>?_) (λcdv A outer s H vs Q E hr h=>?_)
 ·obtain⟨r,x,ns,ts,a,b,rfl,_⟩:=h;rfl
 obtain⟨r,x,ns,ts,a,b,rfl,hRT,⟨hT1,hT2,hT3⟩,k1,k2,k3⟩:=h
 refine⟨_,(Zd (ZbZ (Zi Zz (hr.mono (by decide)) rfl ZdM (Za (pv 0) (Za (pv 1) Zb))))
   (Zd (ZbZ (Zi Zcs (hr.mono (by decide)) rfl ZdM (Za (Zj (Zm (K:=K) rfl) rfl T.b_len YH (Za (pv 1) Zb)) (Za (pv 2) (Za (pv 3) Zb)))))
   (Zd (Zo (i:=4) ZaF.nd rfl (Or.inl rfl) (Zi ZR (hr.mono (by decide)) rfl Zw (Za (pv 0) Zb)))
   (Zd (Zo (i:=5) ZaF.nd rfl (Or.inl rfl) (ZpO (sl_q (K:=K) rfl) (pv 1) (ZnC (pv 2)) (ZnC (ZA ZcV (pv 3) Zg))))
   (Zd (Zo (i:=6) ZaF.nd rfl (Or.inl rfl) (Zi Z9 (hr.mono (by decide)) rfl Zw (Za (pv 4) (Za (pv 5) Zb))))
   (Zd (ZcX (Zeu PassesOwn.never rfl (Ztj (K:=K) rfl rfl T.b_enumerate (Za (Zq Zu (pv 6) (ZkC PySem.F.slot_tuple_index PySem.F.type_tuple_index (Zfc (K:=K) rfl) (pv 4) (Za (Zg8 Zev Zg) Zb)) (λ_ _=>rfl)) Zb)) (ZpB (n:=2) rfl (ZaM (Zn (i:=7) ZaF.nd rfl (Or.inl rfl)) (ZaM (Zn (i:=8) ZaF.nd rfl (Or.inl rfl)) Zf3))) (Zh (ZV (Zk ZcD (pv 8) ZU (Zl _)) (Zh (Zt (Zdt (ZjI (K:=K) rfl) rfl T.b_tuple ZhV (Za (ZbM ["place","a"] [none,some 2] rfl rfl rfl (ZdH (Zi ZeN (hr.mono (by decide)) rfl Zw (Za (pv 4) (Za (pv 5) (Za (pv 6) (Za (pv 7) Zb)))))) (λ_ _ _ _ _=>(Zn (i:=0) (show(["place","a"]:List Str).Nodup from by decide +kernel) rfl (Or.inl rfl))) (λ_ _ _ _ _=>ZaN) (λ_ _ _ _ _=>(ZA ZcV (pv 1) (pv 0))) ZG) Zb)))) ZE))))
   (Zh (Zt ZU)))))))),?_⟩
 have eX:(ts.map V.int).length=ts.length:=Yj ..
 refine ZcZ (fun σ Hx=>σ=[some (.ref r),some (.ref x),some (.int (a:Int)),some (.int (b:Int)),none,none,none,none,none]/\Hx=H/\LOk ns ts) (λR hR=>?_) ?_
 ·walk_at "rd"
  exact⟨r,x,ns,ts,rfl,hRT,λok=>hR _ _ ⟨rfl,rfl,ok⟩,k2⟩
 rintro σ Hx ⟨rfl,rfl,ok⟩
 obtain⟨hr1,hx,n1,n2⟩:=hRT
 obtain⟨h0,h6,h16⟩:=id ok
 refine ZcZ (fun σ H'=>σ=[some (.ref r),some (.ref x),some (.int (a:Int)),some (.int (b:Int)),none,none,none,none,none]/\H'=Hx/\StrIn ts.length a b) (λR hR=>?_) ?_
 ·walk_at "rd"
  refine⟨_,hx,⟨_,a,b,by rw[eX],by omega,by omega,λhst=>hR _ _ ⟨rfl,rfl,hst⟩,k3 ok⟩⟩
 rintro σ H ⟨rfl,rfl,hst⟩
 refine ZcZ (fun σ Hx=>∃(t:Addr) (T':List Int),σ=[some (.ref r),some (.ref x),some (.int (a:Int)),some (.int (b:Int)),some (.ref t),none,none,none,none]/\Zx ns T'/\Ze H Hx/\ZfE Hx t (T'.map V.int)) (λR hR=>?_) ?_
 ·walk_at "rd"
  exact⟨r,ns,rfl,hr1,by omega,λt T' H1 hT s1 ht=>hR _ _ ⟨t,T',rfl,hT,s1,ht⟩⟩
 rintro σ H1 ⟨t,T',rfl,hT,s1,ht⟩
 have eT:=hT.1
 have hG:Zek T':=⟨by omega,ns,hT⟩
 refine ZcZ (fun σ Hx=>∃(p:Addr) (ws:List Int),σ=[some (.ref r),some (.ref x),some (.int (a:Int)),some (.int (b:Int)),some (.ref t),some (.ref p),none,none,none]/\(SqL K Hx p (ws.map V.int)\/SqT K Hx p (ws.map V.int))/\ws.length<=16/\Ze H1 Hx) (λR hR=>?_) ?_
 ·obtain⟨ws,ew,hwl⟩:=Zrb ts (some (a:Int)) (some ((b:Int)+1))
  walk_at "rd"
  refine⟨_,(s1.q hx).elim (λhx1=>.inl ⟨hx1,λp zp=>hR _ _ ⟨p,ws,rfl,.inl (SqL.of (by rw[Zc,ew])),by omega,(Ze.refl H1).upd zp⟩⟩) λhx1=>.inr ⟨hx1,λ_=>hR _ _ ⟨x,ts,rfl,.inr hx1,h16,Ze.refl _⟩,λ_ p zp=>hR _ _ ⟨p,ws,rfl,.inr (SqT.of (by rw[Zc,ew])),by omega,(Ze.refl H1).upd zp⟩⟩⟩
 rintro σ H2 ⟨p,ws,rfl,hw,hw16,s2⟩
 have ht2:=ht.same s2
 have s02:=s1.trans s2
 walk_at "rd"
 refine⟨t,p,T',ws,rfl,ht2.sq,hw,hG,hw16,ZQ.same hT1 s02,ZQ.same hT2 s02,ZQ.same hT3 s02,λl tab H3 zl TB FB hTab s3=>?_⟩
 have ht3:=ht2.same s3
 obtain⟨hm1,htl,hte⟩:=ZkM hT h0
 obtain⟨xs,q,vals,hl,hxa,hq,hvl,hvp⟩:=ZkN TB (i:=T'.idxOf (-1)) (by rw[hTab.1];exact htl)
 have hpl:=(hTab.2 _ htl).1
 refine⟨⟨_,ht3⟩,T',ht3.sq,hm1,l,rfl,xs,SqL.of hl,V.ref q,ZdK hxa,q,rfl,_,SqL.of hq,?_⟩
 refine Zqm (n:=vals.length) (λj σ Hx=>∃v7 v8:Option V,σ=[some (.ref r),some (.ref x),some (.int (a:Int)),some (.int (b:Int)),some (.ref t),some (.ref p),some (.ref l),v7,v8]/\Ze H3 Hx) ⟨none,none,rfl,Ze.refl H3⟩ (λj σ Hx hj ⟨_,_,_,e⟩=>⟨_,_,SqL.of (e _ _ hq),Ye hj⟩) (fun σ Hx ⟨_,_,_,e⟩=>⟨_,SqL.of (e _ _ hq),rfl⟩) ?_ ?_
 ·rintro j y σ Hx Hw hj ⟨v7,v8,rfl,sx⟩ ⟨u,w,zu,rfl,rfl,hy⟩
  have ey:=hy _ (SqL.of (sx _ _ hq))
  rw[Ye hj]at ey
  cases ey
  have hp:=hvp j vals[j] ((tab.getD (T'.idxOf (-1)) [])[j]'(by omega)) (Ye hj) (Ye (by omega))
  have egp:(tab.getD (T'.idxOf (-1)) []).getD j none=(tab.getD (T'.idxOf (-1)) [])[j]'(by omega):=by rw[Yn,Ye (by omega)];rfl
  generalize vals[j]=y at hp⊢
  generalize (tab.getD (T'.idxOf (-1)) [])[j]'(by omega)=pt at hp egp
  walk_at "rd"
  have gp:=(Ze.refl Hx).upd (o:=.tup [V.int (j:Int),y]) zu
  have hu:=Zc (H:=Hx) (a:=u) (o:=.tup [V.int (j:Int),y])
  generalize upd Hx u (.tup [V.int (j:Int),y])=H4 at gp hu⊢
  have s4:=s3.trans (sx.trans gp)
  refine⟨_,SqT.of hu,rfl,_,_,rfl,_,_,rfl,rfl,ZC (λc0=>?_) λc0=>sx.trans gp⟩
  cases pt with
  |none=>exact absurd hp c0
  |some e =>
   have sx4:=sx.trans gp
   have s04:=s02.trans s4
   refine⟨t,p,l,T',ws,tab,j,rfl,ht3.same sx4,s4.q hw,TB.same sx4,hG,hTab,hw16,by omega,by rw[egp];rfl,ZQ.same hT1 s04,ZQ.same hT2 s04,ZQ.same hT3 s04,λr2 f H5 zr2 _ _ s5 hr2=>⟨r2,rfl,⟨_,SqL.of hr2⟩,?_⟩⟩
   refine comp_map (n:=T'.length) (λv=>V.int ((a:Int)+(f v:Int))) (YF (show _<=1000 by omega) (by decide)) (λv Hz s hv=>⟨_,_,SqL.of (s _ _ hr2),Ye (by simpa using hv)⟩) (λHz s=>⟨_,SqL.of (s _ _ hr2),by simp⟩) ?_ ?_
   ·rintro v y2 Hz Hw2 hv s ⟨rfl,hy2⟩
    have:=hy2 _ (SqL.of (s _ _ hr2))
    rw[YD,List.getElem?_range hv]at this
    cases this
    walk_at "rd"
    exact CW.next hv rfl s
   ·intro lz Hz sz zlz
    exact⟨lz,rfl,_,.inl ⟨SqL.of Zc,λc zc=>k1 ok hst (.ref c) _ (((s04.trans s5).trans sz).trans (((Ze.refl Hz).upd zlz).trans ((Ze.refl _).upd zc))) (.inr ⟨c,_,rfl,Zc⟩)⟩⟩
 ·rintro σ Hx ⟨v7,v8,rfl,sx⟩
  walk_at "rd"
  exact k1 ok hst .non _ (s02.trans (s3.trans sx)) (.inl rfl)
theorem Zbo.same {K:PySem.W.Frag}{mg:Str->Option Value}{H H':Hp}{a:Ha}{T ts:List Int} (h:Zbo K mg H a T ts) (s:Ze H H'):Zbo K mg H' a T ts:=by
 obtain⟨dx,fs,kvs,h1,h2,h3,⟨as,y1,y2,y3⟩,h5,h6,h7⟩:=h
 exact⟨dx,fs,kvs,s _ _ h1,h2,h3.same s,⟨as,s _ _ y1,y2,λv a e=>let ⟨ah,bh,p1,p2,p3⟩:=y3 v a e;⟨ah,bh,p1,p2,s _ _ p3⟩⟩,h5.elim (λe=>.inl (s _ _ e)) (λe=>.inr (s _ _ e)),s _ _ h6,h7⟩
theorem ZgY {K:PySem.W.Frag}{H:Hp}{a:Addr}{xs:List V} (h:H a=some (.lst xs)\/H a=some (.tup xs)):SqL K H a xs\/SqT K H a xs:=h.elim (λe=>.inl (SqL.of e)) λe=>.inr (SqT.of e)
theorem Zj5 {p:Addr}{H H1 H2:Hp} (a:Exc p H H1) (b:Exc p H1 H2):Exc p H H2:=λd o n z=>b d o n (a d o n z)
theorem Zhz {f:Addr}{fd:FuncData} (F:Fun K "fits" "Holding.fits" Z0 f fd) (T:Txt K mg):FnOk P w K mg base (CXE P w) 1 f fd ["self","v","a","b","i"] (ZbW K mg):=by
 refine F.okX Zen (λvs H Q E h=>?_) (λcdv A outer s H vs Q E hr h=>?_)
 ·obtain⟨h,T,ts,v,a,c,i,rfl,_⟩:=h;rfl
 obtain⟨h,T',ts,v,a,c,i,rfl,hH,hG,hv,hai,hic,hc,he,k1⟩:=h
 refine⟨_,(Zd (Zo (i:=5) Zen.nd rfl (Or.inl rfl) (Zq ZaR (ZaZ (K:=K) rfl T.cl_Holding T.n_Holding_tree (pv 0)) (pv 1) (λ_ _=>rfl)))
   (Zd (ZV (Zk Zg9 (pv 5) (Zg8 Zev Zg) (Zl _)) (Zh (Zt Zjx)) ZE)
   (Zh (Zt (Zk7 (Zk Zf4 (pv 5) (pv 1) (Zl _)) (ZdI ZjA (Zq (Zhs (K:=K) rfl) (ZaZ (K:=K) rfl T.cl_Holding T.n_Holding_text (pv 0)) (pv 4) (λ_ _=>rfl)) (Zq (Zhs (K:=K) rfl) (ZaZ (K:=K) rfl T.cl_Holding T.n_Holding_text (pv 0)) (ZA ZgC (pv 2) Zg) (λ_ _=>rfl)) (Zl _)) (ZdI Zej (Zq (Zhs (K:=K) rfl) (ZaZ (K:=K) rfl T.cl_Holding T.n_Holding_text (pv 0)) (pv 4) (λ_ _=>rfl)) (Zq (Zhs (K:=K) rfl) (ZaZ (K:=K) rfl T.cl_Holding T.n_Holding_text (pv 0)) (ZA ZcV (pv 3) Zg) (λ_ _=>rfl)) (Zl _))))))),?_⟩
 obtain⟨dx,fs,kvs,h1,⟨f1,f2,f3,f4,f5,f6,f7⟩,h3,h4,h5,h6,h7⟩:=hH
 have hts:=ZgY (K:=K) h5
 obtain⟨_,ns,hT⟩:=id hG
 have eN:=hT.1
 unfold ZfJ at k1
 walk_at "rd"
 refine⟨dx,fs,h1,_,f2,_,rfl,_,h3.sq,_,Zbe hv,rfl,ZC (λz=>?_) λz=>⟨_,rfl,ZC (λz2=>?_) λz2=>?_⟩⟩
 ·rw[Yd (V.int.inj z)]at k1;exact k1
 ·have z':nth T' v≠-1:=λy=>z (by rw[y])
  rcases ZbN hT (p:=v) (by omega)with y|⟨e,y,hel,_,_⟩
  ·exact absurd y z'
  rw[Yb z',Yd z2]at k1
  have ha:=((he e y).1 (by omega))
  refine⟨dx,fs,h1,_,f1,_,rfl,_,hts,_,Zbe (by omega),dx,fs,h1,_,f1,_,rfl,_,hts,V.int (nth ts (a-1)),?_,_,rfl,_,rfl,k1⟩
  rw[show((a:Int)-1)=((a-1:Nat):Int) by omega]
  exact Zbe (by omega)
 ·have z':nth T' v≠-1:=λy=>z (by rw[y])
  rcases ZbN hT (p:=v) (by omega)with y|⟨e,y,hel,_,_⟩
  ·exact absurd y z'
  rw[Yb z',Yb z2]at k1
  have hev:v<=e:=by omega
  have hc2:c<ts.length:=by
   rcases Nat.eq_or_lt_of_le hev with w|w
   ·exfalso
    have h3:=ZtB hT (by omega) (w▸y)
    exact h3
   ·exact(he e y).2 w
  refine⟨dx,fs,h1,_,f1,_,rfl,_,hts,_,Zbe (by omega),dx,fs,h1,_,f1,_,rfl,_,hts,V.int (nth ts c),?_,_,rfl,_,rfl,k1⟩
  rw[show((c:Int)-1+1)=((c:Nat):Int) by omega]
  exact Zbe hc2
theorem Zgd {α:Type} (g:α->Nat):∀I:List α,(I.map λi=>((g i:Nat):Int)).sum=(((I.map g).sum:Nat):Int)
 |[]=>rfl
 |x::I=>by simp only[YC,List.sum_cons,Zgd g I];omega
theorem Zrc {v a c v' a' c':Nat} (h:ZeI v a c=ZeI v' a' c'):v=v'/\a=a'/\c=c':=by
 unfold ZeI at h
 simp only[List.cons.injEq,Sum.inl.injEq,and_true]at h
 omega
theorem Zl1 {kvs:List (List Key×V)}{k:List Key}{v:V}:(putK kvs k v).map (·.1)=if (ZaX kvs k).isSome=true then kvs.map (·.1)else kvs.map (·.1)++[k]:=by
 unfold putK
 rw[Zcl]
 by_cases h:(ZaX kvs k).isSome=true
 ·rw[Yd h,Yd h,Y7]
  refine List.map_congr_left λx _=>?_
  show(if x.1=k then (x.1,v)else x).1=x.1
  split<;>rfl
 ·rw[Yb h,Yb h,Y4];rfl
theorem Znb.put {kvs:List (List Key×V)}{T ts:List Int} (h:Znb kvs T ts) {v a c:Nat} (hv:v<T.length) (ha:a<=ts.length+1) (hc:c<=ts.length):Znb (putK kvs (ZeI v a c) (.int (waC T ts (some v) a c:Nat))) T ts:=by
 obtain⟨h1,h2,h3⟩:=h
 have hk:ZeI v a c∈allK T.length ts.length:=by
  unfold allK
  simp only[List.mem_flatMap,YN,Yy]
  exact⟨v,hv,a,by omega,c,by omega,rfl⟩
 refine⟨?_,?_,λv' a' c' w e=>?_⟩
 ·cases e:ZaX kvs (ZeI v a c)with
  |none=>exact Ztq _ h1 e
  |some w=>rw[Zl1,e];exact h1
 ·intro k hkm
  rw[Zl1]at hkm
  split at hkm
  ·exact h2 k hkm
  ·rcases YE.mp hkm with z|z
   ·exact h2 k z
   ·rw[Y6.mp z];exact hk
 ·rw[Zh6]at e
  by_cases z:ZeI v' a' c'=ZeI v a c
  ·rw[Yd z]at e
   cases e
   obtain⟨rfl,rfl,rfl⟩:=Zrc z
   rfl
  ·rw[Yb z]at e
   exact h3 v' a' c' w e
theorem Znb.few {kvs:List (List Key×V)}{T ts:List Int} (h:Znb kvs T ts) (hl:T.length<=6) (hlt:ts.length<=16):kvs.length<sizeLine:=by
 have h1:=h.1.length_le_of_subset (l₂:=allK T.length ts.length) λk hk=>h.2.1 k hk
 have h2:∀n,n<7->∀N,N<17->(allK n N).length<=2000:=by decide +kernel
 have:=h2 T.length (by omega) ts.length (by omega)
 rw[Yj]at h1
 exact YF (show _<=2000 by omega) (by decide)
theorem Zbo.put {K:PySem.W.Frag}{mg:Str->Option Value}{H:Hp}{h:Ha}{T ts:List Int}{kvs:List (List Key×V)} (hH:Zbo K mg H h T ts) (hk:H h.kn=some (.dT kvs)) (hn:Znb kvs T ts) {v a c:Nat} (hv:v<T.length) (ha:a<=ts.length+1) (hc:c<=ts.length):Zbo K mg (upd H h.kn (.dT (putK kvs (ZeI v a c) (.int (waC T ts (some v) a c:Nat))))) h T ts:=by
 obtain⟨dx,fs,kvs',h1,h2,⟨ob,o1,o2⟩,⟨as,y1,y2,y3⟩,h5,h6,h7⟩:=hH
 have nl:∀{b:Addr}{xs:List V},H b=some (.lst xs)->b≠h.kn:=λ{b xs} e z=>by rw[z,hk]at e;cases e
 refine⟨dx,fs,_,by rw[Zf (λz=>by rw[z,hk]at h1;cases h1)];exact h1,h2,⟨ob,o1,by rw[Zf (λz=>by rw[z,hk]at o2;cases o2)];exact o2⟩,⟨as,by rw[Zf (nl y1)];exact y1,y2,λv a e=>let ⟨ah,bh,p1,p2,p3⟩:=y3 v a e;⟨ah,bh,p1,p2,by rw[Zf (nl p3)];exact p3⟩⟩,?_,Zc,hn.put hv ha hc⟩
 rcases h5 with e|e
 ·exact .inl (by rw[Zf (nl e)];exact e)
 ·exact .inr (by rw[Zf (λz=>by rw[z,hk]at e;cases e)];exact e)
noncomputable def bB:Nat->Nat
 |0=>1
 |h+1=>16*(bB h*bB h)
theorem sum_bound {α:Type} (f:α->Nat) (B:Nat):∀L:List α,(∀x∈L,f x<=B)->(L.map f).sum<=L.length*B
 |[],_=>by simp
 |x::L,h=>by
  have:=sum_bound f B L λy hy=>h y (Yq _ hy)
  have h1:=h x (Ys ..)
  rw[YC,List.sum_cons,Yw,Nat.add_mul]
  omega
theorem Znf:∀h,1<=bB h
 |0=>Yf _
 |h+1=>by
  have:=Znf h
  have h2:=Nat.mul_le_mul this this
  show 1<=16*(bB h*bB h)
  omega
theorem ZgZ {T:List Int}{tx:Nat->Int}:∀h o a c,c<=a+16->(ZfK T tx h o a c).length<=bB h
 |0,o,a,c,_=>by simp[ZfK]
 |h+1,none,a,c,_=>Znf (h+1)
 |h+1,some v,a,c,hc=>by
  rw[Zoj]
  refine Yo (sum_bound _ (bB h*bB h) _ λi hi=>?_) ?_
  ·have:=List.mem_range'_1.mp (YV.mp hi).1
   exact Nat.mul_le_mul (ZgZ h _ a i (by omega)) (ZgZ h _ (i+1) c (by omega))
  ·refine Nat.mul_le_mul_right _ ?_
   have:=Jf (ZfJ T tx v a c) (List.range' a (c-a))
   rw[List.length_range']at this
   omega
theorem Zl2 {T ts:List Int}{o:Option Nat}{a c:Nat} (hl:T.length<=6) (hc:c<=a+16):waC T ts o a c<2 ^ 100000:=by
 have h7:∀h,h<8->bB h<2 ^ 1000:=by decide +kernel
 refine Yv (YF ?_ (h7 (T.length+1) (by omega))) (Nat.pow_le_pow_right (by decide) (by decide))
 cases o with
 |none=>exact Znf _
 |some v=>exact ZgZ _ _ _ _ hc
theorem ZfM {f:Addr}{fd:FuncData}{n:Nat} (F:Fun K "ways_at" "Holding.ways_at" ZL f fd) (GM_Holding_ways:ZcI P w K mg base "Holding" "ways" (2+n) ["self","v","a","b"] (Zan n K mg)) (T:Txt K mg):FnOk P w K mg base (CXE P w) (2+n+1) f fd ["self","v","a","b","i"] (Zat (n+1) K mg):=by
 refine F.okX Z7 (λvs H Q E h=>?_) (λcdv A outer s H vs Q E hr h=>?_)
 ·obtain⟨h,T,ts,v,a,c,i,rfl,_⟩:=h;rfl
 obtain⟨h,T',ts,v,a,c,i,rfl,hH,hG,hl,hlt,hai,hic,hc,hv,hn,k1⟩:=h
 refine⟨_,(Zd (Zet (Zq Zu (ZaZ (K:=K) rfl T.cl_Holding T.n_Holding_young (pv 0)) (pv 1) (λ_ _=>rfl)) (ZmX (K:=K) rfl (n:=2) rfl (ZaM (Zn (i:=5) Z7.nd rfl (Or.inl rfl)) (ZaM (Zn (i:=6) Z7.nd rfl (Or.inl rfl)) Zf3))))
   (Zh (Zt (ZA ZcH (ZeD (mg:=mg) rfl GM_Holding_ways (hr.mono (by omega)) Zw (pv 0) (Za (pv 5) (Za (pv 2) (Za (ZA ZgC (pv 4) Zg) Zb)))) (ZeD (mg:=mg) rfl GM_Holding_ways (hr.mono (by omega)) Zw (pv 0) (Za (pv 6) (Za (ZA ZcV (pv 4) Zg) (Za (pv 3) Zb)))))))),?_⟩
 obtain⟨dx,fs,kvs,h1,⟨f1,f2,f3,f4,f5,f6,f7⟩,h3,h4,h5,h6,h7⟩:=id hH
 obtain⟨_,ns,hT⟩:=id hG
 have eN:=hT.1
 have hw:=Zna hT hv
 obtain⟨as,y1,y2,y3⟩:=id h4
 obtain⟨b,hb⟩:∃b,as[v]?=some b:=⟨_,Ye (by omega)⟩
 obtain⟨ah,bh,hA,hB,hab⟩:=y3 v b hb
 obtain rfl:=Zo3 hT hA (Zoh T' v)
 obtain rfl:=Zm9 hT hB (Zoi T' v)
 obtain⟨n,rfl⟩:∃n',n=n'+1:=⟨n-1,by omega⟩
 walk_at "rd"
 refine⟨dx,fs,h1,_,f3,_,rfl,_,SqL.of y1,V.ref b,ZdK (by rw[YD,hb];rfl),b,rfl,_,SqL.of hab,rfl,_,_,rfl,_,_,rfl,rfl,dx,fs,h1,f5,h,T',ts,ZfH T' v,a,i,rfl,hH,hG,hl,hlt,hai,by omega,λq e=>?_,λH1 e1 hH1=>?_⟩
 ·obtain⟨x1,x2,x3⟩:=ZdD e
  exact⟨x2,by rw[Zcj hT (by omega) x3,Yw];omega,λe' he'=>⟨λw=>by omega,λw=>by omega⟩⟩
 obtain⟨dx1,fs1,kvs1,i1,⟨_,_,_,_,j5,_,_⟩,_⟩:=id hH1
 refine⟨dx1,fs1,i1,j5,h,T',ts,ZfI T' v,i+1,c,by simp,hH1,hG,hl,hlt,by omega,hc,λq e=>?_,λH2 e2 hH2=>?_⟩
 ·obtain⟨x1,x2,x3⟩:=ZdE e
  exact⟨x2,by rw[Zcj hT (by omega) x3,Yw];omega,λe' he'=>⟨λw=>by omega,λw=>by omega⟩⟩
 refine⟨_,rfl,_,rfl,mulBig (Zl2 hl (by omega)) (Zl2 hl (by omega)),?_⟩
 have:=k1 H2 (Zj5 e1 e2) hH2
 rw[Int.natCast_mul]at this
 exact this
theorem ZhA {f:Addr}{fd:FuncData}{n:Nat} (F:Fun K "ways" "Holding.ways" ZZ f fd) (GM_Holding_fits:ZcI P w K mg base "Holding" "fits" 1 ["self","v","a","b","i"] (ZbW K mg)) (GM_Holding_ways_at:ZcI P w K mg base "Holding" "ways_at" (2+n) ["self","v","a","b","i"] (Zat n K mg)) (T:Txt K mg):FnOk P w K mg base (CXE P w) (2+n+1) f fd ["self","v","a","b"] (Zan (n+1) K mg):=by
 refine F.okX ZbX (λvs H Q E h=>?_) (λcdv A outer s H vs Q E hr h=>?_)
 ·obtain⟨h,T,ts,o,a,c,rfl,_⟩:=h;rfl
 obtain⟨h,T',ts,o,a,c,rfl,hH,hG,hl,hlt,hac,hc,ho,k1⟩:=h
 refine⟨_,(Zd (ZV (Zk Zka (pv 1) ZU (Zl _)) (Zh (Zt Zg)) ZE)
   (Zd (ZV (pt_cmp (ZoM (Zha hr) (Zew (Za (pv 1) (Za (pv 2) (Za (pv 3) Zb)))) (ZaZ (K:=K) rfl T.cl_Holding T.n_Holding_known (pv 0)))) (Zd (Zdx (i:=4) ["i","v","a","b","self"] [none,some 1,some 2,some 3,some 0] ZbX.nd rfl (Or.inl rfl) rfl rfl rfl (Zjz rfl T.b_range (Za (pv 2) (Za (ZA ZcV (pv 3) Zg) Zb))) (λ_ _ _ _ _=>(Zn (i:=0) (show(["i","v","a","b","self"]:List Str).Nodup from by decide +kernel) rfl (Or.inl rfl))) (λ_ _ _ _ _=>Zez (ZfA (ZeD (mg:=mg) rfl GM_Holding_fits (hr.mono (by omega)) Zw (pv 4) (Za (pv 1) (Za (pv 2) (Za (pv 3) (Za (pv 0) Zb))))))) (λ_ _ _ _ _=>(pv 0)) ZG)
   (Zh (Zkv (Zha hr) (ZaZ (K:=K) rfl T.cl_Holding T.n_Holding_known (pv 0)) (Zew (Za (pv 1) (Za (pv 2) (Za (pv 3) Zb)))) (Zj (ZpX rfl) rfl T.b_sum bt_sum (Za (ZbM ["i","v","a","b","self"] [none,some 1,some 2,some 3,some 0] rfl rfl rfl (ZdH (pv 4)) (λ_ _ _ _ _=>(Zn (i:=0) (show(["i","v","a","b","self"]:List Str).Nodup from by decide +kernel) rfl (Or.inl rfl))) (λ_ _ _ _ _=>ZaN) (λ_ _ _ _ _=>(ZeD (mg:=mg) rfl GM_Holding_ways_at (hr.mono (by omega)) Zw (pv 4) (Za (pv 1) (Za (pv 2) (Za (pv 3) (Za (pv 0) Zb)))))) ZG) Zb)) rfl))) ZE)
   (Zh (Zt (ZhK (Zha hr) (ZaZ (K:=K) rfl T.cl_Holding T.n_Holding_known (pv 0)) (Zew (Za (pv 1) (Za (pv 2) (Za (pv 3) Zb)))) (λ_ _=>rfl)))))),?_⟩
 obtain⟨_,ns,hT⟩:=id hG
 have eN:=hT.1
 cases o with
 |none =>
  walk_at "rd"
  exact ZC (λ_=>k1 H (λ_ _ _ z=>z) hH) λz=>absurd rfl z
 |some v =>
  obtain⟨hv,hn,hel⟩:=ho v rfl
  have hw:=Zna hT hv
  obtain⟨n,rfl⟩:∃n',n=n'+1:=⟨n-1,by omega⟩
  obtain⟨dx,fs,kvs,h1,⟨f1,f2,f3,f4,f5,f6,f7⟩,h3,h4,h5,h6,h7⟩:=id hH
  walk_at "rd"
  refine ZC (λz=>nomatch z) λ_=>⟨by decide,λp hp=>?_⟩
  have g:=(Ze.refl H).upd (o:=.tup [optN (some v),V.int a,V.int ((c:Int)-1)]) hp
  have hpv:=Zc (H:=H) (a:=p) (o:=.tup [optN (some v),V.int a,V.int ((c:Int)-1)])
  refine⟨dx,fs,g _ _ h1,_,f4,_,rfl,_,.inr ⟨kvs,ZeI v a c,p,.inl (g _ _ h6),rfl,hpv,rfl⟩,ZC (λz=>?_) λz=>?_⟩
  ·refine⟨by omega,by omega,by omega,by omega,?_⟩
   rw[show((c:Int)-1+1-(a:Int)).toNat=c-a by omega]
   have hH0:=hH.same g
   generalize upd H p (.tup [optN (some v),V.int a,V.int ((c:Int)-1)])=H0 at g hH0 hpv⊢
   refine ZgM (n:=c-a) (λj=>ZfJ T' (nth ts) v a c (a+j)) (λj=>V.int ((a+j:Nat):Int)) (YF (show _<=16 by omega) (by decide)) (λj Hx s hj=>hj) (λHx s=>Yf _) ?_ ?_
   ·rintro j x Hx Hy hj s ⟨rfl,rfl⟩
    rw[show((a:Int)+(j:Int))=((a+j:Nat):Int) by omega]
    have hHy:=hH0.same s
    obtain⟨dx1,fs1,kvs1,i1,⟨_,_,_,_,_,j6,_⟩,_⟩:=id hHy
    walk_at "rd"
    refine⟨dx1,fs1,i1,j6,h,T',ts,v,a,c,a+j,rfl,hHy,hG,hv,by omega,by omega,hc,hel,_,rfl,ZC (λz=>CF.take hj z rfl s) λz=>CF.skip hj (by simpa using z) s⟩
   ·intro fl H1 s1 zfl
    have eI:((List.range (c-a)).filter λj=>ZfJ T' (nth ts) v a c (a+j)).map (λj=>V.int ((a+j:Nat):Int))=((List.range' a (c-a)).filter (ZfJ T' (nth ts) v a c)).map (λi=>V.int ((i:Nat):Int)):=by
     rw[List.range'_eq_map_range,List.filter_map,Y7];rfl
    rw[eI]
    have gf:=s1.Zch (o:=.lst (((List.range' a (c-a)).filter (ZfJ T' (nth ts) v a c)).map (λi=>V.int ((i:Nat):Int)))) zfl
    have hfl:=Zc (H:=H1) (a:=fl) (o:=.lst (((List.range' a (c-a)).filter (ZfJ T' (nth ts) v a c)).map (λi=>V.int ((i:Nat):Int))))
    generalize upd H1 fl (.lst (((List.range' a (c-a)).filter (ZfJ T' (nth ts) v a c)).map (λi=>V.int ((i:Nat):Int))))=H2 at gf hfl
    have hH2:=hH0.same gf
    have hIm:∀i∈(List.range' a (c-a)).filter (ZfJ T' (nth ts) v a c),a<=i/\i<c:=λi hi=>by
     have:=List.mem_range'_1.mp (YV.mp hi).1;omega
    have hIl:((List.range' a (c-a)).filter (ZfJ T' (nth ts) v a c)).length<=16:=Yo (Jf _ _) (by rw[List.length_range'];omega)
    have hwa:waC T' ts (some v) a c=(((List.range' a (c-a)).filter (ZfJ T' (nth ts) v a c)).map λi=>waC T' ts (ZfH T' v) a i*waC T' ts (ZfI T' v) (i+1) c).sum:=by
     show(ZfK T' (nth ts) (T'.length+1) (some v) a c).length=_
     rw[Zoj]
     congr 1
     refine List.map_congr_left λi _=>?_
     have kw:∀(o:Option Nat),(∀q,o=some q->nth T' q=v/\q<T'.length)->∀a c,(ZfK T' (nth ts) T'.length o a c).length=waC T' ts o a c:=λo ho a c=>by
      cases o with
      |none =>
       obtain⟨k,hk⟩:∃k,T'.length=k+1:=⟨T'.length-1,by omega⟩
       rw[hk];rfl
      |some q =>
       obtain⟨x1,x2⟩:=ho q rfl
       show _=(ZfK T' (nth ts) (T'.length+1) (some q) a c).length
       rw[Zq7 hT (nth ts) T'.length q x2 (by rw[Zcj hT (by omega) x1,Yw];omega)]
     rw[kw _ (λq e=>⟨(ZdD e).2.2,(ZdD e).2.1⟩),kw _ (λq e=>⟨(ZdE e).2.2,(ZdE e).2.1⟩)]
    generalize (List.range' a (c-a)).filter (ZfJ T' (nth ts) v a c)=I at hfl hIm hIl hwa
    refine⟨fl,rfl,⟨_,SqL.of hfl⟩,?_⟩
    have nfk:fl≠h.kn:=λz=>by
     obtain⟨_,_,_,_,_,_,_,_,k6,_⟩:=hH2
     rw[z,k6]at hfl;cases hfl
    refine ZaO (n:=I.length) (λk acc Hz=>acc=((I.take k).map λi=>V.int ((waC T' ts (ZfH T' v) a i*waC T' ts (ZfI T' v) (i+1) c:Nat):Int))/\Zbo K mg Hz h T' ts/\Exc h.kn H2 Hz) (YF hIl (by decide)) ⟨by simp,hH2,λ_ _ _ z=>z⟩ (λk acc Hz ⟨_,_,ez⟩ hk=>⟨_,_,SqL.of (ez _ _ nfk hfl),Ye (by rw[Yj];exact hk)⟩) (λacc Hz ⟨_,_,ez⟩=>⟨_,SqL.of (ez _ _ nfk hfl),by rw[Yj];exact Yf _⟩) ?_ ?_
    ·rintro k x acc Hz Hw hk hla ⟨rfl,hHz,ez⟩ ⟨rfl,hx⟩
     have ex:=hx _ (SqL.of (ez _ _ nfk hfl))
     rw[YD,Ye hk]at ex
     cases ex
     obtain⟨dx1,fs1,kvs1,i1,⟨_,_,_,_,_,_,j7⟩,_⟩:=id hHz
     have hi:=hIm _ (YL hk)
     walk_at "rd"
     refine⟨dx1,fs1,i1,j7,h,T',ts,v,a,c,I[k],rfl,hHz,hG,hl,hlt,hi.1,hi.2,hc,hv,by omega,λH3 e3 hH3=>CA.take hk hla ⟨?_,hH3,Zj5 ez e3⟩⟩
     have et:I.take (k+1)=I.take k++[I[k]]:=by rw[Jb,Ye hk];rfl
     rw[et,Y4];rfl
    ·rintro lr acc Hz ⟨rfl,hHz,ez⟩ _ hlr
     rw[List.take_length]
     have gl:=(Ze.refl Hz).upd (o:=.lst (I.map λi=>V.int ((waC T' ts (ZfH T' v) a i*waC T' ts (ZfI T' v) (i+1) c:Nat):Int))) hlr
     have hHl:=hHz.same gl
     have hlv:=Zc (H:=Hz) (a:=lr) (o:=.lst (I.map λi=>V.int ((waC T' ts (ZfH T' v) a i*waC T' ts (ZfI T' v) (i+1) c:Nat):Int)))
     generalize upd Hz lr (.lst (I.map λi=>V.int ((waC T' ts (ZfH T' v) a i*waC T' ts (ZfI T' v) (i+1) c:Nat):Int)))=H4 at gl hHl hlv⊢
     obtain⟨dx4,fs4,kvs4,i1,i2,i3,i4,i5,i6,i7⟩:=id hHl
     obtain⟨j1,j2,j3,j4,j5,j6,j7⟩:=id i2
     refine⟨lr,rfl,I.map (λi=>((waC T' ts (ZfH T' v) a i*waC T' ts (ZfI T' v) (i+1) c:Nat):Int)),SqL.of (by rw[hlv,Y7];rfl),dx4,fs4,i1,_,j4,by decide,λp2 hp2=>?_⟩
     have esum:(I.map λi=>((waC T' ts (ZfH T' v) a i*waC T' ts (ZfI T' v) (i+1) c:Nat):Int)).sum=((waC T' ts (some v) a c:Nat):Int):=by
      rw[hwa,Zgd]
     rw[esum]
     have g5:=(Ze.refl H4).upd (o:=.tup [optN (some v),V.int a,V.int ((c:Int)-1)]) hp2
     have hp2v:=Zc (H:=H4) (a:=p2) (o:=.tup [optN (some v),V.int a,V.int ((c:Int)-1)])
     have hH5:=hHl.same g5
     have k5:=g5 _ _ i6
     have x5:=g5 _ _ i1
     generalize upd H4 p2 (.tup [optN (some v),V.int a,V.int ((c:Int)-1)])=H5 at g5 hp2v hH5 k5 x5⊢
     have hH6:=hH5.put k5 i7 hv (a:=a) (c:=c) (by omega) hc
     have nx:h.x≠h.kn:=λz=>by rw[z,k5]at x5;cases x5
     refine⟨_,rfl,_,.inr ⟨kvs4,ZeI v a c,p2,k5,rfl,hp2v,i7.few hl hlt,rfl⟩,dx4,fs4,by rw[Zf nx];exact x5,_,j4,by decide,λp3 hp3=>?_⟩
     have g7:=(Ze.refl (upd H5 h.kn (.dT (putK kvs4 (ZeI v a c) (.int (waC T' ts (some v) a c:Nat)))))).upd (o:=.tup [optN (some v),V.int a,V.int ((c:Int)-1)]) hp3
     refine⟨_,rfl,_,.inr ⟨_,ZeI v a c,p3,.inl (g7 _ _ Zc),rfl,Zc,by rw[Zh6,Yd rfl]⟩,k1 _ (λb u nn z=>?_) (hH6.same g7)⟩
     refine g7 _ _ ?_
     rw[Zf nn]
     exact g5 _ _ (gl _ _ (ez b u nn (gf _ _ (g _ _ z))))
  ·cases e:ZaX kvs (ZeI v a c)with
   |none=>rw[e]at z;exact absurd rfl z
   |some w =>
    have hw2:=h7.2.2 v a c w e
    subst hw2
    refine⟨dx,fs,g _ _ h1,_,f4,by decide,λp1 hp1=>⟨_,rfl,_,.inr ⟨kvs,ZeI v a c,p1,.inl ((g.Zch hp1) _ _ h6),rfl,Zc,e.symm⟩,k1 _ (λb o n z=>(g.Zch hp1) b o z) (hH.same (g.Zch hp1))⟩⟩
theorem excF {x:Addr}{H H1:Hp}{ho ho1:HO}{b:Addr} (e:Exc x H H1) (hx:H x=some ho) (hx1:H1 x=some ho1) (z:H1 b=none):H b=none:=by
 cases h:H b with
 |none=>rfl
 |some u =>
  by_cases y:b=x
  ·subst y;rw[hx1]at z;cases z
  ·rw[e b u y h]at z;cases z
theorem Zrd {H:Hp}{x C dx y:Addr}{fs:List (Str×V)}{o:HO}{T:List Int} (h:ZcL H y T) (hx:H x=some (.ins C dx fs)):ZcL (upd H x o) y T:=by
 obtain⟨as,h1,h2,h3⟩:=h
 have n2:∀{l:Addr}{xs:List V},H l=some (.lst xs)->l≠x:=λ{l xs} e z=>by rw[z,hx]at e;cases e
 exact⟨as,by rw[Zf (n2 h1)];exact h1,h2,λv a e=>let ⟨ah,bh,p1,p2,p3⟩:=h3 v a e;⟨ah,bh,p1,p2,by rw[Zf (n2 p3)];exact p3⟩⟩
theorem youngS {H H':Hp}{y:Addr}{T:List Int} (h:ZcL H y T) (s:Ze H H'):ZcL H' y T:=by
 obtain⟨as,h1,h2,h3⟩:=h
 exact⟨as,s _ _ h1,h2,λv a e=>let ⟨ah,bh,p1,p2,p3⟩:=h3 v a e;⟨ah,bh,p1,p2,s _ _ p3⟩⟩
theorem Zre {H:Hp}{x C dx t:Addr}{fs:List (Str×V)}{o:HO}{ys:List V} (h:ZfE H t ys) (hx:H x=some (.ins C dx fs)):ZfE (upd H x o) t ys:=by
 obtain⟨ob,o1,o2⟩:=h
 exact⟨ob,o1,by rw[Zf (λz=>by rw[z,hx]at o2;cases o2)];exact o2⟩
theorem Zfk {f:Addr}{fd:FuncData} (F:Fun K "__init__" "Holding.__init__" ZH f fd) (ZR:Callee P w K mg base "tree_of" 2 ["row"] (Zbn K mg)) (Z8:Callee P w K mg base "young_of" 1 ["tree"] (ZbP K mg)) (T:Txt K mg):FnOk P w K mg base (CXE P w) 3 f fd ["self","row","text"] (ZaL K mg):=by
 refine F.okX Zfj (λvs H Q E h=>?_) (λcdv A outer s H vs Q E hr h=>?_)
 ·obtain⟨x,dx,r,tx,ns,ts,rfl,_⟩:=h;rfl
 obtain⟨x,dx,r,tx,ns,ts,rfl,hx,hr0,htx,hl,hrE,k1⟩:=h
 refine⟨_,(Zd (ZhJ (K:=K) rfl T.cl_Holding T.n_Holding_text (pv 0) (pv 2))
   (Zd (ZhJ (K:=K) rfl T.cl_Holding T.n_Holding_tree (pv 0) (Zi ZR (hr.mono (by decide)) rfl Zw (Za (pv 1) Zb)))
   (Zd (ZhJ (K:=K) rfl T.cl_Holding T.n_Holding_young (pv 0) (Zi Z8 (hr.mono (by decide)) rfl Zw (Za (ZaZ (K:=K) rfl T.cl_Holding T.n_Holding_tree (pv 0)) Zb)))
   (Zh (ZhJ (K:=K) rfl T.cl_Holding T.n_Holding_known (pv 0) ZqA))))),?_⟩
 have exU:∀{Hx:Hp}{o:HO},Exc x H Hx->Exc x H (upd Hx x o):=λ{Hx o} e b u n z=>by rw[Zf n];exact e b u n z
 refine ZcZ (fun σ Hx=>σ=[some (.ref x),some (.ref r),some (.ref tx)]/\Hx x=some (.ins (cHo mg) dx (ZbH (Str.ofString "text") (.ref tx) []))/\Exc x H Hx) (λR hR=>?_) ?_
 ·walk_at "rd"
  exact⟨dx,[],hx,by decide,hR _ _ ⟨rfl,Zc,exU λ_ _ _ z=>z⟩⟩
 rintro σ H1 ⟨rfl,f1,e1⟩
 have l1:=ZbJ (Str.ofString "text") (.ref tx) []
 generalize hA:ZbH (Str.ofString "text") (.ref tx) []=fsA at f1 l1
 refine ZcZ (fun σ Hx=>∃t T,σ=[some (.ref x),some (.ref r),some (.ref tx)]/\Zx ns T/\ZfE Hx t (T.map V.int)/\Hx x=some (.ins (cHo mg) dx (ZbH (Str.ofString "tree") (.ref t) fsA))/\Exc x H Hx) (λR hR=>?_) ?_
 ·walk_at "rd"
  exact⟨r,ns,rfl,hrE _ e1,by omega,λt T H2 hT s2 ht=>⟨dx,fsA,s2 _ _ f1,YF l1 (by decide),hR _ _ ⟨t,T,rfl,hT,Zre ht (s2 _ _ f1),Zc,exU λb o n z=>s2 _ _ (e1 b o n z)⟩⟩⟩
 clear f1 e1 H1
 rintro σ H1 ⟨t,T',rfl,hT,ht,f1,e1⟩
 have eN:=hT.1
 have l2:=ZbJ (Str.ofString "tree") (.ref t) fsA
 generalize hB:ZbH (Str.ofString "tree") (.ref t) fsA=fsB at f1 l2
 have t2:fsB.lookup (Str.ofString "tree")=some (.ref t):=by rw[<-hB,ZbI,Yd rfl]
 refine ZcZ (fun σ Hx=>∃y,σ=[some (.ref x),some (.ref r),some (.ref tx)]/\ZfE Hx t (T'.map V.int)/\ZcL Hx y T'/\Hx x=some (.ins (cHo mg) dx (ZbH (Str.ofString "young") (.ref y) fsB))/\Exc x H Hx) (λR hR=>?_) ?_
 ·walk_at "rd"
  exact⟨dx,fsB,f1,_,t2,t,T',rfl,ht.sq,⟨by omega,ns,hT⟩,λy H2 zy hY s2=>⟨dx,fsB,s2 _ _ f1,YF (Yo l2 (Nat.succ_le_succ l1)) (by decide),hR _ _ ⟨y,rfl,Zre (ht.same s2) (s2 _ _ f1),Zrd hY (s2 _ _ f1),Zc,exU λb o n z=>s2 _ _ (e1 b o n z)⟩⟩⟩
 clear f1 e1 ht H1
 rintro σ H1 ⟨y,rfl,ht,hY,f1,e1⟩
 have l3:=ZbJ (Str.ofString "young") (.ref y) fsB
 generalize hC:ZbH (Str.ofString "young") (.ref y) fsB=fsC at f1 l3
 walk_at "rd"
 intro k zk
 have g:=(Ze.refl H1).upd (o:=.dT []) zk
 have nkx:k≠x:=λz=>by rw[z,f1]at zk;cases zk
 refine⟨dx,fsC,g _ _ f1,YF (Yo l3 (Nat.succ_le_succ (Yo l2 (Nat.succ_le_succ l1)))) (by decide),?_⟩
 have e2:Exc x H (upd (upd H1 k (.dT [])) x (.ins (cHo mg) dx (ZbH (Str.ofString "known") (.ref k) fsC))):=exU λb o n z=>g _ _ (e1 b o n z)
 refine k1 ⟨x,t,y,tx,k⟩ T' _ rfl (excF e1 hx f1 zk) e2 hT ⟨dx,_,[],Zc,?_,Zre (ht.same g) (g _ _ f1),Zrd (youngS hY g) (g _ _ f1),?_,by rw[Zf nkx,Zc],List.nodup_nil,(λk hk=>nomatch hk),λv a c w e=>nomatch e⟩
 ·subst hC hB hA
  refine⟨?_,?_,?_,?_,?_,?_,?_⟩<;>(repeat (first|rw[ZbI,Yb (by decide)]|rw[ZbI,Yd rfl]))<;>rfl
 ·have ntx:tx≠x:=λz=>by rcases htx with h|h<;>(rw[z,hx]at h;cases h)
  exact htx.elim (λh=>.inl (e2 _ _ ntx h)) λh=>.inr (e2 _ _ ntx h)
theorem Zjh {f:Addr}{fd:FuncData} (F:Fun K "many_loose" "many_loose" ZaB f fd) (Zz:Callee P w K mg base "need_loose" 2 ["row","text"] (Zah K mg)) (GI_Holding:Zkr P w K mg base "Holding" 3 ["self","row","text"] (ZaL K mg)) (GM_Holding_ways:ZcI P w K mg base "Holding" "ways" 22 ["self","v","a","b"] (Zhv K mg)) (T:Txt K mg):FnOk P w K mg base (CXE P w) 23 f fd ["row","text"] (Zc0 K mg):=by
 refine F.okX Zfp (λvs H Q E h=>?_) (λcdv A outer s H vs Q E hr h=>?_)
 ·obtain⟨r,tx,ns,ts,rfl,_⟩:=h;rfl
 obtain⟨r,tx,ns,ts,rfl,hr0,htx,n1,n2,k1,k2⟩:=h
 refine⟨_,(Zd (ZbZ (Zi Zz (hr.mono (by decide)) rfl ZdM (Za (pv 0) (Za (pv 1) Zb))))
   (Zd (Zo (i:=2) Zfp.nd rfl (Or.inl rfl) (Zqs (mg:=mg) rfl GI_Holding (hr.mono (by decide)) rfl Zw (Za (pv 0) (Za (pv 1) Zb))))
   (Zh (Zt (ZeD (mg:=mg) rfl GM_Holding_ways (hr.mono (by decide)) Zw (pv 2) (Za (ZkC PySem.F.slot_tuple_index PySem.F.type_tuple_index (Zfc (K:=K) rfl) (ZaZ (K:=K) rfl T.cl_Holding T.n_Holding_tree (pv 2)) (Za (Zg8 Zev Zg) Zb)) (Za Zg (Za (ZA ZgC (Zj (Zm (K:=K) rfl) rfl T.b_len YH (Za (pv 1) Zb)) Zg) Zb)))))))),?_⟩
 have eL:(ts.map V.int).length=ts.length:=Yj ..
 walk_at "rd"
 refine⟨r,tx,ns,ts,rfl,⟨ZgY hr0,ZgY htx,n1,n2⟩,λok x dx zx zdx ne=>?_,k2⟩
 obtain⟨h0,hl,hlt⟩:=id ok
 have g:=((Ze.refl H).upd (o:=.own x) zdx).Zch (o:=.ins (cHo mg) dx []) (by rw[Zf (Ne.symm ne)];exact zx)
 have hxv:=Zc (H:=upd H dx (.own x)) (a:=x) (o:=.ins (cHo mg) dx [])
 have hr1:(upd (upd H dx (.own x)) x (.ins (cHo mg) dx [])) r=some (.lst (ns.map V.int))\/(upd (upd H dx (.own x)) x (.ins (cHo mg) dx [])) r=some (.tup (ns.map V.int)):=hr0.elim (λe=>.inl (g _ _ e)) λe=>.inr (g _ _ e)
 have htx1:(upd (upd H dx (.own x)) x (.ins (cHo mg) dx [])) tx=some (.lst (ts.map V.int))\/(upd (upd H dx (.own x)) x (.ins (cHo mg) dx [])) tx=some (.tup (ts.map V.int)):=htx.elim (λe=>.inl (g _ _ e)) λe=>.inr (g _ _ e)
 refine⟨x,dx,r,tx,ns,ts,rfl,hxv,ZgY hr1,htx1,hl,λHx e=>ZgY (hr1.elim (λh=>.inl (e _ _ (λz=>by rw[z,hxv]at h;cases h) h)) λh=>.inr (e _ _ (λz=>by rw[z,hxv]at h;cases h) h)),λa T' H2 ax zkn e2 hT hH=>?_⟩
 subst ax
 have sF:Ze H H2:=λb o z=>e2 b o (Zp z zx) (g b o z)
 have eN:=hT.1
 have hG:Zek T':=⟨by omega,ns,hT⟩
 have hm1:=Zq5 hT _ 0 (by omega) (Yf _)
 have ht:=List.idxOf_lt_length_of_mem hm1
 have ht2:nth T' (T'.idxOf (-1))=-1:=by
  unfold nth
  rw[Yn,Ye ht]
  simp
 obtain⟨dx2,fs,kvs,h1,⟨f1,f2,f3,f4,f5,f6,f7⟩,h3,h4,h5,h6,h7⟩:=id hH
 have htx2:H2 tx=some (.lst (ts.map V.int))\/H2 tx=some (.tup (ts.map V.int)):=htx.elim (λe=>.inl (sF _ _ e)) λe=>.inr (sF _ _ e)
 refine⟨rfl,dx2,fs,h1,f5,dx2,fs,h1,_,f2,⟨_,rfl,_,h3⟩,_,rfl,T',h3.sq,hm1,_,ZgY htx2,?_⟩
 rw[eL]
 refine⟨a,T',ts,some (T'.idxOf (-1)),0,ts.length,rfl,hH,hG,by omega,hlt,by omega,Yf _,λv e=>?_,λH3 e3 hH3=>k1 ok _ H3 λb o z=>e3 b o (Zp z (g.free zkn)) (sF _ _ z)⟩
 cases e
 refine⟨ht,?_,λe he=>by omega⟩
 show 2*(T'.length-(way T' (T'.idxOf (-1))).length)+1<=19
 omega
theorem Zix {f:Addr}{fd:FuncData} (F:Fun K "_law_either" "_law_either" Zag f fd) (ZD:Callee P w K mg base "_law_take" 1 ["pot","many"] (Zb1 K mg)) (T:Txt K mg):FnOk P w K mg base (CXE P w) 2 f fd ["pot","some"] (Zcr K mg):=by
 refine F.okX Ziq (λvs H Q E h=>?_) (λcdv A outer s H vs Q E hr h=>?_)
 ·obtain⟨p,r,xs,rfl,_⟩:=h;rfl
 obtain⟨p,r,xs,rfl,hP,nrp,hr1,hn,k1⟩:=h
 refine⟨_,(Zh (Zt (Zq ZaR (Zew (Za (Zdt (ZhX (K:=K) rfl) rfl T.b_list ZnH (Za (pv 1) Zb)) (Za (Zdt (ZjI (K:=K) rfl) rfl T.b_tuple ZhV (Za (pv 1) Zb)) Zb))) (Zi ZD (hr.mono (by decide)) rfl Zw (Za (pv 0) (Za Zg Zb))) (λ_ _=>rfl)))),?_⟩
 walk_at "rd"
 refine⟨_,.inl (SqL.of hr1),λl hl=>?_⟩
 have g1:=(Ze.refl H).upd (o:=.lst xs) hl
 refine⟨_,.inl ⟨SqL.of (g1 _ _ hr1),λl2 hl2=>⟨by decide,λc hc=>?_⟩⟩⟩
 have g2:=(Ze.refl _).upd (o:=.tup xs) hl2
 have g3:=(Ze.refl _).upd (o:=.tup [V.ref l,V.ref l2]) hc
 have gg:=(g1.trans g2).trans g3
 have hl3:=(g2.trans g3) _ _ (Zc (H:=H) (a:=l) (o:=.lst xs))
 have hl23:=g3 _ _ (Zc (a:=l2) (o:=.tup xs) (H:=upd H l (.lst xs)))
 have nlp:l≠p:=hP.ne hl
 have nl2p:l2≠p:=(hP.same g1).ne hl2
 have ncp:c≠p:=(hP.same (g1.trans g2)).ne hc
 refine⟨p,_,rfl,by decide,by decide,hP.same gg,λd H2 d0 d1 P2 e2=>⟨_,d,rfl,SqT.of (e2 _ _ ncp Zc),?_⟩⟩
 have ex:=(Ze.refl H).Zfm.same gg |>.trans e2
 rcases(by omega:d=0\/d=1)with rfl|rfl
 ·exact⟨_,rfl,k1 l H2 hl (.inl (e2 _ _ nlp hl3)) P2 ex⟩
 ·exact⟨_,rfl,k1 l2 H2 (g1.free hl2) (.inr (e2 _ _ nl2p hl23)) P2 ex⟩
noncomputable def Zo9 (j:Nat):List V:=(List.range 10).map λk=>V.bl (decide (k=j))
theorem Zrf {j:Nat} (hj:j<10):((Zo9 j).countP λz=>decide (z=V.bl true))=1:=by
 unfold Zo9
 match j,hj with
 |0,_|1,_|2,_|3,_|4,_|5,_|6,_|7,_|8,_|9,_=>rfl
theorem Zrg {j:Nat}:∀z∈Zo9 j,∃b,z=V.bl b:=λz hz=>by
 obtain⟨k,_,rfl⟩:=YN.mp hz
 exact⟨_,rfl⟩
theorem ZtE {i j:Nat} (hi:i<10):atI (Zo9 j) (i:Int)=some (V.bl (decide (i=j))):=by
 unfold Zo9
 match i,hi with
 |0,_|1,_|2,_|3,_|4,_|5,_|6,_|7,_|8,_|9,_=>rfl
theorem Zji {f:Addr}{fd:FuncData} (F:Fun K "_law_alone" "_law_alone" ZaC f fd) (T:Txt K mg):FnOk P w K mg base (CXE P w) 1 f fd ["e","place"] (Zc3 K mg):=by
 refine F.okX Zfq (λvs H Q E h=>?_) (λcdv A outer s H vs Q E hr h=>?_)
 ·obtain⟨e,C,i,j,rfl,_⟩:=h;rfl
 obtain⟨e,C,i,j,rfl,hi,hj,he,Z,k1⟩:=h
 refine⟨_,(Zd (Zo (i:=2) Zfq.nd rfl (Or.inl rfl) (ZcW (Za (Zj (ZO (K:=K) rfl) rfl T.b_isinstance Zs (Za (pv 0) (Za (ZW (v:=.ref (clsAt mg "Unlike")) rfl T.c_Unlike rfl) Zb))) (Za (Zj (ZO (K:=K) rfl) rfl T.b_isinstance Zs (Za (pv 0) (Za (ZW (v:=.ref (clsAt mg "Empty")) rfl T.c_Empty rfl) Zb))) (Za (Zj (ZO (K:=K) rfl) rfl T.b_isinstance Zs (Za (pv 0) (Za (ZW (v:=.ref (clsAt mg "TooMany")) rfl T.c_TooMany rfl) Zb))) (Za (Zj (ZO (K:=K) rfl) rfl T.b_isinstance Zs (Za (pv 0) (Za (ZW (v:=.ref (clsAt mg "NoTree")) rfl T.c_NoTree rfl) Zb))) (Za (Zj (ZO (K:=K) rfl) rfl T.b_isinstance Zs (Za (pv 0) (Za (ZW (v:=.ref (clsAt mg "NoTelling")) rfl T.c_NoTelling rfl) Zb))) (Za (Zj (ZO (K:=K) rfl) rfl T.b_isinstance Zs (Za (pv 0) (Za (ZW (v:=.ref (clsAt mg "NoPlace")) rfl T.c_NoPlace rfl) Zb))) (Za (Zj (ZO (K:=K) rfl) rfl T.b_isinstance Zs (Za (pv 0) (Za (ZW (v:=.ref (clsAt mg "NoNumber")) rfl T.c_NoNumber rfl) Zb))) (Za (Zj (ZO (K:=K) rfl) rfl T.b_isinstance Zs (Za (pv 0) (Za (ZW (v:=.ref (clsAt mg "NoPast")) rfl T.c_NoPast rfl) Zb))) (Za (Zj (ZO (K:=K) rfl) rfl T.b_isinstance Zs (Za (pv 0) (Za (ZW (v:=.ref (clsAt mg "NoText")) rfl T.c_NoText rfl) Zb))) (Za (Zj (ZO (K:=K) rfl) rfl T.b_isinstance Zs (Za (pv 0) (Za (ZW (v:=.ref (clsAt mg "NoLine")) rfl T.c_NoLine rfl) Zb))) Zb))))))))))))
   (Zd (ZV (PW.pt (Zk6 (ZhP (ZfA (Zj (ZO (K:=K) rfl) rfl T.b_isinstance Zs (Za (pv 0) (Za (ZW (v:=.ref (clsAt mg "DipError")) rfl T.c_DipError rfl) Zb))))) (ZhO (ZhP (ZfA (Zj (ZO (K:=K) rfl) rfl T.b_isinstance Zs (Za (pv 0) (Za (Zs1 (v:=.ty "ValueError") rfl T.b_ValueError Zi3 rfl) Zb)))))))) (Zh (Zt Zjx)) ZE)
   (Zh (Zt (Zmg (ZdI Zg9 (ZpR PySem.F.plainAttrs_list PySem.F.slot_list_count PySem.F.type_list_count ZpZ (pv 2) (Za Zjx Zb)) Zg (Zl _)) (Zpx (Zq Zu (pv 2) (pv 1) (λ_ _=>rfl)))))))),?_⟩
 refine ZcZ (fun σ Hx=>∃p,σ=[some (.ref e),some (.int (i:Int)),some (.ref p)]/\Hx p=some (.lst (Zo9 j))/\Ze H Hx) (λR hR=>?_) ?_
 ·walk_at "rd"
  exact⟨_,tyE he Z.z Z.k0,_,tyE he Z.z Z.k1,_,tyE he Z.z Z.k2,_,tyE he Z.z Z.k3,_,tyE he Z.z Z.k4,_,tyE he Z.z Z.k5,_,tyE he Z.z Z.k6,_,tyE he Z.z Z.k7,_,tyE he Z.z Z.k8,_,tyE he Z.z Z.k9,by decide,λp hp=>hR _ _ ⟨p,rfl,Zc,(Ze.refl H).upd hp⟩⟩
 rintro σ H1 ⟨p,rfl,hp,s1⟩
 replace he:=s1 _ _ he
 refine ZcZ (fun σ Hx=>σ=[some (.ref e),some (.int (i:Int)),some (.ref p)]/\Hx=H1) (λR hR=>?_) ?_
 ·walk_at "rd"
  refine⟨_,tyE he Z.z Z.kd,?_⟩
  walk_at "rd"
  refine⟨_,tyE he Z.z Z.kv,?_⟩
  walk_at "rd"
  exact hR _ _ ⟨rfl,rfl⟩
 rintro σ H2 ⟨rfl,rfl⟩
 walk_at "rd"
 refine⟨ZhW hp,_,hp,⟨_,rfl⟩,Zrg,?_⟩
 rw[Zrf hj]
 exact ZC (λ_=>⟨_,SqL.of hp,_,ZtE hi,k1 _ s1⟩) λz=>absurd rfl z
theorem LT.sq {K:PySem.W.Frag}{H:Hp}{r:Addr}{ns:List Int} (h:LT H r ns):SqL K H r (ns.map V.int)\/SqT K H r (ns.map V.int):=h.elim (λe=>.inl (SqL.of e)) λe=>.inr (SqT.of e)
theorem LT.same {H H':Hp}{r:Addr}{ns:List Int} (h:LT H r ns) (s:Ze H H'):LT H' r ns:=h.imp (s _ _) (s _ _)
theorem LT.rtx {K:PySem.W.Frag}{H:Hp}{r x:Addr}{ns ts:List Int} (h:LT H r ns) (k:LT H x ts) (n1:ns.length<=100) (n2:ts.length<=100):RTx K H r x ns ts:=⟨h.sq,k.sq,by omega,by omega⟩
theorem due_1 {w:Int}{ns ts:List Int}{a b:Nat} (h:ns.length=0):ZaJ w ns ts a b=1:=Yd h
theorem due_2 {w:Int}{ns ts:List Int}{a b:Nat} (h:0<ns.length) (k:¬ LOk ns ts):ZaJ w ns ts a b=2:=by
 unfold ZaJ LOk at *
 rw[Yb (by omega),Yd (by omega)]
theorem due_5 {ns ts:List Int}{a b:Nat} (h:LOk ns ts) (k:¬ StrIn ts.length a b):ZaJ 4 ns ts a b=5:=by
 unfold ZaJ LOk StrIn at *
 rw[Yb (by omega),Yb (by omega),Yd ⟨rfl,by omega⟩]
theorem Ziy {w:Int}{ns ts:List Int}{a b:Nat} (h:LOk ns ts) (k:w=4->StrIn ts.length a b):ZaJ w ns ts a b=-1:=by
 unfold ZaJ LOk StrIn at *
 rw[Yb (by omega),Yb (by omega),Yb (λz=>by have:=k z.1;omega)]
theorem Zl3 {f:Addr}{fd:FuncData} (F:Fun K "_law_due" "_law_due" Zbm f fd) (T:Txt K mg):FnOk P w K mg base (CXE P w) 1 f fd ["which","row","text","a","b"] (ZeJ K mg):=by
 refine F.okX ZlU (λvs H Q E h=>?_) (λcdv A outer s H vs Q E hr h=>?_)
 ·obtain⟨w,r,x,ns,ts,a,b,rfl,_⟩:=h;rfl
 obtain⟨w,r,x,ns,ts,a,b,rfl,hr1,hx,n1,n2,a4,b4,k1⟩:=h
 refine⟨_,(Zd (ZV (Zk Zg9 (Zj (Zm (K:=K) rfl) rfl T.b_len YH (Za (pv 1) Zb)) Zg (Zl _)) (Zh (Zt Zg)) ZE)
   (Zd (ZV (PW.pt (Zk6 (Zk Zej (Zj (Zm (K:=K) rfl) rfl T.b_len YH (Za (pv 1) Zb)) Zg (Zl _)) (ZhO (Zk Zej (Zj (Zm (K:=K) rfl) rfl T.b_len YH (Za (pv 2) Zb)) Zg (Zl _))))) (Zh (Zt Zg)) ZE)
   (Zd (ZV (PW.pt (ZdG (Zk Zg9 (pv 0) Zg (Zl _)) (ZdF (PW.pt (Zk6 (Zk Zej (pv 3) (pv 4) (Zl _)) (ZhO (Zk ZjA (pv 4) (Zj (Zm (K:=K) rfl) rfl T.b_len YH (Za (pv 2) Zb)) (Zl _)))))))) (Zh (Zt Zg)) ZE)
   (Zh (Zt (Zg8 Zev Zg)))))),?_⟩
 have e1:(ns.map V.int).length=ns.length:=Yj ..
 have e2:(ts.map V.int).length=ts.length:=Yj ..
 unfold ZaJ at k1
 walk_at "rd"
 exact⟨_,hr1.sq,ZC (λz=>by rw[Yd (by omega)]at k1;exact k1) λz1=>⟨_,hr1.sq,ZC (λz=>by rw[Yb (by omega),Yd (by omega)]at k1;exact k1) λz2=>⟨_,hx.sq,ZC (λz=>by rw[Yb (by omega),Yd (by omega)]at k1;exact k1) λz3=>ZC (λz4=>ZC (λz5=>by rw[Yb (by omega),Yb (by omega),Yd ⟨z4,by omega⟩]at k1;exact k1) λz5=>⟨_,hx.sq,ZC (λz=>by rw[Yb (by omega),Yb (by omega),Yd ⟨z4,by omega⟩]at k1;exact k1) λz6=>by rw[Yb (by omega),Yb (by omega),Yb (by omega)]at k1;exact k1⟩) λz4=>by rw[Yb (by omega),Yb (by omega),Yb (λz=>z4 z.1)]at k1;exact k1⟩⟩⟩
theorem Zjj {f:Addr}{fd:FuncData} (F:Fun K "_law_asked" "_law_asked" ZaD f fd) (Zbq:Callee P w K mg base "table_of" 7 ["row","text"] (ZcM K mg)) (Zc6:Callee P w K mg base "table_right" 8 ["row","text","table"] (Zcp K mg)) (Za1:Callee P w K mg base "least_stretches" 7 ["row","text"] (ZaS K mg)) (ZeO:Callee P w K mg base "places_in" 7 ["row","text","a","b"] (ZdO K mg)) (ZdT:Callee P w K mg base "many_loose" 23 ["row","text"] (Zc0 K mg)) (T:Txt K mg):FnOk P w K mg base (CXE P w) 24 f fd ["which","row","text","a","b"] (Zc2 K mg):=by
 refine F.okX ZJ (λvs H Q E h=>?_) (λcdv A outer s H vs Q E hr h=>?_)
 ·obtain⟨w,r,x,ns,ts,a,b,rfl,_⟩:=h;rfl
 obtain⟨w,r,x,ns,ts,a,b,rfl,w0,w4,hr1,hx,n1,n2,a4,b4,hT,k1,kE,kT,kP⟩:=h
 refine⟨_,(Zd (Zo (i:=5) ZJ.nd rfl (Or.inl rfl) ZU)
   (Zd (ps_try (j:=6) ⟨rfl,rfl⟩ ZJ.nd rfl rfl rfl T.c_DipError T.x_DipError (λEc pl=>(Zh (ZV (Zk Zg9 (pv 0) Zg (Zl _)) (Zh (Zo (i:=5) ZJ.nd rfl (Or.inl rfl) (Zdw Za1 (hr.mono (by decide)) rfl Zlg (Za (pv 1) (Za (pv 2) Zb))))) (Zh (ZV (Zk Zg9 (pv 0) Zg (Zl _)) (Zh (Zo (i:=5) ZJ.nd rfl (Or.inl rfl) (Zdw ZdT (hr.mono (by decide)) rfl Zlg (Za (pv 1) (Za (pv 2) Zb))))) (Zh (ZV (Zk Zg9 (pv 0) Zg (Zl _)) (Zh (Zo (i:=5) ZJ.nd rfl (Or.inl rfl) (Zdw Zbq (hr.mono (by decide)) rfl Zlg (Za (pv 1) (Za (pv 2) Zb))))) (Zh (ZV (Zk Zg9 (pv 0) Zg (Zl _)) (Zh (Zo (i:=5) ZJ.nd rfl (Or.inl rfl) (Zdw Zc6 (hr.mono (by decide)) rfl Zlg (Za (pv 1) (Za (pv 2) (Za (ZA Zmw (ZcW (Za (ZA Zmw (ZcW (Za ZU Zb)) (Zj (Zm (K:=K) rfl) rfl T.b_len YH (Za (pv 2) Zb))) Zb)) (pv 3)) Zb)))))) (Zh (Zo (i:=5) ZJ.nd rfl (Or.inl rfl) (Zew (Za (Zdw ZeO (hr.mono (by decide)) rfl Zlg (Za (pv 1) (Za (pv 2) (Za (pv 3) (Za (pv 4) Zb))))) Zb))))))))))))) (λA'=>(Zh (Zo (i:=5) ZJ.nd rfl (Or.inl rfl) (pv 6)))))
   (Zh (Zt (pv 5))))),?_⟩
 have hB:∀(E:XK) (H1:Hp),Ze H H1->(∀C H2,Ze H H2->((C=.ref (clsAt mg "Empty")/\ZaJ w ns ts a b=1)\/(C=.ref (clsAt mg "TooMany")/\ZaJ w ns ts a b=2))->E C none H2)->Zm8 mg E H1 ns ts:=λE H1 s1 h=>⟨λz=>h _ _ s1 (.inl ⟨rfl,due_1 z⟩),λz y=>h _ _ s1 (.inr ⟨rfl,due_2 z y⟩)⟩
 walk_at "rd"
 refine⟨fun σ1 C _ H1=>σ1=[some (.int w),some (.ref r),some (.ref x),some (.int (a:Int)),some (.int (b:Int)),some .non,none]/\((C=.ref (clsAt mg "Empty")/\ZaJ w ns ts a b=1)\/(C=.ref (clsAt mg "TooMany")/\ZaJ w ns ts a b=2)\/(C=.ref (clsAt mg "NoPlace")/\ZaJ w ns ts a b=5))/\Ze H H1,?_,?_⟩
 ·have hw:w=0\/w=1\/w=2\/w=3\/w=4:=by omega
  rcases hw with rfl|rfl|rfl|rfl|rfl
  ·walk_at "rd"
   exact⟨r,x,ns,ts,rfl,hr1.rtx hx n1 n2,hT,λok l os H1 hl s1=>k1 (Ziy ok λz=>absurd z (by decide)) _ _ s1 (.inl ⟨l,os,rfl,.inr hl⟩),hB _ _ (Ze.refl H) λC H2 s2 h=>⟨h.imp id .inl,s2⟩⟩
  ·walk_at "rd"
   rw[Yb (by decide)]
   exact⟨r,x,ns,ts,rfl,hr1,hx,by omega,by omega,λok z H1 s1=>k1 (Ziy ok λz=>absurd z (by decide)) _ _ s1 (.inr (.inr ⟨z,rfl⟩)),hB _ _ (Ze.refl H) λC H2 s2 h=>⟨h.imp id .inl,s2⟩⟩
  ·walk_at "rd"
   rw[Yb (by decide),Yb (by decide)]
   exact⟨r,x,ns,ts,rfl,hr1.rtx hx n1 n2,hT,λok l T' tab H1 zl _ hTB _ s1=>(by obtain⟨as,hl,_⟩:=hTB;exact k1 (Ziy ok λz=>absurd z (by decide)) _ _ s1 (.inl ⟨l,_,rfl,.inr hl⟩)),hB _ _ (Ze.refl H) λC H2 s2 h=>⟨h.imp id .inl,s2⟩⟩
  ·walk_at "rd"
   rw[Yb (by decide),Yb (by decide),Yb (by decide)]
   refine⟨by decide,λp hp=>?_⟩
   have g1:=(Ze.refl H).upd (o:=.lst [V.non]) hp
   have eL:(ts.map V.int).length=ts.length:=Yj ..
   refine⟨_,(hx.same g1).sq,_,Zc,by omega,by omega,YU (YF (show _<=1000 by rw[eL];simp;omega) (by decide)),λp1 hp1=>⟨by decide,λp2 hp2=>⟨_,Zc,by omega,by omega,YU (YF (show _<=1000 by simp;omega) (by decide)),λp3 hp3=>?_⟩⟩⟩
   rw[eL]at hp2 hp3⊢
   have en:(List.replicate ((ts.length:Nat):Int).toNat [V.non]).flatten=List.replicate ts.length V.non:=by simp
   have ea:(List.replicate ((a:Nat):Int).toNat [V.ref p1]).flatten=(List.replicate a p1).map V.ref:=by simp
   rw[en]at hp2 hp3⊢
   rw[ea]
   have g2:=(Ze.refl _).upd (o:=.lst (List.replicate ts.length V.non)) hp1
   have g3:=(Ze.refl _).upd (o:=.lst [V.ref p1]) hp2
   have g4:=(Ze.refl _).upd (o:=.lst ((List.replicate a p1).map V.ref)) hp3
   have gg:=((g1.trans g2).trans g3).trans g4
   have h1:=(g3.trans g4) _ _ (Zc (H:=upd H p (.lst [V.non])) (a:=p1) (o:=.lst (List.replicate ts.length V.non)))
   have h3:=Zc (H:=upd (upd (upd H p (.lst [V.non])) p1 (.lst (List.replicate ts.length V.non))) p2 (.lst [V.ref p1])) (a:=p3) (o:=.lst ((List.replicate a p1).map V.ref))
   generalize upd (upd (upd (upd H p (.lst [V.non])) p1 (.lst (List.replicate ts.length V.non))) p2 (.lst [V.ref p1])) p3 (.lst ((List.replicate a p1).map V.ref))=H4 at gg h1 h3⊢
   refine⟨r,x,p3,ns,ts,List.replicate a (List.replicate ts.length none),rfl,(hr1.same gg).rtx (hx.same gg) n1 n2,⟨List.replicate a p1,.inl (SqL.of h3),by simp,λi q ps e1 e2=>?_⟩,by simp;omega,⟨ZQ.same hT.1 gg,ZQ.same hT.2.1 gg,ZQ.same hT.2.2 gg⟩,λok z H1 s1=>k1 (Ziy ok λz=>absurd z (by decide)) _ _ (gg.trans s1) (.inr (.inl ⟨z,rfl⟩)),hB _ _ gg λC H2 s2 h=>⟨h.imp id .inl,s2⟩⟩
   have eq:q=p1:=(List.mem_replicate.mp (List.mem_of_getElem? e1)).2
   have eps:ps=List.replicate ts.length none:=(List.mem_replicate.mp (List.mem_of_getElem? e2)).2
   subst eq eps
   refine⟨_,.inl (SqL.of h1),by simp,λi v pt f1 f2=>?_⟩
   rw[(List.mem_replicate.mp (List.mem_of_getElem? f1)).2,(List.mem_replicate.mp (List.mem_of_getElem? f2)).2]
   rfl
  ·walk_at "rd"
   rw[Yb (by decide),Yb (by decide),Yb (by decide),Yb (by decide)]
   exact⟨r,x,ns,ts,a,b,rfl,hr1.rtx hx n1 n2,hT,λok hst v H1 s1 _=>⟨by decide,λp hp=>k1 (Ziy ok λ_=>hst) _ _ (s1.Zch hp) (.inl ⟨p,_,rfl,.inl Zc⟩)⟩,hB _ _ (Ze.refl H) λC H2 s2 h=>⟨h.imp id .inl,s2⟩,λok hn=>⟨.inr (.inr ⟨rfl,due_5 ok hn⟩),Ze.refl _⟩⟩
 ·rintro σ1 C H1 ⟨rfl,hC,s1⟩
  rcases hC with⟨rfl,g⟩|⟨rfl,g⟩|⟨rfl,g⟩
  ·refine⟨_,rfl,T.up_Empty,λe he=>?_⟩
   walk_at "rd"
   exact kE g e _ (s1.Zch he) Zc
  ·refine⟨_,rfl,T.up_TooMany,λe he=>?_⟩
   walk_at "rd"
   exact kT g e _ (s1.Zch he) Zc
  ·refine⟨_,rfl,T.up_NoPlace,λe he=>?_⟩
   walk_at "rd"
   exact kP g e _ (s1.Zch he) Zc
noncomputable def ZeM (H:Hp) (p r:Addr) (ns:List Int) (m:Nat):Prop:=ns.length<=m/\r≠p/\H r=some (.lst (ns.map V.int))
theorem ok_law {f:Addr}{fd:FuncData} (F:Fun K "law" "law" Zgi f fd) (ZeP:Callee P w K mg base "_law_deal" 1 ["script","k"] (ZdQ K mg)) (ZD:Callee P w K mg base "_law_take" 1 ["pot","many"] (Zb1 K mg)) (ZdU:Callee P w K mg base "_law_alone" 1 ["e","place"] (Zc3 K mg)) (Zbt:Callee P w K mg base "_law_either" 2 ["pot","some"] (Zcr K mg)) (ZdV:Callee P w K mg base "_law_asked" 24 ["which","row","text","a","b"] (Zc2 K mg)) (ZfN:Callee P w K mg base "_law_due" 1 ["which","row","text","a","b"] (ZeJ K mg)) (T:Txt K mg):FnOk P w K mg base (CXE P w) 25 f fd ["script"] (Zoe K mg):=by
 refine F.okX Zc4 (λvs H Q E h=>?_) (λcdv A outer s H vs Q E hr h=>?_)
 ·obtain⟨a,ns,rfl,_⟩:=h;rfl
 obtain⟨sc,ss,rfl,hsc,hss,hTb,k1⟩:=h
 refine⟨_,(Zd (ZcX (Zeu PassesOwn.never rfl (Zav rfl T.b_range (Za (Zj (Zor rfl) rfl T.b_max Zp0 (Za Zg (Za (Zj (Zos rfl) rfl T.b_min Zp1 (Za (Zj (Zm (K:=K) rfl) rfl T.b_len YH (Za (pv 0) Zb)) (Za Zg Zb))) Zb))) Zb)) (Zn (i:=1) Zc4.nd rfl (Or.inl rfl)) (Zd (Zo (i:=2) Zc4.nd rfl (Or.inr rfl) (Zi ZeP (hr.mono (by decide)) rfl Zw (Za (pv 0) (Za (pv 1) Zb))))
   (Zd (Zdx (i:=3) ["turn","pot"] [none,some 2] Zc4.nd rfl (Or.inl rfl) rfl rfl rfl (Zav rfl T.b_range (Za (Zq ZaR (Zew (Za (Zi ZD (hr.mono (by decide)) rfl Zw (Za (pv 2) (Za Zg Zb))) (Za Zg (Za Zg Zb)))) (Zi ZD (hr.mono (by decide)) rfl Zw (Za (pv 2) (Za Zg Zb))) (λ_ _=>rfl)) Zb)) (λ_ _ _ _ _=>(Zn (i:=0) (show(["turn","pot"]:List Str).Nodup from by decide +kernel) rfl (Or.inl rfl))) (λ_ _ _ _ _=>ZaN) (λ_ _ _ _ _=>(Zi ZD (hr.mono (by decide)) rfl Zw (Za (pv 1) (Za Zg Zb)))) ZG)
   (Zd (Zdx (i:=4) ["turn","pot"] [none,some 2] Zc4.nd rfl (Or.inl rfl) rfl rfl rfl (Zav rfl T.b_range (Za (Zq ZaR (Zew (Za (Zi ZD (hr.mono (by decide)) rfl Zw (Za (pv 2) (Za Zg Zb))) (Za Zg (Za Zg Zb)))) (Zi ZD (hr.mono (by decide)) rfl Zw (Za (pv 2) (Za Zg Zb))) (λ_ _=>rfl)) Zb)) (λ_ _ _ _ _=>(Zn (i:=0) (show(["turn","pot"]:List Str).Nodup from by decide +kernel) rfl (Or.inl rfl))) (λ_ _ _ _ _=>ZaN) (λ_ _ _ _ _=>(Zi ZD (hr.mono (by decide)) rfl Zw (Za (pv 1) (Za Zg Zb)))) ZG)
   (Zd (Zo (i:=5) Zc4.nd rfl (Or.inl rfl) (Zi ZD (hr.mono (by decide)) rfl Zw (Za (pv 2) (Za Zg Zb))))
   (Zd (Zo (i:=6) Zc4.nd rfl (Or.inl rfl) (Zi ZD (hr.mono (by decide)) rfl Zw (Za (pv 2) (Za Zg Zb))))
   (Zh (ZcX (Zeu PassesOwn.never rfl (Zav rfl T.b_range (Za Zg Zb)) (Zn (i:=7) Zc4.nd rfl (Or.inl rfl)) (Zd (Zo (i:=8) Zc4.nd rfl (Or.inl rfl) (Zi ZdV (hr.mono (by decide)) rfl Zw (Za (pv 7) (Za (Zi Zbt (hr.mono (by decide)) rfl Zw (Za (pv 2) (Za (pv 3) Zb))) (Za (Zi Zbt (hr.mono (by decide)) rfl Zw (Za (pv 2) (Za (pv 4) Zb))) (Za (pv 5) (Za (pv 6) Zb)))))))
   (Zd (Zo (i:=9) Zc4.nd rfl (Or.inl rfl) (Zi ZfN (hr.mono (by decide)) rfl Zw (Za (pv 7) (Za (pv 3) (Za (pv 4) (Za (pv 5) (Za (pv 6) Zb)))))))
   (Zh (ZV (PW.pt (Zk6 (PW.pt (ZdG (Zk Zf4 (pv 9) Zg (Zl _)) (ZdF (PW.pt (Zk6 (Zk Zka (pv 8) ZU (Zl _)) (ZhO (ZfA (Zj (ZO (K:=K) rfl) rfl T.b_isinstance Zs (Za (pv 8) (Za (ZW (v:=.ref (clsAt mg "DipError")) rfl T.c_DipError rfl) Zb)))))))))) (ZhO (PW.pt (ZdG (Zk ZjA (pv 9) Zg (Zl _)) (ZdF (ZhP (ZfA (Zi ZdU (hr.mono (by decide)) rfl Zw (Za (pv 8) (Za (pv 9) Zb))))))))))) (Zh (Zt Zjx)) ZE))))))))))))))
   (Zh (Zt Zjx))),?_⟩
 have hT1:ZQ K mg "from_below" H:=hTb (Zge K mg "from_below",Zib "from_below") (by simp[ZeG])
 have hT2:ZQ K mg "best_ahead" H:=hTb (Zge K mg "best_ahead",Zib "best_ahead") (by simp[ZeG])
 have hT3:ZQ K mg "best_behind" H:=hTb (Zge K mg "best_behind",Zib "best_behind") (by simp[ZeG])
 walk_at "rd"
 refine⟨_,.inl hsc,?_,?_,Ze8 (λi σ H'=>∃v1 v2 v3 v4 v5 v6 v7 v8 v9,σ=[some (.ref sc),v1,v2,v3,v4,v5,v6,v7,v8,v9]/\Ze H H') ⟨_,_,_,_,_,_,_,_,_,rfl,Ze.refl H⟩ ?_ ?_⟩
 ·split<;>omega
 ·split<;>omega
 ·rintro i σ H' hi ⟨v1,v2,v3,v4,v5,v6,v7,v8,v9,rfl,hs⟩
  have hi8:i<64:=by
   revert hi
   split
   ·split<;>omega
   ·omega
  refine ZcZ (fun σ Hx=>∃p,σ=[some (.ref sc),some (.int (0+(i:Int))),some (.ref p),v3,v4,v5,v6,v7,v8,v9]/\H p=none/\Zal Hx p/\Ze H Hx) (λR hR=>?_) ?_
  ·walk_at "rd"
   exact⟨sc,ss,_,rfl,hs.seq hsc,by omega,by omega,λp H1 hp s1 P1=>hR _ _ ⟨p,rfl,hs.free hp,P1,hs.trans s1⟩⟩
  rintro σ H1 ⟨p,rfl,zp,P1,s1⟩
  refine ZcZ (fun σ Hx=>∃(r:Addr) (ns:List Int),σ=[some (.ref sc),some (.int (0+(i:Int))),some (.ref p),some (.ref r),v4,v5,v6,v7,v8,v9]/\ZeM Hx p r ns 40/\Zal Hx p/\Ze H Hx) (λR hR=>?_) ?_
  ·walk_at "rd"
   refine⟨p,_,rfl,by decide,by decide,P1,λd H2 d0 d1 P2 e2=>⟨by decide,λq hq=>⟨p,_,rfl,by decide,by decide,P2.upd hq,λc H3 c0 c1 P3 e3=>?_⟩⟩⟩
   have hq3:=e3 _ _ (P2.ne hq) Zc
   obtain⟨v,hv,y,rfl,y0,y1⟩:=ZnK (xs:=[V.int d,V.int 6,V.int 7]) (i:=c) (λv=>∃y,v=V.int y/\0<=y/\y<=40) c0 c1 (by
    intro z hz
    simp only[Yg,List.not_mem_nil,or_false]at hz
    rcases hz with rfl|rfl|rfl<;>exact⟨_,rfl,by omega,by omega⟩)
   refine⟨_,c,rfl,SqT.of hq3,_,hv,y,rfl,by omega,by omega,ZaO (n:=y.toNat) (λk acc Hw=>∃bs:List Int,acc=bs.map V.int/\bs.length=k/\Zal Hw p/\Exc p H3 Hw) (YF (show _<=1000 by omega) (by decide)) ⟨[],rfl,rfl,P3,(Ze.refl H3).Zfm⟩ (λj acc Hz _ hj=>hj) (λacc Hz _=>Yf _) ?_ ?_⟩
   ·rintro k x2 acc Hw Hw' hk hacc ⟨bs,rfl,hbl,P4,e4⟩ ⟨rfl,rfl⟩
    walk_at "rd"
    exact⟨p,_,rfl,by decide,by decide,P4,λc H5 _ _ P5 e5=>CA.take hk hacc ⟨bs++[c],by simp,by simp[hbl],P5,e4.trans e5⟩⟩
   ·rintro u acc Hw ⟨bs,rfl,hbl,P4,e4⟩ _ hu
    have g:=(Ze.refl Hw).upd (o:=.lst (bs.map V.int)) hu
    have eW:Exc p H1 Hw:=((e2.trans ((Ze.refl H2).upd hq).Zfm).trans e3).trans e4
    exact hR _ _ ⟨u,bs,rfl,⟨by omega,P4.ne hu,Zc⟩,P4.same g,(s1.exc zp eW).trans g⟩
  clear s1 P1
  rintro σ H1 ⟨r,ns,rfl,hr1,P1,s1⟩
  refine ZcZ (fun σ Hx=>∃(x:Addr) (ts:List Int),σ=[some (.ref sc),some (.int (0+(i:Int))),some (.ref p),some (.ref r),some (.ref x),v5,v6,v7,v8,v9]/\ZeM Hx p r ns 40/\ZeM Hx p x ts 40/\Zal Hx p/\Ze H Hx) (λR hR=>?_) ?_
  ·walk_at "rd"
   refine⟨p,_,rfl,by decide,by decide,P1,λd H2 d0 d1 P2 e2=>⟨by decide,λq hq=>⟨p,_,rfl,by decide,by decide,P2.upd hq,λc H3 c0 c1 P3 e3=>?_⟩⟩⟩
   have hq3:=e3 _ _ (P2.ne hq) Zc
   obtain⟨v,hv,y,rfl,y0,y1⟩:=ZnK (xs:=[V.int d,V.int 16,V.int 17]) (i:=c) (λv=>∃y,v=V.int y/\0<=y/\y<=40) c0 c1 (by
    intro z hz
    simp only[Yg,List.not_mem_nil,or_false]at hz
    rcases hz with rfl|rfl|rfl<;>exact⟨_,rfl,by omega,by omega⟩)
   refine⟨_,c,rfl,SqT.of hq3,_,hv,y,rfl,by omega,by omega,ZaO (n:=y.toNat) (λk acc Hw=>∃bs:List Int,acc=bs.map V.int/\bs.length=k/\Zal Hw p/\Exc p H3 Hw) (YF (show _<=1000 by omega) (by decide)) ⟨[],rfl,rfl,P3,(Ze.refl H3).Zfm⟩ (λj acc Hz _ hj=>hj) (λacc Hz _=>Yf _) ?_ ?_⟩
   ·rintro k x2 acc Hw Hw' hk hacc ⟨bs,rfl,hbl,P4,e4⟩ ⟨rfl,rfl⟩
    walk_at "rd"
    exact⟨p,_,rfl,by decide,by decide,P4,λc H5 _ _ P5 e5=>CA.take hk hacc ⟨bs++[c],by simp,by simp[hbl],P5,e4.trans e5⟩⟩
   ·rintro u acc Hw ⟨bs,rfl,hbl,P4,e4⟩ _ hu
    have g:=(Ze.refl Hw).upd (o:=.lst (bs.map V.int)) hu
    have eW:Exc p H1 Hw:=((e2.trans ((Ze.refl H2).upd hq).Zfm).trans e3).trans e4
    exact hR _ _ ⟨u,bs,rfl,⟨hr1.1,hr1.2.1,g _ _ (eW _ _ hr1.2.1 hr1.2.2)⟩,⟨by omega,P4.ne hu,Zc⟩,P4.same g,(s1.exc zp eW).trans g⟩
  clear s1 P1 hr1
  rintro σ H1 ⟨x,ts,rfl,hr1,hx,P1,s1⟩
  refine ZcZ (fun σ Hx=>∃(a:Nat),σ=[some (.ref sc),some (.int (0+(i:Int))),some (.ref p),some (.ref r),some (.ref x),some (.int (a:Int)),v6,v7,v8,v9]/\a<=40/\ZeM Hx p r ns 40/\ZeM Hx p x ts 40/\Zal Hx p/\Ze H Hx) (λR hR=>?_) ?_
  ·walk_at "rd"
   refine⟨p,_,rfl,by decide,by decide,P1,λd H2 d0 d1 P2 e2=>?_⟩
   obtain⟨a,rfl⟩:=Jc d0
   exact hR _ _ ⟨a,rfl,by omega,⟨hr1.1,hr1.2.1,e2 _ _ hr1.2.1 hr1.2.2⟩,⟨hx.1,hx.2.1,e2 _ _ hx.2.1 hx.2.2⟩,P2,s1.exc zp e2⟩
  clear s1 P1 hr1 hx
  rintro σ H1 ⟨a,rfl,a4,hr1,hx,P1,s1⟩
  refine ZcZ (fun σ Hx=>∃(b:Nat),σ=[some (.ref sc),some (.int (0+(i:Int))),some (.ref p),some (.ref r),some (.ref x),some (.int (a:Int)),some (.int (b:Int)),v7,v8,v9]/\b<=40/\ZeM Hx p r ns 40/\ZeM Hx p x ts 40/\Zal Hx p/\Ze H Hx) (λR hR=>?_) ?_
  ·walk_at "rd"
   refine⟨p,_,rfl,by decide,by decide,P1,λd H2 d0 d1 P2 e2=>?_⟩
   obtain⟨b,rfl⟩:=Jc d0
   exact hR _ _ ⟨b,rfl,by omega,⟨hr1.1,hr1.2.1,e2 _ _ hr1.2.1 hr1.2.2⟩,⟨hx.1,hx.2.1,e2 _ _ hx.2.1 hx.2.2⟩,P2,s1.exc zp e2⟩
  clear s1 P1 hr1 hx
  rintro σ H1 ⟨b,rfl,b4,hr1,hx,P1,s1⟩
  walk_at "rd"
  refine⟨by decide,by decide,Ze8 (λj σ Hx=>∃v7 v8 v9,σ=[some (.ref sc),some (.int (0+(i:Int))),some (.ref p),some (.ref r),some (.ref x),some (.int (a:Int)),some (.int (b:Int)),v7,v8,v9]/\ZeM Hx p r ns 40/\ZeM Hx p x ts 40/\Zal Hx p/\Ze H Hx) ⟨v7,v8,v9,rfl,hr1,hx,P1,s1⟩ ?_ ?_⟩
  ·clear s1 P1 hr1 hx
   rintro j σ H1 hj ⟨v7,v8,v9,rfl,hr1,hx,P1,s1⟩
   have hj5:j<5:=hj
   refine ZcZ (fun σ Hx=>∃(v:V),σ=[some (.ref sc),some (.int (0+(i:Int))),some (.ref p),some (.ref r),some (.ref x),some (.int (a:Int)),some (.int (b:Int)),some (.int (0+(j:Int))),some v,v9]/\((ZaJ (0+(j:Int)) ns ts a b=-1/\ValX Hx v)\/(ZaJ (0+(j:Int)) ns ts a b=1/\∃e:Addr,v=.ref e/\Hx e=some (Zhr e (clsAt mg "Empty")))\/(ZaJ (0+(j:Int)) ns ts a b=2/\∃e:Addr,v=.ref e/\Hx e=some (Zhr e (clsAt mg "TooMany")))\/(ZaJ (0+(j:Int)) ns ts a b=5/\∃e:Addr,v=.ref e/\Hx e=some (Zhr e (clsAt mg "NoPlace"))))/\ZeM Hx p r ns 40/\ZeM Hx p x ts 40/\Zal Hx p/\Ze H Hx) (λR hR=>?_) ?_
   ·walk_at "rd"
    refine⟨p,r,_,rfl,P1,hr1.2.1,hr1.2.2,by have:=hr1.1;simp;omega,λu1 H2 zu1 hu1 P2 e2=>⟨p,x,_,rfl,P2,hx.2.1,e2 _ _ hx.2.1 hx.2.2,by have:=hx.1;simp;omega,λu2 H3 zu2 hu2 P3 e3=>?_⟩⟩
    have nu1:=P1.ne zu1
    have s3:=s1.exc zp (e2.trans e3)
    have e23:=e2.trans e3
    have hr3:ZeM H3 p r ns 40:=⟨hr1.1,hr1.2.1,e23 _ _ hr1.2.1 hr1.2.2⟩
    have hx3:ZeM H3 p x ts 40:=⟨hx.1,hx.2.1,e23 _ _ hx.2.1 hx.2.2⟩
    have keep:∀H4,Ze H3 H4->ZeM H4 p r ns 40/\ZeM H4 p x ts 40/\Zal H4 p/\Ze H H4:=λH4 s4=>⟨⟨hr3.1,hr3.2.1,s4 _ _ hr3.2.2⟩,⟨hx3.1,hx3.2.1,s4 _ _ hx3.2.2⟩,P3.same s4,s3.trans s4⟩
    have n1:=hr1.1
    have n2:=hx.1
    exact⟨_,u1,u2,ns,ts,a,b,rfl,by omega,by omega,hu1.imp (λz=>e3 _ _ nu1 z) λz=>e3 _ _ nu1 z,hu2,by omega,by omega,a4,b4,⟨ZQ.same hT1 s3,ZQ.same hT2 s3,ZQ.same hT3 s3⟩,λg v H4 s4 hv=>hR _ _ ⟨v,rfl,.inl ⟨g,hv⟩,keep H4 s4⟩,λg e H4 s4 he=>hR _ _ ⟨_,rfl,.inr (.inl ⟨g,e,rfl,he⟩),keep H4 s4⟩,λg e H4 s4 he=>hR _ _ ⟨_,rfl,.inr (.inr (.inl ⟨g,e,rfl,he⟩)),keep H4 s4⟩,λg e H4 s4 he=>hR _ _ ⟨_,rfl,.inr (.inr (.inr ⟨g,e,rfl,he⟩)),keep H4 s4⟩⟩
   clear s1 P1 hr1 hx
   rintro σ H1 ⟨v,rfl,hv,hr1,hx,P1,s1⟩
   walk_at "rd"
   have fin:∀H2,Ze H1 H2->ZeM H2 p r ns 40/\ZeM H2 p x ts 40/\Zal H2 p/\Ze H H2:=λH2 s2=>⟨⟨hr1.1,hr1.2.1,s2 _ _ hr1.2.2⟩,⟨hx.1,hx.2.1,s2 _ _ hx.2.2⟩,P1.same s2,s1.trans s2⟩
   have n1:=hr1.1
   have n2:=hx.1
   refine⟨_,r,x,ns,ts,a,b,rfl,.inl hr1.2.2,.inl hx.2.2,by omega,by omega,a4,b4,?_⟩
   rcases hv with⟨g,hv⟩|⟨g,e,rfl,he⟩|⟨g,e,rfl,he⟩|⟨g,e,rfl,he⟩
   ·rw[g]
    refine⟨_,rfl,ZC (λ_=>ZC (λz=>?_) λz=>⟨false,?_,ZC (λy=>nomatch y) λ_=>⟨_,rfl,ZC (λy=>absurd y (by decide)) λ_=>fin H1 (Ze.refl _)⟩⟩) λz=>absurd (by decide) z⟩
    ·rcases hv with⟨c,xs,rfl,_⟩|⟨b,rfl⟩|⟨b,rfl⟩<;>cases z
    ·rcases hv with⟨c,xs,rfl,hc|hc⟩|⟨b,rfl⟩|⟨b,rfl⟩
     ·exact .inl ⟨_,.tup hc,T.ty_tuple⟩
     ·exact .inl ⟨_,.lst hc,T.ty_list⟩
     ·exact .inl ⟨_,.bl _,T.ty_bool⟩
     ·exact .inl ⟨_,.int _,T.ty_int⟩
   ·rw[g]
    exact⟨_,rfl,ZC (λz=>absurd z (by decide)) λ_=>⟨_,rfl,ZC (λ_=>⟨e,_,1,1,rfl,by decide,by decide,he,ZlS T,λH3 s3=>⟨_,rfl,ZC (λz=>absurd z (by decide)) λ_=>fin H3 s3⟩⟩) λz=>absurd (by decide) z⟩⟩
   ·rw[g]
    exact⟨_,rfl,ZC (λz=>absurd z (by decide)) λ_=>⟨_,rfl,ZC (λ_=>⟨e,_,2,2,rfl,by decide,by decide,he,Zi8 T,λH3 s3=>⟨_,rfl,ZC (λz=>absurd z (by decide)) λ_=>fin H3 s3⟩⟩) λz=>absurd (by decide) z⟩⟩
   ·rw[g]
    exact⟨_,rfl,ZC (λz=>absurd z (by decide)) λ_=>⟨_,rfl,ZC (λ_=>⟨e,_,5,5,rfl,by decide,by decide,he,Zi9 T,λH3 s3=>⟨_,rfl,ZC (λz=>absurd z (by decide)) λ_=>fin H3 s3⟩⟩) λz=>absurd (by decide) z⟩⟩
  ·rintro σ Hx ⟨v7,v8,v9,rfl,_,_,_,sx⟩
   exact⟨_,_,_,_,_,_,_,_,_,rfl,sx⟩
 ·rintro σ H' ⟨v1,v2,v3,v4,v5,v6,v7,v8,v9,rfl,hs⟩
  walk_at "rd"
  exact k1 H'
end
theorem all_mk {l:PySem.W.OpenLaw}{w:World}{K:PySem.W.Frag}{h:Heap}{mg:Str->Option Value}{fa:Addr}{ts:List Addr} (X:K.In h) (G:h.Ns mainGlobals mg) (hfa:mg "law"=some (.ref fa))
  {C_Holding:Addr} (n_Holding:nsIn K mainGlobals "Holding"=some (some (.ref C_Holding))) (pg_Holding:PySem.W.plainGet K C_Holding Str.empty=true) (hd_Holding:PySem.W.hasDictIn K C_Holding=true) (po_Holding:PySem.W.plainOver K C_Holding=true) (sa_Holding:PySem.W.findIn K (.ref C_Holding) "__setattr__"=some (some (.builtin "object.__setattr__"))) (mk_Holding:PySem.W.makesIn K C_Holding=true) (kc_Holding:keepIn K (.ref C_Holding)=true)
  (na_Holding_text:PySem.W.findIn K (.ref C_Holding) "text"=some none)
  (na_Holding_tree:PySem.W.findIn K (.ref C_Holding) "tree"=some none)
  (na_Holding_young:PySem.W.findIn K (.ref C_Holding) "young"=some none)
  (na_Holding_known:PySem.W.findIn K (.ref C_Holding) "known"=some none)
  {Zep:Tok}{oc3_need_numbers:Value}{od3_need_numbers:Option Addr}{ZhB:Nat}{sl3_need_numbers:Array (Option Value)}
  (Za2:nsIn K mainGlobals "need_numbers"=some (some (.ref ZeQ))) (Zct:K.lookup ZeQ=some ⟨Zpe,Zpf,.func (fnOf "need_numbers" "need_numbers" (defArgs ZX) (defBody ZX) (defScope ZX) (.ref ZiB) Zpg Zph Zpi Zpj ZhC Zpk),Zpl⟩) (Zcu:codeIn K ZhC "need_numbers"=true) (Zau:keepIn K (.ref ZeQ)=true)
  (Za3:K.lookup ZiB=some ⟨oc3_need_numbers,od3_need_numbers,.seq #[.int 1 Zep] ZhB,sl3_need_numbers⟩)
  (ZdW:nsIn K mainGlobals "is_stretch"=some (some (.ref Zgm))) (ZdX:K.lookup Zgm=some ⟨ZrY,ZrZ,.func (fnOf "is_stretch" "is_stretch" (defArgs Zax) (defBody Zax) (defScope Zax) .none Zr0 Zr1 Zr2 Zr3 Zjk Zr4),Zr5⟩) (ZdY:codeIn K Zjk "is_stretch"=true) (Zb2:keepIn K (.ref Zgm)=true)
  (Zcv:nsIn K mainGlobals "need_stretch"=some (some (.ref ZeR))) (Zcw:K.lookup ZeR=some ⟨Zpm,Zpn,.func (fnOf "need_stretch" "need_stretch" (defArgs ZY) (defBody ZY) (defScope ZY) .none Zpo Zpp Zpq Zpr ZhD Zps),Zpt⟩) (Zcx:codeIn K ZhD "need_stretch"=true) (Za4:keepIn K (.ref ZeR)=true)
  (ZiC:nsIn K mainGlobals "settle"=some (some (.ref Zl4))) (ZiD:K.lookup Zl4=some ⟨Zu3,Zu4,.func (fnOf "settle" "settle" (defArgs ZdB) (defBody ZdB) (defScope ZdB) .none Zu5 Zu6 Zu7 Zu8 Zpa Zu9),Zva⟩) (ZiE:codeIn K Zpa "settle"=true) (Zgn:keepIn K (.ref Zl4)=true)
  (Zg1:nsIn K mainGlobals "tree_of"=some (some (.ref Zj6))) (Zg2:K.lookup Zj6=some ⟨ZuI,ZuJ,.func (fnOf "tree_of" "tree_of" (defArgs Zcd) (defBody Zcd) (defScope Zcd) .none ZuK ZuL ZuM ZuN Zng ZuO),ZuP⟩) (Zg3:codeIn K Zng "tree_of"=true) (Zff:keepIn K (.ref Zj6)=true)
  (ZiF:nsIn K mainGlobals "way_up"=some (some (.ref Zl5))) (ZiG:K.lookup Zl5=some ⟨Zvb,Zvc,.func (fnOf "way_up" "way_up" (defArgs ZdC) (defBody ZdC) (defScope ZdC) .none Zvd Zve Zvf Zvg Zpb Zvh),Zvi⟩) (ZiH:codeIn K Zpb "way_up"=true) (Zgo:keepIn K (.ref Zl5)=true)
  (ZfO:nsIn K mainGlobals "young_of"=some (some (.ref ZiI))) (ZfP:K.lookup ZiI=some ⟨Zub,Zuc,.func (fnOf "young_of" "young_of" (defArgs Zbj) (defBody Zbj) (defScope Zbj) .none Zud Zue Zuf Zug Zl6 Zuh),Zui⟩) (ZfQ:codeIn K Zl6 "young_of"=true) (ZdZ:keepIn K (.ref ZiI)=true)
  (Zb3:nsIn K mainGlobals "from_below"=some (some (.ref Zd0))) (Zb4:K.lookup Zd0=some ⟨Zr6,Zr7,.func (fnOf "from_below" "from_below" (defArgs Zay) (defBody Zay) (defScope Zay) .none Zr8 Zr9 Zsa Zsb Zfr Zsc),Zsd⟩) (Zd1:codeIn K Zfr "from_below"=true) (Zb5:keepIn K (.ref Zd0)=true)
  (Zc7:Zfr=.ref Zbu) (Zc8:K.lookup Zbu=some ⟨Zse,Zsf,.fields Zjl,Zsg⟩) (Zc9:Zjl[11]?=some (.ref Zbv)) (Zbw:PySem.W.codeHdIn K Zbu Zbv=true) (Zda:K.lookup Zbv=none) (Zdb:Zbv∈ts)
  (Zd2:nsIn K mainGlobals "need_loose"=some (some (.ref Zgp))) (Zd3:K.lookup Zgp=some ⟨Zsh,Zsi,.func (fnOf "need_loose" "need_loose" (defArgs Zaz) (defBody Zaz) (defScope Zaz) .none Zsj Zsk Zsl Zsm Zjm Zsn),Zso⟩) (Zd4:codeIn K Zjm "need_loose"=true) (Zb6:keepIn K (.ref Zgp)=true)
  (Zb7:nsIn K mainGlobals "best_ahead"=some (some (.ref Zd5))) (Zb8:K.lookup Zd5=some ⟨Zsp,Zsq,.func (fnOf "best_ahead" "best_ahead" (defArgs ZaA) (defBody ZaA) (defScope ZaA) .none Zsr Zss Zst Zsu Zfs Zsv),Zsw⟩) (Zd6:codeIn K Zfs "best_ahead"=true) (Zb9:keepIn K (.ref Zd5)=true)
  (Zdc:Zfs=.ref Zbx) (Zdd:K.lookup Zbx=some ⟨Zsx,Zsy,.fields Zjn,Zsz⟩) (Zde:Zjn[11]?=some (.ref Zby)) (Zbz:PySem.W.codeHdIn K Zbx Zby=true) (Zdf:K.lookup Zby=none) (Zdg:Zby∈ts)
  (ZbA:nsIn K mainGlobals "best_behind"=some (some (.ref Zdh))) (ZbB:K.lookup Zdh=some ⟨Zrh,Zri,.func (fnOf "best_behind" "best_behind" (defArgs Zad) (defBody Zad) (defScope Zad) .none Zrj Zrk Zrl Zrm ZeS Zrn),Zro⟩) (Zdi:codeIn K ZeS "best_behind"=true) (ZbC:keepIn K (.ref Zdh)=true)
  (Zcy:ZeS=.ref Za5) (Zcz:K.lookup Za5=some ⟨Zrp,Zrq,.fields ZiJ,Zrr⟩) (ZcA:ZiJ[11]?=some (.ref Za6)) (Za7:PySem.W.codeHdIn K Za5 Za6=true) (ZcB:K.lookup Za6=none) (ZcC:Za6∈ts)
  (Zg4:nsIn K mainGlobals "pair_at"=some (some (.ref Zj7))) (Zg5:K.lookup Zj7=some ⟨ZuQ,ZuR,.func (fnOf "pair_at" "pair_at" (defArgs Zce) (defBody Zce) (defScope Zce) .none ZuS ZuT ZuU ZuV Znh ZuW),ZuX⟩) (Zg6:codeIn K Znh "pair_at"=true) (Zfg:keepIn K (.ref Zj7)=true)
  (ZfR:nsIn K mainGlobals "table_by"=some (some (.ref ZiK))) (ZfS:K.lookup ZiK=some ⟨Zuj,Zuk,.func (fnOf "table_by" "table_by" (defArgs Zbk) (defBody Zbk) (defScope Zbk) .none Zul Zum Zun Zuo Zl7 Zup),Zuq⟩) (ZfT:codeIn K Zl7 "table_by"=true) (Zd7:keepIn K (.ref ZiK)=true)
  (ZfU:nsIn K mainGlobals "table_of"=some (some (.ref ZiL))) (ZfV:K.lookup ZiL=some ⟨Zur,Zus,.func (fnOf "table_of" "table_of" (defArgs Zbl) (defBody Zbl) (defScope Zbl) .none Zut Zuu Zuv Zuw Zl8 Zux),Zuy⟩) (ZfW:codeIn K Zl8 "table_of"=true) (Zd8:keepIn K (.ref ZiL)=true)
  (Zdj:nsIn K mainGlobals "table_right"=some (some (.ref Zft))) (Zdk:K.lookup Zft=some ⟨Zrs,Zrt,.func (fnOf "table_right" "table_right" (defArgs Zae) (defBody Zae) (defScope Zae) .none Zru Zrv Zrw Zrx ZiM Zry),Zrz⟩) (Zdl:codeIn K ZiM "table_right"=true) (ZbD:keepIn K (.ref Zft)=true)
  (Zdm:nsIn K mainGlobals "lies_within"=some (some (.ref Zfu))) (Zdn:K.lookup Zfu=some ⟨ZrA,ZrB,.func (fnOf "lies_within" "lies_within" (defArgs Zaf) (defBody Zaf) (defScope Zaf) .none ZrC ZrD ZrE ZrF ZiN ZrG),ZrH⟩) (Zdo:codeIn K ZiN "lies_within"=true) (ZbE:keepIn K (.ref Zfu)=true)
  (Za8:nsIn K mainGlobals "least_stretches"=some (some (.ref ZcP))) (Za9:K.lookup ZcP=some ⟨Zni,Znj,.func (fnOf "least_stretches" "least_stretches" (defArgs ZK) (defBody ZK) (defScope ZK) .none Znk Znl Znm Znn ZfX Zno),Znp⟩) (Zba:codeIn K ZfX "least_stretches"=true) (Zao:keepIn K (.ref ZcP)=true)
  (ZeT:nsIn K mainGlobals "places_by"=some (some (.ref Zhi))) (ZeU:K.lookup Zhi=some ⟨ZtF,ZtG,.func (fnOf "places_by" "places_by" (defArgs ZaT) (defBody ZaT) (defScope ZaT) .none ZtH ZtI ZtJ ZtK ZkQ ZtL),ZtM⟩) (ZeV:codeIn K ZkQ "places_by"=true) (ZcQ:keepIn K (.ref Zhi)=true)
  (ZeW:nsIn K mainGlobals "places_in"=some (some (.ref Zhj))) (ZeX:K.lookup Zhj=some ⟨ZtN,ZtO,.func (fnOf "places_in" "places_in" (defArgs ZaU) (defBody ZaU) (defScope ZaU) .none ZtP ZtQ ZtR ZtS ZkR ZtT),ZtU⟩) (ZeY:codeIn K ZkR "places_in"=true) (ZcR:keepIn K (.ref Zhj)=true)
  {f_Holding___init__:Addr}{od_Holding___init__ an_Holding___init__:Option Addr}{sl_Holding___init__:Array (Option Value)}{oc_Holding___init__ kV_Holding___init__ dc_Holding___init__ pm_Holding___init__ cd_Holding___init__ ct_Holding___init__:Value}
  (a_Holding___init__:PySem.W.findIn K (.ref C_Holding) "__init__"=some (some (.ref f_Holding___init__))) (i_Holding___init__:PySem.W.isFn K (.ref f_Holding___init__)=true) (l_Holding___init__:K.lookup f_Holding___init__=some ⟨oc_Holding___init__,od_Holding___init__,.func (fnOf "__init__" "Holding.__init__" (defArgs ZH) (defBody ZH) (defScope ZH) .none kV_Holding___init__ dc_Holding___init__ pm_Holding___init__ an_Holding___init__ cd_Holding___init__ ct_Holding___init__),sl_Holding___init__⟩) (c_Holding___init__:codeIn K cd_Holding___init__ "Holding.__init__"=true) (k_Holding___init__:keepIn K (.ref f_Holding___init__)=true)
  {f_Holding_ways:Addr}{od_Holding_ways an_Holding_ways:Option Addr}{sl_Holding_ways:Array (Option Value)}{oc_Holding_ways kV_Holding_ways dc_Holding_ways pm_Holding_ways cd_Holding_ways ct_Holding_ways:Value}
  (a_Holding_ways:PySem.W.findIn K (.ref C_Holding) "ways"=some (some (.ref f_Holding_ways))) (i_Holding_ways:PySem.W.isFn K (.ref f_Holding_ways)=true) (l_Holding_ways:K.lookup f_Holding_ways=some ⟨oc_Holding_ways,od_Holding_ways,.func (fnOf "ways" "Holding.ways" (defArgs ZZ) (defBody ZZ) (defScope ZZ) .none kV_Holding_ways dc_Holding_ways pm_Holding_ways an_Holding_ways cd_Holding_ways ct_Holding_ways),sl_Holding_ways⟩) (c_Holding_ways:codeIn K cd_Holding_ways "Holding.ways"=true) (k_Holding_ways:keepIn K (.ref f_Holding_ways)=true)
  {f_Holding_fits:Addr}{od_Holding_fits an_Holding_fits:Option Addr}{sl_Holding_fits:Array (Option Value)}{oc_Holding_fits kV_Holding_fits dc_Holding_fits pm_Holding_fits cd_Holding_fits ct_Holding_fits:Value}
  (a_Holding_fits:PySem.W.findIn K (.ref C_Holding) "fits"=some (some (.ref f_Holding_fits))) (i_Holding_fits:PySem.W.isFn K (.ref f_Holding_fits)=true) (l_Holding_fits:K.lookup f_Holding_fits=some ⟨oc_Holding_fits,od_Holding_fits,.func (fnOf "fits" "Holding.fits" (defArgs Z0) (defBody Z0) (defScope Z0) .none kV_Holding_fits dc_Holding_fits pm_Holding_fits an_Holding_fits cd_Holding_fits ct_Holding_fits),sl_Holding_fits⟩) (c_Holding_fits:codeIn K cd_Holding_fits "Holding.fits"=true) (k_Holding_fits:keepIn K (.ref f_Holding_fits)=true)
  {f_Holding_ways_at:Addr}{od_Holding_ways_at an_Holding_ways_at:Option Addr}{sl_Holding_ways_at:Array (Option Value)}{oc_Holding_ways_at kV_Holding_ways_at dc_Holding_ways_at pm_Holding_ways_at cd_Holding_ways_at ct_Holding_ways_at:Value}
  (a_Holding_ways_at:PySem.W.findIn K (.ref C_Holding) "ways_at"=some (some (.ref f_Holding_ways_at))) (i_Holding_ways_at:PySem.W.isFn K (.ref f_Holding_ways_at)=true) (l_Holding_ways_at:K.lookup f_Holding_ways_at=some ⟨oc_Holding_ways_at,od_Holding_ways_at,.func (fnOf "ways_at" "Holding.ways_at" (defArgs ZL) (defBody ZL) (defScope ZL) .none kV_Holding_ways_at dc_Holding_ways_at pm_Holding_ways_at an_Holding_ways_at cd_Holding_ways_at ct_Holding_ways_at),sl_Holding_ways_at⟩) (c_Holding_ways_at:codeIn K cd_Holding_ways_at "Holding.ways_at"=true) (k_Holding_ways_at:keepIn K (.ref f_Holding_ways_at)=true)
  (Zd9:nsIn K mainGlobals "many_loose"=some (some (.ref Zgq))) (Zea:K.lookup Zgq=some ⟨ZsA,ZsB,.func (fnOf "many_loose" "many_loose" (defArgs ZaB) (defBody ZaB) (defScope ZaB) .none ZsC ZsD ZsE ZsF Zjo ZsG),ZsH⟩) (Zeb:codeIn K Zjo "many_loose"=true) (Zca:keepIn K (.ref Zgq)=true)
  (ZeZ:nsIn K mainGlobals "_law_deal"=some (some (.ref Zhk))) (Ze0:K.lookup Zhk=some ⟨ZtV,ZtW,.func (fnOf "_law_deal" "_law_deal" (defArgs ZaV) (defBody ZaV) (defScope ZaV) .none ZtX ZtY ZtZ Zt0 ZkS Zt1),Zt2⟩) (Ze1:codeIn K ZkS "_law_deal"=true) (ZcS:keepIn K (.ref Zhk)=true)
  (Ze2:nsIn K mainGlobals "_law_take"=some (some (.ref Zhl))) (Ze3:K.lookup Zhl=some ⟨Zt3,Zt4,.func (fnOf "_law_take" "_law_take" (defArgs ZaW) (defBody ZaW) (defScope ZaW) .none Zt5 Zt6 Zt7 Zt8 ZkT Zt9),Zua⟩) (Ze4:codeIn K ZkT "_law_take"=true) (ZcT:keepIn K (.ref Zhl)=true)
  (Zec:nsIn K mainGlobals "_law_alone"=some (some (.ref Zgr))) (Zed:K.lookup Zgr=some ⟨ZsI,ZsJ,.func (fnOf "_law_alone" "_law_alone" (defArgs ZaC) (defBody ZaC) (defScope ZaC) .none ZsK ZsL ZsM ZsN Zjp ZsO),ZsP⟩) (Zee:codeIn K Zjp "_law_alone"=true) (Zcb:keepIn K (.ref Zgr)=true)
  (Zdp:nsIn K mainGlobals "_law_either"=some (some (.ref Zfv))) (Zdq:K.lookup Zfv=some ⟨ZrI,ZrJ,.func (fnOf "_law_either" "_law_either" (defArgs Zag) (defBody Zag) (defScope Zag) .none ZrK ZrL ZrM ZrN ZiO ZrO),ZrP⟩) (Zdr:codeIn K ZiO "_law_either"=true) (ZbF:keepIn K (.ref Zfv)=true)
  (Zef:nsIn K mainGlobals "_law_asked"=some (some (.ref Zgs))) (Zeg:K.lookup Zgs=some ⟨ZsQ,ZsR,.func (fnOf "_law_asked" "_law_asked" (defArgs ZaD) (defBody ZaD) (defScope ZaD) .none ZsS ZsT ZsU ZsV Zjq ZsW),ZsX⟩) (Zeh:codeIn K Zjq "_law_asked"=true) (Zcc:keepIn K (.ref Zgs)=true)
  (ZfY:nsIn K mainGlobals "_law_due"=some (some (.ref ZiP))) (ZfZ:K.lookup ZiP=some ⟨Zuz,ZuA,.func (fnOf "_law_due" "_law_due" (defArgs Zbm) (defBody Zbm) (defScope Zbm) .none ZuB ZuC ZuD ZuE Zl9 ZuF),ZuG⟩) (Zf0:codeIn K Zl9 "_law_due"=true) (Zei:keepIn K (.ref ZiP)=true)
  (ZrQ:nsIn K mainGlobals "law"=some (some (.ref ZuH))) (ZrR:K.lookup ZuH=some ⟨Zvk,Zvl,.func (fnOf "law" "law" (defArgs Zgi) (defBody Zgi) (defScope Zgi) .none ZuY ZuZ Zu0 Zu1 ZrS Zu2),Zvm⟩) (ZrT:codeIn K ZrS "law"=true) (ZrU:keepIn K (.ref ZuH)=true)
  {C_DipError:Addr} (n_DipError:nsIn K mainGlobals "DipError"=some (some (.ref C_DipError))) (x_DipError:PySem.W.excIn K C_DipError bmV newV=true) (d_DipError:PySem.W.hasDictIn K C_DipError=true) (y_DipError:PySem.W.typeIn K (.ref C_DipError)=some (.type "type"))
  {C_Unlike:Addr} (n_Unlike:nsIn K mainGlobals "Unlike"=some (some (.ref C_Unlike))) (x_Unlike:PySem.W.excIn K C_Unlike bmV newV=true) (d_Unlike:PySem.W.hasDictIn K C_Unlike=true) (y_Unlike:PySem.W.typeIn K (.ref C_Unlike)=some (.type "type"))
  {C_Empty:Addr} (n_Empty:nsIn K mainGlobals "Empty"=some (some (.ref C_Empty))) (x_Empty:PySem.W.excIn K C_Empty bmV newV=true) (d_Empty:PySem.W.hasDictIn K C_Empty=true) (y_Empty:PySem.W.typeIn K (.ref C_Empty)=some (.type "type"))
  {C_TooMany:Addr} (n_TooMany:nsIn K mainGlobals "TooMany"=some (some (.ref C_TooMany))) (x_TooMany:PySem.W.excIn K C_TooMany bmV newV=true) (d_TooMany:PySem.W.hasDictIn K C_TooMany=true) (y_TooMany:PySem.W.typeIn K (.ref C_TooMany)=some (.type "type"))
  {C_NoTree:Addr} (n_NoTree:nsIn K mainGlobals "NoTree"=some (some (.ref C_NoTree))) (x_NoTree:PySem.W.excIn K C_NoTree bmV newV=true) (d_NoTree:PySem.W.hasDictIn K C_NoTree=true) (y_NoTree:PySem.W.typeIn K (.ref C_NoTree)=some (.type "type"))
  {C_NoTelling:Addr} (n_NoTelling:nsIn K mainGlobals "NoTelling"=some (some (.ref C_NoTelling))) (x_NoTelling:PySem.W.excIn K C_NoTelling bmV newV=true) (d_NoTelling:PySem.W.hasDictIn K C_NoTelling=true) (y_NoTelling:PySem.W.typeIn K (.ref C_NoTelling)=some (.type "type"))
  {C_NoPlace:Addr} (n_NoPlace:nsIn K mainGlobals "NoPlace"=some (some (.ref C_NoPlace))) (x_NoPlace:PySem.W.excIn K C_NoPlace bmV newV=true) (d_NoPlace:PySem.W.hasDictIn K C_NoPlace=true) (y_NoPlace:PySem.W.typeIn K (.ref C_NoPlace)=some (.type "type"))
  {C_NoNumber:Addr} (n_NoNumber:nsIn K mainGlobals "NoNumber"=some (some (.ref C_NoNumber))) (x_NoNumber:PySem.W.excIn K C_NoNumber bmV newV=true) (d_NoNumber:PySem.W.hasDictIn K C_NoNumber=true) (y_NoNumber:PySem.W.typeIn K (.ref C_NoNumber)=some (.type "type"))
  {C_NoPast:Addr} (n_NoPast:nsIn K mainGlobals "NoPast"=some (some (.ref C_NoPast))) (x_NoPast:PySem.W.excIn K C_NoPast bmV newV=true) (d_NoPast:PySem.W.hasDictIn K C_NoPast=true) (y_NoPast:PySem.W.typeIn K (.ref C_NoPast)=some (.type "type"))
  {C_NoText:Addr} (n_NoText:nsIn K mainGlobals "NoText"=some (some (.ref C_NoText))) (x_NoText:PySem.W.excIn K C_NoText bmV newV=true) (d_NoText:PySem.W.hasDictIn K C_NoText=true) (y_NoText:PySem.W.typeIn K (.ref C_NoText)=some (.type "type"))
  {C_NoLine:Addr} (n_NoLine:nsIn K mainGlobals "NoLine"=some (some (.ref C_NoLine))) (x_NoLine:PySem.W.excIn K C_NoLine bmV newV=true) (d_NoLine:PySem.W.hasDictIn K C_NoLine=true) (y_NoLine:PySem.W.typeIn K (.ref C_NoLine)=some (.type "type"))
  (z1_Empty:PySem.W.hasDictIn K C_Empty=true) (z2_Empty:PySem.W.findIn K (.ref C_Empty) "__getattribute__"=some (some (.builtin "BaseException.__getattribute__"))) (z3_Empty:PySem.W.findIn K (.ref C_Empty) "__getattr__"=some none) (z4_Empty:PySem.W.findIn K (.ref C_Empty) "__class__"=some (some (.builtin "object.__class__"))) (z5_Empty:PySem.W.specialIn K (.builtin "object.__class__") "__get__"=some (some (.builtin "getset_descriptor.__get__"))) (z6_Empty:PySem.W.takesIn K (.builtin "object.__class__")=some true) (z7_Empty:PySem.W.mroIn K C_Empty (.type "object")=some true) (z8_Empty:PySem.W.mroIn K C_Empty (.type "BaseException")=some true)
  (u_Empty:PySem.W.mroIn K C_Empty (.ref C_DipError)=some true)
  (i_Empty_DipError:PySem.W.subIn K (.ref C_Empty) (.ref C_DipError)=some true) (ne_Empty_DipError:C_Empty≠C_DipError)
  (i_Empty_Unlike:PySem.W.subIn K (.ref C_Empty) (.ref C_Unlike)=some false) (ne_Empty_Unlike:C_Empty≠C_Unlike)
  (i_Empty_TooMany:PySem.W.subIn K (.ref C_Empty) (.ref C_TooMany)=some false) (ne_Empty_TooMany:C_Empty≠C_TooMany)
  (i_Empty_NoTree:PySem.W.subIn K (.ref C_Empty) (.ref C_NoTree)=some false) (ne_Empty_NoTree:C_Empty≠C_NoTree)
  (i_Empty_NoTelling:PySem.W.subIn K (.ref C_Empty) (.ref C_NoTelling)=some false) (ne_Empty_NoTelling:C_Empty≠C_NoTelling)
  (i_Empty_NoPlace:PySem.W.subIn K (.ref C_Empty) (.ref C_NoPlace)=some false) (ne_Empty_NoPlace:C_Empty≠C_NoPlace)
  (i_Empty_NoNumber:PySem.W.subIn K (.ref C_Empty) (.ref C_NoNumber)=some false) (ne_Empty_NoNumber:C_Empty≠C_NoNumber)
  (i_Empty_NoPast:PySem.W.subIn K (.ref C_Empty) (.ref C_NoPast)=some false) (ne_Empty_NoPast:C_Empty≠C_NoPast)
  (i_Empty_NoText:PySem.W.subIn K (.ref C_Empty) (.ref C_NoText)=some false) (ne_Empty_NoText:C_Empty≠C_NoText)
  (i_Empty_NoLine:PySem.W.subIn K (.ref C_Empty) (.ref C_NoLine)=some false) (ne_Empty_NoLine:C_Empty≠C_NoLine)
  (i_Empty_V:PySem.W.subIn K (.ref C_Empty) (.type "ValueError")=some true)
  (z1_TooMany:PySem.W.hasDictIn K C_TooMany=true) (z2_TooMany:PySem.W.findIn K (.ref C_TooMany) "__getattribute__"=some (some (.builtin "BaseException.__getattribute__"))) (z3_TooMany:PySem.W.findIn K (.ref C_TooMany) "__getattr__"=some none) (z4_TooMany:PySem.W.findIn K (.ref C_TooMany) "__class__"=some (some (.builtin "object.__class__"))) (z5_TooMany:PySem.W.specialIn K (.builtin "object.__class__") "__get__"=some (some (.builtin "getset_descriptor.__get__"))) (z6_TooMany:PySem.W.takesIn K (.builtin "object.__class__")=some true) (z7_TooMany:PySem.W.mroIn K C_TooMany (.type "object")=some true) (z8_TooMany:PySem.W.mroIn K C_TooMany (.type "BaseException")=some true)
  (u_TooMany:PySem.W.mroIn K C_TooMany (.ref C_DipError)=some true)
  (i_TooMany_DipError:PySem.W.subIn K (.ref C_TooMany) (.ref C_DipError)=some true) (ne_TooMany_DipError:C_TooMany≠C_DipError)
  (i_TooMany_Unlike:PySem.W.subIn K (.ref C_TooMany) (.ref C_Unlike)=some false) (ne_TooMany_Unlike:C_TooMany≠C_Unlike)
  (i_TooMany_Empty:PySem.W.subIn K (.ref C_TooMany) (.ref C_Empty)=some false) (ne_TooMany_Empty:C_TooMany≠C_Empty)
  (i_TooMany_NoTree:PySem.W.subIn K (.ref C_TooMany) (.ref C_NoTree)=some false) (ne_TooMany_NoTree:C_TooMany≠C_NoTree)
  (i_TooMany_NoTelling:PySem.W.subIn K (.ref C_TooMany) (.ref C_NoTelling)=some false) (ne_TooMany_NoTelling:C_TooMany≠C_NoTelling)
  (i_TooMany_NoPlace:PySem.W.subIn K (.ref C_TooMany) (.ref C_NoPlace)=some false) (ne_TooMany_NoPlace:C_TooMany≠C_NoPlace)
  (i_TooMany_NoNumber:PySem.W.subIn K (.ref C_TooMany) (.ref C_NoNumber)=some false) (ne_TooMany_NoNumber:C_TooMany≠C_NoNumber)
  (i_TooMany_NoPast:PySem.W.subIn K (.ref C_TooMany) (.ref C_NoPast)=some false) (ne_TooMany_NoPast:C_TooMany≠C_NoPast)
  (i_TooMany_NoText:PySem.W.subIn K (.ref C_TooMany) (.ref C_NoText)=some false) (ne_TooMany_NoText:C_TooMany≠C_NoText)
  (i_TooMany_NoLine:PySem.W.subIn K (.ref C_TooMany) (.ref C_NoLine)=some false) (ne_TooMany_NoLine:C_TooMany≠C_NoLine)
  (i_TooMany_V:PySem.W.subIn K (.ref C_TooMany) (.type "ValueError")=some true)
  (z1_NoPlace:PySem.W.hasDictIn K C_NoPlace=true) (z2_NoPlace:PySem.W.findIn K (.ref C_NoPlace) "__getattribute__"=some (some (.builtin "BaseException.__getattribute__"))) (z3_NoPlace:PySem.W.findIn K (.ref C_NoPlace) "__getattr__"=some none) (z4_NoPlace:PySem.W.findIn K (.ref C_NoPlace) "__class__"=some (some (.builtin "object.__class__"))) (z5_NoPlace:PySem.W.specialIn K (.builtin "object.__class__") "__get__"=some (some (.builtin "getset_descriptor.__get__"))) (z6_NoPlace:PySem.W.takesIn K (.builtin "object.__class__")=some true) (z7_NoPlace:PySem.W.mroIn K C_NoPlace (.type "object")=some true) (z8_NoPlace:PySem.W.mroIn K C_NoPlace (.type "BaseException")=some true)
  (u_NoPlace:PySem.W.mroIn K C_NoPlace (.ref C_DipError)=some true)
  (i_NoPlace_DipError:PySem.W.subIn K (.ref C_NoPlace) (.ref C_DipError)=some true) (ne_NoPlace_DipError:C_NoPlace≠C_DipError)
  (i_NoPlace_Unlike:PySem.W.subIn K (.ref C_NoPlace) (.ref C_Unlike)=some false) (ne_NoPlace_Unlike:C_NoPlace≠C_Unlike)
  (i_NoPlace_Empty:PySem.W.subIn K (.ref C_NoPlace) (.ref C_Empty)=some false) (ne_NoPlace_Empty:C_NoPlace≠C_Empty)
  (i_NoPlace_TooMany:PySem.W.subIn K (.ref C_NoPlace) (.ref C_TooMany)=some false) (ne_NoPlace_TooMany:C_NoPlace≠C_TooMany)
  (i_NoPlace_NoTree:PySem.W.subIn K (.ref C_NoPlace) (.ref C_NoTree)=some false) (ne_NoPlace_NoTree:C_NoPlace≠C_NoTree)
  (i_NoPlace_NoTelling:PySem.W.subIn K (.ref C_NoPlace) (.ref C_NoTelling)=some false) (ne_NoPlace_NoTelling:C_NoPlace≠C_NoTelling)
  (i_NoPlace_NoNumber:PySem.W.subIn K (.ref C_NoPlace) (.ref C_NoNumber)=some false) (ne_NoPlace_NoNumber:C_NoPlace≠C_NoNumber)
  (i_NoPlace_NoPast:PySem.W.subIn K (.ref C_NoPlace) (.ref C_NoPast)=some false) (ne_NoPlace_NoPast:C_NoPlace≠C_NoPast)
  (i_NoPlace_NoText:PySem.W.subIn K (.ref C_NoPlace) (.ref C_NoText)=some false) (ne_NoPlace_NoText:C_NoPlace≠C_NoText)
  (i_NoPlace_NoLine:PySem.W.subIn K (.ref C_NoPlace) (.ref C_NoLine)=some false) (ne_NoPlace_NoLine:C_NoPlace≠C_NoLine)
  (i_NoPlace_V:PySem.W.subIn K (.ref C_NoPlace) (.type "ValueError")=some true)
  (ty_tuple:PySem.W.subIn K (.type "tuple") (.ref C_DipError)=some false)
  (ty_bool:PySem.W.subIn K (.type "bool") (.ref C_DipError)=some false)
  (ty_list:PySem.W.subIn K (.type "list") (.ref C_DipError)=some false)
  (ty_int:PySem.W.subIn K (.type "int") (.ref C_DipError)=some false)
  (b_ValueError:nsIn K mainGlobals "ValueError"=some none)
  (b_any:nsIn K mainGlobals "any"=some none)
  (b_enumerate:nsIn K mainGlobals "enumerate"=some none)
  (b_isinstance:nsIn K mainGlobals "isinstance"=some none)
  (b_len:nsIn K mainGlobals "len"=some none)
  (b_list:nsIn K mainGlobals "list"=some none)
  (b_max:nsIn K mainGlobals "max"=some none)
  (b_min:nsIn K mainGlobals "min"=some none)
  (b_range:nsIn K mainGlobals "range"=some none)
  (b_sorted:nsIn K mainGlobals "sorted"=some none)
  (b_sum:nsIn K mainGlobals "sum"=some none)
  (b_tuple:nsIn K mainGlobals "tuple"=some none)
  {t_MOST_HELD:Tok} (m_MOST_HELD:nsIn K mainGlobals "MOST_HELD"=some (some (.int 6 t_MOST_HELD)))
  {t_MOST_HOLDING:Tok} (m_MOST_HOLDING:nsIn K mainGlobals "MOST_HOLDING"=some (some (.int 16 t_MOST_HOLDING)))
  (nd:[Zbv,Zby,Za6].Nodup)
  : ∃fd:FuncData,(∀(s:Shared) (v:Value),BindsTo s fd ⟨[v],[]⟩ [("script",v)])/\(∀p∈ZeG K mg,p.1∈ts/\K.lookup p.1=none/\∃c,PySem.W.codeHdIn K c p.1=true)/\((ZeG K mg).map (·.1)).Nodup/\∀base:Heap,K.In base->base.Ns mainGlobals mg->BM mg base->FnOk l.prog w K mg base (CXE l.prog w) 25 fa fd ["script"] (Zoe K mg):=by
 have e:=hfa.symm.trans (mg_of X G ZrQ)
 cases e
 have q_DipError:clsAt mg "DipError"=C_DipError:=by unfold clsAt;rw[mg_of X G n_DipError]
 have q_Unlike:clsAt mg "Unlike"=C_Unlike:=by unfold clsAt;rw[mg_of X G n_Unlike]
 have q_Empty:clsAt mg "Empty"=C_Empty:=by unfold clsAt;rw[mg_of X G n_Empty]
 have q_TooMany:clsAt mg "TooMany"=C_TooMany:=by unfold clsAt;rw[mg_of X G n_TooMany]
 have q_NoTree:clsAt mg "NoTree"=C_NoTree:=by unfold clsAt;rw[mg_of X G n_NoTree]
 have q_NoTelling:clsAt mg "NoTelling"=C_NoTelling:=by unfold clsAt;rw[mg_of X G n_NoTelling]
 have q_NoPlace:clsAt mg "NoPlace"=C_NoPlace:=by unfold clsAt;rw[mg_of X G n_NoPlace]
 have q_NoNumber:clsAt mg "NoNumber"=C_NoNumber:=by unfold clsAt;rw[mg_of X G n_NoNumber]
 have q_NoPast:clsAt mg "NoPast"=C_NoPast:=by unfold clsAt;rw[mg_of X G n_NoPast]
 have q_NoText:clsAt mg "NoText"=C_NoText:=by unfold clsAt;rw[mg_of X G n_NoText]
 have q_NoLine:clsAt mg "NoLine"=C_NoLine:=by unfold clsAt;rw[mg_of X G n_NoLine]
 have q_Holding:clsAt mg "Holding"=C_Holding:=by unfold clsAt;rw[mg_of X G n_Holding]
 have q_MOST_HELD:tokAt mg "MOST_HELD"=t_MOST_HELD:=by unfold tokAt;rw[mg_of X G m_MOST_HELD]
 have q_MOST_HOLDING:tokAt mg "MOST_HOLDING"=t_MOST_HOLDING:=by unfold tokAt;rw[mg_of X G m_MOST_HOLDING]
 have T:Txt K mg:={
  b_ValueError:=mg_none_of X G b_ValueError
  b_any:=mg_none_of X G b_any
  b_enumerate:=mg_none_of X G b_enumerate
  b_isinstance:=mg_none_of X G b_isinstance
  b_len:=mg_none_of X G b_len
  b_list:=mg_none_of X G b_list
  b_max:=mg_none_of X G b_max
  b_min:=mg_none_of X G b_min
  b_range:=mg_none_of X G b_range
  b_sorted:=mg_none_of X G b_sorted
  b_sum:=mg_none_of X G b_sum
  b_tuple:=mg_none_of X G b_tuple
  c_DipError:=by rw[q_DipError];exact mg_of X G n_DipError
  x_DipError:=by rw[q_DipError];exact x_DipError
  c_Unlike:=by rw[q_Unlike];exact mg_of X G n_Unlike
  x_Unlike:=by rw[q_Unlike];exact x_Unlike
  c_Empty:=by rw[q_Empty];exact mg_of X G n_Empty
  x_Empty:=by rw[q_Empty];exact x_Empty
  c_TooMany:=by rw[q_TooMany];exact mg_of X G n_TooMany
  x_TooMany:=by rw[q_TooMany];exact x_TooMany
  c_NoTree:=by rw[q_NoTree];exact mg_of X G n_NoTree
  x_NoTree:=by rw[q_NoTree];exact x_NoTree
  c_NoTelling:=by rw[q_NoTelling];exact mg_of X G n_NoTelling
  x_NoTelling:=by rw[q_NoTelling];exact x_NoTelling
  c_NoPlace:=by rw[q_NoPlace];exact mg_of X G n_NoPlace
  x_NoPlace:=by rw[q_NoPlace];exact x_NoPlace
  c_NoNumber:=by rw[q_NoNumber];exact mg_of X G n_NoNumber
  x_NoNumber:=by rw[q_NoNumber];exact x_NoNumber
  c_NoPast:=by rw[q_NoPast];exact mg_of X G n_NoPast
  x_NoPast:=by rw[q_NoPast];exact x_NoPast
  c_NoText:=by rw[q_NoText];exact mg_of X G n_NoText
  x_NoText:=by rw[q_NoText];exact x_NoText
  c_NoLine:=by rw[q_NoLine];exact mg_of X G n_NoLine
  x_NoLine:=by rw[q_NoLine];exact x_NoLine
  ex_Empty:=by rw[q_Empty];exact⟨z1_Empty,z2_Empty,z3_Empty,z4_Empty,z5_Empty,z6_Empty,z7_Empty,z8_Empty⟩
  up_Empty:=by rw[q_Empty,q_DipError];exact u_Empty
  is_Empty_DipError:=by rw[q_Empty,q_DipError];exact Zr ne_Empty_DipError d_DipError y_DipError i_Empty_DipError
  is_Empty_Unlike:=by rw[q_Empty,q_Unlike];exact Zr ne_Empty_Unlike d_Unlike y_Unlike i_Empty_Unlike
  is_Empty_Empty:=by rw[q_Empty];exact ZhY
  is_Empty_TooMany:=by rw[q_Empty,q_TooMany];exact Zr ne_Empty_TooMany d_TooMany y_TooMany i_Empty_TooMany
  is_Empty_NoTree:=by rw[q_Empty,q_NoTree];exact Zr ne_Empty_NoTree d_NoTree y_NoTree i_Empty_NoTree
  is_Empty_NoTelling:=by rw[q_Empty,q_NoTelling];exact Zr ne_Empty_NoTelling d_NoTelling y_NoTelling i_Empty_NoTelling
  is_Empty_NoPlace:=by rw[q_Empty,q_NoPlace];exact Zr ne_Empty_NoPlace d_NoPlace y_NoPlace i_Empty_NoPlace
  is_Empty_NoNumber:=by rw[q_Empty,q_NoNumber];exact Zr ne_Empty_NoNumber d_NoNumber y_NoNumber i_Empty_NoNumber
  is_Empty_NoPast:=by rw[q_Empty,q_NoPast];exact Zr ne_Empty_NoPast d_NoPast y_NoPast i_Empty_NoPast
  is_Empty_NoText:=by rw[q_Empty,q_NoText];exact Zr ne_Empty_NoText d_NoText y_NoText i_Empty_NoText
  is_Empty_NoLine:=by rw[q_Empty,q_NoLine];exact Zr ne_Empty_NoLine d_NoLine y_NoLine i_Empty_NoLine
  is_Empty_V:=by rw[q_Empty];exact Zp4 i_Empty_V
  ex_TooMany:=by rw[q_TooMany];exact⟨z1_TooMany,z2_TooMany,z3_TooMany,z4_TooMany,z5_TooMany,z6_TooMany,z7_TooMany,z8_TooMany⟩
  up_TooMany:=by rw[q_TooMany,q_DipError];exact u_TooMany
  is_TooMany_DipError:=by rw[q_TooMany,q_DipError];exact Zr ne_TooMany_DipError d_DipError y_DipError i_TooMany_DipError
  is_TooMany_Unlike:=by rw[q_TooMany,q_Unlike];exact Zr ne_TooMany_Unlike d_Unlike y_Unlike i_TooMany_Unlike
  is_TooMany_Empty:=by rw[q_TooMany,q_Empty];exact Zr ne_TooMany_Empty d_Empty y_Empty i_TooMany_Empty
  is_TooMany_TooMany:=by rw[q_TooMany];exact ZhY
  is_TooMany_NoTree:=by rw[q_TooMany,q_NoTree];exact Zr ne_TooMany_NoTree d_NoTree y_NoTree i_TooMany_NoTree
  is_TooMany_NoTelling:=by rw[q_TooMany,q_NoTelling];exact Zr ne_TooMany_NoTelling d_NoTelling y_NoTelling i_TooMany_NoTelling
  is_TooMany_NoPlace:=by rw[q_TooMany,q_NoPlace];exact Zr ne_TooMany_NoPlace d_NoPlace y_NoPlace i_TooMany_NoPlace
  is_TooMany_NoNumber:=by rw[q_TooMany,q_NoNumber];exact Zr ne_TooMany_NoNumber d_NoNumber y_NoNumber i_TooMany_NoNumber
  is_TooMany_NoPast:=by rw[q_TooMany,q_NoPast];exact Zr ne_TooMany_NoPast d_NoPast y_NoPast i_TooMany_NoPast
  is_TooMany_NoText:=by rw[q_TooMany,q_NoText];exact Zr ne_TooMany_NoText d_NoText y_NoText i_TooMany_NoText
  is_TooMany_NoLine:=by rw[q_TooMany,q_NoLine];exact Zr ne_TooMany_NoLine d_NoLine y_NoLine i_TooMany_NoLine
  is_TooMany_V:=by rw[q_TooMany];exact Zp4 i_TooMany_V
  ex_NoPlace:=by rw[q_NoPlace];exact⟨z1_NoPlace,z2_NoPlace,z3_NoPlace,z4_NoPlace,z5_NoPlace,z6_NoPlace,z7_NoPlace,z8_NoPlace⟩
  up_NoPlace:=by rw[q_NoPlace,q_DipError];exact u_NoPlace
  is_NoPlace_DipError:=by rw[q_NoPlace,q_DipError];exact Zr ne_NoPlace_DipError d_DipError y_DipError i_NoPlace_DipError
  is_NoPlace_Unlike:=by rw[q_NoPlace,q_Unlike];exact Zr ne_NoPlace_Unlike d_Unlike y_Unlike i_NoPlace_Unlike
  is_NoPlace_Empty:=by rw[q_NoPlace,q_Empty];exact Zr ne_NoPlace_Empty d_Empty y_Empty i_NoPlace_Empty
  is_NoPlace_TooMany:=by rw[q_NoPlace,q_TooMany];exact Zr ne_NoPlace_TooMany d_TooMany y_TooMany i_NoPlace_TooMany
  is_NoPlace_NoTree:=by rw[q_NoPlace,q_NoTree];exact Zr ne_NoPlace_NoTree d_NoTree y_NoTree i_NoPlace_NoTree
  is_NoPlace_NoTelling:=by rw[q_NoPlace,q_NoTelling];exact Zr ne_NoPlace_NoTelling d_NoTelling y_NoTelling i_NoPlace_NoTelling
  is_NoPlace_NoPlace:=by rw[q_NoPlace];exact ZhY
  is_NoPlace_NoNumber:=by rw[q_NoPlace,q_NoNumber];exact Zr ne_NoPlace_NoNumber d_NoNumber y_NoNumber i_NoPlace_NoNumber
  is_NoPlace_NoPast:=by rw[q_NoPlace,q_NoPast];exact Zr ne_NoPlace_NoPast d_NoPast y_NoPast i_NoPlace_NoPast
  is_NoPlace_NoText:=by rw[q_NoPlace,q_NoText];exact Zr ne_NoPlace_NoText d_NoText y_NoText i_NoPlace_NoText
  is_NoPlace_NoLine:=by rw[q_NoPlace,q_NoLine];exact Zr ne_NoPlace_NoLine d_NoLine y_NoLine i_NoPlace_NoLine
  is_NoPlace_V:=by rw[q_NoPlace];exact Zp4 i_NoPlace_V
  ty_tuple:=by rw[q_DipError];exact ZkD d_DipError y_DipError ty_tuple
  ty_bool:=by rw[q_DipError];exact ZkD d_DipError y_DipError ty_bool
  ty_list:=by rw[q_DipError];exact ZkD d_DipError y_DipError ty_list
  ty_int:=by rw[q_DipError];exact ZkD d_DipError y_DipError ty_int
  c_Holding:=by rw[q_Holding];exact mg_of X G n_Holding
  cl_Holding:=by rw[q_Holding];exact⟨pg_Holding,hd_Holding,po_Holding,sa_Holding⟩
  n_Holding_text:=by rw[q_Holding];exact na_Holding_text
  n_Holding_tree:=by rw[q_Holding];exact na_Holding_tree
  n_Holding_young:=by rw[q_Holding];exact na_Holding_young
  n_Holding_known:=by rw[q_Holding];exact na_Holding_known
  m_MOST_HELD:=by rw[q_MOST_HELD];exact mg_of X G m_MOST_HELD
  m_MOST_HOLDING:=by rw[q_MOST_HOLDING];exact mg_of X G m_MOST_HOLDING
 }
 subst Zc7
 have Zaj:=ZkA (mg_of X G Zb3) Zb4 rfl Zc8 Zc9
 have ZkU:ZmS K mg "from_below" Zd0:=⟨Zbu,Zaj.2,by rw[Zaj.1];exact Zbw⟩
 subst Zdc
 have Zak:=ZkA (mg_of X G Zb7) Zb8 rfl Zdd Zde
 have ZkV:ZmS K mg "best_ahead" Zd5:=⟨Zbx,Zak.2,by rw[Zak.1];exact Zbz⟩
 subst Zcy
 have Z1:=ZkA (mg_of X G ZbA) ZbB rfl Zcz ZcA
 have Zjr:ZmS K mg "best_behind" Zdh:=⟨Za5,Z1.2,by rw[Z1.1];exact Za7⟩
 have Zbb:=Ztk (st:=ZX) Zct Zcu Zau
 have ZiQ:=Zbb.binds (ps:=["row","fewest"]) (ds:=[]) Za3 λ_ _ _ _ _ _ us hl=>by obtain⟨x0,u0,rfl,h0⟩:=le1 (show us.length=2 by simpa using hl);obtain⟨x1,u1,rfl,h1⟩:=le1 h0;obtain rfl:=le0 h1;exact⟨_,rfl,rfl⟩
 have ZhE:=Zbb.binds (ps:=["row","fewest"]) (ds:=[.int 1 Zep]) Za3 λ_ _ _ _ _ _ us hl=>by obtain⟨x0,u0,rfl,h0⟩:=le1 (show us.length=1 from Nat.succ.inj (YT.symm.trans hl));obtain rfl:=le0 h0;exact⟨_,rfl,rfl⟩
 have Zgt:=ZF (st:=Zax) ZdX ZdY Zb2
 have ZkW:=Zgt.binds (ps:=["many","a","b"]) λ_ _ _ _ _ _ us hl=>by obtain⟨x0,u0,rfl,h0⟩:=le1 hl;obtain⟨x1,u1,rfl,h1⟩:=le1 h0;obtain⟨x2,u2,rfl,h2⟩:=le1 h1;obtain rfl:=le0 h2;exact rfl
 have Ze5:=ZF (st:=ZY) Zcw Zcx Za4
 have ZiR:=Ze5.binds (ps:=["many","a","b"]) λ_ _ _ _ _ _ us hl=>by obtain⟨x0,u0,rfl,h0⟩:=le1 hl;obtain⟨x1,u1,rfl,h1⟩:=le1 h0;obtain⟨x2,u2,rfl,h2⟩:=le1 h1;obtain rfl:=le0 h2;exact rfl
 have Zma:=ZF (st:=ZdB) ZiD ZiE Zgn
 have ZrV:=Zma.binds (ps:=["elders","spine","place","keep"]) λ_ _ _ _ _ _ us hl=>by obtain⟨x0,u0,rfl,h0⟩:=le1 hl;obtain⟨x1,u1,rfl,h1⟩:=le1 h0;obtain⟨x2,u2,rfl,h2⟩:=le1 h1;obtain⟨x3,u3,rfl,h3⟩:=le1 h2;obtain rfl:=le0 h3;exact rfl
 have Zj8:=ZF (st:=Zcd) Zg2 Zg3 Zff
 have Zpc:=Zj8.binds (ps:=["row"]) λ_ _ _ _ _ _ us hl=>by obtain⟨x0,u0,rfl,h0⟩:=le1 hl;obtain rfl:=le0 h0;exact rfl
 have Zmb:=ZF (st:=ZdC) ZiG ZiH Zgo
 have ZrW:=Zmb.binds (ps:=["tree","place"]) λ_ _ _ _ _ _ us hl=>by obtain⟨x0,u0,rfl,h0⟩:=le1 hl;obtain⟨x1,u1,rfl,h1⟩:=le1 h0;obtain rfl:=le0 h1;exact rfl
 have ZiS:=ZF (st:=Zbj) ZfP ZfQ ZdZ
 have Znq:=ZiS.binds (ps:=["tree"]) λ_ _ _ _ _ _ us hl=>by obtain⟨x0,u0,rfl,h0⟩:=le1 hl;obtain rfl:=le0 h0;exact rfl
 have Zgu:=ZF (st:=Zay) Zb4 Zd1 Zb5
 have ZkX:=Zgu.binds (ps:=["tree"]) λ_ _ _ _ _ _ us hl=>by obtain⟨x0,u0,rfl,h0⟩:=le1 hl;obtain rfl:=le0 h0;exact rfl
 have Zgv:=ZF (st:=Zaz) Zd3 Zd4 Zb6
 have ZkY:=Zgv.binds (ps:=["row","text"]) λ_ _ _ _ _ _ us hl=>by obtain⟨x0,u0,rfl,h0⟩:=le1 hl;obtain⟨x1,u1,rfl,h1⟩:=le1 h0;obtain rfl:=le0 h1;exact rfl
 have Zgw:=ZF (st:=ZaA) Zb8 Zd6 Zb9
 have ZkZ:=Zgw.binds (ps:=["text","pairs","i"]) λ_ _ _ _ _ _ us hl=>by obtain⟨x0,u0,rfl,h0⟩:=le1 hl;obtain⟨x1,u1,rfl,h1⟩:=le1 h0;obtain⟨x2,u2,rfl,h2⟩:=le1 h1;obtain rfl:=le0 h2;exact rfl
 have Zfw:=ZF (st:=Zad) ZbB Zdi ZbC
 have Zjs:=Zfw.binds (ps:=["text","pairs","i"]) λ_ _ _ _ _ _ us hl=>by obtain⟨x0,u0,rfl,h0⟩:=le1 hl;obtain⟨x1,u1,rfl,h1⟩:=le1 h0;obtain⟨x2,u2,rfl,h2⟩:=le1 h1;obtain rfl:=le0 h2;exact rfl
 have Zj9:=ZF (st:=Zce) Zg5 Zg6 Zfg
 have Zpd:=Zj9.binds (ps:=["text","table","young","i"]) λ_ _ _ _ _ _ us hl=>by obtain⟨x0,u0,rfl,h0⟩:=le1 hl;obtain⟨x1,u1,rfl,h1⟩:=le1 h0;obtain⟨x2,u2,rfl,h2⟩:=le1 h1;obtain⟨x3,u3,rfl,h3⟩:=le1 h2;obtain rfl:=le0 h3;exact rfl
 have ZiT:=ZF (st:=Zbk) ZfS ZfT Zd7
 have Znr:=ZiT.binds (ps:=["tree","text"]) λ_ _ _ _ _ _ us hl=>by obtain⟨x0,u0,rfl,h0⟩:=le1 hl;obtain⟨x1,u1,rfl,h1⟩:=le1 h0;obtain rfl:=le0 h1;exact rfl
 have ZiU:=ZF (st:=Zbl) ZfV ZfW Zd8
 have Zns:=ZiU.binds (ps:=["row","text"]) λ_ _ _ _ _ _ us hl=>by obtain⟨x0,u0,rfl,h0⟩:=le1 hl;obtain⟨x1,u1,rfl,h1⟩:=le1 h0;obtain rfl:=le0 h1;exact rfl
 have Zfx:=ZF (st:=Zae) Zdk Zdl ZbD
 have Zjt:=Zfx.binds (ps:=["row","text","table"]) λ_ _ _ _ _ _ us hl=>by obtain⟨x0,u0,rfl,h0⟩:=le1 hl;obtain⟨x1,u1,rfl,h1⟩:=le1 h0;obtain⟨x2,u2,rfl,h2⟩:=le1 h1;obtain rfl:=le0 h2;exact rfl
 have Zfy:=ZF (st:=Zaf) Zdn Zdo ZbE
 have Zju:=Zfy.binds (ps:=["pair","other"]) λ_ _ _ _ _ _ us hl=>by obtain⟨x0,u0,rfl,h0⟩:=le1 hl;obtain⟨x1,u1,rfl,h1⟩:=le1 h0;obtain rfl:=le0 h1;exact rfl
 have ZcU:=ZF (st:=ZK) Za9 Zba Zao
 have Zgx:=ZcU.binds (ps:=["row","text"]) λ_ _ _ _ _ _ us hl=>by obtain⟨x0,u0,rfl,h0⟩:=le1 hl;obtain⟨x1,u1,rfl,h1⟩:=le1 h0;obtain rfl:=le0 h1;exact rfl
 have Zhm:=ZF (st:=ZaT) ZeU ZeV ZcQ
 have Zmc:=Zhm.binds (ps:=["tree","text","table","i"]) λ_ _ _ _ _ _ us hl=>by obtain⟨x0,u0,rfl,h0⟩:=le1 hl;obtain⟨x1,u1,rfl,h1⟩:=le1 h0;obtain⟨x2,u2,rfl,h2⟩:=le1 h1;obtain⟨x3,u3,rfl,h3⟩:=le1 h2;obtain rfl:=le0 h3;exact rfl
 have Zhn:=ZF (st:=ZaU) ZeX ZeY ZcR
 have Zmd:=Zhn.binds (ps:=["row","text","a","b"]) λ_ _ _ _ _ _ us hl=>by obtain⟨x0,u0,rfl,h0⟩:=le1 hl;obtain⟨x1,u1,rfl,h1⟩:=le1 h0;obtain⟨x2,u2,rfl,h2⟩:=le1 h1;obtain⟨x3,u3,rfl,h3⟩:=le1 h2;obtain rfl:=le0 h3;exact rfl
 have F_Holding___init__:=ZF (st:=ZH) l_Holding___init__ c_Holding___init__ k_Holding___init__
 have B_Holding___init__:=F_Holding___init__.binds (ps:=["self","row","text"]) λ_ _ _ _ _ _ us hl=>by obtain⟨x0,u0,rfl,h0⟩:=le1 hl;obtain⟨x1,u1,rfl,h1⟩:=le1 h0;obtain⟨x2,u2,rfl,h2⟩:=le1 h1;obtain rfl:=le0 h2;exact rfl
 have F_Holding_ways:=ZF (st:=ZZ) l_Holding_ways c_Holding_ways k_Holding_ways
 have B_Holding_ways:=F_Holding_ways.binds (ps:=["self","v","a","b"]) λ_ _ _ _ _ _ us hl=>by obtain⟨x0,u0,rfl,h0⟩:=le1 hl;obtain⟨x1,u1,rfl,h1⟩:=le1 h0;obtain⟨x2,u2,rfl,h2⟩:=le1 h1;obtain⟨x3,u3,rfl,h3⟩:=le1 h2;obtain rfl:=le0 h3;exact rfl
 have F_Holding_fits:=ZF (st:=Z0) l_Holding_fits c_Holding_fits k_Holding_fits
 have B_Holding_fits:=F_Holding_fits.binds (ps:=["self","v","a","b","i"]) λ_ _ _ _ _ _ us hl=>by obtain⟨x0,u0,rfl,h0⟩:=le1 hl;obtain⟨x1,u1,rfl,h1⟩:=le1 h0;obtain⟨x2,u2,rfl,h2⟩:=le1 h1;obtain⟨x3,u3,rfl,h3⟩:=le1 h2;obtain⟨x4,u4,rfl,h4⟩:=le1 h3;obtain rfl:=le0 h4;exact rfl
 have F_Holding_ways_at:=ZF (st:=ZL) l_Holding_ways_at c_Holding_ways_at k_Holding_ways_at
 have B_Holding_ways_at:=F_Holding_ways_at.binds (ps:=["self","v","a","b","i"]) λ_ _ _ _ _ _ us hl=>by obtain⟨x0,u0,rfl,h0⟩:=le1 hl;obtain⟨x1,u1,rfl,h1⟩:=le1 h0;obtain⟨x2,u2,rfl,h2⟩:=le1 h1;obtain⟨x3,u3,rfl,h3⟩:=le1 h2;obtain⟨x4,u4,rfl,h4⟩:=le1 h3;obtain rfl:=le0 h4;exact rfl
 have Zgy:=ZF (st:=ZaB) Zea Zeb Zca
 have Zk0:=Zgy.binds (ps:=["row","text"]) λ_ _ _ _ _ _ us hl=>by obtain⟨x0,u0,rfl,h0⟩:=le1 hl;obtain⟨x1,u1,rfl,h1⟩:=le1 h0;obtain rfl:=le0 h1;exact rfl
 have Zho:=ZF (st:=ZaV) Ze0 Ze1 ZcS
 have Zme:=Zho.binds (ps:=["script","k"]) λ_ _ _ _ _ _ us hl=>by obtain⟨x0,u0,rfl,h0⟩:=le1 hl;obtain⟨x1,u1,rfl,h1⟩:=le1 h0;obtain rfl:=le0 h1;exact rfl
 have Zhp:=ZF (st:=ZaW) Ze3 Ze4 ZcT
 have Zmf:=Zhp.binds (ps:=["pot","many"]) λ_ _ _ _ _ _ us hl=>by obtain⟨x0,u0,rfl,h0⟩:=le1 hl;obtain⟨x1,u1,rfl,h1⟩:=le1 h0;obtain rfl:=le0 h1;exact rfl
 have Zgz:=ZF (st:=ZaC) Zed Zee Zcb
 have Zk1:=Zgz.binds (ps:=["e","place"]) λ_ _ _ _ _ _ us hl=>by obtain⟨x0,u0,rfl,h0⟩:=le1 hl;obtain⟨x1,u1,rfl,h1⟩:=le1 h0;obtain rfl:=le0 h1;exact rfl
 have Zfz:=ZF (st:=Zag) Zdq Zdr ZbF
 have Zjv:=Zfz.binds (ps:=["pot","some"]) λ_ _ _ _ _ _ us hl=>by obtain⟨x0,u0,rfl,h0⟩:=le1 hl;obtain⟨x1,u1,rfl,h1⟩:=le1 h0;obtain rfl:=le0 h1;exact rfl
 have ZgA:=ZF (st:=ZaD) Zeg Zeh Zcc
 have Zk2:=ZgA.binds (ps:=["which","row","text","a","b"]) λ_ _ _ _ _ _ us hl=>by obtain⟨x0,u0,rfl,h0⟩:=le1 hl;obtain⟨x1,u1,rfl,h1⟩:=le1 h0;obtain⟨x2,u2,rfl,h2⟩:=le1 h1;obtain⟨x3,u3,rfl,h3⟩:=le1 h2;obtain⟨x4,u4,rfl,h4⟩:=le1 h3;obtain rfl:=le0 h4;exact rfl
 have ZiV:=ZF (st:=Zbm) ZfZ Zf0 Zei
 have Znt:=ZiV.binds (ps:=["which","row","text","a","b"]) λ_ _ _ _ _ _ us hl=>by obtain⟨x0,u0,rfl,h0⟩:=le1 hl;obtain⟨x1,u1,rfl,h1⟩:=le1 h0;obtain⟨x2,u2,rfl,h2⟩:=le1 h1;obtain⟨x3,u3,rfl,h3⟩:=le1 h2;obtain⟨x4,u4,rfl,h4⟩:=le1 h3;obtain rfl:=le0 h4;exact rfl
 have Zvj:=ZF (st:=Zgi) ZrR ZrT ZrU
 refine⟨fnOf "law" "law" (defArgs Zgi) (defBody Zgi) (defScope Zgi) .none ZuY ZuZ Zu0 Zu1 ZrS Zu2,λs v=>.of_eq rfl,?tb,?nd,λbase _ _ B=>?_⟩
 case tb =>
  intro p hp
  unfold ZeG at hp
  simp only[Yg,List.not_mem_nil,or_false]at hp
  rcases hp with rfl|rfl|rfl
  ·exact⟨by rw[Zaj.1];exact Zdb,by rw[Zaj.1];exact Zda,Zbu,by rw[Zaj.1];exact Zbw⟩
  ·exact⟨by rw[Zak.1];exact Zdg,by rw[Zak.1];exact Zdf,Zbx,by rw[Zak.1];exact Zbz⟩
  ·exact⟨by rw[Z1.1];exact ZcC,by rw[Z1.1];exact ZcB,Za5,by rw[Z1.1];exact Za7⟩
 case nd =>
  unfold ZeG
  simp only[YC,List.map_nil]
  rw[Zaj.1,Zak.1,Z1.1]
  exact nd
 have ZeP:Callee l.prog w K mg base "_law_deal" 1 ["script","k"] (ZdQ K mg):=⟨_,_,mg_of X G ZeZ,ZcS,Zme,ZkJ Zho T⟩
 have ZD:Callee l.prog w K mg base "_law_take" 1 ["pot","many"] (Zb1 K mg):=⟨_,_,mg_of X G Ze2,ZcT,Zmf,ZkK Zhp T⟩
 have ZdU:Callee l.prog w K mg base "_law_alone" 1 ["e","place"] (Zc3 K mg):=⟨_,_,mg_of X G Zec,Zcb,Zk1,Zji Zgz T⟩
 have Zbt:Callee l.prog w K mg base "_law_either" 2 ["pot","some"] (Zcr K mg):=⟨_,_,mg_of X G Zdp,ZbF,Zjv,Zix Zfz ZD T⟩
 have Ziz:Callee l.prog w K mg base "settle" 1 ["elders","spine","place","keep"] (ZgV K mg):=⟨_,_,mg_of X G ZiC,Zgn,ZrV,Zo5 Zma T⟩
 have ZR:Callee l.prog w K mg base "tree_of" 2 ["row"] (Zbn K mg):=⟨_,_,mg_of X G Zg1,Zff,Zpc,Znc Zj8 Ziz T⟩
 have ZrX:Callee l.prog w K mg base "need_numbers" 1 ["row","fewest"] (ZaP K mg):=⟨_,_,mg_of X G Za2,Zau,ZiQ,Zeo Zbb T⟩
 have ZbY:Zkq l.prog w K mg base "need_numbers" 1 ["row","fewest"] [V.int 1] (ZaP K mg):=⟨_,_,_,mg_of X G Za2,Zau,ZhE,.cons ⟨_,rfl⟩ .nil,Zeo Zbb T⟩
 have Zz:Callee l.prog w K mg base "need_loose" 2 ["row","text"] (Zah K mg):=⟨_,_,mg_of X G Zd2,Zb6,ZkY,Zjg Zgv ZbY T⟩
 have Z8:Callee l.prog w K mg base "young_of" 1 ["tree"] (ZbP K mg):=⟨_,_,mg_of X G ZfO,ZdZ,Znq,ZlW ZiS T⟩
 have ZiA:Callee l.prog w K mg base "way_up" 1 ["tree","place"] (ZgU K mg):=⟨_,_,mg_of X G ZiF,Zgo,ZrW,Zo6 Zmb T⟩
 have ZaH:Callee l.prog w K mg base "from_below" 5 ["tree"] (Zbr K mg):=⟨_,_,mg_of X G Zb3,Zb5,ZkX,Zjd Zgu ZiA ZkU B T⟩
 have ZaG:Callee l.prog w K mg base "best_ahead" 1 ["text","pairs","i"] (Zbs K mg):=⟨_,_,mg_of X G Zb7,Zb9,ZkZ,Zje Zgw ZkV B T⟩
 have Zai:Callee l.prog w K mg base "best_behind" 1 ["text","pairs","i"] (Zas K mg):=⟨_,_,mg_of X G ZbA,ZbC,Zjs,Ziu Zfw Zjr B T⟩
 have Zg0:Callee l.prog w K mg base "pair_at" 2 ["text","table","young","i"] (ZfG K mg):=⟨_,_,mg_of X G Zg4,Zfg,Zpd,Znd Zj9 ZaG Zai T⟩
 have Z9:Callee l.prog w K mg base "table_by" 6 ["tree","text"] (ZbQ K mg):=⟨_,_,mg_of X G ZfR,Zd7,Znr,ZlX ZiT Z8 ZaH Zg0 T⟩
 have Zbq:Callee l.prog w K mg base "table_of" 7 ["row","text"] (ZcM K mg):=⟨_,_,mg_of X G ZfU,Zd8,Zns,ZlY ZiU ZR Zz Z9 T⟩
 have Zc6:Callee l.prog w K mg base "table_right" 8 ["row","text","table"] (Zcp K mg):=⟨_,_,mg_of X G Zdj,ZbD,Zjt,Ziv Zfx Zbq T⟩
 have Zc5:Callee l.prog w K mg base "lies_within" 1 ["pair","other"] (Zcq K mg):=⟨_,_,mg_of X G Zdm,ZbE,Zju,Ziw Zfy T⟩
 have Za1:Callee l.prog w K mg base "least_stretches" 7 ["row","text"] (ZaS K mg):=⟨_,_,mg_of X G Za8,Zao,Zgx,ZfL ZcU ZR Zz Z9 Zc5 T⟩
 have ZdS:Callee l.prog w K mg base "is_stretch" 1 ["many","a","b"] (Zc1 K mg):=⟨_,_,mg_of X G ZdW,Zb2,ZkW,Zjf Zgt T⟩
 have Zcs:Callee l.prog w K mg base "need_stretch" 2 ["many","a","b"] (ZbV K mg):=⟨_,_,mg_of X G Zcv,Za4,ZiR,Zhy Ze5 ZdS T⟩
 have ZeN:Callee l.prog w K mg base "places_by" 6 ["tree","text","table","i"] (ZdP K mg):=⟨_,_,mg_of X G ZeT,ZcQ,Zmc,ZkO Zhm Z8 ZaH ZaG Zai T⟩
 have ZeO:Callee l.prog w K mg base "places_in" 7 ["row","text","a","b"] (ZdO K mg):=⟨_,_,mg_of X G ZeW,ZcR,Zmd,ZkP Zhn Zcs ZR Zz Z9 ZeN T⟩
 have GI_Holding:Zkr l.prog w K mg base "Holding" 3 ["self","row","text"] (ZaL K mg):=⟨_,_,by rw[q_Holding];exact⟨mk_Holding,a_Holding___init__,i_Holding___init__,kc_Holding⟩,by rw[q_Holding];exact mg_of X G n_Holding,B_Holding___init__,Zfk F_Holding___init__ ZR Z8 T⟩
 have GM_Holding_fits:ZcI l.prog w K mg base "Holding" "fits" 1 ["self","v","a","b","i"] (ZbW K mg):=⟨_,_,T.cl_Holding,by rw[q_Holding];exact⟨a_Holding_fits,i_Holding_fits,k_Holding_fits⟩,B_Holding_fits,Zhz F_Holding_fits T⟩
 have R_fam:∀n,ZcI l.prog w K mg base "Holding" "ways" (2+n) ["self","v","a","b"] (Zan n K mg)/\ZcI l.prog w K mg base "Holding" "ways_at" (2+n) ["self","v","a","b","i"] (Zat n K mg):=λn=>by
  induction n with
  |zero=>exact⟨⟨_,_,T.cl_Holding,by rw[q_Holding];exact⟨a_Holding_ways,i_Holding_ways,k_Holding_ways⟩,B_Holding_ways,F_Holding_ways.okX (k:=1) ZbX (λvs H Q E h=>False.elim h) (λcdv A outer s H vs Q E hr h=>False.elim h)⟩,⟨_,_,T.cl_Holding,by rw[q_Holding];exact⟨a_Holding_ways_at,i_Holding_ways_at,k_Holding_ways_at⟩,B_Holding_ways_at,F_Holding_ways_at.okX (k:=1) Z7 (λvs H Q E h=>False.elim h) (λcdv A outer s H vs Q E hr h=>False.elim h)⟩⟩
  |succ n ih =>
   obtain⟨ih_Holding_ways,ih_Holding_ways_at⟩:=ih
   exact⟨⟨_,_,T.cl_Holding,by rw[q_Holding];exact⟨a_Holding_ways,i_Holding_ways,k_Holding_ways⟩,B_Holding_ways,ZhA F_Holding_ways GM_Holding_fits ih_Holding_ways_at T⟩,⟨_,_,T.cl_Holding,by rw[q_Holding];exact⟨a_Holding_ways_at,i_Holding_ways_at,k_Holding_ways_at⟩,B_Holding_ways_at,ZfM F_Holding_ways_at ih_Holding_ways T⟩⟩
 obtain⟨GM_Holding_ways,GM_Holding_ways_at⟩:=R_fam 20
 have ZdT:Callee l.prog w K mg base "many_loose" 23 ["row","text"] (Zc0 K mg):=⟨_,_,mg_of X G Zd9,Zca,Zk0,Zjh Zgy Zz GI_Holding GM_Holding_ways T⟩
 have ZdV:Callee l.prog w K mg base "_law_asked" 24 ["which","row","text","a","b"] (Zc2 K mg):=⟨_,_,mg_of X G Zef,Zcc,Zk2,Zjj ZgA Zbq Zc6 Za1 ZeO ZdT T⟩
 have ZfN:Callee l.prog w K mg base "_law_due" 1 ["which","row","text","a","b"] (ZeJ K mg):=⟨_,_,mg_of X G ZfY,Zei,Znt,Zl3 ZiV T⟩
 exact ok_law Zvj ZeP ZD ZdU Zbt ZdV ZfN T
theorem walk {l:PySem.W.OpenLaw}{q:Program}{loose:List Str}{XP:(Str->Option Value)->Heap->Prop}{YP:World->Heap->Prop}{d:DefRec}{K:Params->PySem.W.Frag}{ts:List Addr} (hn:l.most=some 63) (hdf:d.params.defaults=[])
  (hY:∀(w:World) (h:Heap),YP w h->(K w.params).In h) (hY2:∀(w:World) (h:Heap),YP w h->∀P∈ts,h.get? P=some (PySem.W.tabObj #[]))
  (F:∀(w:World) (mg:Str->Option Value) (fa:Addr) (h:Heap),(K w.params).In h->h.Ns mainGlobals mg->mg d.name=some (.ref fa) ->
   ∃fd:FuncData,(∀(s:Shared) (u:Value),BindsTo s fd ⟨[u],[]⟩ [("script",u)])/\(∀p∈ZeG (K w.params) mg,p.1∈ts/\(K w.params).lookup p.1=none/\∃c,PySem.W.codeHdIn (K w.params) c p.1=true)/\((ZeG (K w.params) mg).map (·.1)).Nodup/\∀base:Heap,(K w.params).In base->base.Ns mainGlobals mg->BM mg base->FnOk l.prog w (K w.params) mg base (CXE l.prog w) 25 fa fd ["script"] (Zoe (K w.params) mg)) :
  PySem.W.WalkO q loose XP YP l.row.toRowW d [] (λf vs=>PySem.call f vs) :=
 L2.ZqH (n:=63) (k:=25) (x:="script") (ts:=ts) (tabs:=ZeG) (CX:=λw=>CXE l.prog w) (sp:=λw mg=>Zoe (K w.params) mg) hn (by decide) hdf ⟨rfl,by decide,by decide⟩ hY hY2 F (λ_ _ _ a ns hl hS hT=>⟨a,ns,rfl,hS,hl,hT,λ_=>rfl⟩) λ_ _ _ _ _ ⟨_,_,_,_,_,_,_,z⟩=>z
end K55
def PySem.W.Fast.tw14774110387367325887:Unit:=()
def PySem.W.Fast.tw3120928313242533297:Unit:=()
def PySem.W.Fast.tw13826880035818372064:Unit:=()
def PySem.W.Fast.tw3854946779499201145:Unit:=()
def PySem.W.Fast.tw14131725970127613069:Unit:=()
def PySem.W.Fast.tw16001482783704657984:Unit:=()
def PySem.W.Fast.tw18152419168115249485:Unit:=()
def PySem.W.Fast.tw10513507151515118729:Unit:=()
def PySem.W.Fast.tw3794079704451941822:Unit:=()
def PySem.W.Fast.tw4190112584884783695:Unit:=()
def PySem.W.Fast.tw9657721465060837132:Unit:=()
def PySem.W.Fast.tw9158586114691753889:Unit:=()
def PySem.W.Fast.tw11490588980746938419:Unit:=()
def PySem.W.Fast.tw8683871799312765798:Unit:=()
def PySem.W.Fast.tw17560178967480935461:Unit:=()
def PySem.W.Fast.tw7075041154970395763:Unit:=()
def PySem.W.Fast.tw10135843952772681807:Unit:=()
def PySem.W.Fast.tw18045480345391928957:Unit:=()
def PySem.W.Fast.tw8558980931988289042:Unit:=()
def PySem.W.Fast.tw6553860217360932607:Unit:=()
def PySem.W.Fast.tw6097595978121154890:Unit:=()
def PySem.W.Fast.tw6666868325111162665:Unit:=()
def PySem.W.Fast.tw300063295195316169:Unit:=()
def PySem.W.Fast.tw1065733329650909152:Unit:=()
def PySem.W.Fast.tw218963035519228911:Unit:=()
def PySem.W.Fast.tw12861402874753517223:Unit:=()
def PySem.W.Fast.tw732824852605177822:Unit:=()
def PySem.W.Fast.tw1398873723890417561:Unit:=()
def PySem.W.Fast.tw5831485033309251605:Unit:=()
def PySem.W.Fast.tw15721335670303466502:Unit:=()
def PySem.W.Fast.tw17763915302131720650:Unit:=()
def PySem.W.Fast.tw7530501467022878048:Unit:=()
def PySem.W.Fast.tw11347395113109143471:Unit:=()
def PySem.W.Fast.tw15561836419684116590:Unit:=()
def PySem.W.Fast.tw1833054123553541420:Unit:=()
def PySem.W.Fast.tw8268959933615433936:Unit:=()
def PySem.W.Fast.tw12824844294556120601:Unit:=()
def PySem.W.Fast.tw4290896949600495812:Unit:=()
def PySem.W.Fast.tw2040289844539700000:Unit:=()
def PySem.W.Fast.tw6484015283303623868:Unit:=()
def PySem.W.Fast.tw14905378244615749989:Unit:=()
def PySem.W.Fast.tw15003160762908727306:Unit:=()
def PySem.W.Fast.tw7135463044952669020:Unit:=()
def PySem.W.Fast.tw10128565246323771460:Unit:=()
def PySem.W.Fast.tw4951151590191388524:Unit:=()
def PySem.W.Fast.tw883229715803209272:Unit:=()
def PySem.W.Fast.tw16671993161658924964:Unit:=()
def PySem.W.Fast.tw16009837463113502550:Unit:=()
def PySem.W.Fast.tw3691825483127581599:Unit:=()
def PySem.W.Fast.tw7139262719948955275:Unit:=()
def PySem.W.Fast.tw7981282032662756245:Unit:=()
def PySem.W.Fast.tw6192267681078409778:Unit:=()
def PySem.W.Fast.tw11539519239853454590:Unit:=()
def PySem.W.Fast.tw2688584633208147160:Unit:=()
def PySem.W.Fast.tw14412361779625812867:Unit:=()
def PySem.W.Fast.tw17801927208158931944:Unit:=()
def PySem.W.Fast.tw8329437797872155424:Unit:=()
def PySem.W.Fast.tw10263203619034691572:Unit:=()
def PySem.W.Fast.tw5440977677224062119:Unit:=()
def PySem.W.Fast.tw10556524565113534686:Unit:=()
def PySem.W.Fast.tw8171455353305723786:Unit:=()
def PySem.W.Fast.tw14891112256876844490:Unit:=()
def PySem.W.Fast.tw12421997738443898955:Unit:=()
def PySem.W.Fast.tw331469720295591137:Unit:=()
def PySem.W.Fast.tw4906300158272830564:Unit:=()
def PySem.W.Fast.tw682923436014531297:Unit:=()
def PySem.W.Fast.tw11285121636484697946:Unit:=()
def PySem.W.Fast.tw13501511350705614570:Unit:=()
def PySem.W.Fast.tw10815575901093097790:Unit:=()
def PySem.W.Fast.tw7629796945894820477:Unit:=()
def PySem.W.Fast.tw610906890428304880:Unit:=()
def PySem.W.Fast.tw12083177947388050950:Unit:=()
def PySem.W.Fast.tw9469588311240666795:Unit:=()
def PySem.W.Fast.tw15903234139405396022:Unit:=()
def PySem.W.Fast.tw8950800919705155353:Unit:=()
def PySem.W.Fast.tw16691621637357286256:Unit:=()
def PySem.W.Fast.tw1333331971807973739:Unit:=()
def PySem.W.Fast.tw10889605535004983980:Unit:=()
def PySem.W.Fast.tw9412848384081470955:Unit:=()
def PySem.W.Fast.tw11149097994470057845:Unit:=()
def PySem.W.Fast.tw11432678271761957356:Unit:=()
def PySem.W.Fast.tw4254433542576733357:Unit:=()
def PySem.W.Fast.tw5189164874201142926:Unit:=()
def PySem.W.Fast.tw3548860283079454286:Unit:=()
def PySem.W.Fast.tw14729982889294337351:Unit:=()
def PySem.W.Fast.tw12052954549412804155:Unit:=()
def PySem.W.Fast.tw12065870533296375061:Unit:=()
def PySem.W.Fast.tw3537985175939694583:Unit:=()
def PySem.W.Fast.tw12385090328087178524:Unit:=()
def PySem.W.Fast.tw10122507158801100779:Unit:=()
def PySem.W.Fast.tw4626284589297088912:Unit:=()
def PySem.W.Fast.tw1518534790751290897:Unit:=()
def PySem.W.Fast.tw5162585055291840024:Unit:=()
def PySem.W.Fast.tw14616214228576892600:Unit:=()
def PySem.W.Fast.tw10529258774625355312:Unit:=()
def PySem.W.Fast.tw14778707307000121936:Unit:=()
def PySem.W.Fast.tw6307191691568781369:Unit:=()
def PySem.W.Fast.tw7027190644966263370:Unit:=()
def PySem.W.Fast.tw7800493383970794966:Unit:=()
open PySem PySem.W PyProof.Rows
set_option maxRecDepth 100000 in
set_option maxHeartbeats 0 in
theorem PySem.Challenge.cw_dipkin_k55_loose_ones_refused_holds : PySem.Challenge.rw_dipkin_k55_loose_ones_refused.Holds := by
 w_on;o_law;k_head;(case hw=>w_witness2)
 k_fill
 refine K55.walk (l:=PySem.Challenge.rw_dipkin_k55_loose_ones_refused) rfl rfl (λw h Y=>PySem.W.km_in_of Y) (λw h Y=>PySem.W.km_tabs_of Y) ?F
 case F =>
  intro w mg fa h KX G hmg
  refine' K55.all_mk KX G hmg ?n_Holding ?pg_Holding ?hd_Holding ?po_Holding ?sa_Holding ?mk_Holding ?kc_Holding ?na_Holding_text ?na_Holding_tree ?na_Holding_young ?na_Holding_known ?Za2 ?Zct ?Zcu ?Zau ?Za3 ?ZdW ?ZdX ?ZdY ?Zb2 ?Zcv ?Zcw ?Zcx ?Za4 ?ZiC ?ZiD ?ZiE ?Zgn ?Zg1 ?Zg2 ?Zg3 ?Zff ?ZiF ?ZiG ?ZiH ?Zgo ?ZfO ?ZfP ?ZfQ ?ZdZ ?Zb3 ?Zb4 ?Zd1 ?Zb5 ?Zc7 ?Zc8 ?Zc9 ?Zbw ?Zda ?Zdb ?Zd2 ?Zd3 ?Zd4 ?Zb6 ?Zb7 ?Zb8 ?Zd6 ?Zb9 ?Zdc ?Zdd ?Zde ?Zbz ?Zdf ?Zdg ?ZbA ?ZbB ?Zdi ?ZbC ?Zcy ?Zcz ?ZcA ?Za7 ?ZcB ?ZcC ?Zg4 ?Zg5 ?Zg6 ?Zfg ?ZfR ?ZfS ?ZfT ?Zd7 ?ZfU ?ZfV ?ZfW ?Zd8 ?Zdj ?Zdk ?Zdl ?ZbD ?Zdm ?Zdn ?Zdo ?ZbE ?Za8 ?Za9 ?Zba ?Zao ?ZeT ?ZeU ?ZeV ?ZcQ ?ZeW ?ZeX ?ZeY ?ZcR ?a_Holding___init__ ?i_Holding___init__ ?l_Holding___init__ ?c_Holding___init__ ?k_Holding___init__ ?a_Holding_ways ?i_Holding_ways ?l_Holding_ways ?c_Holding_ways ?k_Holding_ways ?a_Holding_fits ?i_Holding_fits ?l_Holding_fits ?c_Holding_fits ?k_Holding_fits ?a_Holding_ways_at ?i_Holding_ways_at ?l_Holding_ways_at ?c_Holding_ways_at ?k_Holding_ways_at ?Zd9 ?Zea ?Zeb ?Zca ?ZeZ ?Ze0 ?Ze1 ?ZcS ?Ze2 ?Ze3 ?Ze4 ?ZcT ?Zec ?Zed ?Zee ?Zcb ?Zdp ?Zdq ?Zdr ?ZbF ?Zef ?Zeg ?Zeh ?Zcc ?ZfY ?ZfZ ?Zf0 ?Zei ?ZrQ ?ZrR ?ZrT ?ZrU ?n_DipError ?x_DipError ?d_DipError ?y_DipError ?n_Unlike ?x_Unlike ?d_Unlike ?y_Unlike ?n_Empty ?x_Empty ?d_Empty ?y_Empty ?n_TooMany ?x_TooMany ?d_TooMany ?y_TooMany ?n_NoTree ?x_NoTree ?d_NoTree ?y_NoTree ?n_NoTelling ?x_NoTelling ?d_NoTelling ?y_NoTelling ?n_NoPlace ?x_NoPlace ?d_NoPlace ?y_NoPlace ?n_NoNumber ?x_NoNumber ?d_NoNumber ?y_NoNumber ?n_NoPast ?x_NoPast ?d_NoPast ?y_NoPast ?n_NoText ?x_NoText ?d_NoText ?y_NoText ?n_NoLine ?x_NoLine ?d_NoLine ?y_NoLine ?z1_Empty ?z2_Empty ?z3_Empty ?z4_Empty ?z5_Empty ?z6_Empty ?z7_Empty ?z8_Empty ?u_Empty ?i_Empty_DipError ?ne_Empty_DipError ?i_Empty_Unlike ?ne_Empty_Unlike ?i_Empty_TooMany ?ne_Empty_TooMany ?i_Empty_NoTree ?ne_Empty_NoTree ?i_Empty_NoTelling ?ne_Empty_NoTelling ?i_Empty_NoPlace ?ne_Empty_NoPlace ?i_Empty_NoNumber ?ne_Empty_NoNumber ?i_Empty_NoPast ?ne_Empty_NoPast ?i_Empty_NoText ?ne_Empty_NoText ?i_Empty_NoLine ?ne_Empty_NoLine ?i_Empty_V ?z1_TooMany ?z2_TooMany ?z3_TooMany ?z4_TooMany ?z5_TooMany ?z6_TooMany ?z7_TooMany ?z8_TooMany ?u_TooMany ?i_TooMany_DipError ?ne_TooMany_DipError ?i_TooMany_Unlike ?ne_TooMany_Unlike ?i_TooMany_Empty ?ne_TooMany_Empty ?i_TooMany_NoTree ?ne_TooMany_NoTree ?i_TooMany_NoTelling ?ne_TooMany_NoTelling ?i_TooMany_NoPlace ?ne_TooMany_NoPlace ?i_TooMany_NoNumber ?ne_TooMany_NoNumber ?i_TooMany_NoPast ?ne_TooMany_NoPast ?i_TooMany_NoText ?ne_TooMany_NoText ?i_TooMany_NoLine ?ne_TooMany_NoLine ?i_TooMany_V ?z1_NoPlace ?z2_NoPlace ?z3_NoPlace ?z4_NoPlace ?z5_NoPlace ?z6_NoPlace ?z7_NoPlace ?z8_NoPlace ?u_NoPlace ?i_NoPlace_DipError ?ne_NoPlace_DipError ?i_NoPlace_Unlike ?ne_NoPlace_Unlike ?i_NoPlace_Empty ?ne_NoPlace_Empty ?i_NoPlace_TooMany ?ne_NoPlace_TooMany ?i_NoPlace_NoTree ?ne_NoPlace_NoTree ?i_NoPlace_NoTelling ?ne_NoPlace_NoTelling ?i_NoPlace_NoNumber ?ne_NoPlace_NoNumber ?i_NoPlace_NoPast ?ne_NoPlace_NoPast ?i_NoPlace_NoText ?ne_NoPlace_NoText ?i_NoPlace_NoLine ?ne_NoPlace_NoLine ?i_NoPlace_V ?ty_tuple ?ty_bool ?ty_list ?ty_int ?b_ValueError ?b_any ?b_enumerate ?b_isinstance ?b_len ?b_list ?b_max ?b_min ?b_range ?b_sorted ?b_sum ?b_tuple ?m_MOST_HELD ?m_MOST_HOLDING ?nd
  (case n_Holding|pg_Holding|hd_Holding|po_Holding|sa_Holding|mk_Holding|kc_Holding|na_Holding_text|na_Holding_tree|na_Holding_young|na_Holding_known|Za2|Zct|Zcu|Zau|Za3|ZdW|ZdX|ZdY|Zb2|Zcv|Zcw|Zcx|Za4|ZiC|ZiD|ZiE|Zgn|Zg1|Zg2|Zg3|Zff|ZiF|ZiG|ZiH|Zgo|ZfO|ZfP|ZfQ|ZdZ|Zb3|Zb4|Zd1|Zb5=>k_is)
  (case Zc7=>exact rfl)
  (case Zc8=>k_is)
  (case Zc9=>exact rfl)
  (case Zbw=>kernel_rfl)
  (case Zda=>kernel_rfl)
  (case Zdb=>decide)
  (case Zd2|Zd3|Zd4|Zb6|Zb7|Zb8|Zd6|Zb9=>k_is)
  (case Zdc=>exact rfl)
  (case Zdd=>k_is)
  (case Zde=>exact rfl)
  (case Zbz=>kernel_rfl)
  (case Zdf=>kernel_rfl)
  (case Zdg=>decide)
  (case ZbA|ZbB|Zdi|ZbC=>k_is)
  (case Zcy=>exact rfl)
  (case Zcz=>k_is)
  (case ZcA=>exact rfl)
  (case Za7=>kernel_rfl)
  (case ZcB=>kernel_rfl)
  (case ZcC=>decide)
  (case Zg4|Zg5|Zg6|Zfg|ZfR|ZfS|ZfT|Zd7|ZfU|ZfV|ZfW|Zd8|Zdj|Zdk|Zdl|ZbD|Zdm|Zdn|Zdo|ZbE|Za8|Za9|Zba|Zao|ZeT|ZeU|ZeV|ZcQ|ZeW|ZeX|ZeY|ZcR|a_Holding___init__|i_Holding___init__|l_Holding___init__|c_Holding___init__|k_Holding___init__|a_Holding_ways|i_Holding_ways|l_Holding_ways|c_Holding_ways|k_Holding_ways|a_Holding_fits|i_Holding_fits|l_Holding_fits|c_Holding_fits|k_Holding_fits|a_Holding_ways_at|i_Holding_ways_at|l_Holding_ways_at|c_Holding_ways_at|k_Holding_ways_at|Zd9|Zea|Zeb|Zca|ZeZ|Ze0|Ze1|ZcS|Ze2|Ze3|Ze4|ZcT|Zec|Zed|Zee|Zcb|Zdp|Zdq|Zdr|ZbF|Zef|Zeg|Zeh|Zcc|ZfY|ZfZ|Zf0|Zei|ZrQ|ZrR|ZrT|ZrU|n_DipError=>k_is)
  (case x_DipError=>k_exc)
  (case d_DipError|y_DipError|n_Unlike=>k_is)
  (case x_Unlike=>k_exc)
  (case d_Unlike|y_Unlike|n_Empty=>k_is)
  (case x_Empty=>k_exc)
  (case d_Empty|y_Empty|n_TooMany=>k_is)
  (case x_TooMany=>k_exc)
  (case d_TooMany|y_TooMany|n_NoTree=>k_is)
  (case x_NoTree=>k_exc)
  (case d_NoTree|y_NoTree|n_NoTelling=>k_is)
  (case x_NoTelling=>k_exc)
  (case d_NoTelling|y_NoTelling|n_NoPlace=>k_is)
  (case x_NoPlace=>k_exc)
  (case d_NoPlace|y_NoPlace|n_NoNumber=>k_is)
  (case x_NoNumber=>k_exc)
  (case d_NoNumber|y_NoNumber|n_NoPast=>k_is)
  (case x_NoPast=>k_exc)
  (case d_NoPast|y_NoPast|n_NoText=>k_is)
  (case x_NoText=>k_exc)
  (case d_NoText|y_NoText|n_NoLine=>k_is)
  (case x_NoLine=>k_exc)
  (case d_NoLine|y_NoLine|z1_Empty|z2_Empty|z3_Empty|z4_Empty|z5_Empty|z6_Empty|z7_Empty|z8_Empty|u_Empty|i_Empty_DipError=>k_is)
  (case ne_Empty_DipError=>decide)
  (case i_Empty_Unlike=>k_is)
  (case ne_Empty_Unlike=>decide)
  (case i_Empty_TooMany=>k_is)
  (case ne_Empty_TooMany=>decide)
  (case i_Empty_NoTree=>k_is)
  (case ne_Empty_NoTree=>decide)
  (case i_Empty_NoTelling=>k_is)
  (case ne_Empty_NoTelling=>decide)
  (case i_Empty_NoPlace=>k_is)
  (case ne_Empty_NoPlace=>decide)
  (case i_Empty_NoNumber=>k_is)
  (case ne_Empty_NoNumber=>decide)
  (case i_Empty_NoPast=>k_is)
  (case ne_Empty_NoPast=>decide)
  (case i_Empty_NoText=>k_is)
  (case ne_Empty_NoText=>decide)
  (case i_Empty_NoLine=>k_is)
  (case ne_Empty_NoLine=>decide)
  (case i_Empty_V|z1_TooMany|z2_TooMany|z3_TooMany|z4_TooMany|z5_TooMany|z6_TooMany|z7_TooMany|z8_TooMany|u_TooMany|i_TooMany_DipError=>k_is)
  (case ne_TooMany_DipError=>decide)
  (case i_TooMany_Unlike=>k_is)
  (case ne_TooMany_Unlike=>decide)
  (case i_TooMany_Empty=>k_is)
  (case ne_TooMany_Empty=>decide)
  (case i_TooMany_NoTree=>k_is)
  (case ne_TooMany_NoTree=>decide)
  (case i_TooMany_NoTelling=>k_is)
  (case ne_TooMany_NoTelling=>decide)
  (case i_TooMany_NoPlace=>k_is)
  (case ne_TooMany_NoPlace=>decide)
  (case i_TooMany_NoNumber=>k_is)
  (case ne_TooMany_NoNumber=>decide)
  (case i_TooMany_NoPast=>k_is)
  (case ne_TooMany_NoPast=>decide)
  (case i_TooMany_NoText=>k_is)
  (case ne_TooMany_NoText=>decide)
  (case i_TooMany_NoLine=>k_is)
  (case ne_TooMany_NoLine=>decide)
  (case i_TooMany_V|z1_NoPlace|z2_NoPlace|z3_NoPlace|z4_NoPlace|z5_NoPlace|z6_NoPlace|z7_NoPlace|z8_NoPlace|u_NoPlace|i_NoPlace_DipError=>k_is)
  (case ne_NoPlace_DipError=>decide)
  (case i_NoPlace_Unlike=>k_is)
  (case ne_NoPlace_Unlike=>decide)
  (case i_NoPlace_Empty=>k_is)
  (case ne_NoPlace_Empty=>decide)
  (case i_NoPlace_TooMany=>k_is)
  (case ne_NoPlace_TooMany=>decide)
  (case i_NoPlace_NoTree=>k_is)
  (case ne_NoPlace_NoTree=>decide)
  (case i_NoPlace_NoTelling=>k_is)
  (case ne_NoPlace_NoTelling=>decide)
  (case i_NoPlace_NoNumber=>k_is)
  (case ne_NoPlace_NoNumber=>decide)
  (case i_NoPlace_NoPast=>k_is)
  (case ne_NoPlace_NoPast=>decide)
  (case i_NoPlace_NoText=>k_is)
  (case ne_NoPlace_NoText=>decide)
  (case i_NoPlace_NoLine=>k_is)
  (case ne_NoPlace_NoLine=>decide)
  (case i_NoPlace_V|ty_tuple|ty_bool|ty_list|ty_int|b_ValueError|b_any|b_enumerate|b_isinstance|b_len|b_list|b_max|b_min|b_range|b_sorted|b_sum|b_tuple|m_MOST_HELD|m_MOST_HOLDING=>k_is)
  (case nd=>decide)
