import PyProof.Rows.All
import Wide.All
import OpenK.AllK
import Wide.FinOn
import Lean
import PyProof.EqAt
import PyProof.EqKinds
import PyProof.TupleCall
import PyProof.MeetsSeq
import PyProof.NeKinds
import PyProof.TupleOfSeq
import PyProof.ListRange
import PyProof.TupleOfGen
import PyProof.ZipIter
import KE.KRevIter
import PyProof.StrWalks
import PyProof.StrBlock2
import PyProof.MeetsStr
import PyProof.StrCalls2
import PyProof.StrLawsIn
import KE.KIntText
import PyProof.StrLawsTight
import PyProof.StrLawsChain
import PyProof.StrLawsAffix
import PyProof.Rows.StrItems
import PyProof.Rows.ReprOcc
import KE.KDictSum
import PyProof.Rows.SeqMore
import KE.KDictList
import PySem.Challenge.RW_dipkin_k70_whole_stays_within_bounds
set_option Elab.async false
set_option linter.all false
set_option maxRecDepth 100000
set_option maxHeartbeats 4000000
set_option genSizeOfSpec false
local macro_rules | `(tactic| omega) => `(tactic| first | lia | omega (config := {}))
section
open PySem PySem.Spec PyProof.Rows
noncomputable abbrev Ya:=@wpAny_bind
noncomputable abbrev Yb:=@if_neg
noncomputable abbrev Yc:=@wpAny_pure
noncomputable abbrev Yd:=@if_pos
noncomputable abbrev Ye:=@Nat.le_refl
noncomputable abbrev Yf:=@List.length_map
noncomputable abbrev Yg:=@wpS_bind
noncomputable abbrev Yh:=@Heap.get?_push_of_some
noncomputable abbrev Yi:=@List.getElem?_eq_getElem
noncomputable abbrev Yj:=@wpS_pure
noncomputable abbrev Yk:=@Heap.lt_size
noncomputable abbrev Yl:=@List.mem_append_right
noncomputable abbrev Ym:=@List.mem_cons
noncomputable abbrev Yn:=@List.getD_eq_getElem?_getD
noncomputable abbrev Yo:=@Nat.le_trans
noncomputable abbrev Yp:=@Nat.ne_of_lt
noncomputable abbrev Yq:=@List.mem_append
noncomputable abbrev Yr:=@Nat.zero_le
noncomputable abbrev Ys:=@Int.toNat_natCast
noncomputable abbrev Yt:=@Heap.get?_push_size
noncomputable abbrev Yu:=@List.mem_map
noncomputable abbrev Yv:=@List.size_toArray
noncomputable abbrev Yw:=@List.mem_range
noncomputable abbrev Yx:=@List.getElem?_eq_some_iff
noncomputable abbrev Yy:=@wpAny_mono
noncomputable abbrev Yz:=@List.mem_cons_self
noncomputable abbrev YA:=@List.mem_append_left
noncomputable abbrev YB:=@decide_eq_true
noncomputable abbrev YC:=@List.getElem_mem
noncomputable abbrev YD:=@List.mem_cons_of_mem
noncomputable abbrev YE:=@PySem.boot_len
noncomputable abbrev YF:=@Nat.lt_of_le_of_lt
noncomputable abbrev YG:=@Nat.lt_of_lt_of_le
noncomputable abbrev YH:=@List.map_cons
noncomputable abbrev YI:=@List.map_append
noncomputable abbrev YJ:=@List.mem_filter
noncomputable abbrev YK:=@Bool.false_ne_true
noncomputable abbrev YL:=@List.getElem?_map
noncomputable abbrev YM:=@List.length_append
noncomputable abbrev YN:=@Option.some.inj
noncomputable abbrev YO:=@Nat.lt_irrefl
noncomputable abbrev YQ:=@Array.length_toList
noncomputable abbrev YR:=@List.length_cons
noncomputable abbrev YS:=@decide_eq_false
noncomputable abbrev YT:=@List.append_assoc
noncomputable abbrev YU:=@Nat.le_succ
noncomputable abbrev YV:=@Nat.lt_succ_of_lt
noncomputable abbrev YW:=@List.map_map
noncomputable abbrev YX:=@of_decide_eq_true
noncomputable abbrev YY:=@List.range_succ
noncomputable abbrev YZ:=@List.getElem_of_mem
noncomputable abbrev Y0:=@List.pairwise_cons
noncomputable abbrev Y1:=@List.length_take
noncomputable abbrev Y2:=@Int.eq_ofNat_of_zero_le
noncomputable abbrev Y3:=@List.mem_singleton
noncomputable abbrev Y4:=@List.length_filter_le
noncomputable abbrev Y5:=@List.take_add_one
noncomputable abbrev Y6:=@Nat.le_of_lt
noncomputable abbrev Y7:=@List.take_append_drop
noncomputable abbrev Y8:=@List.getElem?_append_left
noncomputable abbrev Y9:=@List.length_range
noncomputable abbrev Ja:=@List.getElem?_append_right
noncomputable abbrev Jb:=@Nat.le_of_eq
noncomputable abbrev Jc:=@Int.toNat_of_nonneg
noncomputable abbrev Jd:=@List.length_drop
noncomputable abbrev Je:=@List.getElem_append_left
noncomputable abbrev Jf:=@List.getElem?_range
end
namespace L2
open PySem PySem.Spec PyProof.Rows
noncomputable abbrev Key:=Sum Int Str
noncomputable def Zja:Key->Value->Bool
 |.inl k,v=>Value.isInt k v
 |.inr x,v=>Value.isStrOf x v
noncomputable def keyH (w:World):Key->Int
 |.inl k=>hashInt k
 |.inr x=>hashStr w x
theorem Z6:∀{k:Key}{v:Value},Zja k v=true->(∃i t,k=Sum.inl i/\v=Value.int i t)\/(∃x t,k=Sum.inr x/\v=Value.str x t)
 |.inl i,v,h=>by
  obtain⟨t,e⟩:=Value.isInt_shape (k:=i) (v:=v) h
  exact .inl ⟨i,t,rfl,e⟩
 |.inr x,v,h=>by
  obtain⟨t,e⟩:=Value.isStrOf_shape (x:=x) (v:=v) h
  exact .inr ⟨x,t,rfl,e⟩
theorem ZnO (i:Int) (t:Tok):Zja (.inl i) (.int i t)=true:=by simp[Zja,Value.isInt]
theorem ZnP (x:Str) (t:Tok):Zja (.inr x) (.str x t)=true:=by simp[Zja,Value.isStrOf]
theorem key_ll (a b:Int):decide ((Sum.inl a:Key)=Sum.inl b)=(a==b):=by
 by_cases e:a=b
 ·subst e;simp
 ·have h:¬ (Sum.inl a:Key)=Sum.inl b:=λq=>e (Sum.inl.inj q)
  rw[YS h]
  exact(beq_eq_false_iff_ne.mpr e).symm
theorem key_rr (a b:Str):decide ((Sum.inr a:Key)=Sum.inr b)=decide (a=b):=by
 by_cases e:a=b
 ·subst e;simp
 ·have h:¬ (Sum.inr a:Key)=Sum.inr b:=λq=>e (Sum.inr.inj q)
  rw[YS h,YS e]
theorem key_lr (a:Int) (b:Str):decide ((Sum.inl a:Key)=Sum.inr b)=false:=YS (λq=>nomatch q)
theorem key_rl (a:Str) (b:Int):decide ((Sum.inr a:Key)=Sum.inl b)=false:=YS (λq=>nomatch q)
noncomputable def Z7 (prog:Program) (w:World):PySem.KeyKind prog w Key where
 is:=Zja
 hash:=keyH w
 inj:=λv a b ha hb=>by
  rcases Z6 ha with⟨i,t,rfl,rfl⟩|⟨x,t,rfl,rfl⟩
  ·rcases Z6 hb with⟨j,u,rfl,e⟩|⟨y,u,rfl,e⟩
   ·injection e with e1 _;rw[e1]
   ·exact nomatch e
  ·rcases Z6 hb with⟨j,u,rfl,e⟩|⟨y,u,rfl,e⟩
   ·exact nomatch e
   ·injection e with e1 _;rw[e1]
 byValue:=λk v h=>by
  rcases Z6 h with⟨i,t,rfl,rfl⟩|⟨x,t,rfl,rfl⟩<;>rfl
 pyHash:=λhv h=>by
  rcases Z6 hv with⟨i,t,rfl,rfl⟩|⟨x,t,rfl,rfl⟩
  ·exact wpAny_pyHash_int h
  ·exact wpAny_pyHash_str h
 eqBool:=λhu hv h=>by
  rcases Z6 hu with⟨i,t,rfl,rfl⟩|⟨x,t,rfl,rfl⟩
  ·rcases Z6 hv with⟨j,u,rfl,rfl⟩|⟨y,u,rfl,rfl⟩
   ·rw[key_ll]at h;exact wpAny_eqBool_int h
   ·rw[key_lr]at h;exact SeqAt.EqAt.int_str i t y u _ _ _ _ h
  ·rcases Z6 hv with⟨j,u,rfl,rfl⟩|⟨y,u,rfl,rfl⟩
   ·rw[key_rl]at h;exact SeqAt.EqAt.str_int x t j u _ _ _ _ h
   ·rw[key_rr]at h;exact wpAny_eqBool_str h
 «strs»:=λk x t v h=>by
  rcases Z6 h with⟨i,u,rfl,e⟩|⟨y,u,rfl,e⟩
  ·exact nomatch e
  ·injection e with e1 _
   subst e1
   cases v<;>rfl
theorem ZkC (prog:Program) (w:World) (i:Int) (t:Tok):(Z7 prog w).is (.inl i) (.int i t)=true:=ZnO i t
theorem ZkD (prog:Program) (w:World) (x:Str) (t:Tok):(Z7 prog w).is (.inr x) (.str x t)=true:=ZnP x t
inductive V where
 |non|bl (b:Bool)|int (i:Int)|str (x:Str)|byt (b:Array UInt8)|flt (b:UInt64)|ref (a:Addr)|ty (n:String)
 deriving DecidableEq
noncomputable def RelV:V->Value->Prop
 |.non,u=>u=Value.none
 |.bl b,u=>u=Value.bool b
 |.int i,u=>∃t,u=Value.int i t
 |.str x,u=>∃t,u=Value.str x t
 |.byt b,u=>∃t,u=Value.bytes b t
 |.flt b,u=>∃t,u=Value.float b t
 |.ref a,u=>u=Value.ref a
 |.ty n,u=>u=Value.type n
noncomputable abbrev Vals:List V->List Value->Prop:=Paired RelV
theorem Vals.length {xs:List V}{us:List Value} (r:Vals xs us):xs.length=us.length:=Paired.length r
theorem Vals.get:∀{xs:List V}{us:List Value}{i:Nat}{x:V},Vals xs us->xs[i]?=some x->∃u,us[i]?=some u/\RelV x u
 |_,_,_,_,.nil,e=>by simp at e
 |_,_,0,_,.cons r _,e=>by simp at e;subst e;exact⟨_,rfl,r⟩
 |_,_,i+1,x,.cons _ t,e=>by
  obtain⟨u,h1,h2⟩:=Vals.get (i:=i) (x:=x) t (by simpa using e)
  exact⟨u,by simpa using h1,h2⟩
theorem Vals.set {x:V}{u:Value} (r:RelV x u):∀{xs:List V}{us:List Value} (i:Nat),Vals xs us->Vals (xs.set i x) (us.set i u)
 |_,_,_,.nil=>.nil
 |_,_,0,.cons _ t=>.cons r t
 |_,_,i+1,.cons q t=>.cons q (Vals.set r i t)
theorem Vals.append:∀{xs ys:List V}{us ws:List Value},Vals xs us->Vals ys ws->Vals (xs++ys) (us++ws)
 |_,_,_,_,.nil,s=>s
 |_,_,_,_,.cons r t,s=>.cons r (Vals.append t s)
theorem Vals.take:∀{xs:List V}{us:List Value} (n:Nat),Vals xs us->Vals (xs.take n) (us.take n)
 |_,_,0,_=>.nil
 |_,_,_+1,.nil=>.nil
 |_,_,n+1,.cons r t=>.cons r (Vals.take n t)
theorem Vals.drop:∀{xs:List V}{us:List Value} (n:Nat),Vals xs us->Vals (xs.drop n) (us.drop n)
 |_,_,0,r=>r
 |_,_,_+1,.nil=>.nil
 |_,_,n+1,.cons _ t=>Vals.drop n t
noncomputable def Zg6:Option V->Option Value->Prop
 |some v,some u=>RelV v u
 |none,none=>True
 |_,_=>False
noncomputable def KV {κ:Type}:List (κ×V)->List (κ×Value)->Prop:=Paired λ(p:κ×V) (q:κ×Value)=>p.1=q.1/\RelV p.2 q.2
noncomputable def kV:Key->V
 |.inl i=>.int i
 |.inr x=>.str x
inductive HO where
 |lst (xs:List V)
 |tup (xs:List V)
 |dK (kvs:List (Key×V))|dT (kvs:List (List Key×V))
 |set (S:Int->Bool) (n:Nat)
 |ins (C dx:Addr) (fs:List (Str×V))
 |own (x:Addr)
 |xd (fs:List (Str×V))
 |met (f x:Addr)
 |rng (lo hi:Int)
 |frz (o:Obj) (u:HO)
 |tbl (ps:Array Value)
 |ext (φ:Heap->Prop)
noncomputable abbrev Hp:=Addr->Option HO
noncomputable def upd (H:Hp) (a:Addr) (o:HO):Hp:=λb=>if b=a then some o else H b
theorem Zb {H:Hp}{a:Addr}{o:HO}:upd H a o a=some o:=by unfold upd;rw[Yd rfl]
theorem Zg {H:Hp}{a b:Addr}{o:HO} (h:b≠a):upd H a o b=H b:=by unfold upd;rw[Yb h]
theorem ZrV {H:Hp}{a:Addr}{o u:HO}:upd (upd H a o) a u=upd H a u:=by
 funext b;unfold upd;split<;>rfl
theorem ne_of {H:Hp}{a b:Addr}{o u:HO} (h:H a=some o) (h':H b=some u) (d:o≠u):a≠b:=by
 intro e;subst e;rw[h]at h';exact d (YN h')
theorem Zy {H:Hp}{a b:Addr}{o:HO} (h:H a=some o) (h':H b=none):a≠b:=by
 intro e;subst e;rw[h]at h';cases h'
section
variable (P:Program) (w:World)
noncomputable def ZZ (H:Hp) (h:Heap) (a:Addr):HO->Prop
 |.lst xs=>xs.length<=sizeLine/\∃(its:List Value) (n:Nat),Vals xs its/\h.get? a=some {cls:=.type "list",data:=.seq its.toArray n}
 |.tup xs=>xs.length<=sizeLine/\∃its:List Value,Vals xs its/\IsTup h a its.toArray
 |.dK kvs=>kvs.length<=sizeLine/\(a==sysModules)=false/\∃vs,KV kvs vs/\h.DictOf (Z7 P w) a vs
 |.dT kvs=>kvs.length<=sizeLine/\(a==sysModules)=false/\∃xs:List (List Key×Addr×Value),
   Paired (λ(p:List Key×V) (q:List Key×Addr×Value)=>p.1=q.1/\H q.2.1=some (.tup (p.1.map kV))/\RelV p.2 q.2.2) kvs xs /\
   ∃o es ep,h.get? a=some o/\o.ExactDict/\o.data=.dict es ep/\es.toList=xs.map (entryOfKey (tupleKind (Z7 P w)))/\(xs.map (·.1)).Nodup
 |.set S n=>h.SetOf (intKind P w) a S n
 |.ins C dx fs=>H dx=some (.own a)/\fs.length<=1000/\dx≠a/\h.get? a=some (PySem.W.instObj C dx) /\
   ∃mA,h.Ns1 dx mA/\(∀f,Zg6 (fs.lookup f) (mA f))/\PySem.Within mA (fs.map (·.1))
 |.own _=>∃o,h.get? a=some o
 |.xd fs=>∃mA,h.Ns1 a mA/\∀f,Zg6 (fs.lookup f) (mA f)
 |.rng lo hi=>∃t u v,h.get? a=some {cls:=.type "range",data:=.fields #[.int lo t,.int hi u,.int 1 v]}
 |.frz o u=>h.get? a=some o/\ZZ H h a u
 |.tbl ps=>∃ts:Array Value,h.get? a=some {cls:=.none,data:=.fields ts}/\TriplesOk ts.toList/\∀pos cv,codeAmong pos ts.toList=some cv->∃c oc vs q t t',cv=.ref c/\H c=some (.frz oc (.own a))/\oc.data=.fields vs/\ps[0]?=some (.str q t)/\vs[1]?=some (.str q t')
 |.met f x=>h.get? a=some (PySem.W.methodObj (.ref f) (.ref x))
 |.ext φ=>φ h/\(∃o,h.get? a=some o)/\∀h1 h2:Heap,φ h1->(∀o,h1.get? a=some o->h2.get? a=some o)->φ h2
noncomputable def HOk (H:Hp) (h:Heap):Prop:=∀a o,H a=some o->ZZ P w H h a o
end
section
variable {P:Program}{w:World}{H H':Hp}{h h':Heap}{a:Addr}{o:HO}
theorem ZZ.lt (x:ZZ P w H h a o):a<h.objs.size:=by
 cases o with
 |lst xs=>obtain⟨_,_,_,_,e⟩:=x;exact Yk e
 |tup xs=>obtain⟨_,_,_,p⟩:=x;exact p.lt
 |dK kvs=>obtain⟨_,_,_,_,o,_,_,e,_⟩:=x;exact Yk e
 |dT kvs=>obtain⟨_,_,_,_,o,_,_,e,_⟩:=x;exact Yk e
 |set S n=>obtain⟨o,_,_,_,e,_⟩:=x;exact Yk e
 |ins C dx fs=>obtain⟨_,_,_,e,_⟩:=x;exact Yk e
 |own y=>obtain⟨_,e⟩:=x;exact Yk e
 |xd fs=>obtain⟨_,⟨_,_,_,e,_⟩,_⟩:=x;exact Yk e
 |rng lo hi=>obtain⟨_,_,_,e⟩:=x;exact Yk e
 |frz ob u=>obtain⟨e,_⟩:=x;exact Yk e
 |tbl ps=>obtain⟨_,e,_⟩:=x;exact Yk e
 |met f y=>exact Yk (show h.get? a=some _ from x)
 |ext φ=>obtain⟨_,⟨_,e⟩,_⟩:=x;exact Yk e
theorem Paired.mapP {α β:Type}{F G:α->β->Prop}:∀{l₁:List α}{l₂:List β},Paired F l₁ l₂->(∀a b,F a b->G a b)->Paired G l₁ l₂
 |_,_,.nil,_=>.nil
 |_,_,.cons r t,f=>.cons (f _ _ r) (Paired.mapP t f)
theorem ZZ.Zfz (x:ZZ P w H h a o) (k:∀b u,(b=a\/H b=some (.own a))->h.get? b=some u->h'.get? b=some u)
  (ho:∀b,H b=some (.own a)->H' b=some (.own a)) (ht:∀b xs,H b=some (.tup xs)->H' b=some (.tup xs)) (hz:∀b o u,H b=some (.frz o u)->H' b=some (.frz o u)):ZZ P w H' h' a o:=by
 induction o with
 |lst xs=>obtain⟨z,its,n,r,e⟩:=x;exact⟨z,its,n,r,k _ _ (.inl rfl) e⟩
 |tup xs=>obtain⟨z,its,r,ob,e,c⟩:=x;exact⟨z,its,r,ob,k _ _ (.inl rfl) e,c⟩
 |dK kvs=>obtain⟨z,y,vs,r,ob,es,ep,e,c⟩:=x;exact⟨z,y,vs,r,ob,es,ep,k _ _ (.inl rfl) e,c⟩
 |dT kvs =>
  obtain⟨z,y,xs,r,ob,es,ep,e,c⟩:=x
  exact⟨z,y,xs,Paired.mapP r λp q z=>⟨z.1,ht _ _ z.2.1,z.2.2⟩,ob,es,ep,k _ _ (.inl rfl) e,c⟩
 |set S n=>obtain⟨ob,es,ep,t,e,c⟩:=x;exact⟨ob,es,ep,t,k _ _ (.inl rfl) e,c⟩
 |ins C dx fs =>
  obtain⟨d,z,ne,e,mA,⟨od,es,ep,e2,c⟩,r⟩:=x
  exact⟨ho _ d,z,ne,k _ _ (.inl rfl) e,mA,⟨od,es,ep,k _ _ (.inr d) e2,c⟩,r⟩
 |own y=>obtain⟨ob,e⟩:=x;exact⟨ob,k _ _ (.inl rfl) e⟩
 |xd fs=>obtain⟨mA,⟨od,es,ep,e,c⟩,r⟩:=x;exact⟨mA,⟨od,es,ep,k _ _ (.inl rfl) e,c⟩,r⟩
 |rng lo hi=>obtain⟨t,u,v,e⟩:=x;exact⟨t,u,v,k _ _ (.inl rfl) e⟩
 |frz ob u ih=>obtain⟨e,q⟩:=x;exact⟨k _ _ (.inl rfl) e,ih q⟩
 |tbl ps =>
  obtain⟨ts,e,t3,z⟩:=x
  refine⟨ts,k a _ (.inl rfl) e,t3,λpos cv hc=>?_⟩
  obtain⟨c,oc,vs,q,t,t',e1,e2,r⟩:=z pos cv hc
  exact⟨c,oc,vs,q,t,t',e1,hz _ _ _ e2,r⟩
 |met f y =>
  have e:h.get? a=some (PySem.W.methodObj (.ref f) (.ref y)):=x
  show h'.get? a=some (PySem.W.methodObj (.ref f) (.ref y))
  exact k a _ (.inl rfl) e
 |ext φ=>obtain⟨p,⟨o,e⟩,st⟩:=x;exact⟨st _ _ p λo q=>k _ _ (.inl rfl) q,⟨o,k _ _ (.inl rfl) e⟩,st⟩
theorem HOk.lt (x:HOk P w H h) (e:H a=some o):a<h.objs.size:=(x a o e).lt
theorem HOk.fresh (x:HOk P w H h) (e:h.objs.size<=a):H a=none:=by
 cases q:H a with
 |none=>rfl
 |some u=>exact absurd (YG (x.lt q) e) (YO _)
theorem HOk.kept (x:HOk P w H h) (k:∀b u,h.get? b=some u->h'.get? b=some u):HOk P w H h':=λa o e =>
 (x a o e).Zfz (λb u _ q=>k b u q) (λ_ q=>q) (λ_ _ q=>q) λ_ _ _ q=>q
theorem HOk.laid (x:HOk P w H h) (k:∀b u,h.get? b=some u->h'.get? b=some u) (hp:h.objs.size<=a) (new:ZZ P w (upd H a o) h' a o):HOk P w (upd H a o) h':=λb u e=>by
 have hn:=x.fresh hp
 by_cases hb:b=a
 ·subst hb;rw[Zb]at e;cases e;exact new
 ·rw[Zg hb]at e
  exact(x b u e).Zfz (λc v _ q=>k c v q) (λc q=>by rw[Zg (Zy q hn)];exact q) (λc xs q=>by rw[Zg (Zy q hn)];exact q) λc o u q=>by rw[Zg (Zy q hn)];exact q
end
noncomputable def Rd (H:Hp) (a:Addr) (u:HO):Prop:=H a=some u\/∃o,H a=some (.frz o u)
theorem Rd.ok {P:Program}{w:World}{H:Hp}{h:Heap}{a:Addr}{u:HO} (r:Rd H a u) (x:HOk P w H h):ZZ P w H h a u:=by
 rcases r with r|⟨o,r⟩
 ·exact x a u r
 ·obtain⟨_,q⟩:=x a _ r
  exact q
noncomputable def Mut:Option HO->Prop
 |some (.lst _)=>True
 |some (.dK _)=>True
 |some (.dT _)=>True
 |some (.set _ _)=>True
 |some (.ins _ _ _)=>True
 |some (.ext _)=>True
 |_=>False
section
variable {P:Program}{w:World}{H:Hp}{h h':Heap}{x e:Addr}{o':HO}
theorem HOk.write (ok:HOk P w H h) (mu:Mut (H x)) (he:e=x\/H e=some (.own x)) (k:∀b u,b≠e->h.get? b=some u->h'.get? b=some u) (heo:∃u,h'.get? e=some u)
  (new:ZZ P w (upd H x o') h' x o'):HOk P w (upd H x o') h':=λb u q=>by
 have nown:∀c y,H c=some (.own y)->c≠x:=λc y r z=>by subst z;rw[r]at mu;exact mu
 have ntup:∀c xs,H c=some (.tup xs)->c≠x:=λc xs r z=>by subst z;rw[r]at mu;exact mu
 have nfrz:∀c o u,H c=some (.frz o u)->c≠x:=λc o u r z=>by subst z;rw[r]at mu;exact mu
 by_cases hb:b=x
 ·subst hb;rw[Zb]at q;cases q;exact new
 ·rw[Zg hb]at q
  by_cases hbe:b=e
  ·have q':H b=some (.own x):=by
    rcases he with z|z
    ·exact absurd (hbe.trans z) hb
    ·rw[hbe];exact z
   rw[q]at q';cases q'
   obtain⟨v,hv⟩:=heo
   exact⟨v,by rw[hbe];exact hv⟩
  ·refine(ok b u q).Zfz (λc v hc r=>k c v ?_ r) (λc r=>by rw[Zg (nown c b r)];exact r) (λc xs r=>by rw[Zg (ntup c xs r)];exact r) λc o u r=>by rw[Zg (nfrz c o u r)];exact r
   rcases hc with rfl|hc
   ·exact hbe
   ·rintro rfl
    rcases he with z|z
    ·exact nown c b hc z
    ·rw[hc]at z;cases z;exact hb rfl
end
structure Un (fs ex:List Addr) (H H':Hp) (h h':Heap):Prop where
 keep:∀b o,h.get? b=some o->H b=none->b∉fs->b∉ex->h'.get? b=some o
 slot:∀b o,h.get? b=some o->H b=none->b∈fs->b∉ex->∃sl,h'.get? b=some {o with slots:=sl}
 free:∀b o,h.get? b=some o->H b=none->b∉ex->H' b=none
 there:∀b o,h.get? b=some o->b∉ex->∃o',h'.get? b=some o'
 tups:∀b xs,H b=some (.tup xs)->H' b=some (.tup xs)
 frzs:∀b o u,H b=some (.frz o u)->H' b=some (.frz o u)
 tbls:∀b ps,H b=some (.tbl ps)->∃more,H' b=some (.tbl (ps++more))
section
variable {fs fs' ex ex':List Addr}{H H1 H2:Hp}{h h1 h2 h':Heap}{a x e:Addr}{o:HO}
theorem Un.any (u:Un fs ex H H1 h h1) {b:Addr}{ob:Obj} (q:h.get? b=some ob) (n:H b=none) (hx:b∉ex):∃sl,h1.get? b=some {ob with slots:=sl}:=by
 by_cases hb:b∈fs
 ·exact u.slot b ob q n hb hx
 ·exact⟨ob.slots,u.keep b ob q n hb hx⟩
theorem Un.kept (k:∀b u,h.get? b=some u->h'.get? b=some u):Un fs ex H H h h' :=
 ⟨λb ob q _ _ _=>k b ob q,λb ob q _ _ _=>⟨ob.slots,k b ob q⟩,λ_ _ _ n _=>n,λb ob q _=>⟨ob,k b ob q⟩,λ_ _ q=>q,λ_ _ _ q=>q,λ_ ps q=>⟨#[],by rw[q];simp⟩⟩
theorem Un.refl:Un fs ex H H h h:=Un.kept λ_ _ q=>q
theorem Un.laid (k:∀b u,h.get? b=some u->h'.get? b=some u) (hp:h.objs.size<=a) (hn:H a=none):Un fs ex H (upd H a o) h h' where
 keep:=λb u q _ _ _=>k b u q
 slot:=λb u q _ _ _=>⟨u.slots,k b u q⟩
 free:=λb u q n _=>by rw[Zg (Yp (YG (Yk q) hp))];exact n
 there:=λb u q _=>⟨u,k b u q⟩
 tups:=λb xs q=>by rw[Zg (Zy q hn)];exact q
 frzs:=λb u xs q=>by rw[Zg (Zy q hn)];exact q
 tbls:=λb ps q=>⟨#[],by rw[Zg (Zy q hn),q];simp⟩
theorem Un.write (mu:Mut (H x)) (he:e=x\/H e=some (.own x)) (k:∀b u,b≠e->h.get? b=some u->h'.get? b=some u) (heo:∃u,h'.get? e=some u):Un fs ex H (upd H x o) h h':=by
 have hx:∀b,H b=none->b≠x:=λb n z=>by subst z;rw[n]at mu;exact mu
 have hb:∀b,H b=none->b≠e:=λb n z=>by
  subst z
  rcases he with r|r
  ·exact hx b n r
  ·rw[n]at r;cases r
 have hm:∀b u,H b=some u->¬ Mut (some u)->b≠x:=λb u q nm z=>by subst z;rw[q]at mu;exact nm mu
 refine⟨λb u q n _ _=>k b u (hb b n) q,λb u q n _ _=>⟨u.slots,k b u (hb b n) q⟩,λb u q n _=>by rw[Zg (hx b n)];exact n,λb u q _=>?_,
  λb xs q=>by rw[Zg (hm b _ q λz=>z)];exact q,λb u xs q=>by rw[Zg (hm b _ q λz=>z)];exact q,λb ps q=>⟨#[],by rw[Zg (hm b _ q λz=>z),q];simp⟩⟩
 by_cases hbe:b=e
 ·subst hbe;exact heo
 ·exact⟨u,k b u hbe q⟩
end
noncomputable def trk (h:Heap) (H:Hp):List Addr:=(List.range h.objs.size).filter λa=>(H a).isSome
noncomputable def ZiR (h:Heap) (H:Hp):Heap:=PySem.W.hideAll h (trk h H)
theorem ZnQ (h:Heap) (H:Hp):(ZiR h H).objs.size=h.objs.size:=PySem.W.hideAll_size _ _
theorem Zpx {h:Heap}{H:Hp}{b:Addr}{o:Obj} (e:h.get? b=some o) (n:H b=none):(ZiR h H).get? b=some o :=
 PySem.W.hideAll_get _ e λhm=>by
  have q:(H b).isSome=true:=(YJ.mp hm).2
  rw[n]at q;simp at q
theorem ZrW {h:Heap}{H:Hp}{b:Addr}{o:Obj} (e:(ZiR h H).get? b=some o):h.get? b=some o/\H b=none:=by
 have e':h.get? b=some o:=PySem.W.of_hideAll (trk h H) e
 refine⟨e',?_⟩
 cases q:H b with
 |none=>rfl
 |some x =>
  have hm:b∈trk h H:=YJ.mpr ⟨Yw.mpr (Yk e'),by simp[q]⟩
  have z:(ZiR h H).get? b=none:=PySem.W.hideAll_none (trk h H) hm
  rw[z]at e;cases e
noncomputable def ZrX (g h:Heap) (L:Addr):List (Addr×Obj):=(List.range h.objs.size).filterMap λa=>if a=L\/(g.get? a).isSome=true then none else (h.get? a).map λo=>(a,o)
noncomputable def rest (g h:Heap) (L d:Addr):List (Addr×Obj):=(ZrX g h L).filter λp=>decide (p.1≠d)
structure Mod (K:PySem.W.Frag) (mg:Str->Option Value) (base:Heap):Prop where
 kin:K.In base
 glob:base.Ns mainGlobals mg
 blt:∃mb,base.Ns builtinsNs mb/\∀x:Str,x≠"__name__"->mb x=bootBuiltins x
 nolimit:base.NoLimit
structure Cx where
 prog:Program
 w:World
 K:PySem.W.Frag
 mg:Str->Option Value
 base:Heap
 A:Around
 N:List Str
 s₀:Shared
 H₀:Hp
 env:Env
 outer:List Env
 stack:List Env
 ex:List Addr
 fn:Str->Bool
 calm:Bool
 pn:List (Addr×Obj)
 xe:Value->Shared->Prop
noncomputable def frs (l:List Env):List Addr:=l.filterMap (·.frame)
noncomputable abbrev Cx.fs (X:Cx):List Addr:=frs X.outer
noncomputable def Vis (sc:Scope) (x:Str):Prop:=sc.names.lookup x=some .local\/sc.names.lookup x=some .cell\/sc.names.lookup x=some .free
noncomputable def Loc (sc:Scope) (x:Str):Prop:=sc.names.lookup x=some .local\/sc.names.lookup x=some .cell
noncomputable def Look (env:Env) (h:Heap) (m:Str->Option Value) (x:Str) (u:Value):Prop :=
 (env.kindOf x=some .local/\m x=some u)\/((env.kindOf x=some .cell\/env.kindOf x=some .free)/\∃c,env.cells.lookup x=some c/\h.IsCell c (some u))
structure Cx.Ok (X:Cx):Prop where
 mod:Mod X.K X.mg X.base
 kind:X.env.scope.kind=.function
 glob:X.env.globals=mainGlobals
 blt:X.env.builtins=builtinsNs
 above:X.s₀.heap.objs.size<=X.env.locals
 inj:∀x y c,X.env.cells.lookup x=some c->X.env.cells.lookup y=some c->x=y
 has:∀x,(X.env.kindOf x=some .cell\/X.env.kindOf x=some .free)->∃c,X.env.cells.lookup x=some c
 cab:∀x c,X.fn x=true->X.env.cells.lookup x=some c->X.s₀.heap.objs.size<=c
 hd:X.calm=true->X.A.handled=none
 frames:X.A.frames=some X.stack
 stk:X.stack=X.outer\/(X.stack=X.env::X.outer/\X.env.frame=some X.env.locals)
 exf:∀b∈X.ex,b≠X.env.locals/\∀x c,X.env.cells.lookup x=some c->c≠b
 bs:∀b o,X.base.get? b=some o->X.s₀.heap.get? b=some o/\X.H₀ b=none
 bsz:X.base.objs.size<=X.s₀.heap.objs.size
 noex:∀b o,X.base.get? b=some o->b∉X.ex
 exfs:∀b∈X.ex,b∉X.fs
 funs:X.s₀.heap.FunFrames X.base X.outer
 frf:∀b∈X.fs,X.H₀ b=none
structure Inv (X:Cx) (pins:List (Addr×Obj)) (σ:List (Option V)) (H:Hp) (s:Shared):Prop where
 ok:X.Ok
 os:s.os=X.s₀.os
 bare:AllBare s.gens
 base:Un X.fs X.ex X.H₀ H X.s₀.heap s.heap
 loc:∃m,s.heap.Ns X.env.locals m/\∀(i:Nat) (x:Str) (v:V),X.N[i]?=some x->σ[i]?=some (some v)->Vis X.env.scope x->∃u,RelV v u/\Look X.env s.heap m x u
 cell:∀x c,X.env.cells.lookup x=some c->∃v,s.heap.IsCell c v
 free:H X.env.locals=none
 freeC:∀x c,X.env.cells.lookup x=some c->H c=none
 pin:∀p∈X.pn++pins,s.heap.get? p.1=some p.2/\H p.1=none/\p.1≠X.env.locals/\p.1∉X.fs/\∀v,p.2.data≠.cell v
 hok:HOk X.prog X.w H s.heap
 len:σ.length=X.N.length
section
variable {X:Cx}{pins:List (Addr×Obj)}{σ:List (Option V)}{H H':Hp}{s:Shared}{h':Heap}
theorem Cx.Ok.nofr (ok:X.Ok) {b:Addr}{o:Obj} (e:X.base.get? b=some o):b∉X.fs:=λhb=>by
 have:=(ok.funs.mem hb).1
 rw[e]at this;cases this
theorem Inv.bs (I:Inv X pins σ H s):∀b o,X.base.get? b=some o->s.heap.get? b=some o/\H b=none:=λb o e =>
 ⟨I.base.keep b o (I.ok.bs b o e).1 (I.ok.bs b o e).2 (I.ok.nofr e) (I.ok.noex b o e),I.base.free b o (I.ok.bs b o e).1 (I.ok.bs b o e).2 (I.ok.noex b o e)⟩
theorem Inv.bk (I:Inv X pins σ H s):∀b o,X.base.get? b=some o->s.heap.get? b=some o:=λb o e=>(I.bs b o e).1
theorem Inv.mod (I:Inv X pins σ H s):Mod X.K X.mg X.base:=I.ok.mod
theorem Inv.kIn (I:Inv X pins σ H s):X.K.In s.heap:=I.ok.mod.kin.keeps I.bk
theorem Inv.nolimit (I:Inv X pins σ H s):s.heap.NoLimit:=I.ok.mod.nolimit.keeps I.bk
theorem Inv.lt (I:Inv X pins σ H s):X.env.locals<s.heap.objs.size:=let ⟨_,hn,_⟩:=I.loc;hn.lt
theorem Inv.sz (I:Inv X pins σ H s):X.s₀.heap.objs.size<=s.heap.objs.size:=Yo I.ok.above (Y6 I.lt)
theorem Inv.ZlV (I:Inv X pins σ H s) {a:Addr} (h:s.heap.objs.size<=a):a∉X.fs:=λhb=>by
 obtain⟨_,o,ho,_⟩:=I.ok.funs.mem hb
 exact absurd (YG (Yk ho) (Yo I.sz h)) (YO _)
theorem Inv.cne (I:Inv X pins σ H s):∀x c,X.env.cells.lookup x=some c->c≠X.env.locals:=λx c e z=>by
 obtain⟨v,o,ho,hd⟩:=I.cell x c e
 obtain⟨m,⟨o',es,ep,ho',hd',_⟩,_⟩:=I.loc
 rw[z,ho']at ho;cases ho;rw[hd']at hd;cases hd
theorem Inv.funs (I:Inv X pins σ H s):s.heap.FunFrames X.base X.outer:=by
 have all:∀(l:List Env),(∀b∈frs l,b∈X.fs)->X.s₀.heap.FunFrames X.base l->s.heap.FunFrames X.base l:=by
  intro l
  induction l with
  |nil=>intro _ _;trivial
  |cons env r ih =>
   intro hs hl
   obtain⟨hk,⟨L,o,hf,hn,ho,hd⟩,hr⟩:=hl
   have hL:L∈X.fs:=hs L (by unfold frs;rw[List.filterMap_cons,hf];exact Yz)
   obtain⟨sl,e⟩:=I.base.slot L o ho (I.ok.frf L hL) hL λz=>I.ok.exfs L z hL
   exact⟨hk,⟨L,_,hf,hn,e,hd⟩,ih (λb hb=>hs b (by unfold frs;rw[List.filterMap_cons,hf];exact YD _ hb)) hr⟩
 exact all X.outer (λ_ hb=>hb) I.ok.funs
theorem Inv.stack (I:Inv X pins σ H s):s.heap.FunFrames X.base X.stack:=by
 rcases I.ok.stk with e|⟨e,hf⟩
 ·rw[e];exact I.funs
 ·rw[e]
  obtain⟨m,hn,_⟩:=I.loc
  refine .cons (by rw[I.ok.kind];decide) hf hn ?_ I.funs
  exact Heap.get?_none_of_le (Yo I.ok.bsz I.ok.above)
theorem Inv.Zfc (I:Inv X pins σ H s):∀b∈frs X.stack,b∈X.env.locals::X.fs:=λb hb=>by
 rcases I.ok.stk with e|⟨e,hf⟩
 ·rw[e]at hb;exact YD _ hb
 ·rw[e]at hb
  unfold frs at hb
  rw[List.filterMap_cons,hf]at hb
  exact hb
theorem Inv.Zhg (I:Inv X pins σ H s):∀b∈frs X.stack,H b=none:=λb hb=>by
 rcases Ym.mp (I.Zfc b hb)with e|hb
 ·rw[e];exact I.free
 ·obtain⟨_,o,ho,_⟩:=I.ok.funs.mem hb
  exact I.base.free b o ho (I.ok.frf b hb) λz=>I.ok.exfs b z hb
theorem Inv.step {g':Array GenState}{t':Nat}{d':Drawn}{ch:List Addr} (I:Inv X pins σ H s)
  (hch:∀b∈ch,(b∈X.ex\/X.s₀.heap.objs.size<=b)/\b≠X.env.locals/\(∀x c,X.env.cells.lookup x=some c->c≠b)/\∀p∈X.pn++pins,p.1≠b)
  (keep:∀b o,b≠X.env.locals->b∉X.fs->b∉ch->s.heap.get? b=some o->H b=none->h'.get? b=some o)
  (slot:∀b o,b≠X.env.locals->b∈X.fs->b∉ch->s.heap.get? b=some o->H b=none->∃sl,h'.get? b=some {o with slots:=sl}) (free:∀b o,b∉ch->s.heap.get? b=some o->H b=none->H' b=none)
  (there:∀b o,b∉ch->s.heap.get? b=some o->∃o',h'.get? b=some o')
  (tups:∀b xs,H b=some (.tup xs)->H' b=some (.tup xs)) (frzs:∀b o u,H b=some (.frz o u)->H' b=some (.frz o u)) (tbls:∀b ps,H b=some (.tbl ps)->∃more,H' b=some (.tbl (ps++more)))
  (ns:∀m,s.heap.Ns X.env.locals m->h'.Ns X.env.locals m) (hok:HOk X.prog X.w H' h') (hg:AllBare g') :
  Inv X pins σ H' {s with heap:=h',gens:=g',drawn:=d',toks:=t'}:=by
 have neL:∀b o,X.s₀.heap.get? b=some o->b≠X.env.locals:=λb o e=>Yp (YG (Yk e) I.ok.above)
 have neC:∀b o,X.s₀.heap.get? b=some o->b∉X.ex->b∉ch:=λb o e hx hb=>by
  rcases(hch b hb).1 with z|z
  ·exact hx z
  ·exact absurd (YG (Yk e) z) (YO _)
 have cellK:∀x c,X.env.cells.lookup x=some c->∀v,s.heap.IsCell c v->h'.IsCell c v:=λx c e v ⟨o,ho,hd⟩=>by
  have nch:c∉ch:=λz=>(hch c z).2.2.1 x c e rfl
  by_cases hc:c∈X.fs
  ·obtain⟨sl,q⟩:=slot c o (I.cne x c e) hc nch ho (I.freeC x c e)
   exact⟨_,q,hd⟩
  ·exact⟨o,keep c o (I.cne x c e) hc nch ho (I.freeC x c e),hd⟩
 refine⟨I.ok,I.os,hg,⟨λb o e n hb hx=>?_,λb o e n hb hx=>?_,λb o e n hx=>?_,λb o e hx=>?_,λb xs e=>tups b xs (I.base.tups b xs e),λb o xs e=>frzs b o xs (I.base.frzs b o xs e),λb ps e=>?_⟩,?_,λx c e=>?_,?_,λx c e=>?_,λp hp=>?_,hok,I.len⟩
 ·exact keep b o (neL b o e) hb (neC b o e hx) (I.base.keep b o e n hb hx) (I.base.free b o e n hx)
 ·obtain⟨sl,e1⟩:=I.base.slot b o e n hb hx
  obtain⟨sl',e2⟩:=slot b _ (neL b o e) hb (neC b o e hx) e1 (I.base.free b o e n hx)
  exact⟨sl',e2⟩
 ·obtain⟨o',e1⟩:=I.base.there b o e hx
  exact free b o' (neC b o e hx) e1 (I.base.free b o e n hx)
 ·obtain⟨o',e1⟩:=I.base.there b o e hx
  exact there b o' (neC b o e hx) e1
 ·obtain⟨m1,e1⟩:=I.base.tbls b ps e
  obtain⟨m2,e2⟩:=tbls b _ e1
  exact⟨m1++m2,by rw[e2,Array.append_assoc]⟩
 ·obtain⟨m,hn,hl⟩:=I.loc
  refine⟨m,ns m hn,λi x v e1 e2 e3=>?_⟩
  obtain⟨u,r,l⟩:=hl i x v e1 e2 e3
  refine⟨u,r,?_⟩
  rcases l with l|⟨k,c,e,z⟩
  ·exact .inl l
  ·exact .inr ⟨k,c,e,cellK x c e _ z⟩
 ·obtain⟨v,z⟩:=I.cell x c e
  exact⟨v,cellK x c e v z⟩
 ·obtain⟨m,⟨o,_,_,ho,_⟩,_⟩:=I.loc
  exact free _ o (λz=>(hch _ z).2.1 rfl) ho I.free
 ·obtain⟨v,o,ho,hd⟩:=I.cell x c e
  exact free c o (λz=>(hch c z).2.2.1 x c e rfl) ho (I.freeC x c e)
 ·obtain⟨e,n,ne,nf,d⟩:=I.pin p hp
  have nch:p.1∉ch:=λz=>(hch p.1 z).2.2.2 p hp rfl
  exact⟨keep p.1 p.2 ne nf nch e n,free p.1 p.2 nch e n,ne,nf,d⟩
theorem Inv.un {t':Nat} (I:Inv X pins σ H s) (u:Un X.fs [] H H' s.heap h') (hok:HOk X.prog X.w H' h'):Inv X pins σ H' {s with heap:=h',toks:=t'}:=by
 obtain⟨m,⟨o,es,ep,ho,r⟩,_⟩:=id I.loc
 obtain⟨sl,hL⟩:=u.any ho I.free (by simp)
 exact I.step (g':=s.gens) (d':=s.drawn) (ch:=[]) (λ_ z=>nomatch z) (λb o _ hb _ e n=>u.keep b o e n hb (by simp)) (λb o _ hb _ e n=>u.slot b o e n hb (by simp)) (λb o _ e n=>u.free b o e n (by simp)) (λb o _ e=>u.there b o e (by simp)) u.tups u.frzs u.tbls (λm' hm=>by
  obtain⟨o',es',ep',ho',r'⟩:=hm
  rw[ho]at ho';cases ho'
  exact⟨_,es',ep',hL,r'⟩) hok I.bare
theorem Inv.call {g':Array GenState}{t':Nat}{d':Drawn}{ch:List Addr} (I:Inv X pins σ H s) (u:Un (frs X.stack) ch H H' s.heap h') (hok:HOk X.prog X.w H' h') (hg:AllBare g')
  (hch:∀b∈ch,(b∈X.ex\/X.s₀.heap.objs.size<=b)/\b≠X.env.locals/\(∀x c,X.env.cells.lookup x=some c->c≠b)/\∀p∈X.pn++pins,p.1≠b) :
  Inv X pins σ H' {s with heap:=h',gens:=g',drawn:=d',toks:=t'}:=by
 obtain⟨m,⟨o,es,ep,ho,r⟩,_⟩:=id I.loc
 obtain⟨sl,hL⟩:=u.any ho I.free λz=>(hch _ z).2.1 rfl
 exact I.step (ch:=ch) hch (λb o hL hb hc e n=>u.keep b o e n (λz=>(Ym.mp (I.Zfc b z)).elim hL hb) hc) (λb o _ _ hc e n=>u.any e n hc) (λb o hc e n=>u.free b o e n hc) (λb o hc e=>u.there b o e hc) u.tups u.frzs u.tbls (λm' hm=>by
  obtain⟨o',es',ep',ho',r'⟩:=hm
  rw[ho]at ho';cases ho'
  exact⟨_,es',ep',hL,r'⟩) hok hg
theorem Inv.turned {t':Nat}{it:Addr} (I:Inv X pins σ H s) (k:∀b o,b≠it->s.heap.get? b=some o->h'.get? b=some o) (hn:H it=none) (hL:it≠X.env.locals)
  (h1:it∈X.ex\/X.s₀.heap.objs.size<=it) (h2:∀x c,X.env.cells.lookup x=some c->c≠it) (h3:∀p∈X.pn++pins,p.1≠it):Inv X pins σ H {s with heap:=h',toks:=t'}:=by
 have nit:∀b u,H b=some u->b≠it:=λb u e z=>by rw[z,hn]at e;cases e
 refine I.step (g':=s.gens) (d':=s.drawn) (ch:=[it]) (λb hb=>?_) (λb o _ _ hc e _=>k b o (λz=>hc (by simp[z])) e) (λb o _ _ hc e _=>⟨o.slots,k b o (λz=>hc (by simp[z])) e⟩) (λ_ _ _ _ n=>n)
  (λb o hc e=>⟨o,k b o (λz=>hc (by simp[z])) e⟩) (λ_ _ e=>e) (λ_ _ _ e=>e) (λb ps e=>⟨#[],by rw[e];simp⟩) (λm hm=>?_) (λb u e=>?_) I.bare
 ·have e:b=it:=by simpa using hb
  subst e
  exact⟨h1,hL,h2,h3⟩
 ·obtain⟨o,es,ep,ho,r⟩:=hm
  exact⟨o,es,ep,k _ o (Ne.symm hL) ho,r⟩
 ·refine(I.hok b u e).Zfz (λc v hc q=>k c v ?_ q) (λ_ q=>q) (λ_ _ q=>q) λ_ _ _ q=>q
  rcases hc with z|z
  ·rw[z];exact nit b u e
  ·exact nit c _ z
theorem Inv.tok (I:Inv X pins σ H s) (t:Nat):Inv X pins σ H {s with toks:=t}:=I.un (h':=s.heap) (t':=t) Un.refl I.hok
theorem Inv.kept {t':Nat} (I:Inv X pins σ H s) (k:∀b u,s.heap.get? b=some u->h'.get? b=some u):Inv X pins σ H {s with heap:=h',toks:=t'}:=I.un (Un.kept k) (I.hok.kept k)
theorem Inv.laid {a:Addr}{o:HO}{t':Nat} (I:Inv X pins σ H s) (k:∀b u,s.heap.get? b=some u->h'.get? b=some u) (hp:s.heap.objs.size<=a) (new:ZZ X.prog X.w (upd H a o) h' a o) :
  Inv X pins σ (upd H a o) {s with heap:=h',toks:=t'}:=I.un (Un.laid k hp (I.hok.fresh hp)) (I.hok.laid k hp new)
theorem Inv.write {x e:Addr}{o:HO}{t':Nat} (I:Inv X pins σ H s) (mu:Mut (H x)) (he:e=x\/H e=some (.own x)) (k:∀b u,b≠e->s.heap.get? b=some u->h'.get? b=some u) (heo:∃u,h'.get? e=some u)
  (new:ZZ X.prog X.w (upd H x o) h' x o):Inv X pins σ (upd H x o) {s with heap:=h',toks:=t'}:=I.un (Un.write mu he k heo) (I.hok.write mu he k heo new)
theorem Inv.weak {σ':List (Option V)} (I:Inv X pins σ H s) (hl:σ'.length=σ.length) (w:∀(i:Nat) v,σ'[i]?=some (some v)->σ[i]?=some (some v)):Inv X pins σ' H s :=
 ⟨I.ok,I.os,I.bare,I.base,let ⟨m,hn,hl'⟩:=I.loc;⟨m,hn,λi x v e1 e2 e3=>hl' i x v e1 (w i v e2) e3⟩,I.cell,I.free,I.freeC,I.pin,I.hok,hl.trans I.len⟩
theorem Inv.ZX {pins':List (Addr×Obj)} (I:Inv X pins σ H s) (h:∀p∈pins',s.heap.get? p.1=some p.2/\H p.1=none/\p.1≠X.env.locals/\p.1∉X.fs/\∀v,p.2.data≠.cell v):Inv X pins' σ H s :=
 ⟨I.ok,I.os,I.bare,I.base,I.loc,I.cell,I.free,I.freeC,λp hp=>(Yq.mp hp).elim (λz=>I.pin p (YA _ z)) (h p),I.hok,I.len⟩
theorem ZkE {N:List Str} (hN:N.Nodup) {i j:Nat}{x:Str} (a:N[i]?=some x) (b:N[j]?=some x):i=j:=by
 obtain⟨h1,e1⟩:=Yx.mp a
 obtain⟨h2,e2⟩:=Yx.mp b
 exact(List.getElem_inj hN).mp (e1.trans e2.symm)
theorem ZnR {M:Model}{A:Around}{E:Value->Shared->Prop}{i:Nat}{x:Str}{v:V}{u:Value}{Q:Unit->Shared->Prop} (I:Inv X pins σ H s) (hN:X.N.Nodup) (hi:X.N[i]?=some x) (hx:Loc X.env.scope x) (r:RelV v u)
  (h:∀s',Inv X pins (σ.set i (some v)) H s'->(∃a,Heap.SameBut a s.heap s'.heap/\(a=X.env.locals\/X.env.cells.lookup x=some a))->Q () s') (hf:X.fn x=true\/X.env.scope.names.lookup x=some .local:=by first|exact .inl rfl|exact .inr rfl|assumption):wpAny M A (storeName X.env x u) Q E s:=by
 obtain⟨m,hn,hl⟩:=id I.loc
 have hcls:(X.env.scope.kind==.class||(X.env.scope.kind==.module&&X.env.locals != X.env.globals))=false:=by rw[I.ok.kind];rfl
 have hiσ:i < σ.length:=by rw[I.len];exact(Yx.mp hi).1
 have cne:=I.cne
 have tracked:∀{a:Addr}{h':Heap},(∃o,s.heap.get? a=some o/\H a=none)->Heap.SameBut a s.heap h'->HOk X.prog X.w H h':=λ{a h'} ha hs b ob e=>by
  obtain⟨_,_,hfree⟩:=ha
  refine(I.hok b ob e).Zfz (λc w' hc q=>(hs.2 c ?_).trans q) (λ_ q=>q) (λ_ _ q=>q) λ_ _ _ q=>q
  rintro rfl
  rcases hc with rfl|hc
  ·rw[hfree]at e;cases e
  ·rw[hfree]at hc;cases hc
 rcases hx with hk|hk
 ·refine wpAny_storeName_local hk hn (λh' hn' hs=>?_) hcls
  obtain⟨oL,_,_,hoL,_⟩:=id hn
  refine h _ ⟨I.ok,I.os,I.bare,⟨λb o e n hb hx=>?_,λb o e n hb hx=>?_,I.base.free,λb o e hx=>?_,I.base.tups,I.base.frzs,I.base.tbls⟩,⟨_,hn',λj y v' e1 e2 e3=>?_⟩,λy c e=>?_,I.free,I.freeC,λp hp=>?_,tracked ⟨oL,hoL,I.free⟩ hs,by simpa using I.len⟩ ⟨_,hs,.inl rfl⟩
  ·exact(hs.2 b (Yp (YG (Yk e) I.ok.above))).trans (I.base.keep b o e n hb hx)
  ·obtain⟨sl,e1⟩:=I.base.slot b o e n hb hx
   exact⟨sl,(hs.2 b (Yp (YG (Yk e) I.ok.above))).trans e1⟩
  ·obtain⟨o',e1⟩:=I.base.there b o e hx
   exact⟨o',(hs.2 b (Yp (YG (Yk e) I.ok.above))).trans e1⟩
  ·by_cases hj:j=i
   ·subst hj
    rw[hi]at e1;cases e1
    rw[List.getElem?_set_self hiσ]at e2
    cases e2
    exact⟨u,r,.inl ⟨hk,by simp⟩⟩
   ·rw[List.getElem?_set_ne (Ne.symm hj)]at e2
    obtain⟨u',r',q⟩:=hl j y v' e1 e2 e3
    refine⟨u',r',?_⟩
    rcases q with⟨k,e⟩|⟨k,c,e,z⟩
    ·refine .inl ⟨k,?_⟩
     have:y≠x:=λe=>hj (ZkE hN e1 (e▸hi))
     simp[this,e]
    ·exact .inr ⟨k,c,e,z.sameBut hs (cne y c e)⟩
  ·obtain⟨w',z⟩:=I.cell y c e
   exact⟨w',z.sameBut hs (cne y c e)⟩
  ·obtain⟨e,n,ne,nf,d⟩:=I.pin p hp
   exact⟨(hs.2 p.1 ne).trans e,n,ne,nf,d⟩
 ·have hfn:X.fn x=true:=by
   rcases hf with z|z
   ·exact z
   ·rw[z]at hk;cases hk
  obtain⟨c,hc⟩:=I.ok.has x (.inl hk)
  obtain⟨w',z⟩:=I.cell x c hc
  refine wpAny_storeName_cell I.ok.kind hk hc z (λh' hc' hs=>?_)
  obtain⟨oc,hoc,hocd⟩:=id z
  refine h {s with heap:=h'} ⟨I.ok,I.os,I.bare,⟨λb o e n hb hx=>?_,λb o e n hb hx=>?_,I.base.free,λb o e hx=>?_,I.base.tups,I.base.frzs,I.base.tbls⟩,⟨m,hn.sameBut hs (Ne.symm (cne x c hc)),λj y v' e1 e2 e3=>?_⟩,λy c' e=>?_,I.free,I.freeC,λp hp=>?_,tracked ⟨oc,hoc,I.freeC x c hc⟩ hs,by simpa using I.len⟩ ⟨c,hs,.inr hc⟩
  ·exact(hs.2 b (Yp (YG (Yk e) (I.ok.cab x c hfn hc)))).trans (I.base.keep b o e n hb hx)
  ·obtain⟨sl,e1⟩:=I.base.slot b o e n hb hx
   exact⟨sl,(hs.2 b (Yp (YG (Yk e) (I.ok.cab x c hfn hc)))).trans e1⟩
  ·obtain⟨o',e1⟩:=I.base.there b o e hx
   exact⟨o',(hs.2 b (Yp (YG (Yk e) (I.ok.cab x c hfn hc)))).trans e1⟩
  ·by_cases hj:j=i
   ·subst hj
    rw[hi]at e1;cases e1
    rw[List.getElem?_set_self hiσ]at e2
    cases e2
    exact⟨u,r,.inr ⟨.inl hk,c,hc,hc'⟩⟩
   ·rw[List.getElem?_set_ne (Ne.symm hj)]at e2
    obtain⟨u',r',q⟩:=hl j y v' e1 e2 e3
    refine⟨u',r',?_⟩
    rcases q with q|⟨k,c',e,z'⟩
    ·exact .inl q
    ·refine .inr ⟨k,c',e,z'.sameBut hs ?_⟩
     rintro rfl
     exact hj (ZkE hN e1 (I.ok.inj _ _ _ e hc▸hi))
  ·by_cases hcc:c'=c
   ·subst hcc;exact⟨_,hc'⟩
   ·obtain⟨w2,z2⟩:=I.cell y c' e
    exact⟨w2,z2.sameBut hs hcc⟩
  ·obtain⟨e,n,ne,nf,d⟩:=I.pin p hp
   refine⟨(hs.2 p.1 ?_).trans e,n,ne,nf,d⟩
   intro q
   rw[q,hoc]at e
   have q':oc=p.2:=YN e
   exact d w' (by rw[<-q'];exact hocd)
theorem Zhr {M:Model}{A:Around}{E:Value->Shared->Prop}{i:Nat}{x:Str}{v:V}{u:Value}{Q:Unit->Shared->Prop} (I:Inv X pins σ H s) (hN:X.N.Nodup) (hi:X.N[i]?=some x) (hx:Loc X.env.scope x) (r:RelV v u)
  (h:∀s',Inv X pins (σ.set i (some v)) H s'->Q () s') (hf:X.fn x=true\/X.env.scope.names.lookup x=some .local:=by first|exact .inl rfl|exact .inr rfl|assumption):wpAny M A (storeName X.env x u) Q E s :=
 ZnR I hN hi hx r (λs' I' _=>h s' I') hf
theorem Inv.Zpy {s':Shared}{ch:List Addr} (I:Inv X pins σ H s) (ho:s'.os=s.os) (u:Un (frs X.stack) ch H H' s.heap s'.heap) (hok:HOk X.prog X.w H' s'.heap) (hg:AllBare s'.gens)
  (hch:∀b∈ch,(b∈X.ex\/X.s₀.heap.objs.size<=b)/\b≠X.env.locals/\(∀x c,X.env.cells.lookup x=some c->c≠b)/\∀p∈X.pn++pins,p.1≠b):Inv X pins σ H' s':=by
 obtain⟨h',g',d',t',o'⟩:=s'
 have e:o'=s.os:=ho
 subst e
 exact I.call (g':=g') (t':=t') (d':=d') u hok hg hch
end
noncomputable abbrev XK:=Value->Option Addr->Hp->Prop
noncomputable abbrev St:=List (Option V)
noncomputable abbrev VK:=V->Hp->Prop
noncomputable abbrev TE:=St->Hp->VK->Prop
noncomputable abbrev TT:=St->Hp->(Bool->Hp->Prop)->Prop
noncomputable abbrev TA:=St->Hp->(List V->Hp->Prop)->Prop
structure Ends where
 nx:St->Hp->Prop
 rt:VK
 bk:St->Hp->Prop:=λ_ _=>False
 ct:St->Hp->Prop:=λ_ _=>False
noncomputable abbrev TS:=Ends->St->Hp->Prop
noncomputable def EP (X:Cx) (pins:List (Addr×Obj)) (σ:St) (Q:VK) (u:Value) (s':Shared):Prop:=∃v H',Inv X pins σ H' s'/\RelV v u/\Q v H'
noncomputable def TP (X:Cx) (pins:List (Addr×Obj)) (σ:St) (Q:Bool->Hp->Prop) (b:Bool) (s':Shared):Prop:=∃H',Inv X pins σ H' s'/\Q b H'
noncomputable def AP (X:Cx) (pins:List (Addr×Obj)) (σ:St) (Q:List V->Hp->Prop) (us:List Value) (s':Shared):Prop:=∃vs H',Inv X pins σ H' s'/\Vals vs us/\Q vs H'
noncomputable def SP (X:Cx) (pins:List (Addr×Obj)) (D:Ends) (f:Flow) (s':Shared):Prop :=
 match f with
 |.next=>∃σ' H',Inv X pins σ' H' s'/\D.nx σ' H'
 |.brk=>∃σ' H',Inv X pins σ' H' s'/\D.bk σ' H'
 |.cont=>∃σ' H',Inv X pins σ' H' s'/\D.ct σ' H'
 |.ret u=>∃v σ' H',Inv X pins σ' H' s'/\RelV v u/\D.rt v H'
noncomputable def PE (X:Cx) (e:Expr) (t:TE):Prop :=
 ∀(pins:List (Addr×Obj)) (s:Shared) (σ:St) (H:Hp) (Q:VK),Inv X pins σ H s->t σ H Q->wpAny (model X.prog X.w) X.A (eval e X.env) (EP X pins σ Q) X.xe s
noncomputable def PT (X:Cx) (e:Expr) (t:TT):Prop :=
 ∀(pins:List (Addr×Obj)) (s:Shared) (σ:St) (H:Hp) (Q:Bool->Hp->Prop),Inv X pins σ H s->t σ H Q->wpAny (model X.prog X.w) X.A (isTrue e X.env (eval e X.env)) (TP X pins σ Q) X.xe s
noncomputable def PW (X:Cx) (e:Expr) (t:TT):Prop :=
 ∀(whole:Sem Value) (pins:List (Addr×Obj)) (s:Shared) (σ:St) (H:Hp) (Q:Bool->Hp->Prop),Inv X pins σ H s->t σ H Q->wpAny (model X.prog X.w) X.A (isTrue e X.env whole) (TP X pins σ Q) X.xe s
theorem PW.pt {X:Cx}{e:Expr}{t:TT} (h:PW X e t):PT X e t:=h _
noncomputable def PA (X:Cx) (es:List Expr) (t:TA):Prop :=
 ∀(pos:Pos) (pins:List (Addr×Obj)) (s:Shared) (σ:St) (H:Hp) (Q:List V->Hp->Prop),Inv X pins σ H s->t σ H Q->wpAny (model X.prog X.w) X.A (spliced (backTo pos (starEach es X.env))) (AP X pins σ Q) X.xe s
noncomputable def PS (X:Cx) (st:Stmt) (t:TS):Prop :=
 ∀(pins:List (Addr×Obj)) (s:Shared) (σ:St) (H:Hp) (D:Ends),Inv X pins σ H s->t D σ H->wpAny (model X.prog X.w) X.A (exec st X.env) (SP X pins D) X.xe s
noncomputable def PSs (X:Cx) (st:List Stmt) (t:TS):Prop :=
 ∀(pins:List (Addr×Obj)) (s:Shared) (σ:St) (H:Hp) (D:Ends),Inv X pins σ H s->t D σ H->wpAny (model X.prog X.w) X.A (execs st X.env) (SP X pins D) X.xe s
theorem thn {α:Type}{t:Sem α}{Q Q':α->Shared->Prop}{M:Model}{A:Around}{E:Value->Shared->Prop}{s:Shared} (h:wpAny M A t Q E s) (hQ:∀a s,Q a s->Q' a s):wpAny M A t Q' E s:=Yy h hQ λ_ _ x=>x
section
variable {X:Cx}
noncomputable def Zfd (i:Nat):TE:=fun σ H Q=>∃v,σ[i]?=some (some v)/\Q v H
noncomputable def tC (v:V):TE:=λ_ H Q=>Q v H
theorem pe_var {i:Nat}{x:Str}{pos:Pos} (hN:X.N[i]?=some x) (hv:Vis X.env.scope x) (hd:(x==("__debug__":Str))=false:=by decide) (hcd:(x==("__classdict__":Str))=false:=by decide):PE X (.Name x pos) (Zfd i):=by
 intro pins s σ H Q I h
 obtain⟨v,e,h⟩:=h
 obtain⟨m,hn,hl⟩:=I.loc
 obtain⟨u,r,l⟩:=hl i x v hN e hv
 have fin:EP X pins σ Q u s:=⟨v,H,I,r,h⟩
 rcases l with⟨hk,hm⟩|⟨hk,c,hc,hcell⟩
 ·exact wpAny_Name (wpAny_loadName_local I.ok.kind hk hn hm fin) hd
 ·rcases hk with hk|hk
  ·exact wpAny_Name (wpAny_loadName_cell I.ok.kind hk hc hcell fin) hd
  ·exact wpAny_Name (wpAny_loadName_free I.ok.kind hk hc hcell fin hcd) hd
theorem Zf {i j pos}:PE X (.Constant (.int i) j pos) (tC (.int i)):=λ_ _ _ H _ I h=>wpAny_Constant_int ⟨.int i,H,I.tok _,⟨_,rfl⟩,h⟩
theorem Zhs {b j pos}:PE X (.Constant (.bool b) j pos) (tC (.bl b)):=λ_ _ _ H _ I h=>Constant_bool ⟨.bl b,H,I,rfl,h⟩
theorem Zf9 {j pos}:PE X (.Constant .none j pos) (tC .non):=λ_ _ _ H _ I h=>Constant_none ⟨.non,H,I,rfl,h⟩
theorem ZjE {x j pos}:PE X (.Constant (.str x) j pos) (tC (.str x)):=λ_ _ _ H _ I h=>Calls.Constant_str ⟨.str x,H,I.tok _,⟨_,rfl⟩,h⟩
noncomputable def Gl (X:Cx) (x:Str):Prop:=X.env.kindOf x=some .globalImplicit
theorem ZjF {E:Value->Shared->Prop}{pins:List (Addr×Obj)}{s:Shared}{σ:St}{H:Hp}{x:Str}{u:Value}{pos:Pos}{Q:Value->Shared->Prop} (I:Inv X pins σ H s) (hg:Gl X x) (hm:X.mg x=some u) (h:Q u s)
  (hd:(x==("__debug__":Str))=false:=by decide):wpAny (model X.prog X.w) X.A (eval (.Name x pos) X.env) Q E s :=
 Calls.Name_function_global I.ok.kind hg (Calls.loadGlobal_global (by rw[I.ok.glob];exact I.mod.glob.keeps I.bk) hm h) hd
theorem Zcn {E:Value->Shared->Prop}{pins:List (Addr×Obj)}{s:Shared}{σ:St}{H:Hp}{x:Str}{u:Value}{pos:Pos}{Q:Value->Shared->Prop} (I:Inv X pins σ H s) (hg:Gl X x) (hm:X.mg x=none) (hv:bootBuiltins x=some u) (h:Q u s)
  (hn:x≠"__name__":=by decide) (hd:(x==("__debug__":Str))=false:=by decide):wpAny (model X.prog X.w) X.A (eval (.Name x pos) X.env) Q E s:=by
 obtain⟨mb,h1,h2⟩:=I.mod.blt
 exact Calls.Name_function_global I.ok.kind hg (Calls.loadGlobal_builtin (by rw[I.ok.glob];exact I.mod.glob.keeps I.bk) hm (by rw[I.ok.blt];exact h1.keeps I.bk) ((h2 x hn).trans hv) h) hd
theorem ZrY {x:Str}{v:V}{u:Value}{pos:Pos} (hg:Gl X x) (hm:X.mg x=some u) (r:RelV v u) (hd:(x==("__debug__":Str))=false:=by decide):PE X (.Name x pos) (tC v) :=
 λ_ _ _ H _ I h=>ZjF I hg hm ⟨v,H,I,r,h⟩ hd
theorem ZrZ {x:Str}{v:V}{u:Value}{pos:Pos} (hg:Gl X x) (hm:X.mg x=none) (hv:bootBuiltins x=some u) (r:RelV v u) (hn:x≠"__name__":=by decide) (hd:(x==("__debug__":Str))=false:=by decide):PE X (.Name x pos) (tC v) :=
 λ_ _ _ H _ I h=>Zcn I hg hm hv ⟨v,H,I,r,h⟩ hn hd
variable {a b:Expr}{ta tb:TE}{pos:Pos}
noncomputable def PC (X:Cx) (op:CmpOp) (a b:Expr) (t:TE):Prop :=
 ∀(pins:List (Addr×Obj)) (s:Shared) (σ:St) (H:Hp) (Q:VK),Inv X pins σ H s->t σ H Q ->
  wpAny (model X.prog X.w) X.A (eval a X.env) (λv s₁=>wpAny (model X.prog X.w) X.A (eval b X.env) (λu s₂=>wpAny (model X.prog X.w) X.A (compareOp op v u) (EP X pins σ Q) X.xe s₂) X.xe s₁) X.xe s
theorem Zpz (b:Expr) {op:CmpOp} (h:op≠.In) (h2:op≠.NotIn):behindInMarks op b=false:=by
 have e1:(op==CmpOp.In)=false:=by cases op<;>first|rfl|exact absurd rfl h
 have e2:(op==CmpOp.NotIn)=false:=by cases op<;>first|rfl|exact absurd rfl h2
 cases b<;>simp[behindInMarks,e1,e2]
noncomputable def tB (t:TE):TT:=fun σ H Q=>t σ H λx H1=>∃c,x=.bl c/\Q c H1
theorem pt_cmp {op:CmpOp}{t:TE} (h:PC X op a b t) (h1:behindInMarks op b=false:=by first|exact Zpz _ (by decide) (by decide)|rfl):PT X (.Compare a [op] [b] pos) (tB t):=by
 intro pins s σ H Q I hw
 refine wpAny_isTrue_Compare1 (thn (h pins s σ H _ I hw) λv s1 h1=>thn h1 λu s2 h2=>thn h2 λc s3 ⟨x,H1,I1,r1,q1⟩=>?_) h1
 obtain⟨d,rfl,q⟩:=q1
 cases r1
 exact wpAny_truthy_bool ⟨H1,I1,q⟩
theorem Zga {e:Expr}{t:TE} (h:PE X e t) (he:∀whole,isTrue e X.env whole=(do let v <-whole;standAt e.pos;holding [v] (truthy v)):=by intro _;rfl):PT X e (tB t):=by
 intro pins s σ H Q I hw
 refine isTrue_plain (thn (h pins s σ H _ I hw) λv s1 ⟨x,H1,I1,r1,q1⟩=>?_) (he _)
 obtain⟨d,rfl,q⟩:=q1
 cases r1
 exact wpAny_truthy_bool ⟨H1,I1,q⟩
variable {tA tB':TT}{rest:List Expr}
noncomputable def tAnd (t u:TT):TT:=fun σ H Q=>t σ H λc H1=>if c=true then u σ H1 Q else Q false H1
noncomputable def tOr (t u:TT):TT:=fun σ H Q=>t σ H λc H1=>if c=true then Q true H1 else u σ H1 Q
noncomputable def tNot (t:TT):TT:=fun σ H Q=>t σ H λc H1=>Q (!c) H1
theorem ZfA (ha:PT X a tA):PW X (.BoolOp .And [a] pos) tA:=by
 intro wh pins s σ H Q I h
 refine isTrue_and (thn (ha pins s σ H Q I h) λc s1 e=>?_)
 cases c with
 |true=>exact isTrue_and_nil e
 |false=>exact e
theorem ZpA (ha:PT X a tA):PW X (.BoolOp .Or [a] pos) tA:=by
 intro wh pins s σ H Q I h
 refine isTrue_or (thn (ha pins s σ H Q I h) λc s1 e=>?_)
 cases c with
 |false=>exact isTrue_or_nil e
 |true=>exact e
theorem Zht (ha:PT X a tA) (hb:PW X (.BoolOp .And (b::rest) pos) tB'):PW X (.BoolOp .And (a::b::rest) pos) (tAnd tA tB'):=by
 intro wh pins s σ H Q I h
 refine isTrue_and (thn (ha pins s σ H _ I h) λc s1 ⟨H1,I1,q1⟩=>?_)
 cases c with
 |true=>exact hb wh pins s1 σ H1 Q I1 q1
 |false=>exact⟨H1,I1,q1⟩
theorem ZpB (ha:PT X a tA) (hb:PW X (.BoolOp .Or (b::rest) pos) tB'):PW X (.BoolOp .Or (a::b::rest) pos) (tOr tA tB'):=by
 intro wh pins s σ H Q I h
 refine isTrue_or (thn (ha pins s σ H _ I h) λc s1 ⟨H1,I1,q1⟩=>?_)
 cases c with
 |true=>exact⟨H1,I1,q1⟩
 |false=>exact hb wh pins s1 σ H1 Q I1 q1
theorem Zhu (ha:PT X a tA):PT X (.UnaryOp .Not a pos) (tNot tA):=by
 intro pins s σ H Q I h
 exact isTrue_not (ha pins s σ H (λc H1=>Q (!c) H1) I h)
noncomputable def Zm6 (ta tb:TE):TE:=fun σ H Q=>ta σ H λx H1=>∃c,x=.bl c/\if c=true then tb σ H1 Q else Q (.bl false) H1
noncomputable def tOrV (ta tb:TE):TE:=fun σ H Q=>ta σ H λx H1=>∃c,x=.bl c/\if c=true then Q (.bl true) H1 else tb σ H1 Q
theorem Zhv {op}{t:TE} (h:PE X a t):PE X (.BoolOp op [a] pos) t:=λpins s σ H Q I hw=>BoolOp_one (h pins s σ H Q I hw)
theorem Zgb (ha:PE X a ta) (hb:PE X (.BoolOp .And (b::rest) pos) tb):PE X (.BoolOp .And (a::b::rest) pos) (Zm6 ta tb):=by
 intro pins s σ H Q I h
 refine BoolOp_and (thn (ha pins s σ H _ I h) λv s1 ⟨x,H1,I1,r1,q1⟩=>?_)
 obtain⟨c,rfl,q1⟩:=q1
 cases r1
 refine wpAny_truthy_bool ?_
 cases c with
 |true=>exact hb pins s1 σ H1 Q I1 q1
 |false=>exact⟨.bl false,H1,I1,rfl,q1⟩
theorem pe_or (ha:PE X a ta) (hb:PE X (.BoolOp .Or (b::rest) pos) tb):PE X (.BoolOp .Or (a::b::rest) pos) (tOrV ta tb):=by
 intro pins s σ H Q I h
 refine BoolOp_or (thn (ha pins s σ H _ I h) λv s1 ⟨x,H1,I1,r1,q1⟩=>?_)
 obtain⟨c,rfl,q1⟩:=q1
 cases r1
 refine wpAny_truthy_bool ?_
 cases c with
 |false=>exact hb pins s1 σ H1 Q I1 q1
 |true=>exact⟨.bl true,H1,I1,rfl,q1⟩
noncomputable def tIf (t:TT) (ta tb:TE):TE:=fun σ H Q=>t σ H λc H1=>if c=true then ta σ H1 Q else tb σ H1 Q
theorem ZkF {c:Expr} (hc:PT X c tA) (ha:PE X a ta) (hb:PE X b tb):PE X (.IfExp c a b pos) (tIf tA ta tb):=by
 intro pins s σ H Q I h
 refine wpAny_IfExp (thn (hc pins s σ H _ I h) λd s1 ⟨H1,I1,q1⟩=>?_)
 cases d with
 |true=>exact ha pins s1 σ H1 Q I1 q1
 |false=>exact hb pins s1 σ H1 Q I1 q1
end
noncomputable def SqL (K:PySem.W.Frag) (H:Hp) (a:Addr) (xs:List V):Prop :=
 Rd H a (.lst xs) \/
  ∃(o:Obj) (its:Array Value) (n:Nat),K.lookup a=some o/\o.cls=.type "list"/\o.dict=none/\o.data=.seq its n/\its.size<=sizeLine/\Vals xs its.toList
noncomputable def SqT (K:PySem.W.Frag) (H:Hp) (a:Addr) (xs:List V):Prop :=
 Rd H a (.tup xs) \/
  ∃(o:Obj) (its:Array Value) (n:Nat),K.lookup a=some o/\o.cls=.type "tuple"/\o.data=.seq its n/\its.size<=sizeLine/\Vals xs its.toList
noncomputable def absV:Value->Option V
 |.none=>some .non
 |.bool b=>some (.bl b)
 |.int i _=>some (.int i)
 |.str x _=>some (.str x)
 |.bytes b _=>some (.byt b)
 |.float b _=>some (.flt b)
 |.ref a=>some (.ref a)
 |.type n=>some (.ty n)
 |_=>none
theorem RelV.abs {x:V}{u:Value} (r:RelV x u):absV u=some x:=by
 cases x with
 |non=>cases r;rfl
 |bl _=>cases r;rfl
 |int _=>obtain⟨t,rfl⟩:=r;rfl
 |str _=>obtain⟨t,rfl⟩:=r;rfl
 |byt _=>obtain⟨t,rfl⟩:=r;rfl
 |flt _=>obtain⟨t,rfl⟩:=r;rfl
 |ref _=>cases r;rfl
 |ty _=>cases r;rfl
theorem RelV.inj {x y:V}{u:Value} (r:RelV x u) (q:RelV y u):x=y:=YN (r.abs.symm.trans q.abs)
theorem Vals.inj:∀{xs ys:List V}{us:List Value},Vals xs us->Vals ys us->xs=ys
 |_,_,_,.nil,.nil=>rfl
 |_,_,_,.cons r t,.cons r' t'=>by rw[r.inj r',Vals.inj t t']
section
variable {X:Cx}{pins:List (Addr×Obj)}{σ:St}{H:Hp}{s:Shared}{a:Addr}{xs ys:List V}
theorem SqL.of {K:PySem.W.Frag} (h:H a=some (.lst xs)):SqL K H a xs:=.inl (.inl h)
theorem SqT.of {K:PySem.W.Frag} (h:H a=some (.tup xs)):SqT K H a xs:=.inl (.inl h)
theorem Inv.list (I:Inv X pins σ H s) (h:SqL X.K H a xs):∃its:List Value,Vals xs its/\PlainL s.heap a its.toArray/\xs.length<=sizeLine:=by
 rcases h with h|⟨o,its,n,hk,hc,hd,hs,hz,r⟩
 ·obtain⟨z,its,n,r,e⟩:=h.ok I.hok
  exact⟨its,r,⟨_,n,e,rfl,rfl,rfl⟩,z⟩
 ·refine⟨its.toList,r,⟨o,n,I.kIn a o hk,hc,hd,by simpa using hs⟩,?_⟩
  have e:=r.length
  simp only[YQ]at e
  omega
theorem Inv.tuple (I:Inv X pins σ H s) (h:SqT X.K H a xs):∃its:List Value,Vals xs its/\IsTup s.heap a its.toArray/\xs.length<=sizeLine:=by
 rcases h with h|⟨o,its,n,hk,hc,hs,hz,r⟩
 ·obtain⟨z,its,r,p⟩:=h.ok I.hok
  exact⟨its,r,p,z⟩
 ·refine⟨its.toList,r,⟨o,I.kIn a o hk,hc,n,by simpa using hs⟩,?_⟩
  have e:=r.length
  simp only[YQ]at e
  omega
theorem Inv.Zdc (I:Inv X pins σ H s) (h:SqL X.K H a xs) (h':SqL X.K H a ys):xs=ys:=by
 obtain⟨its,r,⟨o,n,e,_,_,d⟩,_⟩:=I.list h
 obtain⟨its',r',⟨o',n',e',_,_,d'⟩,_⟩:=I.list h'
 rw[e]at e';cases e'
 rw[d]at d'
 injection d' with d1 _
 have:its=its':=by simpa using congrArg Array.toList d1
 subst this
 exact r.inj r'
theorem Inv.ZeN (I:Inv X pins σ H s) (h:SqT X.K H a xs) (h':SqT X.K H a ys):xs=ys:=by
 obtain⟨its,r,⟨o,e,_,n,d⟩,_⟩:=I.tuple h
 obtain⟨its',r',⟨o',e',_,n',d'⟩,_⟩:=I.tuple h'
 rw[e]at e';cases e'
 rw[d]at d'
 injection d' with d1 _
 have:its=its':=by simpa using congrArg Array.toList d1
 subst this
 exact r.inj r'
end
noncomputable abbrev Cx.ZiS (X:Cx) (E:Value->Shared->Prop):Cx:={X with xe:=E}
noncomputable abbrev Cx.nox (X:Cx):Cx:=X.ZiS λ_ _=>False
theorem Cx.Ok.ZiS {X:Cx} (ok:X.Ok) (E:Value->Shared->Prop):(X.ZiS E).Ok :=
 ⟨ok.mod,ok.kind,ok.glob,ok.blt,ok.above,ok.inj,ok.has,ok.cab,ok.hd,ok.frames,ok.stk,ok.exf,ok.bs,ok.bsz,ok.noex,ok.exfs,ok.funs,ok.frf⟩
theorem Cx.Ok.Zd9 {X:Cx}{E:Value->Shared->Prop} (ok:(X.ZiS E).Ok):X.Ok :=
 ⟨ok.mod,ok.kind,ok.glob,ok.blt,ok.above,ok.inj,ok.has,ok.cab,ok.hd,ok.frames,ok.stk,ok.exf,ok.bs,ok.bsz,ok.noex,ok.exfs,ok.funs,ok.frf⟩
section
variable {X:Cx}{pins:List (Addr×Obj)}{σ:St}{H:Hp}{s:Shared}{E:Value->Shared->Prop}
theorem Inv.ZiS (I:Inv X pins σ H s) (E:Value->Shared->Prop):Inv (X.ZiS E) pins σ H s:=⟨I.ok.ZiS E,I.os,I.bare,I.base,I.loc,I.cell,I.free,I.freeC,I.pin,I.hok,I.len⟩
theorem Inv.Zd9 (I:Inv (X.ZiS E) pins σ H s):Inv X pins σ H s:=⟨I.ok.Zd9,I.os,I.bare,I.base,I.loc,I.cell,I.free,I.freeC,I.pin,I.hok,I.len⟩
theorem SP.Zd9 {D:Ends}{f:Flow}{s':Shared} (h:SP (X.ZiS E) pins D f s'):SP X pins D f s':=by
 cases f with
 |next=>obtain⟨σ',H',I,q⟩:=h;exact⟨σ',H',I.Zd9,q⟩
 |brk=>obtain⟨σ',H',I,q⟩:=h;exact⟨σ',H',I.Zd9,q⟩
 |cont=>obtain⟨σ',H',I,q⟩:=h;exact⟨σ',H',I.Zd9,q⟩
 |ret u=>obtain⟨v,σ',H',I,r,q⟩:=h;exact⟨v,σ',H',I.Zd9,r,q⟩
end
section
variable {X:Cx}{st:Stmt}{rest:List Stmt}{t u:TS}{e:Expr}{te:TE}{pos:Pos}
noncomputable def ZpC:TS:=λD σ H=>D.nx σ H
noncomputable def tSeq (t u:TS):TS:=λD σ H=>t {D with nx:=u D} σ H
theorem ZK:PSs X [] ZpC:=λ_ _ σ H _ I h=>wpAny_execs_nil ⟨σ,H,I,h⟩
theorem Zd (h1:PS X st t) (h2:PSs X rest u):PSs X (st::rest) (tSeq t u):=by
 intro pins s σ H D I h
 refine wpAny_execs_cons (thn (h1 pins s σ H {D with nx:=u D} I h) λf s1 q=>?_)
 cases f with
 |next =>
  obtain⟨σ',H',I',q⟩:=q
  exact h2 pins s1 σ' H' D I' q
 |ret v=>exact q
 |brk=>exact q
 |cont=>exact q
theorem Zi (h1:PS X st t):PSs X [st] t:=by
 intro pins s σ H D I h
 refine wpAny_execs_cons (thn (h1 pins s σ H D I h) λf s1 q=>?_)
 cases f with
 |next=>exact wpAny_execs_nil q
 |ret v=>exact q
 |brk=>exact q
 |cont=>exact q
theorem Inv.quiet {pins:List (Addr×Obj)}{σ:St}{H:Hp}{s:Shared} (I:Inv X pins σ H s):interactive X.env=false:=by simp[interactive,I.ok.kind]
noncomputable def ZpD (te:TE):TS:=λD σ H=>te σ H λ_ H1=>D.nx σ H1
theorem ZaL (he:PE X e te) (hs:swapsWith e none pos.line X.env=pure false:=by rfl):PS X (.Expr e pos) (ZpD te):=by
 intro pins s σ H D I h
 exact wpAny_Expr_any (thn (he pins s σ H _ I h) λv s1 ⟨x,H1,I1,r1,q1⟩=>⟨σ,H1,I1,q1⟩) I.quiet hs
noncomputable def tRet (te:TE):TS:=λD σ H=>te σ H D.rt
theorem ZE (he:PE X e te):PS X (.Return (some e) pos) (tRet te):=by
 intro pins s σ H D I h
 exact wpAny_Return_some (thn (he pins s σ H _ I h) λv s1 ⟨x,H1,I1,r1,q1⟩=>⟨x,σ,H1,I1,r1,q1⟩)
noncomputable def tIfS (c:TT) (t u:TS):TS:=λD σ H=>c σ H λb H1=>if b=true then t D σ H1 else u D σ H1
theorem ZaA {c:Expr}{a b:List Stmt}{tc:TT} (hc:PT X c tc) (ha:PSs X a t) (hb:PSs X b u):PS X (.If c a b pos) (tIfS tc t u):=by
 intro pins s σ H D I h
 refine wpAny_If (thn (hc pins s σ H _ I h) λd s1 ⟨H1,I1,q1⟩=>?_)
 cases d with
 |true=>exact ha pins s1 σ H1 D I1 q1
 |false=>exact hb pins s1 σ H1 D I1 q1
end
noncomputable abbrev TG:=V->St->Hp->(St->Hp->Prop)->Prop
noncomputable abbrev TGs:=List V->St->Hp->(St->Hp->Prop)->Prop
noncomputable def PG (X:Cx) (target:Expr) (t:TG):Prop :=
 ∀(pins:List (Addr×Obj)) (s:Shared) (σ:St) (H:Hp) (v:V) (u:Value) (Q:St->Hp->Prop),Inv X pins σ H s->RelV v u->t v σ H Q ->
  wpAny (model X.prog X.w) X.A (assign target X.env u) (λ_ s'=>∃σ' H',Inv X pins σ' H' s'/\Q σ' H') X.xe s
noncomputable def PGs (X:Cx) (ts:List Expr) (t:TGs):Prop :=
 ∀(pins:List (Addr×Obj)) (s:Shared) (σ:St) (H:Hp) (vs:List V) (us:List Value) (Q:St->Hp->Prop),Inv X pins σ H s->Vals vs us->t vs σ H Q ->
  wpAny (model X.prog X.w) X.A (assignInOrder ((assignEach ts X.env).map (·.2)) us) (λ_ s'=>∃σ' H',Inv X pins σ' H' s'/\Q σ' H') X.xe s
noncomputable abbrev TSet:=V->V->V->Hp->(Hp->Prop)->Prop
noncomputable def PSet (X:Cx) (t:TSet):Prop :=
 ∀(pins:List (Addr×Obj)) (s:Shared) (σ:St) (H:Hp) (o i v:V) (ov iv u:Value) (Q:Hp->Prop),Inv X pins σ H s->RelV o ov->RelV i iv->RelV v u->t o i v H Q ->
  wpAny (model X.prog X.w) X.A (setItem ov iv u) (λ_ s'=>∃H',Inv X pins σ H' s'/\Q H') X.xe s
noncomputable abbrev TIp:=V->V->Hp->VK->Prop
noncomputable def PIp (X:Cx) (op:Operator) (t:TIp):Prop :=
 ∀(pins:List (Addr×Obj)) (s:Shared) (σ:St) (H:Hp) (x y:V) (v u:Value) (Q:VK),Inv X pins σ H s->RelV x v->RelV y u->t x y H Q ->
  wpAny (model X.prog X.w) X.A (inplaceOp op v u) (EP X pins σ Q) X.xe s
section
variable {X:Cx}{pos:Pos}
noncomputable def ZcF (i:Nat):TG:=λv σ H Q=>Q (σ.set i (some v)) H
theorem Zm {i:Nat}{x:Str} (hN:X.N.Nodup) (hi:X.N[i]?=some x) (hx:Loc X.env.scope x) (hf:X.fn x=true\/X.env.scope.names.lookup x=some .local:=by first|exact .inl rfl|exact .inr rfl|assumption):PG X (.Name x pos) (ZcF i):=by
 intro pins s σ H v u Q I r h
 exact wpAny_assign_Name (Zhr I hN hi hx r (λs' I'=>⟨_,H,I',h⟩) hf)
noncomputable def gNil:TGs:=λvs σ H Q=>vs=[]/\Q σ H
noncomputable def Zjb (t:TG) (u:TGs):TGs:=λvs σ H Q=>∃v r,vs=v::r/\t v σ H fun σ' H'=>u r σ' H' Q
theorem Zb7:PGs X [] gNil:=by
 intro pins s σ H vs us Q I r h
 obtain⟨e,h⟩:=h
 subst e
 cases r
 exact assignInOrder_nil ⟨σ,H,I,h⟩
theorem ZN {e:Expr}{es:List Expr}{t:TG}{u:TGs} (h1:PG X e t) (h2:PGs X es u)
  (hs:(assignEach (e::es) X.env).map (·.2)=assign e X.env::(assignEach es X.env).map (·.2):=by rfl):PGs X (e::es) (Zjb t u):=by
 intro pins s σ H vs us Q I r h
 obtain⟨v,vr,e1,h⟩:=h
 subst e1
 cases r with
 |cons r rr =>
  rw[hs]
  refine assignInOrder_cons (thn (h1 pins s σ H _ _ _ I r h) λ_ s1 ⟨σ1,H1,I1,q1⟩=>?_)
  exact h2 pins s1 σ1 H1 _ _ Q I1 rr q1
noncomputable def ZnS (K:PySem.W.Frag) (n:Nat) (t:TGs):TG:=λv σ H Q=>∃a xs,v=.ref a/\SqT K H a xs/\xs.length=n/\t xs σ H Q
theorem Zfe {es:List Expr}{k:Nat}{t:TGs}{n:Nat} (hc:X.calm=true) (h:PGs X es t)
  (hn:(assignEach es X.env).length=n:=by rfl) (hst:(assignEach es X.env).findIdx? (·.1)=none:=by rfl):PG X (.Tuple es k pos) (ZnS X.K n t):=by
 intro pins s σ H v u Q I r hw
 obtain⟨a,xs,e1,hq,hl,hw⟩:=hw
 subst e1
 cases r
 obtain⟨its,rv,ht,hz⟩:=I.tuple hq
 refine assign_Tuple_tuple (I.ok.hd hc) ht (by simp[hn,<-hl,rv.length]) hst λh' hx=>?_
 have I1:Inv X pins σ H {s with heap:=h'}:=I.kept (t':=s.toks) λb o e=>hx b o (Yp (Yk e)) e
 exact h pins _ σ H xs _ Q I1 (by simpa using rv) hw
noncomputable def gSub (to ti:TE) (t:TSet):TG:=λv σ H Q=>to σ H λo H1=>ti σ H1 λi H2=>t o i v H2 λH3=>Q σ H3
theorem Zdu {o i:Expr}{to ti:TE}{t:TSet} (ho:PE X o to) (hi:PE X i ti) (hs:PSet X t)
  (ha:∀v,assign (.Subscript o i pos) X.env v=(do
   let ov <-holding [v] (eval o X.env)
   let iv <-holding [v,ov] (eval i X.env)
   standAt pos
   holding [v,ov,iv] (setItem ov iv v)
   release [v,ov,iv] []):=by intro _;rfl):PG X (.Subscript o i pos) (gSub to ti t):=by
 intro pins s σ H v u Q I r h
 rw[ha]
 refine Ya (wpAny_holding (thn (ho pins s σ H _ I h) λov s1 ⟨x,H1,I1,r1,q1⟩=>?_))
 refine Ya (wpAny_holding (thn (hi pins s1 σ H1 _ I1 q1) λiv s2 ⟨y,H2,I2,r2,q2⟩=>?_))
 refine Ya (wpAny_standAt (Ya (wpAny_holding (thn (hs pins s2 σ H2 x y v ov iv u _ I2 r1 r2 r q2) λ_ s3 ⟨H3,I3,q3⟩=>?_))))
 exact wpAny_release ⟨σ,H3,I3,q3⟩
noncomputable def ZnT (te:TE) (g:TG):TS:=λD σ H=>te σ H λx H1=>g x σ H1 D.nx
theorem Zco {tg e:Expr}{te:TE}{g:TG} (he:PE X e te) (hg:PG X tg g) (hs:swapsWithSole [tg] e pos.line X.env=pure false:=by rfl) (hw:swappedStores [tg] e X.env=pure none:=by rfl)
  (h1:(assignEach [tg] X.env).map (·.2)=[assign tg X.env]:=by rfl):PS X (.Assign [tg] e pos) (ZnT te g):=by
 intro pins s σ H D I h
 refine wpAny_Assign_stores (thn (he pins s σ H _ I h) λv s1 ⟨x,H1,I1,r1,q1⟩=>?_) hs hw
 rw[h1]
 exact thn (hg pins s1 σ H1 x v _ I1 r1 q1) λ_ s2 q=>q
theorem Zo {i:Nat}{x:Str}{e:Expr}{te:TE}{pos':Pos} (hN:X.N.Nodup) (hi:X.N[i]?=some x) (hx:Loc X.env.scope x) (he:PE X e te) (hs:swapsWith e (some (.Name x pos')) pos.line X.env=pure false:=by rfl) (hf:X.fn x=true\/X.env.scope.names.lookup x=some .local:=by first|exact .inl rfl|exact .inr rfl|assumption) :
  PS X (.Assign [.Name x pos'] e pos) (ZnT te (ZcF i)):=by
 intro pins s σ H D I h
 refine wpAny_Assign_Name (thn (he pins s σ H _ I h) λv s1 ⟨y,H1,I1,r1,q1⟩=>?_) hs
 exact Zhr I1 hN hi hx r1 (λs2 I2=>⟨_,H1,I2,q1⟩) hf
noncomputable def tAug (i:Nat) (te:TE) (ti:TIp):TS:=λD σ H=>∃x,σ[i]?=some (some x)/\te σ H λy H1=>ti x y H1 λz H2=>D.nx (σ.set i (some z)) H2
theorem ps_aug {i:Nat}{x:Str}{e:Expr}{te:TE}{op:Operator}{ti:TIp}{pos':Pos} (hN:X.N.Nodup) (hi:X.N[i]?=some x) (hx:Loc X.env.scope x) (he:PE X e te) (ho:PIp X op ti) (hf:X.fn x=true\/X.env.scope.names.lookup x=some .local:=by first|exact .inl rfl|exact .inr rfl|assumption) :
  PS X (.AugAssign (.Name x pos') op e pos) (tAug i te ti):=by
 intro pins s σ H D I h
 obtain⟨v,e1,h⟩:=h
 obtain⟨m,hn,hl⟩:=I.loc
 have vis:Vis X.env.scope x:=by rcases hx with k|k;exact .inl k;exact .inr (.inl k)
 obtain⟨u,r,l⟩:=hl i x v hi e1 vis
 refine wpAny_AugAssign_Name ?_
 have go:wpAny (model X.prog X.w) X.A (eval e X.env) (λw s₂=>wpAny (model X.prog X.w) X.A (inplaceOp op u w) (λr s₃=>wpAny (model X.prog X.w) X.A (storeName X.env x r) (λ_=>SP X pins D .next) X.xe s₃) X.xe s₂) X.xe s:=by
  refine thn (he pins s σ H _ I h) λw s1 ⟨y,H1,I1,r1,q1⟩=>?_
  refine thn (ho pins s1 σ H1 v y u w _ I1 r r1 q1) λz s2 ⟨zv,H2,I2,r2,q2⟩=>?_
  exact Zhr I2 hN hi hx r2 (λs3 I3=>⟨_,H2,I3,q2⟩) hf
 rcases l with⟨hk,hm⟩|⟨hk,c,hc,hcell⟩
 ·exact wpAny_loadName_local I.ok.kind hk hn hm go
 ·rcases hk with hk|hk
  ·exact wpAny_loadName_cell I.ok.kind hk hc hcell go
  ·rcases hx with k|k
   ·have:X.env.scope.names.lookup x=some .free:=hk
    rw[k]at this;cases this
   ·have:X.env.scope.names.lookup x=some .free:=hk
    rw[k]at this;cases this
noncomputable def ipI (f:Int->Int->Int):TIp:=λx y H Q=>∃i j,x=.int i/\y=.int j/\Q (.int (f i j)) H
theorem ip_sub:PIp X .Sub (ipI λi j=>i-j):=by
 intro pins s σ H x y v u Q I r1 r2 h
 obtain⟨i,j,e1,e2,q⟩:=h
 subst e1;subst e2
 obtain⟨t,rfl⟩:=r1
 obtain⟨t',rfl⟩:=r2
 exact isub_int ⟨.int _,H,I.tok _,⟨_,rfl⟩,q⟩
end
section
variable {X:Cx}{pos:Pos}
noncomputable def ZlW (c:TT) (tb:TS):TS:=λD σ H=>∃W:Nat->St->Hp->Prop,(∃m,W m σ H)/\∀m σ H,W m σ H ->
 c σ H λb H1=>if b=true then ∃N:St->Hp->Prop,(∀σ' H',N σ' H'->∃m',m'<m/\W m' σ' H')/\tb {D with nx:=N,ct:=N,bk:=D.nx} σ H1 else D.nx σ H1
theorem Zhw {c:Expr}{body:List Stmt}{tc:TT}{tb:TS} (hp:PassesOwn (model X.prog X.w) X.A X.env X.xe) (hc:PT X c tc) (hb:PSs X body tb):PS X (.While c body [] pos) (ZlW tc tb):=by
 intro pins s σ H D I h
 obtain⟨W,⟨m0,w0⟩,turn⟩:=h
 refine wpAny_While (codeAny_whileLoop (λn s'=>∃σ' H',Inv X pins σ' H' s'/\W n σ' H') ?_ m0 ⟨σ,H,I,w0⟩)
 rintro n s1 ⟨σ1,H1,I1,w1⟩
 refine wpAny_passesOwn hp (thn (hc pins s1 σ1 H1 _ I1 (turn n σ1 H1 w1)) λb s2 ⟨H2,I2,q2⟩=>?_)
 cases b with
 |true =>
  obtain⟨N,hN,q2⟩:=q2
  rw[Yd rfl]
  refine wpAny_passesOwn hp (thn (hb pins s2 σ1 H2 _ I2 q2) λf s3 q3=>?_)
  cases f with
  |next =>
   obtain⟨σ3,H3,I3,n3⟩:=q3
   obtain⟨m',hm,w3⟩:=hN σ3 H3 n3
   exact⟨m',hm,σ3,H3,I3,w3⟩
  |cont =>
   obtain⟨σ3,H3,I3,n3⟩:=q3
   obtain⟨m',hm,w3⟩:=hN σ3 H3 n3
   exact⟨m',hm,σ3,H3,I3,w3⟩
  |brk=>exact q3
  |ret v=>exact q3
 |false =>
  rw[Yb YK]
  exact wpAny_execs_nil ⟨σ1,H2,I2,q2⟩
end
structure It where
 go:Nat->Hp->Prop
 yld:Nat->Hp->V->Hp->Prop
 stop:Nat->Hp->Prop
noncomputable def FpOk (X:Cx) (pins:List (Addr×Obj)) (H:Hp) (b:Addr):Prop :=
 H b=none/\b≠X.env.locals/\b∉X.fs/\(b∈X.ex\/X.s₀.heap.objs.size<=b)/\(∀x c,X.env.cells.lookup x=some c->c≠b)/\∀p∈X.pn++pins,p.1≠b
theorem Inv.ZkG {X:Cx}{pins:List (Addr×Obj)}{σ:St}{H H':Hp}{s:Shared}{b:Addr} (I:Inv X pins σ H s) (hb:s.heap.objs.size<=b) (hn:H' b=none):FpOk X pins H' b:=by
 refine⟨hn,Nat.ne_of_gt (YG I.lt hb),I.ZlV hb,.inr (Yo I.sz hb),λx c e z=>?_,λp hp z=>?_⟩
 ·obtain⟨v,q⟩:=I.cell x c e
  exact absurd (YG q.lt (by rw[z];exact hb)) (YO _)
 ·exact absurd (YG (Yk (I.pin p hp).1) (by rw[z];exact hb)) (YO _)
structure Turn (P:Program) (w:World) (K:PySem.W.Frag) (tg:Expr) (J:It) (fp:List Addr) (it:Addr) (tn:Nat->Heap->Prop):Prop where
 mem:it∈fp
 obj:∀i h,tn i h->∀b∈fp,∃o,h.get? b=some o/\∀v,o.data≠.cell v
 keep:∀i h h',tn i h->(∀b∈fp,∀o,h.get? b=some o->h'.get? b=some o)->tn i h'
 item:∀(X:Cx),X.prog=P->X.w=w->X.K=K->X.calm=true->∀(i:Nat) (pins:List (Addr×Obj)) (s:Shared) (σ:St) (H:Hp) (E:Value->Shared->Prop),Inv X pins σ H s->(∀b∈fp,FpOk X pins H b)->tn i s.heap->J.go i H ->
  wpAny (model P w) X.A (pyNext (.ref it)) (λr s1=>∃u,r=some u /\
   wpAny (model P w) X.A (letOwnedTupleGo tg (.ref it) u) (λ_ s2=>∃x H',Inv X pins σ H' s2/\RelV x u/\J.yld i H x H'/\tn (i+1) s2.heap/\∀b∈fp,H' b=none) E s1) E s
 done:∀(X:Cx),X.prog=P->X.w=w->X.K=K->X.calm=true->∀(i:Nat) (pins:List (Addr×Obj)) (s:Shared) (σ:St) (H:Hp) (E:Value->Shared->Prop),Inv X pins σ H s->(∀b∈fp,FpOk X pins H b)->tn i s.heap->J.stop i H ->
  wpAny (model P w) X.A (pyNext (.ref it)) (λr s1=>r=none/\Inv X pins σ H s1) E s
 self:∀(A:Around) (i:Nat) (s:Shared) (Q:Value->Shared->Prop) (E:Value->Shared->Prop),tn i s.heap->Q (.ref it) s->wpAny (model P w) A (pyIter (.ref it)) Q E s
noncomputable abbrev TI:=St->Hp->(It->Hp->Prop)->Prop
noncomputable def PIE (X:Cx) (pins:List (Addr×Obj)) (σ:St) (tg:Expr) (R:It->Hp->Prop) (itv:Value) (s2:Shared):Prop :=
 ∃(it:Addr) (fp:List Addr) (tn:Nat->Heap->Prop) (J:It) (H':Hp),itv=.ref it/\Inv X pins σ H' s2/\Turn X.prog X.w X.K tg J fp it tn/\tn 0 s2.heap/\(∀b∈fp,FpOk X pins H' b)/\R J H'
noncomputable def PI (X:Cx) (tg iter:Expr) (wi:TI):Prop :=
 ∀(pins:List (Addr×Obj)) (s:Shared) (σ:St) (H:Hp) (R:It->Hp->Prop),Inv X pins σ H s->wi σ H R ->
  wpAny (model X.prog X.w) X.A (eval iter X.env) (λv s1=>wpAny (model X.prog X.w) X.A (pyIter v) (PIE X pins σ tg R) X.xe s1) X.xe s
theorem ZpE {M : Model} {A : Around} {E : Value → Shared → Prop} {s : Shared} {tg : Expr} {it : Addr} {u : Value} {o : Obj} {n : String} {vs : Array Value} {Q : Unit → Shared → Prop} (ho : s.heap.get? it = some o) (hc : o.cls = .type n) (hd : o.data = .fields vs)
    (hn : ["enumerate", "zip", "dict_itemiterator", "dict_reverseitemiterator", "odict_iterator", "itertools.zip_longest", "itertools.pairwise"].contains n = false) (hQ : Q () s) : wpAny M A (letOwnedTupleGo tg (.ref it) u) Q E s := by
  unfold letOwnedTupleGo
  cases tg <;> first
    | exact Yc hQ
    | (cases u <;> first
        | exact Yc hQ
        | (refine Ya (wpAny_load ho ?_)
           rw [hc, hd]
           show wpAny M A (if (["enumerate", "zip", "dict_itemiterator", "dict_reverseitemiterator", "odict_iterator", "itertools.zip_longest", "itertools.pairwise"].contains n && vs[0]? == some (rawInt _)) = true then _ else _) Q E s
           rw [Yb (by intro h; rw [hn, Bool.false_and] at h; cases h)]
           exact Yc hQ))
noncomputable def Itl (K:PySem.W.Frag) (a:Addr):It :=
 ⟨λi H=>∃xs x,SqL K H a xs/\xs[i]?=some x,λi H x H'=>H'=H/\∀xs,SqL K H a xs->xs[i]?=some x,λi H=>∃xs,SqL K H a xs/\xs.length<=i⟩
noncomputable def Itt (K:PySem.W.Frag) (a:Addr):It :=
 ⟨λi H=>∃xs x,SqT K H a xs/\xs[i]?=some x,λi H x H'=>H'=H/\∀xs,SqT K H a xs->xs[i]?=some x,λi H=>∃xs,SqT K H a xs/\xs.length<=i⟩
noncomputable def Itr (lo:Int) (n:Nat):It:=⟨λi _=>i<n,λi H x H'=>H'=H/\x=.int (lo+i),λi _=>n<=i⟩
theorem Zjc {P:Program}{w:World}{K:PySem.W.Frag}{tg:Expr} (a it:Addr):Turn P w K tg (Itl K a) [it] it (λi h=>h.IsListIter it a i) where
 mem:=by simp
 obj:=λi h st b hb=>by
  have e:b=it:=by simpa using hb
  subst e
  obtain⟨o,e,c,d⟩:=st
  exact⟨o,e,λv z=>by rw[d]at z;cases z⟩
 keep:=λi h h' st k=>st.at λo e=>k it (by simp) o e
 item:=by
  intro X hP hw hK hc i pins s σ H E I hf st hg
  subst hP hw hK
  obtain⟨xs,x,hq,hx⟩:=hg
  obtain⟨its,rv,p,hz⟩:=I.list hq
  obtain⟨u,hu,ru⟩:=rv.get hx
  obtain⟨f0,f1,f2,f3,f4,f5⟩:=hf it (by simp)
  refine wpAny_pyNext_list_item st p.isList (x:=u) (by simpa using hu) λh' st' sb=>?_
  have I1:Inv X pins σ H {s with heap:=h'}:=I.turned (t':=s.toks) (λb o hb e=>(sb.2 b hb).trans e) f0 f1 f3 f4 f5
  obtain⟨o,e,c,d⟩:=id st'
  exact⟨u,rfl,ZpE (s:={s with heap:=h'}) e c d (by decide) ⟨x,H,I1,ru,⟨rfl,λys hy=>by rw[I.Zdc hy hq];exact hx⟩,st',λb hb=>(hf b hb).1⟩⟩
 done:=by
  intro X hP hw hK hc i pins s σ H E I hf st hg
  subst hP hw hK
  obtain⟨xs,hq,hx⟩:=hg
  obtain⟨its,rv,p,hz⟩:=I.list hq
  obtain⟨f0,f1,f2,f3,f4,f5⟩:=hf it (by simp)
  have hl:=rv.length
  exact wpAny_pyNext_list_end (I.ok.hd hc) st p.isList (by simp;omega) λh' eb=>⟨rfl,I.turned (t':=s.toks) (λb o hb e=>eb b o hb e) f0 f1 f3 f4 f5⟩
 self:=λ_ _ _ _ _ st h=>wpAny_pyIter_listiter st h
theorem Zhx {P:Program}{w:World}{K:PySem.W.Frag}{tg:Expr} (a it:Addr):Turn P w K tg (Itt K a) [it] it (λi h=>h.IsTupleIter it a i) where
 mem:=by simp
 obj:=λi h st b hb=>by
  have e:b=it:=by simpa using hb
  subst e
  obtain⟨o,e,c,d⟩:=st
  exact⟨o,e,λv z=>by rw[d]at z;cases z⟩
 keep:=λi h h' st k=>st.at λo e=>k it (by simp) o e
 item:=by
  intro X hP hw hK hc i pins s σ H E I hf st hg
  subst hP hw hK
  obtain⟨xs,x,hq,hx⟩:=hg
  obtain⟨its,rv,p,hz⟩:=I.tuple hq
  obtain⟨u,hu,ru⟩:=rv.get hx
  obtain⟨f0,f1,f2,f3,f4,f5⟩:=hf it (by simp)
  refine wpAny_pyNext_tuple_item st (show s.heap.IsTuple a its.toArray from p) (x:=u) (by simpa using hu) λh' st' sb=>?_
  have I1:Inv X pins σ H {s with heap:=h'}:=I.turned (t':=s.toks) (λb o hb e=>(sb.2 b hb).trans e) f0 f1 f3 f4 f5
  obtain⟨o,e,c,d⟩:=id st'
  exact⟨u,rfl,ZpE (s:={s with heap:=h'}) e c d (by decide) ⟨x,H,I1,ru,⟨rfl,λys hy=>by rw[I.ZeN hy hq];exact hx⟩,st',λb hb=>(hf b hb).1⟩⟩
 done:=by
  intro X hP hw hK hc i pins s σ H E I hf st hg
  subst hP hw hK
  obtain⟨xs,hq,hx⟩:=hg
  obtain⟨its,rv,p,hz⟩:=I.tuple hq
  obtain⟨f0,f1,f2,f3,f4,f5⟩:=hf it (by simp)
  have hl:=rv.length
  exact wpAny_pyNext_tuple_end (I.ok.hd hc) st (show s.heap.IsTuple a its.toArray from p) (by simp;omega) λh' eb=>⟨rfl,I.turned (t':=s.toks) (λb o hb e=>eb b o hb e) f0 f1 f3 f4 f5⟩
 self:=λ_ _ _ _ _ st h=>wpAny_pyIter_tupleiter st h
theorem ZlX {P:Program}{w:World}{K:PySem.W.Frag}{tg:Expr} (it:Addr) (lo:Int) (n:Nat):Turn P w K tg (Itr lo n) [it] it (λi h=>IsRangeIter h it (lo+(i:Nat)*1) ((n:Int)-(i:Nat)) 1) where
 mem:=by simp
 obj:=λi h st b hb=>by
  have e:b=it:=by simpa using hb
  subst e
  exact⟨_,st,λv z=>by
   have z':Data.fields _=Data.cell v:=z
   cases z'⟩
 keep:=λi h h' st k=>k it (by simp) _ st
 item:=by
  intro X hP hw hK hc i pins s σ H E I hf st hg
  subst hP hw hK
  obtain⟨f0,f1,f2,f3,f4,f5⟩:=hf it (by simp)
  have W:=Walks.range (prog:=X.prog) (w:=X.w) (I.ok.hd hc) it lo 1 n
  refine W.item i s _ _ hg st λv h' tk hv st' kk=>?_
  obtain⟨t,rfl⟩:=hv
  have I1:Inv X pins σ H {s with heap:=h',toks:=tk}:=I.turned (λb o hb e=>kk b o (by simpa using hb) e) f0 f1 f3 f4 f5
  refine⟨_,rfl,ZpE (s:={s with heap:=h',toks:=tk}) (n:="range_iterator") st' rfl rfl (by decide) ⟨.int (lo+i),H,I1,⟨t,?_⟩,⟨rfl,rfl⟩,st',λb hb=>(hf b hb).1⟩⟩
  rw[Int.mul_one]
 done:=by
  intro X hP hw hK hc i pins s σ H E I hf st hg
  subst hP hw hK
  obtain⟨f0,f1,f2,f3,f4,f5⟩:=hf it (by simp)
  exact wpAny_pyNext_range_end (I.ok.hd hc) st (by have:n<=i:=hg;omega) λh' eb=>⟨rfl,I.turned (t':=s.toks) (λb o hb e=>eb b o hb e) f0 f1 f3 f4 f5⟩
 self:=λ_ _ _ _ _ st h=>wpAny_pyIter_rangeiter st h
section
variable {X:Cx}{tg:Expr}
noncomputable def Zm7 (K:PySem.W.Frag) (tl:TE):TI:=fun σ H R=>tl σ H λx H1=>∃a,x=.ref a/\(∃xs,SqL K H1 a xs)/\R (Itl K a) H1
noncomputable def iTup (K:PySem.W.Frag) (tl:TE):TI:=fun σ H R=>tl σ H λx H1=>∃a,x=.ref a/\(∃xs,SqT K H1 a xs)/\R (Itt K a) H1
theorem Zbh {l:Expr}{tl:TE} (hl:PE X l tl):PI X tg l (Zm7 X.K tl):=by
 intro pins s σ H R I h
 refine thn (hl pins s σ H _ I h) λv s1 ⟨x,H1,I1,r1,q1⟩=>?_
 obtain⟨a,e,⟨xs,hq⟩,q⟩:=q1
 subst e
 cases r1
 obtain⟨its,rv,p,hz⟩:=I1.list hq
 refine wpAny_pyIter_list p.isList ?_
 refine⟨s1.heap.objs.size,[s1.heap.objs.size],_,_,H1,rfl,I1.kept (t':=s1.toks) λb o e=>Yh _ e,Zjc a _,⟨_,Yt _ rfl,rfl,rfl⟩,λb hb=>?_,q⟩
 have e:b=s1.heap.objs.size:=by simpa using hb
 subst e
 exact I1.ZkG (Ye _) (I1.hok.fresh (Ye _))
theorem ZpF {l:Expr}{tl:TE} (hl:PE X l tl):PI X tg l (iTup X.K tl):=by
 intro pins s σ H R I h
 refine thn (hl pins s σ H _ I h) λv s1 ⟨x,H1,I1,r1,q1⟩=>?_
 obtain⟨a,e,⟨xs,hq⟩,q⟩:=q1
 subst e
 cases r1
 obtain⟨its,rv,p,hz⟩:=I1.tuple hq
 refine wpAny_pyIter_tuple (show s1.heap.IsTuple a its.toArray from p) ?_
 refine⟨s1.heap.objs.size,[s1.heap.objs.size],_,_,H1,rfl,I1.kept (t':=s1.toks) λb o e=>Yh _ e,Zhx a _,⟨_,Yt _ rfl,rfl,rfl⟩,λb hb=>?_,q⟩
 have e:b=s1.heap.objs.size:=by simpa using hb
 subst e
 exact I1.ZkG (Ye _) (I1.hok.fresh (Ye _))
theorem ZpG {pins:List (Addr×Obj)}{σ:St}{H:Hp}{s:Shared}{R:It->Hp->Prop}{E:Value->Shared->Prop}{lo hi:Int}{t u v:Tok}{tk:Nat} (I:Inv X pins σ H s) (h1:-(2 ^ 62)<=lo) (h2:lo<2 ^ 62) (h3:-(2 ^ 62)<=hi) (h4:hi<2 ^ 62)
  (q:R (Itr lo (hi-lo).toNat) H):wpAny (model X.prog X.w) X.A (pyIter (.ref s.heap.objs.size)) (PIE X pins σ tg R) E {s with heap:=s.heap.push {cls:=.type "range",data:=.fields #[.int lo t,.int hi u,.int 1 v]},toks:=tk}:=by
 refine wpAny_pyIter_range (IsRange.new ..) (small_one h1 h2 h3 h4) ?_
 have I1:Inv X pins σ H {s with heap:=s.heap.push {cls:=.type "range",data:=.fields #[.int lo t,.int hi u,.int 1 v]},toks:=tk}:=I.kept λb o e=>Yh _ e
 refine⟨(s.heap.push {cls:=.type "range",data:=.fields #[.int lo t,.int hi u,.int 1 v]}).objs.size,[(s.heap.push {cls:=.type "range",data:=.fields #[.int lo t,.int hi u,.int 1 v]}).objs.size],_,_,H,rfl,
  I1.kept (t':=tk) λb o e=>Yh _ e,ZlX _ lo (hi-lo).toNat,?_,λb hb=>?_,q⟩
 ·have e1:lo+((0:Nat):Int)*1=lo:=by simp
  have e2:(((hi-lo).toNat:Nat):Int)-((0:Nat):Int)=Builtin.Range.rangeSize lo hi 1:=by rw[rangeSize_one];split<;>omega
  show IsRangeIter _ _ (lo+((0:Nat):Int)*1) ((((hi-lo).toNat:Nat):Int)-((0:Nat):Int)) 1
  rw[e1,e2]
  exact Yt _ rfl
 ·have e:b=(s.heap.push {cls:=.type "range",data:=.fields #[.int lo t,.int hi u,.int 1 v]}).objs.size:=by simpa using hb
  subst e
  exact I1.ZkG (Ye _) (I1.hok.fresh (Ye _))
noncomputable def ZpH (ta:TA):TI:=fun σ H R=>ta σ H λvs H1=>∃j:Int,vs=[.int j]/\-(2 ^ 62)<=j/\j<2 ^ 62/\R (Itr 0 j.toNat) H1
theorem ZS {a:Expr}{ta:TA}{p pos:Pos} (hg:Gl X "range") (hm:X.mg "range"=none) (ha:PA X [a] ta) (hs:starEach [a] X.env=[(false,eval a X.env)]:=by rfl):PI X tg (.Call (.Name "range" p) [a] [] pos) (ZpH ta):=by
 intro pins s σ H R I h
 refine Call_ (Zcn I hg hm boot_range (PyProof.Rows.callWith_type1 (thn (ha pos pins s σ H _ I h) λus s1 ⟨vs,H1,I1,r1,q1⟩=>?_) hs rfl))
 obtain⟨j,e,q1,q2,q⟩:=q1
 subst e
 cases r1 with
 |cons r rr =>
  cases rr
  obtain⟨t,rfl⟩:=r
  exact call_range_1 (ZpG I1 (by omega) (by omega) q1 q2 (by simpa using q))
noncomputable def tFor (wi:TI) (g:TG) (tb:TS):TS:=λD σ H=>wi σ H λJ H1=>∃W:Nat->Nat->St->Hp->Prop,(∃m,W 0 m σ H1)/\∀i m σ H,W i m σ H ->
 (J.stop i H/\D.nx σ H)\/(J.go i H/\∃N:St->Hp->Prop,(∀σ' H',N σ' H'->∃m',m'<m/\W (i+1) m' σ' H')/\∀x H',J.yld i H x H'->g x σ H' fun σ2 H2=>tb {D with nx:=N,ct:=N,bk:=D.nx} σ2 H2)
noncomputable def Zae (fp:List Addr) (h:Heap):List (Addr×Obj):=fp.filterMap λb=>(h.get? b).map λo=>(b,o)
theorem ZaD {fp:List Addr}{h:Heap}{b:Addr}{o:Obj} (hb:b∈fp) (e:h.get? b=some o):(b,o)∈Zae fp h:=List.mem_filterMap.mpr ⟨b,hb,by rw[e];rfl⟩
theorem ZeO {fp:List Addr}{h:Heap}{p:Addr×Obj} (hp:p∈Zae fp h):p.1∈fp/\h.get? p.1=some p.2:=by
 obtain⟨b,hb,e⟩:=List.mem_filterMap.mp hp
 cases q:h.get? b with
 |none=>rw[q]at e;cases e
 |some o =>
  rw[q]at e
  have e':(b,o)=p:=YN e
  subst e'
  exact⟨hb,q⟩
theorem Inv.pinned {pins:List (Addr×Obj)}{σ:St}{H:Hp}{s:Shared}{fp:List Addr} (I:Inv X pins σ H s) (hf:∀b∈fp,FpOk X pins H b) (ho:∀b∈fp,∃o,s.heap.get? b=some o/\∀v,o.data≠.cell v):Inv X (pins++Zae fp s.heap) σ H s :=
 I.ZX λp hp=>(Yq.mp hp).elim (λz=>I.pin p (Yl _ z)) λz=>by
  obtain⟨hb,e⟩:=ZeO z
  obtain⟨f0,f1,f2,_⟩:=hf p.1 hb
  obtain⟨o,e',d⟩:=ho p.1 hb
  rw[e]at e';cases e'
  exact⟨e,f0,f1,f2,d⟩
theorem Inv.ZbL {pins pl:List (Addr×Obj)}{σ:St}{H:Hp}{s:Shared} (I:Inv X (pins++pl) σ H s):Inv X pins σ H s:=I.ZX λp hp=>I.pin p (Yl _ (YA _ hp))
theorem ZaE {iter:Expr}{body:List Stmt}{wi:TI}{g:TG}{tb:TS}{pos:Pos} (hp:PassesOwn (model X.prog X.w) X.A X.env X.xe) (hc:X.calm=true) (hi:PI X tg iter wi) (hg:PG X tg g) (hb:PSs X body tb)
  (hs:∀x,foldedSetIterable iter X.env x=pure x:=by intro _;rfl):PS X (.For tg iter body [] pos) (tFor wi g tb):=by
 intro pins s σ H D I h
 refine wpAny_For (thn (hi pins s σ H _ I h) λv s1 h1=>thn h1 λitv s2 h2=>?_) hs
 obtain⟨it,fp,tn,J,H2,e,I2,T,st2,f2,W,⟨m0,w0⟩,turn⟩:=h2
 subst e
 -- what stays true of the iterator's objects through the loop
 have stat:∀{H':Hp},(∀b∈fp,H' b=none)->∀b∈fp,FpOk X pins H' b:=λhn b hb=>⟨hn b hb,(f2 b hb).2⟩
 refine codeAny_forLoop_any (λn s'=>∃i σ' H',Inv X pins σ' H' s'/\tn i s'.heap/\(∀b∈fp,H' b=none)/\W i n σ' H') ?_ m0 ⟨0,σ,H2,I2,st2,λb hb=>(f2 b hb).1,w0⟩
 rintro n s3 ⟨i,σ3,H3,I3,st3,fr3,w3⟩
 rcases turn i n σ3 H3 w3 with⟨stop,qn⟩|⟨go,N,hN,step⟩
 ·refine wpAny_passesOwn hp (thn (T.done X rfl rfl rfl hc i pins s3 σ3 H3 X.xe I3 (stat fr3) st3 stop) λr s4 ⟨hr,I4⟩=>?_)
  subst hr
  exact wpAny_execs_nil ⟨σ3,H3,I4,qn⟩
 ·refine wpAny_passesOwn hp (thn (T.item X rfl rfl rfl hc i pins s3 σ3 H3 X.xe I3 (stat fr3) st3 go) λr s4 ⟨u,hr,h4⟩=>?_)
  subst hr
  refine wpAny_passesOwn hp (thn h4 λ_ s5 ⟨x,H5,I5,r5,y5,st5,fr5⟩=>?_)
  have I5':=I5.pinned (stat fr5) (T.obj _ _ st5)
  refine wpAny_passesOwn hp (thn (hg _ s5 σ3 H5 x u _ I5' r5 (step x H5 y5)) λ_ s6 ⟨σ6,H6,I6,q6⟩=>?_)
  refine wpAny_passesOwn hp (thn (hb _ s6 σ6 H6 _ I6 q6) λf s7 q7=>?_)
  have again:∀{σ7:St}{H7:Hp},Inv X (pins++Zae fp s5.heap) σ7 H7 s7->N σ7 H7->∃m,m<n/\∃i σ' H',Inv X pins σ' H' s7/\tn i s7.heap/\(∀b∈fp,H' b=none)/\W i m σ' H':=λ{σ7 H7} I7 n7=>by
   obtain⟨m',hm,w7⟩:=hN σ7 H7 n7
   refine⟨m',hm,i+1,σ7,H7,I7.ZbL,T.keep _ _ _ st5 λb hb o e=>(I7.pin (b,o) (Yl _ (Yl _ (ZaD hb e)))).1,λb hb=>?_,w7⟩
   obtain⟨o,e,d⟩:=T.obj _ _ st5 b hb
   exact(I7.pin (b,o) (Yl _ (Yl _ (ZaD hb e)))).2.1
  cases f with
  |next=>obtain⟨σ7,H7,I7,n7⟩:=q7;exact again I7 n7
  |cont=>obtain⟨σ7,H7,I7,n7⟩:=q7;exact again I7 n7
  |brk=>obtain⟨σ7,H7,I7,q7⟩:=q7;exact⟨σ7,H7,I7.ZbL,q7⟩
  |ret v=>obtain⟨x7,σ7,H7,I7,r7,q7⟩:=q7;exact⟨x7,σ7,H7,I7.ZbL,r7,q7⟩
end
theorem Zhy {K:PySem.W.Frag}{a:Addr}{xs:List V}{g:TG}{tb:TS}{D:Ends}{σ:St}{H:Hp} (Pv:Nat->St->Hp->Prop) (h0:Pv 0 σ H) (hl:∀i σ H,i<=xs.length->Pv i σ H->SqL K H a xs)
  (hs:∀i x σ H,xs[i]?=some x->Pv i σ H->g x σ H fun σ2 H2=>tb {D with nx:=Pv (i+1),ct:=Pv (i+1),bk:=D.nx} σ2 H2) (hd:∀σ H,Pv xs.length σ H->D.nx σ H) :
  ∃W:Nat->Nat->St->Hp->Prop,(∃m,W 0 m σ H)/\∀i m σ H,W i m σ H ->
   ((Itl K a).stop i H/\D.nx σ H)\/((Itl K a).go i H/\∃N:St->Hp->Prop,(∀σ' H',N σ' H'->∃m',m'<m/\W (i+1) m' σ' H')/\∀x H',(Itl K a).yld i H x H'->g x σ H' fun σ2 H2=>tb {D with nx:=N,ct:=N,bk:=D.nx} σ2 H2):=by
 refine⟨λi m σ H=>m=xs.length-i/\i<=xs.length/\Pv i σ H,⟨xs.length,by simp,Yr _,h0⟩,?_⟩
 rintro i m σ H ⟨rfl,hi,p⟩
 have q:=hl i σ H hi p
 by_cases hlt:i<xs.length
 ·refine .inr ⟨⟨xs,xs[i],q,by simp[hlt]⟩,Pv (i+1),fun σ' H' p'=>⟨xs.length-(i+1),by omega,rfl,hlt,p'⟩,λx H' y=>?_⟩
  obtain⟨e,y⟩:=y
  subst e
  exact hs i x σ _ (y xs q) p
 ·have e:i=xs.length:=by omega
  subst e
  exact .inl ⟨⟨xs,q,Ye _⟩,hd σ H p⟩
theorem Za5 {lo:Int}{n:Nat}{g:TG}{tb:TS}{D:Ends}{σ:St}{H:Hp} (Pv:Nat->St->Hp->Prop) (h0:Pv 0 σ H)
  (hs:∀i σ H,i<n->Pv i σ H->g (.int (lo+i)) σ H fun σ2 H2=>tb {D with nx:=Pv (i+1),ct:=Pv (i+1),bk:=D.nx} σ2 H2) (hd:∀σ H,Pv n σ H->D.nx σ H) :
  ∃W:Nat->Nat->St->Hp->Prop,(∃m,W 0 m σ H)/\∀i m σ H,W i m σ H ->
   ((Itr lo n).stop i H/\D.nx σ H)\/((Itr lo n).go i H/\∃N:St->Hp->Prop,(∀σ' H',N σ' H'->∃m',m'<m/\W (i+1) m' σ' H')/\∀x H',(Itr lo n).yld i H x H'->g x σ H' fun σ2 H2=>tb {D with nx:=N,ct:=N,bk:=D.nx} σ2 H2):=by
 refine⟨λi m σ H=>m=n-i/\i<=n/\Pv i σ H,⟨n,by simp,Yr _,h0⟩,?_⟩
 rintro i m σ H ⟨rfl,hi,p⟩
 by_cases hlt:i<n
 ·refine .inr ⟨hlt,Pv (i+1),fun σ' H' p'=>⟨n-(i+1),by omega,rfl,hlt,p'⟩,λx H' y=>?_⟩
  obtain⟨e,y⟩:=y
  subst e y
  exact hs i σ _ hlt p
 ·have e:i=n:=by omega
  subst e
  exact .inl ⟨Ye _,hd σ H p⟩
noncomputable abbrev R2:=V->V->Hp->VK->Prop
noncomputable def OpR (X:Cx) (f:Value->Value->Sem Value) (r:R2):Prop :=
 ∀(pins:List (Addr×Obj)) (s:Shared) (σ:St) (H:Hp) (x y:V) (v u:Value) (Q:VK),Inv X pins σ H s->RelV x v->RelV y u->r x y H Q ->
  wpAny (model X.prog X.w) X.A (f v u) (EP X pins σ Q) X.xe s
noncomputable def UnR (X:Cx) (f:Value->Sem Value) (r:V->Hp->VK->Prop):Prop :=
 ∀(pins:List (Addr×Obj)) (s:Shared) (σ:St) (H:Hp) (x:V) (v:Value) (Q:VK),Inv X pins σ H s->RelV x v->r x H Q ->
  wpAny (model X.prog X.w) X.A (f v) (EP X pins σ Q) X.xe s
noncomputable def ZaF (X:Cx) (f:Value) (r:List V->Hp->VK->Prop):Prop :=
 ∀(pins:List (Addr×Obj)) (s:Shared) (σ:St) (H:Hp) (xs:List V) (us:List Value) (Q:VK),Inv X pins σ H s->Vals xs us->r xs H Q ->
  wpAny (model X.prog X.w) X.A (call f us) (EP X pins σ Q) X.xe s
noncomputable def tOp (r:R2) (ta tb:TE):TE:=fun σ H Q=>ta σ H λx H1=>tb σ H1 λy H2=>r x y H2 Q
noncomputable def tUn (r:V->Hp->VK->Prop) (ta:TE):TE:=fun σ H Q=>ta σ H λx H1=>r x H1 Q
noncomputable def rI (C:Int->Int->Prop) (g:Int->Int->V):R2:=λx y H Q=>∃i j,x=.int i/\y=.int j/\C i j/\Q (g i j) H
noncomputable def rI0 (g:Int->Int->V):R2:=λx y H Q=>∃i j,x=.int i/\y=.int j/\Q (g i j) H
noncomputable def rU (g:Int->V):V->Hp->VK->Prop:=λx H Q=>∃i,x=.int i/\Q (g i) H
section
variable {X:Cx}{a b c:Expr}{ta tb tc:TE}{pos:Pos}
theorem binT (ha:PE X a ta) (hb:PE X b tb) {pins:List (Addr×Obj)}{s:Shared}{σ:St}{H:Hp}{R:V->V->Hp->Prop} (I:Inv X pins σ H s)
  (h:ta σ H λx H1=>tb σ H1 λy H2=>R x y H2) {Q:Value->Shared->Prop}{f:Value->Value->Sem Value}
  (hf:∀v u s2 x y H2,Inv X pins σ H2 s2->RelV x v->RelV y u->R x y H2->wpAny (model X.prog X.w) X.A (f v u) Q X.xe s2) :
  wpAny (model X.prog X.w) X.A (eval a X.env) (λv s₁=>wpAny (model X.prog X.w) X.A (eval b X.env) (λu s₂=>wpAny (model X.prog X.w) X.A (f v u) Q X.xe s₂) X.xe s₁) X.xe s:=by
 refine thn (ha pins s σ H _ I h) λv s1 ⟨x,H1,I1,r1,q1⟩=>?_
 refine thn (hb pins s1 σ H1 _ I1 q1) λu s2 ⟨y,H2,I2,r2,q2⟩=>?_
 exact hf v u s2 x y H2 I2 r1 r2 q2
theorem Zs {op:Operator}{r:R2} (ho:OpR X (binaryOp op) r) (ha:PE X a ta) (hb:PE X b tb):PE X (.BinOp a op b pos) (tOp r ta tb):=by
 intro pins s σ H Q I h
 exact wpAny_BinOp (binT ha hb I h λv u s2 x y H2 I2 rx ry q=>ho pins s2 σ H2 x y v u Q I2 rx ry q)
theorem ZfB {op:UnaryOp}{r:V->Hp->VK->Prop} (ho:UnR X (unaryOp op) r) (ha:PE X a ta):PE X (.UnaryOp op a pos) (tUn r ta):=by
 intro pins s σ H Q I h
 exact UnaryOp_ (thn (ha pins s σ H _ I h) λv s1 ⟨x,H1,I1,r1,q1⟩=>ho pins s1 σ H1 x v Q I1 r1 q1)
theorem opI {f:Value->Value->Sem Value}{C:Int->Int->Prop}{g:Int->Int->Int}
  (rule:∀(i j:Int) (t u:Tok) (s:Shared) (Q:Value->Shared->Prop) (E:Value->Shared->Prop),C i j->Q (.int (g i j) s.toks) {s with toks:=s.toks+1}->wpAny (model X.prog X.w) X.A (f (.int i t) (.int j u)) Q E s) :
  OpR X f (rI C λi j=>.int (g i j)):=by
 intro pins s σ H x y v u Q I rx ry h
 obtain⟨i,j,rfl,rfl,hc,q⟩:=h
 obtain⟨t,rfl⟩:=rx
 obtain⟨t',rfl⟩:=ry
 exact rule i j t t' s _ _ hc ⟨.int (g i j),H,I.tok _,⟨_,rfl⟩,q⟩
theorem opI0 {f:Value->Value->Sem Value}{g:Int->Int->Int}
  (rule:∀(i j:Int) (t u:Tok) (s:Shared) (Q:Value->Shared->Prop) (E:Value->Shared->Prop),Q (.int (g i j) s.toks) {s with toks:=s.toks+1}->wpAny (model X.prog X.w) X.A (f (.int i t) (.int j u)) Q E s) :
  OpR X f (rI0 λi j=>.int (g i j)):=by
 intro pins s σ H x y v u Q I rx ry h
 obtain⟨i,j,rfl,rfl,q⟩:=h
 obtain⟨t,rfl⟩:=rx
 obtain⟨t',rfl⟩:=ry
 exact rule i j t t' s _ _ ⟨.int (g i j),H,I.tok _,⟨_,rfl⟩,q⟩
theorem opB0 {f:Value->Value->Sem Value}{g:Int->Int->Bool}
  (rule:∀(i j:Int) (t u:Tok) (s:Shared) (Q:Value->Shared->Prop) (E:Value->Shared->Prop),Q (.bool (g i j)) s->wpAny (model X.prog X.w) X.A (f (.int i t) (.int j u)) Q E s) :
  OpR X f (rI0 λi j=>.bl (g i j)):=by
 intro pins s σ H x y v u Q I rx ry h
 obtain⟨i,j,rfl,rfl,q⟩:=h
 obtain⟨t,rfl⟩:=rx
 obtain⟨t',rfl⟩:=ry
 exact rule i j t t' s _ _ ⟨.bl (g i j),H,I,rfl,q⟩
noncomputable def CDiv (i j:Int):Prop:=0<j/\j<1073741824
noncomputable def ZjG (i j:Int):Prop:=0<=j/\j<=1000000/\i.natAbs<2 ^ 64
theorem ZaW:OpR X (binaryOp .Add) (rI0 λi j=>.int (i+j)):=opI0 λ_ _ _ _ _ _ _ q=>add_int q
theorem Zcp:OpR X (binaryOp .Sub) (rI0 λi j=>.int (i-j)):=opI0 λ_ _ _ _ _ _ _ q=>sub_int q
theorem ZjH:OpR X (binaryOp .FloorDiv) (rI CDiv λi j=>.int (i / j)):=opI λi j _ _ _ _ _ hc q=>by
 have h1:(0:Int)<j:=hc.1
 have h2:j<1073741824:=hc.2
 exact floordiv_int (by omega) (by rw[Int.fdiv_eq_ediv_of_nonneg i (by omega)];exact q) (.inl (PyProof.noPylong_small (by omega)))
theorem Zff:OpR X (binaryOp .Mod) (rI (λ_ j=>0<j) λi j=>.int (i % j)):=opI λi j _ _ _ _ _ hc q=>by
 have h1:(0:Int)<j:=hc
 exact mod_int' (by omega) (by rw[Int.fmod_eq_emod_of_nonneg i (by omega)];exact q)
theorem Zfg:OpR X (binaryOp .Pow) (rI ZjG λi j=>.int (i ^ j.toNat)):=opI λ_ _ _ _ _ _ _ hc q=>pow_int_small hc.1 hc.2.1 hc.2.2 q
theorem unI {f:Value->Sem Value}{g:Int->Int}
  (rule:∀(i:Int) (t:Tok) (s:Shared) (Q:Value->Shared->Prop) (E:Value->Shared->Prop),Q (.int (g i) s.toks) {s with toks:=s.toks+1}->wpAny (model X.prog X.w) X.A (f (.int i t)) Q E s) :
  UnR X f (rU λi=>.int (g i)):=by
 intro pins s σ H x v Q I rx h
 obtain⟨i,rfl,q⟩:=h
 obtain⟨t,rfl⟩:=rx
 exact rule i t s _ _ ⟨.int (g i),H,I.tok _,⟨_,rfl⟩,q⟩
theorem Zdv:UnR X (unaryOp .USub) (rU λi=>.int (-i)):=unI λ_ _ _ _ _ q=>neg_int q
end
noncomputable def ZkH:V->V->Bool
 |.non,.non=>true|.non,.int _=>true|.int _,.non=>true|.non,.bl _=>true|.bl _,.non=>true|.non,.str _=>true|.str _,.non=>true
 |.int _,.int _=>true|.bl _,.bl _=>true|.str _,.str _=>true|.byt _,.byt _=>true
 |.int _,.str _=>true|.str _,.int _=>true|.bl _,.str _=>true|.str _,.bl _=>true
 |_,_=>false
noncomputable def rEq:R2:=λx y H Q=>ZkH x y=true/\Q (.bl (decide (x=y))) H
noncomputable def rNe:R2:=λx y H Q=>ZkH x y=true/\Q (.bl (!decide (x=y))) H
theorem Zm8 {i j:Int}:decide (V.int i=V.int j)=(i==j):=by
 rw[Bool.eq_iff_iff]
 simp
theorem ZpI {i j:Bool}:decide (V.bl i=V.bl j)=(i==j):=by
 rw[Bool.eq_iff_iff]
 simp
theorem Zm9 {i j:Str}:decide (V.str i=V.str j)=(i==j):=by
 rw[Bool.eq_iff_iff]
 simp
theorem Zna {i j:Array UInt8}:decide (V.byt i=V.byt j)=(i.toList==j.toList):=by
 rw[Bool.eq_iff_iff]
 cases i
 cases j
 simp
section
variable {X:Cx}{a b c:Expr}{ta tb tc:TE}{pos:Pos}
theorem ZI {pins:List (Addr×Obj)}{σ:St}{H:Hp}{s:Shared}{Q:VK}{k k':Bool} (I:Inv X pins σ H s) (q:Q (.bl k) H) (e:k=k'):EP X pins σ Q (.bool k') s:=by
 subst e
 exact⟨.bl k,H,I,rfl,q⟩
theorem Zdd:OpR X (compareOp .Eq) rEq:=by
 intro pins s σ H x y v u Q I rx ry h
 obtain⟨hs,q⟩:=h
 cases x with
 |non =>
  cases rx
  cases y with
  |non=>cases ry;exact PySem.EqNone.eq_none_none (ZI I q (by simp))
  |bl j=>cases ry;exact PySem.EqNone.eq_none_bool (ZI I q (by simp))
  |int j=>obtain⟨t',rfl⟩:=ry;exact PySem.EqNone.eq_none_int (ZI I q (by simp))
  |str j=>obtain⟨t',rfl⟩:=ry;exact PySem.EqNone.eq_none_str (ZI I q (by simp))
  |_=>exact absurd (show false=true from hs) YK
 |bl i =>
  cases rx
  cases y with
  |non=>cases ry;exact PySem.EqNone.eq_bool_none (ZI I q (by simp))
  |bl j=>cases ry;exact eq_bool (ZI I q ZpI)
  |str j=>obtain⟨t',rfl⟩:=ry;exact PySem.EqMixed.eq_bool_str (ZI I q (by simp))
  |_=>exact absurd (show false=true from hs) YK
 |int i =>
  obtain⟨t,rfl⟩:=rx
  cases y with
  |non=>cases ry;exact PySem.EqNone.eq_int_none (ZI I q (by simp))
  |int j=>obtain⟨t',rfl⟩:=ry;exact eq_int (ZI I q Zm8)
  |str j=>obtain⟨t',rfl⟩:=ry;exact PySem.EqMixed.eq_int_str (ZI I q (by simp))
  |_=>exact absurd (show false=true from hs) YK
 |str i =>
  obtain⟨t,rfl⟩:=rx
  cases y with
  |non=>cases ry;exact PySem.EqNone.eq_str_none (ZI I q (by simp))
  |bl j=>cases ry;exact PySem.EqMixed.eq_str_bool (ZI I q (by simp))
  |int j=>obtain⟨t',rfl⟩:=ry;exact PySem.EqMixed.eq_str_int (ZI I q (by simp))
  |str j=>obtain⟨t',rfl⟩:=ry;exact eq_str (ZI I q Zm9)
  |_=>exact absurd (show false=true from hs) YK
 |byt i =>
  obtain⟨t,rfl⟩:=rx
  cases y with
  |byt j=>obtain⟨t',rfl⟩:=ry;exact PySem.W.eq_bytes (ZI I q Zna)
  |_=>exact absurd (show false=true from hs) YK
 |_=>cases y<;>exact absurd (show false=true from hs) YK
theorem op_ne:OpR X (compareOp .NotEq) rNe:=by
 intro pins s σ H x y v u Q I rx ry h
 obtain⟨hs,q⟩:=h
 cases x with
 |non =>
  cases rx
  cases y with
  |non=>cases ry;exact PySem.EqNone.ne_none_none (ZI I q (by simp))
  |bl j=>cases ry;exact PySem.EqNone.ne_none_bool (ZI I q (by simp))
  |int j=>obtain⟨t',rfl⟩:=ry;exact PySem.EqNone.ne_none_int (ZI I q (by simp))
  |str j=>obtain⟨t',rfl⟩:=ry;exact PySem.EqNone.ne_none_str (ZI I q (by simp))
  |_=>exact absurd (show false=true from hs) YK
 |bl i =>
  cases rx
  cases y with
  |non=>cases ry;exact PySem.EqNone.ne_bool_none (ZI I q (by simp))
  |bl j=>cases ry;exact ne_bool (ZI I q (congrArg not ZpI))
  |str j=>obtain⟨t',rfl⟩:=ry;exact PySem.EqMixed.ne_bool_str (ZI I q (by simp))
  |_=>exact absurd (show false=true from hs) YK
 |int i =>
  obtain⟨t,rfl⟩:=rx
  cases y with
  |non=>cases ry;exact PySem.EqNone.ne_int_none (ZI I q (by simp))
  |int j=>obtain⟨t',rfl⟩:=ry;exact ne_int (ZI I q (congrArg not Zm8))
  |str j=>obtain⟨t',rfl⟩:=ry;exact PySem.EqMixed.ne_int_str (ZI I q (by simp))
  |_=>exact absurd (show false=true from hs) YK
 |str i =>
  obtain⟨t,rfl⟩:=rx
  cases y with
  |non=>cases ry;exact PySem.EqNone.ne_str_none (ZI I q (by simp))
  |bl j=>cases ry;exact PySem.EqMixed.ne_str_bool (ZI I q (by simp))
  |int j=>obtain⟨t',rfl⟩:=ry;exact PySem.EqMixed.ne_str_int (ZI I q (by simp))
  |str j=>obtain⟨t',rfl⟩:=ry;exact ne_str (ZI I q (congrArg not Zm9))
  |_=>exact absurd (show false=true from hs) YK
 |byt i =>
  obtain⟨t,rfl⟩:=rx
  cases y with
  |byt j=>obtain⟨t',rfl⟩:=ry;exact PySem.W.ne_bytes (ZI I q (congrArg not Zna))
  |_=>exact absurd (show false=true from hs) YK
 |_=>cases y<;>exact absurd (show false=true from hs) YK
theorem Zhz:OpR X (compareOp .Lt) (rI0 λi j=>.bl (decide (i<j))):=opB0 λ_ _ _ _ _ _ _ q=>lt_int q
theorem op_le:OpR X (compareOp .LtE) (rI0 λi j=>.bl (decide (i<=j))):=opB0 λ_ _ _ _ _ _ _ q=>le_int q
theorem Zd1:OpR X (compareOp .Gt) (rI0 λi j=>.bl (decide (j<i))):=opB0 λ_ _ _ _ _ _ _ q=>gt_int q
theorem Znb:OpR X (compareOp .GtE) (rI0 λi j=>.bl (decide (j<=i))):=opB0 λ_ _ _ _ _ _ _ q=>ge_int q
theorem ZlY:OpR X (compareOp .Is) (λx y H Q=>y=.non/\Q (.bl (decide (x=.non))) H):=by
 intro pins s σ H x y v u Q I rx ry h
 obtain⟨rfl,q⟩:=h
 cases ry
 refine is_none_gen (ZI I q ?_)
 cases x<;>first
  |(cases rx;rfl)
  |(obtain⟨t,rfl⟩:=rx;rfl)
theorem Zx (b:Expr) {op:CmpOp} (h:op≠.In:=by decide) (h2:op≠.NotIn:=by decide):behindInMarks op b=false:=by
 have e1:(op==CmpOp.In)=false:=by cases op<;>first|rfl|exact absurd rfl h
 have e2:(op==CmpOp.NotIn)=false:=by cases op<;>first|rfl|exact absurd rfl h2
 cases b<;>simp[behindInMarks,e1,e2]
theorem Zad {op:CmpOp}{r:R2} (ho:OpR X (compareOp op) r) (ha:PE X a ta) (hb:PE X b tb) (hm:behindInMarks op b=false):PE X (.Compare a [op] [b] pos) (tOp r ta tb):=by
 intro pins s σ H Q I h
 exact wpAny_Compare1 (binT ha hb I h λv u s2 x y H2 I2 rx ry q=>ho pins s2 σ H2 x y v u Q I2 rx ry q) hm
noncomputable def ZkI (t:TE):TT:=fun σ H Q=>t σ H λx H'=>∃k,x=.bl k/\Q k H'
theorem Zu {op:CmpOp}{r:R2} (ho:OpR X (compareOp op) r) (ha:PE X a ta) (hb:PE X b tb) (hm:behindInMarks op b=false):PT X (.Compare a [op] [b] pos) (ZkI (tOp r ta tb)):=by
 intro pins s σ H Q I h
 refine wpAny_isTrue_Compare1 (thn (ha pins s σ H _ I h) λv s1 ⟨x,H1,I1,r1,q1⟩=>thn (hb pins s1 σ H1 _ I1 q1) λu s2 ⟨y,H2,I2,r2,q2⟩ =>
  thn (ho pins s2 σ H2 x y v u _ I2 r1 r2 q2) λc s3 ⟨z,H3,I3,r3,k,e,q3⟩=>?_) hm
 subst e
 cases r3
 exact wpAny_truthy_bool ⟨H3,I3,q3⟩
noncomputable def ZlZ (r r':R2) (ta tb tc:TE):TE:=fun σ H Q=>ta σ H λx H1=>tb σ H1 λy H2=>r x y H2 λz H3=>∃k,z=.bl k /\
 (if k=true then tc σ H3 λw' H4=>r' y w' H4 Q else Q (.bl false) H3)
theorem ZpJ {op op':CmpOp}{r r':R2} (ho:OpR X (compareOp op) r) (ho':OpR X (compareOp op') r') (ha:PE X a ta) (hb:PE X b tb) (hc:PE X c tc)
  (hm:lastMarks [op,op'] [b,c]=false:=by with_unfolding_all rfl):PT X (.Compare a [op,op'] [b,c] pos) (ZkI (ZlZ r r' ta tb tc)):=by
 intro pins s σ H Q I h
 refine isTrue_chain (thn (ha pins s σ H _ I h) λv s1 ⟨x,H1,I1,r1,q1⟩=>test_link (thn (hb pins s1 σ H1 _ I1 q1) λu s2 ⟨y,H2,I2,r2,q2⟩ =>
  thn (ho pins s2 σ H2 x y v u _ I2 r1 r2 q2) λd s3 ⟨z,H3,I3,r3,k,e,q3⟩=>?_)) hm
 subst e
 cases r3
 refine wpAny_truthy_bool ?_
 cases k with
 |false =>
  obtain⟨k',e',q'⟩:=q3
  cases e'
  exact ite_ff ⟨H3,I3,q'⟩
 |true =>
  refine ite_tt (test_last (thn (hc pins s3 σ H3 _ I3 q3) λw' s4 ⟨z',H4,I4,r4,q4⟩=>thn (ho' pins s4 σ H4 y z' u w' _ I4 r2 r4 q4) λd' s5 ⟨z2,H5,I5,r5,k2,e2,q5⟩=>?_))
  subst e2
  cases r5
  exact wpAny_truthy_bool ⟨H5,I5,q5⟩
theorem ZjI:(sizeLine:Nat)<2 ^ 63:=by rw[sizeLine_eq];decide
theorem vals1 {x:V}{us:List Value} (r:Vals [x] us):∃u,us=[u]/\RelV x u:=by
 cases r with
 |cons r1 r2=>cases r2;exact⟨_,rfl,r1⟩
theorem vals2 {x y:V}{us:List Value} (r:Vals [x,y] us):∃u w',us=[u,w']/\RelV x u/\RelV y w':=by
 cases r with
 |cons r1 r2 =>
  cases r2 with
  |cons r3 r4=>cases r4;exact⟨_,_,rfl,r1,r3⟩
theorem ZpK:ZaF X (.builtin "abs") (λxs H Q=>∃i,xs=[.int i]/\Q (.int (if i<0 then -i else i)) H):=by
 intro pins s σ H xs us Q I r h
 obtain⟨i,rfl,q⟩:=h
 obtain⟨u,rfl,t,rfl⟩:=vals1 r
 exact call_abs_int λu tk=>⟨.int (if i<0 then -i else i),H,I.tok _,⟨_,rfl⟩,q⟩
theorem Zgc (hc:X.calm=true):ZaF X (.builtin "max") (λxs H Q=>∃i j,xs=[.int i,.int j]/\Q (.int (if j>i then j else i)) H):=by
 intro pins s σ H xs us Q I r h
 obtain⟨i,j,rfl,q⟩:=h
 obtain⟨u,w',rfl,⟨t,rfl⟩,⟨t',rfl⟩⟩:=vals2 r
 refine max_two_ints (I.ok.hd hc) λh' tk k=>⟨_,H,I.kept k,?_,q⟩
 by_cases hj:j>i
 ·rw[Yd hj,Yd hj];exact⟨_,rfl⟩
 ·rw[Yb hj,Yb hj];exact⟨_,rfl⟩
theorem ZnU (hc:X.calm=true):ZaF X (.builtin "min") (λxs H Q=>∃i j,xs=[.int i,.int j]/\Q (.int (if j<i then j else i)) H):=by
 intro pins s σ H xs us Q I r h
 obtain⟨i,j,rfl,q⟩:=h
 obtain⟨u,w',rfl,⟨t,rfl⟩,⟨t',rfl⟩⟩:=vals2 r
 refine min_two_ints (I.ok.hd hc) λh' tk k=>⟨_,H,I.kept k,?_,q⟩
 by_cases hj:j<i
 ·rw[Yd hj,Yd hj];exact⟨_,rfl⟩
 ·rw[Yb hj,Yb hj];exact⟨_,rfl⟩
theorem ZnV:ZaF X (.type "int") (λxs H Q=>(∃i,xs=[.int i]/\Q (.int i) H)\/∃k,xs=[.bl k]/\Q (.int (if k then 1 else 0)) H):=by
 intro pins s σ H xs us Q I r h
 rcases h with⟨i,rfl,q⟩|⟨k,rfl,q⟩
 ·obtain⟨u,rfl,t,rfl⟩:=vals1 r
  exact call_int_int ⟨.int i,H,I,⟨_,rfl⟩,q⟩
 ·obtain⟨u,rfl,r1⟩:=vals1 r
  cases r1
  exact call_int_bool ⟨.int (if k then 1 else 0),H,I.tok _,⟨_,rfl⟩,q⟩
end
structure ObjM (h:Heap) (x dx C:Addr) (mA:Str->Option Value):Prop where
 obj:h.get? x=some (PySem.W.instObj C dx)
 ns:h.Ns1 dx mA
 ne:dx≠x
theorem ZnW {h:Heap}{dx:Addr}{mA:Str->Option Value} (n:h.Ns1 dx mA):∃od,h.get? dx=some od/\∀name,PySem.W.lookIn name od=some (mA name):=by
 obtain⟨o,es,ep,ho,hd,hk,_,hm⟩:=n
 refine⟨o,ho,λname=>?_⟩
 have e:=hm name
 unfold nsFind findBy at e
 rw[<-Array.find?_toList]at e
 unfold PySem.W.lookIn
 rw[hd]
 dsimp only
 split
 ·rename_i y q
  rw[q]at e
  exact congrArg some e
 ·rename_i q
  rw[q]at e
  have a:es.toList.any (·.refKey)=false:=by
   rw[List.any_eq_false]
   intro y hy
   obtain⟨z,t,hkey⟩:=hk y (Array.mem_toList_iff.mp hy)
   simp[DictEntry.refKey,hkey]
  have a':¬ es.toList.any (·.refKey)=true:=by rw[a];exact YK
  rw[Yb a']
  exact congrArg some e
theorem ObjM.look {h:Heap}{x dx C:Addr}{mA:Str->Option Value} (I:ObjM h x dx C mA):∃od,PySem.W.InstAt h x (PySem.W.instObj C dx) C (some od)/\∀name,PySem.W.lookIn name od=some (mA name) :=
 let ⟨od,ho,hl⟩:=ZnW I.ns
 ⟨od,⟨I.obj,rfl,rfl,ho⟩,hl⟩
noncomputable def putF (f:Str) (v:V):List (Str×V)->List (Str×V)
 |[]=>[(f,v)]
 |(g,x)::r=>if g=f then (g,v)::r else (g,x)::putF f v r
theorem Zg6.some_of {v:V}{o:Option Value} (r:Zg6 (some v) o):∃u,o=some u/\RelV v u:=by
 cases o with
 |none=>exact(show False from r).elim
 |some u=>exact⟨u,rfl,r⟩
section
variable {P:Program}{w:World}{H H':Hp}{h h':Heap}{a C dx:Addr}{fs fs':List (Str×V)}
theorem Zr0 (hok:HOk P w H h) (e:H a=some (.ins C dx fs)):∃mA,ObjM h a dx C mA/\(∀f,Zg6 (fs.lookup f) (mA f))/\PySem.Within mA (fs.map (·.1))/\fs.length<=1000/\H dx=some (.own a):=by
 obtain⟨d,z,ne,ob,mA,n,r,q⟩:=(show ZZ P w H h a (.ins C dx fs)from hok a _ e)
 exact⟨mA,⟨ob,n,ne⟩,r,q,z,d⟩
end
structure Cls (K:PySem.W.Frag) (C:Addr):Prop where
 pg:PySem.W.plainGet K C Str.empty=true
 hd:PySem.W.hasDictIn K C=true
 po:PySem.W.plainOver K C=true
 sa:PySem.W.findIn K (.ref C) "__setattr__"=some (some (.builtin "object.__setattr__"))
theorem Cls.get {K:PySem.W.Frag}{C:Addr} (c:Cls K C) (f:Str):PySem.W.plainGet K C f=true:=c.pg
section
variable {X:Cx}{pins:List (Addr×Obj)}{σ:St}{H:Hp}{s:Shared}{A:Around}{E:Value->Shared->Prop}{Q:Value->Shared->Prop}{c:Value}{b:Bool}
inductive TyOf (K:PySem.W.Frag) (H:Hp):V->Value->Prop where
 |non:TyOf K H .non (.type "NoneType")
 |bl (x:Bool):TyOf K H (.bl x) (.type "bool")
 |int (i:Int):TyOf K H (.int i) (.type "int")
 |str (x:Str):TyOf K H (.str x) (.type "str")
 |flt (x:UInt64):TyOf K H (.flt x) (.type "float")
 |lst {a:Addr}{xs:List V} (e:H a=some (.lst xs)):TyOf K H (.ref a) (.type "list")
 |frz {a:Addr}{o:Obj}{xs:List V} (e:H a=some (.frz o (.lst xs))):TyOf K H (.ref a) (.type "list")
 |tup {a:Addr}{xs:List V} (e:H a=some (.tup xs)):TyOf K H (.ref a) (.type "tuple")
 |dK {a:Addr}{kvs:List (Key×V)} (e:H a=some (.dK kvs)):TyOf K H (.ref a) (.type "dict")
 |dT {a:Addr}{kvs:List (List Key×V)} (e:H a=some (.dT kvs)):TyOf K H (.ref a) (.type "dict")
 |ins {a C dx:Addr}{fs:List (Str×V)} (e:H a=some (.ins C dx fs)) (cl:Cls K C) (ha:PySem.W.findIn K (.ref C) "__class__"=some (some (.builtin "object.__class__")))
   (hn:PySem.W.specialIn K (.builtin "object.__class__") "__get__"=some (some (.builtin "getset_descriptor.__get__"))) (htk:PySem.W.takesIn K (.builtin "object.__class__")=some true)
   (hm:PySem.W.mroIn K C (.type "object")=some true):TyOf K H (.ref a) (.ref C)
theorem ZnX {x:V}{u t:Value} (I:Inv X pins σ H s) (rx:RelV x u) (ty:TyOf X.K H x t) (e:PySem.W.kitOne X.K t c=some b) (h:∀tk,Q (.bool b) {s with toks:=tk}) :
  wpAny (model X.prog X.w) A (call (.builtin "isinstance") [u,c]) Q E s:=by
 cases ty with
 |non=>cases(show u=Value.none from rx);exact PySem.W.kia_one PySem.W.kitx_none I.kIn True.intro e (λz=>nomatch z) h
 |bl y=>cases(show u=Value.bool y from rx);exact PySem.W.kia_one PySem.W.kitx_bool I.kIn True.intro e (λz=>nomatch z) h
 |int i=>obtain⟨t,q⟩:=(show ∃t,u=Value.int i t from rx);cases q;exact PySem.W.kia_one PySem.W.kitx_int I.kIn True.intro e (λz=>nomatch z) h
 |str y=>obtain⟨t,q⟩:=(show ∃t,u=Value.str y t from rx);cases q;exact PySem.W.kia_one PySem.W.kitx_str I.kIn True.intro e (λz=>nomatch z) h
 |flt y=>obtain⟨t,q⟩:=(show ∃t,u=Value.float y t from rx);cases q;exact PySem.W.kia_one PySem.W.kitx_float I.kIn True.intro e (λz=>nomatch z) h
 |@lst a xs ea =>
  cases(show u=Value.ref a from rx)
  obtain⟨_,_,n,_,h1⟩:=(show ZZ X.prog X.w H s.heap a (.lst xs)from I.hok a _ ea)
  exact PySem.W.kia_one PySem.W.kitx_list I.kIn ⟨_,h1,rfl⟩ e (λz=>nomatch z) h
 |@frz a ob xs ea =>
  cases(show u=Value.ref a from rx)
  obtain⟨_,_,_,n,_,h1⟩:=(show ZZ X.prog X.w H s.heap a (.frz ob (.lst xs))from I.hok a _ ea)
  exact PySem.W.kia_one PySem.W.kitx_list I.kIn ⟨_,h1,rfl⟩ e (λz=>nomatch z) h
 |@tup a xs ea =>
  cases(show u=Value.ref a from rx)
  obtain⟨_,_,_,p⟩:=(show ZZ X.prog X.w H s.heap a (.tup xs)from I.hok a _ ea)
  obtain⟨o,h1,h2,_⟩:=p
  exact PySem.W.kia_one PySem.W.kitx_tuple I.kIn ⟨o,h1,h2⟩ e (λz=>nomatch z) h
 |@dK a kvs ea =>
  cases(show u=Value.ref a from rx)
  obtain⟨_,_,vs,_,p⟩:=(show ZZ X.prog X.w H s.heap a (.dK kvs)from I.hok a _ ea)
  obtain⟨o,es,ep,h1,h2,_⟩:=p
  exact PySem.W.kia_one PySem.W.kitx_dict I.kIn ⟨o,h1,h2.1⟩ e (λz=>nomatch z) h
 |@dT a kvs ea =>
  cases(show u=Value.ref a from rx)
  obtain⟨_,_,xs,_,o,es,ep,h1,h2,_⟩:=(show ZZ X.prog X.w H s.heap a (.dT kvs)from I.hok a _ ea)
  exact PySem.W.kia_one PySem.W.kitx_dict I.kIn ⟨o,h1,h2.1⟩ e (λz=>nomatch z) h
 |@ins a C dx fs ea cl ha hn htk hm =>
  cases(show u=Value.ref a from rx)
  obtain⟨mA,O,_⟩:=Zr0 I.hok ea
  obtain⟨od,J,_⟩:=O.look
  exact PySem.W.kia_one (PySem.W.kitx_own (cl.get _) cl.hd ha hn htk hm) I.kIn J e (λz=>nomatch z) h
end
structure Room (k:Nat) (A:Around):Prop where
 hd:A.handled=none
 dp:A.depth+3*k+5<recursionLimit
 un:A.units+16*k+200<cLine
theorem Room.mono {j k:Nat}{A:Around} (r:Room k A) (h:j<=k):Room j A:=⟨r.hd,by have:=r.dp;omega,by have:=r.un;omega⟩
theorem Room.deeper {k:Nat}{A:Around} (r:Room (k+1) A) (env:Env):Room k (A.deeper env) :=
 ⟨r.hd,by have:=r.dp;show A.depth+1+3*k+5 < _;omega,by have:=r.un;show A.units+3+16*k+200 < _;omega⟩
theorem Room.in1 {k:Nat}{A:Around} (r:Room (k+1) A):Room k A.in1 :=
 ⟨r.hd,by have:=r.dp;show A.depth+3*k+5 < _;omega,by have:=r.un;show A.units+1+16*k+200 < _;omega⟩
theorem Room.depth {k:Nat}{A:Around} (r:Room k A):A.depth<recursionLimit:=by have:=r.dp;omega
theorem Room.units {k:Nat}{A:Around} (r:Room k A):A.units+64<cLine:=by have:=r.un;omega
noncomputable def tNil:TA:=λ_ H Q=>Q [] H
noncomputable def Znc (ta:TE) (tr:TA):TA:=fun σ H Q=>ta σ H λx H1=>tr σ H1 λxs H2=>Q (x::xs) H2
section
variable {X:Cx}{e:Expr}{es:List Expr}{te:TE}{t:TA}{pos:Pos}
theorem Zc:PA X [] tNil:=λ_ _ _ _ H Q I h=>Calls.spliced_nil ⟨[],H,I,.nil,h⟩
theorem Za (ha:PE X e te) (hr:PA X es t) (hs:starEach (e::es) X.env=(false,eval e X.env)::starEach es X.env:=by rfl):PA X (e::es) (Znc te t):=by
 intro pos pins s σ H Q I h
 rw[hs]
 show wpAny _ _ (spliced ((false,eval e X.env)::backTo pos (starEach es X.env))) _ _ s
 refine Calls.spliced_cons (thn (ha pins s σ H _ I h) λu s1 ⟨x,H1,I1,r1,q1⟩=>?_)
 exact thn (hr pos pins s1 σ H1 _ I1 q1) λus s2 ⟨xs,H2,I2,r2,q2⟩=>⟨x::xs,H2,I2,.cons r1 r2,q2⟩
noncomputable def tTup (t:TA):TE:=fun σ H Q=>t σ H λxs H1=>xs.length<=sizeLine/\∀p,H1 p=none->Q (.ref p) (upd H1 p (.tup xs))
noncomputable def tLst (t:TA):TE:=fun σ H Q=>t σ H λxs H1=>xs.length<=sizeLine/\∀p,H1 p=none->Q (.ref p) (upd H1 p (.lst xs))
theorem Zbu {x1} (h:PA X es t):PE X (.Tuple es x1 pos) (tTup t):=by
 intro pins s σ H Q I hq
 refine wpAny_Tuple_spliced (thn (h pos pins s σ H _ I hq) λus s1 ⟨xs,H1,I1,r,z,q⟩=>⟨by rw[<-r.length];exact z,?_⟩)
 have hf:H1 s1.heap.objs.size=none:=I1.hok.fresh (Ye _)
 refine⟨.ref s1.heap.objs.size,upd H1 s1.heap.objs.size (.tup xs),I1.laid (t':=s1.toks) (λb u e=>Yh _ e) (Ye _) ?_,rfl,q _ hf⟩
 exact⟨z,us,r,⟨_,Yt _ rfl,rfl,_,rfl⟩⟩
theorem Z9 (h:PA X es t):PE X (.List es pos) (tLst t):=by
 intro pins s σ H Q I hq
 refine wpAny_List_spliced (thn (h pos pins s σ H _ I hq) λus s1 ⟨xs,H1,I1,r,z,q⟩=>⟨by rw[<-r.length];exact z,?_⟩)
 have hf:H1 s1.heap.objs.size=none:=I1.hok.fresh (Ye _)
 refine⟨.ref s1.heap.objs.size,upd H1 s1.heap.objs.size (.lst xs),I1.laid (t':=s1.toks) (λb u e=>Yh _ e) (Ye _) ?_,rfl,q _ hf⟩
 exact⟨z,us,0,r,Yt _ rfl⟩
end
noncomputable abbrev Sp:=List V->Hp->VK->XK->Prop
noncomputable abbrev CXT:=List Env->Hp->Shared->XK->Value->Shared->Prop
structure Env0 (P:Program) (w:World) (K:PySem.W.Frag) (mg:Str->Option Value) (base:Heap) (A:Around) (outer:List Env) (s:Shared) (H:Hp):Prop where
 frames:A.frames=some outer
 mod:Mod K mg base
 bs:∀b o,base.get? b=some o->s.heap.get? b=some o/\H b=none
 bsz:base.objs.size<=s.heap.objs.size
 funs:s.heap.FunFrames base outer
 frf:∀b∈frs outer,H b=none
 hok:HOk P w H s.heap
 bare:AllBare s.gens
noncomputable def CE (outer:List Env) (P:Program) (w:World) (H:Hp) (s:Shared) (Q:VK) (u:Value) (s':Shared):Prop :=
 ∃v H',s'.os=s.os/\AllBare s'.gens/\Un (frs outer) [] H H' s.heap s'.heap/\HOk P w H' s'.heap/\RelV v u/\Q v H'
noncomputable def CR (CX:CXT) (outer:List Env) (P:Program) (w:World) (H:Hp) (s:Shared) (Q:VK) (E:XK) (r:Result) (s':Shared):Prop :=
 match r with
 |.ok (.ret u)=>CE outer P w H s Q u s'
 |.ok _=>False
 |.error e=>CX outer H s E e s'
structure FnOk (P:Program) (w:World) (K:PySem.W.Frag) (mg:Str->Option Value) (base:Heap) (CX:CXT) (k:Nat) (f:Addr) (fd:FuncData) (ps:List Str) (sp:Sp):Prop where
 len:∀vs H Q E,sp vs H Q E->vs.length=ps.length
 run:∀(A:Around) (outer:List Env) (s:Shared) (H:Hp) (args:Args) (us:List Value) (vs:List V) (Q:VK) (E:XK),Room k A->Env0 P w K mg base A outer s H->BindsTo s fd args (ps.zip us)->Vals vs us->sp vs H Q E ->
  codeAny (model P w) A (.call (.ref f) args) (CR CX outer P w H s Q E) s
section
variable {X:Cx}{pins:List (Addr×Obj)}{σ:St}{H:Hp}{s s':Shared}
theorem Inv.env0 (I:Inv X pins σ H s):Env0 X.prog X.w X.K X.mg X.base X.A X.stack s H :=
 ⟨I.ok.frames,I.ok.mod,I.bs,Yo I.ok.bsz I.sz,I.stack,I.Zhg,I.hok,I.bare⟩
theorem Inv.after {Q:VK}{u:Value} (I:Inv X pins σ H s) (h:CE X.stack X.prog X.w H s Q u s'):EP X pins σ Q u s':=by
 obtain⟨v,H',os,bare,un,hok,r,q⟩:=h
 obtain⟨hh,g,d,t,os'⟩:=s'
 obtain rfl:os'=s.os:=os
 exact⟨v,H',I.call (h':=hh) (g':=g) (d':=d) (t':=t) (ch:=[]) un hok bare (λb z=>absurd z (by simp)),r,q⟩
end
noncomputable def Znd (sp:Sp) (dvs:List V) (E:XK) (t:TA):TE:=fun σ H Q=>t σ H λvs H1=>sp (vs++dvs) H1 Q E
noncomputable def Binds (K:PySem.W.Frag) (fd:FuncData) (ps:List Str) (ds:List Value):Prop :=
 ∀(s:Shared) (us:List Value),K.In s.heap->(us++ds).length=ps.length->BindsTo s fd ⟨us,[]⟩ (ps.zip (us++ds))
theorem Binds.all {K:PySem.W.Frag}{fd:FuncData}{ps:List Str} (h:∀us:List Value,us.length=ps.length->bindArgs fd ⟨us,[]⟩=pure (ps.zip us)):Binds K fd ps []:=λs us _ hl=>by
 rw[List.append_nil]at hl⊢
 exact .of_eq (h us hl)
noncomputable def Passes (CX:CXT) (X:Cx) (E:XK):Prop:=∀(pins:List (Addr×Obj)) (σ:St) (H:Hp) (s:Shared) (e:Value) (s':Shared),Inv X pins σ H s->CX X.stack H s E e s'->X.xe e s'
section
variable {X:Cx}{CX:CXT}{k:Nat}{f C:Addr}{fd:FuncData}{ps:List Str}{sp:Sp}{dvs:List V}{ds:List Value}{E:XK}{x m:Str}{p pos apos:Pos}{e o:Expr}{es:List Expr}{ta:TE}{t:TA}
theorem run_fn {pins:List (Addr×Obj)}{σ:St}{H:Hp}{s:Shared}{Q:VK}{us:List Value}{vs:List V} (F:FnOk X.prog X.w X.K X.mg X.base CX k f fd ps sp) (hr:Room k X.A) (hb:Binds X.K fd ps ds) (hd:Vals dvs ds) (hx:Passes CX X E)
  (I:Inv X pins σ H s) (r:Vals vs us) (h:sp (vs++dvs) H Q E):wpAny (model X.prog X.w) X.A (call (.ref f) us) (EP X pins σ Q) X.xe s:=by
 have r2:Vals (vs++dvs) (us++ds):=r.append hd
 have hl:(us++ds).length=ps.length:=by rw[<-r2.length];exact F.len _ _ _ _ h
 refine wpAny_call (codeAny_mono (F.run X.A X.stack s H ⟨us,[]⟩ (us++ds) (vs++dvs) Q E hr I.env0 (hb s us I.kIn hl) r2 h) λr s' hq=>?_)
 cases r with
 |error e=>exact hx pins σ H s e s' I hq
 |ok fl =>
  cases fl with
  |ret u=>exact I.after hq
  |next=>exact False.elim hq
  |brk=>exact False.elim hq
  |cont=>exact False.elim hq
theorem Zr1 (F:FnOk X.prog X.w X.K X.mg X.base CX k f fd ps sp) (hr:Room k X.A) (hg:Gl X x) (hm:X.mg x=some (.ref f)) (hk:PySem.W.keepIn X.K (.ref f)=true) (hb:Binds X.K fd ps ds) (hd:Vals dvs ds) (hx:Passes CX X E)
  (ha:PA X (e::es) t) (hdb:(x==("__debug__":Str))=false:=by decide) (he:starEach (e::es) X.env=(false,eval e X.env)::starEach es X.env:=by rfl) (hpl:(backTo pos (starEach es X.env)).any (·.1)=false:=by rfl) :
  PE X (.Call (.Name x p) (e::es) [] pos) (Znd sp dvs E t):=by
 intro pins s σ H Q I h
 refine wpAny_Call_Name_kw (ZjF I hg hm ?_ hdb)
 refine PySem.W.callWith_K (h₀:=X.base) I.ok.mod.kin hk (thn (ha pos pins s σ H _ I h) λus s1 ⟨vs,H1,I1,r,q⟩=>⟨I1.kIn,?_⟩) he hpl
 exact run_fn F hr hb hd hx I1 r q
end
noncomputable def PK (X:Cx) (kws:List Keyword) (t:TA):Prop :=
 ∀(pos:Pos) (pins:List (Addr×Obj)) (s:Shared) (σ:St) (H:Hp) (Q:List V->Hp->Prop),Inv X pins σ H s->t σ H Q->wpAny (model X.prog X.w) X.A (evalAll ((backToKw pos (keywordEach kws X.env)).map (·.2))) (AP X pins σ Q) X.xe s
section
variable {X:Cx}{CX:CXT}{k:Nat}{f C:Addr}{fd:FuncData}{ps ks:List Str}{sp:Sp}{E:XK}{x m:Str}{p pos apos kpos:Pos}{e o:Expr}{es:List Expr}{kws:List Keyword}{te ta:TE}{t tk:TA}{nm:Option Str}
theorem Zl0:PK X [] tNil:=λ_ _ _ _ H Q I h=>wpAny_evalAll_nil ⟨[],H,I,.nil,h⟩
theorem ZfC (ha:PE X e te) (hr:PK X kws t):PK X (⟨nm,e,kpos⟩::kws) (Znc te t):=by
 intro pos pins s σ H Q I h
 show wpAny _ _ (evalAll ((do let v <-eval e X.env;standAt pos;pure v)::(backToKw pos (keywordEach kws X.env)).map (·.2))) _ _ s
 refine wpAny_evalAll_cons (Ya (thn (ha pins s σ H _ I h) λu s1 ⟨x,H1,I1,r1,q1⟩=>Ya (wpAny_standAt (Yc ?_))))
 exact thn (hr pos pins s1 σ H1 _ I1 q1) λus s2 ⟨xs,H2,I2,r2,q2⟩=>⟨x::xs,H2,I2,.cons r1 r2,q2⟩
variable {g:List Value->List Value->List Value}{gV:List V->List V->List V}
end
structure FnScope (N P:List Str) (sc:Scope):Prop where
 kind:sc.kind=.function
 co:sc.isCoroutine=false
 gen:sc.isGenerator=false
 nd:N.Nodup
 pre:N.take P.length=P
 par:∀x∈P,sc.names.lookup x=some .local\/sc.names.lookup x=some .cell
 nofree:∀y∈sc.names,y.2≠.free
theorem Zjd {kindOf:Str->Option NameKind}{x:Str}:∀{binds:List (Str×Value)}{m:Str->Option Value},(∀v,(x,v)∉binds)->bindL kindOf binds m x=m x
 |[],_,_=>rfl
 |(n,v)::r,m,h=>by
  unfold bindL
  rw[Zjd λw hw=>h w (YD _ hw)]
  split
  ·have:x≠n:=by rintro rfl;exact h v Yz
   simp[this]
  ·rfl
theorem Zje {kindOf:Str->Option NameKind}{x:Str}:∀{binds:List (Str×Value)}{m:Str->Option Value},(∀v,(x,v)∉binds)->bindC kindOf binds m x=m x
 |[],_,_=>rfl
 |(n,v)::r,m,h=>by
  unfold bindC
  rw[Zje λw hw=>h w (YD _ hw)]
  split
  ·rfl
  ·have:x≠n:=by rintro rfl;exact h v Yz
   simp[this]
theorem Zjf {kindOf:Str->Option NameKind}{x:Str}{v:Value}:∀{P:List Str}{vs:List Value}{i:Nat}{m:Str->Option Value},P.Nodup->P[i]?=some x->vs[i]?=some v->kindOf x=some .local ->
  bindL kindOf (P.zip vs) m x=some v
 |[],_,_,_,_,h,_,_=>by simp at h
 |_::_,[],_,_,_,_,h,_=>by simp at h
 |p::P,w::vs,0,m,nd,h1,h2,hk=>by
  simp at h1 h2;subst h1;subst h2
  show bindL kindOf ((p,w)::P.zip vs) m p=_
  unfold bindL
  rw[Zjd λv hv=>(List.nodup_cons.mp nd).1 (List.of_mem_zip hv).1,Yd hk]
  simp
 |p::P,w::vs,i+1,m,nd,h1,h2,hk=>by
  show bindL kindOf ((p,w)::P.zip vs) m x=_
  unfold bindL
  exact Zjf (i:=i) (List.nodup_cons.mp nd).2 (by simpa using h1) (by simpa using h2) hk
theorem Zjg {kindOf:Str->Option NameKind}{x:Str}{v:Value}:∀{P:List Str}{vs:List Value}{i:Nat}{m:Str->Option Value},P.Nodup->P[i]?=some x->vs[i]?=some v->kindOf x≠some .local ->
  bindC kindOf (P.zip vs) m x=some v
 |[],_,_,_,_,h,_,_=>by simp at h
 |_::_,[],_,_,_,_,h,_=>by simp at h
 |p::P,w::vs,0,m,nd,h1,h2,hk=>by
  simp at h1 h2;subst h1;subst h2
  show bindC kindOf ((p,w)::P.zip vs) m p=_
  unfold bindC
  rw[Zje λv hv=>(List.nodup_cons.mp nd).1 (List.of_mem_zip hv).1,Yb hk]
  simp
 |p::P,w::vs,i+1,m,nd,h1,h2,hk=>by
  show bindC kindOf ((p,w)::P.zip vs) m x=_
  unfold bindC
  exact Zjg (i:=i) (List.nodup_cons.mp nd).2 (by simpa using h1) (by simpa using h2) hk
noncomputable def start (N:List Str) (vs:List V):St:=vs.map some++List.replicate (N.length-vs.length) none
noncomputable def ZfD (CX:CXT) (P:Program) (w:World) (K:PySem.W.Frag) (mg:Str->Option Value) (base:Heap) (N:List Str) (qual:Str) (scope:Scope) (f:Addr) (cd:Value) (A:Around) (outer:List Env) (s:Shared) (H:Hp) (E:XK):Cx where
 prog:=P
 w:=w
 K:=K
 mg:=mg
 base:=base
 A:=A.deeper (envOfC qual scope s.heap.objs.size f cd)
 N:=N
 s₀:=s
 H₀:=H
 env:=envOfC qual scope s.heap.objs.size f cd
 outer:=outer
 stack:=envOfC qual scope s.heap.objs.size f cd::outer
 ex:=[]
 calm:=true
 fn:=λ_=>true
 pn:=[]
 xe:=λe s'=>wpAny (model P w) (A.deeper (envOfC qual scope s.heap.objs.size f cd)) (leaving (envOfC qual scope s.heap.objs.size f cd) e) (λ_ s''=>CX outer H s E e s'') (λe' s''=>CX outer H s E e' s'') s'
theorem ZkJ {sc:Scope}{n:Nat}{x:Str} (h:sc.names.lookup x=some .cell):∃c,(cellsFrom n sc.names []).lookup x=some c:=by
 have q:=PySem.W.cellsFrom_some sc.names n [] (.inl h)
 exact Option.isSome_iff_exists.mp q
theorem ZnY {CX:CXT}{P:Program}{w:World}{K:PySem.W.Frag}{mg:Str->Option Value}{base:Heap}{N ps:List Str}{qual:Str}{scope:Scope}{f:Addr}{cd:Value}{A:Around}{outer:List Env}{s s1:Shared}{H:Hp}{E:XK}{us:List Value}{vs:List V}
  (S:FnScope N ps scope) (hd:A.handled=none) (e0:Env0 P w K mg base A outer s H) (hl:vs.length=ps.length) (r:Vals vs us)
  (x:InCallC s s.heap.objs.size (bindL (envOfC qual scope s.heap.objs.size f cd).kindOf (ps.zip us) λ_=>none) (cellsFrom (s.heap.objs.size+1) scope.names []) (bindC (envOfC qual scope s.heap.objs.size f cd).kindOf (ps.zip us) λ_=>none) s1) :
  Inv (ZfD CX P w K mg base N qual scope f cd A outer s H E) [] (start N vs) H s1:=by
 have hpl:ps.length<=N.length:=by have:=congrArg List.length S.pre;rw[Y1]at this;omega
 obtain⟨h1,tk,rfl,hk⟩:=x.done
 have noA:∀b:Addr,b∉(ZfD CX P w K mg base N qual scope f cd A outer s H E).ex:=λb z=>absurd (show b∈([]:List Addr)from z) (by simp)
 refine⟨⟨e0.mod,S.kind,rfl,rfl,Ye _,λy z c h1 h2=>?_,λy hy=>?_,λy c _ h=>?_,λ_=>hd,Around.frames_deeper e0.frames,.inr ⟨rfl,rfl⟩,λb z=>absurd z (noA b),e0.bs,e0.bsz,λb _ _=>noA b,λb z=>absurd z (noA b),e0.funs,e0.frf⟩,
  rfl,e0.bare,Un.kept hk,⟨_,x.toInCall.ns,λi y v h1 h2 h3=>?_⟩,λy c h=>⟨_,x.cell y c h⟩,e0.hok.fresh (Ye _),λy c h=>?_,λp hp=>absurd (show p∈([]:List (Addr×Obj))from hp) (by simp),e0.hok.kept hk,?_⟩
 ·exact name_of_addr x.apart (PySem.mem_of_lookup h1) (PySem.mem_of_lookup h2)
 ·have hy:scope.names.lookup y=some .cell\/scope.names.lookup y=some .free:=hy
  rcases hy with hy|hy
  ·exact ZkJ hy
  ·exact absurd rfl (S.nofree _ (PySem.mem_of_lookup hy))
 ·exact Y6 (x.above y c (PySem.mem_of_lookup h))
 ·have hi:i<vs.length:=by
   unfold start at h2
   by_cases hi:i<vs.length
   ·exact hi
   ·rw[Ja (by simpa using hi)]at h2
    rw[List.getElem?_replicate]at h2
    split at h2<;>cases h2
  have ha:vs[i]?=some v:=by
   unfold start at h2
   rw[Y8 (by simpa using hi),YL]at h2
   cases e:vs[i]? with
   |none=>rw[e]at h2;cases h2
   |some a=>rw[e]at h2;cases h2;rfl
  obtain⟨u,hu,rv⟩:=r.get ha
  have hp:ps[i]?=some y:=by
   rw[<-S.pre,List.getElem?_take_of_lt (by omega)];exact h1
  have ndP:ps.Nodup:=by rw[<-S.pre];exact S.nd.sublist (List.take_sublist _ _)
  refine⟨u,rv,?_⟩
  rcases S.par y (List.mem_of_getElem? hp)with k|k
  ·exact .inl ⟨k,Zjf ndP hp hu k⟩
  ·obtain⟨c,e⟩:=ZkJ (n:=s.heap.objs.size+1) k
   refine .inr ⟨.inl k,c,e,?_⟩
   have q:=x.cell y c e
   rw[Zjg ndP hp hu (by show scope.names.lookup y≠_;rw[k];decide)]at q
   exact q
 ·exact e0.hok.fresh (Y6 (x.above y c (PySem.mem_of_lookup h)))
 ·unfold start
  show _=N.length
  rw[YM,Yf,List.length_replicate]
  omega
theorem fn_of {CX:CXT}{P:Program}{w:World}{K:PySem.W.Frag}{mg:Str->Option Value}{base:Heap}{k:Nat}{f:Addr}{name qual:Str}{params:Arguments}{body:List Stmt}{scope:Scope}{dV kV doc pm cdv ct oc:Value}{an od:Option Addr}
  {osl:Array (Option Value)}{N ps:List Str}{sp:Sp} (lk:K.lookup f=some ⟨oc,od,.func (PySem.W.fnOf name qual params body scope dV kV doc pm an cdv ct),osl⟩) (hcd:PySem.W.codeIn K cdv qual=true) (S:FnScope N ps scope)
  (len:∀vs H Q E,sp vs H Q E->vs.length=ps.length)
  (hbody:∀(A:Around) (outer:List Env) (s:Shared) (H:Hp) (vs:List V) (Q:VK) (E:XK),Room k (A.deeper (envOfC qual scope s.heap.objs.size f cdv))->sp vs H Q E ->
   ∃t,PSs (ZfD CX P w K mg base N qual scope f cdv A outer s H E) body t/\t {nx:=λ_ H'=>Q .non H',rt:=Q} (start N vs) H) :
  FnOk P w K mg base CX (k+1) f (PySem.W.fnOf name qual params body scope dV kV doc pm an cdv ct) ps sp:=by
 refine⟨len,λA outer s H args us vs Q E hr e0 hb r hsp=>?_⟩
 have hl:=len _ _ _ _ hsp
 have KX:K.In s.heap:=e0.mod.kin.keeps λb o e=>(e0.bs b o e).1
 have lim:s.heap.NoLimit:=e0.mod.nolimit.keeps λb o e=>(e0.bs b o e).1
 have hkind:∀y∈ps.zip us,scope.names.lookup y.1=some .local\/(scope.names.lookup y.1=some .cell/\((cellsFrom (s.heap.objs.size+1) scope.names []).lookup y.1).isSome=true):=λ⟨n,v⟩ hy=>by
  rcases S.par n (List.of_mem_zip hy).1 with q|q
  ·exact .inl q
  ·exact .inr ⟨q,PySem.W.cellsFrom_some _ _ _ (.inl q)⟩
 refine codeAny_call_function hr.depth (KX _ _ lk) rfl S.co S.gen rfl (PySem.W.codeRec_of KX hcd) (hb _ _ _ _ ?_)
 refine wpAny_newFunctionEnv_cells S.kind hkind λenv he s1 x=>?_
 subst he
 refine⟨lim.keeps x.toInCall.keep,codeAny_func ?_⟩
 obtain⟨t,ht,hq⟩:=hbody A outer s H vs Q E (hr.deeper _) hsp
 have I:Inv (ZfD CX P w K mg base N qual scope f cdv A outer s H E) [] (start N vs) H s1:=ZnY S hr.hd e0 hl r x
 refine Yy (ht [] s1 (start N vs) H _ I hq) (λfl s' hs=>?_) λe s' hs=>hs
 have fin:∀{σ':St}{H':Hp}{v:V}{u:Value},Inv (ZfD CX P w K mg base N qual scope f cdv A outer s H E) [] σ' H' s'->RelV v u->Q v H'->CE outer P w H s Q u s' :=
  λ{σ' H' v u} J rv q=>⟨v,H',J.os,J.bare,J.base,J.hok,rv,q⟩
 cases fl with
 |ret u =>
  obtain⟨v,σ',H',J,rv,q⟩:=hs
  exact fin J rv q
 |next =>
  obtain⟨σ',H',J,q⟩:=hs
  exact fin (v:=V.non) (u:=Value.none) J rfl q
 |brk =>
  obtain⟨_,_,_,q⟩:=hs
  exact False.elim q
 |cont =>
  obtain⟨_,_,_,q⟩:=hs
  exact False.elim q
section
variable {X:Cx}{x:Str}{p pos:Pos}{e:Expr}{es:List Expr}{t:TA}{id T:String}{r:List V->Hp->VK->Prop}
noncomputable def tCB (r:List V->Hp->VK->Prop) (t:TA):TE:=fun σ H Q=>t σ H λvs H1=>r vs H1 Q
theorem Zk (hc:ZaF X (.builtin id) r) (hg:Gl X x) (hm:X.mg x=none) (hv:bootBuiltins x=some (.builtin id)) (ha:PA X (e::es) t) (hn:x≠"__name__":=by decide) (hdb:(x==("__debug__":Str))=false:=by decide)
  (he:starEach (e::es) X.env=(false,eval e X.env)::starEach es X.env:=by rfl) (hpl:(backTo pos (starEach es X.env)).any (·.1)=false:=by rfl):PE X (.Call (.Name x p) (e::es) [] pos) (tCB r t):=by
 intro pins s σ H Q I h
 refine wpAny_Call_Name_kw (Zcn I hg hm hv ?_ hn hdb)
 exact PyProof.Rows.callWith_builtin1 (thn (ha pos pins s σ H _ I h) λus s1 ⟨vs,H1,I1,r1,q1⟩=>hc pins s1 σ H1 vs us Q I1 r1 q1) he hpl
theorem ZT (hc:ZaF X (.type T) r) (hg:Gl X x) (hm:X.mg x=none) (hv:bootBuiltins x=some (.type T)) (ha:PA X (e::es) t) (hn:x≠"__name__":=by decide) (hdb:(x==("__debug__":Str))=false:=by decide)
  (he:starEach (e::es) X.env=(false,eval e X.env)::starEach es X.env:=by rfl) (hpl:(backTo pos (starEach es X.env)).any (·.1)=false:=by rfl):PE X (.Call (.Name x p) (e::es) [] pos) (tCB r t):=by
 intro pins s σ H Q I h
 refine wpAny_Call_Name_kw (Zcn I hg hm hv ?_ hn hdb)
 exact PyProof.Rows.callWith_type1 (thn (ha pos pins s σ H _ I h) λus s1 ⟨vs,H1,I1,r1,q1⟩=>hc pins s1 σ H1 vs us Q I1 r1 q1) he hpl
end
end L2
namespace HT
open PySem PyProof.Rows
section
open PySem.SeqAt
open PySem.AutoSeq1 (wpAny_loadPart')
open PySem.MeetsSeq PySem.MeetsSeq2 PySem.MeetsSeq3
end
section
variable {prog:Program}{w:World}{A:Around}{E:Value->Shared->Prop}{s:Shared}
theorem Zr2 {t b:Addr}{vs ws:List Value}{Q:Value->Shared->Prop} (ht:IsTup s.heap t vs.toArray) (hb:IsTup s.heap b ws.toArray) (hv:vs≠[])
  (h1:ws=[]->Q (.ref t) s) (h2:ws≠[]->Q (.ref s.heap.objs.size) {s with heap:=s.heap.push {cls:=.type "tuple",data:=.seq (vs++ws).toArray}})
  (hsz:vs.length+ws.length<=sizeLine):wpAny (model prog w) A (binaryOp .Add (.ref t) (.ref b)) Q E s:=by
 obtain⟨⟨cls,dd,data,sl⟩,ho,hc,n,hd⟩:=id ht
 obtain⟨⟨cls2,dd2,data2,sl2⟩,ho2,hc2,n2,hd2⟩:=id hb
 simp only at hc hd hc2 hd2
 subst hc hd hc2 hd2
 have e:vs.toArray++ws.toArray=(vs++ws).toArray:=by simp
 by_cases hw:ws=[]
 ·exact concat_meets ⟨_,ho,rfl⟩ ⟨_,ho2,rfl⟩ noFill_tuple_add seq_tuple_add PySem.F.slot_tuple_add PySem.F.entry_tuple_add (PySem.F.args_tuple_add_2 _ _)
   (tuple_addW1 t b vs.toArray ws.toArray n n2 dd dd2 sl sl2 (by simpa using hv) (by simp[hw])) ⟨ho,ho2,h1 hw⟩
 ·refine concat_meets ⟨_,ho,rfl⟩ ⟨_,ho2,rfl⟩ noFill_tuple_add seq_tuple_add PySem.F.slot_tuple_add PySem.F.entry_tuple_add (PySem.F.args_tuple_add_2 _ _)
   (tuple_addW2 t b vs.toArray ws.toArray n n2 dd dd2 sl sl2 (by simpa using hv) (by simpa using hw) (by rw[Yv,Yv];exact hsz)) ⟨ho,ho2,?_⟩
  rw[e]
  exact h2 hw
noncomputable def sIx (n d:Nat):Option Int->Nat
 |none=>d
 |some v=>if v<0 then (v+(n:Int)).toNat else min v.toNat n
theorem sIx_le (n d:Nat) (hd:d<=n) (o:Option Int):sIx n d o<=n:=by
 cases o with
 |none=>exact hd
 |some v =>
  show(if v<0 then (v+(n:Int)).toNat else min v.toNat n)<=n
  by_cases hv:v<0
  ·rw[Yd hv];omega
  ·rw[Yb hv];exact Nat.min_le_right _ _
theorem Zne (v:Int) (n d:Nat):(if v<0 then max (v+(n:Int)) 0 else min v (n:Int))=((sIx n d (some v):Nat):Int):=by
 show(if v<0 then max (v+(n:Int)) 0 else min v (n:Int))=(((if v<0 then (v+(n:Int)).toNat else min v.toNat n):Nat):Int)
 by_cases hv:v<0
 ·simp only[Yd hv];omega
 ·simp only[Yb hv];omega
theorem Zl1 (lo hi:Option Int) (n:Nat):Builtin.Slice.sliceAdjust lo hi 1 (n:Int)=(((sIx n 0 lo:Nat):Int),((sIx n n hi:Nat):Int)):=by
 have h1:¬ ((1:Int)<0):=by omega
 unfold Builtin.Slice.sliceAdjust
 simp only[h1,if_false]
 refine Prod.ext ?_ ?_
 ·cases lo with
  |none=>rfl
  |some v=>exact Zne v n 0
 ·cases hi with
  |none=>rfl
  |some v=>exact Zne v n n
theorem Zl2 (i j:Nat):Builtin.Slice.slicePlaces (i:Int) (j:Int) 1=j-i:=by
 unfold Builtin.Slice.slicePlaces
 have h1:(1:Int)>0:=by omega
 simp only[h1,if_true,Int.ediv_one]
 split<;>omega
theorem ZhA {v:Value}{o:Option Int}{Q:Option Int->Shared->Prop} (p:IsPart v o) (h:Q o s):wpAny (model prog w) A (Builtin.Slice.slicePartIndex v) Q E s:=by
 cases p with
 |none=>exact slicePart_none h
 |int i t=>exact slicePart_int h
theorem Zgd {sl:Addr}{vl vu:Value}{lo hi:Option Int}{n:Nat}{Q:Int×Int×Nat->Shared->Prop} (hs:s.heap.IsSliceOf sl vl vu .none) (pl:IsPart vl lo) (pu:IsPart vu hi)
  (h:Q (((sIx n 0 lo:Nat):Int),1,sIx n n hi-sIx n 0 lo) s):wpAny (model prog w) A (Builtin.Slice.sliceApplied (.ref sl) (pure (n:Int))) Q E s:=by
 obtain⟨os,hos,hcs,hds⟩:=id hs
 unfold Builtin.Slice.sliceApplied Builtin.Slice.sliceFields
 refine Ya (Ya (wpAny_field hos hds (x:=vl) rfl (Ya (wpAny_field hos hds (x:=vu) rfl (Ya (wpAny_field hos hds (x:=.none) rfl (Yc ?_)))))))
 refine Ya (slicePart_none ?_)
 show wpAny _ _ (if ((1:Int)==0)=true then _ else _) _ _ s
 rw[Yb (by decide)]
 refine Ya (ZhA pl (Ya (ZhA pu (Ya (Yc ?_)))))
 show wpAny _ _ (match Builtin.Slice.sliceAdjust lo hi 1 (n:Int)with|(lo,hi)=>pure (lo,(1:Int),Builtin.Slice.slicePlaces lo hi 1)) _ _ s
 rw[Zl1 lo hi n]
 show wpAny _ _ (pure (((sIx n 0 lo:Nat):Int),(1:Int),Builtin.Slice.slicePlaces ((sIx n 0 lo:Nat):Int) ((sIx n n hi:Nat):Int) 1)) _ _ s
 rw[Zl2]
 exact Yc h
theorem ZpL (xs:Array Value) (i k:Nat):((List.range k).filterMap λ(m:Nat)=>xs[((i:Int)+(m:Int)*1).toNat]?).toArray=((xs.toList.drop i).take k).toArray:=by
 have e:(λ(m:Nat)=>xs[((i:Int)+(m:Int)*1).toNat]?)=λm=>xs[i+m]?:=by
  funext m
  have:((i:Int)+(m:Int)*1).toNat=i+m:=by omega
  rw[this]
 rw[e]
 have:=pick_run xs i k
 rw[List.filterMap_map]at this
 have e2:((λx=>xs[x]?) ∘ λx=>i+x)=λm=>xs[i+m]?:=rfl
 rw[e2]at this
 rw[this]
theorem ZfE {t sl:Addr}{items:Array Value}{vl vu:Value}{lo hi:Option Int}{Q:Value->Shared->Prop} (ht:IsTup s.heap t items) (hs:s.heap.IsSliceOf sl vl vu .none) (pl:IsPart vl lo) (pu:IsPart vu hi)
  (hw:¬ (sIx items.size 0 lo=0/\sIx items.size items.size hi=items.size))
  (h:Q (.ref s.heap.objs.size) {s with heap:=s.heap.push {cls:=.type "tuple",data:=.seq ((items.toList.drop (sIx items.size 0 lo)).take (sIx items.size items.size hi-sIx items.size 0 lo)).toArray}})
  (hsz:items.size<=sizeLine):wpAny (model prog w) A (getItem (.ref t) (.ref sl)) Q E s:=by
 have htake:sizeOk (.seq ((items.toList.drop (sIx items.size 0 lo)).take (sIx items.size items.size hi-sIx items.size 0 lo)).toArray):=by
  show((items.toList.drop (sIx items.size 0 lo)).take (sIx items.size items.size hi-sIx items.size 0 lo)).toArray.size<=sizeLine
  rw[Yv,Y1,Jd,YQ]
  omega
 have hj:sIx items.size items.size hi<=items.size:=sIx_le _ _ (Ye _) hi
 obtain⟨os,hos,hcs,hds⟩:=id hs
 have hTs:s.TypeIs (.ref sl) "slice":=⟨os,hos,hcs⟩
 unfold getItem
 try with_reducible refine wpAny_holding ?_
 first|refine Ya (Yc ?_)|skip
 refine Ya (wpAny_sequenceKey ht.typeIs (by decide) ?_)
 refine Ya (wpAny_callSpecial?_slot (name:=Str.ofString "__getitem__") ht.typeIs PyProof.Rows.slot_tuple_getitem
  (wpAny_call_entry PyProof.Rows.slot_tuple_getitem ht.typeIs entry_tuple_getitem ?_ (args_tuple_getitem _ _)))
 show wpAny _ _ (Builtin.Tuple.tupleItemsOf (.ref t) >>= _) _ _ s
 refine Ya (tupleItemsOf_ ht ?_)
 refine Ya (wpAny_typeOf hTs ?_)
 rw[Yd (by decide)]
 refine Ya (Zgd hs pl pu ?_)
 have hno:¬ ((((sIx items.size 0 lo:Nat):Int)==0&&(1:Int)==1&&(sIx items.size items.size hi-sIx items.size 0 lo)==items.size)=true):=by
  intro q
  rw[Bool.and_eq_true,Bool.and_eq_true]at q
  have q1:((sIx items.size 0 lo:Nat):Int)=0:=eq_of_beq q.1.1
  have q2:sIx items.size items.size hi-sIx items.size 0 lo=items.size:=eq_of_beq q.2
  exact hw ⟨by omega,by omega⟩
 show wpAny _ _ (if (((sIx items.size 0 lo:Nat):Int)==0&&(1:Int)==1&&(sIx items.size items.size hi-sIx items.size 0 lo)==items.size)=true then _ else _) _ _ s
 rw[Yb hno,ZpL]
 first
  |exact Ya (m:=Builtin.Tuple.tupleExact _) (wpAny_newObj_type (Yc ⟨_,rfl,Yc h⟩) htake)
  |exact Ya (m:=Builtin.Tuple.tupleExact _) (wpAny_newObj_type (Ya (Yc (Yc ⟨_,rfl,Yc h⟩))) htake)
  |exact Ya (Ya (m:=Builtin.Tuple.tupleExact _) (wpAny_newObj_type (Yc (Yc ⟨_,rfl,Yc h⟩)) htake))
  |exact Ya (Ya (m:=Builtin.Tuple.tupleExact _) (wpAny_newObj_type (Yc ⟨_,rfl,Yc h⟩) htake))
end
end HT
namespace L2
open PySem PySem.Spec PyProof.Rows
noncomputable abbrev TO:=St->Hp->(Option Int->Hp->Prop)->Prop
noncomputable def PO (X:Cx) (e:Option Expr) (t:TO):Prop :=
 ∀(pins:List (Addr×Obj)) (s:Shared) (σ:St) (H:Hp) (Q:Option Int->Hp->Prop),Inv X pins σ H s->t σ H Q ->
  wpAny (model X.prog X.w) X.A (evalPart e X.env) (λu s'=>∃o H',Inv X pins σ H' s'/\IsPart u o/\Q o H') X.xe s
noncomputable def ZjJ:TO:=λ_ H Q=>Q none H
noncomputable def ZpM (t:TE):TO:=fun σ H Q=>t σ H λx H1=>∃i,x=.int i/\Q (some i) H1
theorem intsAre_of {ns:List Int}:∀{us:List Value},Vals (ns.map V.int) us->IntsAre us ns:=by
 induction ns with
 |nil=>intro us r;rw[List.map_nil]at r;cases r;exact .nil
 |cons n ns ih =>
  intro us r
  rw[YH]at r
  cases r with
  |cons r1 r2 =>
   obtain⟨t,e⟩:=r1
   subst e
   exact .cons n t (ih r2)
section
variable {X:Cx}{e:Expr}{te:TE}{lo hi:Option Expr}{tl th:TO}{pos p2:Pos}
theorem Zr3:PO X none ZjJ:=by
 intro pins s σ H Q I h
 rw[evalPart_none]
 exact Yc ⟨none,H,I,.none,h⟩
theorem Zr4 (h:PE X e te):PO X (some e) (ZpM te):=by
 intro pins s σ H Q I hw
 rw[evalPart_some]
 refine thn (h pins s σ H _ I hw) λu s1 ⟨x,H1,I1,r1,q1⟩=>?_
 obtain⟨i,rfl,q⟩:=q1
 obtain⟨t,rfl⟩:=r1
 exact⟨some i,H1,I1,.int i t,q⟩
noncomputable def SlR (X:Cx) (r:V->Option Int->Option Int->Hp->VK->Prop):Prop :=
 ∀(pins:List (Addr×Obj)) (s:Shared) (σ:St) (H:Hp) (x:V) (v vl vu:Value) (lo hi:Option Int) (sl:Addr) (Q:VK),Inv X pins σ H s->RelV x v->s.heap.IsSliceOf sl vl vu .none->IsPart vl lo->IsPart vu hi->r x lo hi H Q ->
  ∃T id,typeLookup (.type T) "__getitem__"=pure (some (.builtin id))/\s.TypeIs v T/\wpAny (model X.prog X.w) X.A (getItem v (.ref sl)) (EP X pins σ Q) X.xe s
noncomputable def tSl (r:V->Option Int->Option Int->Hp->VK->Prop) (te:TE) (tl th:TO):TE:=fun σ H Q=>te σ H λx H1=>tl σ H1 λl H2=>th σ H2 λu H3=>r x l u H3 Q
theorem ZpN {r:V->Option Int->Option Int->Hp->VK->Prop} (hr:SlR X r) (he:PE X e te) (hl:PO X lo tl) (hu:PO X hi th):PE X (.Subscript e (.Slice lo hi none p2) pos) (tSl r te tl th):=by
 intro pins s σ H Q I h
 refine Subscript_ (thn (he pins s σ H _ I h) λv s1 ⟨x,H1,I1,r1,q1⟩=>?_)
 refine wpAny_Slice (thn (hl pins s1 σ H1 _ I1 q1) λvl s2 ⟨l,H2,I2,pl,q2⟩=>thn (hu pins s2 σ H2 _ I2 q2) λvu s3 ⟨u,H3,I3,pu,q3⟩=>?_)
 rw[evalPart_none]
 refine Yc ?_
 have I4:Inv X pins σ H3 {s3 with heap:=s3.heap.push {cls:=.type "slice",data:=.fields #[vl,vu,.none]}}:=I3.kept (t':=s3.toks) λb ob q=>Yh _ q
 obtain⟨T,id,hT,ht,hg⟩:=hr pins {s3 with heap:=s3.heap.push {cls:=.type "slice",data:=.fields #[vl,vu,.none]}} σ H3 x v vl vu l u s3.heap.objs.size Q I4 r1 (Heap.IsSliceOf.new ..) pl pu q3
 show wpAny (model X.prog X.w) X.A (subscriptTail e (.Slice lo hi none p2) v (.ref s3.heap.objs.size)) (EP X pins σ Q) X.xe {s3 with heap:=s3.heap.push {cls:=.type "slice",data:=.fields #[vl,vu,.none]}}
 exact tail_any (ops:=[.ref s3.heap.objs.size,v]) ht hT hg (by with_unfolding_all rfl)
noncomputable def Zl3 (xs:List V) (lo hi:Option Int):List V:=(xs.drop (HT.sIx xs.length 0 lo)).take (HT.sIx xs.length xs.length hi-HT.sIx xs.length 0 lo)
theorem ZkK (xs:List V) (lo hi:Option Int):(Zl3 xs lo hi).length<=xs.length:=by
 unfold Zl3
 rw[Y1,Jd]
 omega
noncomputable def rSlT (K:PySem.W.Frag):V->Option Int->Option Int->Hp->VK->Prop:=λx lo hi H Q=>∃a xs,x=.ref a/\SqT K H a xs /\
 ¬ (HT.sIx xs.length 0 lo=0/\HT.sIx xs.length xs.length hi=xs.length)/\∀p,H p=none->Q (.ref p) (upd H p (.tup (Zl3 xs lo hi)))
theorem sl_tup:SlR X (rSlT X.K):=by
 intro pins s σ H x v vl vu lo hi sl Q I rx hs pl pu h
 obtain⟨a,xs,rfl,hx,hw,q⟩:=h
 cases rx
 obtain⟨its,r,ht,hz⟩:=I.tuple hx
 have hlen:its.toArray.size=xs.length:=by rw[Yv];exact r.length.symm
 refine⟨"tuple",_,PyProof.Rows.slot_tuple_getitem.lookup,ht.typeIs,?_⟩
 refine HT.ZfE ht hs pl pu (by rw[hlen];exact hw) ?_ (by rw[hlen];exact hz)
 rw[hlen]
 refine⟨.ref s.heap.objs.size,_,I.laid (t':=s.toks) (o:=.tup (Zl3 xs lo hi)) (λb ob q=>Yh _ q) (Ye _) ?_,rfl,q _ (I.hok.fresh (Ye _))⟩
 exact⟨Yo (ZkK xs lo hi) hz,_,(r.drop (HT.sIx xs.length 0 lo)).take (HT.sIx xs.length xs.length hi-HT.sIx xs.length 0 lo),IsTup.new _ _⟩
noncomputable def rCatT (K:PySem.W.Frag):R2:=λx y H Q=>∃a b xs ys,x=.ref a/\y=.ref b/\SqT K H a xs/\SqT K H b ys/\xs≠[]/\xs.length+ys.length<=sizeLine /\
 (ys=[]->Q (.ref a) H)/\(ys≠[]->∀p,H p=none->Q (.ref p) (upd H p (.tup (xs++ys))))
theorem Vals.ZjK {xs:List V}{us:List Value} (r:Vals xs us):us=[]↔xs=[]:=by
 cases r with
 |nil=>simp
 |cons _ _=>simp
theorem Znf:OpR X (binaryOp .Add) (rCatT X.K):=by
 intro pins s σ H x y v u Q I rx ry h
 obtain⟨a,b,xs,ys,rfl,rfl,ha,hb,hx,hz,q1,q2⟩:=h
 cases rx
 cases ry
 obtain⟨its,r1,p1,_⟩:=I.tuple ha
 obtain⟨its2,r2,p2,_⟩:=I.tuple hb
 refine HT.Zr2 p1 p2 (λz=>hx (r1.ZjK.mp z)) (λz=>⟨.ref a,H,I,rfl,q1 (r2.ZjK.mp z)⟩) (λz=>?_) (by rw[<-r1.length,<-r2.length];exact hz)
 refine⟨.ref s.heap.objs.size,_,I.laid (t':=s.toks) (o:=.tup (xs++ys)) (λb ob q=>Yh _ q) (Ye _) ?_,rfl,q2 (λw=>z (r2.ZjK.mpr w)) _ (I.hok.fresh (Ye _))⟩
 exact⟨by rw[YM];exact hz,_,r1.append r2,IsTup.new _ _⟩
end
noncomputable def ixN (n:Nat) (i:Int):Option Nat:=if 0<=i then (if i<n then some i.toNat else none)else if -(n:Int)<=i then some (i+n).toNat else none
noncomputable def atI {α:Type} (xs:List α) (i:Int):Option α:=(ixN xs.length i).bind λj=>xs[j]?
theorem Zng {n:Nat}{i:Int}{j:Nat} (h:ixN n i=some j):seqIndex? i n=some j/\j<n/\-(n:Int)<=i/\i<n:=by
 unfold ixN at h
 by_cases h0:0<=i
 ·rw[Yd h0]at h
  by_cases h1:i<n
  ·rw[Yd h1]at h
   have e:i.toNat=j:=YN h
   exact⟨by rw[seqIndex_of h0 h1,e],by omega,by omega,h1⟩
  ·rw[Yb h1]at h;cases h
 ·rw[Yb h0]at h
  by_cases h1:-(n:Int)<=i
  ·rw[Yd h1]at h
   have e:(i+n).toNat=j:=YN h
   exact⟨by rw[seqIndex_neg (by omega) h1,e],by omega,h1,by omega⟩
  ·rw[Yb h1]at h;cases h
theorem Znh {α:Type}{xs:List α}{i:Int}{v:α} (h:atI xs i=some v):∃j,seqIndex? i xs.length=some j/\xs[j]?=some v/\j<xs.length/\-(xs.length:Int)<=i/\i<xs.length:=by
 unfold atI at h
 cases e:ixN xs.length i with
 |none=>rw[e]at h;cases h
 |some j =>
  rw[e]at h
  obtain⟨h1,h2,h3,h4⟩:=Zng e
  exact⟨j,h1,h,h2,h3,h4⟩
theorem ZaY {α:Type}{xs:List α}{j:Nat}{v:α} (h:xs[j]?=some v):atI xs (j:Int)=some v:=by
 have hj:j<xs.length:=(Yx.mp h).1
 have e:ixN xs.length (j:Int)=some j:=by
  unfold ixN
  rw[Yd (by omega),Yd (by omega)];simp
 unfold atI;rw[e];exact h
noncomputable def Zr5 (b:Expr):Prop:=∀o i,subscripted b false o i=operate [o,i] (getItem o i)
noncomputable def IxR (X:Cx) (r:R2):Prop :=
 ∀(value slice:Expr) (pins:List (Addr×Obj)) (s:Shared) (σ:St) (H:Hp) (x y:V) (v u:Value) (Q:VK),Inv X pins σ H s->RelV x v->RelV y u->r x y H Q ->
  subscripted slice false v u=operate [v,u] (getItem v u)->wpAny (model X.prog X.w) X.A (subscriptTail value slice v u) (EP X pins σ Q) X.xe s
noncomputable def MtR (X:Cx) (id:String) (r:V->List V->Hp->VK->Prop):Prop :=
 ∀(pins:List (Addr×Obj)) (s:Shared) (σ:St) (H:Hp) (x:V) (xs:List V) (v:Value) (us:List Value) (Q:VK),Inv X pins σ H s->RelV x v->Vals xs us->r x xs H Q ->
  wpAny (model X.prog X.w) X.A (call (.builtin id) (v::us)) (EP X pins σ Q) X.xe s
section
variable {X:Cx}{a b:Expr}{ta tb:TE}{pos:Pos}
theorem IxR.or {r r':R2} (h:IxR X r) (h':IxR X r'):IxR X (λx y H Q=>r x y H Q\/r' x y H Q):=by
 intro value slice pins s σ H x y v u Q I rx ry q hs
 rcases q with q|q
 ·exact h value slice pins s σ H x y v u Q I rx ry q hs
 ·exact h' value slice pins s σ H x y v u Q I rx ry q hs
theorem Zw {r:R2} (hr:IxR X r) (ha:PE X a ta) (hb:PE X b tb) (hs:Zr5 b):PE X (.Subscript a b pos) (tOp r ta tb):=by
 intro pins s σ H Q I h
 exact Subscript_ (binT ha hb I h λv u s2 x y H2 I2 rx ry q=>hr a b pins s2 σ H2 x y v u Q I2 rx ry q (hs _ _))
noncomputable def Zl4 (K:PySem.W.Frag):R2:=λx y H Q=>∃p xs i v,x=.ref p/\y=.int i/\SqL K H p xs/\atI xs i=some v/\Q v H
noncomputable def ZjL (K:PySem.W.Frag):R2:=λx y H Q=>∃p xs i v,x=.ref p/\y=.int i/\SqT K H p xs/\atI xs i=some v/\Q v H
theorem Zv:IxR X (Zl4 X.K):=by
 intro value slice pins s σ H x y v u Q I rx ry h hs
 obtain⟨p,xs,i,z,rfl,rfl,hq,he,q⟩:=h
 cases rx
 obtain⟨t,rfl⟩:=ry
 obtain⟨its,r,pl,hz⟩:=I.list hq
 obtain⟨j,h1,h2,h3,h4,h5⟩:=Znh he
 obtain⟨w,ew,rw'⟩:=r.get h2
 have hl:=r.length
 have hn:=ZjI
 have fin:EP X pins σ Q w s:=⟨z,H,I,rw',q⟩
 by_cases h0:0<=i
 ·have hj:i.toNat=j:=by
   rw[seqIndex_of h0 h5]at h1
   exact YN h1
  exact item_listR pl.isList h0 (by omega) (by rw[hj];simpa using ew) fin hs
 ·have hj:(i+(its.toArray.size:Int)).toNat=j:=by
   rw[seqIndex_neg (by omega) h4]at h1
   rw[Yv,<-hl]
   exact YN h1
  exact subscriptTail_builtinR (x:=w) pl.isList.typeIs slot_list_getitem.lookup
   (wpAny_getItem_list_neg (Q:=λr s'=>r=w/\EP X pins σ Q r s') pl.isList (by omega) (by rw[Yv]<;>omega) (by omega) (by rw[hj];simpa using ew) ⟨rfl,fin⟩) hs
theorem Zaa:IxR X (ZjL X.K):=by
 intro value slice pins s σ H x y v u Q I rx ry h hs
 obtain⟨p,xs,i,z,rfl,rfl,hq,he,q⟩:=h
 cases rx
 obtain⟨t,rfl⟩:=ry
 obtain⟨its,r,pl,hz⟩:=I.tuple hq
 obtain⟨j,h1,h2,h3,h4,h5⟩:=Znh he
 obtain⟨w,ew,rw'⟩:=r.get h2
 have hl:=r.length
 have hn:=ZjI
 have fin:EP X pins σ Q w s:=⟨z,H,I,rw',q⟩
 exact subscriptTail_builtinR (x:=w) pl.typeIs slot_tuple_getitem.lookup
  (getItem_tuple (j:=j) (Q:=λr s'=>r=w/\EP X pins σ Q r s') pl (by omega) (by omega) (by rw[Yv,<-hl];exact h1) (by simpa using ew) ⟨rfl,fin⟩) hs
theorem Zl5 (its:List Value) (n j:Nat) (u:Value):Obj.mapSeq (·.setIfInBounds j u) {cls:=.type "list",data:=.seq its.toArray n}={cls:=.type "list",data:=.seq (its.set j u).toArray n}:=by
 simp[Obj.mapSeq]
theorem Inv.lst {pins:List (Addr×Obj)}{σ:St}{H:Hp}{s:Shared}{p:Addr}{xs:List V} (I:Inv X pins σ H s) (h:H p=some (.lst xs)) :
  ∃(its:List Value) (n:Nat),Vals xs its/\s.heap.get? p=some {cls:=.type "list",data:=.seq its.toArray n}/\xs.length<=sizeLine:=by
 obtain⟨z,its,n,r,e⟩:=I.hok p _ h
 exact⟨its,n,r,e,z⟩
theorem Inv.lstUpd {pins:List (Addr×Obj)}{σ:St}{H:Hp}{s:Shared}{p:Addr}{xs ys:List V}{its its':List Value}{n n':Nat}{f:Obj->Obj} (I:Inv X pins σ H s) (h:H p=some (.lst xs))
  (ho:s.heap.get? p=some {cls:=.type "list",data:=.seq its.toArray n}) (hf:f {cls:=.type "list",data:=.seq its.toArray n}={cls:=.type "list",data:=.seq its'.toArray n'}) (r:Vals ys its') (hz:ys.length<=sizeLine) (t:Nat) :
  Inv X pins σ (upd H p (.lst ys)) {s with heap:=s.heap.update p f,toks:=t}:=by
 have e:(s.heap.update p f).get? p=some {cls:=.type "list",data:=.seq its'.toArray n'}:=by
  rw[Heap.get?_update_self f ho (by rw[hf]<;>rfl),hf]
 refine I.write (x:=p) (e:=p) (by rw[h];trivial) (.inl rfl) (λb u hb q=>(Heap.get?_update_other _ _ (Ne.symm hb)).trans q) ⟨_,e⟩ ?_
 exact⟨hz,its',n',r,e⟩
noncomputable def ZpO:V->V->V->Hp->(Hp->Prop)->Prop:=λo i v H Q=>∃p xs k j,o=.ref p/\i=.int k/\H p=some (.lst xs)/\ixN xs.length k=some j/\Q (upd H p (.lst (xs.set j v)))
theorem set_list:PSet X ZpO:=by
 intro pins s σ H o i v ov iv u Q I ro ri rv h
 obtain⟨p,xs,k,j,rfl,rfl,hp,hj,q⟩:=h
 cases ro
 obtain⟨t,rfl⟩:=ri
 obtain⟨its,n,r,ho,hz⟩:=I.lst hp
 obtain⟨h1,h2,h3,h4⟩:=Zng hj
 have hl:=r.length
 have hn:=ZjI
 have I':Inv X pins σ (upd H p (.lst (xs.set j v))) {s with heap:=s.heap.update p (Obj.mapSeq (·.setIfInBounds j u))} :=
  I.lstUpd hp ho (Zl5 its n j u) (r.set rv j) (by rw[List.length_set];exact hz) s.toks
 by_cases h0:0<=k
 ·have hk:k.toNat=j:=by
   rw[seqIndex_of h0 h4]at h1
   exact YN h1
  exact PySem.W.ki_setAt ho h0 (by omega) (by rw[Yv,<-hl];exact h4) (by rw[hk];exact⟨_,I',q⟩)
 ·have hk:(k+(its.toArray.size:Int)).toNat=j:=by
   rw[seqIndex_neg (by omega) h3]at h1
   rw[Yv,<-hl]
   exact YN h1
  exact PySem.W.ki_setBack ho (by omega) (by rw[Yv,<-hl];exact h3) (by omega) (by rw[hk];exact⟨_,I',q⟩)
noncomputable def flatV:V->Bool
 |.non=>true
 |.bl _=>true
 |.int _=>true
 |.str _=>true
 |_=>false
noncomputable def eqV:V->V->Bool
 |.non,.non=>true
 |.bl a,.bl b=>a==b
 |.bl a,.int b=>(if a then 1 else 0)==b
 |.int a,.bl b=>a==(if b then 1 else 0)
 |.int a,.int b=>a==b
 |.str a,.str b=>a==b
 |_,_=>false
theorem ZpP {A:Around}{s:Shared}{y x:V}{u v:Value} (ry:RelV y u) (rx:RelV x v) (fy:flatV y=true) (fx:flatV x=true):SeqAt.EqAt A s u v (eqV y x):=by
 cases y with
 |non =>
  cases ry
  cases x with
  |non=>cases rx;exact SeqAt.EqAt.same _
  |bl b=>cases rx;exact SeqAt.EqAt.none_bool b
  |int b=>obtain⟨t,rfl⟩:=rx;exact SeqAt.EqAt.none_int b t
  |str b=>obtain⟨t,rfl⟩:=rx;exact SeqAt.EqAt.none_str b t
  |_=>exact absurd (show false=true from fx) YK
 |bl a =>
  cases ry
  cases x with
  |non=>cases rx;exact SeqAt.EqAt.bool_none a
  |bl b=>cases rx;exact SeqAt.EqAt.bool_bool a b
  |int b=>obtain⟨t,rfl⟩:=rx;exact SeqAt.EqAt.bool_int a b t
  |str b=>obtain⟨t,rfl⟩:=rx;exact SeqAt.EqAt.bool_str a b t
  |_=>exact absurd (show false=true from fx) YK
 |int a =>
  obtain⟨t',rfl⟩:=ry
  cases x with
  |non=>cases rx;exact SeqAt.EqAt.int_none a t'
  |bl b=>cases rx;exact SeqAt.EqAt.int_bool a t' b
  |int b=>obtain⟨t,rfl⟩:=rx;exact SeqAt.EqAt.int_int a t' b t
  |str b=>obtain⟨t,rfl⟩:=rx;exact SeqAt.EqAt.int_str a t' b t
  |_=>exact absurd (show false=true from fx) YK
 |str a =>
  obtain⟨t',rfl⟩:=ry
  cases x with
  |non=>cases rx;exact SeqAt.EqAt.str_none a t'
  |bl b=>cases rx;exact SeqAt.EqAt.str_bool a t' b
  |int b=>obtain⟨t,rfl⟩:=rx;exact SeqAt.EqAt.str_int a t' b t
  |str b=>obtain⟨t,rfl⟩:=rx;exact SeqAt.EqAt.str_str a t' b t
  |_=>exact absurd (show false=true from fx) YK
 |_=>exact absurd (show false=true from fy) YK
noncomputable def eqU (x:V) (u:Value):Bool:=match u with
 |.none=>eqV .non x
 |.bool b=>eqV (.bl b) x
 |.int i _=>eqV (.int i) x
 |.str z _=>eqV (.str z) x
 |_=>false
theorem ZpQ {x y:V}{u:Value} (r:RelV y u) (f:flatV y=true):eqU x u=eqV y x:=by
 cases y with
 |non=>cases r;rfl
 |bl b=>cases r;rfl
 |int i=>obtain⟨t,rfl⟩:=r;rfl
 |str z=>obtain⟨t,rfl⟩:=r;rfl
 |_=>exact absurd (show false=true from f) YK
theorem ZfF {x:V}:∀{xs:List V}{us:List Value},Vals xs us->xs.all flatV=true->us.any (eqU x)=xs.any λy=>eqV y x
 |_,_,.nil,_=>rfl
 |y::xs,u::us,.cons r t,f=>by
  rw[List.all_cons,Bool.and_eq_true]at f
  rw[List.any_cons,List.any_cons,ZpQ r f.1,ZfF t f.2]
theorem Zea {A:Around}{s:Shared}{x:V}{v:Value} (rx:RelV x v) (fx:flatV x=true):∀{xs:List V}{us:List Value},Vals xs us->xs.all flatV=true->∀u∈us,SeqAt.EqAt A s u v (eqU x u)
 |_,_,.nil,_=>λu hu=>by cases hu
 |y::xs,u::us,.cons r t,f=>λu' hu=>by
  rw[List.all_cons,Bool.and_eq_true]at f
  rcases Ym.mp hu with rfl|hu
  ·rw[ZpQ r f.1];exact ZpP r rx f.1 fx
  ·exact Zea rx fx t f.2 u' hu
noncomputable def inV (x:V) (xs:List V):Bool:=xs.any λy=>eqV y x
noncomputable def rIn (K:PySem.W.Frag) (neg:Bool):R2:=λx y H Q=>∃p xs,y=.ref p/\(SqL K H p xs\/SqT K H p xs)/\flatV x=true/\xs.all flatV=true/\Q (.bl (if neg then !inV x xs else inV x xs)) H
theorem ZnZ:OpR X (compareOp .In) (rIn X.K false):=by
 intro pins s σ H x y v u Q I rx ry h
 obtain⟨p,xs,rfl,hq,fx,fs,q⟩:=h
 cases ry
 rcases hq with hq|hq
 ·obtain⟨its,r,pl,hz⟩:=I.list hq
  refine SeqAt.in_listAt (eqU x) pl.isList (λw hw=>Zea rx fx r fs w (by simpa using hw)) ⟨.bl _,H,I,rfl,?_⟩
  rw[show its.toArray.any (eqU x)=its.any (eqU x) by simp,ZfF r fs]
  exact q
 ·obtain⟨its,r,pl,hz⟩:=I.tuple hq
  refine SeqAt.in_tupleAt (eqU x) pl (λw hw=>Zea rx fx r fs w (by simpa using hw)) ⟨.bl _,H,I,rfl,?_⟩
  rw[show its.toArray.any (eqU x)=its.any (eqU x) by simp,ZfF r fs]
  exact q
theorem ZjM:OpR X (compareOp .NotIn) (rIn X.K true):=by
 intro pins s σ H x y v u Q I rx ry h
 obtain⟨p,xs,rfl,hq,fx,fs,q⟩:=h
 cases ry
 rcases hq with hq|hq
 ·obtain⟨its,r,pl,hz⟩:=I.list hq
  refine SeqAt.notIn_listAt (eqU x) pl.isList (λw hw=>Zea rx fx r fs w (by simpa using hw)) ⟨.bl _,H,I,rfl,?_⟩
  rw[show its.toArray.any (eqU x)=its.any (eqU x) by simp,ZfF r fs]
  exact q
 ·obtain⟨its,r,pl,hz⟩:=I.tuple hq
  refine SeqAt.notIn_tupleAt (eqU x) pl (λw hw=>Zea rx fx r fs w (by simpa using hw)) ⟨.bl _,H,I,rfl,?_⟩
  rw[show its.toArray.any (eqU x)=its.any (eqU x) by simp,ZfF r fs]
  exact q
theorem ZjN:ZaF X (.builtin "len") (λxs H Q=>∃p ys,xs=[.ref p]/\(SqL X.K H p ys\/SqT X.K H p ys)/\Q (.int ys.length) H):=by
 intro pins s σ H xs us Q I r h
 obtain⟨p,ys,rfl,hq,q⟩:=h
 obtain⟨u,rfl,rx⟩:=vals1 r
 cases rx
 have hn:=ZjI
 rcases hq with hq|hq
 ·obtain⟨its,r',pl,hz⟩:=I.list hq
  have hlen:=r'.length
  exact Calls.call_len_list pl.isList (by simp only[Yv]<;>omega) ⟨.int ys.length,H,I.tok _,⟨s.toks+1,by rw[Yv,hlen]⟩,q⟩
 ·obtain⟨its,r',pl,hz⟩:=I.tuple hq
  have hlen:=r'.length
  exact len_tuple pl (by simp only[Yv]<;>omega) ⟨.int ys.length,H,I.tok _,⟨s.toks+1,by rw[Yv,hlen]⟩,q⟩
theorem ZjO:ZaF X (.type "list") (λxs H Q=>∃p ys,xs=[.ref p]/\(SqL X.K H p ys\/SqT X.K H p ys)/\∀l,H l=none->Q (.ref l) (upd H l (.lst ys))):=by
 intro pins s σ H xs us Q I r h
 obtain⟨p,ys,rfl,hq,q⟩:=h
 obtain⟨u,rfl,rx⟩:=vals1 r
 cases rx
 have fin:∀(its:List Value),Vals ys its->ys.length<=sizeLine->∀(h':Heap) (c':Nat),(∀b o',s.heap.get? b=some o'->h'.get? b=some o') ->
   h'.get? s.heap.objs.size=some {cls:=.type "list",dict:=none,data:=.seq its.toArray c',slots:=#[]}->EP X pins σ Q (.ref s.heap.objs.size) {s with heap:=h'}:=λits r' hz h' c' kp e =>
  ⟨.ref s.heap.objs.size,_,I.laid (t':=s.toks) kp (Ye _) (show ZZ X.prog X.w _ h' _ (.lst ys)from⟨hz,its,c',r',e⟩),rfl,q _ (I.hok.fresh (Ye _))⟩
 rcases hq with hq|hq
 ·obtain⟨its,r',pl,hz⟩:=I.list hq
  have hlen:=r'.length
  obtain⟨o,ho,hc,n,hd⟩:=pl.isList
  exact call_list_seq p (.inl rfl) ho hc hd (λh' c' kp e=>fin its r' hz h' c' kp e) (by simp only[Yv]<;>omega)
 ·obtain⟨its,r',pl,hz⟩:=I.tuple hq
  have hlen:=r'.length
  obtain⟨o,ho,hc,n,hd⟩:=pl
  exact call_list_seq p (.inr rfl) ho hc hd (λh' c' kp e=>fin its r' hz h' c' kp e) (by simp only[Yv]<;>omega)
theorem ZiT:ZaF X (.type "tuple") (λxs H Q=>∃p ys,xs=[.ref p]/\((SqL X.K H p ys/\∀l,H l=none->Q (.ref l) (upd H l (.tup ys)))\/(SqT X.K H p ys/\Q (.ref p) H))):=by
 intro pins s σ H xs us Q I r h
 obtain⟨p,ys,rfl,h⟩:=h
 obtain⟨u,rfl,rx⟩:=vals1 r
 cases rx
 rcases h with⟨hq,q⟩|⟨hq,q⟩
 ·obtain⟨its,r',pl,hz⟩:=I.list hq
  have hlen:=r'.length
  refine call_tuple_list pl.isList (λh' kp=>?_) (by simp only[Yv]<;>omega)
  have I1:Inv X pins σ H {s with heap:=h'}:=I.kept (t':=s.toks) kp
  have I2:Inv X pins σ (upd H h'.objs.size (.tup ys)) {s with heap:=h'.push {cls:=.type "tuple",data:=.seq its.toArray}} :=
   I1.laid (t':=s.toks) (λb o e=>Yh _ e) (Ye _) (show ZZ X.prog X.w _ _ _ (.tup ys)from⟨hz,its,r',IsTup.new _ _⟩)
  exact⟨.ref h'.objs.size,_,I2,rfl,q _ (I1.hok.fresh (Ye _))⟩
 ·obtain⟨its,r',pl,hz⟩:=I.tuple hq
  exact call_tuple_same pl ⟨.ref p,H,I,rfl,q⟩
noncomputable def tyV (K:PySem.W.Frag) (T:String) (x:V) (H:Hp):Prop:=match x with
 |.str _=>T="str"
 |.int _=>T="int"
 |.ref p=>(T="list"/\∃xs,SqL K H p xs)\/(T="tuple"/\∃o,K.lookup p=some o/\o.cls=.type "tuple"/\o.dict=none) \/
   (T="dict"/\((∃kvs,H p=some (.dK kvs))\/∃kvs,H p=some (.dT kvs)))\/(T="set"/\∃S n,H p=some (.set S n))
 |_=>False
theorem ZpR {pins:List (Addr×Obj)}{σ:St}{H:Hp}{s:Shared}{T:String}{x:V}{v:Value} (I:Inv X pins σ H s) (r:RelV x v) (ty:tyV X.K T x H) :
  s.TypeIs v T/\∀a,v=.ref a->∃ob,s.heap.get? a=some ob/\ob.dict=none:=by
 cases x with
 |str z =>
  obtain⟨t,rfl⟩:=r
  cases(show T="str" from ty)
  exact⟨typeIs_str s z t,λ_ e=>nomatch e⟩
 |int i =>
  obtain⟨t,rfl⟩:=r
  cases(show T="int" from ty)
  exact⟨typeIs_int s i t,λ_ e=>nomatch e⟩
 |ref p =>
  cases r
  rcases ty with⟨rfl,xs,hq⟩|⟨rfl,o,hk,hc,hd⟩|⟨rfl,hk⟩|⟨rfl,S,n,hk⟩
  ·obtain⟨its,_,pl,_⟩:=I.list hq
   refine⟨pl.isList.typeIs,λa e=>?_⟩
   cases e
   obtain⟨o,n,e,c,hd,_⟩:=pl
   exact⟨o,e,hd⟩
  ·refine⟨⟨o,I.kIn p o hk,hc⟩,λa e=>?_⟩
   cases e
   exact⟨o,I.kIn _ o hk,hd⟩
  ·have z:∃o,s.heap.get? p=some o/\o.ExactDict:=by
    rcases hk with⟨kvs,hk⟩|⟨kvs,hk⟩
    ·obtain⟨_,_,_,_,o,_,_,e,ex,_⟩:=I.hok p _ hk
     exact⟨o,e,ex⟩
    ·obtain⟨_,_,_,_,o,_,_,e,ex,_⟩:=I.hok p _ hk
     exact⟨o,e,ex⟩
   obtain⟨o,e,ex⟩:=z
   refine⟨⟨o,e,ex.1⟩,λa e2=>?_⟩
   cases e2
   exact⟨o,e,ex.2.1⟩
  ·obtain⟨o,_,_,_,e,ex,_⟩:=I.hok p _ hk
   refine⟨⟨o,e,ex.1⟩,λa e2=>?_⟩
   cases e2
   exact⟨o,e,ex.2.1⟩
 |_=>exact False.elim ty
noncomputable def tBM0 (K:PySem.W.Frag) (T:String) (r:V->List V->Hp->VK->Prop) (to:TE):TE:=fun σ H Q=>to σ H λx H1=>tyV K T x H1/\r x [] H1 Q
noncomputable def tBM (K:PySem.W.Frag) (T:String) (r:V->List V->Hp->VK->Prop) (to:TE) (t:TA):TE:=fun σ H Q=>to σ H λx H1=>tyV K T x H1/\t σ H1 λxs H2=>r x xs H2 Q
variable {o e:Expr}{es:List Expr}{to:TE}{t:TA}{name:Str}{apos cpos:Pos}{T id:String}{r:V->List V->Hp->VK->Prop}
theorem pe_bm0 (pa:PlainAttrs T) (slot:Slot T name id) (hty:typeOf (.builtin id)=pure (.type "method_descriptor")) (hm:MtR X id r) (ho:PE X o to)
  (hbase:attributeBase o name X.env (eval o X.env)=eval o X.env:=by rfl) (hline:(apos.endLine==cpos.line)=true:=by rfl):PE X (.Call (.Attribute o name apos) [] [] cpos) (tBM0 X.K T r to):=by
 intro pins s σ H Q I h
 refine wpAny_Call_method0_late hbase hline (thn (ho pins s σ H _ I h) λv s1 ⟨x,H1,I1,r1,ty,q1⟩=>?_)
 obtain⟨h1,h2⟩:=ZpR I1 r1 ty
 exact⟨T,id,pa,slot,hty,h1,h2,Calls.callWith_builtin rfl (PySem.evalArgs_none (hm pins s1 σ H1 x [] v [] Q I1 r1 .nil q1))⟩
theorem Ze1 (pa:PlainAttrs T) (slot:Slot T name id) (hty:typeOf (.builtin id)=pure (.type "method_descriptor")) (hm:MtR X id r) (ho:PE X o to) (ha:PA X (e::es) t)
  (hbase:attributeBase o name X.env (eval o X.env)=eval o X.env:=by rfl)
  (hfew:((backTo cpos (starEach (e::es) X.env)).all (λx=>!x.1)&&(backToKw cpos (keywordEach [] X.env)).all (λx=>x.1.isSome)
   && decide ((e::es).length+([]:List Keyword).length+(if ([]:List Keyword).isEmpty then 0 else 1)<30))=true:=by rfl)
  (hline:(apos.endLine==cpos.line)=true:=by rfl) (hs:starEach (e::es) X.env=(false,eval e X.env)::starEach es X.env:=by rfl) (hplain:(backTo cpos (starEach es X.env)).any (·.1)=false:=by rfl) :
  PE X (.Call (.Attribute o name apos) (e::es) [] cpos) (tBM X.K T r to t):=by
 intro pins s σ H Q I h
 refine wpAny_Call_method_late hbase hfew hline rfl (thn (ho pins s σ H _ I h) λv s1 ⟨x,H1,I1,r1,ty,q1⟩=>?_)
 obtain⟨h1,h2⟩:=ZpR I1 r1 ty
 refine⟨T,id,pa,slot,hty,h1,h2,?_⟩
 have hA:=ha cpos pins s1 σ H1 _ I1 q1
 rw[hs]at hA⊢
 refine Calls.callWith_builtin (by show(false||(backTo cpos (starEach es X.env)).any (·.1))=false;rw[hplain]<;>rfl) (Calls.evalArgs_plain ?_)
 exact thn hA λus s2 ⟨vs,H2,I2,r2,q2⟩=>hm pins s2 σ H2 x vs v us Q I2 r1 r2 q2
end
noncomputable def MtM (X:Cx) (id:String) (r:V->List V->Hp->VK->Prop):Prop :=
 ∀(pins:List (Addr×Obj)) (s:Shared) (σ:St) (H:Hp) (x:V) (xs:List V) (v:Value) (us:List Value) (Q:VK),Inv X pins σ H s->RelV x v->Vals xs us->r x xs H Q ->
  wpAny (model X.prog X.w) X.A (call (.builtin id) (v::us)) (EP X pins σ Q) X.xe s
theorem Vals.one:∀{x:V}{us:List Value},Vals [x] us->∃u,us=[u]/\RelV x u
 |_,_,.cons r .nil=>⟨_,rfl,r⟩
theorem Vals.two:∀{x y:V}{us:List Value},Vals [x,y] us->∃u v,us=[u,v]/\RelV x u/\RelV y v
 |_,_,_,.cons r (.cons q .nil)=>⟨_,_,rfl,r,q⟩
theorem Vals.zero:∀{us:List Value},Vals [] us->us=[]
 |_,.nil=>rfl
theorem Vals.dropLast {xs:List V}{us:List Value} (h:Vals xs us):Vals xs.dropLast us.dropLast:=by
 induction h with
 |nil=>exact .nil
 |cons r t ih =>
  cases t with
  |nil=>exact .nil
  |cons q t'=>exact .cons r ih
theorem Vals.rep {xs:List V}{us:List Value} (h:Vals xs us):∀k:Nat,Vals (List.replicate k xs).flatten (List.replicate k us).flatten
 |0=>.nil
 |k+1=>by
  rw[List.replicate_succ,List.replicate_succ,List.flatten_cons,List.flatten_cons]
  exact Vals.append h (Vals.rep h k)
theorem Zl6 {α:Type} (l:List α):l.eraseIdx (l.length-1)=l.dropLast:=by
 induction l with
 |nil=>rfl
 |cons a r ih =>
  cases r with
  |nil=>rfl
  |cons b r =>
   have e:(a::b::r).length-1=((b::r).length-1)+1:=by
    have h1:(a::b::r).length=r.length+2:=rfl
    have h2:(b::r).length=r.length+1:=rfl
    omega
   rw[e,List.eraseIdx_cons_succ,ih]
   all_goals rfl
theorem foldl_rep (its:List Value):∀(k:Nat) (acc:List Value),
  List.foldl (λx1 x2=>x1++x2) acc.toArray (List.replicate k its.toArray)=(acc++(List.replicate k its).flatten).toArray
 |0,acc=>by simp
 |k+1,acc=>by
  have e:acc.toArray++its.toArray=(acc++its).toArray:=by simp
  have e2:(acc++its)++(List.replicate k its).flatten=acc++(List.replicate (k+1) its).flatten:=by
   rw[List.replicate_succ,List.flatten_cons,YT]
  rw[<-e2,<-foldl_rep its k (acc++its),<-e,List.replicate_succ,List.foldl_cons]
section
variable {X:Cx}{pins:List (Addr×Obj)}{σ:St}{H:Hp}{s:Shared}{l b:Addr}{xs ys zs:List V}
theorem Inv.lset {its its':List Value}{n:Nat}{f:Array Value->Array Value}{t':Nat} (I:Inv X pins σ H s) (hH:H l=some (.lst xs))
  (e:s.heap.get? l=some {cls:=.type "list",data:=.seq its.toArray n}) (hf:f its.toArray=its'.toArray) (hv:Vals ys its') (hz:ys.length<=sizeLine) :
  Inv X pins σ (upd H l (.lst ys)) {s with heap:=s.heap.update l (Obj.mapSeq f),toks:=t'}:=by
 have q:=PySem.IsL.update e f
 rw[hf]at q
 refine I.write (x:=l) (e:=l) (by rw[hH];exact trivial) (.inl rfl) (λb' u hb hu=>(Heap.get?_update_other s.heap (Obj.mapSeq f) (Ne.symm hb)).trans hu) ⟨_,q⟩ ?_
 exact⟨hz,its',_,hv,q⟩
theorem Inv.lnew {its:List Value}{t':Nat} (I:Inv X pins σ H s) (hv:Vals ys its) (hz:ys.length<=sizeLine) :
  Inv X pins σ (upd H s.heap.objs.size (.lst ys)) {s with heap:=s.heap.push {cls:=.type "list",data:=.seq its.toArray},toks:=t'} :=
 I.laid (λ_ _ q=>Yh _ q) (Ye _) ⟨hz,its,0,hv,Yt _ rfl⟩
theorem Inv.fresh (I:Inv X pins σ H s):H s.heap.objs.size=none:=I.hok.fresh (Ye _)
theorem Inv.lstM (I:Inv X pins σ H s) (hH:H l=some (.lst xs)):xs.length<=sizeLine/\∃(its:List Value) (n:Nat),Vals xs its/\xs.length=its.length/\s.heap.get? l=some {cls:=.type "list",data:=.seq its.toArray n}:=by
 obtain⟨z,its,n,r,e⟩:=I.hok l _ hH
 exact⟨z,its,n,r,r.length,e⟩
theorem ZpS {n:Nat} (h:n<=sizeLine):Builtin.List.listTooLong n=false:=by
 unfold Builtin.List.listTooLong
 exact YS (by omega)
end
section
variable {X:Cx}
noncomputable def ZjP:V->List V->Hp->VK->Prop:=λx vs H Q=>∃l xs y,x=.ref l/\vs=[y]/\H l=some (.lst xs)/\xs.length<sizeLine/\Q .non (upd H l (.lst (xs++[y])))
theorem Zaq:MtM X "list.append" ZjP:=by
 intro pins s σ H x vs v us Q I rx rv h
 obtain⟨l,xs,y,rfl,rfl,hH,hz,q⟩:=h
 cases rx
 obtain⟨u,rfl,ru⟩:=rv.one
 obtain⟨z,its,n,r,hl,e⟩:=I.lstM hH
 refine call_meets F.slot_list_append ⟨_,e,rfl⟩ F.entry_list_append (F.args_list_append_2 _ _) (PySem.list_append l its.toArray n u (by rw[Yv];omega)) ⟨e,?_⟩
 refine⟨.non,_,I.lset (its':=its++[u]) hH e (by simp) (r.append (.cons ru .nil)) ?_,rfl,q⟩
 rw[YM,List.length_singleton]
 omega
noncomputable def rPop:V->List V->Hp->VK->Prop:=λx vs H Q=>∃l xs y,x=.ref l/\vs=[]/\H l=some (.lst xs)/\xs[xs.length-1]?=some y/\Q y (upd H l (.lst xs.dropLast))
theorem mt_pop:MtM X "list.pop" rPop:=by
 intro pins s σ H x vs v us Q I rx rv h
 obtain⟨l,xs,y,rfl,rfl,hH,hy,q⟩:=h
 cases rx
 have hus:=rv.zero
 subst hus
 obtain⟨z,its,n,r,hl,e⟩:=I.lstM hH
 obtain⟨u,hu,ru⟩:=r.get hy
 have hy':its.toArray[its.toArray.size-1]?=some u:=by
  show its.toArray[its.length-1]?=some u
  rw[<-Array.getElem?_toList,<-hl]
  exact hu
 refine call_meets F.slot_list_pop ⟨_,e,rfl⟩ F.entry_list_pop (F.args_list_pop_1 _) (MeetsSeq.list_pop_last l its.toArray n u hy' (by rw[Yv];omega)) ⟨e,?_⟩
 refine⟨y,_,I.lset (its':=its.dropLast) hH e ?_ r.dropLast ?_,ru,q⟩
 ·show its.toArray.eraseIdxIfInBounds (its.toArray.size-1)=its.dropLast.toArray
  rw[Yv,List.eraseIdxIfInBounds_toArray,Zl6]
 ·rw[List.length_dropLast]
  omega
noncomputable def rRep:R2:=λx y H Q=>∃l k xs,x=.ref l/\y=.int k/\H l=some (.lst xs)/\-(2 ^ 63)<=k/\k<2 ^ 63/\xs.length*k.toNat<=sizeLine /\
 ∀p,H p=none->Q (.ref p) (upd H p (.lst (List.replicate k.toNat xs).flatten))
theorem len_rep {α:Type} (xs:List α) (k:Nat):(List.replicate k xs).flatten.length=k*xs.length:=by
 induction k with
 |zero=>simp
 |succ k ih=>rw[List.replicate_succ,List.flatten_cons,YM,ih,Nat.succ_mul,Nat.add_comm]
theorem Zl7:OpR X (binaryOp .Mult) rRep:=by
 intro pins s σ H x y v u Q I rx ry h
 obtain⟨l,k,xs,rfl,rfl,hH,h1,h2,hz,q⟩:=h
 cases rx
 obtain⟨t,rfl⟩:=ry
 obtain⟨z,its,n,r,hl,e⟩:=I.lstM hH
 have hlen:its.toArray.size*k.toNat<=sizeLine:=by rw[Yv,<-hl];exact hz
 have hcap:¬ its.toArray.size*k.toNat>(2 ^ 63-1) / 8:=by
  have:(sizeLine:Nat)<=(2 ^ 63-1) / 8:=by decide
  omega
 have hfit:¬ (!Builtin.List.listFitsIndex k)=true:=by
  rw[fitsIndex_both h1 h2]
  exact YK
 have hlong:¬ Builtin.List.listTooLong (its.toArray.size*k.toNat)=true:=by
  rw[ZpS hlen]
  exact YK
 have hnew:List.foldl (λx1 x2=>x1++x2) #[] (List.replicate (if its.toArray.isEmpty=true then 0 else k.toNat) its.toArray)=(List.replicate k.toNat its).flatten.toArray:=by
  have f0:∀m:Nat,List.foldl (λx1 x2=>x1++x2) #[] (List.replicate m its.toArray)=(List.replicate m its).flatten.toArray:=λm=>by
   have:=foldl_rep its m []
   rw[List.nil_append]at this
   exact this
  rw[f0]
  cases its with
  |nil=>simp
  |cons a r'=>rw[Yb (by simp)]
 refine wpAny_binaryOp_repeat_ref (T:="list") (U:="int") (by decide) ⟨_,e,rfl⟩ (λs'=>typeIs_int s' k t) noFill_list_mul F.fills_int_mul F.slot_int_rmul repeat_list F.slot_int_index.lookup
  (call_meets F.slot_int_rmul (typeIs_int s k t) F.entry_int_rmul (F.args_int_rmul_2 _ _) (int___rmul___int_list k t l its.toArray n)
   ⟨e,rfl,⟨_,e,rfl⟩,call_meets F.slot_list_mul ⟨_,e,rfl⟩ F.entry_list_mul (F.args_list_mul_2 _ _) (AutoListH.list___mul___list_int_3 l its.toArray n k t hfit hcap hlong) ⟨e,?_⟩⟩)
 rw[hnew]
 exact⟨.ref _,_,I.lnew (t':=s.toks) (r.rep k.toNat) (by rw[len_rep,Nat.mul_comm];exact hz),rfl,q _ I.fresh⟩
end
end L2
namespace Att
open PySem PySem.W PySem.Calls PyProof.Rows
theorem Zg7 {P:Params}{h:Heap}:∀(ns:List Int) (vs:List Value),WellAll P h vs (ns.map WData.int)->IntsAre vs ns:=by
 intro ns
 induction ns with
 |nil =>
  intro vs w
  rw[List.map_nil]at w
  cases w
  exact .nil
 |cons n ns ih =>
  intro vs w
  rw[YH]at w
  cases w with
  |cons a b =>
   cases a
   exact .cons _ _ (ih _ b)
theorem Zn0 {l:OpenLaw}{n:Nat} (hn:l.most=some n) {P:Params}{h:Heap}{args:List WData}{vals:List Value}
  (hpre:l.row.toRowW.claim.pre args=true) (hwl:WellAll P h vals args) :
  ∃a vs ns,vals=[Value.ref a]/\args=[WData.list (ns.map WData.int)]/\h.get? a=some {cls:=.type "list",data:=.seq vs.toArray}/\IntsAre vs ns/\ns.length<=n:=by
 have hsh:WShape.hasAll [] args [.list .int]=true:=(pre_splitW hpre).1
 have hc:l.pre.holds [] {args:=args}=true:=(pre_splitW hpre).2
 obtain⟨d,r,rfl,h1,h2⟩:=hasAllW_cons hsh
 obtain rfl:=hasAllW_nil h2
 obtain⟨xs,rfl,h3⟩:=hasW_list h1
 obtain⟨ns,rfl⟩:=items_int h3
 have hlen:ns.length<=n:=by
  unfold OpenLaw.pre at hc
  have h4:(WTm.not (.lt (.lit (.int (n:Int))) (.len (.arg 0)))).holds [] {args:=[.list (ns.map .int)]}=true:=by
   have h4:=(holds_andW hc).1
   rw[hn]at h4
   exact h4
  have h5:=condW_of h4 (w_not (w_lt w_lit (w_len_list (w_arg rfl))))
  rw[Yf]at h5
  refine Nat.le_of_not_lt λq=>?_
  have q':(n:Int)<((ns.length:Nat):Int):=by omega
  first
   |(rw[YB q']at h5;exact absurd h5 (by decide))
   |(simp at h5;omega)
 cases hwl with
 |cons w1 w2 =>
  cases w2
  cases w1 with
  |list ho hall=>exact⟨_,_,ns,rfl,rfl,ho,Zg7 ns _ hall,hlen⟩
theorem Zn1 (l:OpenLaw) (args:List WData):l.row.toRowW.claim.post args (.bool true) args=true :=
 postW_of (r:=l.row.toRowW) (X:=(true==true))
  (show WShape.has [] (.bool true) .bool=true by first|rfl|decide|simp[WShape.has,WShape.arms,WShape.armsAll])
  (show(WTm.eq .res (.lit (.bool true))).value [] {args:=args,res:=some (.bool true),after:=args}=some (.bool (true==true))from w_eq_bool (w_res rfl) w_lit) rfl
theorem ZkL {l:OpenLaw}{n:Nat}{q:Program}{loose:List Str}{XP:(Str->Option Value)->Heap->Prop}{YP:World->Heap->Prop}{d:DefRec}
  (hn:l.most=some n) (hdf:d.params.defaults=[])
  (call:∀(w:World) (s₀ s₁:Shared) (mg mb:Str->Option Value) (fa:Addr) (o:Obj) (pm cd doc:Value) (a:Addr) (vs:List Value) (ns:List Int),
   Ground q loose [] XP w s₀ mg mb s₁.heap->YP w s₁.heap ->
   s₁.heap.get? fa=some o->o.data=.func (docDef d.name d.params d.body d.scope pm cd doc)->s₁.heap.CodeRec cd d.name->mg d.name=some (.ref fa) ->
   s₁.heap.get? a=some {cls:=.type "list",data:=.seq vs.toArray}->IntsAre vs ns->ns.length<=n->s₁.gens=#[] ->
   codeAny (model l.prog w) callerA (.call (.ref fa) ⟨[.ref a],[]⟩) (λr s'=>r=.ok (.ret (.bool true))/\OldK s₁.heap s'.heap/\s'.os=s₁.os/\AllBare s'.gens) s₁) :
  WalkO q loose XP YP l.row.toRowW d [] (λf vs=>PySem.call f vs):=by
 intro w s₀ s₁ mg mb G Y fa o pm cd doc dV kV ho hd hcd hD hmg hg args vals as hpre hlay hrd hwl hlo
 obtain rfl:dV=.none:=Dflts.none hD hdf
 obtain rfl:kV=.none:=Dflts.noKw hD
 obtain⟨a,vs,ns,rfl,rfl,hobj,hints,hlen⟩:=Zn0 hn hpre hwl
 refine enter_call (codeAny_mono (call w s₀ s₁ mg mb fa o pm cd doc a vs ns G Y ho (fd_plain hd) hcd hmg hobj hints hlen hg) λr s' hq=>?_)
 obtain⟨rfl,h2,h3,h4⟩:=hq
 exact⟨.inl ⟨.bool true,.bool true,[],rfl,λ_=>rfl,.bool true,Zn1 l _,λ_=>⟨List.Pairwise.nil,λ_ hm=>(nomatch hm)⟩⟩,h2,h3,h4⟩
end Att
namespace L2
open PySem PySem.Spec PyProof.Rows
theorem ZeP:∀{vs:List Value}{ns:List Int},IntsAre vs ns->Vals (ns.map V.int) vs
 |_,_,.nil=>.nil
 |_,_,.cons n t h=>.cons ⟨t,rfl⟩ (ZeP h)
noncomputable def defArgs (s:Stmt):Arguments:=match s with
 |.FunctionDef _ a _ _ _ _ _ _ _ _=>a
 |_=>{posonlyargs:=[],args:=[],vararg:=none,kwonlyargs:=[],kw_defaults:=[],kwarg:=none,defaults:=[]}
noncomputable def defBody (s:Stmt):List Stmt:=match s with
 |.FunctionDef _ _ b _ _ _ _ _ _ _=>b
 |_=>[]
noncomputable def defScope (s:Stmt):Scope:=match s with
 |.FunctionDef _ _ _ _ _ _ sc _ _ _=>sc
 |_=>{kind:=.function,names:=[],isGenerator:=false,isCoroutine:=false}
noncomputable abbrev E0:XK:=λ_ _ _=>False
structure Fun (K:PySem.W.Frag) (x qual:Str) (st:Stmt) (f:Addr) (fd:FuncData):Prop where
 ex:∃(oc:Value) (od:Option Addr) (kV doc pm:Value) (an:Option Addr) (cdv ct:Value) (osl:Array (Option Value)),
  fd=PySem.W.fnOf x qual (defArgs st) (defBody st) (defScope st) .none kV doc pm an cdv ct/\K.lookup f=some ⟨oc,od,.func fd,osl⟩/\PySem.W.codeIn K cdv qual=true
 kp:PySem.W.keepIn K (.ref f)=true
section
variable {P:Program}{w:World}{K:PySem.W.Frag}{mg:Str->Option Value}{base:Heap}
theorem Fun.binds {x qual:Str}{st:Stmt}{f:Addr}{fd:FuncData}{ps:List Str} (F:Fun K x qual st f fd)
  (h:∀(kV doc pm:Value) (an:Option Addr) (cdv ct:Value) (us:List Value),us.length=ps.length->bindArgs (PySem.W.fnOf x qual (defArgs st) (defBody st) (defScope st) .none kV doc pm an cdv ct) ⟨us,[]⟩=pure (ps.zip us)):Binds K fd ps []:=by
 obtain⟨oc,od,kV,doc,pm,an,cdv,ct,osl,rfl,lk,hcd⟩:=F.ex
 exact .all (h kV doc pm an cdv ct)
theorem ZO {x qual:Str}{st:Stmt}{f:Addr}{oc:Value}{od an:Option Addr}{osl:Array (Option Value)}{kV doc pm cdv ct:Value} (l:K.lookup f=some ⟨oc,od,.func (PySem.W.fnOf x qual (defArgs st) (defBody st) (defScope st) .none kV doc pm an cdv ct),osl⟩)
  (c:PySem.W.codeIn K cdv qual=true) (k:PySem.W.keepIn K (.ref f)=true):Fun K x qual st f (PySem.W.fnOf x qual (defArgs st) (defBody st) (defScope st) .none kV doc pm an cdv ct):=⟨⟨oc,od,kV,doc,pm,an,cdv,ct,osl,rfl,l,c⟩,k⟩
end
theorem ZfG {A:Around}{k:Nat} (hr:Room k A):A.units+1<cLine:=YF (Nat.add_le_add_left (by decide:1<=64) _) hr.units
section
variable {X:Cx}
theorem pv (i:Nat) {x:Str}{pos:Pos} (hN:X.N[i]?=some x:=by rfl) (hv:Vis X.env.scope x:=by first|exact Or.inl rfl|exact Or.inr (Or.inl rfl)|exact Or.inr (Or.inr rfl)) (hd:(x==("__debug__":Str))=false:=by decide)
  (hcd:(x==("__classdict__":Str))=false:=by decide):PE X (.Name x pos) (Zfd i):=pe_var hN hv hd hcd
end
theorem Z1 {c A B:Prop} [Decidable c] (h1:c->A) (h2:¬ c->B):if c then A else B:=by
 by_cases h:c
 ·rw[Yd h]
  exact h1 h
 ·rw[Yb h]
  exact h2 h
noncomputable def Ze (H H':Hp):Prop:=∀b o,H b=some o->H' b=some o
theorem Ze.refl (H:Hp):Ze H H:=λ_ _ h=>h
theorem Ze.trans {H H1 H2:Hp} (a:Ze H H1) (b:Ze H1 H2):Ze H H2:=λc o h=>b c o (a c o h)
theorem Ze.free {H H':Hp} (e:Ze H H') {l:Addr} (h:H' l=Option.none):H l=Option.none:=by
 cases q:H l with
 |none=>rfl
 |some o =>
  rw[e l o q]at h
  cases h
theorem Ze.seq {K:PySem.W.Frag}{H H':Hp}{a:Addr}{xs:List V} (e:Ze H H') (h:SqL K H a xs):SqL K H' a xs:=by
 rcases h with(h|⟨o,h⟩)|h
 ·exact .inl (.inl (e _ _ h))
 ·exact .inl (.inr ⟨o,e _ _ h⟩)
 ·exact .inr h
theorem Zfh {env:Env}:∀(names:List (Str×NameKind)) (cs0:List (Str×Addr)),(∀y∈names,y.2=.free->∃c,env.cells.lookup y.1=some c) ->
  ∃cl,(forIn names cs0 (λ(x:Str×NameKind) r=>(do
   match x with
   |(name,kind)=>if (kind==NameKind.free)=true then do let a <-cellOf env name;pure (ForInStep.yield ((name,a)::r))else pure (ForInStep.yield r)):_->_->Sem (ForInStep (List (Str×Addr)))))=pure cl /\
   (∀p∈cl,p∈cs0\/env.cells.lookup p.1=some p.2)/\(∀p∈cs0,p∈cl)/\(∀y∈names,y.2=.free->∃c,(y.1,c)∈cl)
 |[],cs0,_=>⟨cs0,rfl,λp h=>.inl h,λp h=>h,λy h=>by cases h⟩
 |(n,k)::r,cs0,h=>by
  by_cases hk:k=.free
  ·subst hk
   obtain⟨c,hc⟩:=h (n,.free) (.head _) rfl
   obtain⟨cl,e,h1,h2,h3⟩:=Zfh r ((n,c)::cs0) λy hy=>h y (.tail _ hy)
   refine⟨cl,?_,λp hp=>?_,λp hp=>h2 p (.tail _ hp),λy hy hf=>?_⟩
   ·rw[List.forIn_cons]
    have e1:cellOf env n=pure c:=by unfold cellOf;rw[hc]
    simp only[beq_self_eq_true,if_true,e1,pure_bind]
    exact e
   ·rcases h1 p hp with q|q
    ·rcases Ym.mp q with q|q
     ·subst q;exact .inr hc
     ·exact .inl q
    ·exact .inr q
   ·rcases Ym.mp hy with q|q
    ·subst q;exact⟨c,h2 _ (.head _)⟩
    ·exact h3 y q hf
  ·obtain⟨cl,e,h1,h2,h3⟩:=Zfh r cs0 λy hy=>h y (.tail _ hy)
   refine⟨cl,?_,h1,h2,λy hy hf=>?_⟩
   ·rw[List.forIn_cons]
    have e1:(k==NameKind.free)=false:=by cases k<;>first|rfl|exact absurd rfl hk
    simp only[e1,Bool.false_eq_true,if_false,pure_bind]
    exact e
   ·rcases Ym.mp hy with q|q
    ·subst q;exact absurd hf hk
    ·exact h3 y q hf
theorem Zfi {env:Env}{scope:Scope} (h:∀y∈scope.names,y.2=.free->∃c,env.cells.lookup y.1=some c) :
  ∃cl,closureFor scope env=pure cl/\(∀x c,cl.lookup x=some c->env.cells.lookup x=some c)/\(∀y∈scope.names,y.2=.free->∃c,cl.lookup y.1=some c/\env.cells.lookup y.1=some c):=by
 obtain⟨cl,e,h1,h2,h3⟩:=Zfh (env:=env) scope.names [] h
 have up:∀x c,cl.lookup x=some c->env.cells.lookup x=some c:=λx c q=>by
  rcases h1 _ (PySem.mem_of_lookup q)with z|z
  ·cases z
  ·exact z
 refine⟨cl,?_,up,λy hy hf=>?_⟩
 ·unfold closureFor
  simp only[bind_pure_comp]at e⊢
  rw[e]
  exact pure_bind _ _
 ·obtain⟨c,hc⟩:=h3 y hy hf
  cases q:cl.lookup y.1 with
  |none=>exact absurd (List.lookup_eq_none_iff.mp q _ hc) (by simp)
  |some c'=>exact⟨c',rfl,up _ _ q⟩
noncomputable def compOk (around scope:Scope):Bool :=
 scope.kind==.function&&around.kind==.function&&scope.names.all λy=>match y.2 with
  |.local=>scope.names.lookup y.1==some .local
  |.cell=>false
  |.free=>(scope.names.lookup y.1==some .free)&&(around.names.lookup y.1==some .cell||around.names.lookup y.1==some .free)
  |_=>true
theorem ZbM {a s:Scope} (h:compOk a s=true):s.kind=.function:=by
 simp only[compOk,Bool.and_eq_true,beq_iff_eq]at h;exact h.1.1
theorem Zge {a s:Scope} (h:compOk a s=true) {y:Str×NameKind} (hy:y∈s.names):(match y.2 with
  |.local=>s.names.lookup y.1==some .local
  |.cell=>false
  |.free=>(s.names.lookup y.1==some .free)&&(a.names.lookup y.1==some .cell||a.names.lookup y.1==some .free)
  |_=>true)=true:=by
 simp only[compOk,Bool.and_eq_true]at h
 exact List.all_eq_true.mp h.2 y hy
theorem ZfH {a s:Scope} (h:compOk a s=true):∀y∈s.names,y.2=.local->s.names.lookup y.1=some .local:=λy hy e=>by
 have q:=Zge h hy
 rw[e]at q
 exact beq_iff_eq.mp q
theorem ZbN {a s:Scope} (h:compOk a s=true):∀y∈s.names,y.2≠.cell:=λy hy e=>by
 have q:=Zge h hy
 rw[e]at q
 cases q
theorem ZbO {a s:Scope} (h:compOk a s=true):∀y∈s.names,y.2=.free->a.names.lookup y.1=some .cell\/a.names.lookup y.1=some .free:=λy hy e=>by
 have q:=Zge h hy
 rw[e]at q
 simp only[Bool.and_eq_true,Bool.or_eq_true,beq_iff_eq]at q
 exact q.2
theorem Za3 {env:Env}:∀{names:List (Str×NameKind)}{x:Str}{k:NameKind},(names.map λ(n,k)=>if (k==NameKind.free&&env.scope.kind==.function&&env.kindOf n==some .cell)then (n,NameKind.cell)else (n,k)).lookup x=some k ->
  ∃k',names.lookup x=some k'/\(k=k'\/(k'=.free/\k=.cell))
 |[],_,_,h=>by simp at h
 |(n,k0)::r,x,k,h=>by
  by_cases hx:x=n
  ·subst hx
   refine⟨k0,by simp,?_⟩
   simp only[YH]at h
   split at h
   ·rename_i hc
    simp only[Bool.and_eq_true,beq_iff_eq]at hc
    simp only[List.lookup_cons_self,Option.some.injEq]at h
    exact .inr ⟨hc.1.1,h.symm⟩
   ·simp only[List.lookup_cons_self,Option.some.injEq]at h
    exact .inl h.symm
  ·have hb:(x==n)=false:=by simpa using hx
   simp only[YH]at h
   have e2:∀k1,((n,k1)::r).lookup x=r.lookup x:=λk1=>by simp[List.lookup_cons,hb]
   split at h<;>(simp only[List.lookup_cons,hb]at h;obtain⟨k',h1,h2⟩:=Za3 h;exact⟨k',by rw[e2];exact h1,h2⟩)
noncomputable def ZU (X:Cx) (Nc:List Str) (scope:Scope) (cl:List (Str×Addr)) (C:Addr) (s2:Shared) (H2:Hp) (fp:List Addr):Cx where
 prog:=X.prog
 w:=X.w
 K:=X.K
 mg:=X.mg
 base:=X.base
 A:=X.A
 N:=Nc
 s₀:=s2
 H₀:=H2
 env:=compEnvC scope cl C X.env
 outer:=X.stack
 stack:=X.stack
 ex:=fp
 fn:=λ_=>false
 calm:=X.calm
 pn:=[]
 xe:=λ_ _=>False
noncomputable def Z3 (js:List (Option Nat)) (σ:St):St:=js.map λj=>match j with
 |none=>none
 |some i=>(σ[i]?).join
noncomputable def takesC (N Nc:List Str) (scope:Scope):List (Option Nat)->Nat->Bool
 |[],i=>i==Nc.length
 |none::r,i=>takesC N Nc scope r (i+1)
 |some j::r,i=>(match Nc[i]?,N[j]? with
  |some x,some y=>x==y&&scope.names.lookup x==some .free
  |_,_=>false)&&takesC N Nc scope r (i+1)
theorem Zdw {N Nc:List Str}{scope:Scope}:∀{js:List (Option Nat)}{i:Nat},takesC N Nc scope js i=true->i+js.length=Nc.length
 |[],i,h=>by simpa[takesC]using h
 |none::r,i,h=>by
  have:=Zdw (js:=r) (i:=i+1) (by simpa[takesC]using h)
  simp only[YR];omega
 |some j::r,i,h=>by
  simp only[takesC,Bool.and_eq_true]at h
  have:=Zdw (js:=r) (i:=i+1) h.2
  simp only[YR];omega
theorem ZeQ {N Nc:List Str}{scope:Scope}:∀{js:List (Option Nat)}{i k j:Nat},takesC N Nc scope js i=true->js[k]?=some (some j)->∃x,Nc[i+k]?=some x/\N[j]?=some x/\scope.names.lookup x=some .free
 |[],i,k,j,h,e=>by simp at e
 |none::r,i,0,j,h,e=>by simp at e
 |none::r,i,k+1,j,h,e=>by
  obtain⟨x,h1,h2,h3⟩:=ZeQ (js:=r) (i:=i+1) (k:=k) (j:=j) (by simpa[takesC]using h) (by simpa using e)
  exact⟨x,by rw[<-h1];congr 1;omega,h2,h3⟩
 |some j0::r,i,0,j,h,e=>by
  simp only[takesC,Bool.and_eq_true]at h
  simp only[List.getElem?_cons_zero,Option.some.injEq]at e
  subst e
  cases e1:Nc[i]? with
  |none=>rw[e1]at h;simp at h
  |some x =>
   cases e2:N[j0]? with
   |none=>rw[e1,e2]at h;simp at h
   |some y =>
    rw[e1,e2]at h
    simp only[Bool.and_eq_true,beq_iff_eq]at h
    exact⟨x,by simpa using e1,by rw[h.1.1],h.1.2⟩
 |some j0::r,i,k+1,j,h,e=>by
  simp only[takesC,Bool.and_eq_true]at h
  obtain⟨x,h1,h2,h3⟩:=ZeQ (js:=r) (i:=i+1) (k:=k) (j:=j) h.2 (by simpa using e)
  exact⟨x,by rw[<-h1];congr 1;omega,h2,h3⟩
section
variable {X:Cx}
theorem lookup_mem {names:List (Str×NameKind)}{x:Str}{k:NameKind} (h:names.lookup x=some k):(x,k)∈names:=PySem.mem_of_lookup h
theorem ZhB {pins:List (Addr×Obj)}{σ:St}{H2:Hp}{s2:Shared}{Nc:List Str}{js:List (Option Nat)}{scope:Scope}{cl:List (Str×Addr)}{fp:List Addr}{h1:Heap}{tk:Nat}{D C:Addr}{oD:Obj}{m:Str->Option Value}
  (I:Inv X pins σ H2 s2) (hok:compOk X.env.scope scope=true) (htk:takesC X.N Nc scope js 0=true) (up:∀x c,cl.lookup x=some c->X.env.cells.lookup x=some c) (hfr:∀y∈scope.names,y.2=.free->∃c,cl.lookup y.1=some c/\X.env.cells.lookup y.1=some c)
  (hfp:∀b∈fp,FpOk X pins H2 b) (hfl:∀b∈fp,b<s2.heap.objs.size) (hD:D=s2.heap.objs.size) (hC:C=s2.heap.objs.size+1) (old:∀b o,s2.heap.get? b=some o->h1.get? b=some o) (hns:h1.Ns C m) (hoD:h1.get? D=some oD) (hdD:∀v,oD.data≠.cell v) :
  Inv (ZU X Nc scope cl C s2 H2 fp) [(D,oD)] (Z3 js σ) H2 {s2 with heap:=h1,toks:=tk}:=by
 have leC:s2.heap.objs.size<=C:=by rw[hC];exact YU _
 have leD:s2.heap.objs.size<=D:=Jb hD.symm
 have kf:∀x,((compEnvC scope cl C X.env).kindOf x=some .cell\/(compEnvC scope cl C X.env).kindOf x=some .free)->∃c,cl.lookup x=some c/\X.env.cells.lookup x=some c:=λx hx=>by
  have:∃k,(compEnvC scope cl C X.env).kindOf x=some k/\(k=.cell\/k=.free):=hx.elim (λq=>⟨_,q,.inl rfl⟩) λq=>⟨_,q,.inr rfl⟩
  obtain⟨k,e,hk⟩:=this
  obtain⟨k',h1,h2⟩:=Za3 (show(scope.names.map _).lookup x=some k from e)
  have hm:=lookup_mem h1
  have:k'=.free:=by
   rcases h2 with q|q
   ·subst q
    rcases hk with q|q
    ·subst q;exact absurd rfl (ZbN hok _ hm)
    ·exact q
   ·exact q.1
  subst this
  exact hfr _ hm rfl
 have nC:∀c x,X.env.cells.lookup x=some c->c<s2.heap.objs.size:=λc x e=>by
  obtain⟨v,q⟩:=I.cell x c e
  exact q.lt
 have noB:∀b,b∈fp->b∉frs X.stack:=λb hb q=>by
  rcases Ym.mp (I.Zfc b q)with z|z
  ·exact(hfp b hb).2.1 z
  ·exact(hfp b hb).2.2.1 z
 have okX:(ZU X Nc scope cl C s2 H2 fp).Ok:=by
  refine⟨I.ok.mod,(show scope.kind=.function from ZbM hok),I.ok.glob,I.ok.blt,?_,λx y c e1 e2=>I.ok.inj x y c (up _ _ e1) (up _ _ e2),λx hx=>?_,(λx c e=>nomatch e),I.ok.hd,I.ok.frames,.inl rfl,λb hb=>⟨?_,λx c e=>(hfp b hb).2.2.2.2.1 x c (up _ _ e)⟩,I.bs,Yo I.ok.bsz I.sz,λb o e hb=>?_,λb hb=>noB b hb,I.stack,I.Zhg⟩
  ·show s2.heap.objs.size<=C;exact leC
  ·obtain⟨c,q,_⟩:=kf x hx;exact⟨c,q⟩
  ·exact Yp (YG (hfl b hb) leC)
  ·rcases(hfp b hb).2.2.2.1 with q|q
   ·exact I.ok.noex b o e q
   ·exact absurd (YG (Yk e) (Yo I.ok.bsz q)) (YO _)
 refine⟨okX,rfl,I.bare,Un.kept old,⟨m,hns,λi x v e1 e2 e3=>?_⟩,λx c e=>?_,I.hok.fresh leC,λx c e=>I.freeC x c (up _ _ e),λp hp=>?_,I.hok.kept old,?_⟩
 ·have e2':(Z3 js σ)[i]?=some (some v):=e2
  unfold Z3 at e2'
  rw[YL]at e2'
  cases q:js[i]? with
  |none=>rw[q]at e2';cases e2'
  |some j0 =>
   cases j0 with
   |none=>rw[q]at e2';cases e2'
   |some j =>
    rw[q]at e2'
    simp only[Option.map_some,Option.some.injEq]at e2'
    have e4:σ[j]?=some (some v):=by
     cases z:σ[j]? with
     |none=>rw[z]at e2';cases e2'
     |some o=>rw[z]at e2';simp only[Option.join_some]at e2';rw[e2']
    obtain⟨y,y1,y2,y3⟩:=ZeQ htk q
    rw[Nat.zero_add]at y1
    have:x=y:=YN ((show Nc[i]?=some x from e1).symm.trans y1)
    subst this
    have hm:=lookup_mem y3
    obtain⟨c,c1,c2⟩:=hfr _ hm rfl
    have hk:=ZbO hok _ hm rfl
    obtain⟨m0,hn0,hl0⟩:=I.loc
    obtain⟨u,r,l⟩:=hl0 j x v y2 e4 (hk.elim (λz=>.inr (.inl z)) λz=>.inr (.inr z))
    refine⟨u,r,.inr ⟨?_,c,c1,?_⟩⟩
    ·rcases e3 with z|z|z
     ·obtain⟨k',w1,w2⟩:=Za3 (show(scope.names.map _).lookup x=some NameKind.local from z)
      rw[y3]at w1;cases w1
      rcases w2 with w|w
      ·cases w
      ·cases w.2
     ·exact .inl z
     ·exact .inr z
    ·rcases l with⟨lk,_⟩|⟨_,c',c3,c4⟩
     ·rcases hk with z|z
      ·rw[show X.env.kindOf x=some .cell from z]at lk;cases lk
      ·rw[show X.env.kindOf x=some .free from z]at lk;cases lk
     ·rw[c2]at c3;cases c3
      obtain⟨oc,w1,w2⟩:=c4
      exact⟨oc,old _ _ w1,w2⟩
 ·obtain⟨v,oc,w1,w2⟩:=I.cell x c (up _ _ e)
  exact⟨v,oc,old _ _ w1,w2⟩
 ·have:p=(D,oD):=by
   have hp':p∈([]++[(D,oD)]:List (Addr×Obj)):=hp
   simpa using hp'
  subst this
  refine⟨hoD,I.hok.fresh leD,(by show D≠C;rw[hD,hC];exact Yp (Nat.lt_succ_self _)),λhb=>?_,hdD⟩
  have hb':D∈frs X.stack:=hb
  obtain⟨_,o,ho,_⟩:=I.stack.mem hb'
  exact absurd (YG (Yk ho) leD) (YO _)
 ·have:=Zdw htk
  show(Z3 js σ).length=Nc.length
  unfold Z3;rw[Yf];omega
theorem Zeb {prog:Program}{w:World}{A:Around}{R:Result->Shared->Prop}{s:Shared}{elt target iter:Expr}{ifs:List Expr}{scope:Scope}{pos:Pos}{it acc:Value}{env:Env} (I:Nat->Shared->Prop)
  (turn:∀n s,I n s->wpAny (model prog w) A (pyNext it) (λr s₁=>match r with
   |none=>R (.ok .next) s₁
   |some v=>wpAny (model prog w) A (letOwnedTupleGo target it v) (λ_ s₁=>wpAny (model prog w) A (assign target env v) (λ_ s₂ =>
     wpAny (model prog w) A (forIn ifs true λc r=>if r=true then do let ok <-isTrue c env (eval c env);pure (ForInStep.yield ok)else pure (ForInStep.yield r)) (λok s₃ =>
      if ok=true then wpAny (model prog w) A (eval elt env) (λx s₄ =>
       wpAny (model prog w) A (call (.builtin "list.append") [acc,x]) (λ_ s₅=>∃m,m<n/\I m s₅) (λ_ _=>False) s₄) (λ_ _=>False) s₃
      else ∃m,m<n/\I m s₃) (λ_ _=>False) s₂) (λ_ _=>False) s₁) (λ_ _=>False) s₁) (λ_ _=>False) s)
  (n:Nat) (h:I n s) :
  codeAny (model prog w) A (.compLoop (.ListComp elt [⟨target,iter,ifs,0⟩] scope pos) 0 it acc env) R s:=by
 refine codeAny_loop rfl I (λn s hI=>?_) n h
 show wpAny _ A ((compTurn (.ListComp elt [⟨target,iter,ifs,0⟩] scope pos) 0 it acc env).onRaise (λx=>do noteFrame x env;theTreesLotGoes x)) _ _ s
 refine wpAny_noted ?_
 rw[compTurn_list]
 refine Ya (wpAny_standAt (Ya (Yy (turn n s hI) (λr s₁ h₁=>?_) λ_ _ h'=>h'.elim)))
 cases r with
 |none=>exact Yc h₁
 |some v =>
  refine Ya (Yy h₁ (λ_ s₁' h₁=>?_) λ_ _ h'=>h'.elim)
  refine Ya (Yy h₁ (λ_ s₂ h₂=>Ya (Yy h₂ (λok s₃ h₃=>?_) λ_ _ h'=>h'.elim)) λ_ _ h'=>h'.elim)
  cases ok with
  |false=>exact Yc ⟨rfl,h₃⟩
  |true =>
   exact Ya (Ya (Yy h₃ (λx s₄ h₄=>Ya (Yy h₄ (λ_ s₅ h₅=>Yc (Yc ⟨rfl,h₅⟩)) λ_ _ h'=>h'.elim)) λ_ _ h'=>h'.elim))
noncomputable def Zg8 (X:Cx) (ifs:List Expr) (t:TT):Prop :=
 ∀(pins:List (Addr×Obj)) (s:Shared) (σ:St) (H:Hp) (Q:Bool->Hp->Prop),Inv X pins σ H s->t σ H Q ->
  wpAny (model X.prog X.w) X.A (forIn ifs true λc r=>if r=true then do let ok <-isTrue c X.env (eval c X.env);pure (ForInStep.yield ok)else pure (ForInStep.yield r)) (TP X pins σ Q) X.xe s
noncomputable def Zn2:TT:=λ_ H Q=>Q true H
theorem Zaf:Zg8 X [] Zn2:=λpins s σ H Q I h=>wpAny_tests_nil ⟨H,I,h⟩
theorem Zec {c:Expr}{t:TT} (h:PT X c t):Zg8 X [c] t:=λpins s σ H Q I hq=>wpAny_tests_one (h pins s σ H Q I hq)
noncomputable def ZbU (L:List Nat) (σ σ':St):Prop:=σ'.length=σ.length/\∀k,k∉L->σ'[k]?=σ[k]?
noncomputable def Ze2 (g:TG) (L:List Nat):Prop:=∀v σ H (Q Q':St->Hp->Prop),(∀σ' H',ZbU L σ σ'->Q σ' H'->Q' σ' H')->g v σ H Q->g v σ H Q'
noncomputable def ZjQ (g:TGs) (L:List Nat):Prop:=∀v σ H (Q Q':St->Hp->Prop),(∀σ' H',ZbU L σ σ'->Q σ' H'->Q' σ' H')->g v σ H Q->g v σ H Q'
theorem ZbU.refl {L:List Nat}{σ:St}:ZbU L σ σ:=⟨rfl,λ_ _=>rfl⟩
theorem ZbU.trans {L L':List Nat}{a b c:St} (x:ZbU L a b) (y:ZbU L' b c):ZbU (L++L') a c :=
 ⟨y.1.trans x.1,λk hk=>(y.2 k λz=>hk (Yl _ z)).trans (x.2 k λz=>hk (YA _ z))⟩
theorem ZC {i:Nat}:Ze2 (ZcF i) [i]:=λv σ H Q Q' hq h=>hq _ _ ⟨by simp,λk hk=>by
 rw[List.getElem?_set_ne]
 intro z;subst z;exact hk (by simp)⟩ h
theorem ZhC:ZjQ gNil []:=λv σ H Q Q' hq h=>⟨h.1,hq _ _ ZbU.refl h.2⟩
theorem Zci {t:TG}{u:TGs}{L L':List Nat} (h1:Ze2 t L) (h2:ZjQ u L'):ZjQ (Zjb t u) (L++L'):=λv σ H Q Q' hq h=>by
 obtain⟨x,r,e,h⟩:=h
 exact⟨x,r,e,h1 _ _ _ _ _ (fun σ' H' k1 q=>h2 _ _ _ _ _ (fun σ2 H2 k2 q2=>hq _ _ (k1.trans k2) q2) q) h⟩
theorem ZhD {K:PySem.W.Frag}{n:Nat}{t:TGs}{L:List Nat} (h:ZjQ t L):Ze2 (ZnS K n t) L:=λv σ H Q Q' hq q=>by
 obtain⟨a,xs,e1,e2,e3,q⟩:=q
 exact⟨a,xs,e1,e2,e3,h _ _ _ _ _ hq q⟩
noncomputable def Zni (wi:TI) (g:TG) (tt:TT) (te:TE) (js:List (Option Nat)):TE:=fun σ H Q=>wi σ H λJ H1=>∃W:Nat->Nat->List V->Hp->Prop,(∃m,W 0 m [] H1)/\∀i m acc H,W i m acc H ->
 (J.stop i H/\acc.length<=sizeLine/\∀p,H p=none->Q (.ref p) (upd H p (.lst acc))) \/
 (J.go i H/\acc.length<sizeLine/\∀x H',J.yld i H x H'->g x (Z3 js σ) H' fun σ2 H2=>tt σ2 H2 λb H3=>if b=true then te σ2 H3 λv H4=>∃m',m'<m/\W (i+1) m' (acc++[v]) H4 else ∃m',m'<m/\W (i+1) m' acc H3)
theorem ZkM {pins:List (Addr×Obj)}{σ:St}{H:Hp}{s:Shared}{tg elt iter:Expr}{ifs:List Expr}{scope:Scope}{pos:Pos}{wi:TI}{g:TG}{tt:TT}{te:TE}{Nc:List Str}{js:List (Option Nat)}{use:Option (Value->Sem Unit)}{Q:VK}{QQ:Value->Shared->Prop}
  (hc:X.calm=true) (hok:compOk X.env.scope scope=true) (htk:takesC X.N Nc scope js 0=true) (hi:PI X tg iter wi)
  (hg:∀cl C s2 H2 fp,PG (ZU X Nc scope cl C s2 H2 fp) tg g) (ht:∀cl C s2 H2 fp,Zg8 (ZU X Nc scope cl C s2 H2 fp) ifs tt) (he:∀cl C s2 H2 fp,PE (ZU X Nc scope cl C s2 H2 fp) elt te)
  (hs:∀x,foldedSetIterable iter X.env x=pure x) {L:List Nat} (ho:Ze2 g L) (hL:(L.all λk=>js[k]?==some none)=true) (I:Inv X pins σ H s) (h:Zni wi g tt te js σ H Q)
  (fin:∀(D C:Addr) (H' H2:Hp) (s2 s':Shared) (xs:List V) (m:Str->Option Value),Inv X pins σ H2 s2->H' C=none->C=D+1->D=s2.heap.objs.size->s'.heap.Ns C m->(∀h',Heap.SameBut C s'.heap h'->Inv X pins σ (upd H' D (.lst xs)) {s' with heap:=h'})->Q (.ref D) (upd H' D (.lst xs)) ->
   compPost (model X.prog X.w) X.A X.xe use QQ (.ref D) C (.ok .next) s') :
  wpAny (model X.prog X.w) X.A (comprehension (.ListComp elt [⟨tg,iter,ifs,0⟩] scope pos) scope X.env (firstIterPos [⟨tg,iter,ifs,0⟩] pos) (newList []) false (eval iter X.env) use) QQ X.xe s:=by
 have hcells:∀y∈scope.names,y.2=.free->∃c,X.env.cells.lookup y.1=some c:=λy hy hf=>I.ok.has y.1 (ZbO hok y hy hf)
 obtain⟨cl,hcl,up,hfr⟩:=Zfi hcells
 have hk:=ZbM hok
 have hcell:=ZbN hok
 refine wpAny_comprehension_free (use:=use) rfl hs hcl hk (ZfH hok) (thn (hi pins s σ H _ I h) λv s1 h1=>thn h1 λitv s2 h2=>?_)
 obtain⟨it,fp,tn,J,H2,e,I2,T,st2,f2,W,⟨m0,w0⟩,turn⟩:=h2
 subst e
 refine wpAny_newObj_type (wpAny_newFunctionEnv hcell (by intro y hy;simp at hy) (λh₁ hns₁ hsb₁=>?_) hk)
 dsimp only at hns₁ hsb₁⊢
 generalize hH2:s2.heap.push {cls:=.type "list",dict:=none,data:=.seq ([]:List Value).toArray}=HH at hns₁ hsb₁⊢
 have hC:HH.objs.size=s2.heap.objs.size+1:=by rw[<-hH2,Heap.size_push]
 have hfl:∀b∈fp,b<s2.heap.objs.size:=λb hb=>by
  obtain⟨o,ho,_⟩:=T.obj 0 _ st2 b hb
  exact Yk ho
 have hDC:s2.heap.objs.size≠HH.objs.size:=by rw[hC];exact Yp (Nat.lt_succ_self _)
 have old:∀b o,s2.heap.get? b=some o->h₁.get? b=some o:=λb o e=>hsb₁.extBut b o (by rw[hC];exact Yp (YV (Yk e))) (Yh _ (hH2▸Yh _ e))
 have hacc:h₁.get? s2.heap.objs.size=some {cls:=.type "list",dict:=none,data:=.seq ([]:List Value).toArray}:=hsb₁.extBut _ _ hDC (Yh _ (hH2▸Yt _ rfl))
 have I4:=ZhB (Nc:=Nc) (js:=js) (tk:=s2.toks+([]:List (Str×Value)).length) I2 hok htk up hfr f2 hfl rfl hC old hns₁ hacc (by intro v z;cases z)
 have st4:tn 0 h₁:=T.keep _ _ _ st2 λb _ o e=>old b o e
 generalize hXc:ZU X Nc scope cl HH.objs.size s2 H2 fp=Xc at I4
 have hXA:Xc.A=X.A:=by rw[<-hXc];rfl
 have hXe:Xc.env=compEnvC scope cl HH.objs.size X.env:=by rw[<-hXc];rfl
 have hXp:Xc.prog=X.prog:=by rw[<-hXc];rfl
 have hXw:Xc.w=X.w:=by rw[<-hXc];rfl
 have hXx:Xc.xe=λ_ _=>False:=by rw[<-hXc];rfl
 have hXk:Xc.K=X.K:=by rw[<-hXc];rfl
 have hXcalm:Xc.calm=true:=by rw[<-hXc];exact hc
 have fpok:∀{pl:List (Addr×Obj)}{H':Hp},(∀p∈pl,s2.heap.objs.size<=p.1)->(∀b∈fp,H' b=none)->∀b∈fp,FpOk Xc pl H' b:=λ{pl H'} hpl hn b hb=>by
  have k1:b≠HH.objs.size:=Yp (by rw[hC];exact YV (hfl b hb))
  have k2:b∉frs X.stack:=λq=>by
   rcases Ym.mp (I2.Zfc b q)with z|z
   ·exact(f2 b hb).2.1 z
   ·exact(f2 b hb).2.2.1 z
  rw[<-hXc]
  refine⟨hn b hb,k1,k2,.inl hb,λx c e=>(f2 b hb).2.2.2.2.1 x c (up _ _ e),λp hp=>?_⟩
  have hp':p∈pl:=by simpa[ZU]using hp
  exact Nat.ne_of_gt (YG (hfl b hb) (hpl p hp'))
 have gX:PG Xc tg g:=hXc▸hg cl HH.objs.size s2 H2 fp
 have tX:Zg8 Xc ifs tt:=hXc▸ht cl HH.objs.size s2 H2 fp
 have eX:PE Xc elt te:=hXc▸he cl HH.objs.size s2 H2 fp
 have hs0:Xc.s₀=s2:=by rw[<-hXc];rfl
 have hh0:Xc.H₀=H2:=by rw[<-hXc];rfl
 have hfs:Xc.fs=frs X.stack:=by rw[<-hXc];rfl
 have hex:Xc.ex=fp:=by rw[<-hXc];rfl
 have loop:codeAny (model X.prog X.w) X.A (.compLoop (.ListComp elt [⟨tg,iter,ifs,0⟩] scope pos) 0 (.ref it) (.ref s2.heap.objs.size) (compEnvC scope cl HH.objs.size X.env)) (compPost (model X.prog X.w) X.A X.xe use QQ (.ref s2.heap.objs.size) HH.objs.size)
   {s2 with heap:=h₁,toks:=s2.toks+([]:List (Str×Value)).length}:=by
  refine Zeb (λn s'=>∃i acc its nn H',Inv Xc [(s2.heap.objs.size,{cls:=.type "list",dict:=none,data:=.seq (its:List Value).toArray nn})] (Z3 js σ) H' s'/\Vals acc its/\acc.length<=sizeLine/\tn i s'.heap/\(∀b∈fp,H' b=none)/\W i n acc H') ?_ m0
   ⟨0,[],[],0,H2,I4,.nil,Yr _,st4,λb hb=>(f2 b hb).1,w0⟩
  rintro n s3 ⟨i,acc,its,nn,H3,I3,va,hlen,st3,fr3,w3⟩
  have pg:∀p∈([(s2.heap.objs.size,{cls:=.type "list",dict:=none,data:=.seq its.toArray nn})]:List (Addr×Obj)),s2.heap.objs.size<=p.1:=λp hp=>by
   simp only[Ym,List.not_mem_nil,or_false]at hp
   subst hp;exact Ye _
  rcases turn i n acc H3 w3 with⟨stop,hl,qn⟩|⟨go,hl,step⟩
  ·have q:=T.done Xc hXp hXw hXk hXcalm i _ s3 (Z3 js σ) H3 (λ_ _=>False) I3 (fpok pg fr3) st3 stop
   rw[hXA]at q
   refine thn q λr s4 ⟨hr,I5⟩=>?_
   subst hr
   have hpin:=I5.pin _ (Yl _ (.head _))
   obtain⟨m5,hn5,_⟩:=I5.loc
   rw[hXe]at hn5
   refine fin _ _ H3 H2 s2 s4 acc m5 I2 (by have:=I5.free;rw[hXe]at this;exact this) hC rfl hn5 (λh' hsb=>?_) (qn _ hpin.2.1)
   have same:∀b o,b≠HH.objs.size->s4.heap.get? b=some o->h'.get? b=some o:=λb o hb e=>hsb.extBut b o hb e
   have un:=I5.base
   rw[hfs,hex,hh0,hs0]at un
   have lt:∀b o,s2.heap.get? b=some o->b<s2.heap.objs.size:=λb o e=>Yk e
   have neC:∀b o,s2.heap.get? b=some o->b≠HH.objs.size:=λb o e=>Yp (by rw[hC];exact YV (lt b o e))
   have neD:∀b o,s2.heap.get? b=some o->b≠s2.heap.objs.size:=λb o e=>Yp (lt b o e)
   have trkC:∀b o,H3 b=some o->b≠HH.objs.size:=λb o e z=>by
    have:=I5.free;rw[hXe]at this;rw[z,show H3 HH.objs.size=none from this]at e;cases e
   refine I2.Zpy (s':={s4 with heap:=h'}) (ch:=fp) (I5.os.trans (by rw[hs0])) ⟨λb o e n hb hx=>same _ _ (neC b o e) (un.keep b o e n hb hx),λb o e n hb hx=>?_,λb o e n hx=>by rw[Zg (neD b o e)];exact un.free b o e n hx,λb o e hx=>?_,λb xs e=>?_,λb o u e=>?_,λb ps e=>?_⟩ (λa o e=>?_) I5.bare λb hb=>⟨(f2 b hb).2.2.2.1,(f2 b hb).2.1,(f2 b hb).2.2.2.2.1,(f2 b hb).2.2.2.2.2⟩
   ·obtain⟨sl,z⟩:=un.slot b o e n hb hx
    exact⟨sl,same _ _ (neC b o e) z⟩
   ·obtain⟨o',z⟩:=un.there b o e hx
    exact⟨o',same _ _ (neC b o e) z⟩
   ·rw[Zg (Yp (I2.hok.lt e))];exact un.tups b xs e
   ·rw[Zg (Yp (I2.hok.lt e))];exact un.frzs b o u e
   ·obtain⟨more,z⟩:=un.tbls b ps e
    exact⟨more,by rw[Zg (Yp (I2.hok.lt e))];exact z⟩
   ·by_cases ha:a=s2.heap.objs.size
    ·subst ha
     rw[Zb]at e;cases e
     exact⟨hl,its,nn,va,same _ _ hDC hpin.1⟩
    ·rw[Zg ha]at e
     have q:=I5.hok a o e
     rw[hXp,hXw]at q
     refine q.Zfz (λb u hb z=>same b u ?_ z) (λb z=>by rw[Zg];exact z;intro y;subst y;rw[hpin.2.1]at z;cases z) (λb xs z=>by rw[Zg];exact z;intro y;subst y;rw[hpin.2.1]at z;cases z) λb o u z=>by rw[Zg];exact z;intro y;subst y;rw[hpin.2.1]at z;cases z
     rcases hb with hb|hb
     ·subst hb;exact trkC _ _ e
     ·exact trkC _ _ hb
  ·have q:=T.item Xc hXp hXw hXk hXcalm i _ s3 (Z3 js σ) H3 (λ_ _=>False) I3 (fpok pg fr3) st3 go
   rw[hXA]at q
   refine thn q λr s4 ⟨u,hr,h4⟩=>?_
   subst hr
   refine thn h4 λ_ s5 ⟨x,H5,I5,r5,y5,st5,fr5⟩=>?_
   have I5':=I5.pinned (fpok pg fr5) (T.obj _ _ st5)
   have again:∀{σ7:St}{H7:Hp}{s7:Shared}{acc7:List V}{its7:List Value}{n7:Nat}{m:Nat},Inv Xc ([(s2.heap.objs.size,{cls:=.type "list",dict:=none,data:=.seq its7.toArray n7})]++Zae fp s5.heap) σ7 H7 s7->Vals acc7 its7->acc7.length<=sizeLine->W (i+1) m acc7 H7->σ7.length=(Z3 js σ).length->(∀(k:Nat) v,(Z3 js σ)[k]?=some (some v)->σ7[k]?=some (some v)) ->
     ∃i acc its nn H',Inv Xc [(s2.heap.objs.size,{cls:=.type "list",dict:=none,data:=.seq (its:List Value).toArray nn})] (Z3 js σ) H' s7/\Vals acc its/\acc.length<=sizeLine/\tn i s7.heap/\(∀b∈fp,H' b=none)/\W i m acc H':=λ{σ7 H7 s7 acc7 its7 n7 m} I7 v7 l7 w7 hl7 hw7=>by
    refine⟨i+1,acc7,its7,n7,H7,(I7.weak hl7.symm hw7).ZbL,v7,l7,T.keep _ _ _ st5 λb hb o e=>(I7.pin (b,o) (Yl _ (Yl _ (ZaD hb e)))).1,λb hb=>?_,w7⟩
    obtain⟨o,e,d⟩:=T.obj _ _ st5 b hb
    exact(I7.pin (b,o) (Yl _ (Yl _ (ZaD hb e)))).2.1
   have keep:∀{σ6:St},ZbU L (Z3 js σ) σ6->σ6.length=(Z3 js σ).length/\∀(k:Nat) v,(Z3 js σ)[k]?=some (some v)->σ6[k]?=some (some v):=λ{σ6} hk=>⟨hk.1,λk v e=>by
    rw[hk.2 k]
    ·exact e
    ·intro z
     have q:=List.all_eq_true.mp hL k z
     simp only[beq_iff_eq]at q
     unfold Z3 at e
     rw[YL,q]at e
     cases e⟩
   have q6:=gX _ s5 (Z3 js σ) H5 x u _ I5' r5 (ho _ _ _ _ _ (fun σ' H' kk z=>And.intro kk z) (step x H5 y5))
   rw[hXe,hXA,hXp,hXw,hXx]at q6
   refine thn q6 λ_ s6 ⟨σ6,H6,I6,k6,q6⟩=>?_
   obtain⟨kl,kv⟩:=keep k6
   have q7:=tX _ s6 σ6 H6 _ I6 q6
   rw[hXe,hXA,hXp,hXw,hXx]at q7
   refine thn q7 λb s7 ⟨H7,I7,q7⟩=>?_
   cases b with
   |false =>
    obtain⟨m',hm,w7⟩:=q7
    exact⟨m',hm,again I7 va hlen w7 kl kv⟩
   |true =>
    have q8:=eX _ s7 σ6 H7 _ I7 q7
    rw[hXe,hXA,hXp,hXw,hXx]at q8
    refine thn q8 λy s8 ⟨v8,H8,I8,r8,m',hm,w8⟩=>?_
    have pinD:=I8.pin _ (Yl _ (YA _ (.head _)))
    have hnf:∀p∈Zae fp s5.heap,p.1≠s2.heap.objs.size:=λp hp=>by
     obtain⟨z,_⟩:=ZeO hp
     exact Yp (hfl _ z)
    have va':=va.length
    refine call_meets F.slot_list_append ⟨_,pinD.1,rfl⟩ F.entry_list_append (F.args_list_append_2 _ _) (PySem.list_append s2.heap.objs.size its.toArray nn y (by rw[Yv];omega)) ⟨pinD.1,?_⟩
    have e9:=PySem.IsL.update pinD.1 (λa=>a.push y)
    have e9':its.toArray.push y=(its++[y]).toArray:=by simp
    dsimp only at e9
    rw[e9']at e9
    have I8':Inv Xc (Zae fp s5.heap) σ6 H8 s8:=I8.ZX λp hp=>I8.pin p (Yl _ (Yl _ hp))
    have hXpn:Xc.pn=[]:=by rw[<-hXc];rfl
    have hXs:s2.heap.objs.size∉frs X.stack:=by rw[<-hfs];exact pinD.2.2.2.1
    have I9:=I8'.turned (t':=s8.toks) (it:=s2.heap.objs.size) (h':=s8.heap.update s2.heap.objs.size (Obj.mapSeq λa=>a.push y)) (λb o hb e=>(Heap.get?_update_other s8.heap _ (Ne.symm hb)).trans e) pinD.2.1 pinD.2.2.1
     (.inr (by rw[hs0];exact Ye _)) (λx c e=>by
      rw[hXe]at e
      intro z
      obtain⟨v,q⟩:=I2.cell x c (up _ _ e)
      exact absurd q.lt (by rw[z];exact YO _)) (λp hp=>by rw[hXpn,List.nil_append]at hp;exact hnf p hp)
    have I10:=I9.ZX (pins':=[(s2.heap.objs.size,{cls:=.type "list",dict:=none,data:=.seq (its++[y]).toArray _})]++Zae fp s5.heap) λp hp=>by
     rcases Yq.mp hp with z|z
     ·simp only[Ym,List.not_mem_nil,or_false]at z
      subst z
      exact⟨e9,pinD.2.1,pinD.2.2.1,pinD.2.2.2.1,by intro v z;cases z⟩
     ·exact I9.pin p (Yl _ z)
    exact⟨m',hm,again I10 (va.append (.cons r8 .nil)) (by rw[YM,List.length_singleton];omega) w8 kl kv⟩
 exact codeAny_compStart_list loop (T.self _ 0 _ _ _ st4 loop)
theorem Zb8 {tg elt iter:Expr}{ifs:List Expr}{scope:Scope}{pos:Pos}{wi:TI}{g:TG}{tt:TT}{te:TE} (Nc:List Str) (js:List (Option Nat)) {L:List Nat}
  (hc:X.calm=true) (hok:compOk X.env.scope scope=true) (htk:takesC X.N Nc scope js 0=true) (hi:PI X tg iter wi)
  (hg:∀cl C s2 H2 fp,PG (ZU X Nc scope cl C s2 H2 fp) tg g) (ht:∀cl C s2 H2 fp,Zg8 (ZU X Nc scope cl C s2 H2 fp) ifs tt) (he:∀cl C s2 H2 fp,PE (ZU X Nc scope cl C s2 H2 fp) elt te)
  (ho:Ze2 g L) (hL:(L.all λk=>js[k]?==some none)=true:=by rfl) (hs:∀x,foldedSetIterable iter X.env x=pure x:=by intro _;rfl):PE X (.ListComp elt [⟨tg,iter,ifs,0⟩] scope pos) (Zni wi g tt te js):=by
 intro pins s σ H Q I h
 rw[eval_ListComp]
 exact ZkM (use:=none) hc hok htk hi hg ht he hs ho hL I h λD C H' H2 s2 s' xs m I2 hHC e1 e2 hn hI q=>⟨m,hn,λh' hsb=>⟨.ref D,_,hI h' hsb,rfl,q⟩⟩
theorem ZfI {C:Addr}{h:Heap}:Heap.SameBut C h h:=by
 first|exact Heap.SameBut.refl|exact⟨rfl,λ_ _=>rfl⟩
theorem Zdx {i:Nat}{x:Str}{pos' spos:Pos}{tg elt iter:Expr}{ifs:List Expr}{scope:Scope}{pos:Pos}{wi:TI}{g:TG}{tt:TT}{te:TE} (Nc:List Str) (js:List (Option Nat)) {L:List Nat}
  (hN:X.N.Nodup) (hxi:X.N[i]?=some x) (hx:Loc X.env.scope x)
  (hc:X.calm=true) (hok:compOk X.env.scope scope=true) (htk:takesC X.N Nc scope js 0=true) (hi:PI X tg iter wi)
  (hg:∀cl C s2 H2 fp,PG (ZU X Nc scope cl C s2 H2 fp) tg g) (ht:∀cl C s2 H2 fp,Zg8 (ZU X Nc scope cl C s2 H2 fp) ifs tt) (he:∀cl C s2 H2 fp,PE (ZU X Nc scope cl C s2 H2 fp) elt te)
  (ho:Ze2 g L) (hL:(L.all λk=>js[k]?==some none)=true:=by rfl) (hs:∀x,foldedSetIterable iter X.env x=pure x:=by intro _;rfl)
  (hsw:swapsWith (.ListComp elt [⟨tg,iter,ifs,0⟩] scope pos) (some (.Name x pos')) spos.line X.env=pure true:=by rfl)
  (hf:X.fn x=true\/X.env.scope.names.lookup x=some .local:=by first|exact .inl rfl|exact .inr rfl|assumption) :
  PS X (.Assign [.Name x pos'] (.ListComp elt [⟨tg,iter,ifs,0⟩] scope pos) spos) (ZnT (Zni wi g tt te js) (ZcF i)):=by
 intro pins s σ H D I h
 rw[exec_Assign_Name_used _ _ _ _ hsw]
 refine Ya (wpAny_standAt (Ya ?_))
 show wpAny _ _ (comprehension _ _ _ _ _ _ _ _ >>= _) _ _ _
 refine Ya (thn (Q:=λ_ s'=>∃σ' H',Inv X pins σ' H' s'/\D.nx σ' H') (ZkM (Q:=λv H1=>ZcF i v σ H1 D.nx) (use:=some (assign (.Name x pos') X.env)) hc hok htk hi hg ht he hs ho hL I h ?_) λ_ s' ⟨σ',H',I',q⟩=>Yc (Yc ⟨σ',H',I',q⟩))
 intro D' C H' H2 s2 s' xs m I2 hHC e1 e2 hn hI q
 obtain⟨oC,es,ep,hoC,hdC,hrest⟩:=id hn
 have leC:s2.heap.objs.size<=C:=by rw[e1,e2];exact YU _
 have ltC:s2.heap.objs.size<C:=by rw[e1,e2];exact Nat.lt_succ_self _
 have neDC:C≠D':=by rw[e2];exact Nat.ne_of_gt ltC
 have fresh:s2.heap.get? C=none:=by
  cases e:s2.heap.get? C with
  |none=>rfl
  |some o=>exact absurd (YG (Yk e) leC) (YO _)
 have neL:C≠X.env.locals:=Nat.ne_of_gt (YG I2.lt leC)
 have nfs:C∉X.fs:=I2.ZlV leC
 have ncl:∀x c,X.env.cells.lookup x=some c->c≠C:=λx c e z=>by
  obtain⟨v,q⟩:=I2.cell x c e
  exact absurd (YG q.lt leC) (by rw[z];exact YO _)
 have npn:∀p∈X.pn++pins,p.1≠C:=λp hp z=>by
  have:=(I2.pin p hp).1
  rw[z,fresh]at this;cases this
 have hH:(upd H' D' (HO.lst xs)) C=none:=by rw[Zg neDC];exact hHC
 have I0:=hI s'.heap ZfI
 have I1:Inv X (pins++[(C,oC)]) σ (upd H' D' (.lst xs)) s':=I0.ZX λp hp=>by
  rcases Yq.mp hp with z|z
  ·exact I0.pin p (Yl _ z)
  ·simp only[Ym,List.not_mem_nil,or_false]at z
   subst z
   exact⟨hoC,hH,neL,nfs,λv z=>by rw[hdC]at z;cases z⟩
 show wpAny _ _ _ _ _ _
 refine thn (Zm (X:=X) (i:=i) hN hxi hx hf (pins++[(C,oC)]) s' σ _ (.ref D') (.ref D') _ I1 rfl q) λ_ s3 ⟨σ3,H3,I3,q3⟩=>?_
 have pC:=I3.pin (C,oC) (Yl _ (Yl _ (.head _)))
 refine⟨m,⟨oC,es,ep,pC.1,hdC,hrest⟩,λh' hsb=>⟨σ3,H3,?_,q3⟩⟩
 exact I3.ZbL.turned (t':=s3.toks) (it:=C) (λb o hb e=>hsb.extBut b o hb e) pC.2.1 neL (.inr (Yo I2.sz leC)) ncl npn
end
end L2
namespace L2
open PySem PySem.Spec PyProof.Rows PySem.W PySem.Builtin.ObjectAttr PySem.Builtin.Getset_descriptor
noncomputable def ZkN (x C:Addr) (h:Heap):Prop:=∃o,h.get? x=some o/\o.cls=.ref C
structure ExK (K:Frag) (C:Addr):Prop where
 dk:hasDictIn K C=true
 ga:findIn K (.ref C) "__getattribute__"=some (some (.builtin "BaseException.__getattribute__"))
 gt:findIn K (.ref C) "__getattr__"=some none
 cl:findIn K (.ref C) "__class__"=some (some (.builtin "object.__class__"))
 gg:specialIn K (.builtin "object.__class__") "__get__"=some (some (.builtin "getset_descriptor.__get__"))
 tk:takesIn K (.builtin "object.__class__")=some true
 mo:mroIn K C (.type "object")=some true
 mb:mroIn K C (.type "BaseException")=some true
section
variable {K:Frag}{x C:Addr}
theorem ZkN.type {M:Model}{h:Heap} (I:ZkN x C h):Looks M h (typeOf (.ref x)) (.ref C):=by
 obtain⟨o,e,c⟩:=I
 exact c▸(Looks.ld e).andThen .now
theorem ZpT {M:Model}{h:Heap} (X:K.In h) (Z:ExK K C):Looks M h (find (.ref x) (.ref C) "__class__") (.bind (.builtin "getset_descriptor.__get__") (.builtin "object.__class__")):=by
 have L3:=looks_takesIn (M:=M) X Z.tk
 exact(looks_findIn (M:=M) X Z.cl).andThen ((looks_specialIn X Z.gg).andThen
  ((show Looks M h (dataDescriptor? (some (.builtin "object.__class__")) (some (.builtin "getset_descriptor.__get__"))) (some (.builtin "getset_descriptor.__get__",.builtin "object.__class__"))from L3.andThen .now).andThen (Looks.tag .now)))
theorem Zr6 {prog:Program}{w:World}{A:Around}{R:Result->Shared->Prop}{s:Shared}{tp:Value} (X:K.In s.heap) (I:ZkN x C s.heap) (Z:ExK K C) (hR:R (.ok (.ret (.ref C))) s) :
  codeAny (model prog w) A (.call (.builtin "getset_descriptor.__get__") ⟨[.builtin "object.__class__",.ref x,tp],[]⟩) R s:=by
 obtain⟨hp,gn,dw,tk,os⟩:=s
 have L0:=I.type (M:=model prog w)
 have L1:=looks_mroIn (M:=model prog w) X Z.mo
 refine codeAny_call_builtin KF.slot_gs.plain KF.entry_gs (KF.slot_gs.check _ _ _ _ _ _ _ _ KF.type_class (KF.args_gs _ _ _) ?_)
 unfold Builtin.«getset_descriptor.__get__» descrGet;rw[dga_obj];refine Ya (Yc ?_)
 unfold descrGetter descrCheckInstance descrNameAndClass isInstance;simp only[KF.owner_class]
 repeat lk
 refine⟨Code.quiet_builtin _ (by decide +kernel),codeAny_builtin KF.entry_class ?_⟩;unfold Builtin.«object.__class__» shownTypeOf
 repeat lk
 exact hR
theorem Zn3 {prog:Program}{w:World}{A:Around}{E:Value->Shared->Prop}{s:Shared}{tk:Tok}{Q:Fin->Shared->Prop} (X:K.In s.heap) (I:ZkN x C s.heap) (Z:ExK K C) (hQ:Q (.done (.ret (.ref C))) s) :
  wpAny (model prog w) A (Builtin.«object.__getattribute__» ⟨[.ref x,.str "__class__" tk],[]⟩) Q E s:=by
 obtain⟨hp,gn,dw,t,os⟩:=s
 have L0:=I.type (M:=model prog w)
 have L2:=ZpT (M:=model prog w) (x:=x) X Z
 unfold Builtin.«object.__getattribute__»
 refine Ya (Yc (Ya (Yc (Ya (L0.at (Ya (L2.at ?_)))))))
 show wpAny _ _ (holding _ (call _ _) >>= ret) _ _ _
 exact Ya (wpAny_holding (wpAny_call (Zr6 (s:=⟨hp,gn,dw,t,os⟩) X I Z (Yc hQ))))
theorem Zn4 {M:Model}{A:Around}{E:Value->Shared->Prop}{s:Shared}{nameV:Value}{Q:Unit->Shared->Prop} (X:K.In s.heap) (I:ZkN x C s.heap) (Z:ExK K C) (hq:Q () s) :
  wpAny M A (checkBuiltinCall "BaseException.__getattribute__" ⟨[.ref x,nameV],[]⟩) Q E s:=by
 obtain⟨hp,gn,dw,t,os⟩:=s
 have hk:builtinKind "BaseException.__getattribute__"=some .slot:=by decide +kernel
 have hsplit:splitId "BaseException.__getattribute__"=some ("BaseException","__getattribute__"):=by decide +kernel
 have L0:=I.type (M:=M)
 have L1:=looks_mroIn (M:=M) X Z.mb
 have ha:=F.args_bexc_ga (.ref x) nameV
 simp only[checkBuiltinCall,hk,hsplit]
 refine Ya ?_
 unfold isInstance
 refine Ya (L0.at (L1.at ?_))
 repeat (first|assumption|wp_step)
theorem Zn5 {prog:Program}{w:World}{A:Around}{E:Value->Shared->Prop}{s:Shared}{Q:Option Value->Shared->Prop} (X:K.In s.heap) (I:ZkN x C s.heap) (Z:ExK K C) (hQ:Q (some (.ref C)) {s with toks:=s.toks+1}) :
  wpAny (model prog w) A (getAttr? (.ref x) "__class__") Q E s:=by
 obtain⟨hp,gn,dw,tk,os⟩:=s
 have L0:=I.type (M:=model prog w)
 have L1:=looks_findIn (M:=model prog w) X Z.ga
 have L3:=looks_findIn (M:=model prog w) X Z.gt
 have hb:=(F.attrBase_ValueError.ga).bind (.ref x)
 unfold getAttr? getAttrBy? getAttrBy;refine Ya (wpAny_mkText (Ya (wpAny_attempt (wpAny_holding (Ya (L0.at (Ya (L1.at ?_))))))))
 show wpAny _ _ (getAttrByItsOwn _ _ _ _ _ _) _ _ _
 unfold getAttrByItsOwn hookBefore
 refine Ya (L3.at ?_)
 refine Ya (wpAny_attempt (wpAny_holding ?_))
 unfold callGetattribute
 show wpAny _ _ (boundAndCalled _ _ _) _ _ _
 unfold boundAndCalled
 rw[hb]
 refine Ya (Yc ?_)
 refine wpAny_call ?_
 refine codeAny_call_builtin F.attrBase_ValueError.ga.plain F.entry_bexc_ga (Zn4 (s:=⟨hp,gn,dw,tk+1,os⟩) X I Z (Zn3 (s:=⟨hp,gn,dw,tk+1,os⟩) X I Z ?_))
 exact handed_on rfl (Yc hQ)
theorem Zr7 (Z:ExK K C):KitX K (.ref x) (.ref C) (ZkN x C) where
 ty:=λ_ _ _ I=>I.type
 it:=λ_ _ X _=>by
  obtain⟨cdD,hcD,_⟩:=any_some Z.dk
  unfold clsIn at hcD
  split at hcD
  ·rename_i c' d' cd' sl' ho
   intro A' Q' E' s' k q
   unfold isType loadHead;exact Ya (wpAny_loadPart (k _ _ (X _ _ ho)) (Yc q))
  ·cases hcD
 ne:=λh tp dd its n sl X htp=>by
  obtain⟨cdD,hcD,_⟩:=any_some Z.dk
  refine Bool.eq_false_iff.mpr λq=>?_
  have e:C=tp:=Value.ref.inj (beq_iff_eq.mp q);subst e
  unfold clsIn at hcD
  split at hcD
  ·rename_i c' d' cd' sl' ho
   have z:=(X _ _ ho).symm.trans htp;cases z
  ·cases hcD
 ca:=λX I k=>Zn5 X I Z k
end
noncomputable def ExcO (e C:Addr):HO:=.ext (ZkN e C)
noncomputable def tyIs (K:Frag) (H:Hp) (x:V) (c:Value) (b:Bool):Prop :=
 (∃t,TyOf K H x t/\kitOne K t c=some b)\/∃e C,x=.ref e/\H e=some (ExcO e C)/\ExK K C/\kitOne K (.ref C) c=some b
noncomputable def cOf:V->Option Value
 |.ref a=>some (.ref a)
 |.ty n=>some (.type n)
 |_=>none
section
variable {X:Cx}
noncomputable def rIsi (K:Frag):List V->Hp->VK->Prop:=λxs H Q=>∃x v c b,xs=[x,v]/\cOf v=some c/\tyIs K H x c b/\Q (.bl b) H
theorem ZpU:ZaF X (.builtin "isinstance") (rIsi X.K):=by
 intro pins s σ H xs us Q I r h
 obtain⟨x,v,c,b,rfl,hc,ht,q⟩:=h
 obtain⟨u,u2,rfl,ru,ru2⟩:=r.two
 have e2:u2=c:=by
  cases v with
  |ref a=>have:=(show u2=Value.ref a from ru2);cases hc;exact this
  |ty n=>have:=(show u2=Value.type n from ru2);cases hc;exact this
  |_=>cases hc
 subst e2
 have fin:∀tk,EP X pins σ Q (.bool b) {s with toks:=tk}:=λtk=>⟨.bl b,H,I.tok tk,rfl,q⟩
 rcases ht with⟨t,ty,e⟩|⟨e,C,rfl,hH,Z,e1⟩
 ·exact ZnX I ru ty e fin
 ·cases(show u=Value.ref e from ru)
  obtain⟨p,_,_⟩:=(show ZZ X.prog X.w H s.heap e (ExcO e C)from I.hok e _ hH)
  exact kia_one (Zr7 Z) I.kIn p e1 (λz=>nomatch z) fin
end
end L2
namespace L2
open PySem PySem.Spec PyProof.Rows
structure Fly (P:Program) (w:World) (outer:List Env) (H:Hp) (s:Shared) (H':Hp) (B:Heap) (e:Addr) (C a0:Value) (s':Shared):Prop where
 os:s'.os=s.os
 bare:AllBare s'.gens
 fly:Heap.FlyingW B outer e C a0 s'.heap
 hok:HOk P w H' B
 keep:∀b o,s.heap.get? b=some o->H b=none->b∉frs outer->B.get? b=some o
 slot:∀b o,s.heap.get? b=some o->b∈frs outer->(∀vs,o.data≠.fields vs)->∃sl,s'.heap.get? b=some {o with slots:=sl}
 free:∀b o,s.heap.get? b=some o->H b=none->H' b=none
 there:∀b o,s.heap.get? b=some o->b∉frs outer->∃o',B.get? b=some o'
 tups:∀b xs,H b=some (.tup xs)->H' b=some (.tup xs)
 frzs:∀b o u,H b=some (.frz o u)->H' b=some (.frz o u)
 tbls:∀b ps,H b=some (.tbl ps)->∃more,H' b=some (.tbl (ps++more))
noncomputable def CXE (P:Program) (w:World):CXT:=λouter H s E ev s'=>∃e C a0 H' B,ev=.ref e/\Fly P w outer H s H' B e C a0 s'/\E C none H'
theorem Zz {P:Program}{w:World}{X:Cx}:Passes (CXE P w) X E0:=λ_ _ _ _ _ _ _ ⟨_,_,_,_,_,_,_,z⟩=>z.elim
section
variable {P:Program}{w:World}{K:PySem.W.Frag}{mg:Str->Option Value}{base:Heap}{N:List Str}{qual:Str}{scope:Scope}{f:Addr}{cd:Value}{A:Around}{outer:List Env}{s:Shared}{H:Hp}{E:XK}
theorem ZjR {pins:List (Addr×Obj)}{σ:St}{H1:Hp}{s1:Shared}{h':Heap}{e:Addr}{C:Value}{vs:List Value} (I:Inv (ZfD (CXE P w) P w K mg base N qual scope f cd A outer s H E) pins σ H1 s1)
  (hx:Heap.MadeExcOf s1.heap h' e C vs) (hE:E C none H1):(ZfD (CXE P w) P w K mg base N qual scope f cd A outer s H E).xe (.ref e) {s1 with heap:=h'}:=by
 let env:=envOfC qual scope s.heap.objs.size f cd
 let B:=PySem.W.hideAll s1.heap (frs (env::outer))
 have hin:∀en∈(env::outer),∀b,en.frame=some b->b∈frs (env::outer):=λen he b hb=>List.mem_filterMap.mpr ⟨en,he,hb⟩
 have st:s1.heap.FunFrames base (env::outer):=I.stack
 have loc:∀b,b∈frs (env::outer)->b=s.heap.objs.size\/b∈frs outer:=λb hb=>Ym.mp (I.Zfc b hb)
 have old:∀b o,s.heap.get? b=some o->b∉frs outer->b∉frs (env::outer):=λb o q nb hb=>by
  rcases loc b hb with z|z
  ·exact absurd (Yk q) (by rw[z];exact YO _)
  ·exact nb z
 have un:Un (frs outer) [] H H1 s.heap s1.heap:=I.base
 have hokB:HOk P w H1 B:=λa o q=>by
  have nf:∀b o,H1 b=some o->b∉frs (env::outer):=λb o z hb=>by
   have:=I.Zhg b hb
   rw[this]at z;cases z
  refine(I.hok a o q).Zfz (λb u hb z=>?_) (λ_ z=>z) (λ_ _ z=>z) λ_ _ _ z=>z
  rcases hb with hb|hb
  ·rw[hb]at z⊢;exact PySem.W.hideAll_get _ z (nf a o q)
  ·exact PySem.W.hideAll_get _ z (nf b _ hb)
 refine wpAny_leaves_madeW (base:=B) (h:=s1.heap) (env:=env) (outer:=outer) (L:=s.heap.objs.size) I.ok.frames rfl (λb o q=>PySem.W.of_hideAll _ q) (PySem.W.funFrames_hide st hin) hx λh2 t x1 x2 x3 x4=>?_
 refine⟨e,C,.ref t,H1,B,rfl,⟨I.os,I.bare,x1,hokB,λb o q n nb=>?_,λb o q hb hd=>?_,λb o q n=>un.free b o q n (by simp),λb o q nb=>?_,un.tups,un.frzs,un.tbls⟩,hE⟩
 ·exact PySem.W.hideAll_get _ (un.keep b o q n nb (by simp)) (old b o q nb)
 ·obtain⟨sl,z⟩:=un.slot b o q (I.ok.frf b hb) hb (by simp)
  obtain⟨sl2,z2⟩:=x4 b _ (hx.keeps _ _ z) hd
  exact⟨sl2,z2⟩
 ·obtain⟨o',z⟩:=un.there b o q (by simp)
  exact⟨o',PySem.W.hideAll_get _ z (old b o q nb)⟩
theorem Zbi:Passes (CXE P w) (ZfD (CXE P w) P w K mg base N qual scope f cd A outer s H E) E:=by
 intro pins σ H1 s1 ev s2 I h
 obtain⟨e,C,a0,H',B,rfl,F,hE⟩:=h
 let env:=envOfC qual scope s.heap.objs.size f cd
 have un:Un (frs outer) [] H H1 s.heap s1.heap:=I.base
 have loc:∀b,b∈frs (env::outer)->b=s.heap.objs.size\/b∈frs outer:=λb hb=>Ym.mp (I.Zfc b hb)
 have old:∀b o,s.heap.get? b=some o->b∉frs outer->b∉frs (env::outer):=λb o q nb hb=>by
  rcases loc b hb with z|z
  ·exact absurd (Yk q) (by rw[z];exact YO _)
  ·exact nb z
 refine wpAny_leaves_onW (env:=env) (outer:=outer) (L:=s.heap.objs.size) I.ok.frames rfl F.fly λh2 x1 x2=>?_
 refine⟨e,C,a0,H',B,rfl,⟨F.os.trans I.os,F.bare,x1,F.hok,λb o q n nb=>F.keep b o (un.keep b o q n nb (by simp)) (un.free b o q n (by simp)) (old b o q nb),λb o q hb hd=>?_,λb o q n=>?_,λb o q nb=>?_,λb xs z=>F.tups b xs (un.tups b xs z),λb o u z=>F.frzs b o u (un.frzs b o u z),λb ps z=>?_⟩,hE⟩
 ·obtain⟨sl,z⟩:=un.slot b o q (I.ok.frf b hb) hb (by simp)
  obtain⟨en,he,hf⟩:=List.mem_filterMap.mp hb
  obtain⟨sl2,z2⟩:=F.slot b _ z (List.mem_filterMap.mpr ⟨en,.tail _ he,hf⟩) hd
  obtain⟨sl3,z3⟩:=x2 b _ z2 hd
  exact⟨sl3,z3⟩
 ·by_cases hb:b∈frs outer
  ·have h1:H1 b=none:=un.free b o q n (by simp)
   obtain⟨sl,z⟩:=un.slot b o q n hb (by simp)
   exact F.free b _ z h1
  ·exact F.free b o (un.keep b o q n hb (by simp)) (un.free b o q n (by simp))
 ·obtain⟨o',z⟩:=un.there b o q (by simp)
  exact F.there b o' z (old b o q nb)
 ·obtain⟨m1,z1⟩:=un.tbls b ps z
  obtain⟨m2,z2⟩:=F.tbls b _ z1
  exact⟨m1++m2,by rw[<-Array.append_assoc];exact z2⟩
end
abbrev bmV:List Value:=[.type "ValueError",.type "Exception",.type "BaseException",.type "object"]
abbrev newV:String:="ValueError.__new__"
theorem own_mk {K:PySem.W.Frag}{h:Heap}{mg:Str->Option Value}{x:Str}{C:Addr} (X:K.In h) (hm:mg x=some (.ref C)) (q:PySem.W.excIn K C bmV newV=true):OwnCls x C bmV newV mg h:=by
 refine⟨hm,?_⟩
 unfold PySem.W.excIn at q;split at q
 ·rename_i dd cd sl ho
  split at q
  ·rename_i C' bm k0 k1 k2 k3 n k5 hmm hs
   simp only[Bool.and_eq_true,beq_iff_eq,Bool.not_eq_true']at q;obtain⟨⟨⟨⟨⟨rfl,rfl⟩,hdel⟩,ht⟩,hok⟩,hni⟩:=q
   obtain⟨nm,bs,mro,ns,qn,hd,sn,sub,ab,col,del⟩:=cd;dsimp only at hmm hdel hok hni;subst hmm hdel
   have hsl:sl=#[k0,k1,k2,k3,some (.builtin newV),k5]:=by obtain⟨l⟩:=sl;simp only at hs;rw[hs]
   subst hsl;exact⟨bm,ns,nm,qn,bs,hd,sn,sub,ab,col,dd,k0,k1,k2,k3,k5,_,X _ _ ho,.of_isNs (PySem.W.isNs_of_in X hok),PySem.W.nsMap_none_of_in X hok hni,PySem.W.tail_of_in X ht⟩
  ·cases q
 ·cases q
section
variable {X:Cx}
noncomputable def Zl8 (C:Addr) (E:XK) (t:TA):TS:=λ_ σ H=>t σ H λvs H1=>vs.length<=sizeLine/\E (.ref C) none H1
theorem ZkO {x:Str}{C:Addr}{np cpos pos:Pos}{e0:Expr}{es:List Expr}{t:TA}{E:XK} (hc:X.calm=true) (hg:Gl X x) (hm:X.mg x=some (.ref C)) (q:PySem.W.excIn X.K C bmV newV=true) (ha:PA X (e0::es) t)
  (hx:∀pins σ H s h' e vs,Inv X pins σ H s->Heap.MadeExcOf s.heap h' e (.ref C) vs->E (.ref C) none H->X.xe (.ref e) {s with heap:=h'})
  (he:starEach (e0::es) X.env=(false,eval e0 X.env)::starEach es X.env:=by rfl) (hpl:(backTo cpos (starEach es X.env)).any (·.1)=false:=by rfl) (hd:(x==("__debug__":Str))=false:=by decide) :
  PS X (.Raise (some (.Call (.Name x np) (e0::es) [] cpos)) none pos) (Zl8 C E t):=by
 intro pins s σ H D I h
 obtain⟨tl,Nn,nm,qn,bs,hdct,sn,sub,ab,col,dd,k0,k1,k2,k3,k5,mN,hC,hN,hni,T⟩:=(own_mk (x:=x) I.mod.kin hm q).obj
 refine wpAny_Raise_call_subT (C:=C) (nm:=nm) (q:=qn) (N:=Nn) (bs:=bs) (bm:=tl) (hdct:=hdct) (sn:=sn) (sub:=sub) (ab:=ab) (col:=col) (dd:=dd) (k0:=k0) (k1:=k1) (k2:=k2) (k3:=k3) (k5:=k5)
  PySem.F.excBase_ValueError (mN:=mN) (T.hasType PySem.F.excBase_ValueError.hasBase) (I.ok.hd hc) (by rw[he];show(false||(backTo cpos (starEach es X.env)).any (·.1))=false;rw[hpl];rfl) hni (ZjF I hg hm ⟨rfl,?_⟩ hd)
 have h2:=ha cpos pins s σ H _ I h
 rw[he]at h2⊢
 exact Calls.evalArgs_plain (thn h2 λus s2 ⟨vs,H2,I2,r,z,q2⟩=>⟨rfl,by rw[<-r.length];exact z,I2.bk _ _ hC,hN.keeps I2.bk,T.keeps I2.bk,λh' e hm'=>hx pins σ H2 s2 h' e us I2 hm' q2⟩)
end
section
variable {P:Program}{w:World}{K:PySem.W.Frag}{mg:Str->Option Value}{base:Heap}
theorem Fun.okX {x qual:Str}{st:Stmt}{f:Addr}{fd:FuncData}{N ps:List Str}{k:Nat}{sp:Sp} (F:Fun K x qual st f fd) (S:FnScope N ps (defScope st)) (len:∀vs H Q E,sp vs H Q E->vs.length=ps.length)
  (hbody:∀(cdv:Value) (A:Around) (outer:List Env) (s:Shared) (H:Hp) (vs:List V) (Q:VK) (E:XK),Room k (A.deeper (envOfC qual (defScope st) s.heap.objs.size f cdv))->sp vs H Q E ->
   ∃t,PSs (ZfD (CXE P w) P w K mg base N qual (defScope st) f cdv A outer s H E) (defBody st) t/\t {nx:=λ_ H'=>Q .non H',rt:=Q} (start N vs) H):FnOk P w K mg base (CXE P w) (k+1) f fd ps sp:=by
 obtain⟨oc,od,kV,doc,pm,an,cdv,ct,osl,rfl,lk,hcd⟩:=F.ex
 exact fn_of lk hcd S len λA outer s H vs Q E hr hsp=>hbody cdv A outer s H vs Q E hr hsp
end
end L2
namespace L2
open PySem PySem.Spec PyProof.Rows PySem.W
theorem ZjS:∀{ns:List Int}{us:List Value},Vals (ns.map V.int) us->∃xs:Array (Int×Tok),us.toArray=intItems xs/\xs.toList.map (·.1)=ns
 |[],_,.nil=>⟨#[],by simp[intItems],rfl⟩
 |n::ns,_,.cons (b:=u) r t=>by
  obtain⟨tk,rfl⟩:=(show ∃t,u=Value.int n t from r)
  obtain⟨xs,e1,e2⟩:=ZjS t
  refine⟨#[(n,tk)]++xs,?_,by simp[e2]⟩
  have:∀(l:List Value),(Value.int n tk::l).toArray=#[Value.int n tk]++l.toArray:=λl=>by simp
  rw[this,e1]
  simp[intItems]
section
variable {X:Cx}
theorem Zbj:OpR X (binaryOp .Mult) (rI IntMulOk λi j=>.int (i*j)):=opI λ_ _ _ _ _ _ _ hc q=>mul_int q hc
noncomputable def PJ (X:Cx) (es:List (Sem Value)) (t:St->Hp->(Hp->Prop)->Prop):Prop :=
 ∀(out:Str) (pins:List (Addr×Obj)) (s:Shared) (σ:St) (H:Hp) (Q:Hp->Prop),out.length+2000*es.length<=100000->Inv X pins σ H s->t σ H Q ->
  wpAny (model X.prog X.w) X.A (joinParts out es) (λu s'=>∃y tk H',u=.str y tk/\Inv X pins σ H' s'/\Q H') X.xe s
theorem ZpV:PJ X [] (λ_ H Q=>Q H):=λout pins s σ H Q hl I h =>
 joinParts_nil ⟨out,_,H,rfl,I.tok _,h⟩ (by simp at hl;exact Yo hl (by decide))
theorem ZfJ {x:Str}{j:Nat}{pos:Pos}{es:List (Sem Value)}{t:St->Hp->(Hp->Prop)->Prop} (hx:x.length<=2000) (h:PJ X es t):PJ X (eval (.Constant (.str x) j pos) X.env::es) t:=by
 intro out pins s σ H Q hl I hq
 have hl':(out++x).length+2000*es.length<=100000:=by rw[PySem.strLen_append];simp at hl;omega
 refine joinParts_cons (Calls.Constant_str ⟨Yo (Yo (Nat.le_add_right _ _) hl') (by decide),?_⟩)
 exact h _ pins _ σ H Q hl' (I.tok _) hq
theorem Zn6 {i:Int} (h0:0<=i) (h1:i<10 ^ 18):i.natAbs.log2<1920:=by
 by_cases hz:i.natAbs=0
 ·rw[hz];decide
 ·have h3:i.natAbs<2 ^ 60:=by
   have:(2:Nat) ^ 60=1152921504606846976:=by decide
   have h2:(10:Int) ^ 18=1000000000000000000:=by decide
   omega
  exact YG ((Nat.log2_lt hz).mpr h3) (by decide)
theorem Zl9 {e:Expr}{pos:Pos}{es:List (Sem Value)}{te:TE}{t:St->Hp->(Hp->Prop)->Prop} (he:PE X e te) (h:PJ X es t):PJ X (eval (.FormattedValue e (-1) none pos) X.env::es) (fun σ H Q=>te σ H λx H1=>∃i:Int,x=.int i/\(0<=i/\i<10 ^ 18)/\t σ H1 Q):=by
 intro out pins s σ H Q hl I hq
 refine joinParts_cons (FormattedValue_plain (thn (he pins s σ H _ I hq) λu s1 ⟨x,H1,I1,r1,i,ex,⟨h0,h1⟩,q⟩=>?_))
 subst ex
 obtain⟨tk,rfl⟩:=(show ∃t,u=Value.int i t from r1)
 refine wpAny_formatField_int (Zn6 h0 h1) ?_
 have hx:(Str.ofString (toString i)).length<=18:=toString_length_le h0 (by decide) h1
 have hl':(out++Str.ofString (toString i)).length+2000*es.length<=100000:=by rw[PySem.strLen_append];simp at hl;omega
 refine⟨Yo (Yo (Nat.le_add_right _ _) hl') (by decide),?_⟩
 exact h _ pins _ σ H1 Q hl' (I1.tok _) q
theorem ZkP (env:Env):∀l:List Expr,(evalEach l env).length=l.length
 |[]=>rfl
 |e::r=>by
  have:evalEach (e::r) env=eval e env::evalEach r env:=rfl
  rw[this,YR,YR,ZkP env r]
theorem Zjh {e1 e2:Expr}{rest:List Expr}{pos:Pos}{t:St->Hp->(Hp->Prop)->Prop} (h:PJ X (eval e1 X.env::eval e2 X.env::evalEach rest X.env) t) (hn:rest.length<=20:=by decide) :
  PE X (.JoinedStr (e1::e2::rest) pos) (fun σ H Q=>t σ H λH1=>∀y,Q (.str y) H1):=by
 intro pins s σ H Q I hq
 have hle:=ZkP X.env rest
 refine JoinedStr_many (thn (h Str.empty pins s σ H _ (by simp only[YR,hle];show 0+_<=_;omega) I hq) λu s' ⟨y,tk,H',e,I',q⟩=>?_)
 subst e
 exact⟨.str y,H',I',⟨tk,rfl⟩,q y⟩
end
noncomputable def clsAt (mg:Str->Option Value) (x:Str):Addr:=match mg x with
 |some (.ref C)=>C
 |_=>0
noncomputable def tokAt (mg:Str->Option Value) (x:Str):Tok:=match mg x with
 |some (.int _ t)=>t
 |_=>default
noncomputable def Callee (P:Program) (w:World) (K:Frag) (mg:Str->Option Value) (base:Heap) (x:Str) (k:Nat) (ps:List Str) (sp:Sp):Prop :=
 ∃f fd,mg x=some (.ref f)/\keepIn K (.ref f)=true/\Binds K fd ps []/\FnOk P w K mg base (CXE P w) k f fd ps sp
section
variable {X:Cx}
theorem Zag {st:Stmt}{t:TS} (h:PS X.nox st t):PS X st t:=λpins s σ H D I hw =>
 Yy (h pins s σ H D (I.ZiS _) hw) (λ_ _ q=>q.Zd9) λ_ _ z=>False.elim z
theorem Zh {x:Str}{k:Nat}{ps:List Str}{sp:Sp}{E:XK}{e:Expr}{es:List Expr}{t:TA}{p pos:Pos} (C:Callee X.prog X.w X.K X.mg X.base x k ps sp) (hr:Room k X.A) (hg:Gl X x) (hx:Passes (CXE X.prog X.w) X E)
  (ha:PA X (e::es) t) (hdb:(x==("__debug__":Str))=false:=by decide) (he:starEach (e::es) X.env=(false,eval e X.env)::starEach es X.env:=by rfl) (hpl:(backTo pos (starEach es X.env)).any (·.1)=false:=by rfl) :
  PE X (.Call (.Name x p) (e::es) [] pos) (Znd sp [] E t):=by
 obtain⟨f,fd,hm,hk,hb,F⟩:=C
 exact Zr1 F hr hg hm hk hb .nil hx ha hdb he hpl
theorem Znj {P:Program}{w:World}{K:Frag}{mg:Str->Option Value}{base:Heap}{N:List Str}{qual:Str}{scope:Scope}{f:Addr}{cd:Value}{A:Around}{outer:List Env}{s0:Shared}{H0:Hp}{E:XK}{C:Addr} :
  ∀pins σ H s h' e vs,Inv (ZfD (CXE P w) P w K mg base N qual scope f cd A outer s0 H0 E) pins σ H s->Heap.MadeExcOf s.heap h' e (.ref C) vs->E (.ref C) none H->(ZfD (CXE P w) P w K mg base N qual scope f cd A outer s0 H0 E).xe (.ref e) {s with heap:=h'} :=
 λ_ _ _ _ _ _ _ I hx hE=>ZjR I hx hE
end
theorem ZhE:bootBuiltins "max"=some (.builtin "max"):=by decide +kernel
theorem Zma:bootBuiltins "min"=some (.builtin "min"):=by decide +kernel
theorem ZiU:bootBuiltins "isinstance"=some (.builtin "isinstance"):=by decide +kernel
theorem ZjT:bootBuiltins "list"=some (.type "list"):=by decide +kernel
theorem Zbk:bootBuiltins "tuple"=some (.type "tuple"):=by decide +kernel
theorem ZjU:bootBuiltins "int"=some (.type "int"):=by decide +kernel
section
variable {X:Cx}{pins:List (Addr×Obj)}{σ:St}{H:Hp}{s:Shared}{h':Heap}
theorem Inv.Zhh {t':Nat}{fp:List Addr} (I:Inv X pins σ H s) (k:∀b o,b∉fp->s.heap.get? b=some o->h'.get? b=some o) (hf:∀b∈fp,FpOk X pins H b):Inv X pins σ H {s with heap:=h',toks:=t'}:=by
 have nit:∀b u,H b=some u->b∉fp:=λb u e z=>by rw[(hf b z).1]at e;cases e
 refine I.step (g':=s.gens) (d':=s.drawn) (ch:=fp) (λb hb=>?_) (λb o _ _ hc e _=>k b o hc e) (λb o _ _ hc e _=>⟨o.slots,k b o hc e⟩) (λ_ _ _ _ n=>n)
  (λb o hc e=>⟨o,k b o hc e⟩) (λ_ _ e=>e) (λ_ _ _ e=>e) (λb ps e=>⟨#[],by rw[e];simp⟩) (λm hm=>?_) (λb u e=>?_) I.bare
 ·obtain⟨_,f1,_,f3,f4,f5⟩:=hf b hb
  exact⟨f3,f1,f4,f5⟩
 ·obtain⟨o,es,ep,ho,r⟩:=hm
  exact⟨o,es,ep,k _ o (λz=>(hf _ z).2.1 rfl) ho,r⟩
 ·refine(I.hok b u e).Zfz (λc v hc q=>k c v ?_ q) (λ_ q=>q) (λ_ _ q=>q) λ_ _ _ q=>q
  rcases hc with z|z
  ·rw[z];exact nit b u e
  ·exact nit c _ z
theorem zapart (n a b:Nat) (h1:a<n) (h2:b<n):ZipApart (n+4) (n+2) (n+3) n (n+1) a b:=by
 constructor<;>(show ¬ ((_:Nat)=_);omega)
theorem Zn7:bootBuiltins "zip"=some (.type "zip"):=by decide +kernel
end
theorem cxK {CX:CXT}{P:Program}{w:World}{K:Frag}{mg:Str->Option Value}{base:Heap}{N:List Str}{qual:Str}{scope:Scope}{f:Addr}{cd:Value}{A:Around}{outer:List Env}{s:Shared}{H:Hp}{E:XK} :
  (ZfD CX P w K mg base N qual scope f cd A outer s H E).K=K:=rfl
theorem Ze.upd {H H1:Hp}{p:Addr}{o:HO} (h:H p=none) (e:Ze H H1):Ze H (upd H1 p o):=λb u z=>by
 rw[Zg (Zy z h)];exact e b u z
theorem Ze.Z8 {H H1:Hp}{p:Addr}{o:HO} (e:Ze H H1) (h:H1 p=none):Ze H (L2.upd H1 p o):=e.upd (e.free h)
theorem ZjV {X:Cx}{K:Frag}{es:List Expr}{pos:Pos}{k:Nat}{t:TGs}{n:Nat} (hK:X.K=K) (hc:X.calm=true) (h:PGs X es t)
  (hn:(assignEach es X.env).length=n:=by rfl) (hst:(assignEach es X.env).findIdx? (·.1)=none:=by rfl):PG X (.Tuple es k pos) (ZnS K n t):=hK▸Zfe hc h hn hst
noncomputable def LoopR (J:It) (g:TG) (tb:TS) (D:Ends) (σ:St) (H1:Hp):Prop:=∃W:Nat->Nat->St->Hp->Prop,(∃m,W 0 m σ H1)/\∀i m σ H,W i m σ H ->
 (J.stop i H/\D.nx σ H)\/(J.go i H/\∃N:St->Hp->Prop,(∀σ' H',N σ' H'->∃m',m'<m/\W (i+1) m' σ' H')/\∀x H',J.yld i H x H'->g x σ H' fun σ2 H2=>tb {D with nx:=N,ct:=N,bk:=D.nx} σ2 H2)
theorem Znk {wi:TI}{g:TG}{tb:TS}{D:Ends}{σ:St}{H:Hp}:tFor wi g tb D σ H=wi σ H λJ H1=>LoopR J g tb D σ H1:=rfl
noncomputable def Zmb (c:TT) (tb:TS) (D:Ends) (σ:St) (H:Hp):Prop:=ZlW c tb D σ H
theorem Zji {c:TT}{tb:TS}{D:Ends}{σ:St}{H:Hp}:ZlW c tb D σ H=Zmb c tb D σ H:=rfl
noncomputable def ZgK (J:It) (g:TG) (tt:TT) (te:TE) (σ0:St) (Q:VK) (H1:Hp):Prop:=∃W:Nat->Nat->List V->Hp->Prop,(∃m,W 0 m [] H1)/\∀i m acc H,W i m acc H ->
 (J.stop i H/\acc.length<=sizeLine/\∀p,H p=none->Q (.ref p) (upd H p (.lst acc))) \/
 (J.go i H/\acc.length<sizeLine/\∀x H',J.yld i H x H'->g x σ0 H' fun σ2 H2=>tt σ2 H2 λb H3=>if b=true then te σ2 H3 λv H4=>∃m',m'<m/\W (i+1) m' (acc++[v]) H4 else ∃m',m'<m/\W (i+1) m' acc H3)
theorem ZkQ {wi:TI}{g:TG}{tt:TT}{te:TE}{js:List (Option Nat)}{σ:St}{H:Hp}{Q:VK}:Zni wi g tt te js σ H Q=wi σ H λJ H1=>ZgK J g tt te (Z3 js σ) Q H1:=rfl
noncomputable def CW (n:Nat) (vals:Nat->V) (H1:Hp) (i m:Nat) (acc:List V) (H:Hp):Prop:=m=n-i/\i<=n/\acc=(List.range i).map vals/\Ze H1 H
theorem CW.next {n:Nat}{vals:Nat->V}{H1 H:Hp}{i:Nat}{v:V} (hi:i<n) (hv:v=vals i) (s:Ze H1 H):∃m',m'<n-i/\CW n vals H1 (i+1) m' ((List.range i).map vals++[v]) H :=
 ⟨n-(i+1),by omega,rfl,hi,by rw[YY,YI,hv];rfl,s⟩
theorem comp_map {J:It}{n:Nat}{H1:Hp}{g:TG}{tt:TT}{te:TE}{σ0:St}{Q:VK} (vals:Nat->V) (hn:n<sizeLine) (hgo:∀i H,Ze H1 H->i<n->J.go i H) (hstop:∀H,Ze H1 H->J.stop n H)
  (hb:∀i x H H',i<n->Ze H1 H->J.yld i H x H'->g x σ0 H' fun σ2 H2=>tt σ2 H2 λb H3=>if b=true then te σ2 H3 λv H4=>∃m',m'<n-i/\CW n vals H1 (i+1) m' ((List.range i).map vals++[v]) H4 else ∃m',m'<n-i/\CW n vals H1 (i+1) m' ((List.range i).map vals) H3)
  (hk:∀l H',Ze H1 H'->H' l=none->Q (.ref l) (upd H' l (.lst ((List.range n).map vals)))) :
  ZgK J g tt te σ0 Q H1:=by
 refine⟨CW n vals H1,⟨n,rfl,Yr _,rfl,Ze.refl _⟩,?_⟩
 rintro i m acc H ⟨rfl,hi,rfl,s⟩
 by_cases h:i<n
 ·refine .inr ⟨hgo i H s h,by simpa using Nat.lt_trans h hn,λx H' y=>hb i x H H' h s y⟩
 ·have e:i=n:=by omega
  subst e
  exact .inl ⟨hstop H s,by simpa using Y6 hn,λp hp=>hk p H s hp⟩
theorem ZhF {α:Type}{xs:List α}{i:Int}{j:Nat} (h:i=(j:Int)) (hj:j<xs.length):atI xs i=some xs[j]:=by
 subst h
 unfold atI ixN
 rw[Yd (by omega),Yd (by omega)]
 simp
theorem ZjW {α:Type}{xs:List α}{i:Int} (C:α->Prop) (h0:0<=i) (h1:i<xs.length) (h:∀x∈xs,C x):∃v,atI xs i=some v/\C v:=by
 obtain⟨j,rfl⟩:=Y2 h0
 have hj:j<xs.length:=by omega
 exact⟨xs[j],ZhF rfl hj,h _ (YC hj)⟩
theorem mul_r {a b:Int} (h1:-(2 ^ 64)<b) (h2:b<2 ^ 64):IntMulOk a b:=IntMulOk.of_right (intBits_le_64 h1 h2)
theorem ZhG {a b:Int} (h1:-(2 ^ 64)<a) (h2:a<2 ^ 64):IntMulOk a b:=IntMulOk.of_left (intBits_le_64 h1 h2)
theorem ZjX {a b:Int} (ha:Builtin.Int.intBits a<=2 ^ 20) (hb:Builtin.Int.intBits b<=2 ^ 20):IntMulOk a b:=IntMulOk.of_bits ha hb
theorem cp64:ZjG 10 64:=by unfold ZjG;decide
theorem cp18:ZjG 10 18:=by unfold ZjG;decide
theorem pm1:IntMulOk (10 ^ Int.toNat 64) (10 ^ Int.toNat 64):=ZjX (by decide +kernel) (by decide +kernel)
theorem pm2:IntMulOk (10 ^ Int.toNat 64*10 ^ Int.toNat 64) (10 ^ Int.toNat 64):=ZjX (by decide +kernel) (by decide +kernel)
theorem pm3:IntMulOk (10 ^ Int.toNat 64*10 ^ Int.toNat 64*10 ^ Int.toNat 64) (10 ^ Int.toNat 64):=ZjX (by decide +kernel) (by decide +kernel)
theorem pm4:(0:Int)<10 ^ Int.toNat 64*10 ^ Int.toNat 64*10 ^ Int.toNat 64*10 ^ Int.toNat 64:=by decide +kernel
theorem pm5:(0:Int)<2147483629:=by decide
theorem pm6:(0:Int)<2147483647:=by decide
theorem pm7:0+1+1<=sizeLine:=by decide
noncomputable def Zr (H:Hp) (p:Addr):Prop:=∃x y:Int,H p=some (.lst [.int x,.int y])/\0<=x/\0<=y/\y<2147483647
noncomputable def Exc (p:Addr) (H H':Hp):Prop:=∀b o,b≠p->H b=some o->H' b=some o
theorem Ze.exc {H H1 H2:Hp}{p:Addr} (s:Ze H H1) (h:H p=none) (e:Exc p H1 H2):Ze H H2:=λb o z=>e b o (Zy z h) (s b o z)
theorem Ze.ZpW {H H':Hp}{p:Addr} (s:Ze H H'):Exc p H H':=λb o _ z=>s b o z
theorem Exc.upd {H:Hp}{p:Addr}{o:HO}:Exc p H (L2.upd H p o):=λb u n z=>by rw[Zg n];exact z
theorem Zr.ne {H:Hp}{p q:Addr} (P:Zr H p) (h:H q=none):q≠p:=by
 obtain⟨x,y,e,_⟩:=P
 exact(Zy e h).symm
theorem Zr.same {H H':Hp}{p:Addr} (P:Zr H p) (s:Ze H H'):Zr H' p:=by
 obtain⟨x,y,e,r⟩:=P
 exact⟨x,y,s _ _ e,r⟩
theorem Zr.upd {H:Hp}{p q:Addr}{o:HO} (P:Zr H p) (h:H q=none):Zr (L2.upd H q o) p:=P.same ((Ze.refl H).upd h)
theorem range_getD {α β:Type} (xs:List α) (d:α) (f:α->β) (n:Nat) (h:n=xs.length):(List.range n).map (λj=>f (xs.getD j d))=xs.map f:=by
 subst h
 refine List.ext_getElem (by simp) λj h1 h2=>?_
 have hj:j<xs.length:=by simpa using h1
 simp[Yn,hj]
theorem Zah {K:Frag}{H:Hp}{p:Addr}{xs:List V} (h:H p=some (.lst xs)):tyV K "list" (.ref p) H:=.inl ⟨rfl,_,SqL.of h⟩
theorem Znl {i j:Int}:ZkH (.int i) (.int j)=true:=rfl
theorem Znm {i j:Bool}:ZkH (.bl i) (.bl j)=true:=rfl
theorem Znn {i j:Str}:ZkH (.str i) (.str j)=true:=rfl
theorem Zno:ZkH .non .non=true:=rfl
theorem Znp {i:Int}:ZkH .non (.int i)=true:=rfl
theorem Znq {i:Int}:ZkH (.int i) .non=true:=rfl
section
variable {X:Cx}
noncomputable def rLen (K:Frag):List V->Hp->VK->Prop:=λxs H Q=>∃p ys,xs=[.ref p]/\(SqL K H p ys\/SqT K H p ys)/\Q (.int ys.length) H
theorem Zn {K:Frag} (hK:X.K=K):ZaF X (.builtin "len") (rLen K):=by subst hK;exact ZjN
noncomputable def rLof (K:Frag):List V->Hp->VK->Prop:=λxs H Q=>∃p ys,xs=[.ref p]/\(SqL K H p ys\/SqT K H p ys)/\∀l,H l=none->Q (.ref l) (upd H l (.lst ys))
theorem ZhH {K:Frag} (hK:X.K=K):ZaF X (.type "list") (rLof K):=by subst hK;exact ZjO
noncomputable def rTof (K:Frag):List V->Hp->VK->Prop:=λxs H Q=>∃p ys,xs=[.ref p]/\((SqL K H p ys/\∀l,H l=none->Q (.ref l) (upd H l (.tup ys)))\/(SqT K H p ys/\Q (.ref p) H))
theorem Za6 {K:Frag} (hK:X.K=K):ZaF X (.type "tuple") (rTof K):=by subst hK;exact ZiT
theorem Zn8 {K:Frag} (hK:X.K=K):ZaF X (.builtin "isinstance") (rIsi K):=by subst hK;exact ZpU
end
theorem Znr {a:Addr}{x:Value}:(cOf (.ref a)=some x)=(.ref a=x):=by simp[cOf]
theorem ZpX {n:String}{x:Value}:(cOf (.ty n)=some x)=(.type n=x):=by simp[cOf]
theorem ZpY {α:Type}{f:Nat->Option α}{g:Nat->α}:∀{l:List Nat},(∀k∈l,f k=some (g k))->l.filterMap f=l.map g
 |[],_=>rfl
 |k::r,h=>by
  rw[List.filterMap_cons,h k (Yz ..),YH,ZpY λj hj=>h j (YD _ hj)]
theorem ZpZ (its:List Value):slicePick its.toArray none none (some (-1))=its.reverse.toArray:=by
 have e:=PyProof.Rows.picked_rev its.length
 unfold Builtin.Str.strSliceIndices at e
 have e2:sliceRange ((its.length:Int)-1) (-1) (-1)=(List.range its.length).map λk=>its.length-1-k:=by
  rw[<-e];rfl
 unfold slicePick
 congr 1
 show((sliceRange ((its.toArray.size:Int)-1) (-1) (-1)).filterMap (its.toArray[·]?))=_
 rw[Yv,e2,List.filterMap_map,ZpY (g:=λk=>(its.reverse[k]?).getD .none)]
 ·refine List.ext_getElem (by simp) λj h1 h2=>?_
  have hj:j<its.length:=by simpa using h1
  simp[hj]
 ·intro k hk
  have hk':k<its.length:=Yw.mp hk
  have h3:its.length-1-k<its.length:=by omega
  simp[hk',h3]
section
variable {X:Cx}{e st:Expr}{te ts:TE}{pos p2:Pos}
noncomputable def tRev (K:Frag) (te ts:TE):TE:=fun σ H Q=>te σ H λx H1=>ts σ H1 λz H2=>∃a xs,x=.ref a/\z=.int (-1)/\SqL K H2 a xs/\∀p,H2 p=none->Q (.ref p) (upd H2 p (.lst xs.reverse))
theorem Vals.rev:∀{xs:List V}{us:List Value},Vals xs us->Vals xs.reverse us.reverse:=by
 intro xs us h
 induction h with
 |nil=>exact .nil
 |cons r _ ih=>rw[List.reverse_cons,List.reverse_cons];exact ih.append (.cons r .nil)
theorem Zjj {K:Frag} (hK:X.K=K) (he:PE X e te) (hs:PE X st ts):PE X (.Subscript e (.Slice none none (some st) p2) pos) (tRev K te ts):=by
 subst hK
 intro pins s σ H Q I h
 refine Subscript_ (thn (he pins s σ H _ I h) λv s1 ⟨x,H1,I1,r1,q1⟩=>?_)
 refine wpAny_Slice ?_
 rw[evalPart_none]
 refine Yc ?_
 refine Yc ?_
 rw[evalPart_some]
 refine thn (hs pins s1 σ H1 _ I1 q1) λvs s2 ⟨z,H2,I2,r2,a,xs,e1,e2,hx,q⟩=>?_
 subst e1 e2
 obtain⟨tk,rfl⟩:=r2
 cases r1
 have I4:Inv X pins σ H2 {s2 with heap:=s2.heap.push {cls:=.type "slice",data:=.fields #[.none,.none,.int (-1) tk]}}:=I2.kept (t':=s2.toks) λb ob q=>Yh _ q
 show wpAny (model X.prog X.w) X.A (subscriptTail e (.Slice none none (some st) p2) (.ref a) (.ref s2.heap.objs.size)) (EP X pins σ Q) X.xe {s2 with heap:=s2.heap.push {cls:=.type "slice",data:=.fields #[.none,.none,.int (-1) tk]}}
 obtain⟨its,r,ht,hz⟩:=I4.list hx
 have hlen:=r.length
 refine tail_any (ops:=[.ref a,.ref s2.heap.objs.size]) ht.isList.typeIs slot_list_getitem.lookup ?_ (by with_unfolding_all rfl)
 refine wpAny_getItem_list_slice (s:={s2 with heap:=s2.heap.push {cls:=.type "slice",data:=.fields #[.none,.none,.int (-1) tk]}}) ht.isList (Heap.IsSliceOf.new ..) .none .none (.int (-1) tk) (by simp) ?_ (by rw[Yv]<;>omega)
 rw[ZpZ]
 refine⟨.ref _,_,I4.laid (t':=s2.toks) (o:=.lst xs.reverse) (λb ob q=>Yh _ q) (Ye _) ?_,rfl,q _ (I4.hok.fresh (Ye _))⟩
 exact⟨by rw[List.length_reverse];exact hz,_,0,r.rev,Yt _ rfl⟩
end
noncomputable def Rows (H:Hp) (l:Addr) (rs:List (List Int)):Prop:=∃as:List Addr,H l=some (.lst (as.map V.ref))/\l∉as/\as.length=rs.length/\∀i (h1:i<as.length) (h2:i<rs.length),H as[i]=some (.lst (rs[i].map V.int))
inductive EqD (K:Frag) (H:Hp):Nat->V->V->Bool->Prop
 |flat {n:Nat}{x y:V} (fx:flatV x=true) (fy:flatV y=true):EqD K H n x y (eqV x y)
 |lst {n:Nat}{a b:Addr}{xs ys:List V} (e:Nat->Bool) (hx:SqL K H a xs) (hy:SqL K H b ys) (hl:xs.length=ys.length) (h:∀j x y,xs[j]?=some x->ys[j]?=some y->EqD K H n x y (e j)):EqD K H (n+1) (.ref a) (.ref b) ((List.range xs.length).all e)
 |len {n:Nat}{a b:Addr}{xs ys:List V} (hx:SqL K H a xs) (hy:SqL K H b ys) (hl:xs.length≠ys.length):EqD K H (n+1) (.ref a) (.ref b) false
 |tup {n:Nat}{a b:Addr}{xs ys:List V} (e:Nat->Bool) (hx:SqT K H a xs) (hy:SqT K H b ys) (h:∀j x y,xs[j]?=some x->ys[j]?=some y->EqD K H n x y (e j)):EqD K H (n+1) (.ref a) (.ref b) ((List.range (min xs.length ys.length)).all e&&xs.length==ys.length)
theorem Zp0 {x:V} (h:flatV x=true):eqV x x=true:=by
 cases x<;>first
  |rfl
  |(simp[eqV];done)
  |cases h
section
variable {X:Cx}{pins:List (Addr×Obj)}{σ:St}{H:Hp}{s:Shared}
theorem ZkR (I:Inv X pins σ H s) {n:Nat}{x y:V}{b:Bool} (h:EqD X.K H n x y b):x=y->b=true:=by
 induction h with
 |flat fx fy=>rintro rfl;exact Zp0 fx
 |lst e hx hy hl h ih =>
  intro z
  cases z
  have:=I.Zdc hx hy
  subst this
  refine List.all_eq_true.mpr λj hj=>?_
  have hj':=Yw.mp hj
  exact ih j _ _ (Yi hj') (Yi hj') rfl
 |len hx hy hl =>
  intro z
  cases z
  have:=I.Zdc hx hy
  subst this
  exact absurd rfl hl
 |tup e hx hy h ih =>
  intro z
  cases z
  have:=I.ZeN hx hy
  subst this
  rw[Nat.min_self]
  have:(List.range _).all e=true:=List.all_eq_true.mpr λj hj=>by
   have hj':=Yw.mp hj
   exact ih j _ _ (Yi hj') (Yi hj') rfl
  rw[this];simp
theorem ZhI (I:Inv X pins σ H s) {n:Nat}{x y:V}{b:Bool} (h:EqD X.K H n x y b):∀(A:Around) (u v:Value),A.units+n<cLine->RelV x u->RelV y v->SeqAt.EqAt A s u v b:=by
 induction h with
 |flat fx fy=>intro A u v _ ru rv;exact ZpP ru rv fx fy
 |@lst n a b xs ys e hx hy hl h ih =>
  intro A u v hu ru rv
  have hb:=ZkR I (.lst e hx hy hl h)
  cases ru
  cases rv
  by_cases hab:a=b
  ·subst hab
   rw[hb rfl];exact SeqAt.EqAt.same _
  ·obtain⟨is1,r1,p1,_⟩:=I.list hx
   obtain⟨is2,r2,p2,_⟩:=I.list hy
   have e1:=r1.length
   have e2:=r2.length
   have key:=SeqAt.RcAt.lists (A:=A) (s:=s) (e:=e) p1.isList p2.isList (by simp;omega) (by omega) λj h1 h2=>by
    have h1':j<xs.length:=by simpa[e1]using h1
    have h2':j<ys.length:=by simpa[e2]using h2
    obtain⟨u,hu1,ru⟩:=r1.get (Yi h1')
    obtain⟨v,hv1,rv⟩:=r2.get (Yi h2')
    have eu:is1.toArray[j]=u:=by simpa using(Yx.mp hu1).2
    have ev:is2.toArray[j]=v:=by simpa using(Yx.mp hv1).2
    rw[eu,ev]
    exact ih j _ _ (Yi h1') (Yi h2') A.in1 u v (by show A.units+1+n<cLine;omega) ru rv
   have e3:is1.toArray.size=xs.length:=by simp[e1]
   rw[e3]at key
   exact SeqAt.EqAt.of_refs hab key
 |@len n a b xs ys hx hy hl =>
  intro A u v hu ru rv
  cases ru
  cases rv
  have hab:a≠b:=λz=>by subst z;exact hl (congrArg List.length (I.Zdc hx hy))
  obtain⟨is1,r1,p1,_⟩:=I.list hx
  obtain⟨is2,r2,p2,_⟩:=I.list hy
  have e1:=r1.length
  have e2:=r2.length
  exact SeqAt.EqAt.of_refs hab (SeqAt.RcAt.lists_lengths p1.isList p2.isList (by simp;omega) (by omega))
 |@tup n a b xs ys e hx hy h ih =>
  intro A u v hu ru rv
  have hb:=ZkR I (.tup e hx hy h)
  cases ru
  cases rv
  by_cases hab:a=b
  ·subst hab
   rw[hb rfl];exact SeqAt.EqAt.same _
  ·obtain⟨is1,r1,p1,_⟩:=I.tuple hx
   obtain⟨is2,r2,p2,_⟩:=I.tuple hy
   have e1:=r1.length
   have e2:=r2.length
   have key:=SeqAt.RcAt.tuples (A:=A) (s:=s) (e:=e) p1 p2 (by omega) λj h1 h2=>by
    have h1':j<xs.length:=by simpa[e1]using h1
    have h2':j<ys.length:=by simpa[e2]using h2
    obtain⟨u,hu1,ru⟩:=r1.get (Yi h1')
    obtain⟨v,hv1,rv⟩:=r2.get (Yi h2')
    have eu:is1.toArray[j]=u:=by simpa using(Yx.mp hu1).2
    have ev:is2.toArray[j]=v:=by simpa using(Yx.mp hv1).2
    rw[eu,ev]
    exact ih j _ _ (Yi h1') (Yi h2') A.in1 u v (by show A.units+1+n<cLine;omega) ru rv
   have e3:is1.toArray.size=xs.length:=by simp[e1]
   have e4:is2.toArray.size=ys.length:=by simp[e2]
   rw[e3,e4]at key
   exact SeqAt.EqAt.of_refs hab key
end
noncomputable def rEqD (K:Frag) (neg:Bool):R2:=λx y H Q=>∃a b k,x=.ref a/\y=.ref b/\EqD K H 3 x y k/\Q (.bl (if neg then !k else k)) H
section
variable {X:Cx}
theorem op_eqD {K:Frag} (hK:X.K=K) {k:Nat} (hr:Room k X.A):OpR X (compareOp .Eq) (rEqD K false):=by
 subst hK
 have hu0:=hr.un
 intro pins s σ H x y v u Q I rx ry h
 obtain⟨a,b,k,rfl,rfl,h,q⟩:=h
 cases rx
 cases ry
 cases h with
 |flat fx fy=>cases fx
 |@lst n _ _ xs ys e hx hy hl h =>
  obtain⟨is1,r1,p1,_⟩:=I.list hx
  obtain⟨is2,r2,p2,_⟩:=I.list hy
  have e1:=r1.length
  have e2:=r2.length
  have e3:is1.toArray.size=xs.length:=by simp[e1]
  refine SeqAt.eq_listAt (e:=e) p1.isList p2.isList (by simp;omega) (by omega) (λj h1 h2=>?_) ⟨.bl _,H,I,rfl,by rw[e3];exact q⟩
  have h1':j<xs.length:=by simpa[e1]using h1
  have h2':j<ys.length:=by simpa[e2]using h2
  obtain⟨u,hu1,ru⟩:=r1.get (Yi h1')
  obtain⟨v,hv1,rv⟩:=r2.get (Yi h2')
  have eu:is1.toArray[j]=u:=by simpa using(Yx.mp hu1).2
  have ev:is2.toArray[j]=v:=by simpa using(Yx.mp hv1).2
  rw[eu,ev]
  exact ZhI I (h j _ _ (Yi h1') (Yi h2')) X.A.in1 u v (by show X.A.units+1+2<cLine;omega) ru rv
 |@len n _ _ xs ys hx hy hl =>
  obtain⟨is1,r1,p1,_⟩:=I.list hx
  obtain⟨is2,r2,p2,_⟩:=I.list hy
  have e1:=r1.length
  have e2:=r2.length
  exact SeqAt.eq_list_lengthsAt p1.isList p2.isList (by simp;omega) (by omega) ⟨.bl _,H,I,rfl,q⟩
 |@tup n _ _ xs ys e hx hy h =>
  obtain⟨is1,r1,p1,_⟩:=I.tuple hx
  obtain⟨is2,r2,p2,_⟩:=I.tuple hy
  have e1:=r1.length
  have e2:=r2.length
  have e3:is1.toArray.size=xs.length:=by simp[e1]
  have e4:is2.toArray.size=ys.length:=by simp[e2]
  refine SeqAt.eq_tupleAt (e:=e) p1 p2 (by omega) (λj h1 h2=>?_) ⟨.bl _,H,I,rfl,by rw[e3,e4];exact q⟩
  have h1':j<xs.length:=by simpa[e1]using h1
  have h2':j<ys.length:=by simpa[e2]using h2
  obtain⟨u,hu1,ru⟩:=r1.get (Yi h1')
  obtain⟨v,hv1,rv⟩:=r2.get (Yi h2')
  have eu:is1.toArray[j]=u:=by simpa using(Yx.mp hu1).2
  have ev:is2.toArray[j]=v:=by simpa using(Yx.mp hv1).2
  rw[eu,ev]
  exact ZhI I (h j _ _ (Yi h1') (Yi h2')) X.A.in1 u v (by show X.A.units+1+2<cLine;omega) ru rv
theorem op_neD {K:Frag} (hK:X.K=K) {k:Nat} (hr:Room k X.A):OpR X (compareOp .NotEq) (rEqD K true):=by
 subst hK
 have hu0:=hr.un
 intro pins s σ H x y v u Q I rx ry h
 obtain⟨a,b,k,rfl,rfl,h,q⟩:=h
 cases rx
 cases ry
 cases h with
 |flat fx fy=>cases fx
 |@lst n _ _ xs ys e hx hy hl h =>
  obtain⟨is1,r1,p1,_⟩:=I.list hx
  obtain⟨is2,r2,p2,_⟩:=I.list hy
  have e1:=r1.length
  have e2:=r2.length
  have e3:is1.toArray.size=xs.length:=by simp[e1]
  refine SeqAt.RcNeAt.lists (e:=e) p1.isList p2.isList (by simp;omega) (by omega) (λj h1 h2=>?_) _ _ _ _ ⟨.bl _,H,I,rfl,by rw[e3];exact q⟩
  have h1':j<xs.length:=by simpa[e1]using h1
  have h2':j<ys.length:=by simpa[e2]using h2
  obtain⟨u,hu1,ru⟩:=r1.get (Yi h1')
  obtain⟨v,hv1,rv⟩:=r2.get (Yi h2')
  have eu:is1.toArray[j]=u:=by simpa using(Yx.mp hu1).2
  have ev:is2.toArray[j]=v:=by simpa using(Yx.mp hv1).2
  rw[eu,ev]
  exact ZhI I (h j _ _ (Yi h1') (Yi h2')) X.A.in1 u v (by show X.A.units+1+2<cLine;omega) ru rv
 |@len n _ _ xs ys hx hy hl =>
  obtain⟨is1,r1,p1,_⟩:=I.list hx
  obtain⟨is2,r2,p2,_⟩:=I.list hy
  have e1:=r1.length
  have e2:=r2.length
  exact SeqAt.RcNeAt.lists_lengths p1.isList p2.isList (by simp;omega) (by omega) _ _ _ _ ⟨.bl _,H,I,rfl,q⟩
 |@tup n _ _ xs ys e hx hy h =>
  obtain⟨is1,r1,p1,_⟩:=I.tuple hx
  obtain⟨is2,r2,p2,_⟩:=I.tuple hy
  have e1:=r1.length
  have e2:=r2.length
  have e3:is1.toArray.size=xs.length:=by simp[e1]
  have e4:is2.toArray.size=ys.length:=by simp[e2]
  refine SeqAt.RcNeAt.tuples (e:=e) p1 p2 (by omega) (λj h1 h2=>?_) _ _ _ _ ⟨.bl _,H,I,rfl,by rw[e3,e4];exact q⟩
  have h1':j<xs.length:=by simpa[e1]using h1
  have h2':j<ys.length:=by simpa[e2]using h2
  obtain⟨u,hu1,ru⟩:=r1.get (Yi h1')
  obtain⟨v,hv1,rv⟩:=r2.get (Yi h2')
  have eu:is1.toArray[j]=u:=by simpa using(Yx.mp hu1).2
  have ev:is2.toArray[j]=v:=by simpa using(Yx.mp hv1).2
  rw[eu,ev]
  exact ZhI I (h j _ _ (Yi h1') (Yi h2')) X.A.in1 u v (by show X.A.units+1+2<cLine;omega) ru rv
end
noncomputable def IsI (v:V) (i:Int):Prop:=v=.int i
noncomputable def IsL (K:Frag) (H:Hp) {α:Type} (P:V->α->Prop) (v:V) (as:List α):Prop:=∃a xs,v=.ref a/\SqL K H a xs/\xs.length=as.length/\∀(j:Nat) (x:V) (y:α),xs[j]?=some x->as[j]?=some y->P x y
noncomputable def IsT (K:Frag) (H:Hp) {α:Type} (P:V->α->Prop) (v:V) (as:List α):Prop:=∃a xs,v=.ref a/\SqT K H a xs/\xs.length=as.length/\∀(j:Nat) (x:V) (y:α),xs[j]?=some x->as[j]?=some y->P x y
noncomputable def EqP (K:Frag) (H:Hp) (n:Nat) {α:Type} [DecidableEq α] (P:V->α->Prop):Prop:=∀x y a b,P x a->P y b->EqD K H n x y (decide (a=b))
theorem ZjY {K:Frag}{H:Hp}{n:Nat}:EqP K H n IsI:=by
 rintro x y a b rfl rfl
 have:=EqD.flat (K:=K) (H:=H) (n:=n) (x:=.int a) (y:=.int b) rfl rfl
 have e:eqV (.int a) (.int b)=decide (a=b):=by simp[eqV,Bool.beq_eq_decide_eq]
 rw[<-e];exact this
theorem all_eq {α:Type} [DecidableEq α] (as bs:List α) (h:as.length=bs.length):(List.range as.length).all (λj=>decide (as[j]?=bs[j]?))=decide (as=bs):=by
 rw[Bool.eq_iff_iff,List.all_eq_true,decide_eq_true_iff]
 constructor
 ·intro q
  refine List.ext_getElem? λj=>?_
  by_cases hj:j<as.length
  ·simpa using q j (Yw.mpr hj)
  ·rw[List.getElem?_eq_none (by omega),List.getElem?_eq_none (by omega)]
 ·rintro rfl j _;simp
theorem Zr8 {K:Frag}{H:Hp}{n:Nat}{α:Type} [DecidableEq α] {P:V->α->Prop} (h:EqP K H n P):EqP K H (n+1) (IsL K H P):=by
 rintro x y as bs ⟨a,xs,rfl,hx,lx,px⟩ ⟨b,ys,rfl,hy,ly,py⟩
 by_cases hl:as.length=bs.length
 ·rw[<-all_eq as bs hl,<-lx]
  refine .lst _ hx hy (by omega) λj x y h1 h2=>?_
  have j1:=(Yx.mp h1).1
  have j2:=(Yx.mp h2).1
  have ha:as[j]?=some as[j]:=Yi (by omega)
  have hb:bs[j]?=some bs[j]:=Yi (by omega)
  have:=h x y _ _ (px j _ _ h1 ha) (py j _ _ h2 hb)
  rw[ha,hb]
  simpa using this
 ·have e:decide (as=bs)=false:=by simp;intro z;exact hl (congrArg List.length z)
  rw[e]
  exact .len hx hy (by omega)
theorem Zns {K:Frag}{H:Hp}{n:Nat}{α:Type} [DecidableEq α] {P:V->α->Prop} (h:EqP K H n P):EqP K H (n+1) (IsT K H P):=by
 rintro x y as bs ⟨a,xs,rfl,hx,lx,px⟩ ⟨b,ys,rfl,hy,ly,py⟩
 have key:=EqD.tup (K:=K) (H:=H) (n:=n) (λj=>decide (as[j]?=bs[j]?)) hx hy λj x y h1 h2=>by
  have j1:=(Yx.mp h1).1
  have j2:=(Yx.mp h2).1
  have ha:as[j]?=some as[j]:=Yi (by omega)
  have hb:bs[j]?=some bs[j]:=Yi (by omega)
  have:=h x y _ _ (px j _ _ h1 ha) (py j _ _ h2 hb)
  rw[ha,hb]
  simpa using this
 have e:((List.range (min xs.length ys.length)).all (λj=>decide (as[j]?=bs[j]?))&&xs.length==ys.length)=decide (as=bs):=by
  rw[lx,ly]
  by_cases hl:as.length=bs.length
  ·rw[<-hl,Nat.min_self,all_eq as bs hl];simp
  ·have e:decide (as=bs)=false:=by simp;intro z;exact hl (congrArg List.length z)
   rw[e]
   simp[hl]
 rw[e]at key
 exact key
theorem ZkS {K:Frag}{H:Hp}{a:Addr}{ns:List Int} (h:SqL K H a (ns.map V.int)):IsL K H IsI (.ref a) ns:=⟨a,_,rfl,h,by simp,λj x y h1 h2=>by
 rw[YL,h2]at h1
 exact(YN h1).symm⟩
theorem ZfK {K:Frag}{H:Hp}{a:Addr}{ns:List Int} (h:SqT K H a (ns.map V.int)):IsT K H IsI (.ref a) ns:=⟨a,_,rfl,h,by simp,λj x y h1 h2=>by
 rw[YL,h2]at h1
 exact(YN h1).symm⟩
section
variable {X:Cx}
noncomputable def Zp1 (ta:TA):TE:=fun σ H Q=>ta σ H λvs H1=>∃j:Int,vs=[.int j]/\-(2 ^ 62)<=j/\j<2 ^ 62/\∀p,H1 p=none->Q (.ref p) (upd H1 p (.rng 0 j))
theorem Zn9 {a:Expr}{ta:TA}{p pos:Pos} (hg:Gl X "range") (hm:X.mg "range"=none) (ha:PA X [a] ta) (hs:starEach [a] X.env=[(false,eval a X.env)]:=by rfl):PE X (.Call (.Name "range" p) [a] [] pos) (Zp1 ta):=by
 intro pins s σ H Q I h
 refine wpAny_Call_Name_kw (Zcn I hg hm boot_range (PyProof.Rows.callWith_type1 (thn (ha pos pins s σ H _ I h) λus s1 ⟨vs,H1,I1,r1,q1⟩=>?_) hs rfl))
 obtain⟨j,e,q1,q2,q⟩:=q1
 subst e
 obtain⟨u,rfl,ru⟩:=r1.one
 obtain⟨t,rfl⟩:=ru
 refine call_range_1 ⟨.ref s1.heap.objs.size,_,I1.laid (λb o e=>Yh _ e) (Ye _) ?_,rfl,q _ (I1.hok.fresh (Ye _))⟩
 exact⟨_,_,_,Yt _ rfl⟩
theorem Zr9 {g:Nat->V}{P:Nat->Value->Prop} (hP:∀i v,P i v->RelV (g i) v):∀(n:Nat) (us:List Value),us.length=n->(∀(j:Nat) (v:Value),us[j]?=some v->P j v)->Vals ((List.range n).map g) us:=by
 intro n
 induction n with
 |zero =>
  intro us hl _
  cases us with
  |nil=>exact .nil
  |cons _ _=>cases hl
 |succ n ih =>
  intro us hl h
  have hne:us≠[]:=λz=>by rw[z]at hl;cases hl
  rw[YY,YI,<-List.dropLast_concat_getLast hne]
  have hl2:us.dropLast.length=n:=by rw[List.length_dropLast,hl];rfl
  refine(ih us.dropLast hl2 λj v hj=>?_).append (.cons ?_ .nil)
  ·have hj2:=(Yx.mp hj).1
   refine h j v ?_
   rw[List.getElem?_dropLast]at hj
   split at hj
   ·exact hj
   ·cases hj
  ·refine hP n _ (h n _ ?_)
   rw[List.getLast_eq_getElem]
   rw[Yx]
   refine⟨by omega,?_⟩
   congr 1
   omega
noncomputable def rAll (K:Frag):List V->Hp->VK->Prop:=λxs H Q=>∃(p:Addr) (bs:List Bool),xs=[.ref p]/\SqL K H p (bs.map V.bl)/\Q (.bl (bs.all id)) H
noncomputable def rAny (K:Frag):List V->Hp->VK->Prop:=λxs H Q=>∃(p:Addr) (bs:List Bool),xs=[.ref p]/\SqL K H p (bs.map V.bl)/\Q (.bl (bs.any id)) H
theorem all_ix (bs:List Bool):(List.range bs.length).all (λi=>bs.getD i false)=bs.all id:=by
 rw[Bool.eq_iff_iff,List.all_eq_true,List.all_eq_true]
 constructor
 ·intro h x hx
  obtain⟨j,hj,rfl⟩:=YZ hx
  have:=h j (Yw.mpr hj)
  simpa[Yn,hj]using this
 ·intro h j hj
  have hj':=Yw.mp hj
  have:=h _ (YC hj')
  simpa[Yn,hj']using this
theorem any_ix (bs:List Bool):(List.range bs.length).any (λi=>bs.getD i false)=bs.any id:=by
 rw[Bool.eq_iff_iff,List.any_eq_true,List.any_eq_true]
 constructor
 ·rintro⟨j,hj,e⟩
  have hj':=Yw.mp hj
  exact⟨_,YC hj',by simpa[Yn,hj']using e⟩
 ·rintro⟨x,hx,e⟩
  obtain⟨j,hj,rfl⟩:=YZ hx
  exact⟨j,Yw.mpr hj,by simpa[Yn,hj]using e⟩
theorem ZgL {prog:Program}{w:World}{A:Around}{bs:List Bool}{its:List Value} (r:Vals (bs.map V.bl) its):TruthOf prog w A (λi v=>its.toArray[i]?=some v) (λi=>bs.getD i false):=by
 intro i v s Q E hv hq
 have hv':its[i]?=some v:=by simpa using hv
 have hl:=r.length
 have hi:i<bs.length:=by
  have:=(Yx.mp hv').1
  rw[Yf]at hl;omega
 obtain⟨u,hu,ru⟩:=r.get (i:=i) (x:=V.bl bs[i]) (by rw[YL,Yi hi];rfl)
 rw[hv']at hu
 cases hu
 cases ru
 refine wpAny_truthy_bool ?_
 simpa[Yn,hi]using hq
theorem Zp2 {K:Frag} (hK:X.K=K) (hc:X.calm=true):ZaF X (.builtin "all") (rAll K):=by
 subst hK
 intro pins s σ H xs us Q I r h
 obtain⟨p,bs,rfl,hp,q⟩:=h
 obtain⟨u,rfl,ru⟩:=r.one
 cases(show u=Value.ref p from ru)
 obtain⟨its,r',pl,hz⟩:=I.list hp
 have hl:=r'.length
 refine call_all_walk (wpAny_pyIter_list pl.isList ?_)
 have hne:p≠s.heap.objs.size:=by obtain⟨o,e,_⟩:=pl.isList;exact Yp (Yk e)
 refine⟨s.heap.objs.size,_,_,_,_,_,λi=>bs.getD i false,rfl,Walks.list (A:=X.A.in1) (show X.A.in1.handled=none from I.ok.hd hc) _ p hne its.toArray,⟨⟨_,Yt _ rfl,rfl,rfl⟩,pl.isList.push _⟩,ZgL r',λh' tk kp=>?_⟩
 have e1:its.toArray.size=bs.length:=by rw[Yv];rw[Yf]at hl;omega
 rw[e1,all_ix]
 exact⟨.bl _,H,I.kept (t':=tk) λb o e=>kp b o (by simp;exact Yp (Yk e)) (Yh _ e),rfl,q⟩
theorem Zp3 {K:Frag} (hK:X.K=K) (hc:X.calm=true):ZaF X (.builtin "any") (rAny K):=by
 subst hK
 intro pins s σ H xs us Q I r h
 obtain⟨p,bs,rfl,hp,q⟩:=h
 obtain⟨u,rfl,ru⟩:=r.one
 cases(show u=Value.ref p from ru)
 obtain⟨its,r',pl,hz⟩:=I.list hp
 have hl:=r'.length
 refine call_any_walk (wpAny_pyIter_list pl.isList ?_)
 have hne:p≠s.heap.objs.size:=by obtain⟨o,e,_⟩:=pl.isList;exact Yp (Yk e)
 refine⟨s.heap.objs.size,_,_,_,_,_,λi=>bs.getD i false,rfl,Walks.list (A:=X.A.in1) (show X.A.in1.handled=none from I.ok.hd hc) _ p hne its.toArray,⟨⟨_,Yt _ rfl,rfl,rfl⟩,pl.isList.push _⟩,ZgL r',λh' tk kp=>?_⟩
 have e1:its.toArray.size=bs.length:=by rw[Yv];rw[Yf]at hl;omega
 rw[e1,any_ix]
 exact⟨.bl _,H,I.kept (t':=tk) λb o e=>kp b o (by simp;exact Yp (Yk e)) (Yh _ e),rfl,q⟩
noncomputable def rIxQ (K:Frag):R2:=λx y H Q=>∃p xs i v,x=.ref p/\y=.int i/\(SqL K H p xs\/SqT K H p xs)/\atI xs i=some v/\Q v H
theorem ix_q {K:Frag} (hK:X.K=K):IxR X (rIxQ K):=by
 subst hK
 intro value slice pins s σ H x y v u Q I rx ry h hs
 refine(Zv.or Zaa) (value:=value) (slice:=slice) pins s σ H x y v u Q I rx ry ?_ hs
 obtain⟨p,xs,i,v,rfl,rfl,hq,ha,q⟩:=h
 rcases hq with hq|hq
 ·exact .inl ⟨p,xs,i,v,rfl,rfl,hq,ha,q⟩
 ·exact .inr ⟨p,xs,i,v,rfl,rfl,hq,ha,q⟩
theorem bt_all:bootBuiltins "all"=some (.builtin "all"):=by decide +kernel
theorem bt_any:bootBuiltins "any"=some (.builtin "any"):=by decide +kernel
end
noncomputable def nth (ns:List Int) (i:Nat):Int:=ns.getD i 0
theorem Zay {ns:List Int}{i:Nat} (h:i<ns.length):atI (ns.map V.int) (i:Int)=some (V.int (nth ns i)):=by
 rw[ZhF rfl (by simpa using h)]
 simp[nth,Yn,h]
noncomputable def WI (N:Nat) (Pv:Nat->St->Hp->Prop) (m:Nat) (σ:St) (H:Hp):Prop:=∃i,m=N-i/\i<=N/\Pv i σ H
theorem WI.next {N:Nat}{Pv:Nat->St->Hp->Prop}{i:Nat}:∀σ' H',(i+1<=N/\Pv (i+1) σ' H')->∃m',m'<N-i/\WI N Pv m' σ' H':=fun σ' H' h=>⟨N-(i+1),by omega,i+1,rfl,h.1,h.2⟩
theorem Znt {c:TT}{tb:TS}{D:Ends}{σ:St}{H:Hp} (N:Nat) (Pv:Nat->St->Hp->Prop) (h0:Pv 0 σ H)
  (hs:∀i σ H,i<=N->Pv i σ H->c σ H λb H1=>if b=true then ∃Nx:St->Hp->Prop,(∀σ' H',Nx σ' H'->∃m',m'<N-i/\WI N Pv m' σ' H')/\tb {D with nx:=Nx,ct:=Nx,bk:=D.nx} σ H1 else D.nx σ H1):Zmb c tb D σ H:=by
 refine⟨WI N Pv,⟨N,0,rfl,Yr _,h0⟩,?_⟩
 rintro m σ H ⟨i,rfl,hi,p⟩
 exact hs i σ H hi p
theorem Ze.Zoa {K:Frag}{H H':Hp}{a:Addr}{xs:List V} (e:Ze H H') (h:SqT K H a xs):SqT K H' a xs:=by
 rcases h with(h|⟨o,h⟩)|h
 ·exact .inl (.inl (e _ _ h))
 ·exact .inl (.inr ⟨o,e _ _ h⟩)
 ·exact .inr h
theorem Ze.q {K:Frag}{H H':Hp}{a:Addr}{xs:List V} (e:Ze H H') (h:SqL K H a xs\/SqT K H a xs):SqL K H' a xs\/SqT K H' a xs:=h.imp e.seq e.Zoa
theorem Exc.trans {p:Addr}{H H1 H2:Hp} (a:Exc p H H1) (b:Exc p H1 H2):Exc p H H2:=λc o n z=>b c o n (a c o n z)
theorem Exc.free {p q:Addr}{H H':Hp} (e:Exc p H H') (n:q≠p) (h:H' q=none):H q=none:=by
 cases z:H q with
 |none=>rfl
 |some o=>rw[e q o n z]at h;cases h
theorem Exc.ZjZ {p q:Addr}{H H':Hp}{o:HO} (e:Exc p H H') (h:H q=none):Exc p H (L2.upd H' q o):=λb u n z=>by
 rw[Zg (Zy z h)];exact e b u n z
theorem Exc.same {p:Addr}{H H1 H2:Hp} (a:Exc p H H1) (s:Ze H1 H2):Exc p H H2:=a.trans s.ZpW
section
variable {X:Cx}{a b c d:Expr}{ta tb tc td:TE}{pos:Pos}
noncomputable def iSeq (K:Frag) (tl:TE):TI:=fun σ H R=>tl σ H λx H1=>∃a,x=.ref a/\(((∃xs,SqL K H1 a xs)/\R (Itl K a) H1)\/((∃xs,SqT K H1 a xs)/\R (Itt K a) H1))
theorem pi_seq {tg l:Expr}{tl:TE}{K:Frag} (hK:X.K=K) (hl:PE X l tl):PI X tg l (iSeq K tl):=by
 subst hK
 intro pins s σ H R I h
 refine thn (hl pins s σ H _ I h) λv s1 ⟨x,H1,I1,r1,q1⟩=>?_
 obtain⟨a,e,q1⟩:=q1
 subst e
 cases r1
 rcases q1 with⟨⟨xs,hq⟩,q⟩|⟨⟨xs,hq⟩,q⟩
 ·obtain⟨its,rv,p,hz⟩:=I1.list hq
  refine wpAny_pyIter_list p.isList ?_
  refine⟨s1.heap.objs.size,[s1.heap.objs.size],_,_,H1,rfl,I1.kept (t':=s1.toks) λb o e=>Yh _ e,Zjc a _,⟨_,Yt _ rfl,rfl,rfl⟩,λb hb=>?_,q⟩
  have e:b=s1.heap.objs.size:=by simpa using hb
  subst e
  exact I1.ZkG (Ye _) (I1.hok.fresh (Ye _))
 ·obtain⟨its,rv,p,hz⟩:=I1.tuple hq
  refine wpAny_pyIter_tuple (show s1.heap.IsTuple a its.toArray from p) ?_
  refine⟨s1.heap.objs.size,[s1.heap.objs.size],_,_,H1,rfl,I1.kept (t':=s1.toks) λb o e=>Yh _ e,Zhx a _,⟨_,Yt _ rfl,rfl,rfl⟩,λb hb=>?_,q⟩
  have e:b=s1.heap.objs.size:=by simpa using hb
  subst e
  exact I1.ZkG (Ye _) (I1.hok.fresh (Ye _))
end
noncomputable def CA (n:Nat) (Pv:Nat->List V->Hp->Prop) (i m:Nat) (acc:List V) (H:Hp):Prop:=m=n-i/\i<=n/\acc.length<=i/\Pv i acc H
theorem CA.take {n:Nat}{Pv:Nat->List V->Hp->Prop}{i:Nat}{acc:List V}{v:V}{H:Hp} (hi:i<n) (hl:acc.length<=i) (h:Pv (i+1) (acc++[v]) H):∃m',m'<n-i/\CA n Pv (i+1) m' (acc++[v]) H:=⟨n-(i+1),by omega,rfl,hi,by simp;omega,h⟩
theorem CA.skip {n:Nat}{Pv:Nat->List V->Hp->Prop}{i:Nat}{acc:List V}{H:Hp} (hi:i<n) (hl:acc.length<=i) (h:Pv (i+1) acc H):∃m',m'<n-i/\CA n Pv (i+1) m' acc H:=⟨n-(i+1),by omega,rfl,hi,by omega,h⟩
theorem ZfL {J:It}{n:Nat}{H1:Hp}{g:TG}{tt:TT}{te:TE}{σ0:St}{Q:VK} (Pv:Nat->List V->Hp->Prop) (hn:n<sizeLine) (h0:Pv 0 [] H1) (hgo:∀i acc H,Pv i acc H->i<n->J.go i H) (hstop:∀acc H,Pv n acc H->J.stop n H)
  (hb:∀i x acc H H',i<n->acc.length<=i->Pv i acc H->J.yld i H x H'->g x σ0 H' fun σ2 H2=>tt σ2 H2 λb H3=>if b=true then te σ2 H3 λv H4=>∃m',m'<n-i/\CA n Pv (i+1) m' (acc++[v]) H4 else ∃m',m'<n-i/\CA n Pv (i+1) m' acc H3)
  (hk:∀l acc H',Pv n acc H'->acc.length<=n->H' l=none->Q (.ref l) (upd H' l (.lst acc))):ZgK J g tt te σ0 Q H1:=by
 refine⟨CA n Pv,⟨n,rfl,Yr _,Ye _,h0⟩,?_⟩
 rintro i m acc H ⟨rfl,hi,hl,p⟩
 by_cases h:i<n
 ·exact .inr ⟨hgo i acc H p h,by omega,λx H' y=>hb i x acc H H' h hl p y⟩
 ·have e:i=n:=by omega
  subst e
  exact .inl ⟨hstop acc H p,by omega,λq hq=>hk q acc H p hl hq⟩
section
variable {X:Cx}
theorem Vals.takeN:∀{xs:List V}{us:List Value} (k:Nat),Vals xs us->Vals (xs.take k) (us.take k)
 |_,_,0,_=>by simp;exact .nil
 |_,_,_+1,.nil=>.nil
 |_,_,k+1,.cons r h=>.cons r (Vals.takeN k h)
end
noncomputable def Zp4:List V->Hp->VK->Prop:=λxs H Q=>∃k,xs=[.bl k]/\Q (.int (if k=true then 1 else 0)) H
theorem ZeR {X:Cx}:ZaF X (.type "int") Zp4:=λpins s σ H xs us Q I r h=>ZnV pins s σ H xs us Q I r (.inr h)
end L2
namespace L2
noncomputable def ZaG (f:Nat->Int) (p q:Nat):Prop:=q<p/\f q<=f p/\∀r,q<r->r<p->f p<f r
noncomputable def Zaz (f:Nat->Int) (n p r:Nat):Prop:=p<r/\r<n/\f r<f p/\∀s,p<s->s<r->f p<=f s
noncomputable def ZcS (f:Nat->Int) (p:Nat):Prop:=∀q,q<p->f p<f q
noncomputable def ZbV (f:Nat->Int) (n p:Nat):Prop:=∀r,p<r->r<n->f p<=f r
noncomputable def ZL (f:Nat->Int) (n p:Nat) (e:Int):Prop :=
 (ZcS f p/\ZbV f n p/\e=-1)\/(∃q,ZaG f p q/\ZbV f n p/\e=q)\/(∃r,ZcS f p/\Zaz f n p r/\e=r) \/
 ∃q r,ZaG f p q/\Zaz f n p r/\e=if f q<=f r then (r:Int)else q
theorem ZkT {P:Nat->Prop} [DecidablePred P] (i:Nat):∀d r,r+d=i->P r->∃t,r<=t/\t<=i/\P t/\∀s,t<s->s<=i->¬ P s:=by
 intro d
 induction d with
 |zero=>intro r e h;exact⟨r,Ye _,by omega,h,λs h1 h2=>by omega⟩
 |succ d ih =>
  intro r e h
  by_cases hx:∃t,r<t/\t<=i/\P t
  ·obtain⟨t,h1,h2,h3⟩:=hx
   -- step to r+1 by cases
   by_cases h4:P (r+1)
   ·obtain⟨u,u1,u2,u3,u4⟩:=ih (r+1) (by omega) h4
    exact⟨u,by omega,u2,u3,u4⟩
   ·-- go on from the next one
    have gen:∀k t,t+k=i->r<t->P t->∃u,r<=u/\u<=i/\P u/\∀s,u<s->s<=i->¬ P s:=by
     intro k
     induction k with
     |zero=>intro t e h1 h3;exact⟨t,by omega,by omega,h3,λs h1 h2=>by omega⟩
     |succ k ihk =>
      intro t e h1 h3
      by_cases hy:∃s,t<s/\s<=i/\P s
      ·-- the last one of the rest
       have key:∀m,m<=i->(∃s,t<s/\s<=m/\P s)->∃u,t<u/\u<=m/\P u/\∀s,u<s->s<=m->¬ P s:=by
        intro m
        induction m with
        |zero=>rintro _ ⟨s,h5,h6,_⟩;omega
        |succ m ihm =>
         rintro hm ⟨s,h5,h6,h7⟩
         by_cases hp:P (m+1)
         ·exact⟨m+1,by omega,Ye _,hp,λs h1 h2=>by omega⟩
         ·have hs:s<=m:=by
           rcases Nat.lt_or_ge m s with z|z
           ·have:s=m+1:=by omega
            rw[this]at h7;exact absurd h7 hp
           ·exact z
          obtain⟨u,u1,u2,u3,u4⟩:=ihm (by omega) ⟨s,h5,hs,h7⟩
          refine⟨u,u1,by omega,u3,λs' h1 h2=>?_⟩
          by_cases e:s'=m+1
          ·rw[e];exact hp
          ·exact u4 s' h1 (by omega)
       obtain⟨u,u1,u2,u3,u4⟩:=key i (Ye _) hy
       exact⟨u,by omega,u2,u3,u4⟩
      ·exact⟨t,by omega,by omega,h3,λs h1 h2 h5=>hy ⟨s,h1,h2,h5⟩⟩
    exact gen (i-t) t (by omega) h1 h3
  ·exact⟨r,Ye _,by omega,h,λs h1 h2 h3=>hx ⟨s,h1,h2,h3⟩⟩
theorem Zmc {P:Nat->Prop} [DecidablePred P] {n r:Nat} (hr:r<n) (h:P r):∃t,r<=t/\t<n/\P t/\∀s,t<s->s<n->¬ P s:=by
 obtain⟨t,h1,h2,h3,h4⟩:=ZkT (P:=P) (n-1) (n-1-r) r (by omega) h
 exact⟨t,h1,by omega,h3,λs a b=>h4 s a (by omega)⟩
noncomputable def Zjk (f:Nat->Int) (i:Nat) (sp:List Nat):Prop:=sp.Pairwise (· < ·)/\∀q,q∈sp↔q<i/\∀r,q<r->r<i->f q<=f r
theorem Znu (f:Nat->Int) (p:Nat):ZcS f p\/∃q,ZaG f p q:=by
 by_cases h:∃q,q<p/\f q<=f p
 ·obtain⟨q,h1,h2⟩:=h
  obtain⟨t,_,t2,t3,t4⟩:=Zmc (P:=λq=>f q<=f p) h1 h2
  exact .inr ⟨t,t2,t3,λr a b=>by have:=t4 r a b;omega⟩
 ·exact .inl λq hq=>by
   have:¬ (f q<=f p):=λz=>h ⟨q,hq,z⟩
   omega
theorem Zob {f:Nat->Int}{i p q:Nat} (hp:p<i) (ho:∀r,p<r->r<i->f p<=f r) (h:ZaG f p q):(∀r,q<r->r<i->f q<=f r)/\∀s,q<s->s<p->¬ ∀r,s<r->r<i->f s<=f r:=by
 obtain⟨h1,h2,h3⟩:=h
 refine⟨λr a b=>?_,λs a b z=>?_⟩
 ·rcases Nat.lt_trichotomy r p with c|c|c
  ·have:=h3 r a c;omega
  ·rw[c];exact h2
  ·have:=ho r c b;omega
 ·have:=z p b hp
  have:=h3 s a b
  omega
theorem ZhJ {f:Nat->Int}{i:Nat}{A B:List Nat} (hs:Zjk f i (A++B)) (hA:∀q∈A,f q<=f i) (hB:∀q∈B,f i<f q) :
  Zjk f (i+1) (A++[i])/\ZL f (i+1) i (match A.getLast? with|some q=>(q:Int)|none=>-1)/\∀p e,p<i->ZL f i p e->ZL f (i+1) p (if B.head?=some p then (i:Int)else e):=by
 obtain⟨hso,hm⟩:=hs
 have hAB:=List.pairwise_append.mp hso
 have noNx:ZbV f (i+1) i:=λr a b=>by omega
 refine⟨⟨?_,λq=>?_⟩,?_,λp e hp he=>?_⟩
 ·refine List.pairwise_append.mpr ⟨hAB.1,List.pairwise_singleton _ _,λa ha b hb=>?_⟩
  have:b=i:=by simpa using hb
  rw[this]
  exact((hm a).mp (YA _ ha)).1
 ·rw[Yq,Y3]
  constructor
  ·rintro(h|h)
   ·obtain⟨h1,h2⟩:=(hm q).mp (YA _ h)
    refine⟨by omega,λr a b=>?_⟩
    by_cases e:r=i
    ·rw[e];exact hA q h
    ·exact h2 r a (by omega)
   ·subst h;exact⟨by omega,λr a b=>by omega⟩
  ·rintro⟨h1,h2⟩
   by_cases e:q=i
   ·exact .inr e
   ·have hq:q∈A++B:=(hm q).mpr ⟨by omega,λr a b=>h2 r a (by omega)⟩
    rcases Yq.mp hq with h|h
    ·exact .inl h
    ·have:=hB q h
     have:=h2 i (by omega) (by omega)
     omega
 ·-- the elder of i
  rcases Znu f i with h|⟨q,h⟩
  ·have hA0:A=[]:=by
    cases A with
    |nil=>rfl
    |cons a r =>
     have h1:=((hm a).mp (by simp)).1
     have:=hA a (by simp)
     have:=h a h1
     omega
   rw[hA0]
   exact .inl ⟨h,noNx,rfl⟩
  ·have ho:∀r,q<r->r<i->f q<=f r:=λr a b=>by have:=h.2.2 r a b;have:=h.2.1;omega
   have hqA:q∈A:=by
    rcases Yq.mp ((hm q).mpr ⟨h.1,ho⟩)with z|z
    ·exact z
    ·have:=hB q z;have:=h.2.1;omega
   have hlast:A.getLast?=some q:=by
    have hne:A≠[]:=λz=>by rw[z]at hqA;cases hqA
    rw[List.getLast?_eq_some_getLast hne]
    congr 1
    have hl:A.getLast hne∈A:=List.getLast_mem hne
    -- q<=last,and last is not past q
    by_cases e:A.getLast hne=q
    ·exact e
    ·exfalso
     have hlt:q<A.getLast hne:=by
      have hd:=List.dropLast_concat_getLast hne
      have hq2:q∈A.dropLast:=by
       rw[<-hd]at hqA
       rcases Yq.mp hqA with z|z
       ·exact z
       ·exact absurd (by simpa using z) (Ne.symm e)
      have hp2:=hAB.1
      rw[<-hd]at hp2
      exact(List.pairwise_append.mp hp2).2.2 q hq2 _ (by simp)
     have h1:=((hm (A.getLast hne)).mp (YA _ hl)).1
     have:=h.2.2 _ hlt h1
     have:=hA _ hl
     omega
   rw[hlast]
   exact .inr (.inl ⟨q,h,noNx,rfl⟩)
 ·-- the elder of an earlier place
  have nxt:∀r,Zaz f i p r->Zaz f (i+1) p r:=λr ⟨a,b,c,d⟩=>⟨a,by omega,c,d⟩
  by_cases hop:ZbV f i p
  ·have hmem:p∈A++B:=(hm p).mpr ⟨hp,hop⟩
   by_cases hlt:f i<f p
   ·have hnx:Zaz f (i+1) p i:=⟨hp,by omega,hlt,λs a b=>hop s a b⟩
    have hpB:p∈B:=by
     rcases Yq.mp hmem with z|z
     ·have:=hA p z;omega
     ·exact z
    obtain⟨b0,Br,rfl⟩:∃b0 Br,B=b0::Br:=by
     cases B with
     |nil=>cases hpB
     |cons b0 Br=>exact⟨b0,Br,rfl⟩
    have hhead:(b0::Br).head?=some b0:=rfl
    rw[hhead]
    rcases Znu f p with hn|⟨q,hq⟩
    ·-- nothing ahead: p is the first of all
     have e0:b0=p:=by
      by_cases z:b0=p
      ·exact z
      ·exfalso
       have hpr:p∈Br:=by
        rcases Ym.mp hpB with y|y
        ·exact absurd y.symm z
        ·exact y
       have hlt2:b0<p:=(Y0.mp hAB.2.1).1 p hpr
       have:=((hm b0).mp (by simp)).2 p hlt2 hp
       have:=hn b0 hlt2
       omega
     rw[Yd (by rw[e0])]
     exact .inr (.inr (.inl ⟨i,hn,hnx,rfl⟩))
    ·obtain⟨hq1,hq2⟩:=Zob hp hop hq
     have hqm:q∈A++b0::Br:=(hm q).mpr ⟨Nat.lt_trans hq.1 hp,hq1⟩
     by_cases hqi:f q<=f i
     ·-- q is kept: p is the first of B
      have e0:b0=p:=by
       by_cases z:b0=p
       ·exact z
       ·exfalso
        have hpr:p∈Br:=by
         rcases Ym.mp hpB with y|y
         ·exact absurd y.symm z
         ·exact y
        have hlt2:b0<p:=(Y0.mp hAB.2.1).1 p hpr
        have hb0:=(hm b0).mp (by simp)
        have hqA:q∈A:=by
         rcases Yq.mp hqm with y|y
         ·exact y
         ·have:=hB q y;omega
        have hqb:q<b0:=hAB.2.2 q hqA b0 (by simp)
        exact hq2 b0 hqb hlt2 hb0.2
      rw[Yd (by rw[e0])]
      refine .inr (.inr (.inr ⟨q,i,hq,hnx,?_⟩))
      rw[Yd hqi]
     ·-- q goes,too: the elder stays
      have hqB:q∈b0::Br:=by
       rcases Yq.mp hqm with y|y
       ·exact absurd (hA q y) hqi
       ·exact y
      have hne:b0≠p:=by
       intro z
       subst z
       rcases Ym.mp hqB with y|y
       ·have:=hq.1;omega
       ·have:=(Y0.mp hAB.2.1).1 q y
        have:=hq.1;omega
      rw[Yb (by intro z;exact hne (YN z))]
      have ee:e=q:=by
       rcases he with⟨h1,_,_⟩|⟨q',h1,_,h3⟩|⟨r,h1,_,_⟩|⟨q',r,_,h2,_⟩
       ·have:=h1 q hq.1;have:=hq.2.1;omega
       ·have:q'=q:=by
         rcases Nat.lt_trichotomy q' q with y|y|y
         ·have:=h1.2.2 q y hq.1;have:=hq.2.1;omega
         ·exact y
         ·have:=hq.2.2 q' y h1.1;have:=h1.2.1;omega
        rw[h3,this]
       ·have:=h1 q hq.1;have:=hq.2.1;omega
       ·have:=hop r h2.1 h2.2.1;have:=h2.2.2.1;omega
      refine .inr (.inr (.inr ⟨q,i,hq,hnx,?_⟩))
      rw[Yb hqi,ee]
   ·-- still open: not of B
    have hnn:ZbV f (i+1) p:=λr a b=>by
     by_cases z:r=i
     ·rw[z];omega
     ·exact hop r a (by omega)
    have hne:B.head?≠some p:=λz=>by
     have:p∈B:=List.mem_of_head? z
     have:=hB p this
     omega
    rw[Yb hne]
    rcases he with⟨h1,_,h3⟩|⟨q,h1,_,h3⟩|⟨r,_,h2,_⟩|⟨q,r,_,h2,_⟩
    ·exact .inl ⟨h1,hnn,h3⟩
    ·exact .inr (.inl ⟨q,h1,hnn,h3⟩)
    ·have:=hop r h2.1 h2.2.1;have:=h2.2.2.1;omega
    ·have:=hop r h2.1 h2.2.1;have:=h2.2.2.1;omega
  ·-- shut already
   have hne:B.head?≠some p:=λz=>hop ((hm p).mp (Yl _ (List.mem_of_head? z))).2
   rw[Yb hne]
   rcases he with⟨_,h2,_⟩|⟨q,_,h2,_⟩|⟨r,h1,h2,h3⟩|⟨q,r,h1,h2,h3⟩
   ·exact absurd h2 hop
   ·exact absurd h2 hop
   ·exact .inr (.inr (.inl ⟨r,h1,nxt r h2,h3⟩))
   ·exact .inr (.inr (.inr ⟨q,r,h1,nxt r h2,h3⟩))
end L2
namespace L2
open PySem PySem.Spec PyProof.Rows PySem.W
theorem ZhK {α β:Type}{f g:α->Option β}:∀{l:List α},(∀x∈l,f x=g x)->l.filterMap f=l.filterMap g
 |[],_=>rfl
 |x::r,h=>by rw[List.filterMap_cons,List.filterMap_cons,h x (Yz ..),ZhK λy hy=>h y (YD _ hy)]
theorem Zoc (its:List Value) (k:Nat) (hk:k<=its.length) (start:Nat):(its.zipIdx start).filterMap (λxk=>if (decide (((start+k:Nat):Int)<=(xk.2:Int))&&decide ((xk.2:Int)<((start+its.length:Nat):Int))&&(((xk.2:Int)-((start+k:Nat):Int)) % 1==0))=true then none else some xk.1)=its.take k:=by
 induction its generalizing k start with
 |nil=>simp
 |cons x r ih =>
  rw[List.zipIdx_cons,List.filterMap_cons]
  cases k with
  |zero =>
   have h1:(decide (((start+0:Nat):Int)<=(start:Int))&&decide ((start:Int)<((start+(x::r).length:Nat):Int))&&(((start:Int)-((start+0:Nat):Int)) % 1==0))=true:=by
    simp;omega
   simp only[h1,if_true]
   have:=ih 0 (by omega) (start+1)
   rw[List.take_zero]at this⊢
   rw[<-this]
   refine ZhK λxk hxk=>?_
   have hm:=List.mem_zipIdx hxk
   have e1:(decide (((start+0:Nat):Int)<=(xk.2:Int)))=(decide (((start+1+0:Nat):Int)<=(xk.2:Int))):=by
    rw[decide_eq_decide];omega
   have e2:((start+(x::r).length:Nat):Int)=((start+1+r.length:Nat):Int):=by simp;omega
   have e3:(((xk.2:Int)-((start+0:Nat):Int)) % 1==0)=(((xk.2:Int)-((start+1+0:Nat):Int)) % 1==0):=by simp[Int.emod_one]
   rw[e1,e2,e3]
  |succ k =>
   have h1:(decide (((start+(k+1):Nat):Int)<=(start:Int))&&decide ((start:Int)<((start+(x::r).length:Nat):Int))&&(((start:Int)-((start+(k+1):Nat):Int)) % 1==0))=false:=by
    have:decide (((start+(k+1):Nat):Int)<=(start:Int))=false:=YS (by omega)
    rw[this];rfl
   simp only[h1,Bool.false_eq_true,if_false]
   rw[List.take_succ_cons]
   congr 1
   have:=ih k (by simpa using hk) (start+1)
   rw[<-this]
   refine ZhK λxk hxk=>?_
   have e1:((start+(k+1):Nat):Int)=((start+1+k:Nat):Int):=by omega
   have e2:((start+(x::r).length:Nat):Int)=((start+1+r.length:Nat):Int):=by simp;omega
   rw[e1,e2]
section
variable {X:Cx}{e st:Expr}{te ts:TE}{pos pos1 p2:Pos}
noncomputable def Zp5 (te ts:TE):TS:=λD σ H=>te σ H λx H1=>ts σ H1 λz H2=>∃(l:Addr) (xs:List V) (k:Nat),x=.ref l/\z=.int k/\H2 l=some (.lst xs)/\k<=xs.length/\D.nx σ (upd H2 l (.lst (xs.take k)))
theorem Zmd (he:PE X e te) (hs:PE X st ts):PS X (.Delete [.Subscript e (.Slice (some st) none none p2) pos1] pos) (Zp5 te ts):=by
 intro pins s σ H D I h
 refine wpAny_Delete (wpAny_deleteEach_cons ?_)
 show wpAny _ _ (eval e X.env >>= λov=>holding [ov] (eval (.Slice (some st) none none p2) X.env) >>= λiv=>(do standAt pos1;holding [ov,iv] (delItem ov iv);release [ov,iv] [])) _ _ _
 refine Ya (thn (he pins s σ H _ I h) λv s1 ⟨x,H1,I1,r1,q1⟩=>?_)
 refine Ya (wpAny_holding ?_)
 refine wpAny_Slice ?_
 rw[evalPart_some]
 refine thn (hs pins s1 σ H1 _ I1 q1) λvs s2 ⟨z,H2,I2,r2,l,xs,k,e1,e2,hx,hk,q⟩=>?_
 subst e1 e2
 obtain⟨tk,rfl⟩:=r2
 cases r1
 rw[evalPart_none]
 refine Yc ?_
 refine Yc ?_
 have I4:Inv X pins σ H2 {s2 with heap:=s2.heap.push {cls:=.type "slice",data:=.fields #[.int k tk,.none,.none]}}:=I2.kept (t':=s2.toks) λb ob q=>Yh _ q
 have hsl:({s2 with heap:=s2.heap.push {cls:=.type "slice",data:=.fields #[.int k tk,.none,.none]}}:Shared).heap.get? s2.heap.objs.size=some {cls:=.type "slice",data:=.fields #[.int k tk,.none,.none]}:=Yt _ rfl
 obtain⟨z,its,n,r,hlen,hob⟩:=I4.lstM hx
 generalize ({s2 with heap:=s2.heap.push {cls:=.type "slice",data:=.fields #[.int k tk,.none,.none]}}:Shared)=s4 at I4 hsl hob⊢
 have hT:s4.TypeIs (.ref l) "list":=⟨_,hob,rfl⟩
 have hTs:s4.TypeIs (.ref s2.heap.objs.size) "slice":=⟨_,hsl,rfl⟩
 refine Ya (wpAny_standAt (Ya (wpAny_holding ?_)))
 refine wpAny_delItem_slot hT (by decide) F.slot_list_delitem (wpAny_call_entry F.slot_list_delitem hT F.entry_list_delitem ?_ (F.args_list_delitem_2 _ _))
 show wpAny _ _ (Builtin.List.listSubscript? (.ref s2.heap.objs.size) >>= _) _ _ s4
 refine Ya ?_;unfold Builtin.List.listSubscript?;refine Ya (wpAny_specialOf hTs slice_no_index ?_)
 simp only[Option.isNone_none,if_true];refine Yc ?_
 show wpAny _ _ (typeOf (.ref s2.heap.objs.size) >>= _) _ _ s4
 refine Ya (wpAny_typeOf hTs ?_);rw[Yb (by decide),listSliceParts_eq]
 refine Ya (Ya (wpAny_field hsl rfl (x:=.none) rfl (Ya (wpAny_listPart (k:=none) .none ?_))));rw[Yb (show ¬ ((rawPart none==rawInt 0)=true)from YK)]
 refine Ya (wpAny_field hsl rfl (x:=.int k tk) rfl (Ya (wpAny_listPart (.int (k:Int) tk) ?_)))
 refine Ya (wpAny_field hsl rfl (x:=.none) rfl (Ya (wpAny_listPart (k:=none) .none (Yc ?_))))
 refine Ya (m:=Builtin.List.listItems (.ref l)) ?_;unfold Builtin.List.listItems
 refine Ya (wpAny_seqItems hob rfl (Yc ?_));refine Ya (wpAny_of_eq (sliceIndices_raw (some (k:Int)) none none its.toArray.size (by simp)) (Ya (wpAny_rule ?_)))
 have hb:sliceBounds (some (k:Int)) none none its.toArray.size=((k:Int),((its.length:Nat):Int),1):=by
  unfold sliceBounds
  simp
  omega
 rw[hb]
 have hf:∀f:Array Value->Array Value,(∀ys:Array Value,f ys=(ys.toList.zipIdx.filterMap λxk=>if (decide ((k:Int)<=(xk.2:Int))&&decide ((xk.2:Int)<((its.length:Nat):Int))&&(((xk.2:Int)-(k:Int)) % 1==0))=true then none else some xk.1).toArray)->f its.toArray=(its.take k).toArray:=λf h=>by
  rw[h]
  congr 1
  have:=Zoc its k (by omega) 0
  simpa using this
 refine Ya (m:=updateSeq l _) ?_
 refine wpAny_updateSeq (n:=n) hob rfl ?_ (by rw[Yv];omega) ?_
 ·refine Ya (wpAny_letGo (Yc ⟨_,rfl,?_⟩))
  refine wpAny_release (wpAny_deleteEach_nil ⟨σ,_,I4.lset hx hob (hf _ λys=>rfl) (r.takeN k) ?_,q⟩)
  rw[Y1];omega
 ·rw[Yv]
  refine Yo (List.length_filterMap_le _ _) ?_
  rw[List.length_zipIdx]
  show its.length<=sizeLine+1
  omega
end
theorem ZaG.unique {f:Nat->Int}{p q q':Nat} (h:ZaG f p q) (k:ZaG f p q'):q=q':=by
 rcases Nat.lt_trichotomy q q' with z|z|z
 ·have:=h.2.2 q' z k.1;have:=k.2.1;omega
 ·exact z
 ·have:=k.2.2 q z h.1;have:=h.2.1;omega
theorem Zaz.unique {f:Nat->Int}{n p r r':Nat} (h:Zaz f n p r) (k:Zaz f n p r'):r=r':=by
 rcases Nat.lt_trichotomy r r' with z|z|z
 ·have:=k.2.2.2 r h.1 z;have:=h.2.2.1;omega
 ·exact z
 ·have:=h.2.2.2 r' k.1 z;have:=k.2.2.1;omega
theorem ZaG.no {f:Nat->Int}{p q:Nat} (h:ZaG f p q) (k:ZcS f p):False:=by have:=k q h.1;have:=h.2.1;omega
theorem Zaz.no {f:Nat->Int}{n p r:Nat} (h:Zaz f n p r) (k:ZbV f n p):False:=by have:=k r h.1 h.2.1;have:=h.2.2.1;omega
theorem ZL.unique {f:Nat->Int}{n p:Nat}{e e':Int} (h:ZL f n p e) (k:ZL f n p e'):e=e':=by
 rcases h with⟨h1,h2,h3⟩|⟨q,h1,h2,h3⟩|⟨r,h1,h2,h3⟩|⟨q,r,h1,h2,h3⟩ <;>
 rcases k with⟨k1,k2,k3⟩|⟨q',k1,k2,k3⟩|⟨r',k1,k2,k3⟩|⟨q',r',k1,k2,k3⟩
 ·rw[h3,k3]
 ·exact(k1.no h1).elim
 ·exact(k2.no h2).elim
 ·exact(k1.no h1).elim
 ·exact(h1.no k1).elim
 ·rw[h3,k3,h1.unique k1]
 ·exact(h1.no k1).elim
 ·exact(k2.no h2).elim
 ·exact(h2.no k2).elim
 ·exact(k1.no h1).elim
 ·rw[h3,k3,h2.unique k2]
 ·exact(k1.no h1).elim
 ·exact(h1.no k1).elim
 ·exact(h2.no k2).elim
 ·exact(h1.no k1).elim
 ·rw[h3,k3,h1.unique k1,h2.unique k2]
noncomputable def Zq (ns:List Int) (es:List Int):Prop:=es.length=ns.length/\∀p,p<ns.length->ZL (nth ns) ns.length p (es.getD p 0)
theorem Zq.unique {ns es es':List Int} (h:Zq ns es) (k:Zq ns es'):es=es':=by
 refine List.ext_getElem (by rw[h.1,k.1]) λj h1 h2=>?_
 have hj:j<ns.length:=by rw[<-h.1];exact h1
 have:=(h.2 j hj).unique (k.2 j hj)
 simpa[Yn,h1,h2]using this
theorem Zsa {c:TT}{tb:TS}{D:Ends}{σ:St}{H:Hp} (Pv:Nat->St->Hp->Prop) (m0:Nat) (h0:Pv m0 σ H)
  (hs:∀m σ H,Pv m σ H->c σ H λb H1=>if b=true then ∃Nx:St->Hp->Prop,(∀σ' H',Nx σ' H'->∃m',m'<m/\Pv m' σ' H')/\tb {D with nx:=Nx,ct:=Nx,bk:=D.nx} σ H1 else D.nx σ H1):Zmb c tb D σ H:=⟨Pv,⟨m0,h0⟩,hs⟩
end L2
namespace L2
noncomputable def Over (f:Nat->Int) (o p:Nat):Prop:=(o<p/\∀r,o<r->r<=p->f o<=f r)\/(p<o/\∀r,p<=r->r<o->f o<f r)
theorem Over.irrefl {f:Nat->Int}{p:Nat}:¬ Over f p p:=by rintro(⟨h,_⟩|⟨h,_⟩)<;>omega
theorem Over.ne {f:Nat->Int}{o p:Nat} (h:Over f o p):o≠p:=λz=>Over.irrefl (z▸h)
theorem Over.trans {f:Nat->Int}{o e p:Nat} (h:Over f o e) (k:Over f e p):Over f o p:=by
 rcases h with⟨h1,h2⟩|⟨h1,h2⟩<;>rcases k with⟨k1,k2⟩|⟨k1,k2⟩
 ·refine .inl ⟨by omega,λr r1 r2=>?_⟩
  by_cases z:r<=e
  ·exact h2 r r1 z
  ·have:=k2 r (by omega) r2;have:=h2 e h1 (Ye _);omega
 ·have he:=h2 e h1 (Ye _)
  rcases Nat.lt_trichotomy o p with z|z|z
  ·exact .inl ⟨z,λr r1 r2=>h2 r r1 (by omega)⟩
  ·have:=k2 p (Ye _) k1;subst z;omega
  ·exact .inr ⟨z,λr r1 r2=>by have:=k2 r r1 (by omega);omega⟩
 ·have he:=h2 e (Ye _) h1
  rcases Nat.lt_trichotomy o p with z|z|z
  ·exact .inl ⟨z,λr r1 r2=>by have:=k2 r (by omega) r2;omega⟩
  ·have:=k2 p k1 (Ye _);subst z;omega
  ·exact .inr ⟨z,λr r1 r2=>h2 r (by omega) r2⟩
 ·refine .inr ⟨by omega,λr r1 r2=>?_⟩
  by_cases z:r<e
  ·have:=k2 r r1 z;have:=h2 e (Ye _) h1;omega
  ·exact h2 r (by omega) r2
theorem Zcq {f:Nat->Int}{n p:Nat}{e:Int} (hp:p<n) (h:ZL f n p e):e=-1\/∃q:Nat,e=q/\q<n/\Over f q p:=by
 have pv:∀q,ZaG f p q->Over f q p:=λq h=>.inl ⟨h.1,λr r1 r2=>by
  by_cases z:r=p
  ·rw[z];exact h.2.1
  ·have:=h.2.2 r r1 (by omega);have:=h.2.1;omega⟩
 have nx:∀q,Zaz f n p q->Over f q p:=λq h=>.inr ⟨h.1,λr r1 r2=>by
  by_cases z:r=p
  ·rw[z];exact h.2.2.1
  ·have:=h.2.2.2 r (by omega) r2;have:=h.2.2.1;omega⟩
 rcases h with⟨_,_,h⟩|⟨q,h1,_,h⟩|⟨r,_,h1,h⟩|⟨q,r,h1,h2,h⟩
 ·exact .inl h
 ·exact .inr ⟨q,h,by have:=h1.1;omega,pv q h1⟩
 ·exact .inr ⟨r,h,h1.2.1,nx r h1⟩
 ·by_cases z:f q<=f r
  ·rw[Yd z]at h;exact .inr ⟨r,h,h2.2.1,nx r h2⟩
  ·rw[Yb z]at h;exact .inr ⟨q,h,by have:=h1.1;omega,pv q h1⟩
theorem Zjl {f:Nat->Int}{n p o:Nat}{e:Int} (hp:p<n) (ho:o<n) (h:ZL f n p e) (hO:Over f o p):∃q:Nat,e=q/\q<n/\(o=q\/Over f o q):=by
 rcases hO with⟨o1,o2⟩|⟨o1,o2⟩
 ·have op:=o2 p o1 (Ye _)
  have pv:∀q,ZaG f p q->o=q\/(o<q/\Over f o q/\f o<=f q):=λq h=>by
   rcases Nat.lt_trichotomy o q with z|z|z
   ·have:=h.1;exact .inr ⟨z,.inl ⟨z,λr r1 r2=>o2 r r1 (by omega)⟩,o2 q z (by omega)⟩
   ·exact .inl z
   ·have:=h.2.2 o z o1;omega
  rcases h with⟨h1,_,h⟩|⟨q,h1,_,h⟩|⟨r,h1,_,h⟩|⟨q,r,h1,h2,h⟩
  ·have:=h1 o o1;omega
  ·refine⟨q,h,by have:=h1.1;omega,?_⟩
   rcases pv q h1 with z|z
   ·exact .inl z
   ·exact .inr z.2.1
  ·have:=h1 o o1;omega
  ·by_cases z:f q<=f r
   ·rw[Yd z]at h
    refine⟨r,h,h2.2.1,.inr (.inl ⟨by have:=h2.1;omega,λs s1 s2=>?_⟩)⟩
    by_cases sp:s<=p
    ·exact o2 s s1 sp
    ·by_cases sr:s=r
     ·rw[sr]
      rcases pv q h1 with y|y
      ·rw[y];exact z
      ·have:=y.2.2;omega
     ·have:=h2.2.2.2 s (by omega) (by omega);omega
   ·rw[Yb z]at h
    refine⟨q,h,by have:=h1.1;omega,?_⟩
    rcases pv q h1 with z|z
    ·exact .inl z
    ·exact .inr z.2.1
 ·have op:=o2 p (Ye _) o1
  have nx:∀r,Zaz f n p r->o=r\/(r<o/\Over f o r/\f o<f r):=λr h=>by
   rcases Nat.lt_trichotomy o r with z|z|z
   ·have:=h.2.2.2 o o1 z;omega
   ·exact .inl z
   ·have:=h.1;exact .inr ⟨z,.inr ⟨z,λs s1 s2=>o2 s (by omega) s2⟩,o2 r (by omega) z⟩
  rcases h with⟨_,h1,h⟩|⟨q,_,h1,h⟩|⟨r,_,h1,h⟩|⟨q,r,h1,h2,h⟩
  ·have:=h1 o o1 ho;omega
  ·have:=h1 o o1 ho;omega
  ·refine⟨r,h,h1.2.1,?_⟩
   rcases nx r h1 with z|z
   ·exact .inl z
   ·exact .inr z.2.1
  ·by_cases z:f q<=f r
   ·rw[Yd z]at h
    refine⟨r,h,h2.2.1,?_⟩
    rcases nx r h2 with z|z
    ·exact .inl z
    ·exact .inr z.2.1
   ·rw[Yb z]at h
    refine⟨q,h,by have:=h1.1;omega,.inr (.inr ⟨by have:=h1.1;omega,λs s1 s2=>?_⟩)⟩
    by_cases sp:p<=s
    ·exact o2 s sp s2
    ·by_cases sq:s=q
     ·rw[sq]
      rcases nx r h2 with y|y
      ·rw[y];omega
      ·have:=y.2.2;omega
     ·have:=h1.2.2 s (by omega) (by omega);omega
theorem ZhL {f:Nat->Int}{n p o q:Nat} (hp:p<n) (ho:o<n) (h:ZL f n p (q:Int)):Over f o p↔o=q\/Over f o q:=by
 refine⟨λk=>?_,λk=>?_⟩
 ·obtain⟨q',e,_,z⟩:=Zjl hp ho h k
  have:q'=q:=by omega
  rw[this]at z;exact z
 ·rcases Zcq hp h with z|⟨q',e,_,z⟩
  ·omega
  ·have:q'=q:=by omega
   rw[this]at z
   rcases k with k|k
   ·rw[k];exact z
   ·exact k.trans z
theorem ZeS {f:Nat->Int}{n p o:Nat} (hp:p<n) (ho:o<n) (h:ZL f n p (-1)):¬ Over f o p:=λk=>by
 obtain⟨q',e,_,z⟩:=Zjl hp ho h k
 omega
theorem ZhM {P Q:Nat->Bool}:∀n,(∀o,o<n->P o=Q o)->(List.range n).countP P=(List.range n).countP Q
 |0,_=>rfl
 |n+1,h=>by
  rw[YY,List.countP_append,List.countP_append,ZhM n (λo ho=>h o (by omega))]
  simp[List.countP_cons,h n (by omega)]
theorem Zdy {P Q:Nat->Bool}{e:Nat}:∀n,e<n->(∀o,o<n->(P o=true↔o=e\/Q o=true))->Q e=false->(List.range n).countP P=(List.range n).countP Q+1
 |0,h,_,_=>by omega
 |n+1,h,hi,hq=>by
  rw[YY,List.countP_append,List.countP_append]
  by_cases z:e=n
  ·have e1:(List.range n).countP P=(List.range n).countP Q:=ZhM n λo ho=>by
    have:=hi o (by omega)
    cases hP:P o<;>cases hQ:Q o<;>simp[hP,hQ]at this<;>first|rfl|omega
   have hPn:P n=true:=(hi n (by omega)).mpr (.inl z.symm)
   rw[z]at hq
   rw[e1];simp[List.countP_cons,hPn,hq]
  ·rw[Zdy n (by omega) (λo ho=>hi o (by omega)) hq]
   have:=hi n (by omega)
   have hn:P n=Q n:=by
    cases hP:P n<;>cases hQ:Q n<;>simp[hP,hQ]at this<;>first|rfl|omega
   simp[List.countP_cons,hn];omega
theorem Zp6 {P:Nat->Bool}{e n:Nat} (he:e<n) (h:P e=false):(List.range n).countP P<n:=by
 have h1:=Zdy (P:=λo=>decide (o=e)||P o) (Q:=P) n he (λo _=>by simp) h
 have h2:=List.countP_le_length (p:=λo=>decide (o=e)||P o) (l:=List.range n)
 rw[h1,Y9]at h2
 omega
noncomputable def Zab (T:List Int):Nat->Int->List Nat
 |0,_=>[]
 |k+1,at_=>if 0<=at_/\at_<T.length then at_.toNat::Zab T k (nth T at_.toNat)else []
open Classical in
noncomputable def dep (f:Nat->Int) (n p:Nat):Nat:=(List.range n).countP λo=>decide (Over f o p)
theorem Zme {f:Nat->Int}{n p:Nat} (hp:p<n):dep f n p<n:=by
 classical
 exact Zp6 hp (by simpa using Over.irrefl)
theorem Zgf {f:Nat->Int}{n p q:Nat} (hp:p<n) (h:ZL f n p (q:Int)):dep f n p=dep f n q+1:=by
 classical
 have hq:q<n:=by
  rcases Zcq hp h with z|⟨q',e,z,_⟩<;>omega
 exact Zdy n hq (λo ho=>by simpa using ZhL hp ho h) (by simpa using Over.irrefl)
theorem Zsb {f:Nat->Int}{n p:Nat} (hp:p<n) (h:ZL f n p (-1)):dep f n p=0:=by
 classical
 unfold dep
 rw[List.countP_eq_zero]
 intro o ho
 simpa using ZeS hp (by simpa using ho) h
theorem ZhN {P Q:Nat->Bool}:∀n,(∀o,o<n->P o=true->Q o=true)->(List.range n).countP P<=(List.range n).countP Q
 |0,_=>Ye _
 |n+1,h=>by
  rw[YY,List.countP_append,List.countP_append]
  have:=ZhN n (λo ho=>h o (by omega))
  have hn:=h n (by omega)
  cases hP:P n<;>cases hQ:Q n<;>simp[List.countP_cons,hP,hQ]at hn⊢<;>omega
theorem Zp7 {f:Nat->Int}{n p q:Nat} (hp:p<n) (hq:q<n) (h:Over f q p):dep f n q<dep f n p:=by
 classical
 have h1:=Zdy (P:=λo=>decide (o=q)||decide (Over f o q)) (Q:=λo=>decide (Over f o q)) (e:=q) n hq (λo _=>by simp) (by simpa using Over.irrefl)
 have h2:=ZhN (P:=λo=>decide (o=q)||decide (Over f o q)) (Q:=λo=>decide (Over f o p)) n (λo _ ho=>by
  simp at ho⊢
  rcases ho with z|z
  ·rw[z];exact h
  ·exact z.trans h)
 rw[h1]at h2
 exact h2
theorem ZfM {ns T:List Int} (hT:Zq ns T):∀k p,p<ns.length->dep (nth ns) ns.length p<=k->(∀o,o∈Zab T k (nth T p)↔o<ns.length/\Over (nth ns) o p)/\(Zab T k (nth T p)).length=dep (nth ns) ns.length p
 |k,p,hp,hk=>by
  have hE:ZL (nth ns) ns.length p (nth T p):=hT.2 p hp
  rcases Zcq hp hE with z|⟨q,e,hq,hO⟩
  ·have e0:Zab T k (nth T p)=[]:=by
    cases k with
    |zero=>rfl
    |succ k=>rw[Zab,Yb (by omega)]
   rw[e0]
   rw[z]at hE
   exact⟨λo=>⟨λh=>by simp at h,λh=>absurd h.2 (ZeS hp h.1 hE)⟩,by rw[Zsb hp hE];rfl⟩
  ·rw[e]at hE
   have hd:=Zgf hp hE
   obtain⟨k',rfl⟩:∃k',k=k'+1:=⟨k-1,by omega⟩
   have ih:=ZfM hT k' q hq (by omega)
   have eT:((q:Nat):Int).toNat=q:=by omega
   rw[Zab,e,Yd ⟨by omega,by rw[hT.1];omega⟩,eT]
   refine⟨λo=>?_,by simp[ih.2,hd]⟩
   rw[Ym,ih.1 o]
   refine⟨λh=>?_,λh=>?_⟩
   ·rcases h with h|h
    ·rw[h];exact⟨hq,hO⟩
    ·exact⟨h.1,h.2.trans hO⟩
   ·rcases(ZhL hp h.1 hE).mp h.2 with z|z
    ·exact .inl z
    ·exact .inr ⟨h.1,z⟩
noncomputable def Zfj (T:List Int):List Int:=(List.range T.length).map λp=>((Zab T T.length (nth T p)).length:Int)
theorem ZfN (T:List Int):(Zfj T).length=T.length:=by simp[Zfj]
theorem ZkU {T:List Int}{p:Nat} (h:p<T.length):nth (Zfj T) p=(Zab T T.length (nth T p)).length:=by
 simp[nth,Zfj,Yn,h]
theorem Zod {ns T:List Int} (hT:Zq ns T):Zq (Zfj T) T:=by
 have eL:T.length=ns.length:=hT.1
 have hd:∀p,p<ns.length->nth (Zfj T) p=(dep (nth ns) ns.length p:Int):=λp hp=>by
  rw[ZkU (by omega),eL,(ZfM hT ns.length p hp (Y6 (Zme hp))).2]
 refine⟨(ZfN T).symm,λp hp=>?_⟩
 rw[ZfN,eL]at hp⊢
 have lt:∀q p,q<ns.length->p<ns.length->Over (nth ns) q p->nth (Zfj T) q<nth (Zfj T) p:=λq p hq hp h=>by
  rw[hd q hq,hd p hp]
  have:=Zp7 hp hq h;omega
 generalize nth (Zfj T)=g at lt
 clear hd
 have pv:∀q,ZaG (nth ns) p q->ZaG g p q:=λq h=>by
  refine⟨h.1,Int.le_of_lt (lt q p (by have:=h.1;omega) hp (.inl ⟨h.1,λr r1 r2=>?_⟩)),λr r1 r2=>lt p r hp (by omega) (.inr ⟨r2,λs s1 s2=>h.2.2 s (by omega) s2⟩)⟩
  by_cases z:r=p
  ·rw[z];exact h.2.1
  ·have:=h.2.2 r r1 (by omega);have:=h.2.1;omega
 have nx:∀r,Zaz (nth ns) ns.length p r->Zaz g ns.length p r:=λq h=>by
  refine⟨h.1,h.2.1,lt q p h.2.1 hp (.inr ⟨h.1,λr r1 r2=>?_⟩),λs s1 s2=>Int.le_of_lt (lt p s hp (by have:=h.2.1;omega) (.inl ⟨s1,λr r1 r2=>h.2.2.2 r r1 (by omega)⟩))⟩
  by_cases z:r=p
  ·rw[z];exact h.2.2.1
  ·have:=h.2.2.2 r (by omega) r2;have:=h.2.2.1;omega
 have np:ZcS (nth ns) p->ZcS g p:=λh q hq=>lt p q hp (by omega) (.inr ⟨hq,λr r1 r2=>h r r2⟩)
 have nn:ZbV (nth ns) ns.length p->ZbV g ns.length p:=λh r r1 r2=>Int.le_of_lt (lt p r hp r2 (.inl ⟨r1,λs s1 s2=>h s s1 (by omega)⟩))
 have hE:ZL (nth ns) ns.length p (T.getD p 0):=hT.2 p hp
 rcases hE with⟨h1,h2,h⟩|⟨q,h1,h2,h⟩|⟨r,h1,h2,h⟩|⟨q,r,h1,h2,h⟩
 ·exact .inl ⟨np h1,nn h2,h⟩
 ·exact .inr (.inl ⟨q,pv q h1,nn h2,h⟩)
 ·exact .inr (.inr (.inl ⟨r,np h1,nx r h2,h⟩))
 ·refine .inr (.inr (.inr ⟨q,r,pv q h1,nx r h2,?_⟩))
  rw[h]
  have hq:q<ns.length:=by have:=h1.1;omega
  by_cases z:nth ns q<=nth ns r
  ·have:=lt q r hq h2.2.1 (.inl ⟨by have:=h1.1;have:=h2.1;omega,λs s1 s2=>by
    by_cases y:s=r
    ·rw[y];exact z
    ·by_cases y2:s=p
     ·rw[y2];exact h1.2.1
     ·have:=h1.2.1
      by_cases y3:s<p
      ·have:=h1.2.2 s s1 y3;omega
      ·have:=h2.2.2.2 s (by omega) (by omega);omega⟩)
   rw[Yd z,Yd (by omega)]
  ·have:=lt r q h2.2.1 hq (.inr ⟨by have:=h1.1;have:=h2.1;omega,λs s1 s2=>by
    have:=h1.2.1;have:=h2.2.2.1
    by_cases y:s=q
    ·rw[y];omega
    ·by_cases y2:s=p
     ·rw[y2];omega
     ·by_cases y3:s<p
      ·have:=h1.2.2 s (by omega) y3;omega
      ·have:=h2.2.2.2 s (by omega) (by omega);omega⟩)
   rw[Yb z,Yb (by omega)]
theorem Zoe (T:List Int):(∃ns,Zq ns T)↔Zq (Zfj T) T:=⟨λ⟨_,h⟩=>Zod h,λh=>⟨_,h⟩⟩
end L2
namespace L2
open PySem PySem.Spec PyProof.Rows PySem.W
noncomputable def Zde (es:List Int) (A B:List Nat) (i:Nat):List Int:=match A.getLast? with
 |some q=>(match B.head? with|some b=>es.set b i|none=>es).set i (q:Int)
 |none=>match B.head? with|some b=>es.set b i|none=>es
noncomputable def Zt (l:List Nat):List V:=l.map λq=>V.int (q:Nat)
theorem Zed (l:List Int) (a p:Nat) (v:Int) (h:p<l.length):(l.set a v).getD p 0=if a=p then v else l.getD p 0:=by
 rw[Yn,Yn]
 by_cases e:a=p
 ·subst e;rw[Yd rfl,List.getElem?_set_self h];rfl
 ·rw[Yb e,List.getElem?_set_ne e]
theorem ZhO (es:List Int) (A B:List Nat) (i:Nat):(Zde es A B i).length=es.length:=by
 unfold Zde
 cases A.getLast?<;>cases B.head?<;>simp
theorem Zhi (es:List Int) (A B:List Nat) (i p:Nat) (hp:p<es.length) (hb:∀b,B.head?=some b->b≠i):(Zde es A B i).getD p 0=if p=i then (match A.getLast? with|some q=>(q:Int)|none=>es.getD i 0)else if B.head?=some p then (i:Int)else es.getD p 0:=by
 unfold Zde
 cases hA:A.getLast? with
 |none =>
  cases hB:B.head? with
  |none =>
   by_cases e:p=i
   ·rw[Yd e,e]
   ·rw[Yb e,Yb (by simp)]
  |some b =>
   show(es.set b i).getD p 0=_
   rw[Zed _ _ _ _ hp]
   by_cases e:p=i
   ·rw[Yd e,Yb (by rw[e];exact hb b hB),e]
   ·rw[Yb e]
    by_cases e2:b=p
    ·rw[Yd e2,Yd (by rw[e2])]
    ·rw[Yb e2,Yb (by intro z;exact e2 (YN z))]
 |some q =>
  cases hB:B.head? with
  |none =>
   show(es.set i q).getD p 0=_
   rw[Zed _ _ _ _ hp]
   by_cases e:p=i
   ·rw[Yd e,Yd e.symm]
   ·rw[Yb e,Yb (λz=>e z.symm),Yb (by simp)]
  |some b =>
   show((es.set b i).set i q).getD p 0=_
   rw[Zed _ _ _ _ (by simpa using hp),Zed _ _ _ _ hp]
   by_cases e:p=i
   ·rw[Yd e,Yd e.symm]
   ·rw[Yb e,Yb (λz=>e z.symm)]
    by_cases e2:b=p
    ·rw[Yd e2,Yd (by rw[e2])]
    ·rw[Yb e2,Yb (by intro z;exact e2 (YN z))]
theorem Zmf:∀(l:List Nat) (i lo:Nat),l.Pairwise (· < ·)->(∀q∈l,lo<=q/\q<i)->l.length+lo<=i\/l=[]
 |[],_,_,_,_=>.inr rfl
 |q::r,i,lo,h,hq=>by
  have h1:=hq q (by simp)
  have hr:=Y0.mp h
  rcases Zmf r i (q+1) hr.2 (λx hx=>⟨hr.1 x hx,(hq x (by simp[hx])).2⟩)with z|z
  ·left;simp;omega
  ·left;rw[z];simp;omega
theorem ZV (l:List Nat):(Zt l).length=l.length:=by simp[Zt]
theorem Zcj (a b:List Nat):Zt (a++b)=Zt a++Zt b:=by simp[Zt]
theorem ZhP {l:List Nat}{j q:Nat} (h:l[j]?=some q):atI (Zt l) (j:Int)=some (V.int (q:Nat)):=by
 have hj:=(Yx.mp h).1
 have e:=(Yx.mp h).2
 rw[ZhF rfl (by rw[ZV];exact hj)]
 simp[Zt,e]
theorem Zdz {n j:Nat} (h:j<n):ixN n (j:Int)=some j:=by
 unfold ixN
 rw[Yd (by omega),Yd (by omega)];simp
noncomputable def Zbg (T:List Int) (p:Nat):List Int:=(Zab T T.length (nth T p)).map λq=>((q:Nat):Int)
noncomputable def Zai (T:List Int):Prop:=T.length<=40/\∃ns,Zq ns T
theorem Zcr (T:List Int):∀k a,(Zab T k a).length<=k
 |0,_=>by simp[Zab]
 |k+1,a=>by
  rw[Zab]
  split
  ·have:=Zcr T k (nth T a.toNat);simp;omega
  ·simp
noncomputable def ZaV (T:List Int):Nat->Int->Int
 |0,a=>a
 |j+1,a=>if 0<=a/\a<T.length then ZaV T j (nth T a.toNat)else a
theorem Zjm (T:List Int):∀j a,0<=ZaV T j a->ZaV T j a<T.length->(Zab T j a).length=j->Zab T (j+1) a=Zab T j a++[(ZaV T j a).toNat]/\ZaV T (j+1) a=nth T (ZaV T j a).toNat
 |0,a,h0,h1,_=>by
  have h0':0<=a:=h0
  have h1':a<T.length:=h1
  constructor
  ·simp[Zab,ZaV,h0',h1']
  ·simp[ZaV,h0',h1']
 |j+1,a,h0,h1,hl=>by
  rw[Zab]at hl
  by_cases z:0<=a/\a<T.length
  ·rw[Yd z]at hl
   have e1:ZaV T (j+1) a=ZaV T j (nth T a.toNat):=by rw[ZaV,Yd z]
   rw[e1]at h0 h1
   have ih:=Zjm T j (nth T a.toNat) h0 h1 (by simpa using hl)
   constructor
   ·rw[Zab,Yd z,ih.1,Zab.eq_def T (j+1) a]
    simp only[Yd z,e1];simp
   ·rw[ZaV,Yd z,ih.2,e1]
  ·rw[Yb z]at hl;simp at hl
theorem Zjn (T:List Int):∀j k a,j<=k->(Zab T j a).length=j->¬ (0<=ZaV T j a/\ZaV T j a<T.length)->Zab T k a=Zab T j a
 |0,k,a,_,_,h=>by
  have h':¬ (0<=a/\a<T.length):=h
  cases k with
  |zero=>rfl
  |succ k=>rw[show Zab T 0 a=[]from rfl,Zab,Yb h']
 |j+1,k,a,hk,hl,h=>by
  rw[Zab]at hl
  by_cases z:0<=a/\a<T.length
  ·rw[Yd z]at hl
   rw[ZaV,Yd z]at h
   obtain⟨k',rfl⟩:∃k',k=k'+1:=⟨k-1,by omega⟩
   rw[Zab,Yd z,Zjn T j k' _ (by omega) (by simpa using hl) h,Zab,Yd z]
  ·rw[Yb z]at hl;simp at hl
section
variable {X:Cx}
theorem Zgg {K:Frag} (hK:X.K=K):OpR X (compareOp .In) (rIn K false):=hK▸ZnZ
theorem Zof {K:Frag} (hK:X.K=K):OpR X (compareOp .NotIn) (rIn K true):=hK▸ZjM
end
theorem Zbv (xs:List Int):(xs.map V.int).all flatV=true:=by
 induction xs with
 |nil=>rfl
 |cons x r ih=>rw[YH,List.all_cons,ih];rfl
theorem ZeT (x:Int) (xs:List Int):inV (.int x) (xs.map V.int)=decide (x∈xs):=by
 induction xs with
 |nil=>rfl
 |cons y r ih =>
  have:inV (.int x) ((y::r).map V.int)=(decide (y=x)||inV (.int x) (r.map V.int)):=rfl
  rw[this,ih]
  by_cases z:y=x
  ·simp[z]
  ·have:¬ x=y:=λh=>z h.symm
   simp[z,this]
theorem Zao {a b:TS}{D:Ends}{σ:St}{H:Hp} (Mid:St->Hp->Prop) (h1:∀R:St->Hp->Prop,(∀σ' H',Mid σ' H'->R σ' H')->a {D with nx:=R} σ H) (h2:∀σ' H',Mid σ' H'->b D σ' H'):tSeq a b D σ H:=h1 _ h2
theorem Zog (xs:List V) (j:Nat):Zl3 xs (some (j:Int)) none=xs.drop j:=by
 have h:¬ ((j:Int)<0):=by omega
 unfold Zl3 HT.sIx
 simp only[Yb h,Ys]
 by_cases z:j<=xs.length
 ·rw[Nat.min_eq_left z]
  exact List.take_of_length_le (by rw[Jd];omega)
 ·rw[Nat.min_eq_right (by omega),Nat.sub_self,List.take_zero,List.drop_eq_nil_of_le (show xs.length<=j by omega)]
end L2
namespace L2
open PySem PySem.Spec PyProof.Rows
end L2
namespace L2
open PySem PySem.Spec PyProof.Rows PySem.W
noncomputable def CF (n:Nat) (P:Nat->Bool) (vals:Nat->V) (H1:Hp) (i m:Nat) (acc:List V) (H:Hp):Prop:=m=n-i/\i<=n/\acc=((List.range i).filter P).map vals/\Ze H1 H
theorem CF.take {n:Nat}{P:Nat->Bool}{vals:Nat->V}{H1 H:Hp}{i:Nat}{v:V} (hi:i<n) (hP:P i=true) (hv:v=vals i) (s:Ze H1 H):∃m',m'<n-i/\CF n P vals H1 (i+1) m' (((List.range i).filter P).map vals++[v]) H :=
 ⟨n-(i+1),by omega,rfl,hi,by rw[YY,List.filter_append,YI,hv];simp[hP],s⟩
theorem CF.skip {n:Nat}{P:Nat->Bool}{vals:Nat->V}{H1 H:Hp}{i:Nat} (hi:i<n) (hP:P i=false) (s:Ze H1 H):∃m',m'<n-i/\CF n P vals H1 (i+1) m' (((List.range i).filter P).map vals) H :=
 ⟨n-(i+1),by omega,rfl,hi,by rw[YY,List.filter_append,YI];simp[hP],s⟩
theorem Zgh {J:It}{n:Nat}{H1:Hp}{g:TG}{tt:TT}{te:TE}{σ0:St}{Q:VK} (P:Nat->Bool) (vals:Nat->V) (hn:n<sizeLine) (hgo:∀i H,Ze H1 H->i<n->J.go i H) (hstop:∀H,Ze H1 H->J.stop n H)
  (hb:∀i x H H',i<n->Ze H1 H->J.yld i H x H'->g x σ0 H' fun σ2 H2=>tt σ2 H2 λb H3=>if b=true then te σ2 H3 λv H4=>∃m',m'<n-i/\CF n P vals H1 (i+1) m' (((List.range i).filter P).map vals++[v]) H4 else ∃m',m'<n-i/\CF n P vals H1 (i+1) m' (((List.range i).filter P).map vals) H3)
  (hk:∀l H',Ze H1 H'->H' l=none->Q (.ref l) (upd H' l (.lst (((List.range n).filter P).map vals)))) :
  ZgK J g tt te σ0 Q H1:=by
 refine⟨CF n P vals H1,⟨n,rfl,Yr _,rfl,Ze.refl _⟩,?_⟩
 rintro i m acc H ⟨rfl,hi,rfl,s⟩
 have hlen:(((List.range i).filter P).map vals).length<=n:=by
  rw[Yf]
  have:=Y4 P (List.range i)
  rw[Y9]at this
  omega
 by_cases h:i<n
 ·exact .inr ⟨hgo i H s h,by omega,λx H' y=>hb i x H H' h s y⟩
 ·have:i=n:=by omega
  subst this
  exact .inl ⟨hstop H s,by omega,λp hp=>hk p H s hp⟩
theorem ZkV {ns T:List Int}{g:Nat->Int} (hT:Zq ns T) (hg:∀q p,q<ns.length->p<ns.length->Over (nth ns) q p->(q<p->g q<=g p)/\(p<q->g q<g p)):∀p,p<ns.length->ZL g ns.length p (T.getD p 0):=by
 intro p hp
 have pv:∀q,ZaG (nth ns) p q->ZaG g p q:=λq h=>by
  refine⟨h.1,(hg q p (by have:=h.1;omega) hp (.inl ⟨h.1,λr r1 r2=>?_⟩)).1 h.1,λr r1 r2=>(hg p r hp (by omega) (.inr ⟨r2,λs s1 s2=>h.2.2 s (by omega) s2⟩)).2 r2⟩
  by_cases z:r=p
  ·rw[z];exact h.2.1
  ·have:=h.2.2 r r1 (by omega);have:=h.2.1;omega
 have nx:∀r,Zaz (nth ns) ns.length p r->Zaz g ns.length p r:=λq h=>by
  refine⟨h.1,h.2.1,(hg q p h.2.1 hp (.inr ⟨h.1,λr r1 r2=>?_⟩)).2 h.1,λs s1 s2=>(hg p s hp (by have:=h.2.1;omega) (.inl ⟨s1,λr r1 r2=>h.2.2.2 r r1 (by omega)⟩)).1 s1⟩
  by_cases z:r=p
  ·rw[z];exact h.2.2.1
  ·have:=h.2.2.2 r (by omega) r2;have:=h.2.2.1;omega
 have np:ZcS (nth ns) p->ZcS g p:=λh q hq=>(hg p q hp (by omega) (.inr ⟨hq,λr r1 r2=>h r r2⟩)).2 hq
 have nn:ZbV (nth ns) ns.length p->ZbV g ns.length p:=λh r r1 r2=>(hg p r hp r2 (.inl ⟨r1,λs s1 s2=>h s s1 (by omega)⟩)).1 r1
 have hE:ZL (nth ns) ns.length p (T.getD p 0):=hT.2 p hp
 rcases hE with⟨h1,h2,h⟩|⟨q,h1,h2,h⟩|⟨r,h1,h2,h⟩|⟨q,r,h1,h2,h⟩
 ·exact .inl ⟨np h1,nn h2,h⟩
 ·exact .inr (.inl ⟨q,pv q h1,nn h2,h⟩)
 ·exact .inr (.inr (.inl ⟨r,np h1,nx r h2,h⟩))
 ·refine .inr (.inr (.inr ⟨q,r,pv q h1,nx r h2,?_⟩))
  rw[h]
  have hq:q<ns.length:=by have:=h1.1;omega
  have hqr:q<r:=by have:=h1.1;have:=h2.1;omega
  by_cases z:nth ns q<=nth ns r
  ·have:=(hg q r hq h2.2.1 (.inl ⟨hqr,λs s1 s2=>by
    by_cases y:s=r
    ·rw[y];exact z
    ·by_cases y2:s=p
     ·rw[y2];exact h1.2.1
     ·have:=h1.2.1
      by_cases y3:s<p
      ·have:=h1.2.2 s s1 y3;omega
      ·have:=h2.2.2.2 s (by omega) (by omega);omega⟩)).1 hqr
   rw[Yd z,Yd (by omega)]
  ·have:=(hg r q h2.2.1 hq (.inr ⟨hqr,λs s1 s2=>by
    have:=h1.2.1;have:=h2.2.2.1
    by_cases y:s=q
    ·rw[y];omega
    ·by_cases y2:s=p
     ·rw[y2];omega
     ·by_cases y3:s<p
      ·have:=h1.2.2 s (by omega) y3;omega
      ·have:=h2.2.2.2 s (by omega) (by omega);omega⟩)).2 hqr
   rw[Yb z,Yb (by omega)]
theorem atI_m1 {xs:List V}{v:V} (h:0<xs.length) (hv:xs[xs.length-1]?=some v):atI xs (-1)=some v:=by
 have e:ixN xs.length (-1)=some (xs.length-1):=by
  unfold ixN
  rw[Yb (by omega),Yd (by omega)]
  congr 1
  omega
 unfold atI
 rw[e]
 exact hv
end L2
namespace HT
open PySem PyProof.Rows
section
open PySem.SeqAt
open PySem.AutoSeq1 (wpAny_loadPart')
open PySem.MeetsSeq PySem.MeetsSeq2 PySem.MeetsSeq3
variable {prog:Program}{w:World}{A:Around}{E:Value->Shared->Prop}{s:Shared}
end
end HT
namespace L2
open PySem PySem.Spec PyProof.Rows PySem.W
section
variable {X:Cx}{tg l:Expr}{tl:TE}
theorem Zp8 {K:Frag} (hK:X.K=K) (hl:PE X l tl):PI X tg l (Zm7 K tl):=hK▸Zbh hl
end
theorem ZkW (T:List Int):∀k a,(Zab T k a).length<k->Zab T (k+1) a=Zab T k a
 |0,_,h=>by omega
 |k+1,a,h=>by
  rw[Zab]at h⊢
  by_cases z:0<=a/\a<T.length
  ·rw[Yd z]at h⊢
   rw[ZkW T k _ (by simpa using h),Zab,Yd z]
  ·rw[Yb z]at h⊢
   rw[Zab,Yb z]
noncomputable def way (T:List Int) (p:Nat):List Nat:=Zab T T.length (nth T p)
theorem ZfO {T:List Int}{p:Nat} (h:nth T p=-1):way T p=[]:=by
 unfold way
 rw[h]
 cases T.length with
 |zero=>rfl
 |succ k=>rw[Zab,Yb (by omega)]
theorem Zcs {ns T:List Int} (hT:Zq ns T) {p q:Nat} (hp:p<ns.length) (h:nth T p=q):way T p=q::way T q:=by
 have hE:ZL (nth ns) ns.length p (q:Int):=h▸hT.2 p hp
 have hq:q<ns.length:=by
  rcases Zcq hp hE with z|⟨q',e,z,_⟩<;>omega
 have hd:=Zgf hp hE
 have hl:=Zme (f:=nth ns) hp
 unfold way
 rw[h,hT.1]
 obtain⟨k,hk⟩:∃k,ns.length=k+1:=⟨ns.length-1,by omega⟩
 rw[hk,Zab,Yd ⟨by omega,by rw[hT.1];omega⟩,show((q:Nat):Int).toNat=q by omega]
 rw[ZkW T k (nth T q)]
 rw[(ZfM hT k q hq (by omega)).2]
 omega
theorem ZbP (T:List Int) (p:Nat):Zbg T p=(way T p).map λq=>((q:Nat):Int):=rfl
theorem ZG {ns T:List Int} (hT:Zq ns T) {p:Nat} (hp:p<ns.length):nth T p=-1\/∃q:Nat,nth T p=q/\q<ns.length/\Over (nth ns) q p/\dep (nth ns) ns.length p=dep (nth ns) ns.length q+1:=by
 rcases Zcq hp (hT.2 p hp)with z|⟨q,e,hq,hO⟩
 ·exact .inl z
 ·have e':nth T p=(q:Int):=e
  have hE:ZL (nth ns) ns.length p (q:Int):=e'▸hT.2 p hp
  exact .inr ⟨q,e,hq,hO,Zgf hp hE⟩
noncomputable def ZaH (T:List Int) (p:Nat):Nat:=((way T p).filter λo=>decide (p<o)).length
noncomputable def Zj (T:List Int):List Int:=(List.range T.length).map λp=>(ZaH T p:Int)
theorem Zar (T:List Int):(Zj T).length=T.length:=by simp[Zj]
theorem Zdf {T:List Int}{p:Nat} (h:p<T.length):nth (Zj T) p=ZaH T p:=by simp[nth,Zj,Yn,h]
theorem Zdg {P Q:Nat->Bool}{l:List Nat} (h:∀x∈l,P x=Q x):(l.filter P).length=(l.filter Q).length:=by
 rw[List.filter_congr h]
theorem Zct {ns T:List Int} (hT:Zq ns T) {p o:Nat} (hp:p<ns.length):o∈way T p↔o<ns.length/\Over (nth ns) o p:=by
 unfold way
 rw[hT.1]
 exact(ZfM hT ns.length p hp (Y6 (Zme hp))).1 o
theorem Zoh {f:Nat->Int}{o q p:Nat} (h:Over f o q) (k:Over f q p):(p<q->p<o->q<o)/\(q<p->q<o->p<o):=by
 refine⟨λh1 h2=>Nat.lt_of_not_le λz=>?_,λh1 h2=>Nat.lt_of_not_le λz=>?_⟩
 ·rcases h with⟨a,b⟩|⟨a,b⟩
  ·rcases k with⟨c,d⟩|⟨c,d⟩
   ·omega
   ·have:=d o (by omega) a;have:=b q a (Ye _);omega
  ·omega
 ·rcases h with⟨a,b⟩|⟨a,b⟩
  ·omega
  ·rcases k with⟨c,d⟩|⟨c,d⟩
   ·have:=d o h2 z;have:=b q (Ye _) a;omega
   ·omega
theorem Zjo {ns T:List Int} (hT:Zq ns T) {p q:Nat} (hp:p<ns.length) (hq:q<ns.length) (h:nth T p=q) (hO:Over (nth ns) q p):ZaH T p=ZaH T q+if p<q then 1 else 0:=by
 unfold ZaH
 rw[Zcs hT hp h,List.filter_cons]
 have e:((way T q).filter λo=>decide (p<o)).length=((way T q).filter λo=>decide (q<o)).length:=by
  refine Zdg λo ho=>?_
  have ho':=((Zct hT hq).mp ho).2
  have hs:=Zoh ho' hO
  have hne:=hO.ne
  have hne2:=ho'.ne
  rw[Bool.eq_iff_iff,decide_eq_true_eq,decide_eq_true_eq]
  rcases Nat.lt_or_gt_of_ne hne with z|z
  ·exact⟨λy=>by omega,λy=>hs.2 z y⟩
  ·exact⟨λy=>hs.1 z y,λy=>by omega⟩
 by_cases z:p<q
 ·rw[Yd (by simpa using z),Yd z,YR,e]
 ·rw[Yb (by simpa using z),Yb z,e,Nat.add_zero]
theorem ZfP {ns T:List Int} (hT:Zq ns T) {R:Nat->Nat->Prop} (h1:∀p q,p<ns.length->q<ns.length->nth T p=q->Over (nth ns) q p->R q p) (h2:∀o q p,Over (nth ns) o q->Over (nth ns) q p->R o q->R q p->R o p) :
  ∀d p o,p<ns.length->o<ns.length->dep (nth ns) ns.length p=d->Over (nth ns) o p->R o p:=by
 intro d
 induction d with
 |zero =>
  intro p o hp ho hd hO
  rcases ZG hT hp with z|⟨q,e,hq,hOq,hdq⟩
  ·exact absurd hO (ZeS hp ho (z▸hT.2 p hp))
  ·omega
 |succ d ih =>
  intro p o hp ho hd hO
  rcases ZG hT hp with z|⟨q,e,hq,hOq,hdq⟩
  ·exact absurd hO (ZeS hp ho (z▸hT.2 p hp))
  ·rcases(ZhL hp ho (show ZL (nth ns) ns.length p (q:Int)from(show T.getD p 0=(q:Int)from e)▸hT.2 p hp)).mp hO with y|y
   ·rw[y];exact h1 p q hp hq e hOq
   ·exact h2 o q p y hOq (ih q o hq ho (by omega) y) (h1 p q hp hq e hOq)
theorem Zoi {ns T:List Int} (hT:Zq ns T) {p o:Nat} (hp:p<ns.length) (ho:o<ns.length) (hO:Over (nth ns) o p):ZaH T o<=ZaH T p/\(p<o->ZaH T o<ZaH T p):=by
 refine ZfP hT (R:=λo p=>ZaH T o<=ZaH T p/\(p<o->ZaH T o<ZaH T p)) (λp q hp hq e hO=>?_) (λo q p h1 h2 r1 r2=>?_) _ p o hp ho rfl hO
 ·have:=Zjo hT hp hq e hO
  refine⟨by omega,λz=>?_⟩
  rw[Yd z]at this;omega
 ·refine⟨Yo r1.1 r2.1,λz=>?_⟩
  by_cases y:p<q
  ·have:=r2.2 y;have:=r1.1;omega
  ·have hne:=h2.ne
   have:=r1.2 (by omega);have:=r2.1;omega
section
variable {X:Cx}{pins:List (Addr×Obj)}{σ:St}{H:Hp}{s:Shared}{h':Heap}
theorem Inv.Znv {t':Nat}{fp:List Addr}{T:Addr}{o:HO} (I:Inv X pins σ H s) (k:∀b u,b∉fp->s.heap.get? b=some u->h'.get? b=some u) (hf:∀b∈fp,FpOk X pins H b) (hT:s.heap.objs.size<=T) (new:ZZ X.prog X.w (upd H T o) h' T o) :
  Inv X pins σ (upd H T o) {s with heap:=h',toks:=t'}:=by
 have nit:∀b u,H b=some u->b∉fp:=λb u e z=>by rw[(hf b z).1]at e;cases e
 have hfr:H T=none:=I.hok.fresh hT
 have neT:∀b u,s.heap.get? b=some u->b≠T:=λb u e z=>absurd (Yk e) (by rw[z];exact Nat.not_lt_of_le hT)
 have neH:∀b u,H b=some u->b≠T:=λb u e z=>by rw[z,hfr]at e;cases e
 refine I.step (g':=s.gens) (d':=s.drawn) (ch:=fp) (λb hb=>?_) (λb o _ _ hc e _=>k b o hc e) (λb o _ _ hc e _=>⟨o.slots,k b o hc e⟩) (λb u _ e n=>by rw[Zg (neT b u e)];exact n)
  (λb o hc e=>⟨o,k b o hc e⟩) (λb xs e=>by rw[Zg (neH b _ e)];exact e) (λb o u e=>by rw[Zg (neH b _ e)];exact e) (λb ps e=>⟨#[],by rw[Zg (neH b _ e),e];simp⟩) (λm hm=>?_) (λb u e=>?_) I.bare
 ·obtain⟨_,f1,_,f3,f4,f5⟩:=hf b hb
  exact⟨f3,f1,f4,f5⟩
 ·obtain⟨o,es,ep,ho,r⟩:=hm
  exact⟨o,es,ep,k _ o (λz=>(hf _ z).2.1 rfl) ho,r⟩
 ·by_cases z:b=T
  ·subst z
   rw[Zb]at e;cases e
   exact new
  ·rw[Zg z]at e
   refine(I.hok b u e).Zfz (λc v hc q=>k c v ?_ q) (λc q=>?_) (λc xs q=>?_) λc o u q=>?_
   ·rcases hc with y|y
    ·rw[y];exact nit b u e
    ·exact nit c _ y
   ·rw[Zg (neH _ _ q)];exact q
   ·rw[Zg (neH _ _ q)];exact q
   ·rw[Zg (neH _ _ q)];exact q
noncomputable def Ite (K : Frag) (a : Addr) : It :=
  ⟨fun i H => ∃ xs x, SqL K H a xs ∧ xs[i]? = some x,
   fun i H v H' => ∃ p x, H p = none ∧ v = .ref p ∧ H' = upd H p (.tup [.int (i : Int), x]) ∧ ∀ xs, SqL K H a xs → xs[i]? = some x,
   fun i H => ∃ xs, SqL K H a xs ∧ xs.length = i⟩
theorem Zoj {P:Program}{w:World}{K:Frag}{elts:List Expr} {x1}{pos:Pos}{a e it:Addr} (h1:e≠it) (h2:a≠e) (h3:a≠it) :
  Turn P w K (.Tuple elts x1 pos) (Ite K a) [e,it] e (λi h=>(∃old,IsEnum h e it (i:Int) old)/\h.IsListIter it a i) where
 mem:=by simp
 obj:=λi h st c hc=>by
  obtain⟨⟨old,q1⟩,⟨o4,q4,_,d4⟩⟩:=st
  simp at hc
  rcases hc with rfl|rfl
  ·exact⟨_,q1,λv z=>by cases z⟩
  ·exact⟨_,q4,λv z=>by rw[d4]at z;cases z⟩
 keep:=λi h h' st k=>by
  obtain⟨⟨old,q1⟩,q4⟩:=st
  exact⟨⟨old,k e (by simp) _ q1⟩,q4.at λo z=>k it (by simp) o z⟩
 item:=by
  intro X hP hw hK hc i pins s σ H E I hf st hg
  subst hP hw hK
  obtain⟨xs,x,qa,hx⟩:=hg
  obtain⟨is1,r1,p1,hz1⟩:=I.list qa
  obtain⟨u,hu,ru⟩:=r1.get hx
  have W:=WalksT.enumerate (prog:=X.prog) (w:=X.w) (I.ok.hd hc) e it a h1 h2 h3 is1.toArray
  have hi:i<is1.toArray.size:=by
   have:=(Yx.mp hu).1
   simpa using this
  refine W.item i s _ E hi ⟨st.1,st.2,p1.isList⟩ λT vals h' tk Pt hT hTup Mid keep=>⟨_,rfl,W.go elts x1 pos i T _ _ E Mid λh2' St2 keep2=>?_⟩
  obtain⟨t,y,hy,rfl⟩:=Pt
  have hyu:y=u:=by
   have:is1[i]?=some y:=by simpa using hy
   rw[hu]at this;exact(YN this).symm
  subst hyu
  have nT:=W.apart i T h' Mid
  have hfr:H T=none:=I.hok.fresh hT
  have kk:∀b o,b∉[e,it]->s.heap.get? b=some o->h2'.get? b=some o:=λb o hb q=>keep2 b o hb (keep b o hb q)
  have nTe:∀c∈[e,it],c≠T:=λc hc z=>nT (z▸hc)
  refine⟨.ref T,_,Inv.Znv (s:=s) (t':=tk) (o:=.tup [.int (i:Int),x]) I kk hf hT ?_,rfl,⟨T,x,hfr,rfl,rfl,λxs' q'=>?_⟩,⟨?_,St2.2.1⟩,λc hc=>?_⟩
  ·obtain⟨oT,q1,q2,n,q3⟩:=hTup
   exact⟨by show 2<=sizeLine;decide,[.int (i:Int) t,y],.cons ⟨t,rfl⟩ (.cons ru .nil),⟨oT,keep2 T oT nT q1,q2,n,q3⟩⟩
  ·rw[I.Zdc q' qa];exact hx
  ·obtain⟨old,q⟩:=St2.1
   exact⟨old,by rw[show(((i+1:Nat)):Int)=(i:Int)+1 by omega]at *;exact q⟩
  ·rw[Zg (nTe c hc)];exact(hf c hc).1
 done:=by
  intro X hP hw hK hc i pins s σ H E I hf st hg
  subst hP hw hK
  obtain⟨xs,qa,hx⟩:=hg
  obtain⟨is1,r1,p1,_⟩:=I.list qa
  have W:=WalksT.enumerate (prog:=X.prog) (w:=X.w) (I.ok.hd hc) e it a h1 h2 h3 is1.toArray
  have hi:i=is1.toArray.size:=by
   have:=r1.length
   simp;omega
  refine W.done s _ E ?_ λh' tk keep=>⟨rfl,I.Zhh (t':=tk) (fp:=[e,it]) (λc o hc q=>keep c o hc q) hf⟩
  rw[<-hi]
  exact⟨st.1,st.2,p1.isList⟩
 self:=λA i s Q E st h=>by
  obtain⟨⟨old,q⟩,_⟩:=st
  exact wpAny_pyIter_enum q h
noncomputable def Zp9 (K:Frag) (ta:TA):TI:=fun σ H R=>ta σ H λvs H1=>∃a xs,vs=[.ref a]/\SqL K H1 a xs/\R (Ite K a) H1
theorem ZhQ:bootBuiltins "enumerate"=some (.type "enumerate"):=by decide +kernel
theorem Zsc {K:Frag}{elts:List Expr} {x1}{tp:Pos}{e1:Expr}{ta:TA}{p pos:Pos} (hK:X.K=K) (hg:Gl X "enumerate") (hm:X.mg "enumerate"=none) (ha:PA X [e1] ta) (hs:starEach [e1] X.env=[(false,eval e1 X.env)]:=by rfl) :
  PI X (.Tuple elts x1 tp) (.Call (.Name "enumerate" p) [e1] [] pos) (Zp9 K ta):=by
 subst hK
 intro pins s σ H R I h
 refine wpAny_Call_Name_kw (Zcn I hg hm ZhQ ?_)
 refine PyProof.Rows.callWith_type1 (thn (ha pos pins s σ H _ I h) λus s1 ⟨vs,H1,I1,r1,a,xs,e1,qa,q⟩=>?_) hs rfl
 subst e1
 obtain⟨u,rfl,ru⟩:=r1.one
 cases(show u=Value.ref a from ru)
 obtain⟨is1,rr1,p1,_⟩:=I1.list qa
 refine call_enumerate_list p1.isList λh' c1 c2 c3 c4=>?_
 have l1:a<s1.heap.objs.size:=by obtain⟨o,e,_⟩:=p1.isList;exact Yk e
 have sm:∀b,s1.heap.objs.size<=b->FpOk X pins H1 b:=λb hb=>I1.ZkG hb (I1.hok.fresh hb)
 have n1:s1.heap.objs.size+1≠s1.heap.objs.size:=by show ¬ ((_:Nat)=_);omega
 have n2:a≠s1.heap.objs.size+1:=Yp (YV l1)
 have n3:a≠s1.heap.objs.size:=Yp l1
 have T:=Zoj (P:=X.prog) (w:=X.w) (K:=X.K) (elts:=elts) (x1:=x1) (pos:=tp) n1 n2 n3
 refine T.self _ 0 _ _ _ ⟨⟨_,c1⟩,c2⟩ ?_
 refine⟨_,[s1.heap.objs.size+1,s1.heap.objs.size],_,_,H1,rfl,I1.kept (t':=s1.toks) c4,T,⟨⟨_,c1⟩,c2⟩,λc hc=>?_,q⟩
 simp at hc
 rcases hc with rfl|rfl<;>exact sm _ (by omega)
end
theorem Zok {prog:Program}{w:World}{A:Around}{R:Result->Shared->Prop}{I:Addr}{fp wr:List Addr}{n:Nat}{P:Nat->Value->Prop}{St:Nat->Heap->Prop} (W:Walks prog w A.in1 I fp wr n P St) (bt:Nat->Nat->Bool) (hc:CmpOf prog w A.in1 .Lt P bt)
  (S:Addr) (hS:S∉fp) (dk:Str) (d:Value) (h0:Heap) (s0:Shared)
  (hR0:n=0->∀h' tk,(∀b o,b∉wr->b≠S->h0.get? b=some o->h'.get? b=some o)->R (.ok (.ret d)) {s0 with heap:=h',toks:=tk})
  (hR:0<n->∀v h' tk,P (argBest bt (n-1)) v->(∀b o,b∉wr->b≠S->h0.get? b=some o->h'.get? b=some o)->R (.ok (.ret v)) {s0 with heap:=h',toks:=tk}) :
  ∀(k j:Nat) (h:Heap) (tk:Nat),n-j=k->j<=n->St j h->(∀b o,b∉wr->b≠S->h0.get? b=some o->h.get? b=some o) ->
   ((j=0/\∃c,h.get? S=some {cls:=.type "list",data:=.seq #[] c})\/(0<j/\∃vb c,P (argBest bt (j-1)) vb/\h.get? S=some {cls:=.type "list",data:=.seq #[vb,vb] c})) ->
   codeAny (model prog w) A (.builtin "min.loop" {pos:=[.ref I,.none,.ref S],kw:=[(dk,d)]}) R {s0 with heap:=h,toks:=tk}:=by
 intro k
 induction k with
 |zero =>
  intro j h tk hk hj hst keep hb
  refine codeAny_builtin F.entry_min_loop ?_
  have hjn:j=n:=by omega
  subst hjn
  rcases hb with⟨hj0,c,hb⟩|⟨hj0,vb,c,hvb,hb⟩
  ·show wpAny _ _ (_ >>= _) _ _ _
   refine Ya (wpAny_seqItems hb rfl ?_)
   refine Ya (wpAny_tryCatch (W.done _ _ _ hst λh' tk' kp=>?_))
   refine Ya (wpAny_rule (Yc ?_))
   exact hR0 hj0 h' tk' λb o hb1 hb2 e=>kp b o hb1 (keep b o hb1 hb2 e)
  ·show wpAny _ _ (_ >>= _) _ _ _
   refine Ya (wpAny_seqItems hb rfl ?_)
   refine Ya (wpAny_tryCatch (W.done _ _ _ hst λh' tk' kp=>?_))
   have hS':S∉wr:=λz=>hS (W.sub S z)
   have hb':=kp S _ hS' hb
   refine Ya (wpAny_updateSeq hb' rfl ?_ (show 2<=sizeLine by decide) (Yr _))
   refine Ya (wpAny_letGo (Yc ?_))
   refine hR hj0 vb _ tk' hvb λb o hb1 hb2 e=>?_
   exact(Heap.get?_update_other _ _ (Ne.symm hb2)).trans (kp b o hb1 (keep b o hb1 hb2 e))
 |succ k ih =>
  intro j h tk hk hj hst keep hb
  refine codeAny_builtin F.entry_min_loop ?_
  have hjn:j<n:=by omega
  have hS':S∉wr:=λz=>hS (W.sub S z)
  rcases hb with⟨hj0,c,hb⟩|⟨hj0,vb,c,hvb,hb⟩
  ·show wpAny _ _ (_ >>= _) _ _ _
   refine Ya (wpAny_seqItems hb rfl ?_)
   refine Ya (wpAny_tryCatch (W.item j _ _ _ hjn hst λv h' tk' hv hst' kp=>?_))
   have hb':=kp S _ hS' hb
   refine Ya (Yc ?_)
   refine Ya (wpAny_updateSeq hb' rfl ?_ (Yr _) (show 2<=sizeLine+1 by decide))
   refine Yc ⟨rfl,?_⟩
   have e9:=PySem.IsL.update hb' (λ_=>#[v,v])
   refine ih (j+1) _ tk' (by omega) (by omega) (W.frame _ _ _ hst' λb hb1 o e=>?_) (λb o hb1 hb2 e=>?_) (.inr ⟨by omega,v,_,?_,e9⟩)
   ·exact(Heap.get?_update_other _ _ (show S≠b from λz=>hS (by rw[z];exact hb1))).trans e
   ·exact(Heap.get?_update_other _ _ (Ne.symm hb2)).trans (kp b o hb1 (keep b o hb1 hb2 e))
   ·rw[hj0];rw[hj0]at hv;exact hv
  ·show wpAny _ _ (_ >>= _) _ _ _
   refine Ya (wpAny_seqItems hb rfl ?_)
   refine Ya (wpAny_tryCatch (W.item j _ _ _ hjn hst λv h' tk' hv hst' kp=>?_))
   have hb':=kp S _ hS' hb
   obtain⟨j',rfl⟩:∃j',j=j'+1:=⟨j-1,by omega⟩
   have hvb':P (argBest bt j') vb:=hvb
   have eA:argBest bt (j'+1)=if bt (j'+1) (argBest bt j')=true then j'+1 else argBest bt j':=rfl
   refine Ya (Yc ?_)
   refine Ya (wpAny_tryCatch (wpAny_holding (Ya (hc (j'+1) (argBest bt j') v vb _ _ _ hv hvb' (Ya (wpAny_holding (wpAny_truthy_bool (Ya (wpAny_letGo (Yc ?_))))))))))
   by_cases z:bt (j'+1) (argBest bt j')=true
   ·rw[Yd z]
    refine Ya (wpAny_updateSeq hb' rfl ?_ (show 2<=sizeLine by decide) (show 2<=sizeLine+1 by decide))
    refine Ya (wpAny_letGo (Yc ⟨rfl,?_⟩))
    have e9:=PySem.IsL.update hb' (λ_=>#[v,v])
    refine ih (j'+1+1) _ tk' (by omega) (by omega) (W.frame _ _ _ hst' λb hb1 o e=>?_) (λb o hb1 hb2 e=>?_) (.inr ⟨by omega,v,_,?_,e9⟩)
    ·exact(Heap.get?_update_other _ _ (show S≠b from λz=>hS (by rw[z];exact hb1))).trans e
    ·exact(Heap.get?_update_other _ _ (Ne.symm hb2)).trans (kp b o hb1 (keep b o hb1 hb2 e))
    ·show P (argBest bt (j'+1)) v
     rw[eA,Yd z];exact hv
   ·rw[Yb z]
    refine Ya (wpAny_letGo (Yc ⟨rfl,?_⟩))
    refine ih (j'+1+1) _ tk' (by omega) (by omega) hst' (λb o hb1 hb2 e=>kp b o hb1 (keep b o hb1 hb2 e)) (.inr ⟨by omega,vb,_,?_,hb'⟩)
    show P (argBest bt (j'+1)) vb
    rw[eA,Yb z];exact hvb'
theorem Zol (a d:Value):argsOk "min" {pos:=[a],kw:=[("default",d)]}:=by first|rfl|decide
theorem Zom {prog:Program}{w:World}{A:Around}{E Q:Value->Shared->Prop}{s:Shared}{l:Addr}{xs:Array (Int×Tok)}{d:Value} (hA:A.handled=none) (hl:s.heap.IsList l (intItems xs))
  (q0:xs.size=0->∀h' tk,(∀b o,s.heap.get? b=some o->h'.get? b=some o)->Q d {s with heap:=h',toks:=tk})
  (q1:0<xs.size->∀v h' tk,(intItems xs)[argBest (λi j=>decide (numAt xs i<numAt xs j)) (xs.size-1)]?=some v->(∀b o,s.heap.get? b=some o->h'.get? b=some o)->Q v {s with heap:=h',toks:=tk}) :
  wpAny (model prog w) A (call (.builtin "min") [.ref l] [("default",d)]) Q E s:=by
 refine wpAny_call (codeAny_call_builtin_code rfl ?_)
 have hck:checkBuiltinCall "min" {pos:=[.ref l],kw:=[("default",d)]}=pure ():=by
  unfold checkBuiltinCall
  rw[F.kind_min]
  exact Zol (.ref l) d
 rw[hck]
 refine Yc (codeAny_builtin F.entry_min ?_)
 show wpAny _ _ (_ >>= _) _ _ _
 have hbp:Builtin.Builtins.bindParams "min" ["key","default"] 0 {kw:=[("default",d)]}=pure [none,some d]:=by
  first|rfl|with_unfolding_all rfl|(simp[Builtin.Builtins.bindParams];done)
 refine Ya (wpAny_of_eq hbp (Ya (Yc (Ya (wpAny_pyIter_list hl ?_)))))
 refine Ya (wpAny_newObj_type ?_)
 refine Yc ⟨rfl,?_⟩
 have hlt:l<s.heap.objs.size:=by obtain⟨o,e,_⟩:=hl;exact Yk e
 have n1:l≠s.heap.objs.size:=Yp hlt
 have esz:(s.heap.push {cls:=.type "list_iterator",data:=.fields #[.ref l,.int 0 0]}).objs.size=s.heap.objs.size+1:=Heap.size_push _ _
 have old:∀b o,s.heap.get? b=some o->((s.heap.push {cls:=.type "list_iterator",data:=.fields #[.ref l,.int 0 0]}).push {cls:=.type "list",data:=.seq #[]}).get? b=some o:=λb o e=>Yh _ (Yh _ e)
 have ne:∀b o,s.heap.get? b=some o->b∉[s.heap.objs.size]/\b≠(s.heap.push {cls:=.type "list_iterator",data:=.fields #[.ref l,.int 0 0]}).objs.size:=λb o e=>by
  have:=Yk e
  refine⟨λz=>?_,λz=>?_⟩
  ·have:b=s.heap.objs.size:=by simpa using z
   exact absurd (Yk e) (by rw[this];exact YO _)
  ·rw[z,esz]at this
   exact absurd this (Nat.not_lt_of_le (YU _))
 have W:=Walks.list (prog:=prog) (w:=w) (A:=A.in1) hA s.heap.objs.size l n1 (intItems xs)
 have hitm:(intItems xs).size=xs.size:=by simp[intItems]
 refine Zok W (λi j=>decide (numAt xs i<numAt xs j)) (CmpOf.ints_lt (numAt xs) λi v h=>intItems_at h) _ ?_ "default" d _ s (λz h' tk kp=>?_) (λz v h' tk hv kp=>?_) (intItems xs).size 0 _ _ rfl (Yr _) ⟨?_,?_⟩ (λb o _ _ e=>e) (.inl ⟨rfl,_,Yt _ rfl⟩)
 ·rw[esz]
  simp only[Ym,List.not_mem_nil,or_false,not_or]
  exact⟨Nat.ne_of_gt (Nat.lt_succ_self _),Nat.ne_of_gt (YV hlt)⟩
 ·exact q0 (by omega) h' tk λb o e=>kp b o (ne b o e).1 (ne b o e).2 (old b o e)
 ·exact q1 (by omega) v h' tk (by rw[<-hitm];exact hv) λb o e=>kp b o (ne b o e).1 (ne b o e).2 (old b o e)
 ·exact⟨_,Yh _ (Yt _ rfl),rfl,rfl⟩
 ·obtain⟨o,e,r⟩:=hl
  exact⟨o,old _ _ e,r⟩
section
variable {X:Cx}
noncomputable def Zqa (K:Frag) (ta td:TA):TE:=fun σ H Q=>ta σ H λvs H1=>td σ H1 λzs H2=>∃(p:Addr) (ns:List Int) (d:Int),vs=[.ref p]/\zs=[.int d]/\SqL K H2 p (ns.map V.int)/\(ns=[]->Q (.int d) H2)/\(ns≠[]->∀m,m∈ns->(∀a∈ns,m<=a)->Q (.int m) H2)
theorem Zsd {K:Frag}{e:Expr}{kws:List Keyword}{ta td:TA}{p pos:Pos} (hK:X.K=K) (hc:X.calm=true) (hg:Gl X "min") (hm:X.mg "min"=none) (ha:PA X [e] ta) (hd:PK X kws td)
  (he:starEach [e] X.env=(false,eval e X.env)::starEach [] X.env:=by rfl) (hpl:(backTo pos (starEach [e] X.env)).any (·.1)=false:=by rfl) (hall:(backToKw pos (keywordEach kws X.env)).all (·.1.isSome)=true:=by rfl)
  (hnn:(backToKw pos (keywordEach kws X.env)).any (·.1.isNone)=false:=by rfl) (hks:(backToKw pos (keywordEach kws X.env)).filterMap (·.1)=[(("default":String):Str)]:=by rfl) (hb:backTo pos (starEach [e] X.env)=(false,eval e X.env)::backTo pos (starEach [] X.env):=by rfl) :
  PE X (.Call (.Name "min" p) [e] kws pos) (Zqa K ta td):=by
 subst hK
 intro pins s σ H Q I h
 refine wpAny_Call_Name_kw (Zcn I hg hm Zma ?_)
 refine PyProof.Rows.callWith_kw (thn (ha pos pins s σ H _ I h) λus s1 ⟨vs,H1,I1,r1,q1⟩=>?_) hb hpl hall hnn
 refine thn (hd pos pins s1 σ H1 _ I1 q1) λws s2 ⟨zs,H2,I2,r2,pp,ns,d,e1,e2,hp,q0,qm⟩=>?_
 subst e1 e2
 obtain⟨u,rfl,ru⟩:=r1.one
 obtain⟨v,rfl,rv⟩:=r2.one
 cases(show u=Value.ref pp from ru)
 rw[hks]
 obtain⟨its,rr,pl,hz⟩:=I2.list hp
 obtain⟨ys,e1,e2⟩:=ZjS rr
 have hsz:ys.size=ns.length:=by
  have:=congrArg List.length e2
  rw[Yf,YQ]at this
  exact this
 refine Zom (xs:=ys) (I2.ok.hd hc) (e1▸pl.isList) (λz h' tk k=>?_) (λz v' h' tk hv k=>?_)
 ·exact⟨.int d,H2,I2.kept k,rv,q0 (List.length_eq_zero_iff.mp (by omega))⟩
 ·obtain⟨t,rfl⟩:=intItems_at hv
  obtain⟨h1,h2⟩:=argBest_lt (numAt ys) (ys.size-1)
  refine⟨.int _,H2,I2.kept k,⟨t,rfl⟩,qm (λy=>by have h3:ys.size=0:=(by rw[hsz,y];rfl);omega) _ ?_ λa ha=>?_⟩
  ·rw[numAt_eq,e2];exact getD_mem (by omega)
  ·obtain⟨j,hj,rfl⟩:=mem_getD ha
   rw[<-e2,<-numAt_eq];exact h2 j (by omega)
end
theorem bt_abs:bootBuiltins "abs"=some (.builtin "abs"):=by decide +kernel
section
variable {X:Cx}
noncomputable def Zj0 (K:Frag):List V->Hp->VK->Prop:=λxs H Q=>∃(p:Addr) (ns:List Int),xs=[.ref p]/\SqL K H p (ns.map V.int)/\ns.length<64/\∀(ns':List Int) (l:Addr),ns'.Perm ns->ns'.Pairwise (·<=·)->H l=none->Q (.ref l) (upd H l (.lst (ns'.map V.int)))
theorem ZkX {K:Frag} (hK:X.K=K):ZaF X (.builtin "sorted") (Zj0 K):=by
 subst hK
 intro pins s σ H xs us Q I r h
 obtain⟨p,ns,rfl,hp,hn,q⟩:=h
 obtain⟨u,rfl,ru⟩:=r.one
 cases(show u=Value.ref p from ru)
 obtain⟨its,rv,pl,hz⟩:=I.list hp
 have hi:IntsAre its ns:=intsAre_of rv
 have hl:its.length=ns.length:=by have:=rv.length;rw[Yf]at this;exact this.symm
 refine sorted_ints pl.isList hi (by omega) λout ns' ho hperm hpw=>?_
 have hlen:ns'.length=ns.length:=hperm.length_eq
 refine⟨.ref (s.heap.objs.size+1),_,I.laid (t':=s.toks) (a:=s.heap.objs.size+1) (o:=.lst (ns'.map V.int)) (λb o e=>?_) (YU _) ?_,rfl,q ns' _ hperm hpw (I.hok.fresh (YU _))⟩
 ·exact sortedAll_old e
 ·obtain⟨n,e⟩:=sortedAll_at s.heap its out
  have hv:Vals (ns'.map V.int) out.toList:=ZeP ho
  exact⟨by rw[Yf];exact Yo (show ns'.length<=1000 by omega) (by decide),out.toList,n,hv,by rw[e]⟩
theorem ZeU:bootBuiltins "sorted"=some (.builtin "sorted"):=by decide +kernel
end
section
variable {prog:Program}{w:World}{A:Around}{E Q:Value->Shared->Prop}{s:Shared}{it t:Addr}{i:Nat}{items:Array Value}
theorem ZcG {x:Value} (hi:s.heap.IsTupleIter it t i) (ht:s.heap.IsTuple t items) (hx:items[i]?=some x) (h:∀h',h'.IsTupleIter it t (i+1)->Heap.SameBut it s.heap h'->Q x {s with heap:=h'}):wpAny (model prog w) A (Builtin.SmallTypes.nextOf (.ref it)) Q E s:=by
 obtain⟨o,ho,hc,hd⟩:=id hi
 obtain⟨ot,hot,hct,n,hdt⟩:=id ht
 have hT:s.TypeIs (.ref it) "tuple_iterator":=⟨o,ho,hc⟩
 unfold Builtin.SmallTypes.nextOf
 refine Ya (wpAny_callSpecial?_slot hT F.slot_tuple_iterator_next (wpAny_call_entry F.slot_tuple_iterator_next hT F.entry_tuple_iterator_next ?_ (F.args_tuple_iterator_next_1 _)))
 show wpAny _ _ (_ >>= _) _ _ _
 refine Ya (wpAny_of_eq (show slotArgs "__next__" 0 {pos:=[.ref it]}=pure (.ref it,[])from rfl) ?_)
 refine Ya (wpAny_field ho hd (x:=.ref t) rfl ?_)
 rw[Yb (by simp)]
 refine Ya (wpAny_field ho hd (x:=.int (i:Int) 0) rfl ?_)
 refine Ya (wpAny_seqItems hot hdt ?_)
 dsimp only
 rw[Ys,hx]
 refine Ya (wpAny_setField ho hd (by show 1<2;decide) (Yc ⟨x,rfl,?_⟩))
 refine Yc (h _ ?_ ⟨by simp,λb hb=>Heap.get?_update_other _ _ (Ne.symm hb)⟩)
 obtain⟨cls,dict,data,slots⟩:=o
 simp only at hc hd
 subst hc hd
 exact⟨_,Heap.get?_update_self _ ho rfl,rfl,rfl⟩
theorem Zdh (hA:A.handled=none) (hi:s.heap.IsTupleIter it t i) (ht:s.heap.IsTuple t items) (hx:items[i]?=none) (h:∀h' e,Heap.ExtBut it s.heap h'->(∃o,h'.get? e=some o/\o.cls=.type "StopIteration")->E (.ref e) {s with heap:=h'}):wpAny (model prog w) A (Builtin.SmallTypes.nextOf (.ref it)) Q E s:=by
 obtain⟨o,ho,hc,hd⟩:=id hi
 obtain⟨ot,hot,hct,n,hdt⟩:=id ht
 have hT:s.TypeIs (.ref it) "tuple_iterator":=⟨o,ho,hc⟩
 unfold Builtin.SmallTypes.nextOf
 refine Ya (wpAny_callSpecial?_slot hT F.slot_tuple_iterator_next (wpAny_call_entry F.slot_tuple_iterator_next hT F.entry_tuple_iterator_next ?_ (F.args_tuple_iterator_next_1 _)))
 show wpAny _ _ (_ >>= _) _ _ _
 refine Ya (wpAny_of_eq (show slotArgs "__next__" 0 {pos:=[.ref it]}=pure (.ref it,[])from rfl) ?_)
 refine Ya (wpAny_field ho hd (x:=.ref t) rfl ?_)
 rw[Yb (by simp)]
 refine Ya (wpAny_field ho hd (x:=.int (i:Int) 0) rfl ?_)
 refine Ya (wpAny_seqItems hot hdt ?_)
 dsimp only
 rw[Ys,hx]
 refine Ya (wpAny_rule (Ya (wpAny_setField ho hd (by show 0<2;decide) ?_)))
 unfold Builtin.SmallTypes.stopIteration
 refine Ya ?_
 unfold newExc
 refine Ya (wpAny_newTuple ?_ (Yr _))
 refine Ya (wpAny_of_eq (show firstArgMember (.type "StopIteration") []=pure .none by first|rfl|(unfold firstArgMember;rfl)) ?_)
 refine wpAny_newObj_type (wpAny_raiseNew_none hA (h _ _ (λb o' hb e=>?_) ⟨_,Yt _ rfl,rfl⟩))
 exact Yh _ (Yh _ ((Heap.get?_update_other _ _ (Ne.symm hb)).trans e))
theorem ZgM (hA:A.handled=none) (it t:Addr) (hne:t≠it) (items:Array Value):Draws prog w A it [it,t] items.size (λi v=>items[i]?=some v) (λi h=>h.IsTupleIter it t i/\h.IsTuple t items) where
 live:=λi h st=>by obtain⟨⟨o,ho,_⟩,_⟩:=st;exact⟨o,ho⟩
 frame:=λi h h' st k=>by
  obtain⟨⟨o,ho,r⟩,⟨ot,hot,rt⟩⟩:=st
  exact⟨⟨o,k it (by simp) o ho,r⟩,⟨ot,k t (by simp) ot hot,rt⟩⟩
 item:=λi s Q E hi st h=>by
  obtain⟨ot,hot,rt⟩:=st.2
  refine ZcG st.1 st.2 (Array.getElem?_eq_getElem hi) λh' hit hs=>h _ h' s.toks (Array.getElem?_eq_getElem hi) ⟨hit,⟨ot,(hs.2 t hne).trans hot,rt⟩⟩ hs
 done:=λs Q E st h=>Zdh hA st.1 st.2 (Array.getElem?_eq_none (Ye _)) h
end
section
variable {X:Cx}{pins:List (Addr×Obj)}{σ:St}{H:Hp}{s:Shared}{h':Heap}
noncomputable def IteT (K : Frag) (a : Addr) : It :=
  ⟨fun i H => ∃ xs x, SqT K H a xs ∧ xs[i]? = some x,
   fun i H v H' => ∃ p x, H p = none ∧ v = .ref p ∧ H' = upd H p (.tup [.int (i : Int), x]) ∧ ∀ xs, SqT K H a xs → xs[i]? = some x,
   fun i H => ∃ xs, SqT K H a xs ∧ xs.length = i⟩
theorem Zmg {P:Program}{w:World}{K:Frag}{elts:List Expr} {x1}{pos:Pos}{a e it:Addr} (h1:e≠it) (h2:a≠e) (h3:a≠it) :
  Turn P w K (.Tuple elts x1 pos) (IteT K a) [e,it] e (λi h=>(∃old,IsEnum h e it (i:Int) old)/\h.IsTupleIter it a i) where
 mem:=by simp
 obj:=λi h st c hc=>by
  obtain⟨⟨old,q1⟩,⟨o4,q4,_,d4⟩⟩:=st
  simp at hc
  rcases hc with rfl|rfl
  ·exact⟨_,q1,λv z=>by cases z⟩
  ·exact⟨_,q4,λv z=>by rw[d4]at z;cases z⟩
 keep:=λi h h' st k=>by
  obtain⟨⟨old,q1⟩,⟨o,ho,r⟩⟩:=st
  exact⟨⟨old,k e (by simp) _ q1⟩,⟨o,k it (by simp) o ho,r⟩⟩
 item:=by
  intro X hP hw hK hc i pins s σ H E I hf st hg
  subst hP hw hK
  obtain⟨xs,x,qa,hx⟩:=hg
  obtain⟨is1,r1,p1,hz1⟩:=I.tuple qa
  obtain⟨u,hu,ru⟩:=r1.get hx
  have W:=WalksT.enumerateD (prog:=X.prog) (w:=X.w) (A:=X.A) (ZgM (A:=X.A.in1) (I.ok.hd hc) it a h3 is1.toArray) e h1 (by simp;exact⟨h1,h2.symm⟩) (by simp)
  have hi:i<is1.toArray.size:=by
   have:=(Yx.mp hu).1
   simpa using this
  refine W.item i s _ E hi ⟨st.1,st.2,p1⟩ λT vals h' tk Pt hT hTup Mid keep=>⟨_,rfl,W.go elts x1 pos i T _ _ E Mid λh2' St2 keep2=>?_⟩
  obtain⟨t,y,hy,rfl⟩:=Pt
  have hyu:y=u:=by
   have:is1[i]?=some y:=by simpa using hy
   rw[hu]at this;exact(YN this).symm
  subst hyu
  have nT:=W.apart i T h' Mid
  have hfr:H T=none:=I.hok.fresh hT
  have kk:∀b o,b∉[e,it]->s.heap.get? b=some o->h2'.get? b=some o:=λb o hb q=>keep2 b o hb (keep b o hb q)
  have nTe:∀c∈[e,it],c≠T:=λc hc z=>nT (z▸hc)
  refine⟨.ref T,_,Inv.Znv (s:=s) (t':=tk) (o:=.tup [.int (i:Int),x]) I kk hf hT ?_,rfl,⟨T,x,hfr,rfl,rfl,λxs' q'=>?_⟩,⟨?_,St2.2.1⟩,λc hc=>?_⟩
  ·obtain⟨oT,q1,q2,n,q3⟩:=hTup
   exact⟨by show 2<=sizeLine;decide,[.int (i:Int) t,y],.cons ⟨t,rfl⟩ (.cons ru .nil),⟨oT,keep2 T oT nT q1,q2,n,q3⟩⟩
  ·rw[I.ZeN q' qa];exact hx
  ·obtain⟨old,q⟩:=St2.1
   exact⟨old,by rw[show(((i+1:Nat)):Int)=(i:Int)+1 by omega]at *;exact q⟩
  ·rw[Zg (nTe c hc)];exact(hf c hc).1
 done:=by
  intro X hP hw hK hc i pins s σ H E I hf st hg
  subst hP hw hK
  obtain⟨xs,qa,hx⟩:=hg
  obtain⟨is1,r1,p1,_⟩:=I.tuple qa
  have W:=WalksT.enumerateD (prog:=X.prog) (w:=X.w) (A:=X.A) (ZgM (A:=X.A.in1) (I.ok.hd hc) it a h3 is1.toArray) e h1 (by simp;exact⟨h1,h2.symm⟩) (by simp)
  have hi:i=is1.toArray.size:=by
   have:=r1.length
   simp;omega
  refine W.done s _ E ?_ λh' tk keep=>⟨rfl,I.Zhh (t':=tk) (fp:=[e,it]) (λc o hc q=>keep c o hc q) hf⟩
  rw[<-hi]
  exact⟨st.1,st.2,p1⟩
 self:=λA i s Q E st h=>by
  obtain⟨⟨old,q⟩,_⟩:=st
  exact wpAny_pyIter_enum q h
theorem Zmh {M:Model}{A:Around}{E:Value->Shared->Prop}{s:Shared} (cls:Value):wpAny M A (Builtin.SmallTypes.calledThroughType cls) (λ_ s'=>s'=s) E s:=by
 unfold Builtin.SmallTypes.calledThroughType
 exact Ya (wpAny_stack λst _ _ _=>Yc rfl)
theorem ZkY {prog:Program}{w:World} (l:Addr) (items:Array Value):MeetsIn prog w (Builtin.«enumerate.__new__» {pos:=[.type "enumerate",.ref l]}) λA R s=>s.heap.IsTuple l items/\R (.ok (.ret (.ref (s.heap.objs.size+1)))) {s with heap:=(s.heap.push {cls:=.type "tuple_iterator",data:=.fields #[.ref l,.int 0 0]}).push {cls:=.type "enumerate",data:=.fields #[.none,.bool false,.ref s.heap.objs.size,rawInt 0,.none,.none]}}:=by
 intro A R s ⟨h,hR⟩
 unfold Builtin.«enumerate.__new__»
 refine Ya (wpAny_of_eq (show Builtin.SmallTypes.newClass "enumerate" {pos:=[.type "enumerate",.ref l]}=pure (.type "enumerate",[.ref l])from by first|rfl|(unfold Builtin.SmallTypes.newClass;rfl)) ?_)
 show wpAny _ _ (_ >>= _) _ _ _
 have hsz:(s.heap.push {cls:=.type "tuple_iterator",data:=.fields #[.ref l,.int 0 0]}).objs.size=s.heap.objs.size+1:=Heap.size_push _ _
 refine Ya (thn (Zmh (.type "enumerate")) λb s' e=>?_)
 subst e
 cases b with
 |true =>
  show wpAny _ _ (_ >>= _) _ _ _
  refine Ya (wpAny_of_eq (show _=pure (.ref l,none)from rfl) ?_)
  show wpAny _ _ (_ >>= _) _ _ _
  refine Ya (wpAny_pyIter_tuple h ?_)
  show wpAny _ _ (newObj (.type "enumerate") (.fields #[.none,.bool false,.ref s'.heap.objs.size,rawInt 0,.none,.none]) >>= _) _ _ _
  refine Ya (wpAny_newObj_type (Yc ?_))
  rw[hsz];exact hR
 |false =>
  show wpAny _ _ (_ >>= _) _ _ _
  refine Ya (wpAny_of_eq (show _=pure (.ref l,none)from rfl) ?_)
  show wpAny _ _ (_ >>= _) _ _ _
  refine Ya (wpAny_pyIter_tuple h ?_)
  show wpAny _ _ (newObj (.type "enumerate") (.fields #[.none,.bool false,.ref s'.heap.objs.size,rawInt 0,.none,.none]) >>= _) _ _ _
  refine Ya (wpAny_newObj_type (Yc ?_))
  rw[hsz];exact hR
noncomputable def Zmi (K:Frag) (ta:TA):TI:=fun σ H R=>ta σ H λvs H1=>∃a xs,vs=[.ref a]/\SqT K H1 a xs/\R (IteT K a) H1
theorem Zqb {K:Frag}{elts:List Expr} {x1}{tp:Pos}{e1:Expr}{ta:TA}{p pos:Pos} (hK:X.K=K) (hg:Gl X "enumerate") (hm:X.mg "enumerate"=none) (ha:PA X [e1] ta) (hs:starEach [e1] X.env=[(false,eval e1 X.env)]:=by rfl) :
  PI X (.Tuple elts x1 tp) (.Call (.Name "enumerate" p) [e1] [] pos) (Zmi K ta):=by
 subst hK
 intro pins s σ H R I h
 refine wpAny_Call_Name_kw (Zcn I hg hm ZhQ ?_)
 refine PyProof.Rows.callWith_type1 (thn (ha pos pins s σ H _ I h) λus s1 ⟨vs,H1,I1,r1,a,xs,e1,qa,q⟩=>?_) hs rfl
 subst e1
 obtain⟨u,rfl,ru⟩:=r1.one
 cases(show u=Value.ref a from ru)
 obtain⟨is1,rr1,p1,_⟩:=I1.tuple qa
 have l1:a<s1.heap.objs.size:=by obtain⟨o,e,_⟩:=p1;exact Yk e
 have sm:∀b,s1.heap.objs.size<=b->FpOk X pins H1 b:=λb hb=>I1.ZkG hb (I1.hok.fresh hb)
 have n1:s1.heap.objs.size+1≠s1.heap.objs.size:=by show ¬ ((_:Nat)=_);omega
 have n2:a≠s1.heap.objs.size+1:=Yp (YV l1)
 have n3:a≠s1.heap.objs.size:=Yp l1
 have T:=Zmg (P:=X.prog) (w:=X.w) (K:=X.K) (elts:=elts) (x1:=x1) (pos:=tp) n1 n2 n3
 have hsz:(s1.heap.push {cls:=.type "tuple_iterator",data:=.fields #[.ref a,.int 0 0]}).objs.size=s1.heap.objs.size+1:=Heap.size_push _ _
 have c1:IsEnum ((s1.heap.push {cls:=.type "tuple_iterator",data:=.fields #[.ref a,.int 0 0]}).push {cls:=.type "enumerate",data:=.fields #[.none,.bool false,.ref s1.heap.objs.size,rawInt 0,.none,.none]}) (s1.heap.objs.size+1) s1.heap.objs.size 0 .none:=by
  show Heap.get? _ _=_
  rw[<-hsz];exact Yt _ rfl
 have c2:((s1.heap.push {cls:=.type "tuple_iterator",data:=.fields #[.ref a,.int 0 0]}).push {cls:=.type "enumerate",data:=.fields #[.none,.bool false,.ref s1.heap.objs.size,rawInt 0,.none,.none]}).IsTupleIter s1.heap.objs.size a 0:=⟨_,Yh _ (Yt _ rfl),rfl,rfl⟩
 refine callType_newIn F.called_enumerate rfl (by first|rfl|decide) (F.newCall_enumerate_1 _) (λobj=>by first|rfl|decide) F.entry_enumerate_new (ZkY a is1.toArray) ⟨p1,⟨_,c1,rfl⟩,?_⟩
 refine T.self _ 0 _ _ _ ⟨⟨_,c1⟩,c2⟩ ?_
 refine⟨_,[s1.heap.objs.size+1,s1.heap.objs.size],_,_,H1,rfl,I1.kept (t':=s1.toks) (λb o e=>Yh _ (Yh _ e)),T,⟨⟨_,c1⟩,c2⟩,λc hc=>?_,q⟩
 simp at hc
 rcases hc with rfl|rfl<;>exact sm _ (by omega)
end
theorem Zgi {J:It}{n:Nat}{g:TG}{tb:TS}{D:Ends}{σ:St}{H:Hp} (Pv:Nat->St->Hp->Prop) (h0:Pv 0 σ H) (hgo:∀i σ H,i<n->Pv i σ H->J.go i H) (hstop:∀σ H,Pv n σ H->J.stop n H)
  (hs:∀i x σ H H',i<n->Pv i σ H->J.yld i H x H'->g x σ H' fun σ2 H2=>tb {D with nx:=Pv (i+1),ct:=Pv (i+1),bk:=D.nx} σ2 H2) (hd:∀σ H,Pv n σ H->D.nx σ H):LoopR J g tb D σ H:=by
 refine⟨λi m σ H=>m=n-i/\i<=n/\Pv i σ H,⟨n,by simp,Yr _,h0⟩,?_⟩
 rintro i m σ H ⟨rfl,hi,p⟩
 by_cases hlt:i<n
 ·exact .inr ⟨hgo i σ H hlt p,Pv (i+1),fun σ' H' p'=>⟨n-(i+1),by omega,rfl,hlt,p'⟩,λx H' y=>hs i x σ H H' hlt p y⟩
 ·have:i=n:=by omega
  subst this
  exact .inl ⟨hstop σ H p,hd σ H p⟩
noncomputable def rInD (K:Frag):R2:=λx y H Q=>∃(q p:Addr) (as:List Addr) (e:Addr->Bool),x=.ref q/\y=.ref p/\SqL K H p (as.map V.ref)/\(∀a∈as,EqD K H 3 (.ref a) x (e a))/\Q (.bl (as.any e)) H
noncomputable def eU (e:Addr->Bool):Value->Bool
 |.ref a=>e a
 |_=>false
theorem Zjp:∀{as:List Addr}{us:List Value},Vals (as.map V.ref) us->us=as.map Value.ref
 |[],_,.nil=>rfl
 |a::as,u::us,.cons r t=>by
  have hr:u=Value.ref a:=r
  rw[hr,Zjp t];rfl
section
variable {X:Cx}
theorem op_inD {K:Frag} (hK:X.K=K) {k:Nat} (hr:Room k X.A):OpR X (compareOp .In) (rInD K):=by
 subst hK
 have hu0:=hr.un
 intro pins s σ H x y v u Q I rx ry h
 obtain⟨q,p,as,e,rfl,rfl,hp,he,hQ⟩:=h
 cases rx
 cases ry
 obtain⟨its,r,pl,hz⟩:=I.list hp
 have hi:=Zjp r
 subst hi
 refine SeqAt.in_listAt (eU e) pl.isList (λw hw=>?_) ⟨.bl _,H,I,rfl,?_⟩
 ·have hw':w∈as.map Value.ref:=by simpa using hw
  obtain⟨a,ha,rfl⟩:=Yu.mp hw'
  exact ZhI I (he a ha) X.A.in1 _ _ (by show X.A.units+1+3<cLine;omega) rfl rfl
 ·have:(as.map Value.ref).toArray.any (eU e)=as.any e:=by
   simp[List.any_map,Function.comp_def,eU]
  rw[this];exact hQ
end
theorem Zse {ns T:List Int} (hT:Zq ns T) {p o:Nat} (hp:p<ns.length) (ho:o<ns.length) (hO:Over (nth ns) o p):(ZaH T p:Int)-ZaH T o<=nth ns p-nth ns o:=by
 refine ZfP hT (R:=λo p=>(ZaH T p:Int)-ZaH T o<=nth ns p-nth ns o) (λp q hp hq e hO=>?_) (λo q p h1 h2 r1 r2=>by omega) _ p o hp ho rfl hO
 have:=Zjo hT hp hq e hO
 rcases hO with⟨a,b⟩|⟨a,b⟩
 ·have:=b p a (Ye _)
  rw[Yb (by omega)]at *;omega
 ·have:=b p (Ye _) a
  rw[Yd a]at *;omega
end L2
namespace PySem
open Sem (wp)
end PySem
namespace L2
open PySem PySem.Spec PyProof.Rows PySem.W
noncomputable def QIt (h:Heap) (i l:Addr) (k:Nat) (xs:Array Value):Prop:=(h.IsListIter i l k/\h.IsList l xs)\/(h.IsTupleIter i l k/\h.IsTuple l xs)
theorem QIt.ext {h h':Heap}{i l b:Addr}{k:Nat}{xs:Array Value} (x:QIt h i l k xs) (hs:Heap.ExtBut b h h') (n1:i≠b) (n2:l≠b):QIt h' i l k xs:=by
 rcases x with⟨p,q⟩|⟨p,q⟩
 ·exact .inl ⟨p.extBut hs n1,q.extBut hs n2⟩
 ·obtain⟨o,ho,r⟩:=q
  exact .inr ⟨p.extBut hs n1,⟨o,hs _ _ n2 ho,r⟩⟩
theorem QIt.at {h h':Heap}{i l:Addr}{k:Nat}{xs:Array Value} (x:QIt h i l k xs) (e1:∀o,h.get? i=some o->h'.get? i=some o) (e2:∀o,h.get? l=some o->h'.get? l=some o):QIt h' i l k xs:=by
 rcases x with⟨p,⟨o,ho,r⟩⟩|⟨⟨o1,p1,r1⟩,⟨o,ho,r⟩⟩
 ·exact .inl ⟨p.at e1,⟨o,e2 o ho,r⟩⟩
 ·exact .inr ⟨⟨o1,e1 _ p1,r1⟩,⟨o,e2 o ho,r⟩⟩
section
variable {prog:Program}{w:World}{A:Around}{E Q:Value->Shared->Prop}{s:Shared}{it l:Addr}{k:Nat}{xs:Array Value}
theorem Zbw {x:Value} (q:QIt s.heap it l k xs) (hn:l≠it) (hx:xs[k]?=some x) (h:∀h',QIt h' it l (k+1) xs->Heap.SameBut it s.heap h'->Q x {s with heap:=h'}):wpAny (model prog w) A (Builtin.SmallTypes.nextOf (.ref it)) Q E s:=by
 rcases q with⟨q1,q2⟩|⟨q1,q2⟩
 ·exact wpAny_nextOf_list_item q1 q2 hx λh' a b=>h h' (.inl ⟨a,q2.extBut b.extBut hn⟩) b
 ·refine ZcG q1 q2 hx λh' a b=>h h' (.inr ⟨a,?_⟩) b
  obtain⟨o,ho,r⟩:=q2
  exact⟨o,b.extBut _ _ hn ho,r⟩
theorem ZeV (hA:A.handled=none) (q:QIt s.heap it l k xs) (hx:xs[k]?=none) (h:∀h' e,Heap.ExtBut it s.heap h'->(∃o,h'.get? e=some o/\o.cls=.type "StopIteration")->E (.ref e) {s with heap:=h'}):wpAny (model prog w) A (Builtin.SmallTypes.nextOf (.ref it)) Q E s:=by
 rcases q with⟨q1,q2⟩|⟨q1,q2⟩
 ·exact wpAny_nextOf_list_end hA q1 q2 hx h
 ·exact Zdh hA q1 q2 hx h
end
section
variable {prog:Program}{w:World}{A:Around}{E:Value->Shared->Prop}{s:Shared}{z TI TO i1 i2 l1 l2:Addr}{k1 k2:Nat}{xs ys:Array Value}{a b:Value}
noncomputable def ZkZ (z TO i1 i2:Addr) (h h':Heap):Prop:=∀c o,c≠z->c≠TO->c≠i1->c≠i2->h.get? c=some o->h'.get? c=some o
noncomputable def SqH (h:Heap) (l:Addr) (xs:Array Value):Prop:=h.IsList l xs\/h.IsTuple l xs
theorem SqH.push {h:Heap}{l:Addr}{xs:Array Value} (q:SqH h l xs) (o:Obj):SqH (h.push o) l xs:=by
 rcases q with q|⟨u,hu,r⟩
 ·exact .inl (q.push o)
 ·exact .inr ⟨u,Yh _ hu,r⟩
theorem SqH.obj {h:Heap}{l:Addr}{xs:Array Value} (q:SqH h l xs):∃o,h.get? l=some o:=by
 rcases q with⟨o,ho,_⟩|⟨o,ho,_⟩<;>exact⟨o,ho⟩
noncomputable def ZbW (h:Heap) (l:Addr):String:=match h.get? l with
 |some o=>if o.cls=.type "tuple" then "tuple_iterator" else "list_iterator"
 |none=>"list_iterator"
theorem iterQ {Q:Value->Shared->Prop} (q:SqH s.heap l1 xs) (h:Q (.ref s.heap.objs.size) {s with heap:=s.heap.push {cls:=.type (ZbW s.heap l1),data:=.fields #[.ref l1,.int 0 0]}}):wpAny (model prog w) A (pyIter (.ref l1)) Q E s:=by
 rcases q with q|q
 ·have e:ZbW s.heap l1="list_iterator":=by
   obtain⟨o,ho,hc,_⟩:=q
   unfold ZbW;rw[ho];dsimp only;rw[Yb (by rw[hc];intro z;injection z with z;exact absurd z (by decide))]
  rw[e]at h;exact wpAny_pyIter_list q h
 ·have e:ZbW s.heap l1="tuple_iterator":=by
   obtain⟨o,ho,hc,_⟩:=q
   unfold ZbW;rw[ho];dsimp only;rw[Yd hc]
  rw[e]at h;exact wpAny_pyIter_tuple q h
theorem itQ {h h':Heap}{i:Addr} (q:SqH h l1 xs) (ho:h'.get? i=some {cls:=.type (ZbW h l1),data:=.fields #[.ref l1,.int 0 0]}) (hl:∀o,h.get? l1=some o->h'.get? l1=some o):QIt h' i l1 0 xs:=by
 rcases q with q|q
 ·have e:ZbW h l1="list_iterator":=by
   obtain⟨o,ho,hc,_⟩:=q
   unfold ZbW;rw[ho];dsimp only;rw[Yb (by rw[hc];intro z;injection z with z;exact absurd z (by decide))]
  rw[e]at ho
  obtain⟨o,q1,r⟩:=q
  exact .inl ⟨⟨_,ho,rfl,rfl⟩,⟨o,hl _ q1,r⟩⟩
 ·have e:ZbW h l1="tuple_iterator":=by
   obtain⟨o,ho,hc,_⟩:=q
   unfold ZbW;rw[ho];dsimp only;rw[Yd hc]
  rw[e]at ho
  obtain⟨o,q1,r⟩:=q
  exact .inr ⟨⟨_,ho,rfl,rfl⟩,⟨o,hl _ q1,r⟩⟩
noncomputable abbrev zq1 (h:Heap) (l1:Addr):Heap:=h.push {cls:=.type (ZbW h l1),data:=.fields #[.ref l1,.int 0 0]}
noncomputable abbrev zq2 (h:Heap) (l1 l2:Addr):Heap:=(zq1 h l1).push {cls:=.type (ZbW (zq1 h l1) l2),data:=.fields #[.ref l2,.int 0 0]}
noncomputable abbrev zq3 (h:Heap) (l1 l2:Addr):Heap:=(zq2 h l1 l2).push {cls:=.type "tuple",data:=.seq #[.ref h.objs.size,.ref (zq1 h l1).objs.size]}
noncomputable abbrev zq4 (h:Heap) (l1 l2:Addr):Heap:=(zq3 h l1 l2).push {cls:=.type "tuple",data:=.seq #[.none,.none]}
noncomputable abbrev zq5 (h:Heap) (l1 l2:Addr):Heap:=(zq4 h l1 l2).push {cls:=.type "zip",data:=.fields #[.none,.bool false,.bool false,.ref (zq2 h l1 l2).objs.size,.ref (zq3 h l1 l2).objs.size]}
theorem Zmj (l1 l2:Addr) (xs ys:Array Value) :
  Meets (Builtin.«zip.__new__» ⟨[.type "zip",.ref l1,.ref l2],[]⟩) (λ_ R s=>SqH s.heap l1 xs/\SqH s.heap l2 ys/\R (.ok (.ret (.ref (zq4 s.heap l1 l2).objs.size))) {s with heap:=zq5 s.heap l1 l2}) :=
 .of_wp λprog w A R s h=>by
  obtain⟨hp,g,d,tk,os⟩:=s;obtain⟨b1,b2,h⟩:=h
  have hsub:=sub_zip
  have L1:SqH (Shared.heap ⟨hp,g,d,tk,os⟩) l1 xs:=b1
  have L2:SqH (Shared.heap ⟨zq1 hp l1,g,d,tk,os⟩) l2 ys:=SqH.push b2 _
  wp_walk using iterQ L1,iterQ L2
  exact⟨_,rfl,h⟩
theorem Zon {Q:Value->Shared->Prop} (b1:SqH s.heap l1 xs) (b2:SqH s.heap l2 ys)
  (h:∀h',IsZip h' (s.heap.objs.size+4) (s.heap.objs.size+2) (s.heap.objs.size+3) .none->IsPair h' (s.heap.objs.size+2) (.ref s.heap.objs.size) (.ref (s.heap.objs.size+1))->IsPair h' (s.heap.objs.size+3) .none .none ->
   QIt h' s.heap.objs.size l1 0 xs->QIt h' (s.heap.objs.size+1) l2 0 ys->(∀c o,s.heap.get? c=some o->h'.get? c=some o)->Q (.ref (s.heap.objs.size+4)) {s with heap:=h'}) :
  wpAny (model prog w) A (call (.type "zip") [.ref l1,.ref l2]) Q E s:=by
 refine callType_new F.called_zip (by decide) (F.typeCall_zip_2 _ _) (F.newCall_zip_2 _ _) (λobj=>F.args_object_init_3 obj _ _) F.entry_zip_new (Zmj l1 l2 xs ys) ⟨b1,b2,?_⟩
 have z1:(zq1 s.heap l1).objs.size=s.heap.objs.size+1:=Heap.size_push ..
 have z2:(zq2 s.heap l1 l2).objs.size=s.heap.objs.size+2:=by rw[Heap.size_push,z1]
 have z3:(zq3 s.heap l1 l2).objs.size=s.heap.objs.size+3:=by rw[Heap.size_push,z2]
 have z4:(zq4 s.heap l1 l2).objs.size=s.heap.objs.size+4:=by rw[Heap.size_push,z3]
 have g5:(zq5 s.heap l1 l2).get? (zq4 s.heap l1 l2).objs.size=some _:=Yt _ rfl
 have g4:(zq5 s.heap l1 l2).get? (zq3 s.heap l1 l2).objs.size=some _:=Yh _ (Yt _ rfl)
 have g3:(zq5 s.heap l1 l2).get? (zq2 s.heap l1 l2).objs.size=some _:=Yh _ (Yh _ (Yt _ rfl))
 have g2:(zq5 s.heap l1 l2).get? (zq1 s.heap l1).objs.size=some _:=Yh _ (Yh _ (Yh _ (Yt _ rfl)))
 have g1:(zq5 s.heap l1 l2).get? s.heap.objs.size=some _:=Yh _ (Yh _ (Yh _ (Yh _ (Yt _ rfl))))
 have up1:∀c o,(zq1 s.heap l1).get? c=some o->(zq5 s.heap l1 l2).get? c=some o:=λc o x=>Yh _ (Yh _ (Yh _ (Yh _ x)))
 have up:∀c o,s.heap.get? c=some o->(zq5 s.heap l1 l2).get? c=some o:=λc o x=>up1 c o (Yh _ x)
 have r1:=itQ b1 g1 λo e=>up _ o e
 have r2:=itQ (b2.push _) g2 λo e=>up1 _ o e
 show _/\_
 rw[z2,z3,z4]at g5
 rw[z1,z2]at g3
 rw[z3]at g4
 rw[z1]at r2
 rw[z4]
 exact⟨⟨_,g5,rfl⟩,h _ g5 g3 g4 r1 r2 up⟩
end
section
variable {X:Cx}{pins:List (Addr×Obj)}{σ:St}{H:Hp}{s:Shared}
noncomputable def SqB (K:Frag) (t:Bool) (H:Hp) (a:Addr) (xs:List V):Prop:=match t with
 |true=>SqT K H a xs
 |false=>SqL K H a xs
noncomputable def ItB (t:Bool) (h:Heap) (i a:Addr) (k:Nat):Prop:=match t with
 |true=>h.IsTupleIter i a k
 |false=>h.IsListIter i a k
theorem SqB.of {K:Frag}{H:Hp}{a:Addr}{xs:List V} (h:SqL K H a xs\/SqT K H a xs):∃t,SqB K t H a xs:=by
 rcases h with h|h
 ·exact⟨false,h⟩
 ·exact⟨true,h⟩
theorem Ze.Zd7 {K:Frag}{t:Bool}{H H':Hp}{a:Addr}{xs:List V} (e:Ze H H') (h:SqB K t H a xs):SqB K t H' a xs:=by
 cases t
 ·exact e.seq h
 ·exact e.Zoa h
theorem ItB.keep {t:Bool}{h h':Heap}{i a:Addr}{k:Nat} (q:ItB t h i a k) (e:∀o,h.get? i=some o->h'.get? i=some o):ItB t h' i a k:=by
 cases t
 ·obtain⟨o,ho,r⟩:=q;exact⟨o,e o ho,r⟩
 ·obtain⟨o,ho,r⟩:=q;exact⟨o,e o ho,r⟩
theorem ItB.obj {t:Bool}{h:Heap}{i a:Addr}{k:Nat} (q:ItB t h i a k):∃o,h.get? i=some o/\∃v,o.data=.fields v:=by
 cases t
 ·obtain⟨o,ho,_,d⟩:=q;exact⟨o,ho,_,d⟩
 ·obtain⟨o,ho,_,d⟩:=q;exact⟨o,ho,_,d⟩
theorem Inv.sqb (I:Inv X pins σ H s) {t:Bool}{a:Addr}{xs:List V} (q:SqB X.K t H a xs):∃its:List Value,Vals xs its/\SqH s.heap a its.toArray/\∀i k,ItB t s.heap i a k->QIt s.heap i a k its.toArray:=by
 cases t
 ·obtain⟨its,r,p,_⟩:=I.list q;exact⟨its,r,.inl p.isList,λi k h=>.inl ⟨h,p.isList⟩⟩
 ·obtain⟨its,r,p,_⟩:=I.tuple q;exact⟨its,r,.inr p,λi k h=>.inr ⟨h,p⟩⟩
theorem Inv.itb (I:Inv X pins σ H s) {t:Bool}{a i:Addr}{xs:List V}{h':Heap}{k:Nat}{us:Array Value} (q:SqB X.K t H a xs) (kp:∀o,s.heap.get? a=some o->h'.get? a=some o) (u:QIt h' i a k us):ItB t h' i a k:=by
 cases t
 ·obtain⟨its,r,p,_⟩:=I.list q
  obtain⟨o,ho,hc,_⟩:=p.isList
  rcases u with⟨u,_⟩|⟨_,⟨o',ho',hc',_⟩⟩
  ·exact u
  ·rw[kp o ho]at ho'
   cases ho'
   rw[hc]at hc';injection hc' with z;exact absurd z (by decide)
 ·obtain⟨its,r,p,_⟩:=I.tuple q
  obtain⟨o,ho,hc,_⟩:=p
  rcases u with⟨_,⟨o',ho',hc',_⟩⟩|⟨u,_⟩
  ·rw[kp o ho]at ho'
   cases ho'
   rw[hc]at hc';injection hc' with z;exact absurd z (by decide)
  ·exact u
theorem Inv.Znw (I:Inv X pins σ H s) {t:Bool}{a:Addr}{xs ys:List V} (q:SqB X.K t H a xs) (r:SqB X.K t H a ys):xs=ys:=by
 cases t
 ·exact I.Zdc q r
 ·exact I.ZeN q r
noncomputable def Itzq (K : Frag) (t u : Bool) (a b : Addr) : It :=
  ⟨fun i H => ∃ xs ys x y, SqB K t H a xs ∧ SqB K u H b ys ∧ xs[i]? = some x ∧ ys[i]? = some y,
   fun i H v H' => ∃ p x y, H p = none ∧ v = .ref p ∧ H' = upd H p (.tup [x, y]) ∧ (∀ xs, SqB K t H a xs → xs[i]? = some x) ∧ ∀ ys, SqB K u H b ys → ys[i]? = some y,
   fun i H => ∃ xs ys, SqB K t H a xs ∧ SqB K u H b ys ∧ (xs.length ≤ i ∨ ys.length ≤ i)⟩
noncomputable def Zqc (K:Frag) (ta:TA):TI:=fun σ H R=>ta σ H λvs H1=>∃a b t u xs ys,vs=[.ref a,.ref b]/\SqB K t H1 a xs/\SqB K u H1 b ys/\R (Itzq K t u a b) H1
end
theorem ZiV {F:Nat->Int}{n k:Nat} (h:k<n):nth ((List.range n).map F) k=F k:=by simp[nth,Yn,h]
theorem Zsf {K:Frag}{Hx:Hp}{l q:Addr}{L:List Nat} (h1:Hx l=some (.lst (Zt L))) (h2:Hx q=some (.lst [])):EqD K Hx 3 (V.ref l) (V.ref q) (decide (L=[])):=by
 have hh:=Zr8 (n:=2) (K:=K) (H:=Hx) ZjY (V.ref l) (V.ref q) (L.map λ(q:Nat)=>(q:Int)) [] (ZkS (SqL.of (by rw[h1];simp[Zt,Function.comp_def]))) (ZkS (ns:=[]) (SqL.of h2))
 have e:decide (L.map (λ(q:Nat)=>(q:Int))=[])=decide (L=[]):=by cases L<;>simp
 rw[e]at hh;exact hh
end L2
namespace L2
theorem snoc_cases {α:Type} (xs:List α):xs=[]\/∃ys y,xs=ys++[y]:=by
 rcases List.eq_nil_or_concat xs with h|⟨ys,y,h⟩
 ·exact .inl h
 ·exact .inr ⟨ys,y,by rw[h,List.concat_eq_append]⟩
end L2
namespace L2
open PySem PySem.Spec PyProof.Rows PySem.W
theorem Zmk {bs:List Nat}{i:Nat} (h:bs.length=i+1):atI (Zt bs) (-1)=some (V.int ((bs.getD i 0:Nat):Int)):=by
 refine atI_m1 (by rw[ZV];omega) ?_
 rw[ZV,h,Nat.add_sub_cancel]
 simp[Zt,Yn,h]
end L2
namespace L2
open PySem PySem.Spec PyProof.Rows PySem.W
theorem Zr.ZjZ {H:Hp}{p q:Addr}{o:HO} (P:Zr H p) (h:q≠p):Zr (L2.upd H q o) p:=by
 obtain⟨x,y,e,z⟩:=P
 exact⟨x,y,by rw[Zg (λw=>h w.symm)];exact e,z⟩
noncomputable def ZA (H:Hp) (l:Addr) (rs:List (List Int)):Prop:=∃as:List Addr,H l=some (.lst (as.map V.ref))/\as.length=rs.length/\∀i (h1:i<as.length) (h2:i<rs.length),H as[i]=some (.tup (rs[i].map V.int))
theorem ZA.same {H H':Hp}{l:Addr}{rs:List (List Int)} (R:ZA H l rs) (s:Ze H H'):ZA H' l rs:=by
 obtain⟨as,h1,h2,h3⟩:=R
 exact⟨as,s _ _ h1,h2,λi i1 i2=>s _ _ (h3 i i1 i2)⟩
theorem ZA.nil {H:Hp}{l:Addr} (h:H l=some (.lst [])):ZA H l []:=⟨[],h,rfl,λi i1=>absurd i1 (by simp)⟩
theorem ZA.push {H:Hp}{l t:Addr}{rs:List (List Int)}{r:List Int}{as:List Addr} (e:H l=some (.lst (as.map V.ref))) (hl:as.length=rs.length) (h:∀i (h1:i<as.length) (h2:i<rs.length),H as[i]=some (.tup (rs[i].map V.int))) (ht:H t=some (.tup (r.map V.int))) :
  ZA (upd H l (.lst (as.map V.ref++[V.ref t]))) l (rs++[r]):=by
 refine⟨as++[t],by rw[Zb];simp,by simp[hl],λi i1 i2=>?_⟩
 have ne:∀(a:Addr) (xs:List V),H a=some (.tup xs)->a≠l:=λa xs h1 z=>by rw[z,e]at h1;cases h1
 by_cases z:i<as.length
 ·have h3:=h i z (by omega)
  rw[Je z,Je (show i<rs.length by omega),Zg (ne _ _ h3)]
  exact h3
 ·have e1:i=as.length:=by simp at i1;omega
  subst e1
  rw[Zg (by simpa using ne _ _ ht)]
  simp[hl,ht]
noncomputable def Once (k:Nat) (ss ls:List Int):Prop:=ss=((List.range k).map λ(j:Nat)=>(j:Int)).filter (λj=>decide (j∉ls))/\ls=((List.range k).map λ(j:Nat)=>(j:Int)).filter (λj=>decide (j∈ls))
noncomputable instance (k:Nat) (ss ls:List Int):Decidable (Once k ss ls):=inferInstanceAs (Decidable (_/\_))
theorem ZA.walk {K:Frag}{H1:Hp}{d:Addr}{rs:List (List Int)} (R:ZA H1 d rs):(∀i H,Ze H1 H->i<rs.length->(Itl K d).go i H)/\(∀H,Ze H1 H->(Itl K d).stop rs.length H) /\
  ∀i x H H' (h:i<rs.length),Ze H1 H->(Itl K d).yld i H x H'->H'=H/\∃a,x=.ref a/\H a=some (.tup (rs[i].map V.int)):=by
 obtain⟨as,e,hl,hh⟩:=R
 refine⟨λi H s hi=>⟨_,V.ref (as[i]'(by omega)),SqL.of (s _ _ e),by simp[show i<as.length by omega]⟩,λH s=>⟨_,SqL.of (s _ _ e),by simp[hl]⟩,λi x H H' hi s y=>?_⟩
 obtain⟨e1,y⟩:=y
 have h1:=y _ (SqL.of (s _ _ e))
 rw[YL,Yi (show i<as.length by omega)]at h1
 cases h1
 exact⟨e1,_,rfl,s _ _ (hh i (by omega) hi)⟩
theorem ZA.sq {K:Frag}{H:Hp}{l:Addr}{rs:List (List Int)} (R:ZA H l rs):∃xs,SqL K H l xs:=by
 obtain⟨as,e,_⟩:=R
 exact⟨_,SqL.of e⟩
theorem Zk0 {l m:List Int} (p:l.Perm m) (s:l.Pairwise (·<=·)) (t:m.Pairwise (·<=·)):l=m :=
 p.eq_of_pairwise (λa b _ _ h1 h2=>Int.le_antisymm h1 h2) s t
section
variable {N:Nat}{k:Nat->Int}{cmp:Nat->Nat->(Bool->Shared->Prop)->Shared->Prop}{s:Shared}{p:Array Nat}
noncomputable def kk (k:Nat->Int) (p:Array Nat) (i:Nat):Int:=k (p.getD i 0)
noncomputable def SoT (k:Nat->Int) (p:Array Nat) (m:Nat):Prop:=∀i j,i<=j->j<m->kk k p i<=kk k p j
noncomputable def DeT (k:Nat->Int) (p:Array Nat) (m:Nat):Prop:=∀i j,i<=j->j<m->kk k p j<=kk k p i
noncomputable def Bd (N:Nat) (p:Array Nat):Prop:=p.Perm (List.range N).toArray
theorem Zee {p q:Array Nat}{i j:Nat} (h:p[i]?=q[j]?):kk k p i=kk k q j:=by
 unfold kk;rw[Array.getD_eq_getD_getElem?,Array.getD_eq_getD_getElem?,h]
theorem Bd.size (h:Bd N p):p.size=N:=by
 have:=(Array.perm_iff_toList_perm.mp h).length_eq
 simpa using this
theorem Bd.lt (h:Bd N p) (hN:0<N) (i:Nat):p.getD i 0<N:=by
 rw[Array.getD_eq_getD_getElem?]
 by_cases hi:i<p.size
 ·rw[getElem?_pos p i hi]
  have:=(Array.Perm.mem_iff h (a:=p[i])).mp (Array.getElem_mem hi)
  simpa using this
 ·rw[getElem?_neg p i hi];exact hN
theorem Bd.rev (h:Bd N p) (i j:Nat):Bd N (kas_rev p i j):=(mirror_perm p i j _).trans h
theorem Bd.bub (h:Bd N p) (i j:Nat):Bd N (bubble p i j):=(bubble_perm p i j).trans h
theorem Zml {i j:Nat} (hj:j<=p.size) (x:Nat):kk k (kas_rev p i j) x=if i<=x/\x<j then kk k p (i+j-1-x)else kk k p x:=by
 have e:=getElem?_mirror_all (xs:=p) (i:=i) hj x
 by_cases h:i<=x/\x<j
 ·rw[Yd h]at e⊢;exact Zee e
 ·rw[Yb h]at e⊢;exact Zee e
theorem Zgj {i j:Nat} (hj:j<=p.size) (heq:∀x,i<=x->x<j->kk k p x=kk k p (j-1)) (x:Nat):kk k (kas_rev p i j) x=kk k p x:=by
 rw[Zml hj]
 split
 ·rw[heq _ (by omega) (by omega),heq x (by omega) (by omega)]
 ·rfl
theorem Zqd {src d:Nat} (hs:src<p.size) (hd:d<=src) (x:Nat):kk k (bubble p src d) x=if x=src-d then kk k p src else if src-d<x/\x<=src then kk k p (x-1)else kk k p x:=by
 have e:=getElem?_bubble hs d hd x
 by_cases h1:x=src-d
 ·rw[Yd h1]at e⊢;exact Zee e
 ·rw[Yb h1]at e⊢
  by_cases h2:src-d<x/\x<=src
  ·rw[Yd h2]at e⊢;exact Zee e
  ·rw[Yb h2]at e⊢;exact Zee e
noncomputable def Zdi (N:Nat) (k:Nat->Int) (cmp:Nat->Nat->(Bool->Shared->Prop)->Shared->Prop) (s:Shared):Prop:=∀i j C,i<N->j<N->C (decide (k i<k j)) s->cmp i j C s
theorem SoT.next {m:Nat} (h:SoT k p m) (h1:1<=m) (h2:kk k p (m-1)<=kk k p m):SoT k p (m+1):=by
 intro i j hij hj
 by_cases e:j=m
 ·subst e
  by_cases e2:i=j
  ·rw[e2];exact Int.le_refl _
  ·exact Int.le_trans (h i (j-1) (by omega) (by omega)) h2
 ·exact h i j hij (by omega)
theorem DeT.next {m:Nat} (h:DeT k p m) (h1:1<=m) (h2:kk k p m<=kk k p (m-1)):DeT k p (m+1):=by
 intro i j hij hj
 by_cases e:j=m
 ·subst e
  by_cases e2:i=j
  ·rw[e2];exact Int.le_refl _
  ·exact Int.le_trans h2 (h i (j-1) (by omega) (by omega))
 ·exact h i j hij (by omega)
theorem Zmm (hc:Zdi N k cmp s) (hN:0<N) (hB:Bd N p) {Q:Nat->Shared->Prop}:∀f n,1<=n->SoT k p n->(∀m,n<=m->m<=n+f->SoT k p m->(m<n+f->kk k p m<kk k p (m-1))->Q m s)->(kas_asc p f n).kasWp cmp Q s
 |0,n,h1,hS,h=>h n (Ye _) (by omega) hS (λz=>by omega)
 |f+1,n,h1,hS,h=>by
  refine hc _ _ _ (hB.lt hN n) (hB.lt hN (n-1)) ?_
  by_cases z:kk k p n<kk k p (n-1)
  ·have:decide (k (p.getD n 0)<k (p.getD (n-1) 0))=true:=YB z
   rw[this]
   exact h n (Ye _) (by omega) hS λ_=>z
  ·have:decide (k (p.getD n 0)<k (p.getD (n-1) 0))=false:=YS z
   rw[this]
   exact Zmm hc hN hB f (n+1) (by omega) (hS.next h1 (by omega)) λm m1 m2 hm hl=>h m (by omega) (by omega) hm λy=>hl (by omega)
theorem Zhj (hc:Zdi N k cmp s) (hN:0<N) {Q:Array Nat×Nat×Nat->Shared->Prop}:∀f (p:Array Nat) n q,Bd N p->1<=n->n+f<=N->q<n->DeT k p n->(∀x,n-(q+1)<=x->x<n->kk k p x=kk k p (n-1)) ->
  (∀p' n' q',Bd N p'->n<=n'->n'<=n+f->q'<n'->DeT k p' n'->(∀x,n'-(q'+1)<=x->x<n'->kk k p' x=kk k p' (n'-1))->Q (p',n',q') s)->(kas_desc f p n q).kasWp cmp Q s
 |0,p,n,q,hB,h1,hn,hq,hD,he,h=>h p n q hB (Ye _) (by omega) hq hD he
 |f+1,p,n,q,hB,h1,hn,hq,hD,he,h=>by
  refine hc _ _ _ (hB.lt hN n) (hB.lt hN (n-1)) ?_
  have hz:=hB.size
  by_cases z:kk k p n<kk k p (n-1)
  ·have:decide (k (p.getD n 0)<k (p.getD (n-1) 0))=true:=YB z
   rw[this]
   show KasT.kasWp cmp (if q>0 then kas_desc f (kas_rev p (n-(q+1)) n) (n+1) 0 else kas_desc f p (n+1) 0) Q s
   by_cases y:q>0
   ·rw[Yd y]
    have ke:=Zgj (k:=k) (p:=p) (i:=n-(q+1)) (j:=n) (by omega) he
    refine Zhj hc hN f _ (n+1) 0 (hB.rev _ _) (by omega) (by omega) (by omega) ?_ (λx x1 x2=>by rw[show x=n+1-1 by omega]) λp' n' q' b1 b2 b3=>h p' n' q' b1 (by omega) (by omega)
    refine DeT.next (λi j i1 j1=>by rw[ke,ke];exact hD i j i1 j1) h1 (by rw[ke,ke];omega)
   ·rw[Yb y]
    exact Zhj hc hN f p (n+1) 0 hB (by omega) (by omega) (by omega) (hD.next h1 (by omega)) (λx x1 x2=>by rw[show x=n+1-1 by omega]) λp' n' q' b1 b2 b3=>h p' n' q' b1 (by omega) (by omega)
  ·have:decide (k (p.getD n 0)<k (p.getD (n-1) 0))=false:=YS z
   rw[this]
   refine hc _ _ _ (hB.lt hN (n-1)) (hB.lt hN n) ?_
   by_cases y:kk k p (n-1)<kk k p n
   ·have:decide (k (p.getD (n-1) 0)<k (p.getD n 0))=true:=YB y
    rw[this]
    exact h p n q hB (Ye _) (by omega) hq hD he
   ·have:decide (k (p.getD (n-1) 0)<k (p.getD n 0))=false:=YS y
    rw[this]
    have e:kk k p n=kk k p (n-1):=by omega
    refine Zhj hc hN f p (n+1) (q+1) hB (by omega) (by omega) (by omega) (hD.next h1 (by omega)) (λx x1 x2=>?_) λp' n' q' b1 b2 b3=>h p' n' q' b1 (by omega) (by omega)
    rw[Nat.add_sub_cancel]
    by_cases w:x=n
    ·rw[w]
    ·rw[e];exact he x (by omega) (by omega)
theorem Zk1 (hc:Zdi N k cmp s) (hN:0<N) {Q:Nat×Array Nat->Shared->Prop}{n nrem:Nat} (hB:Bd N p) (h1:1<=n) (hn:n<=nrem) (hr:nrem<=N) (hD:DeT k p n)
  (h:∀m p',Bd N p'->n<=m->m<=nrem->SoT k p' m->Q (m,p') s):(kas_tail3 n nrem p).kasWp cmp Q s:=by
 unfold kas_tail3
 rw[KasT.kasWp_bind]
 have hz:=hB.size
 refine Zmm hc hN (hB.rev 0 n) _ n h1 (λi j hij hj=>?_) λm m1 m2 hS _=>h m _ (hB.rev 0 n) m1 (by omega) hS
 rw[Zml (by omega),Zml (by omega),Yd (by omega),Yd (by omega)]
 exact hD _ _ (by omega) (by omega)
theorem ZgN (hc:Zdi N k cmp s) (hN:0<N) {Q:Nat×Array Nat->Shared->Prop}{n nrem:Nat} (hB:Bd N p) (hn:n+1<=nrem) (hr:nrem<=N) (hD:DeT k p (n+1))
  (h:∀m p',Bd N p'->1<=m->m<=nrem->SoT k p' m->Q (m,p') s):(kas_descPart n nrem p).kasWp cmp Q s:=by
 unfold kas_descPart
 rw[KasT.kasWp_bind]
 refine Zhj hc hN _ p (n+1) 0 hB (by omega) (by omega) (by omega) hD (λx x1 x2=>by rw[show x=n+1-1 by omega]) λp' n' q' b1 b2 b3 b4 hD' he=>?_
 show KasT.kasWp cmp (if q'>0 then kas_tail3 n' nrem (kas_rev p' (n'-(q'+1)) n')else kas_tail3 n' nrem p') Q s
 have hz:=b1.size
 by_cases y:q'>0
 ·rw[Yd y]
  have ke:=Zgj (k:=k) (p:=p') (i:=n'-(q'+1)) (j:=n') (by omega) he
  exact Zk1 hc hN (b1.rev _ _) (by omega) (by omega) hr (λi j i1 j1=>by rw[ke,ke];exact hD' i j i1 j1) λm p2 c1 c2 c3=>h m p2 c1 (by omega) c3
 ·rw[Yb y]
  exact Zk1 hc hN b1 (by omega) (by omega) hr hD' λm p2 c1 c2 c3=>h m p2 c1 (by omega) c3
theorem Zqe (hc:Zdi N k cmp s) (hN:0<N) {Q:Nat×Array Nat->Shared->Prop}{nrem:Nat} (hB:Bd N p) (h0:1<=nrem) (hr:nrem<=N)
  (h:∀m p',Bd N p'->1<=m->m<=nrem->SoT k p' m->Q (m,p') s):(kas_count nrem p).kasWp cmp Q s:=by
 unfold kas_count
 rw[KasT.kasWp_bind]
 have hz:=hB.size
 refine Zmm hc hN hB _ 1 (Ye _) (λi j hij hj=>by rw[show i=j by omega];exact Int.le_refl _) λn n1 n2 hS hl=>?_
 by_cases e:(n==nrem)=true
 ·rw[Yd e]
  exact h n p hB n1 (by omega) hS
 ·rw[Yb e]
  have ne:n≠nrem:=λz=>e (by rw[z];exact beq_self_eq_true _)
  have hlt:=hl (by omega)
  by_cases y:n>1
  ·rw[Yd y]
   refine hc _ _ _ (hB.lt hN 0) (hB.lt hN (n-1)) ?_
   by_cases z:kk k p 0<kk k p (n-1)
   ·have:decide (k (p.getD 0 0)<k (p.getD (n-1) 0))=true:=YB z
    rw[this]
    exact h n p hB n1 (by omega) hS
   ·have:decide (k (p.getD 0 0)<k (p.getD (n-1) 0))=false:=YS z
    rw[this]
    have alle:∀x,0<=x->x<n->kk k p x=kk k p (n-1):=λx _ hx=>by
     have a:=hS 0 x (by omega) hx
     have b:=hS x (n-1) (by omega) (by omega)
     omega
    have ke:=Zgj (k:=k) (p:=p) (i:=0) (j:=n) (by omega) alle
    refine ZgN hc hN (hB.rev 0 n) (by omega) hr (DeT.next (λi j i1 j1=>?_) (by omega) (by rw[ke,ke];omega)) h
    rw[ke,ke,alle i (by omega) (by omega),alle j (by omega) (by omega)]
    exact Int.le_refl _
  ·rw[Yb y]
   have:n=1:=by omega
   subst this
   exact ZgN hc hN hB (by omega) hr (DeT.next (λi j i1 j1=>by rw[show i=j by omega];exact Int.le_refl _) (Ye _) (by omega)) h
theorem ZhR (hc:Zdi N k cmp s) (hN:0<N) (hB:Bd N p) {x:Nat}{Q:Nat->Shared->Prop} (hS:SoT k p x):∀f l r,l<=r->r<=x->r-l<=f->(∀i,i<l->kk k p i<=kk k p x)->(∀i,r<=i->i<x->kk k p x<kk k p i) ->
  (∀l,l<=x->(∀i,i<l->kk k p i<=kk k p x)->(∀i,l<=i->i<x->kk k p x<kk k p i)->Q l s)->(kas_place p x f l r).kasWp cmp Q s
 |0,l,r,h1,h2,h3,hlo,hhi,h=>h l (by omega) hlo (λi i1 i2=>hhi i (by omega) i2)
 |f+1,l,r,h1,h2,h3,hlo,hhi,h=>by
  show KasT.kasWp cmp (if l ≥ r then .ret l else .ask (p.getD x 0) (p.getD ((l+r) / 2) 0) λc=>if c=true then kas_place p x f l ((l+r) / 2)else kas_place p x f ((l+r) / 2+1) r) Q s
  by_cases y:l ≥ r
  ·rw[Yd y]
   exact h l (by omega) hlo (λi i1 i2=>hhi i (by omega) i2)
  ·rw[Yb y]
   refine hc _ _ _ (hB.lt hN x) (hB.lt hN _) ?_
   by_cases z:kk k p x<kk k p ((l+r) / 2)
   ·have:decide (k (p.getD x 0)<k (p.getD ((l+r) / 2) 0))=true:=YB z
    rw[this]
    exact ZhR hc hN hB hS f l ((l+r) / 2) (by omega) (by omega) (by omega) hlo (λi i1 i2=>Int.lt_of_lt_of_le z (hS _ _ i1 i2)) h
   ·have:decide (k (p.getD x 0)<k (p.getD ((l+r) / 2) 0))=false:=YS z
    rw[this]
    exact ZhR hc hN hB hS f ((l+r) / 2+1) r (by omega) (by omega) (by omega) (λi i1=>Int.le_trans (hS i ((l+r) / 2) (by omega) (by omega)) (Int.not_lt.mp z)) hhi h
theorem Zqf (hc:Zdi N k cmp s) (hN:0<N) {Q:Array Nat->Shared->Prop}:∀f (p:Array Nat) x,Bd N p->x+f<=N->SoT k p x->(∀p',Bd N p'->SoT k p' (x+f)->Q p' s)->(kas_bin f p x).kasWp cmp Q s
 |0,p,x,hB,hx,hS,h=>h p hB hS
 |f+1,p,x,hB,hx,hS,h=>by
  show KasT.kasWp cmp ((kas_place p x x 0 x).bind λl=>kas_bin f (bubble p x (x-l)) (x+1)) Q s
  rw[KasT.kasWp_bind]
  have hz:=hB.size
  refine ZhR hc hN hB hS x 0 x (by omega) (Ye _) (by omega) (λi hi=>by omega) (λi i1 i2=>by omega) λl hl hlo hhi=>?_
  refine Zqf hc hN f _ (x+1) (hB.bub _ _) (by omega) (λi j hij hj=>?_) λp' b1 b2=>h p' b1 (by rw[show x+(f+1)=x+1+f by omega];exact b2)
  rw[Zqd (by omega) (by omega),Zqd (by omega) (by omega),show x-(x-l)=l by omega]
  repeat' split
  all_goals first
   |(exfalso;omega)
   |exact Int.le_refl _
   |exact hlo _ (by omega)
   |exact Int.le_of_lt (hhi _ (by omega) (by omega))
   |exact hS _ _ (by omega) (by omega)
theorem Zsg (hN:0<N) (hc:Zdi N k cmp s) {Q:Array Nat->Shared->Prop} (h:∀p,Bd N p->SoT k p N->Q p s):(kas_sort N).kasWp cmp Q s:=by
 unfold kas_sort
 rw[KasT.kasWp_bind]
 refine Zqe hc hN (show Bd N (List.toArray (List.range N))from Array.Perm.refl _) (by omega) (Ye _) λm p' b1 b2 b3 b4=>?_
 show KasT.kasWp cmp (if m<N then kas_bin (N-max m 1) p' (max m 1)else .ret p') Q s
 by_cases y:m<N
 ·rw[Yd y]
  have e:max m 1=m:=by omega
  rw[e]
  exact Zqf hc hN _ p' m b1 (by omega) b4 λp2 c1 c2=>h p2 c1 (by rw[show m+(N-m)=N by omega]at c2;exact c2)
 ·rw[Yb y]
  have:m=N:=by omega
  subst this
  exact h p' b1 b4
end
section
variable {prog:Program}{w:World}{E:Value->Shared->Prop}{s:Shared}
noncomputable def Zb6 (vs:List Value) (p:Array Nat):Array Value:=List.toArray (p.toList.map λi=>vs.getD i Value.none)
theorem Zmn {A:Around}{κ:SortKind}{key:Nat->Int}{a:Addr}{vs:List Value}{n:Nat}{P:PySem.Fin->Shared->Prop} (ho:s.heap.get? a=some (seqObj "list" vs.toArray n)) (h64:vs.length<64)
  (hk:∀s':Shared,(∀b o,b≠a->s.heap.get? b=some o->s'.heap.get? b=some o)->2<=vs.length->(∀Q:SortKind->Shared->Prop,Q κ s'->wpAny (model prog w) A (keyKind' vs.toArray) Q E s')/\Zdi vs.length key (kas_ask prog w A κ vs) s')
  (fin:∀p:Array Nat,Bd vs.length p->SoT key p vs.length->P (.done (.ret .none)) {s with heap:=sortedHeap s.heap a vs (Zb6 vs p)}):wpAny (model prog w) A (Builtin.«list.sort» ⟨[.ref a],[]⟩) P E s:=by
 have lt:=Yk ho
 obtain⟨c1,oc1⟩:∃c1,(s.heap.update a (Obj.mapSeq λ_=>#[])).get? a=some (seqObj "list" #[] c1):=⟨_,get?_update_seq ho λ_=>#[]⟩
 have oc6:(((s.heap.update a (Obj.mapSeq λ_=>#[])).push (seqObj "tuple" vs.toArray 0)).push (seqObj "list" #[] 0)).get? a=some (seqObj "list" #[] c1):=Yh _ (Yh _ oc1)
 have kp:∀b o,b≠a->s.heap.get? b=some o->(((s.heap.update a (Obj.mapSeq λ_=>#[])).push (seqObj "tuple" vs.toArray 0)).push (seqObj "list" #[] 0)).get? b=some o:=λb o nb e =>
  Yh _ (Yh _ (by rw[Heap.get?_update_ne _ _ _ _ nb];exact e))
 have z1:vs.toArray.size=vs.length:=Yv ..
 have za:∀p:Array Nat,Bd vs.length p->(Zb6 vs p).size<=sizeLine:=λp hp=>by
  have:=hp.size
  unfold Zb6
  rw[Yv,Yf,YQ,this,sizeLine_eq];omega
 rw[list_sort_plain]
 have hob:=ho
 refine Ya (listItems_at hob rfl (Ya ?_))
 refine listUpdate_at hob rfl (Ya (seqEpoch_at oc1 rfl (Ya ?_))) (by rw[z1,sizeLine_eq];omega) (Yr _)
 refine wpAny_newTuple (Ya ?_) (Yo (show vs.length<=64 by omega) (by decide))
 refine wpAny_newList (wpAny_holding ?_) (Yr _)
 show wpAny (model prog w) A _ P E {s with heap:=(((s.heap.update a (Obj.mapSeq λ_=>#[])).push (seqObj "tuple" vs.toArray 0)).push (seqObj "list" #[] 0))}
 dsimp only
 by_cases h2:vs.toArray.size<2
 ·rw[Yd h2,Yd h2]
  refine Ya (Yc ?_)
  rw[StateT.run_pure]
  refine Ya (Yc ?_)
  have hB:Bd vs.length (List.range vs.length).toArray:=Array.Perm.refl _
  have e:=kas_range (vs.toArray.zip vs.toArray)
  rw[show(vs.toArray.zip vs.toArray).size=vs.length by simp]at e
  have eo:(arrOf (SortSt.mk' general' (vs.toArray.zip vs.toArray) #[] 7 none)).map (·.2)=Zb6 vs (List.range vs.length).toArray:=kat_snds (ks:=vs) (vs:=vs) rfl e.symm
  dsimp only
  rw[eo]
  refine Ya (seqEpoch_at oc6 rfl (Ya (listUpdate_at oc6 rfl ?_ (Yr _) (Nat.le_succ_of_le (za _ hB)))))
  simp only[bne_self_eq_false,Bool.false_eq_true,if_false]
  exact Yc (fin _ hB λi j h1 hj=>by rw[show i=j by omega];exact Int.le_refl _)
 ·rw[Yb h2,Yb h2]
  have h2':2<=vs.length:=by omega
  obtain⟨hk1,hk2⟩:=hk {s with heap:=(((s.heap.update a (Obj.mapSeq λ_=>#[])).push (seqObj "tuple" vs.toArray 0)).push (seqObj "list" #[] 0))} kp h2'
  refine Ya (hk1 _ (Ya (Yy (kat_run (ks:=vs) (vs:=vs) (Q:=λst s'=>∃p:Array Nat,Bd vs.length p/\SoT key p vs.length/\arrOf st=p.map (kas_item (vs.toArray.zip vs.toArray))/\failedOf st=none/\s'={s with heap:=(((s.heap.update a (Obj.mapSeq λ_=>#[])).push (seqObj "tuple" vs.toArray 0)).push (seqObj "list" #[] 0))})
   (G:=λp s'=>Bd vs.length p/\SoT key p vs.length/\s'={s with heap:=(((s.heap.update a (Obj.mapSeq λ_=>#[])).push (seqObj "tuple" vs.toArray 0)).push (seqObj "list" #[] 0))}) rfl h2' h64 (λp st s' _ a2 a3 a4=>⟨p,a4.1,a4.2.1,a2,a3,a4.2.2⟩) (Zsg (by omega) hk2 λp b1 b2=>⟨b1,b2,rfl⟩)) ?_ λ_ _ z=>z)))
  rintro⟨⟨⟩,st⟩ s' ⟨p,b1,b2,har,hf,rfl⟩
  have eo:(arrOf st).map (·.2)=Zb6 vs p:=kat_snds (ks:=vs) (vs:=vs) rfl har
  dsimp only
  rw[eo]
  refine Ya (seqEpoch_at oc6 rfl (Ya (listUpdate_at oc6 rfl ?_ (Yr _) (Nat.le_succ_of_le (za _ b1)))))
  rw[hf]
  simp only[bne_self_eq_false,Bool.false_eq_true,if_false]
  exact Yc (fin p b1 b2)
theorem Zsh {A:Around}{κ:SortKind}{key:Nat->Int}{l:Addr}{vs:List Value}{Q:Value->Shared->Prop} (hl:s.heap.IsList l vs.toArray) (h64:vs.length<64)
  (hk:∀(A':Around) (E':Value->Shared->Prop) (s':Shared),(∀b o,s.heap.get? b=some o->s'.heap.get? b=some o)->2<=vs.length->(∀Q:SortKind->Shared->Prop,Q κ s'->wpAny (model prog w) A' (keyKind' vs.toArray) Q E' s')/\Zdi vs.length key (kas_ask prog w A' κ vs) s')
  (fin:∀p:Array Nat,Bd vs.length p->SoT key p vs.length->Q (.ref (s.heap.objs.size+1)) {s with heap:=sortedAll s.heap vs (Zb6 vs p)}):wpAny (model prog w) A (call (.builtin "sorted") [.ref l]) Q E s:=by
 refine Calls.call_function_entry kind_sorted plain_sorted entry_sorted (args_sorted1 _) ?_
 unfold Builtin.«sorted»
 refine Ya (m:=checkCount "sorted" 1 1 _) (Yc (Ya (collect_list hl (Ya (wpAny_newList ?_ (by rw[sizeLine_eq];omega))) (by rw[sizeLine_eq];omega))))
 have z5:((s.heap.push (seqObj "list" #[] 0)).update s.heap.objs.size (Obj.mapSeq (·++vs.toArray))).objs.size=s.heap.objs.size+1:=(Heap.size_update ..).trans (size_push' ..)
 have o5:(((s.heap.push (seqObj "list" #[] 0)).update s.heap.objs.size (Obj.mapSeq (·++vs.toArray))).push (seqObj "list" vs.toArray 0)).get? (s.heap.objs.size+1)=some (seqObj "list" vs.toArray 0):=z5▸Yt _ rfl
 have kp:∀b o,s.heap.get? b=some o->(((s.heap.push (seqObj "list" #[] 0)).update s.heap.objs.size (Obj.mapSeq (·++vs.toArray))).push (seqObj "list" vs.toArray 0)).get? b=some o:=λb o e=>by
  have hlt:=Yk e
  refine Yh _ ?_
  rw[Heap.get?_update_ne _ _ _ _ (Yp hlt)]
  exact Yh _ e
 show wpAny _ _ _ _ _ {s with heap:=(((s.heap.push (seqObj "list" #[] 0)).update s.heap.objs.size (Obj.mapSeq (·++vs.toArray))).push (seqObj "list" vs.toArray 0))}
 rw[z5]
 refine Ya (wpAny_holding (wpAny_call_entry slot_list_sort ⟨_,o5,rfl⟩ entry_list_sort (Zmn (κ:=κ) (key:=key) o5 h64 (λs' k6 h2=>hk _ _ s' (λb o e=>k6 b o (Yp (YV (Yk e))) (kp b o e)) h2) λp b1 b2=>⟨_,rfl,?_⟩) (args_list_sort _)))
 exact Yc ⟨_,rfl,fin p b1 b2⟩
noncomputable def Pr (h:Heap) (v:Value) (x y:Int):Prop:=∃a o n t u,v=.ref a/\h.get? a=some o/\o.cls=.type "tuple"/\o.data=.seq #[.int x t,.int y u] n
theorem Pr.keep {h h':Heap}{v:Value}{x y:Int} (p:Pr h v x y) (k:∀b o,h.get? b=some o->h'.get? b=some o):Pr h' v x y:=by
 obtain⟨a,o,n,t,u,e,g,r⟩:=p
 exact⟨a,o,n,t,u,e,k _ _ g,r⟩
theorem Znx {h:Heap}:∀{vs:List Value},(∀v∈vs,∃x y,Pr h v x y)->∃fs,KatTups h vs fs/\fs.length=vs.length/\∀f∈fs,∃x t,f=Value.int x t
 |[],_=>⟨[],trivial,rfl,λf hf=>by cases hf⟩
 |v::vs,hv=>by
  obtain⟨fs,h1,h2,h3⟩:=Znx (λu hu=>hv u (YD _ hu))
  obtain⟨x,y,a,o,n,t,u,rfl,e,c,d⟩:=hv v Yz
  refine⟨.int x t::fs,KatTups.cons e c d rfl h1,by simp[h2],λf hf=>?_⟩
  rcases Ym.mp hf with rfl|hf
  ·exact⟨x,t,rfl⟩
  ·exact h3 f hf
theorem ZhS {A:Around}{vs:List Value}{Q:SortKind->Shared->Prop} (h2:2<=vs.length) (hv:∀v∈vs,∃x y,Pr s.heap v x y) (h:Q (tuples' true) s):wpAny (model prog w) A (keyKind' vs.toArray) Q E s:=by
 obtain⟨fs,h1,hl,h3⟩:=Znx hv
 refine kat_kind h1 (by omega) (T:=.type "int") (λf hf=>?_) (by decide) ?_
 ·obtain⟨x,t,rfl⟩:=h3 f hf
  exact .now
 ·rw[show(Value.type "int" != Value.type "tuple")=true by decide];exact h
theorem Zk2 {A:Around}{v v':Value}{x y x' y':Int}{C:Bool->Shared->Prop} (p:Pr s.heap v x y) (p':Pr s.heap v' x' y') (h:C (decide (x<x'\/(x=x'/\y<y'))) s):wpAny (model prog w) A (keyLt' (tuples' true) v v') C E s:=by
 obtain⟨a,o,n,t,u,rfl,e,c,d⟩:=p
 obtain⟨a',o',n',t',u',rfl,e',c',d'⟩:=p'
 refine kat_lt e d e' d' ?_
 show KatLex prog w A true _ C [(.int x t,.int x' t'),(.int y u,.int y' u')] 0 s
 refine kat_cons (wpAny_eqBool_int ?_)
 by_cases ex:x=x'
 ·rw[show(x==x')=true from beq_iff_eq.mpr ex]
  refine kat_yes (kat_cons (wpAny_eqBool_int ?_))
  by_cases ey:y=y'
  ·rw[show(y==y')=true from beq_iff_eq.mpr ey]
   refine kat_yes (kat_nil ?_)
   have:decide (x<x'\/(x=x'/\y<y'))=false:=YS (by omega)
   rw[this]at h
   exact h
  ·rw[show(y==y')=false from beq_eq_false_iff_ne.mpr ey]
   refine kat_no (kat_one _ _ (PyProof.Rows.lt_int (show C (decide (y<y')) s from ?_)))
   have:decide (x<x'\/(x=x'/\y<y'))=decide (y<y'):=decide_eq_decide.mpr (by omega)
   rw[this]at h
   exact h
 ·rw[show(x==x')=false from beq_eq_false_iff_ne.mpr ex]
  refine kat_no (oneLt_int ?_)
  have:decide (x<x'\/(x=x'/\y<y'))=decide (x<x'):=decide_eq_decide.mpr (by omega)
  rw[this]at h
  exact h
end
section
variable {X:Cx}
noncomputable def ZaI (r:List Int):Int:=r.getD 0 0*100000+r.getD 1 0
noncomputable def Zmo (K:Frag):List V->Hp->VK->Prop:=λxs H Q=>∃(p:Addr) (rs:List (List Int)),xs=[.ref p]/\ZA H p rs/\(∀r∈rs,∃x y,r=[x,y]/\0<=y/\y<100000)/\rs.length<64/\∀(rs':List (List Int)) (l:Addr) (H':Hp),rs'.Perm rs->rs'.Pairwise (λr r'=>ZaI r<=ZaI r')->H l=none->Ze H H'->ZA H' l rs'->Q (.ref l) H'
theorem Zj1 {K:Frag} (hK:X.K=K):ZaF X (.builtin "sorted") (Zmo K):=by
 subst hK
 intro pins s σ H xs us Q I r h
 obtain⟨p,rs,rfl,⟨as,hp,hla,hT⟩,hR,hn,q⟩:=h
 obtain⟨u,rfl,ru⟩:=r.one
 cases(show u=Value.ref p from ru)
 obtain⟨its,rv,pl,hz⟩:=I.list (SqL.of hp)
 have hl:its.length=rs.length:=by have:=rv.length;rw[Yf]at this;omega
 have hits:∀i (h1:i<its.length) (h2:i<as.length),its[i]=Value.ref as[i]:=λi h1 h2=>by
  obtain⟨v,e1,e2⟩:=rv.get (i:=i) (x:=V.ref as[i]) (by rw[YL,Yi h2];rfl)
  rw[Yi h1]at e1
  cases e1
  exact e2
 have hPr:∀i (h1:i<its.length) (h2:i<rs.length),∃x y,rs[i]=[x,y]/\0<=y/\y<100000/\Pr s.heap its[i] x y:=λi h1 h2=>by
  obtain⟨x,y,e,y0,y1⟩:=hR _ (YC h2)
  obtain⟨_,tv,hv,o,g,c,n,d⟩:=I.hok _ _ (hT i (by omega) h2)
  rw[e]at hv
  obtain⟨v1,v2,rfl,⟨t1,rfl⟩,⟨t2,rfl⟩⟩:=hv.two
  exact⟨x,y,e,y0,y1,as[i]'(by omega),o,n,t1,t2,hits i h1 (by omega),g,c,d⟩
 have hPm:∀v∈its,∃x y,Pr s.heap v x y:=λv hv=>by
  obtain⟨i,h1,rfl⟩:=YZ hv
  obtain⟨x,y,_,_,_,hp⟩:=hPr i h1 (by omega)
  exact⟨x,y,hp⟩
 refine Zsh (κ:=tuples' true) (key:=λi=>ZaI (rs.getD i [])) pl.isList (by omega) (λA' E' s' kp h2=>⟨λQ' hq=>ZhS h2 (λv hv=>?_) hq,λi j C hi hj hC=>?_⟩) λp' hB hS=>?_
 ·obtain⟨x,y,hp⟩:=hPm v hv
  exact⟨x,y,hp.keep kp⟩
 ·obtain⟨x,y,e,y0,y1,hp1⟩:=hPr i hi (by omega)
  obtain⟨x',y',e',y0',y1',hp2⟩:=hPr j hj (by omega)
  unfold kas_ask
  rw[show its.getD i Value.none=its[i] by simp[hi],show its.getD j Value.none=its[j] by simp[hj]]
  refine Zk2 (hp1.keep kp) (hp2.keep kp) ?_
  have ei:ZaI (rs.getD i [])=x*100000+y:=by simp[ZaI,Yn,show i<rs.length by omega,e]
  have ej:ZaI (rs.getD j [])=x'*100000+y':=by simp[ZaI,Yn,show j<rs.length by omega,e']
  have:decide (ZaI (rs.getD i [])<ZaI (rs.getD j []))=decide (x<x'\/(x=x'/\y<y')):=by rw[ei,ej];exact decide_eq_decide.mpr (by omega)
  rw[<-this];exact hC
 ·have hsz:p'.size=rs.length:=hB.size.trans hl
  have hlt:∀i∈p'.toList,i<rs.length:=λi hi=>by
   have:=(Array.perm_iff_toList_perm.mp hB).mem_iff.mp hi
   simpa[hl]using this
  have sm:Ze H (upd H (s.heap.objs.size+1) (.lst ((p'.toList.map λi=>as.getD i 0).map V.ref))):=(Ze.refl H).upd (I.hok.fresh (YU _))
  refine⟨.ref (s.heap.objs.size+1),_,I.laid (t':=s.toks) (a:=s.heap.objs.size+1) (o:=.lst ((p'.toList.map λi=>as.getD i 0).map V.ref)) (λb o e=>sortedAll_old e) (YU _) ?_,rfl,q (p'.toList.map λi=>rs.getD i []) _ _ ?_ ?_ (I.hok.fresh (YU _)) sm ⟨_,Zb,by simp,λi i1 i2=>sm _ _ ?_⟩⟩
  ·obtain⟨n,e⟩:=sortedAll_at s.heap its (Zb6 its p')
   refine⟨Yo (show _<=1000 by simp;omega) (by decide),(Zb6 its p').toList,n,?_,by rw[e]⟩
   have key:∀(l:List Nat),(∀i∈l,i<rs.length)->Vals ((l.map λi=>as.getD i 0).map V.ref) (l.map λi=>its.getD i Value.none):=by
    intro l
    induction l with
    |nil=>intro _;exact .nil
    |cons a l ih =>
     intro hl'
     refine .cons ?_ (ih λi hi=>hl' i (YD _ hi))
     have ha:=hl' a Yz
     have h1:a<its.length:=by omega
     have h2:a<as.length:=by omega
     show its.getD a Value.none=Value.ref (as.getD a 0)
     rw[show its.getD a Value.none=its[a] by simp[h1],show as.getD a 0=as[a] by simp[h2]]
     exact hits a h1 h2
   exact key _ hlt
  ·have:=(Array.perm_iff_toList_perm.mp hB).map λi=>rs.getD i []
   refine this.trans ?_
   have e:((List.range its.length).toArray.toList.map λi=>rs.getD i [])=rs:=by
    rw[hl]
    refine List.ext_getElem (by simp) λi i1 i2=>?_
    have:i<rs.length:=i2
    simp[Yn,this]
   rw[e]
  ·rw[List.pairwise_iff_getElem]
   intro i j i1 j1 hij
   have i2:i<p'.size:=by simpa using i1
   have j2:j<p'.size:=by simpa using j1
   have:=hS i j (by omega) (by omega)
   unfold kk at this
   rw[Array.getD_eq_getD_getElem?,Array.getD_eq_getD_getElem?,getElem?_pos p' i i2,getElem?_pos p' j j2]at this
   simpa using this
  ·have i3:i<p'.toList.length:=by simpa using i1
   have hi:=hlt _ (YC i3)
   have h2:p'.toList[i]<as.length:=by omega
   have:=hT _ h2 hi
   have e1:(p'.toList.map λi=>as.getD i 0)[i]'(by simpa using i1)=as[p'.toList[i]]:=by rw[List.getElem_map,Yn,Yi h2];rfl
   have e2:(p'.toList.map λi=>rs.getD i [])[i]'(by simpa using i2)=rs[p'.toList[i]]:=by rw[List.getElem_map,Yn,Yi hi];rfl
   rw[e1,e2];exact this
end
theorem Zqg {ns T ms:List Int} (hT:Zq ns T) (hl:ms.length=T.length) (h:∀p q:Nat,p<T.length->nth T p=q->nth ms q+(if p<q then 1 else 0)<=nth ms p):Zq ms T:=by
 have eT:T.length=ns.length:=hT.1
 refine⟨hl.symm,λp hp=>?_⟩
 have:=ZkV (g:=nth ms) hT (λq p hq hp hO=>?_) p (by omega)
 ·rw[hl,eT];exact this
 ·have R:=ZfP hT (R:=λo p=>nth ms o<=nth ms p/\(p<o->nth ms o<nth ms p)) (λp q p1 q1 e _=>?_) (λo q p O1 O2 r1 r2=>?_) _ _ _ hp hq rfl hO
  ·exact⟨λ_=>R.1,R.2⟩
  ·have:=h p q (by omega) e
   refine⟨?_,λz=>?_⟩
   ·split at this<;>omega
   ·rw[Yd z]at this;omega
  ·refine⟨by omega,λz=>?_⟩
   by_cases y:p<q
   ·have:=r2.2 y;omega
   ·have:=O2.ne
    have:=r1.2 (by omega)
    omega
theorem Zk3 {f g:Nat->Int}{i:Nat}{S:List Nat} (h:∀q,q<i->f q=g q) (hs:Zjk f i S):Zjk g i S:=by
 refine⟨hs.1,λq=>(hs.2 q).trans ⟨λ⟨h1,h2⟩=>⟨h1,λr r1 r2=>by rw[<-h q h1,<-h r r2];exact h2 r r1 r2⟩,λ⟨h1,h2⟩=>⟨h1,λr r1 r2=>by rw[h q h1,h r r2];exact h2 r r1 r2⟩⟩⟩
theorem ZgO {f g:Nat->Int}{i p:Nat}{e:Int} (h:∀q,q<i->f q=g q) (hp:p<i) (he:ZL f i p e):ZL g i p e:=by
 have c1:ZcS f p->ZcS g p:=λz q hq=>by rw[<-h p hp,<-h q (by omega)];exact z q hq
 have c2:ZbV f i p->ZbV g i p:=λz r r1 r2=>by rw[<-h p hp,<-h r r2];exact z r r1 r2
 have c3:∀q,ZaG f p q->ZaG g p q:=λq ⟨z1,z2,z3⟩=>⟨z1,by rw[<-h p hp,<-h q (by omega)];exact z2,λr r1 r2=>by rw[<-h p hp,<-h r (by omega)];exact z3 r r1 r2⟩
 have c4:∀r,Zaz f i p r->Zaz g i p r:=λr ⟨z1,z2,z3,z4⟩=>⟨z1,z2,by rw[<-h p hp,<-h r z2];exact z3,λs s1 s2=>by rw[<-h p hp,<-h s (by omega)];exact z4 s s1 s2⟩
 rcases he with⟨a,b,c⟩|⟨q,a,b,c⟩|⟨r,a,b,c⟩|⟨q,r,a,b,c⟩
 ·exact .inl ⟨c1 a,c2 b,c⟩
 ·exact .inr (.inl ⟨q,c3 q a,c2 b,c⟩)
 ·exact .inr (.inr (.inl ⟨r,c1 a,c4 r b,c⟩))
 ·exact .inr (.inr (.inr ⟨q,r,c3 q a,c4 r b,by rw[<-h q (Nat.lt_trans a.1 hp),<-h r b.2.1];exact c⟩))
noncomputable def ZhT (n i:Nat) (S:List Nat) (es:List Int):Prop:=∃f:Nat->Int,Zjk f i S/\S.Pairwise (λq r=>f q+2 ^ (n-i)<=f r)/\∀p,p<i->ZL f i p (es.getD p 0)
theorem Zoo (n:Nat) (es:List Int):ZhT n 0 [] es:=⟨λ_=>0,⟨List.Pairwise.nil,λq=>by simp⟩,List.Pairwise.nil,λp hp=>by omega⟩
theorem ZhT.lt {n i:Nat}{S:List Nat}{es:List Int} (h:ZhT n i S es):∀q∈S,q<i:=by
 obtain⟨f,hS,_⟩:=h
 exact λq hq=>((hS.2 q).mp hq).1
theorem ZhT.len {n i:Nat}{S:List Nat}{es:List Int} (h:ZhT n i S es):S.length<=i:=by
 have hl:=h.lt
 obtain⟨f,hS,_⟩:=h
 rcases Zmf S i 0 hS.1 (λq hq=>⟨Yr _,hl q hq⟩)with z|z
 ·omega
 ·rw[z];simp
theorem ZhT.step {n i:Nat}{A B:List Nat}{es:List Int} (h:ZhT n i (A++B) es) (hi:i<n) (hl:es.length=n) (he:es.getD i 0=-1):ZhT n (i+1) (A++[i]) (Zde es A B i):=by
 have hlt:=h.lt
 obtain⟨f,hS,hg,hE⟩:=h
 have eD:(2:Int) ^ (n-i)=2*2 ^ (n-(i+1)):=by
  rw[show n-i=n-(i+1)+1 by omega,Int.pow_succ,Int.mul_comm]
 have pD:(0:Int)<2 ^ (n-(i+1)):=Int.pow_pos (by decide)
 rw[eD]at hg
 generalize hDD:(2:Int) ^ (n-(i+1))=D at hg pD
 have hgA:=(List.pairwise_append.mp hg).1
 have hgB:=(List.pairwise_append.mp hg).2.1
 have hgX:=(List.pairwise_append.mp hg).2.2
 obtain⟨v,vA,vB⟩:∃v:Int,(∀q∈A,f q+D<=v)/\∀q∈B,v<f q:=by
  cases B with
  |cons b Br =>
   refine⟨f b-D,λq hq=>?_,λq hq=>?_⟩
   ·have:=hgX q hq b (by simp);omega
   ·rcases Ym.mp hq with rfl|hq
    ·omega
    ·have:=(Y0.mp hgB).1 q hq;omega
  |nil =>
   rcases snoc_cases A with rfl|⟨A',a,rfl⟩
   ·exact⟨0,(λq hq=>by cases hq),λq hq=>by cases hq⟩
   ·refine⟨f a+D,λq hq=>?_,λq hq=>by cases hq⟩
    rcases Yq.mp hq with hq|hq
    ·have:=(List.pairwise_append.mp hgA).2.2 q hq a (by simp);omega
    ·rw[Y3.mp hq];omega
 have hag:∀q,q<i->f q=(if q=i then v else f q):=λq hq=>by rw[Yb (by omega)]
 have gi:(λq=>if q=i then v else f q) i=v:=Yd rfl
 have gq:∀q,q<i->(λq=>if q=i then v else f q) q=f q:=λq hq=>Yb (by omega)
 generalize (λq=>if q=i then v else f q)=g at gi gq
 have hag:∀q,q<i->f q=g q:=λq hq=>(gq q hq).symm
 have lA:∀q∈A,q<i:=λq hq=>hlt q (YA _ hq)
 have lB:∀q∈B,q<i:=λq hq=>hlt q (Yl _ hq)
 have SS:=ZhJ (f:=g) (i:=i) (A:=A) (B:=B) (Zk3 hag hS) (λq hq=>by rw[gi,gq q (lA q hq)];have:=vA q hq;omega) (λq hq=>by rw[gi,gq q (lB q hq)];exact vB q hq)
 refine⟨g,SS.1,?_,λp hp=>?_⟩
 ·rw[hDD]
  refine List.pairwise_append.mpr ⟨?_,List.pairwise_singleton _ _,λq hq r hr=>?_⟩
  ·refine hgA.imp_of_mem λ{q r} hq hr z=>?_
   rw[gq q (lA q hq),gq r (lA r hr)];omega
  ·rw[Y3.mp hr,gi,gq q (lA q hq)];exact vA q hq
 ·have hbi:∀b,B.head?=some b->b≠i:=λb hb=>by
   have:=lB b (List.mem_of_head? hb);omega
  rw[Zhi _ _ _ _ _ (by omega) hbi]
  by_cases z:p=i
  ·subst z
   rw[Yd rfl,he];exact SS.2.1
  ·rw[Yb z]
   exact SS.2.2 p _ (by omega) (ZgO hag (by omega) (hE p (by omega)))
theorem ZhT.tree {n:Nat}{S:List Nat}{es:List Int} (h:ZhT n n S es) (hl:es.length=n):∃ns,Zq ns es:=by
 obtain⟨f,_,_,hE⟩:=h
 refine⟨(List.range n).map f,by simp[hl],λp hp=>?_⟩
 have hp:p<n:=by simpa using hp
 have:=hE p hp
 rw[show((List.range n).map f).length=n by simp]
 exact ZgO (f:=f) (λq hq=>(ZiV hq).symm) hp this
theorem Zj2 {β:Type}{F:Nat->β}{G:β->Nat}{l:List β}{n:Nat} (hG:∀p,p<n->G (F p)=p) (h:l.Perm ((List.range n).map F)):∃os:List Nat,os.Perm (List.range n)/\l=os.map F:=by
 refine⟨l.map G,?_,?_⟩
 ·have:=h.map G
  rw[YW]at this
  have e:(List.range n).map (G ∘ F)=List.range n:=by
   exact(List.map_congr_left (f:=G ∘ F) (g:=id) λp hp=>hG p (Yw.mp hp)).trans (List.map_id _)
  rwa [e]at this
 ·rw[YW]
  have:l.map (F ∘ G)=l.map id:=List.map_congr_left λx hx=>by
   obtain⟨p,hp,rfl⟩:=Yu.mp (h.mem_iff.mp hx)
   show F (G (F p))=F p
   rw[hG p (Yw.mp hp)]
  rw[this,List.map_id]
noncomputable def Zap (ds:List Nat):Nat->Nat
 |0=>0
 |k+1=>Zap ds k-ds.getD k 0+1
noncomputable def ZeW (ds:List Nat):Prop:=∀k,k<ds.length->ds.getD k 0<=Zap ds k
theorem Zqh (ds:List Nat) (k:Nat):Zap ds k<=k:=by
 induction k with
 |zero=>exact Ye _
 |succ k ih=>unfold Zap;omega
theorem Zgk (ds:List Nat) (d:Nat):∀k,k<=ds.length->Zap (ds++[d]) k=Zap ds k
 |0,_=>rfl
 |k+1,h=>by
  unfold Zap
  rw[Zgk ds d k (by omega)]
  congr 2
  simp[Yn,Y8 (show k<ds.length by omega)]
theorem ZeW.snoc {ds:List Nat}{d:Nat} (h:ZeW ds) (hd:d<=Zap ds ds.length):ZeW (ds++[d]):=by
 intro k hk
 rw[Zgk ds d k (by simp at hk;omega)]
 by_cases e:k=ds.length
 ·subst e
  simpa[Yn]using hd
 ·have hk2:k<ds.length:=by simp at hk;omega
  have:=h k hk2
  simpa[Yn,Y8 hk2]using this
theorem ZhU (l:List Nat) (y:Nat):atI (Zt (l++[y])) (-1)=some (V.int (y:Nat)):=by
 have:=Zmk (bs:=l++[y]) (i:=l.length) (by simp)
 rw[this];simp[Yn]
theorem Zj3 (es:List Int) (y:Nat):es.set y (nth es y)=es:=by
 by_cases h:y<es.length
 ·refine List.ext_getElem (by simp) λj j1 j2=>?_
  rw[List.getElem_set]
  split
  ·rename_i e
   subst e
   simp[nth,Yn,h]
  ·rfl
 ·exact List.set_eq_of_length_le (by omega)
theorem Zmp {α:Type} (S:List α) {d:Nat} (h:d<=S.length):∃A B,S=A++B/\B.length=d:=⟨S.take (S.length-d),S.drop (S.length-d),(Y7 _ _).symm,by simp;omega⟩
section
variable {X:Cx}
theorem vals3 {x y z:V}{us:List Value} (r:Vals [x,y,z] us):∃u w' v',us=[u,w',v']/\RelV x u/\RelV y w'/\RelV z v':=by
 cases r with
 |cons r1 r2 =>
  obtain⟨u,w',rfl,a,b⟩:=vals2 r2
  exact⟨_,_,_,rfl,r1,a,b⟩
theorem Zop (hc:X.calm=true):ZaF X (.builtin "min") (λxs H Q=>∃i j k,xs=[.int i,.int j,.int k]/\Q (.int (min (min i j) k)) H):=by
 intro pins s σ H xs us Q I r h
 obtain⟨i,j,k,rfl,q⟩:=h
 obtain⟨u,w',v',rfl,⟨t,rfl⟩,⟨t',rfl⟩,⟨t'',rfl⟩⟩:=vals3 r
 refine min_three_ints (I.ok.hd hc) λh' tk kp=>⟨_,H,I.kept kp,?_,q⟩
 repeat' split
 all_goals exact⟨_,by congr 1;omega⟩
end
theorem cp58:ZjG 10 58:=by unfold ZjG;decide
theorem ZA.keep {H H':Hp}{l:Addr}{rs:List (List Int)} (R:ZA H l rs) (h1:∀xs,H l=some (.lst xs)->H' l=some (.lst xs)) (h2:∀a xs,H a=some (.tup xs)->H' a=some (.tup xs)):ZA H' l rs:=by
 obtain⟨as,e,hl,h⟩:=R
 exact⟨as,h1 _ e,hl,λi i1 i2=>h2 _ _ (h i i1 i2)⟩
theorem ZA.exc {H H':Hp}{l p:Addr}{rs:List (List Int)} (R:ZA H l rs) (e:Exc p H H') (P:Zr H p) (n:l≠p):ZA H' l rs:=by
 obtain⟨x,y,hp,_⟩:=P
 exact R.keep (λxs h=>e _ _ n h) λa xs h=>e _ _ (λz=>by rw[z,hp]at h;cases h) h
theorem ZA.updL {H:Hp}{l b:Addr}{rs:List (List Int)}{ys zs:List V} (R:ZA H l rs) (hb:H b=some (.lst ys)) (n:l≠b):ZA (upd H b (.lst zs)) l rs :=
 R.keep (λxs h=>by rw[Zg n];exact h) λa xs h=>by rw[Zg (λz=>by rw[z,hb]at h;cases h)];exact h
noncomputable def Zdj (T:List Int) (q:Nat):List Int:=[((way T q).length:Int),(q:Int)]
theorem Zmq {T:List Int}{rs:List (List Int)}{n:Nat} (hn:n<=1000) (hp:rs.Perm ((List.range n).map (Zdj T))) (hs:rs.Pairwise λr r'=>ZaI r<=ZaI r'):∃os:List Nat,os.Perm (List.range n)/\rs=os.map (Zdj T)/\∀i j,i<j->j<os.length->os.getD i 0≠os.getD j 0/\(way T (os.getD i 0)).length<=(way T (os.getD j 0)).length:=by
 obtain⟨os,ho,rfl⟩:=Zj2 (F:=Zdj T) (G:=λr=>(r.getD 1 0).toNat) (λp _=>by simp[Zdj]) hp
 refine⟨os,ho,rfl,λi j hij hj=>?_⟩
 have hlt:∀q∈os,q<n:=λq hq=>Yw.mp (ho.mem_iff.mp hq)
 have nd:os.Nodup:=ho.nodup_iff.mpr List.nodup_range
 have hi:i<os.length:=by omega
 have e1:os.getD i 0=os[i]:=by simp[hi]
 have e2:os.getD j 0=os[j]:=by simp[hj]
 rw[e1,e2]
 refine⟨λz=>?_,?_⟩
 ·exact List.pairwise_iff_getElem.mp nd i j hi hj hij z
 ·rw[List.pairwise_map]at hs
  have:=List.pairwise_iff_getElem.mp hs i j hi hj hij
  have a:=hlt _ (YC hi)
  have b:=hlt _ (YC hj)
  simp only[ZaI,Zdj,List.getD_cons_zero,List.getD_cons_succ]at this
  omega
noncomputable def goN:Nat->Nat->Int
 |0,_=>1
 |r+1,j=>((List.range (j+1)).map λi=>goN r (i+1)).sum
noncomputable def fewer (r st d:Nat):Int:=((List.range d).map λf=>goN r (st+1-f)).sum
end L2
namespace L2
open PySem PySem.Spec PyProof.Rows PySem.W
end L2
namespace L2
noncomputable def rk:Nat->List Nat->Int
 |_,[]=>0
 |st,d::ds=>fewer ds.length st d+rk (st-d+1) ds
noncomputable def Ok:Nat->List Nat->Prop
 |_,[]=>True
 |st,d::ds=>d<=st/\Ok (st-d+1) ds
end L2
namespace L2
open PySem PySem.Spec PyProof.Rows PySem.W
end L2
namespace L2
open PySem PySem.Spec PyProof.Rows PySem.W
end L2
namespace L2
open PySem PySem.Spec PyProof.Rows
section
variable {κ:Type} [DecidableEq κ]
noncomputable def ZcT (kvs:List (κ×V)) (k:κ):Option V:=(kvs.find? λkv=>decide (kv.1=k)).map (·.2)
noncomputable def putK (kvs:List (κ×V)) (k:κ) (v:V):List (κ×V) :=
 if (kvs.any λkv=>decide (kv.1=k))=true then kvs.map (λkv=>if kv.1=k then (kv.1,v)else kv)else kvs++[(k,v)]
noncomputable def ZhV (kvs:List (κ×V)) (k:κ):List (κ×V):=kvs.filter λkv=>decide (kv.1≠k)
theorem ZfQ {p:κ×V}{r:List (κ×V)}{k:κ} (e:p.1=k):ZcT (p::r) k=some p.2:=by simp[ZcT,List.find?_cons,e]
theorem ZfR {p:κ×V}{r:List (κ×V)}{k:κ} (e:¬ p.1=k):ZcT (p::r) k=ZcT r k:=by simp[ZcT,List.find?_cons,e]
theorem ZhW (k:κ):∀kvs:List (κ×V),(kvs.any λkv=>decide (kv.1=k))=(ZcT kvs k).isSome
 |[]=>rfl
 |p::r=>by
  rw[List.any_cons]
  by_cases e:p.1=k
  ·simp only[ZfQ e,YB e,Bool.true_or,Option.isSome_some]
  ·rw[ZfR e,YS e,Bool.false_or];exact ZhW k r
theorem Zef (kvs:List (κ×V)) (k:κ) (v:V):(putK kvs k v).length<=kvs.length+1:=by
 unfold putK
 split
 ·rw[Yf];omega
 ·rw[YM,YR,List.length_nil];omega
theorem ZhX {kvs:List (κ×V)}{k:κ} (v:V) (h:ZcT kvs k=none):putK kvs k v=kvs++[(k,v)]:=by
 unfold putK
 rw[ZhW,h]
 exact Yb (by decide)
theorem Zg6.Zgl {o:Option V}{u:Option Value} (r:Zg6 o u):o.isSome=u.isSome:=by
 cases o with
 |none=>cases u with
  |none=>rfl
  |some _=>exact(show False from r).elim
 |some _=>cases u with
  |none=>exact(show False from r).elim
  |some _=>rfl
theorem KV.val {kvs:List (κ×V)}{vs:List (κ×Value)} (r:KV kvs vs) (k:κ):Zg6 (ZcT kvs k) (valueAt vs k):=by
 unfold KV at r
 induction r with
 |nil=>exact True.intro
 |@cons p q ps qs h t ih =>
  obtain⟨h1,h2⟩:=h
  by_cases e:p.1=k
  ·have e':q.1=k:=h1.symm.trans e
   have b:valueAt (q::qs) k=some q.2:=by simp[valueAt,List.find?_cons,e']
   rw[ZfQ e,b];exact h2
  ·have e':¬ q.1=k:=λz=>e (h1.trans z)
   have b:valueAt (q::qs) k=valueAt qs k:=by simp[valueAt,List.find?_cons,e']
   rw[ZfR e,b];exact ih
theorem KV.any {kvs:List (κ×V)}{vs:List (κ×Value)} (r:KV kvs vs) (k:κ):(kvs.any λkv=>decide (kv.1=k))=vs.any λkv=>decide (kv.1=k):=by
 unfold KV at r
 induction r with
 |nil=>rfl
 |cons h t ih=>rw[List.any_cons,List.any_cons,ih,h.1]
theorem KV.repl {kvs:List (κ×V)}{vs:List (κ×Value)} (r:KV kvs vs) (k:κ) {y:V}{u:Value} (ry:RelV y u) :
  KV (kvs.map λkv=>if kv.1=k then (kv.1,y)else kv) (vs.map λkv=>if kv.1=k then (kv.1,u)else kv):=by
 unfold KV at r⊢
 induction r with
 |nil=>exact .nil
 |@cons p q ps qs h t ih =>
  rw[YH,YH]
  refine .cons ?_ ih
  obtain⟨h1,h2⟩:=h
  by_cases e:p.1=k
  ·rw[Yd e,Yd (h1.symm.trans e)];exact⟨h1,ry⟩
  ·rw[Yb e,Yb (λz=>e (h1.trans z))];exact⟨h1,h2⟩
theorem KV.put {kvs:List (κ×V)}{vs:List (κ×Value)} (r:KV kvs vs) (k:κ) {y:V}{u:Value} (ry:RelV y u):KV (putK kvs k y) (stored vs k u):=by
 unfold putK stored
 rw[r.any k]
 by_cases e:(vs.any λkv=>decide (kv.1=k))=true
 ·rw[Yd e,Yd e];exact r.repl k ry
 ·rw[Yb e,Yb e];exact Paired.snoc r ⟨rfl,ry⟩
theorem KV.drop {kvs:List (κ×V)}{vs:List (κ×Value)} (r:KV kvs vs) (k:κ):KV (ZhV kvs k) (without vs k):=by
 unfold KV at r⊢
 unfold ZhV without
 induction r with
 |nil=>exact .nil
 |@cons p q ps qs h t ih =>
  obtain⟨h1,h2⟩:=h
  rw[List.filter_cons,List.filter_cons]
  by_cases e:p.1=k
  ·have a:¬ decide (p.1≠k)=true:=by simp[e]
   have b:¬ decide (q.1≠k)=true:=by simp[h1.symm.trans e]
   rw[Yb a,Yb b];exact ih
  ·have e':¬ q.1=k:=λz=>e (h1.trans z)
   have a:decide (p.1≠k)=true:=by simp[e]
   have b:decide (q.1≠k)=true:=by simp[e']
   rw[Yd a,Yd b];exact .cons ⟨h1,h2⟩ ih
theorem KV.length {kvs:List (κ×V)}{vs:List (κ×Value)} (r:KV kvs vs):kvs.length=vs.length:=Paired.length r
theorem Zqi (kvs:List (κ×V)) (k:κ):(ZhV kvs k).length<=kvs.length:=Y4 _ _
end
theorem Zjq {P:Program}{w:World}{k:Key}{u:Value} (r:RelV (kV k) u):(Z7 P w).is k u=true:=by
 cases k with
 |inl i=>obtain⟨t,e⟩:=(show ∃t,u=Value.int i t from r);subst e;exact ZkC P w i t
 |inr x=>obtain⟨t,e⟩:=(show ∃t,u=Value.str x t from r);subst e;exact ZkD P w x t
theorem Zjr {P:Program}{w:World}:∀{ks:List Key}{us:List Value},Vals (ks.map kV) us->ItemsAre (Z7 P w) ks us
 |[],_,r=>by rw[List.map_nil]at r;cases r;exact .nil
 |k::ks,_,r=>by
  rw[YH]at r
  cases r with
  |cons h t=>exact .cons (Zjq h) (Zjr t)
noncomputable abbrev KT (H:Hp):List (List Key×V)->List (List Key×Addr×Value)->Prop:=Paired λp q=>p.1=q.1/\H q.2.1=some (.tup (p.1.map kV))/\RelV p.2 q.2.2
theorem KT.val {H:Hp}{kvs:List (List Key×V)}{xs:List (List Key×Addr×Value)} (r:KT H kvs xs) (k:List Key):Zg6 (ZcT kvs k) ((atKey xs k).map (·.2)):=by
 induction r with
 |nil=>exact True.intro
 |@cons p q ps qs h t ih =>
  obtain⟨h1,_,h2⟩:=h
  by_cases e:p.1=k
  ·have e':q.1=k:=h1.symm.trans e
   have b:atKey (q::qs) k=some q.2:=by simp[atKey,List.find?_cons,e']
   rw[ZfQ e,b];exact h2
  ·have e':¬ q.1=k:=λz=>e (h1.trans z)
   have b:atKey (q::qs) k=atKey qs k:=by simp[atKey,List.find?_cons,e']
   rw[ZfR e,b];exact ih
theorem KT.repl {H:Hp}{kvs:List (List Key×V)}{xs:List (List Key×Addr×Value)} (r:KT H kvs xs) (k:List Key) {y:V}{u:Value} (ry:RelV y u) :
  KT H (kvs.map λkv=>if kv.1=k then (kv.1,y)else kv) (xs.map (putAt k u)):=by
 induction r with
 |nil=>exact .nil
 |@cons p q ps qs h t ih =>
  rw[YH,YH]
  refine .cons ?_ ih
  obtain⟨h1,h2,h3⟩:=h
  unfold putAt
  by_cases e:p.1=k
  ·rw[Yd e,Yd (h1.symm.trans e)];exact⟨h1,h2,ry⟩
  ·rw[Yb e,Yb (λz=>e (h1.trans z))];exact⟨h1,h2,h3⟩
theorem KT.put {H:Hp}{kvs:List (List Key×V)}{xs:List (List Key×Addr×Value)} (r:KT H kvs xs) (k:List Key) {b:Addr}{y:V}{u:Value} (hb:H b=some (.tup (k.map kV))) (ry:RelV y u) :
  KT H (putK kvs k y) (storedH xs k b u):=by
 have e:(kvs.any λkv=>decide (kv.1=k))=(atKey xs k).isSome:=by
  rw[ZhW,(r.val k).Zgl,Option.isSome_map]
 unfold putK storedH
 rw[e]
 by_cases q:(atKey xs k).isSome=true
 ·rw[Yd q,Yd q];exact r.repl k ry
 ·rw[Yb q,Yb q];exact Paired.snoc r ⟨rfl,hb,ry⟩
theorem KT.keeps {H H':Hp}{kvs:List (List Key×V)}{xs:List (List Key×Addr×Value)} (r:KT H kvs xs) (ht:∀b ys,H b=some (.tup ys)->H' b=some (.tup ys)):KT H' kvs xs :=
 Paired.mapP r λ_ _ z=>⟨z.1,ht _ _ z.2.1,z.2.2⟩
section
variable {P:Program}{w:World}{H:Hp}{h:Heap}{a:Addr}
theorem rd_of {u:HO} (ok:HOk P w H h) (e:Rd H a u):ZZ P w H h a u:=e.ok ok
theorem Zk4 {kvs:List (Key×V)} (ok:HOk P w H h) (e:Rd H a (.dK kvs)):kvs.length<=sizeLine/\(a==sysModules)=false/\∃vs,KV kvs vs/\h.DictOf (Z7 P w) a vs :=
 show ZZ P w H h a (.dK kvs)from rd_of ok e
theorem Zny {kvs:List (Key×V)} (ok:HOk P w H h) (e:H a=some (.dK kvs)):kvs.length<=sizeLine/\(a==sysModules)=false/\∃vs,KV kvs vs/\h.DictOf (Z7 P w) a vs:=Zk4 ok (.inl e)
theorem Zj4 {ks:List Key} (ok:HOk P w H h) (e:H a=some (.tup (ks.map kV))):(tupleKind (Z7 P w)).is h ks a:=by
 obtain⟨_,its,r,o,h1,h2,n,h3⟩:=(show ZZ P w H h a (.tup (ks.map kV))from ok a _ e)
 exact⟨o,its.toArray,n,h1,h2,h3,by simpa using Zjr r⟩
theorem Zk5 {kvs:List (List Key×V)} (ok:HOk P w H h) (e:Rd H a (.dT kvs)):kvs.length<=sizeLine/\(a==sysModules)=false /\
  ∃xs,KT H kvs xs/\h.DictOfH (tupleKind (Z7 P w)) a xs:=by
 obtain⟨z,y,xs,r,o,es,ep,h1,h2,h3,h4,h5⟩:=(show ZZ P w H h a (.dT kvs)from rd_of ok e)
 refine⟨z,y,xs,r,o,es,ep,h1,h2,h3,h4,λx hx=>?_,h5⟩
 have all:∀{l:List (List Key×V)}{m:List (List Key×Addr×Value)},KT H l m->∀x∈m,(tupleKind (Z7 P w)).is h x.1 x.2.1:=by
  intro l m q
  induction q with
  |nil=>intro x hx;exact nomatch hx
  |@cons p q ps qs hq t ih =>
   intro x hx
   rcases Ym.mp hx with e|hx
   ·subst e
    exact Zj4 ok (by rw[<-hq.1];exact hq.2.1)
   ·exact ih x hx
 exact all r x hx
theorem dt_of {kvs:List (List Key×V)} (ok:HOk P w H h) (e:H a=some (.dT kvs)):kvs.length<=sizeLine/\(a==sysModules)=false /\
  ∃xs,KT H kvs xs/\h.DictOfH (tupleKind (Z7 P w)) a xs:=Zk5 ok (.inl e)
end
noncomputable def Zfk (H:Hp) (a:Addr) (y:V) (r:Option V):Prop :=
 (∃kvs k,Rd H a (.dK kvs)/\y=kV k/\r=ZcT kvs k)\/∃kvs k b,Rd H a (.dT kvs)/\y=.ref b/\H b=some (.tup (k.map kV))/\r=ZcT kvs k
noncomputable def ZhY (H:Hp) (a:Addr) (y v:V) (H':Hp):Prop :=
 (∃kvs k,H a=some (.dK kvs)/\y=kV k/\kvs.length<sizeLine/\H'=upd H a (.dK (putK kvs k v))) \/
 ∃kvs k b,H a=some (.dT kvs)/\y=.ref b/\H b=some (.tup (k.map kV))/\kvs.length<sizeLine/\H'=upd H a (.dT (putK kvs k v))
theorem Zfk.k {H:Hp}{a:Addr}{kvs:List (Key×V)}{k:Key} (e:H a=some (.dK kvs)):Zfk H a (kV k) (ZcT kvs k):=.inl ⟨kvs,k,.inl e,rfl,rfl⟩
theorem ZhY.k {H:Hp}{a:Addr}{kvs:List (Key×V)}{k:Key}{v:V} (e:H a=some (.dK kvs)) (hl:kvs.length<sizeLine):ZhY H a (kV k) v (upd H a (.dK (putK kvs k v))):=.inl ⟨kvs,k,e,rfl,hl,rfl⟩
section
variable {X:Cx}{pins:List (Addr×Obj)}{σ:St}{H:Hp}{s:Shared}{a:Addr}{y v:V}{u r:Value}{o:Option V}{A:Around}{E:Value->Shared->Prop}
theorem Inv.big (I:Inv X pins σ H s):sysModules<s.heap.objs.size:=by
 have h:mainGlobals<s.heap.objs.size:=(I.mod.glob.keeps I.bk).lt
 exact Nat.lt_trans (by decide) h
theorem Zoq {Q:Value->Shared->Prop} (hu:A.units+1<cLine) (I:Inv X pins σ H s) (g:Zfk H a y (some v)) (ry:RelV y u) (h:∀w' s',Inv X pins σ H s'->RelV v w'->Q w' s') :
  wpAny (model X.prog X.w) A (getItem (.ref a) u) Q E s:=by
 rcases g with⟨kvs,k,e,ey,l⟩|⟨kvs,k,b,e,ey,eb,l⟩
 ·subst ey
  obtain⟨z,hd,vs,rel,dd⟩:=Zk4 I.hok e
  obtain⟨w',hw,rw'⟩:=Zg6.some_of (v:=v) (o:=valueAt vs k) (by rw[l];exact rel.val k)
  exact wpAny_getItem_of (Zjq ry) dd.mapOf hw (h w' _ (I.tok _) rw')
 ·subst ey
  cases(show u=Value.ref b from ry)
  obtain⟨z,hd,xs,rel,dd⟩:=Zk5 I.hok e
  obtain⟨w',hw,rw'⟩:=Zg6.some_of (v:=v) (o:=(atKey xs k).map (·.2)) (by rw[l];exact rel.val k)
  obtain⟨p,hp,hp2⟩:=Option.map_eq_some_iff.mp hw
  refine wpAny_getItem_heap (tupleKind_room_in1 hu) (Zj4 I.hok eb) dd hp ?_
  rw[hp2]
  exact h w' _ (I.tok _) rw'
theorem d_in {Q:Value->Shared->Prop} (hu:A.units+1<cLine) (I:Inv X pins σ H s) (g:Zfk H a y o) (ry:RelV y u) (h:∀s',Inv X pins σ H s'->Q (.bool o.isSome) s') :
  wpAny (model X.prog X.w) A (compareOp .In u (.ref a)) Q E s:=by
 rcases g with⟨kvs,k,e,ey,l⟩|⟨kvs,k,b,e,ey,eb,l⟩
 ·subst ey
  obtain⟨z,hd,vs,rel,dd⟩:=Zk4 I.hok e
  refine wpAny_in_of (Zjq ry) hd dd.mapOf ?_
  rw[<-(rel.val k).Zgl,<-l]
  exact h _ (I.tok _)
 ·subst ey
  cases(show u=Value.ref b from ry)
  obtain⟨z,hd,xs,rel,dd⟩:=Zk5 I.hok e
  refine wpAny_in_heap (tupleKind_room_in1 hu) (Zj4 I.hok eb) hd dd ?_
  have q:=(rel.val k).Zgl
  rw[Option.isSome_map]at q
  rw[<-q,<-l]
  exact h _ (I.tok _)
theorem Zhk {h':Heap}{t':Nat}{ob:HO} (I:Inv X pins σ H s) (mu:Mut (H a)) (hs:Heap.SameBut a s.heap h') (he:∃q,h'.get? a=some q) (new:ZZ X.prog X.w (upd H a ob) h' a ob) :
  Inv X pins σ (upd H a ob) {s with heap:=h',toks:=t'} :=
 I.write (x:=a) (e:=a) mu (.inl rfl) (λb q hb z=>(hs.2 b hb).trans z) he new
theorem Zmr {P:Program}{w:World}{H':Hp}{h':Heap}{kvs:List (Key×V)}{vs:List (Key×Value)} (z:kvs.length<=sizeLine) (hd:(a==sysModules)=false) (rel:KV kvs vs) (dd:h'.DictOf (Z7 P w) a vs) :
  ZZ P w H' h' a (.dK kvs):=⟨z,hd,vs,rel,dd⟩
theorem Zor {H':Hp}{Q:Unit->Shared->Prop} (hu:A.units+1<cLine) (I:Inv X pins σ H s) (g:ZhY H a y v H') (ry:RelV y u) (rv:RelV v r) (h:∀s',Inv X pins σ H' s'->Q () s') :
  wpAny (model X.prog X.w) A (setItem (.ref a) u r) Q E s:=by
 rcases g with⟨kvs,k,e,ey,l,eH⟩|⟨kvs,k,b,e,ey,eb,l,eH⟩
 ·subst ey eH
  obtain⟨z,hd,vs,rel,dd⟩:=Zny I.hok e
  have hz:vs.length<=sizeLine:=by rw[<-rel.length];exact z
  have hl:(putK kvs k v).length<=sizeLine:=by have:=Zef kvs k v;omega
  refine wpAny_setItem_pairs (hsz:=hz) (Zjq ry) dd λh' dd' hs=>h _ ?_
  have he:∃q,h'.get? a=some q:=let ⟨q,_,_,hq,_⟩:=dd';⟨q,hq⟩
  exact Zhk I (by rw[e];exact True.intro) hs he (Zmr hl hd (rel.put k rv) dd')
 ·subst ey eH
  cases(show u=Value.ref b from ry)
  obtain⟨z,hd,xs,rel,dd⟩:=dt_of I.hok e
  have hz:xs.length<=sizeLine:=by rw[<-Paired.length rel];exact z
  have hl:(putK kvs k v).length<=sizeLine:=by have:=Zef kvs k v;omega
  refine wpAny_setItem_heap (hsz:=hz) (tupleKind_room_in1 hu) (Zj4 I.hok eb) dd λh' dd' hs=>h _ ?_
  obtain⟨q,es,ep,hq,h2,h3,h4,_,h5⟩:=dd'
  refine Zhk I (by rw[e];exact True.intro) hs ⟨q,hq⟩ ⟨hl,hd,_,(rel.put k eb rv).keeps λc ys ec=>?_,q,es,ep,hq,h2,h3,h4,h5⟩
  rw[Zg (ne_of ec e (λz=>nomatch z))]
  exact ec
end
section
variable {X:Cx}{pins:List (Addr×Obj)}{σ:St}{H:Hp}{s:Shared}{a:Addr}{kvs:List (Key×V)}{k:Key}{u:Value}{A:Around}{E:Value->Shared->Prop}
theorem d_pop {v:V}{more:List Value}{Q:Value->Shared->Prop} (I:Inv X pins σ H s) (e:H a=some (.dK kvs)) (ry:RelV (kV k) u) (l:ZcT kvs k=some v) (hm:more=[]\/∃x,more=[x])
  (h:∀w' s',Inv X pins σ (upd H a (.dK (ZhV kvs k))) s'->RelV v w'->Q w' s'):wpAny (model X.prog X.w) A (call (.builtin "dict.pop") (.ref a::u::more)) Q E s:=by
 obtain⟨z,hd,vs,rel,dd⟩:=Zny I.hok e
 obtain⟨w',hw,rw'⟩:=Zg6.some_of (v:=v) (o:=valueAt vs k) (by rw[<-l];exact rel.val k)
 have hp:(keyPart u).isSome=true:=by
  cases k with
  |inl i=>obtain⟨t,q⟩:=(show ∃t,u=Value.int i t from ry);subst q;rfl
  |inr x=>obtain⟨t,q⟩:=(show ∃t,u=Value.str x t from ry);subst q;rfl
 have ha:argsOk "dict.pop" ⟨.ref a::u::more,[]⟩:=by
  rcases hm with q|⟨x,q⟩
  ·subst q;exact PySem.F.args_dict_pop_2 _ _
  ·subst q;exact PySem.F.args_dict_pop_3 _ _ _
 refine call_meetsIn PySem.F.slot_dict_pop dd.typeIs PySem.F.entry_dict_pop ha (meets_dict_pop_there (Z7 X.prog X.w) a (Zjq ry) more hm hp)
  ⟨vs,w',dd,by rw[<-rel.length];exact z,hw,λh' dd' hs=>h w' _ ?_ rw'⟩
 have he:∃q,h'.get? a=some q:=let ⟨q,_,_,hq,_⟩:=dd';⟨q,hq⟩
 exact Zhk I (by rw[e];exact True.intro) hs he (Zmr (Yo (Zqi kvs k) z) hd (rel.drop k) dd')
end
noncomputable def NoSl (i:Expr):Prop:=∀ov iv,subscripted i false ov iv=operate [ov,iv] (getItem ov iv)
theorem Zsi {prog:Program}{w:World}{A:Around}{E:Value->Shared->Prop}{s:Shared}{env:Env}{value slice:Expr}{pos:Pos}{T id:String}{Q:Value->Shared->Prop}
  (hl:typeLookup (.type T) "__getitem__"=pure (some (.builtin id))) (hs:NoSl slice)
  (h:wpAny (model prog w) A (eval value env) (λo s₁=>wpAny (model prog w) A (eval slice env) (λi s₂=>s₂.TypeIs o T/\wpAny (model prog w) A (getItem o i) Q E s₂) E s₁) E s) :
  wpAny (model prog w) A (eval (.Subscript value slice pos) env) Q E s:=by
 refine Subscript_ (Yy h (λo s₁ h₁=>Yy h₁ (λi s₂ h₂=>?_) λ_ _ x=>x) λ_ _ x=>x)
 obtain⟨hT,h₂⟩:=h₂
 unfold subscriptTail
 refine Ya ?_
 rw[getitemInPython_of_ne hT.not_modules]
 refine Ya (wpAny_specialOf hT hl ?_)
 have fin:wpAny (model prog w) A (subscripted slice false o i) (λr s₃=>wpAny (model prog w) A (letTemporaryGo value o r >>= λ_=>pure r) Q E s₃) E s₂:=by
  rw[hs o i]
  exact wpAny_operating (Yy h₂ (λr s₃ h₃=>Ya (wpAny_letTemporaryGo (Yc h₃))) λ_ _ x=>x)
 first
  |exact Yc (Ya fin)
  |exact Ya (Yc (Ya fin))
  |exact Ya fin
theorem Zk6 {X:Cx}{pins:List (Addr×Obj)}{σ:St}{H:Hp}{s:Shared}{a:Addr}{y:V}{o:Option V} (I:Inv X pins σ H s) (g:Zfk H a y o):s.TypeIs (.ref a) "dict":=by
 rcases g with⟨kvs,k,e,_,_⟩|⟨kvs,k,b,e,_,_,_⟩
 ·obtain⟨_,_,vs,_,dd⟩:=Zk4 I.hok e
  exact dd.typeIs
 ·obtain⟨_,_,xs,_,dd⟩:=Zk5 I.hok e
  exact dd.typeIs
noncomputable def Zqj (td ty:TE):TE:=fun σ H Q=>td σ H λx H1=>ty σ H1 λy H2=>∃a v,x=.ref a/\Zfk H2 a y (some v)/\Q v H2
noncomputable def tDIn (ty td:TE):TE:=fun σ H Q=>ty σ H λy H1=>td σ H1 λx H2=>∃a o,x=.ref a/\Zfk H2 a y o/\Q (.bl o.isSome) H2
noncomputable def Zqk (td ty tv:TE):TS:=λD σ H=>tv σ H λv H1=>td σ H1 λx H2=>ty σ H2 λy H3=>∃a H4,x=.ref a/\ZhY H3 a y v H4/\D.nx σ H4
section
variable {X:Cx}{o i e value:Expr}{pos pos' tpos:Pos}{td ty tv:TE}
theorem Zhl (hu:X.A.units+1<cLine) (ho:PE X o td) (hi:PE X i ty) (hs:NoSl i):PE X (.Subscript o i pos) (Zqj td ty):=by
 intro pins s σ H Q I h
 refine Zsi PySem.F.slot_dict_getitem.lookup hs (thn (ho pins s σ H _ I h) λu s1 ⟨x,H1,I1,rx,q1⟩=>thn (hi pins s1 σ H1 _ I1 q1) λiv s2 ⟨y,H2,I2,ry,a,v,ex,g,q2⟩=>?_)
 subst ex
 obtain rfl:u=Value.ref a:=rx
 exact⟨Zk6 I2 g,Zoq hu I2 g ry λw' s3 I3 rw'=>⟨v,H2,I3,rw',q2⟩⟩
theorem pc_din (hu:X.A.units+1<cLine) (hi:PE X i ty) (ho:PE X o td):PC X .In i o (tDIn ty td):=by
 intro pins s σ H Q I h
 refine thn (hi pins s σ H _ I h) λiv s1 ⟨y,H1,I1,ry,q1⟩=>thn (ho pins s1 σ H1 _ I1 q1) λu s2 ⟨x,H2,I2,rx,a,ov,ex,g,q2⟩=>?_
 subst ex
 obtain rfl:u=Value.ref a:=rx
 exact d_in hu I2 g ry λs3 I3=>⟨.bl ov.isSome,H2,I3,rfl,q2⟩
theorem Zhm (hu:X.A.units+1<cLine) (ho:PE X o td) (hi:PE X i ty) (hv:PE X value tv) (hs:swapsWith value (some (.Subscript o i pos')) pos.line X.env=pure false) :
  PS X (.Assign [.Subscript o i pos'] value pos) (Zqk td ty tv):=by
 intro pins s σ H D I h
 refine wpAny_Assign_Subscript (thn (hv pins s σ H _ I h) λr s1 ⟨v,H1,I1,rv,q1⟩=>thn (ho pins s1 σ H1 _ I1 q1) λu s2 ⟨x,H2,I2,rx,q2⟩=>thn (hi pins s2 σ H2 _ I2 q2) λiv s3 ⟨y,H3,I3,ry,a,H4,ex,g,q3⟩=>?_) hs
 subst ex
 obtain rfl:u=Value.ref a:=rx
 exact Zor hu I3 g ry rv λs4 I4=>⟨σ,H4,I4,q3⟩
end
theorem Zk7 {P:Program}{w:World}{H:Hp} (h:Heap) (hb:sysModules<h.objs.size):ZZ P w H (h.push {cls:=.type "dict",data:=.dict #[]}) h.objs.size (.dK []) :=
 ⟨Yr _,beq_eq_false_iff_ne.mpr (Ne.symm (Yp hb)),[],.nil,Heap.DictOf.new h⟩
noncomputable def Zms:TE:=λ_ H Q=>∀p,H p=none->Q (.ref p) (upd H p (.dK []))
section
variable {X:Cx}{pos:Pos}
theorem Zk8:PE X (.Dict [] [] pos) Zms:=λpins s σ H Q I h =>
 wpAny_Dict_empty ⟨.ref s.heap.objs.size,_,I.laid (a:=s.heap.objs.size) (o:=.dK []) (t':=s.toks) (λ_ _ q=>Yh _ q) (Ye _) (Zk7 s.heap I.big),rfl,h _ (I.hok.fresh (Ye _))⟩
end
noncomputable def Zj5:List (TE×TE)->St->Hp->(List (V×V)->Hp->Prop)->Prop
 |[],_,H,Q=>Q [] H
 |(tk,tv)::r,σ,H,Q=>tk σ H λx H1=>tv σ H1 λy H2=>Zj5 r σ H2 λps H3=>Q ((x,y)::ps) H3
noncomputable abbrev VV:List (V×V)->List (Value×Value)->Prop:=Paired λp q=>RelV p.1 q.1/\RelV p.2 q.2
noncomputable def PPs (X:Cx) (pos:Pos) (keys:List (Option Expr)) (values:List Expr) (trs:List (TE×TE)):Prop :=
 ∀(pins:List (Addr×Obj)) (s:Shared) (σ:St) (H:Hp) (Q:List (V×V)->Hp->Prop),Inv X pins σ H s->Zj5 trs σ H Q ->
  wpAny (model X.prog X.w) X.A (evalPairs (pairTrees keys values X.env pos)) (λvs s'=>∃ps H',Inv X pins σ H' s'/\VV ps vs/\Q ps H') X.xe s
theorem Zsj {X:Cx}{pos:Pos}:PPs X pos [] [] []:=λpins s σ H Q I h=>pairTrees_nil_walk ⟨[],H,I,.nil,h⟩
theorem Zql {X:Cx}{pos:Pos}{k v:Expr}{ks:List (Option Expr)}{vs:List Expr}{tk tv:TE}{trs:List (TE×TE)} (hk:PE X k tk) (hv:PE X v tv) (hr:PPs X pos ks vs trs) :
  PPs X pos (some k::ks) (v::vs) ((tk,tv)::trs):=λpins s σ H Q I h =>
 pairTrees_cons_walk (thn (hk pins s σ H _ I h) λu s1 ⟨x,H1,I1,rx,q1⟩=>thn (hv pins s1 σ H1 _ I1 q1) λw2 s2 ⟨y,H2,I2,ry,q2⟩ =>
  thn (hr pins s2 σ H2 _ I2 q2) λws s3 ⟨ps,H3,I3,rel,q3⟩=>⟨(x,y)::ps,H3,I3,.cons ⟨rx,ry⟩ rel,q3⟩)
noncomputable def Zgm (kvs more:List (Key×V)):List (Key×V):=more.foldl (λacc kv=>putK acc kv.1 kv.2) kvs
theorem KV.merge:∀{more:List (Key×V)}{rs:List (Key×Value)}{kvs:List (Key×V)}{vs:List (Key×Value)},KV more rs->KV kvs vs->KV (Zgm kvs more) (merged vs rs):=by
 intro more rs kvs vs r
 unfold KV at r
 induction r generalizing kvs vs with
 |nil=>intro q;exact q
 |@cons p q ps qs h t ih =>
  intro r0
  have e:KV (putK kvs p.1 p.2) (stored vs q.1 q.2):=by
   have:=r0.put p.1 h.2
   rw[<-h.1];exact this
  exact ih e
theorem Ze3:∀(more kvs:List (Key×V)),(Zgm kvs more).length<=kvs.length+more.length
 |[],kvs=>by show kvs.length<=kvs.length+0;omega
 |p::r,kvs=>by
  have h1:=Ze3 r (putK kvs p.1 p.2)
  have h2:=Zef kvs p.1 p.2
  show(Zgm (putK kvs p.1 p.2) r).length<=_
  rw[YR];omega
theorem ZhZ {P:Program}{w:World}:∀{kvs:List (Key×V)}{ws:List (Value×Value)},VV (kvs.map λkv=>(kV kv.1,kv.2)) ws->∃rs,Carries (Z7 P w) ws rs/\KV kvs rs
 |[],_,r=>by rw[List.map_nil]at r;cases r;exact⟨[],True.intro,.nil⟩
 |p::kvs,_,r=>by
  rw[YH]at r
  cases r with
  |@cons a b as bs h t =>
   obtain⟨rs,c,q⟩:=ZhZ (P:=P) (w:=w) t
   obtain⟨b1,b2⟩:=b
   exact⟨(p.1,b2)::rs,⟨Zjq h.1,rfl,c⟩,.cons ⟨rfl,h.2⟩ q⟩
noncomputable def tDisp (trs:List (TE×TE)):TE:=fun σ H Q=>∀p,H p=none->Zj5 trs σ (upd H p (.dK [])) λps H2=>H2 p=some (.dK [])/\∃kvs:List (Key×V),ps=kvs.map (λkv=>(kV kv.1,kv.2))/\kvs.length<=15/\Q (.ref p) (upd H2 p (.dK (Zgm [] kvs)))
theorem Zsk {X:Cx}{pos:Pos}{keys:List (Option Expr)}{values:List Expr}{trs:List (TE×TE)} (h:PPs X pos keys values trs) (hall:keys.all (·.isSome)=true) (hl:keys.length=values.length) (h0:keys≠[])
  (h15:keys.length<=15):PE X (.Dict keys values pos) (tDisp trs):=by
 intro pins s σ H Q I q
 have hn:=I.hok.fresh (Ye s.heap.objs.size)
 have I1:=I.laid (a:=s.heap.objs.size) (o:=.dK []) (h':=s.heap.push {cls:=.type "dict",data:=.dict #[]}) (t':=s.toks) (λ_ _ q=>Yh _ q) (Ye _) (Zk7 s.heap I.big)
 refine wpAny_Dict_walk (knd:=Z7 X.prog X.w) hall hl h0 h15 (thn (h pins _ σ _ _ I1 (q _ hn)) λws s2 ⟨ps,H2,I2,rel,e,kvs,ep,lk,q2⟩=>?_)
 subst ep
 obtain⟨rs,c,rk⟩:=ZhZ (P:=X.prog) (w:=X.w) rel
 obtain⟨z,hd,vs0,r0,dd⟩:=Zny I2.hok e
 cases r0
 refine⟨rs,c,dd,λh' dd' hs=>⟨.ref s.heap.objs.size,_,?_,rfl,q2⟩⟩
 have hz:(Zgm [] kvs).length<=sizeLine:=by
  have h1:=Ze3 kvs []
  rw[List.length_nil]at h1
  rw[sizeLine_eq];omega
 have he:∃q,h'.get? s.heap.objs.size=some q:=let ⟨q,_,_,hq,_⟩:=dd';⟨q,hq⟩
 exact Zhk I2 (by rw[e];exact True.intro) hs he (Zmr hz hd (rk.merge .nil) dd')
structure M1 (X:Cx) (o:Expr) (m:Str) (apos:Pos) (e:Expr) (cpos:Pos):Prop where
 base:attributeBase o m X.env (eval o X.env)=eval o X.env
 few:((backTo cpos (starEach [e] X.env)).all (λx=>!x.1)&&(backToKw cpos (keywordEach [] X.env)).all (λx=>x.1.isSome)
  && decide (([e]:List Expr).length+([]:List Keyword).length+(if ([]:List Keyword).isEmpty then 0 else 1)<30))=true
 line:(apos.endLine==cpos.line)=true
 trees:backTo cpos (starEach [e] X.env)=[(false,eval e X.env)]
noncomputable def IsD (H:Hp) (a:Addr):Prop:=(∃kvs,Rd H a (.dK kvs))\/∃kvs,Rd H a (.dT kvs)
theorem Zqm {X:Cx}{pins:List (Addr×Obj)}{σ:St}{H:Hp}{s:Shared}{a:Addr} (I:Inv X pins σ H s) (d:IsD H a) :
  s.TypeIs (.ref a) "dict"/\(∀b,Value.ref a=.ref b->∃ob,s.heap.get? b=some ob/\ob.dict=none)/\(a==sysModules)=false:=by
 rcases d with⟨kvs,e⟩|⟨kvs,e⟩
 ·obtain⟨_,hd,vs,_,dd⟩:=Zk4 I.hok e
  refine⟨dd.typeIs,λb q=>?_,hd⟩
  cases q
  obtain⟨ob,_,_,h1,h2,_⟩:=dd
  exact⟨ob,h1,h2.2.1⟩
 ·obtain⟨_,hd,xs,_,dd⟩:=Zk5 I.hok e
  refine⟨dd.typeIs,λb q=>?_,hd⟩
  cases q
  obtain⟨ob,_,_,h1,h2,_⟩:=dd
  exact⟨ob,h1,h2.2.1⟩
noncomputable def Zqn (td ty:TE):TE:=fun σ H Q=>td σ H λx H1=>∃a,x=.ref a/\IsD H1 a/\ty σ H1 λy H2=>∃kvs k v,H2 a=some (.dK kvs)/\y=kV k/\ZcT kvs k=some v/\Q v (upd H2 a (.dK (ZhV kvs k)))
section
variable {X:Cx}{o e f:Expr}{apos cpos:Pos}{td ty tx:TE}
theorem Zqo (ho:PE X o td) (he:PE X e ty) (m:M1 X o "pop" apos e cpos):PE X (.Call (.Attribute o "pop" apos) [e] [] cpos) (Zqn td ty):=by
 intro pins s σ H Q I h
 refine wpAny_Call_method m.base m.few m.line PySem.F.plainAttrs_dict PySem.F.slot_dict_pop PySem.F.type_dict_pop (thn (ho pins s σ H _ I h) λu s1 ⟨x,H1,I1,rx,a,ex,d,q1⟩=>?_)
 subst ex
 obtain rfl:u=Value.ref a:=rx
 obtain⟨t1,t2,_⟩:=Zqm I1 d
 refine⟨t1,t2,?_⟩
 rw[m.trees]
 refine Calls.callWith_builtin rfl (Calls.evalArgs_plain (Calls.spliced_cons (thn (he pins s1 σ H1 _ I1 q1) λiv s2 ⟨y,H2,I2,ry,kvs,k,v,ea,ey,l,q2⟩=>Calls.spliced_nil ?_)))
 subst ey
 exact d_pop I2 ea ry l (.inl rfl) λw' s3 I3 rw'=>⟨v,_,I3,rw',q2⟩
end
end L2
namespace L2
open PySem PySem.Spec PyProof.Rows PySem.W PySem.Calls
end L2
namespace L2
open PySem PySem.Spec PyProof.Rows PySem.W
section
variable {X:Cx}
noncomputable def Zqp (K:Frag):R2:=λx y H Q=>∃(a b:Addr) (xs ys:List V),x=.ref a/\y=.ref b/\SqL K H a xs/\SqL K H b ys/\xs.length+ys.length<=sizeLine/\∀p,H p=none->Q (.ref p) (upd H p (.lst (xs++ys)))
theorem Zsl {K:Frag} (hK:X.K=K):OpR X (binaryOp .Add) (Zqp K):=by
 subst hK
 intro pins s σ H x y v u Q I rx ry h
 obtain⟨a,b,xs,ys,rfl,rfl,ha,hb,hz,q⟩:=h
 cases rx
 cases ry
 obtain⟨its,r1,p1,_⟩:=I.list ha
 obtain⟨its2,r2,p2,_⟩:=I.list hb
 obtain⟨⟨c1,d1,x1,l1⟩,e1,k1,n1,y1⟩:=p1.isList
 obtain⟨⟨c2,d2,x2,l2⟩,e2,k2,n2,y2⟩:=p2.isList
 simp only at k1 y1 k2 y2
 subst k1 y1 k2 y2
 refine concat_meets ⟨_,e1,rfl⟩ ⟨_,e2,rfl⟩ noFill_list_add seq_list_add PySem.F.slot_list_add PySem.F.entry_list_add (PySem.F.args_list_add_2 _ _) (list_addW a b its.toArray its2.toArray n1 n2 d1 d2 l1 l2 (by rw[Yv,Yv,<-r1.length,<-r2.length];exact hz)) ⟨e1,e2,?_⟩
 have ea:its.toArray++its2.toArray=(its++its2).toArray:=by simp
 rw[ea]
 exact⟨.ref _,_,I.lnew (t':=s.toks) (r1.append r2) (by rw[YM];exact hz),rfl,q _ I.fresh⟩
end
noncomputable def sF (r:Addr) (f:Int) (t:Addr):List (Str×V):=putF "tree" (.ref t) (putF "first" (.int f) (putF "row" (.ref r) []))
noncomputable def up1 (e:Int):Int:=if e<0 then e else e+1
section
variable {X:Cx}
theorem Zos (hc:X.calm=true):ZaF X (.builtin "max") (λxs H Q=>∃(p:Addr) (ns:List Int),xs=[.ref p]/\SqL X.K H p (ns.map V.int)/\ns≠[]/\∀m,m∈ns->(∀a∈ns,a<=m)->Q (.int m) H):=by
 intro pins s σ H xs us Q I r h
 obtain⟨p,ns,rfl,hp,hne,q⟩:=h
 obtain⟨u,rfl,ru⟩:=r.one
 cases(show u=Value.ref p from ru)
 obtain⟨its,rv,pl,hz⟩:=I.list hp
 obtain⟨ys,e1,e2⟩:=ZjS rv
 have hsz:0<ys.size:=by
  have:=congrArg List.length e2
  rw[Yf,YQ]at this
  cases ns with
  |nil=>exact absurd rfl hne
  |cons=>simp at this;omega
 refine max_intList (xs:=ys) (I.ok.hd hc) (e1▸pl.isList) hsz λv h' tk hv k=>?_
 obtain⟨tq,rfl⟩:=intItems_at hv
 obtain⟨h1,h2⟩:=argBest_gt (numAt ys) (ys.size-1)
 refine⟨.int _,H,I.kept k,⟨tq,rfl⟩,q _ ?_ λa ha=>?_⟩
 ·rw[numAt_eq,e2];exact getD_mem (by rw[<-e2,Yf,YQ];omega)
 ·obtain⟨jq,hj,rfl⟩:=mem_getD ha
  rw[<-e2,Yf,YQ]at hj
  rw[<-e2,<-numAt_eq];exact h2 jq (by omega)
end
end L2
namespace L2
open PySem PySem.Spec PyProof.Rows PySem.W PySem.Calls
noncomputable def Zcu (h:Heap) (d:Addr) (vs:List Value) (ep:Nat):Prop:=∃(o:Obj) (es:Array DictEntry),h.get? d=some o/\o.cls=.type "dict"/\o.data=.dict es ep/\es.toList.map (·.val)=vs
theorem Zcu.moved {h h':Heap}{d:Addr}{vs:List Value}{ep:Nat} (x:Zcu h d vs ep) (k:∀o,h.get? d=some o->h'.get? d=some o):Zcu h' d vs ep :=
 let ⟨o,es,a,r⟩:=x;⟨o,es,k o a,r⟩
theorem Zcu.lt {h:Heap}{d:Addr}{vs:List Value}{ep:Nat} (x:Zcu h d vs ep):d<h.objs.size:=let ⟨_,_,a,_⟩:=x;Yk a
section
variable {prog:Program}{w:World}{A:Around}{E:Value->Shared->Prop}{s:Shared}{va dd ja:Addr}{vs:List Value}{ep i:Nat}
theorem Zot {Q:Value->Shared->Prop} (hv:s.heap.IsValuesView va dd) (hm:Zcu s.heap dd vs ep)
  (kQ:Q (.ref s.heap.objs.size) {s with heap:=s.heap.push {cls:=.type "dict_valueiterator",data:=.fields #[.ref dd,.int 0 0,.int vs.length 0,.int ep 0]}}) :
  wpAny (model prog w) A (pyIter (.ref va)) Q E s:=by
 obtain⟨o1,g1,c1,f1⟩:=id hv
 obtain⟨o2,es,g2,c2,f2,e2⟩:=id hm
 refine wpAny_pyIter_slot hv.typeIs PySem.F.slot_dict_values_iter (wpAny_call_entry PySem.F.slot_dict_values_iter hv.typeIs PySem.F.entry_dict_values_iter ?_ (PySem.F.args_dict_values_iter_1 _))
 unfold Builtin.«dict_values.__iter__»;refine Ya (Yc (Ya ?_));unfold Builtin.Dict_items.dictOf
 refine Ya (wpAny_field g1 f1 (x:=.ref dd) rfl (Yc (Ya ?_)))
 unfold Builtin.Dict_items.newIterator;refine Ya (wpAny_dictEntries g2 f2 (Ya (wpAny_dictEpoch g2 f2 ?_)))
 have z1:es.size=vs.length:=by rw[<-e2];simp
 have z2:Builtin.Dict_items.ownsTuple "dict_valueiterator"=false:=by decide
 simp only[z2,Bool.false_eq_true,if_false]
 refine wpAny_newObj_type (Yc ⟨_,rfl,"dict_valueiterator",_,⟨_,Yt _ rfl,rfl⟩,PySem.F.slot_dict_valueiterator_next.lookup,?_⟩)
 simpa[rawInt,z1]using kQ
theorem Zou {x:Value}{Q:Option Value->Shared->Prop} (hi:s.heap.IsValIter ja dd i vs.length ep) (hm:Zcu s.heap dd vs ep) (hx:vs[i]?=some x)
  (kQ:∀h',h'.IsValIter ja dd (i+1) vs.length ep->Heap.SameBut ja s.heap h'->Q (some x) {s with heap:=h'}):wpAny (model prog w) A (pyNext (.ref ja)) Q E s:=by
 obtain⟨o1,g1,c1,f1⟩:=id hi
 obtain⟨o2,es,g2,c2,f2,e2⟩:=id hm
 have z1:es.size=vs.length:=by rw[<-e2];simp
 have z2:Builtin.Dict_items.ownsTuple "dict_valueiterator"=false:=by decide
 have hl:i<es.size:=by
  rw[z1]
  exact(Yx.mp hx).1
 have hval:es[i].val=x:=by
  rw[<-e2,YL,Array.getElem?_toList,Array.getElem?_eq_getElem hl]at hx
  exact YN hx
 unfold pyNext
 refine Ya (wpAny_attempt (wpAny_callSpecial?_slot (name:=Str.ofString "__next__") hi.typeIs PySem.F.slot_dict_valueiterator_next (wpAny_call_entry PySem.F.slot_dict_valueiterator_next hi.typeIs PySem.F.entry_dict_valueiterator_next ?_ (PySem.F.args_dict_valueiterator_next_1 _))))
 refine Ya (Yc (Ya (Ya ?_)))
 first|refine Ya (wpAny_typeNameOfWhole_valiter hi.typeIs (Yc (Ya (wpAny_fieldsOf g1 f1 ?_))))|refine Ya (wpAny_typeNameOf_valiter hi.typeIs (Yc (Ya (wpAny_fieldsOf g1 f1 ?_))))
 simp only[z2,Bool.false_eq_true,if_false]
 show wpAny _ _ (if (Value.ref dd==Value.none)=true then _ else _) _ _ s
 rw[Yb (show ¬ ((Value.ref dd==Value.none)=true)from YK)]
 refine Ya (Yc (Ya (wpAny_dictEntries g2 f2 ?_)))
 rw[Yb (by rw[z1];simp)]
 refine Ya (Yc (Ya (wpAny_dictEpoch g2 f2 ?_)))
 rw[Yb (by simp)]
 refine Yc ?_
 simp only[show ¬ ((i:Int)<0)from by omega,if_false,Ys,Array.getElem?_eq_getElem hl]
 refine Ya ?_
 first|refine Ya (wpAny_typeNameOfWhole_valiter hi.typeIs (Yc (Ya (wpAny_isOneOf_valiter hi.typeIs ?_))))|refine Ya (wpAny_typeNameOf_valiter hi.typeIs (Yc (Ya (wpAny_isOneOf_valiter hi.typeIs ?_))))
 show wpAny _ _ (setField (.ref ja) 1 (rawInt ((i:Int)+1)) >>= _) _ _ s
 refine Ya (wpAny_setField g1 f1 (by simp) ?_)
 have g3:(s.heap.update ja (Obj.mapFields (·.setIfInBounds 1 (rawInt ((i:Int)+1))))).IsValIter ja dd (i+1) vs.length ep :=
  ⟨_,Heap.get?_update_self _ g1 (Obj.isFreed_of_fields (Obj.data_mapFields f1 _)),(Obj.cls_mapFields ..).trans c1,by rw[Obj.data_mapFields f1];simp[rawInt]⟩
 refine Ya (wpAny_holding (Ya (wpAny_isOneOf_valiter (s:={s with heap:=s.heap.update ja (Obj.mapFields (·.setIfInBounds 1 (rawInt ((i:Int)+1))))}) g3.typeIs ?_)))
 refine Ya (wpAny_isOneOf_valiter (s:={s with heap:=s.heap.update ja (Obj.mapFields (·.setIfInBounds 1 (rawInt ((i:Int)+1))))}) g3.typeIs ?_)
 show wpAny _ _ (pure es[i].val) _ _ _;exact Yc (Yc ⟨_,rfl,Yc (hval▸kQ _ g3 (Heap.SameBut.update ..))⟩)
theorem Zj6 {Q:Option Value->Shared->Prop} (nh:A.handled=none) (hi:s.heap.IsValIter ja dd i vs.length ep) (hm:Zcu s.heap dd vs ep) (hx:vs[i]?=none)
  (kQ:∀h',Heap.ExtBut ja s.heap h'->Q none {s with heap:=h'}):wpAny (model prog w) A (pyNext (.ref ja)) Q E s:=by
 obtain⟨o1,g1,c1,f1⟩:=id hi
 obtain⟨o2,es,g2,c2,f2,e2⟩:=id hm
 have z1:es.size=vs.length:=by rw[<-e2];simp
 have z2:Builtin.Dict_items.ownsTuple "dict_valueiterator"=false:=by decide
 unfold pyNext
 refine Ya (wpAny_attempt (wpAny_callSpecial?_slot (name:=Str.ofString "__next__") hi.typeIs PySem.F.slot_dict_valueiterator_next (wpAny_call_entry PySem.F.slot_dict_valueiterator_next hi.typeIs PySem.F.entry_dict_valueiterator_next ?_ (PySem.F.args_dict_valueiterator_next_1 _))))
 refine Ya (Yc (Ya (Ya ?_)))
 first|refine Ya (wpAny_typeNameOfWhole_valiter hi.typeIs (Yc (Ya (wpAny_fieldsOf g1 f1 ?_))))|refine Ya (wpAny_typeNameOf_valiter hi.typeIs (Yc (Ya (wpAny_fieldsOf g1 f1 ?_))))
 simp only[z2,Bool.false_eq_true,if_false]
 show wpAny _ _ (if (Value.ref dd==Value.none)=true then _ else _) _ _ s
 rw[Yb (show ¬ ((Value.ref dd==Value.none)=true)from YK)]
 refine Ya (Yc (Ya (wpAny_dictEntries g2 f2 ?_)))
 rw[Yb (by rw[z1];simp)]
 refine Ya (Yc (Ya (wpAny_dictEpoch g2 f2 ?_)))
 rw[Yb (by simp)]
 refine Yc ?_
 have ge:es.size<=i:=by rw[z1];simpa using hx
 simp only[show ¬ ((i:Int)<0)from by omega,if_false,Ys,Array.getElem?_eq_none ge]
 refine Ya ?_
 first|refine Ya (wpAny_typeNameOfWhole_valiter hi.typeIs (Yc ?_))|refine Ya (wpAny_typeNameOf_valiter hi.typeIs (Yc ?_))
 show wpAny _ _ (setField (.ref ja) 0 .none >>= _) _ _ s
 refine Ya (wpAny_setField g1 f1 (by simp) ?_)
 show wpAny _ _ (newExc (.type "StopIteration") [] >>= _) _ _ _;refine Ya ?_
 simp only[newExc,newTuple]
 refine Ya (wpAny_newObj_type ?_ (by size_fits));refine Ya (m:=firstArgMember _ _) (wpAny_of_eq (a:=Value.none) (by first|rfl|(simp only[firstArgMember];rfl)) (wpAny_newObj_type ?_ (by size_fits)))
 simp only[raiseNew]
 refine Ya (wpAny_handled ?_);rw[show A.in1.handled=none from nh]
 refine(Ya (Yc (wpAny_throw ?_)))
 refine Ya (wpAny_isInstance (b:=true) (T:="StopIteration") ⟨_,Yt _ rfl,rfl⟩ isSubtype_stop (Yc (kQ _ ?_)))
 exact((Heap.SameBut.update ..).extBut.push _).push _
theorem Zmt (nh:A.handled=none) (I dd:Addr) (hne:dd≠I) (vs:List Value) (ep:Nat) :
  Walks prog w A I [I,dd] [I] vs.length (λi x=>vs[i]?=some x) (λi h=>h.IsValIter I dd i vs.length ep/\Zcu h dd vs ep) where
 sub:=λb mb=>by simp at mb;simp[mb]
 frame:=λ_ _ _ st hk=>⟨let ⟨o,e,r⟩:=st.1;⟨o,hk I (by simp) o e,r⟩,st.2.moved λo e=>hk dd (by simp) o e⟩
 item:=λi s Q E hi st kQ=>by
  have hx:vs[i]?=some vs[i]:=Yi hi
  refine Zou st.1 st.2 hx λh' g1 g2=>?_
  exact kQ _ h' s.toks hx ⟨g1,st.2.moved λo e=>g2.extBut dd o hne e⟩ λb o mb e=>g2.extBut b o (λh=>mb (by simp[h])) e
 done:=λs Q E st kQ=>Zj6 nh st.1 st.2 (by simp) λh' he'=>kQ h' s.toks λb o mb e=>he' b o (λh=>mb (by simp[h])) e
 self:=λ_ _ _ _ st0 kQ=>wpAny_pyIter_valiter st0.1 kQ
theorem Zqq:KdlSrc prog w "dict_values" va dd vs.length (λi x=>vs[i]?=some x) (λh=>h.IsValuesView va dd/\Zcu h dd vs ep) where
 type:=λ_ x0=>x0.1.typeIs
 there:=λ_ hm=>⟨let ⟨_,a,_⟩:=hm.1;Yk a,hm.2.lt⟩
 keep:=λ_ _ hm hk=>⟨let ⟨o,a,x⟩:=hm.1;⟨o,hk va (.inl rfl) o a,x⟩,hm.2.moved λo e=>hk dd (.inr rfl) o e⟩
 notList:=by decide
 notTuple:=by decide
 hint:=λ_ _ _ _ x0 hq=>kdl_hint_values x0.1.typeIs hq
 iter:=λ_ _ nh hm=>⟨_,_,(λ_ _ hq=>Zot hm.1 hm.2 hq),Zmt nh _ dd (Yp hm.2.lt) vs ep,⟨⟨_,Yt _ rfl,rfl,rfl⟩,hm.2.moved λo e=>Yh _ e⟩⟩
end
section
variable {X:Cx}{o:Expr}{apos cpos:Pos}{td:TE}
noncomputable def Zfl (v d:Addr):Heap->Prop:=λh=>h.IsValuesView v d
theorem Zmu {prog:Program}{w:World} (dd:Addr) (hd:(dd==sysModules)=false) :
  MeetsIn prog w (Builtin.«dict.values» ⟨[.ref dd],[]⟩) (λ_ R s=>s.TypeIs (.ref dd) "dict" /\
   R (.ok (.ret (.ref s.heap.objs.size))) {s with heap:=s.heap.push {cls:=.type "dict_values",data:=.fields #[.ref dd]}}) :=
 .of_wp λA R s ⟨ht,h⟩=>by
  refine Ya ?_;unfold Builtin.Dict.noArgs
  refine Ya (wpAny_notOrdered_dict ht ?_)
  show wpAny _ _ (pure dd) _ _ s
  refine Yc ?_
  show wpAny _ _ (Builtin.Dict.showsAll dd >>= _) _ _ s
  unfold Builtin.Dict.showsAll;rw[Yb (show ¬ (dd==sysModules)=true from hd▸YK)]
  exact Ya (Yc (Ya (wpAny_newObj_type (Yc ⟨_,rfl,h⟩))))
end
end L2
namespace L2
open PySem PySem.Spec PyProof.Rows PySem.W
noncomputable def Zov (K:Frag) (f:Addr):Option Addr:=match K.lookup f with
 |some ⟨_,_,.func fd,_⟩=>(match fd.code with|.ref c=>some c|_=>none)
 |_=>none
noncomputable def tabOf (K:Frag) (c:Addr):Addr:=match K.lookup c with
 |some ⟨_,_,.fields vs,_⟩=>(match (vs[11]?:Option Value)with|some (.ref P)=>P|_=>0)
 |_=>0
noncomputable def Zh0 (K:Frag) (mg:Str->Option Value) (x:Str):Addr:=match mg x with
 |some (.ref f)=>(match Zov K f with|some c=>tabOf K c|none=>0)
 |_=>0
noncomputable def Zh1 (q:Str):HO:=.tbl #[.str q 0]
noncomputable def BM (mg:Str->Option Value) (base:Heap):Prop :=
 ∃bm o,mg "__builtins__"=some (.ref bm)/\bm≠builtinsNs/\bm≠mainGlobals/\base.get? bm=some o/\o.cls=.type "module"/\o.dict=some builtinsNs/\o.data=.plain
noncomputable def Zk9 (env:Env) (P:Addr) (q:Str) (params:Arguments) (body:Expr) (scope:Scope) (H:Hp) (f:Addr):Prop :=
 ∃c oc vs t cl pm ctv,H f=some (.frz (kla_obj "<lambda>" q params body scope cl pm c ctv) (.own f))/\H c=some (.frz oc (.own P))/\oc.data=.fields vs/\vs[1]?=some (.str q t) /\
  (∀x c,cl.lookup x=some c->env.cells.lookup x=some c)/\(∀y∈scope.names,y.2=.free->∃c,cl.lookup y.1=some c/\env.cells.lookup y.1=some c)
theorem Zk9.same {env:Env}{P:Addr}{q:Str}{params:Arguments}{body:Expr}{scope:Scope}{H H':Hp}{f:Addr} (h:Zk9 env P q params body scope H f) (s:Ze H H'):Zk9 env P q params body scope H' f:=by
 obtain⟨c,oc,vs,t,cl,pm,ctv,e1,e2,r⟩:=h
 exact⟨c,oc,vs,t,cl,pm,ctv,s _ _ e1,s _ _ e2,r⟩
structure LamIn (X:Cx) (P:Addr) (q:Str):Prop where
 code:∃c,X.env.code=.ref c/\codeHdIn X.K c P=true
 bm:BM X.mg X.base
 ql:X.env.qual++"<lambda>"=q
theorem Zmv {pos:Pos}{a b:Int}{c cv:Value}:∀(l:List Value),TriplesOk l->codeAmong pos (l++[rawInt a,rawInt b,c])=some cv->codeAmong pos l=some cv\/cv=c:=by
 intro l h e
 fun_induction TriplesOk l with
 |case1 =>
  simp only[List.nil_append,codeAmong,rawInt]at e
  split at e
  ·cases e;exact .inr rfl
  ·cases e
 |case2 a' t b' u x rest ih =>
  simp only[List.cons_append,codeAmong]at e⊢
  split at e
  ·rename_i hc;rw[Yd hc];exact .inl e
  ·rename_i hc;rw[Yb hc];exact ih h e
 |case3 l h1 h2=>exact h.elim
section
variable {X:Cx}
theorem Inv.lam {pins:List (Addr×Obj)}{σ:St}{H:Hp}{s:Shared}{h':Heap}{t':Nat}{P c f:Addr}{q:Str}{oc fo:Obj}{ts:Array Value}{vs:Array Value}{tq:Tok}
  (I:Inv X pins σ H s) (hP:H P=some (Zh1 q)) (k:∀b o,b≠P->s.heap.get? b=some o->h'.get? b=some o) (hts:h'.get? P=some (tabObj ts)) (h3:TriplesOk ts.toList)
  (hc:H c=some (.frz oc (.own P))\/s.heap.objs.size<=c) (hcP:c≠P) (hoc:h'.get? c=some oc) (hd:oc.data=.fields vs) (hv:vs[1]?=some (.str q tq)) (hf:s.heap.objs.size<=f) (hfc:f≠c) (hfo:h'.get? f=some fo)
  (hcodes:∀pos cv,codeAmong pos ts.toList=some cv->cv=.ref c\/∃c2 oc vs t t',cv=.ref c2/\H c2=some (.frz oc (.own P))/\oc.data=.fields vs/\vs[1]?=some (.str q t)/\t'=(0:Tok)) :
  Inv X pins σ (upd (upd H c (.frz oc (.own P))) f (.frz fo (.own f))) {s with heap:=h',toks:=t'}:=by
 have hPlt:P<s.heap.objs.size:=I.hok.lt hP
 have hfP:f≠P:=λz=>by rw[z]at hf;exact absurd (YG hPlt hf) (YO _)
 have hfn:H f=none:=I.hok.fresh hf
 have up:∀b o,H b=some o->upd (upd H c (.frz oc (.own P))) f (.frz fo (.own f)) b=some o:=λb o e=>by
  have nf:b≠f:=Zy e hfn
  rw[Zg nf]
  rcases hc with hc|hc
  ·by_cases z:b=c
   ·subst z;rw[Zb,<-e,hc]
   ·rw[Zg z];exact e
  ·rw[Zg (Zy e (I.hok.fresh hc))];exact e
 have un:Un X.fs [] H (upd (upd H c (.frz oc (.own P))) f (.frz fo (.own f))) s.heap h':=by
  have nP:∀b,H b=none->b≠P:=λb n z=>by rw[z,hP]at n;cases n
  refine⟨λb o e n _ _=>k b o (nP b n) e,λb o e n _ _=>⟨o.slots,k b o (nP b n) e⟩,λb o e n _=>?_,λb o e _=>?_,λb xs e=>up _ _ e,λb o u e=>up _ _ e,λb ps e=>⟨#[],by rw[up _ _ e];simp⟩⟩
  ·have lt:=Yk e
   have nf:b≠f:=λz=>by rw[z]at lt;exact absurd (YG lt hf) (YO _)
   have nc:b≠c:=λz=>by
    rcases hc with hc|hc
    ·rw[z,hc]at n;cases n
    ·rw[z]at lt;exact absurd (YG lt hc) (YO _)
   rw[Zg nf,Zg nc];exact n
  ·by_cases z:b=P
   ·subst z;exact⟨_,hts⟩
   ·exact⟨o,k b o z e⟩
 refine I.un un λb o e=>?_
 by_cases zf:b=f
 ·subst zf
  rw[Zb]at e;cases e
  exact⟨hfo,_,hfo⟩
 rw[Zg zf]at e
 by_cases zc:b=c
 ·subst zc
  rw[Zb]at e;cases e
  exact⟨hoc,_,hoc⟩
 rw[Zg zc]at e
 by_cases zP:b=P
 ·subst zP
  rw[hP]at e;cases e
  refine⟨ts,hts,h3,λpos cv hcv=>?_⟩
  rcases hcodes pos cv hcv with rfl|⟨c2,oc2,vs2,t2,t2',e1,e2,e3,e4,_⟩
  ·exact⟨c,oc,vs,q,0,tq,rfl,by rw[Zg (Ne.symm hfc),Zb],hd,rfl,hv⟩
  ·exact⟨c2,oc2,vs2,q,0,t2,e1,up _ _ e2,e3,rfl,e4⟩
 ·refine(I.hok b o e).Zfz (λb2 u hb z=>k b2 u ?_ z) (λb2 z=>up _ _ z) (λb2 xs z=>up _ _ z) λb2 o2 u2 z=>up _ _ z
  rcases hb with rfl|hb
  ·exact zP
  ·intro z;rw[z,hP]at hb;cases hb
noncomputable def tLam (env:Env) (P:Addr) (q:Str) (params:Arguments) (body:Expr) (scope:Scope):TE:=λ_ H Q=>H P=some (Zh1 q)/\∀f H',H f=none->Ze H H'->Zk9 env P q params body scope H' f->Q (.ref f) H'
theorem Zqr {P:Addr}{q:Str}{params:Arguments}{body:Expr}{scope:Scope}{pos:Pos} (L:LamIn X P q) (hok:compOk X.env.scope scope=true) (hdef:defaultsOf params X.env=([],[]):=by rfl) :
  PE X (.Lambda params body scope pos) (tLam X.env P q params body scope):=by
 intro pins s σ H Q I h
 obtain⟨hP,h⟩:=h
 obtain⟨c0,hc0,hcd⟩:=L.code
 have C:CodeHd s.heap c0 P:=codeHd_of_K I.kIn hcd
 obtain⟨bm,ob,b1,b2,b3,b4,b5,b6,b7⟩:=L.bm
 have hbm:=I.bs bm ob b4
 have bP:bm≠P:=λz=>by rw[z,hP]at hbm;cases hbm.2
 have gP:mainGlobals≠P:=λz=>by
  obtain⟨o,es,ep,e,_⟩:=I.ok.mod.glob
  have:=(I.bs _ _ e).2
  rw[z,hP]at this;cases this
 have hg:s.heap.Ns mainGlobals X.mg:=I.ok.mod.glob.keeps I.bk
 have hb:s.heap.BuiltinsAt X.mg P:=⟨bm,ob,b1,b2,b3,bP,hbm.1,b5,b6,b7⟩
 obtain⟨ts,hts,h3,hco⟩:=I.hok P _ hP
 obtain⟨cl,hcl,up,hfr⟩:=Zfi (env:=X.env) (scope:=scope) λy hy hf=>I.ok.has y.1 ((ZbO hok y hy hf).elim (λz=>.inl z) λz=>.inr z)
 have hco':∀pos cv,codeAmong pos ts.toList=some cv->∃c2 oc vs t t',cv=.ref c2/\H c2=some (.frz oc (.own P))/\oc.data=.fields vs/\vs[1]?=some (.str q t)/\t'=(0:Tok):=λpos cv e=>by
  obtain⟨c,oc,vs,q',t,t',e1,e2,e3,e4,e5⟩:=hco pos cv e
  have e4':some (Value.str q (0:Tok))=some (Value.str q' t):=e4
  cases e4'
  exact⟨c,oc,vs,t',0,e1,e2,e3,e5,rfl⟩
 refine kla_eval hdef ?_
 rw[L.ql]
 cases hca:codeAmong pos ts.toList with
 |some cv =>
  obtain⟨c,oc,vs,tq,t',rfl,e2,e3,e4,_⟩:=hco' pos cv hca
  refine kla_makeFunctionHit (mg:=X.mg) hcl I.ok.glob hg hc0 C hts h3 hca hb λctv h' tk hk hsz=>?_
  have hoc:s.heap.get? c=some oc:=(I.hok c _ e2).1
  have hcP:c≠P:=λz=>by rw[z,hP]at e2;cases e2
  have lt:=Yk hoc
  have kk:∀b o,s.heap.get? b=some o->(h'.push {cls:=.type "function",data:=.func (kla_fn "<lambda>" q params body scope cl ((X.mg "__name__").getD .none) (.ref c) ctv)}).get? b=some o:=λb o e=>Yh _ (hk b o e)
  have J:=I.lam (t':=tk) (f:=h'.objs.size) hP (λb o _ e=>kk b o e) (kk _ _ hts) h3 (.inl e2) hcP (kk _ _ hoc) e3 e4 hsz (λz=>by rw[<-z]at lt;exact absurd (YG lt hsz) (YO _)) (Yt _ rfl) λp2 cv2 z=>.inr (hco' p2 cv2 z)
  have hfn:H h'.objs.size=none:=I.hok.fresh hsz
  have ne:c≠h'.objs.size:=Yp (YG lt hsz)
  refine⟨.ref h'.objs.size,_,J,rfl,h _ _ hfn (λb o e=>?_) ⟨c,oc,vs,tq,cl,_,ctv,Zb,by rw[Zg ne,Zb],e3,e4,up,hfr⟩⟩
  rw[Zg (Zy e hfn)]
  by_cases z:b=c
  ·subst z;rw[Zb,<-e,e2]
  ·rw[Zg z];exact e
 |none =>
  refine kla_makeFunction (mg:=X.mg) hcl I.ok.glob hg hc0 C hts h3 hca gP hb λc ctv h' tk hx hge hlt hrec htb=>?_
  obtain⟨c2,oc,vs,tq,e2,hoc,e3,e4⟩:=hrec
  cases e2
  have hsz:s.heap.objs.size<=h'.objs.size:=Yo hge (Y6 hlt)
  have kk:∀b o,h'.get? b=some o->(h'.push (kla_obj "<lambda>" q params body scope cl ((X.mg "__name__").getD .none) c ctv)).get? b=some o:=λb o e=>Yh _ e
  have hPlt:P<s.heap.objs.size:=I.hok.lt hP
  have hcP:c≠P:=λz=>by rw[z]at hge;exact absurd (YG hPlt hge) (YO _)
  have tl:(ts++#[rawInt pos.line,rawInt pos.col,Value.ref c]).toList=ts.toList++[rawInt pos.line,rawInt pos.col,Value.ref c]:=by simp
  have J:=I.lam (t':=tk) (f:=h'.objs.size) (ts:=ts++#[rawInt pos.line,rawInt pos.col,.ref c]) hP (λb o nb e=>kk b o (hx b o nb e)) (kk _ _ htb) (by rw[tl];exact TriplesOk_snoc _ _ _ _ h3) (.inr hge) hcP (kk _ _ hoc) e3 e4 hsz (Nat.ne_of_gt hlt) (Yt _ rfl) λp2 cv2 z=>by
   rw[tl]at z
   rcases Zmv ts.toList h3 z with y|y
   ·exact .inr (hco' p2 cv2 y)
   ·exact .inl y
  have hfn:H h'.objs.size=none:=I.hok.fresh hsz
  have hcn:H c=none:=I.hok.fresh hge
  refine⟨.ref h'.objs.size,_,J,rfl,h _ _ hfn (λb o e=>?_) ⟨c,oc,vs,tq,cl,_,ctv,Zb,by rw[Zg (Yp hlt),Zb],e3,e4,up,hfr⟩⟩
  rw[Zg (Zy e hfn),Zg (Zy e hcn)];exact e
end
noncomputable def Zjs (X:Cx) (A':Around) (Nc:List Str) (q:Str) (scope:Scope) (cl:List (Str×Addr)) (L f c:Addr) (s:Shared) (H:Hp):Cx where
 prog:=X.prog
 w:=X.w
 K:=X.K
 mg:=X.mg
 base:=X.base
 A:=A'.deeper (envX q scope L f (.ref c) cl)
 N:=Nc
 s₀:=s
 H₀:=H
 env:=envX q scope L f (.ref c) cl
 outer:=X.stack
 stack:=envX q scope L f (.ref c) cl::X.stack
 ex:=[]
 fn:=λ_=>false
 calm:=X.calm
 pn:=[]
 xe:=λ_ _=>False
section
variable {X:Cx}
theorem Zow {pins:List (Addr×Obj)}{σ:St}{H:Hp}{s:Shared}{A':Around}{Nc:List Str}{js:List (Option Nat)}{q pn:Str}{scope:Scope}{cl:List (Str×Addr)}{h1:Heap}{tk:Nat}{f c:Addr}{v:V}{u:Value}
  (I:Inv X pins σ H s) (hA:A'.frames=some X.stack) (hh:X.calm=true->A'.handled=none) (hok:compOk X.env.scope scope=true) (htk:takesC X.N Nc scope js 0=true) (hp0:Nc[0]?=some pn) (hj0:js[0]?=some none) (hpl:scope.names.lookup pn=some .local)
  (up:∀x c,cl.lookup x=some c->X.env.cells.lookup x=some c) (hfr:∀y∈scope.names,y.2=.free->∃c,cl.lookup y.1=some c/\X.env.cells.lookup y.1=some c)
  (r:RelV v u) (old:∀b o,s.heap.get? b=some o->h1.get? b=some o) (hns:h1.Ns s.heap.objs.size λy=>[(pn,u)].reverse.lookup y) :
  Inv (Zjs X A' Nc q scope cl s.heap.objs.size f c s H) [] ((Z3 js σ).set 0 (some v)) H {s with heap:=h1,toks:=tk}:=by
 have noA:∀b:Addr,b∉(Zjs X A' Nc q scope cl s.heap.objs.size f c s H).ex:=λb z=>absurd (show b∈([]:List Addr)from z) (by simp)
 have kf:∀x,((envX q scope s.heap.objs.size f (.ref c) cl).kindOf x=some .cell\/(envX q scope s.heap.objs.size f (.ref c) cl).kindOf x=some .free)->∃c,cl.lookup x=some c:=λx hx=>by
  rcases hx with z|z
  ·exact absurd rfl (ZbN hok _ (lookup_mem (show scope.names.lookup x=some .cell from z)))
  ·obtain⟨c,q,_⟩:=hfr _ (lookup_mem (show scope.names.lookup x=some .free from z)) rfl
   exact⟨c,q⟩
 refine⟨⟨I.ok.mod,ZbM hok,rfl,rfl,Ye _,λx y c e1 e2=>I.ok.inj x y c (up _ _ e1) (up _ _ e2),λx hx=>kf x hx,(λx c e=>nomatch e),hh,Around.frames_deeper hA,.inr ⟨rfl,rfl⟩,λb z=>absurd z (noA b),I.bs,Yo I.ok.bsz I.sz,λb _ _=>noA b,λb z=>absurd z (noA b),I.stack,I.Zhg⟩,
  rfl,I.bare,Un.kept old,⟨_,hns,λi x v' e1 e2 e3=>?_⟩,λx c e=>?_,I.hok.fresh (Ye _),λx c e=>I.freeC x c (up _ _ e),λp hp=>absurd (show p∈([]:List (Addr×Obj))from hp) (by simp),I.hok.kept old,?_⟩
 ·by_cases hi:i=0
  ·subst hi
   have ex:x=pn:=YN ((show Nc[0]?=some x from e1).symm.trans hp0)
   subst ex
   have hl:0<(Z3 js σ).length:=by
    unfold Z3
    rw[Yf]
    exact(Yx.mp hj0).1
   rw[List.getElem?_set_self hl]at e2
   cases e2
   exact⟨u,r,.inl ⟨hpl,by simp⟩⟩
  ·rw[List.getElem?_set_ne (Ne.symm hi)]at e2
   have e2':(Z3 js σ)[i]?=some (some v'):=e2
   unfold Z3 at e2'
   rw[YL]at e2'
   cases hq:js[i]? with
   |none=>rw[hq]at e2';cases e2'
   |some j0 =>
    cases j0 with
    |none=>rw[hq]at e2';cases e2'
    |some j =>
     rw[hq]at e2'
     simp only[Option.map_some,Option.some.injEq]at e2'
     have e4:σ[j]?=some (some v'):=by
      cases z:σ[j]? with
      |none=>rw[z]at e2';cases e2'
      |some o=>rw[z]at e2';simp only[Option.join_some]at e2';rw[e2']
     obtain⟨y,y1,y2,y3⟩:=ZeQ htk hq
     rw[Nat.zero_add]at y1
     have:x=y:=YN ((show Nc[i]?=some x from e1).symm.trans y1)
     subst this
     have hm:=lookup_mem y3
     obtain⟨c1,h1',h2'⟩:=hfr _ hm rfl
     have hk:=ZbO hok _ hm rfl
     obtain⟨m0,hn0,hl0⟩:=I.loc
     obtain⟨u',r',l⟩:=hl0 j x v' y2 e4 (hk.elim (λz=>.inr (.inl z)) λz=>.inr (.inr z))
     refine⟨u',r',.inr ⟨.inr y3,c1,h1',?_⟩⟩
     rcases l with⟨lk,_⟩|⟨_,c',c3,c4⟩
     ·rcases hk with z|z
      ·rw[show X.env.kindOf x=some .cell from z]at lk;cases lk
      ·rw[show X.env.kindOf x=some .free from z]at lk;cases lk
     ·rw[h2']at c3;cases c3
      obtain⟨oc,w1,w2⟩:=c4
      exact⟨oc,old _ _ w1,w2⟩
 ·obtain⟨v,oc,w1,w2⟩:=I.cell x c (up _ _ e)
  exact⟨v,oc,old _ _ w1,w2⟩
 ·show((Z3 js σ).set 0 (some v)).length=Nc.length
  unfold Z3
  have:=Zdw htk
  rw[List.length_set,Yf]
  omega
structure LamSc (X:Cx) (Nc:List Str) (js:List (Option Nat)) (params:Arguments) (body:Expr) (scope:Scope) (pn:Str):Prop where
 ok:compOk X.env.scope scope=true
 tk:takesC X.N Nc scope js 0=true
 p0:Nc[0]?=some pn
 j0:js[0]?=some none
 pl:scope.names.lookup pn=some .local
 co:scope.isCoroutine=false
 gen:scope.isGenerator=false
 bd:∀(q:Str) (cl:List (Str×Addr)) (pm cd ctv u:Value),bindArgs (kla_fn "<lambda>" q params body scope cl pm cd ctv) ⟨[u],[]⟩=pure [(pn,u)]
theorem Zla {pins:List (Addr×Obj)}{σ:St}{H:Hp}{s:Shared}{A':Around}{Nc:List Str}{js:List (Option Nat)}{q pn:Str}{params:Arguments}{body:Expr}{scope:Scope}{P f:Addr}{v:V}{u:Value}{tb:TE}{Q:VK}{E:Value->Shared->Prop}
  (S:LamSc X Nc js params body scope pn) (hbody:∀cl L f c s H,PE (Zjs X A' Nc q scope cl L f c s H) body tb) (I:Inv X pins σ H s) (hA:A'.frames=some X.stack) (hh:X.calm=true->A'.handled=none) (hroom:A'.depth<recursionLimit) (L:Zk9 X.env P q params body scope H f)
  (r:RelV v u) (h:tb ((Z3 js σ).set 0 (some v)) H Q):wpAny (model X.prog X.w) A' (call (.ref f) [u]) (EP X pins σ Q) E s:=by
 obtain⟨c,oc,vs,t,cl,pm,ctv,e1,e2,e3,e4,up,hfr⟩:=L
 have hfo:=(I.hok f _ e1).1
 have hoc:=(I.hok c _ e2).1
 refine wpAny_call (codeAny_mono (R:=λr s'=>∃u',r=.ok (.ret u')/\EP X pins σ Q u' s') (kla_callFunE hroom hfo rfl S.co S.gen rfl ⟨c,oc,vs,t,rfl,hoc,e3,e4⟩ ?_) λr s' ⟨u',hr,z⟩=>by subst hr;exact z)
 show wpAny _ _ (bindArgs (kla_fn "<lambda>" q params body scope cl pm (.ref c) ctv) ⟨[u],[]⟩) _ _ _
 rw[S.bd]
 refine Yc (wpAny_newFunctionEnv (λx hx=>ZbN S.ok x hx) (λx hx=>?_) (λh₁ hns hsb=>⟨I.nolimit.fresh _ hsb,?_⟩) (ZbM S.ok))
 ·have:x=(pn,u):=by simpa using hx
  subst this;exact S.pl
 show codeAny _ _ (.expr body (envX q scope s.heap.objs.size f (.ref c) cl)) _ _
 have old:∀b o,s.heap.get? b=some o->h₁.get? b=some o:=λb o e=>hsb.extBut b o (Yp (Yk e)) (Yh _ e)
 have J:=Zow (q:=q) (f:=f) (c:=c) (tk:=s.toks+[(pn,u)].length) I hA hh S.ok S.tk S.p0 S.j0 S.pl up hfr r old hns
 refine kla_codeExpr (Yy (hbody cl _ f c s H [] _ _ H Q J h) (λv' s' ⟨x,H',J',r',q'⟩=>⟨v',rfl,x,H',?_,r',q'⟩) λ_ _ z=>z.elim)
 exact I.Zpy (ch:=[]) J'.os J'.base J'.hok J'.bare λb z=>absurd z (by simp)
end
section
variable {prog:Program}{w:World}{A:Around}{E:Value->Shared->Prop}{s:Shared}
noncomputable def Zqs (b:Bool) (st:SortSt):Array Value:=if b then ((arrOf st).map (·.2)).reverse else (arrOf st).map (·.2)
noncomputable def Zmw (h:Heap) (kS a:Addr) (out:Array Value):Heap:=(h.update kS (Obj.mapSeq λ_=>(#[]:Array Value))).update a (Obj.mapSeq λ_=>out)
theorem Zsm {a kS:Addr}{b:Bool}{e e1:Nat}{keys:Array Value}{st:SortSt}{R:PySem.Fin->Shared->Prop} (ok:s.heap.get? kS=some (seqObj "list" keys e)) (oa:s.heap.get? a=some (seqObj "list" #[] e1)) (ne:a≠kS) (z1:keys.size<=1000) (z2:(arrOf st).size<=1000) (hf:failedOf st=none)
  (h:R (.done (.ret .none)) {s with heap:=Zmw s.heap kS a (Zqs b st)}):wpAny (model prog w) A (ksk_tail a b e1 (.ref kS) st) R E s:=by
 have oa1:(s.heap.update kS (Obj.mapSeq λ_=>(#[]:Array Value))).get? a=some (seqObj "list" #[] e1):=(Heap.get?_update_ne _ _ _ _ ne).trans oa
 have zo:(Zqs b st).size<=sizeLine+1:=by
  unfold Zqs
  cases b
  ·rw[Yb YK,Array.size_map];exact Nat.le_succ_of_le (Yo z2 (by decide))
  ·rw[Yd rfl,Array.size_reverse,Array.size_map];exact Nat.le_succ_of_le (Yo z2 (by decide))
 unfold ksk_tail
 dsimp only
 refine Ya (listUpdate_at ok rfl (Ya (wpAny_letGo (Ya (seqEpoch_at oa1 rfl (Ya (listUpdate_at oa1 rfl ?_ (Yr _) zo)))))) (Yo z1 (by decide)) (Yr _))
 rw[hf]
 simp only[bne_self_eq_false,Bool.false_eq_true,if_false]
 exact Yc h
theorem sk_end {a kS:Addr}{b:Bool}{e e1:Nat}{keys:Array Value}{vs:List Value}{kz:List Int}{R:PySem.Fin->Shared->Prop} (ok:s.heap.get? kS=some (seqObj "list" keys e)) (oa:s.heap.get? a=some (seqObj "list" #[] e1)) (ne:a≠kS) (hk:IntsAre keys.toList kz) (hl:kz.length=vs.length) (h64:vs.length<64)
  (h:∀out:Array Value,KskOut b kz vs out.toList->R (.done (.ret .none)) {s with heap:=Zmw s.heap kS a out}):wpAny (model prog w) A (ksk_end a b vs.toArray e1 (.ref kS) keys) R E s:=by
 have hz:keys.size=vs.length:=by
  have q:=hk.length
  rw[YQ]at q;omega
 have hzz:(keys.zip vs.toArray).size=vs.length:=by rw[Array.size_zip,hz,Yv,Nat.min_self]
 have go:∀t:Sem PySem.Fin,wpAny (model prog w) A t R E s->wpAny (model prog w) A (if b=true then (rule "list.sort.reverse" >>= λ_=>t)else t) R E s:=λt ht=>by
  cases b
  ·exact ht
  ·exact Ya (wpAny_rule ht)
 have hst:(if b=true then (keys.zip vs.toArray).reverse else keys.zip vs.toArray).Perm (keys.zip vs.toArray):=by
  cases b
  ·exact .refl _
  ·exact Array.perm_iff_toList_perm.mpr (by rw[Yd rfl,Array.toList_reverse];exact List.reverse_perm _)
 have done:∀st:SortSt,(arrOf st).Perm (keys.zip vs.toArray)->failedOf st=none->SortedTo (arrOf st) (arrOf st).size->wpAny (model prog w) A (ksk_tail a b e1 (.ref kS) st) R E s:=λst q1 q2 q3 =>
  Zsm ok oa ne (by omega) (by rw[q1.size_eq,hzz];omega) q2 (h _ (ksk_out hk q1 q3))
 unfold ksk_end
 refine go _ ?_
 by_cases h2:vs.length<2
 ·have h2':vs.toArray.size<2:=by rw[Yv];exact h2
  rw[Yd h2',Yd h2']
  refine Ya (Yc ?_)
  dsimp only
  rw[StateT.run_pure]
  refine Ya (Yc (done (SortSt.mk' general' (if b=true then (keys.zip vs.toArray).reverse else keys.zip vs.toArray) #[] 7 none) hst rfl λi j hij hj=>?_))
  have hj':j<(if b=true then (keys.zip vs.toArray).reverse else keys.zip vs.toArray).size:=hj
  rw[hst.size_eq,hzz]at hj'
  rw[show i=j by omega]
  exact Int.le_refl _
 ·have h2':¬ vs.toArray.size<2:=by rw[Yv];exact h2
  rw[Yb h2',Yb h2',ksk_kind hk (by omega)]
  refine Ya (Yc (Ya (Yy (wpS_sortRuns (a₀:=keys.zip vs.toArray) (st:=SortSt.mk' oneType' (if b=true then (keys.zip vs.toArray).reverse else keys.zip vs.toArray) #[] 7 none)
   (Q:=λ_ st=>(arrOf st).Perm (keys.zip vs.toArray)/\failedOf st=none/\SortedTo (arrOf st) (keys.zip vs.toArray).size) (ksk_intKeys hk) ⟨hst,rfl,rfl,rfl⟩ (by omega) (by omega) λst q1 q2 q3=>⟨q1,q2,q3⟩) ?_ λ_ _ z=>z)))
  rintro⟨⟨⟩,st⟩ s' ⟨rfl,q1,q2,q3⟩
  exact done st q1 q2 (by rw[q1.size_eq];exact q3)
end
section
variable {X:Cx}
theorem Inv.track {pins:List (Addr×Obj)}{σ:St}{H:Hp}{s:Shared}{a:Addr}{o:HO} (I:Inv X pins σ H s) (hn:H a=none) (hL:a≠X.env.locals) (h1:a∈X.ex\/X.s₀.heap.objs.size<=a) (h2:∀x c,X.env.cells.lookup x=some c->c≠a) (h3:∀p∈X.pn++pins,p.1≠a)
  (new:ZZ X.prog X.w (upd H a o) s.heap a o):Inv X pins σ (upd H a o) s:=by
 have up:∀b u,H b=some u->upd H a o b=some u:=λb u e=>by rw[Zg (Zy e hn)];exact e
 have J:=I.step (g':=s.gens) (d':=s.drawn) (t':=s.toks) (h':=s.heap) (H':=upd H a o) (ch:=[a]) (λb hb=>?_) (λb o _ _ _ e _=>e) (λb o _ _ _ e _=>⟨o.slots,e⟩) (λb o hb e n=>?_) (λb o _ e=>⟨o,e⟩) (λb xs e=>up _ _ e) (λb o u e=>up _ _ e) (λb ps e=>⟨#[],by rw[up _ _ e];simp⟩) (λm hm=>hm) (λb u e=>?_) I.bare
 ·exact J
 ·have e:b=a:=by simpa using hb
  subst e
  exact⟨h1,hL,h2,h3⟩
 ·rw[Zg (λz=>hb (by simp[z]))];exact n
 ·by_cases z:b=a
  ·subst z;rw[Zb]at e;cases e;exact new
  ·rw[Zg z]at e
   exact(I.hok b u e).Zfz (λc v _ q=>q) (λc q=>up _ _ q) (λc xs q=>up _ _ q) λc o' u' q=>up _ _ q
theorem Zsn {pins:List (Addr×Obj)}{σ:St}{H:Hp}{s:Shared}{A':Around}{E:Value->Shared->Prop}{f:Value}{b:Bool}{a kS:Addr}{e1:Nat}{vs:List Value}{ns:List Int}{kz:Int->Int}{R:PySem.Fin->Shared->Prop}
  (I:Inv X ((kS,seqObj "list" #[] 0)::(a,seqObj "list" #[] e1)::pins) σ H s) (hk0:X.s₀.heap.objs.size<=kS) (ha0:X.s₀.heap.objs.size<=a) (ne:a≠kS) (hp:∀p∈X.pn++pins,p.1≠kS/\p.1≠a) (hv:IntsAre vs ns) (h64:vs.length<64)
  (turn:∀(H':Hp) (s':Shared) (pins':List (Addr×Obj)) (n:Int) (u:Value),n∈ns->Inv X pins' σ H' s'->Ze H H'->RelV (.int n) u->wpAny (model X.prog X.w) A' (call f [u]) (EP X pins' σ λv H2=>v=.int (kz n)/\Ze H' H2) (λ_ _=>False) s')
  (fin:∀(H':Hp) (s':Shared) (out:Array Value) (c:Nat),Inv X pins σ H' s'->Ze H H'->H' a=none->s'.heap.get? a=some (seqObj "list" out c)->KskOut b (ns.map kz) vs out.toList->R (.done (.ret .none)) s') :
  wpAny (model X.prog X.w) A' (ksk_rest a f b vs.toArray e1 (.ref kS)) R E s:=by
 have hlen:vs.length=ns.length:=hv.length
 have facts:∀{H':Hp}{s':Shared}{ps:List (Addr×Obj)}{x:Addr}{xs:Array Value}{c:Nat},Inv X ps σ H' s'->(x,seqObj "list" xs c)∈ps->s'.heap.get? x=some (seqObj "list" xs c)/\H' x=none/\x≠X.env.locals/\x∉X.fs/\∀y cc,X.env.cells.lookup y=some cc->cc≠x:=λ{H' s' ps x xs c} J hm=>by
  obtain⟨q1,q2,q3,q4,_⟩:=J.pin _ (Yl _ hm)
  refine⟨q1,q2,q3,q4,λy cc hc z=>?_⟩
  obtain⟨v,oc,w1,w2⟩:=J.cell y cc hc
  rw[z,q1]at w1;cases w1;cases w2
 unfold ksk_rest
 refine Ya (wpAny_rule ?_)
 first
  |rw[List.forIn_toArray]
  |(rw[<-Array.forIn_toList];simp only[List.toList_toArray])
 refine Ya (ksk_fold (λi s'=>∃H' kA e,Inv X ((kS,seqObj "list" kA e)::(a,seqObj "list" #[] e1)::pins) σ H' s'/\Ze H H'/\IntsAre kA.toList ((ns.take i).map kz)) vs 0 s ⟨H,#[],0,I,Ze.refl H,by simpa using IntsAre.nil⟩ ?step ?done)
 case step =>
  rintro j x s' hx ⟨H',kA,e,J,sm,hk⟩
  simp only[Nat.zero_add]at hk⊢
  have hj:j<vs.length:=(Yx.mp hx).1
  have hnj:ns[j]?=some ns[j]:=Yi (by omega)
  obtain⟨t,ht⟩:=hv.get j _ hnj
  rw[hx]at ht
  cases ht
  have hz:kA.size<=64:=by
   have h1:=hk.length
   rw[YQ,Yf,Y1]at h1
   omega
  refine Ya (wpAny_attempt (Yy (turn H' s' _ ns[j] _ (YC _) J sm ⟨t,rfl⟩) (λv s'' he=>?_) λ_ _ hF=>hF.elim))
  obtain⟨x2,H2,J2,r2,rfl,sm2⟩:=he
  obtain⟨t2,rfl⟩:=r2
  obtain⟨o1,n1,l1,_,c1⟩:=facts J2 (Yz ..)
  try dsimp only
  obtain⟨c2,hc2⟩:∃c2,(s''.heap.update kS (Obj.mapSeq (·.push (.int (kz ns[j]) t2)))).get? kS=some (seqObj "list" (kA.push (.int (kz ns[j]) t2)) c2):=⟨_,get?_update_seq o1 (·.push (.int (kz ns[j]) t2))⟩
  refine Ya (listUpdate_at o1 rfl ?_ (Yo hz (by decide)) (Yo (Jb (Array.size_push ..)) (Nat.le_succ_of_le (Yo (Nat.succ_le_succ hz) (by decide)))))
  have J3:Inv X ((a,seqObj "list" #[] e1)::pins) σ H2 s'':=J2.ZX λp hp'=>by
   obtain⟨q1,q2,q3,q4,q5⟩:=J2.pin p (Yl _ (YD _ hp'))
   exact⟨q1,q2,q3,q4,q5⟩
  have J4:=J3.turned (t':=s''.toks) (h':=s''.heap.update kS (Obj.mapSeq (·.push (.int (kz ns[j]) t2)))) (it:=kS) (λb o nb e=>(Heap.get?_update_ne _ _ _ _ nb).trans e) n1 l1 (.inr hk0) c1 (λp hp'=>by
   rcases Yq.mp hp' with z|z
   ·exact(hp p (YA _ z)).1
   ·rcases Ym.mp z with rfl|z
    ·exact ne
    ·exact(hp p (Yl _ z)).1)
  have o1f:=(facts J2 (Yz ..)).2.2.2.1
  have J5:Inv X ((kS,seqObj "list" (kA.push (.int (kz ns[j]) t2)) c2)::(a,seqObj "list" #[] e1)::pins) σ H2 {s'' with heap:=s''.heap.update kS (Obj.mapSeq (·.push (.int (kz ns[j]) t2)))}:=J4.ZX λp hp'=>by
   rcases Ym.mp hp' with rfl|hp'
   ·exact⟨hc2,n1,l1,o1f,λv z=>by cases z⟩
   ·exact J4.pin p (Yl _ hp')
  refine Yc ⟨rfl,H2,_,_,J5,sm.trans sm2,?_⟩
  have ek:(ns.take (j+1)).map kz=(ns.take j).map kz++[kz ns[j]]:=by rw[Y5,hnj,YI];rfl
  have ea:(kA.push (Value.int (kz ns[j]) t2)).toList=kA.toList++[Value.int (kz ns[j]) t2]:=by simp
  rw[ea,ek];exact ksk_snoc hk
 case done =>
  rintro s' ⟨H',kA,e,J,sm,hk⟩
  have hk':IntsAre kA.toList (ns.map kz):=by
   rw[List.take_of_length_le (by omega)]at hk
   exact hk
  obtain⟨o1,n1,l1,f1,c1⟩:=facts J (Yz ..)
  obtain⟨o2,n2,l2,f2,c2⟩:=facts J (YD _ (Yz ..))
  refine Ya (listItems_at o1 rfl ?_)
  refine sk_end o1 o2 ne hk' (by rw[Yf];exact hlen.symm) h64 λout ho=>?_
  have J3:Inv X pins σ H' s':=J.ZX λp hp'=>J.pin p (Yl _ (YD _ (YD _ hp')))
  have J4:=J3.turned (t':=s'.toks) (h':=s'.heap.update kS (Obj.mapSeq λ_=>(#[]:Array Value))) (it:=kS) (λb o nb e=>(Heap.get?_update_ne _ _ _ _ nb).trans e) n1 l1 (.inr hk0) c1 λp hp'=>(hp p hp').1
  have J5:=J4.turned (t':=s'.toks) (h':=Zmw s'.heap kS a out) (it:=a) (λb o nb e=>(Heap.get?_update_ne _ _ _ _ nb).trans e) n2 l2 (.inr ha0) c2 λp hp'=>(hp p hp').2
  have o3:(s'.heap.update kS (Obj.mapSeq λ_=>(#[]:Array Value))).get? a=some (seqObj "list" #[] e1):=(Heap.get?_update_ne _ _ _ _ ne).trans o2
  exact fin H' _ out _ J5 sm n2 (get?_update_seq o3 λ_=>out) ho
theorem Zso {pins:List (Addr×Obj)}{σ:St}{H:Hp}{s:Shared}{A':Around}{E:Value->Shared->Prop}{f:Value}{b:Bool}{a:Addr}{e0:Nat}{vs:List Value}{ns:List Int}{kz:Int->Int}{R:PySem.Fin->Shared->Prop}
  (I:Inv X ((a,seqObj "list" vs.toArray e0)::pins) σ H s) (ha0:X.s₀.heap.objs.size<=a) (hp:∀p∈X.pn++pins,p.1≠a) (hv:IntsAre vs ns) (h64:vs.length<64)
  (turn:∀(H':Hp) (s':Shared) (pins':List (Addr×Obj)) (n:Int) (u:Value),n∈ns->Inv X pins' σ H' s'->Ze H H'->RelV (.int n) u->wpAny (model X.prog X.w) A' (call f [u]) (EP X pins' σ λv H2=>v=.int (kz n)/\Ze H' H2) (λ_ _=>False) s')
  (fin:∀(H':Hp) (s':Shared) (out:Array Value) (c:Nat),Inv X pins σ H' s'->Ze H H'->H' a=none->s'.heap.get? a=some (seqObj "list" out c)->KskOut b (ns.map kz) vs out.toList->R (.done (.ret .none)) s') :
  wpAny (model X.prog X.w) A' (ksk_tree a f b) R E s:=by
 obtain⟨oa,na,la,fa,da⟩:=I.pin _ (Yl _ (Yz ..))
 have ca:∀y cc,X.env.cells.lookup y=some cc->cc≠a:=λy cc hc z=>by
  obtain⟨v,oc,w1,w2⟩:=I.cell y cc hc
  rw[z,oa]at w1;cases w1;cases w2
 have lt:=Yk oa
 obtain⟨e1,oa1⟩:∃e1,(s.heap.update a (Obj.mapSeq λ_=>(#[]:Array Value))).get? a=some (seqObj "list" #[] e1):=⟨_,get?_update_seq oa λ_=>#[]⟩
 have I0:Inv X pins σ H s:=I.ZX λp hp'=>I.pin p (Yl _ (YD _ hp'))
 have I1:=I0.turned (t':=s.toks) (h':=s.heap.update a (Obj.mapSeq λ_=>(#[]:Array Value))) (it:=a) (λb o nb e=>(Heap.get?_update_ne _ _ _ _ nb).trans e) na la (.inr ha0) ca hp
 have sz:(s.heap.update a (Obj.mapSeq λ_=>(#[]:Array Value))).objs.size=s.heap.objs.size:=Heap.size_update ..
 have I2:=I1.kept (h':=((s.heap.update a (Obj.mapSeq λ_=>(#[]:Array Value))).push (seqObj "tuple" vs.toArray 0)).push (seqObj "list" #[] 0)) (t':=s.toks) λb o e=>Yh _ (Yh _ e)
 have sz2:((s.heap.update a (Obj.mapSeq λ_=>(#[]:Array Value))).push (seqObj "tuple" vs.toArray 0)).objs.size=s.heap.objs.size+1:=(size_push' ..).trans (congrArg (·+1) sz)
 have hge:X.s₀.heap.objs.size<=s.heap.objs.size:=I.sz
 have hkL:X.env.locals<s.heap.objs.size:=I.lt
 have nk:H (s.heap.objs.size+1)=none:=I.hok.fresh (YU _)
 unfold ksk_tree
 refine Ya (listItems_at oa rfl (Ya (listUpdate_at oa rfl (Ya (seqEpoch_at oa1 rfl (Ya (wpAny_newTuple (Ya (wpAny_newList (wpAny_holding ?_) (Yr _))) ?_)))) ?_ (Yr _))))
 ·rw[sz2]
  refine Zsn (kS:=s.heap.objs.size+1) (e1:=e1) (I2.ZX λp hp'=>?_) (Nat.le_succ_of_le hge) ha0 (Yp (YV lt)) (λp hp'=>⟨?_,hp p hp'⟩) hv h64 turn fin
  ·rcases Ym.mp hp' with rfl|hp'
   ·exact⟨by rw[<-sz2];exact Yt _ rfl,nk,Nat.ne_of_gt (YV hkL),I.ZlV (YU _),λv z=>by cases z⟩
   ·rcases Ym.mp hp' with rfl|hp'
    ·exact⟨Yh _ (Yh _ oa1),na,la,fa,λv z=>by cases z⟩
    ·exact I2.pin p (Yl _ hp')
  ·have:=Yk (I0.pin p hp').1
   exact Yp (YV this)
 ·exact Yo (show vs.length<=64 by omega) (by decide)
 ·rw[Yv];exact Yo (show vs.length<=64 by omega) (by decide)
end
theorem Zqt {prog:Program}{w:World}{A:Around}{R:Result->Shared->Prop}{s:Shared}{r S:Addr}{a b c:Int}{t u v:Tok}{n c₀:Nat} (hh:A.handled=none) (hr:IsRange s.heap r a b c t u v) (hsmall:Builtin.Range.small a b c=true)
  (hn:Builtin.Range.rangeSize a b c=n) (hlen:n<=2 ^ 24) (hS:s.heap.get? S=some {cls:=.type "list",data:=.seq #[] c₀})
  (hR:∀h' tk acc' c',(∀b o,b≠S->s.heap.get? b=some o->h'.get? b=some o)->h'.get? S=some {cls:=.type "list",dict:=none,data:=.seq acc' c',slots:=#[]}->ItemsOf (λi v=>∃t,v=.int (a+i*c) t) acc' n->R (.ok (.ret (.ref S))) {s with heap:=h',toks:=tk}) :
  codeAny (model prog w) A (.builtin "list.__iadd__" ⟨[.ref S,.ref r],[]⟩) R s :=
 codeAny_builtin entry_list_iadd' (wpAny_extend_range hh hr hsmall hn hlen S (.ref S) c₀ hS hR)
theorem Zlb {prog:Program}{w:World}{A:Around}{E:Value->Shared->Prop}{s:Shared}{r:Addr}{a b c:Int}{t u v:Tok}{n:Nat}{Q:List Value->Shared->Prop} (hh:A.handled=none) (hr:IsRange s.heap r a b c t u v) (hsmall:Builtin.Range.small a b c=true)
  (hn:Builtin.Range.rangeSize a b c=n) (hlen:n<=2 ^ 24) (h:∀(h':Heap) (tk:Nat) (acc:Array Value),(∀b o,s.heap.get? b=some o->h'.get? b=some o)->ItemsOf (λi v=>∃t,v=.int (a+i*c) t) acc n->Q acc.toList {s with heap:=h',toks:=tk}) :
  wpAny (model prog w) A (collect (.ref r)) Q E s:=by
 unfold collect
 refine Ya (wpAny_runValue (codeAny_builtin entry_proto_collect' ?_))
 show wpAny _ _ (newList [] >>= λl=>again (.builtin "list.__iadd__" ⟨[l,.ref r],[]⟩)) _ _ s
 refine Ya (wpAny_newList (Yc ⟨Code.quiet_builtin _ (by decide +kernel),?_⟩))
 refine Zqt (s:={s with heap:=s.heap.push (seqObj "list" #[] 0)}) hh (Yh _ hr) hsmall hn hlen (Yt _ rfl) λh' tk acc c' hk hS hacc=>?_
 refine Ya (wpAny_load hS (Yc (h h' tk acc (λb o e=>hk b o (Yp (Yk e)) (Yh _ e)) hacc)))
theorem Zlc (g:Int->Int):∀vs:List Value,((vs.map numOf).map g).zip vs=vs.map λv=>(g (numOf v),v)
 |[]=>rfl
 |v::vs=>by
  simp only[YH,List.zip_cons_cons]
  rw[Zlc g vs]
theorem Zmx {b:Bool}{g:Int->Int}{vs out:List Value}{ns:List Int} (hv:IntsAre vs ns) (h:KskOut b (ns.map g) vs out):∃ns',IntsAre out ns'/\ns'.Perm ns/\ns'.Pairwise λx y=>if b then g y<=g x else g x<=g y:=by
 obtain⟨ps,hp,rfl,hs⟩:=h
 have en:ns=vs.map numOf:=hv.nums.symm
 rw[en,Zlc]at hp
 have mem:∀p∈ps,p.1=g (numOf p.2)/\p.2∈vs:=λp hp'=>by
  obtain⟨v,hv',rfl⟩:=Yu.mp (hp.mem_iff.mp hp')
  exact⟨rfl,hv'⟩
 refine⟨(ps.map Prod.snd).map numOf,intsAre_map _ λv hv'=>?_,?_,?_⟩
 ·obtain⟨p,hp',rfl⟩:=Yu.mp hv'
  exact hv.all _ (mem p hp').2
 ·have:=(hp.map Prod.snd).map numOf
  rw[YW (l:=vs),show(Prod.snd ∘ λv=>(g (numOf v),v))=(id:Value->Value)from rfl,List.map_id]at this
  rw[en];exact this
 ·rw[List.pairwise_map,List.pairwise_map]
  refine hs.imp_of_mem λ{p q} hp' hq' hr=>?_
  rw[<-(mem p hp').1,<-(mem q hq').1]
  exact hr
noncomputable def nats (n:Int):List Int:=(List.range n.toNat).map λ(i:Nat)=>(i:Int)
section
variable {X:Cx}
theorem Zmy {pins:List (Addr×Obj)}{σ:St}{H:Hp}{s:Shared}{kw:List (Str×Value)}{f:Value}{b:Bool}{p:Addr}{n:Int}{kz:Int->Int}{Q:VK} (I:Inv X pins σ H s) (hc:X.calm=true) (hp:H p=some (.rng 0 n)) (h0:0<=n) (h64:n<64)
  (ha1:argsOk "sorted" ⟨[.ref p],kw⟩) (ha2:∀x,argsOk "list.sort" ⟨[.ref x],kw⟩) (ht:∀x,Builtin.«list.sort» ⟨[.ref x],kw⟩=ksk_tree x f b)
  (turn:∀(H':Hp) (s':Shared) (pins':List (Addr×Obj)) (i:Int) (u:Value),0<=i->i<n->Inv X pins' σ H' s'->Ze H H'->RelV (.int i) u->wpAny (model X.prog X.w) X.A.in1.in1 (call f [u]) (EP X pins' σ λv H2=>v=.int (kz i)/\Ze H' H2) (λ_ _=>False) s')
  (fin:∀(ns:List Int) (l:Addr) (H':Hp),ns.Perm (nats n)->(ns.Pairwise λx y=>if b then kz y<=kz x else kz x<=kz y)->Ze H H'->H l=none->H' l=some (.lst (ns.map V.int))->Q (.ref l) H') :
  wpAny (model X.prog X.w) X.A (call (.builtin "sorted") [.ref p] kw) (EP X pins σ Q) X.xe s:=by
 obtain⟨t,u,v,hob⟩:=(show ∃t u v,s.heap.get? p=some {cls:=.type "range",data:=.fields #[.int 0 t,.int n u,.int 1 v]}from I.hok p _ hp)
 refine call_function_entry_kw kind_sorted plain_sorted entry_sorted ha1 ?_
 unfold Builtin.«sorted»
 refine Ya (m:=checkCount "sorted" 1 1 _) (Yc (Ya (Zlb (n:=n.toNat) (I.ok.hd hc) hob (small_one (by omega) (by omega) (by omega) (by omega)) (by rw[rangeSize_one];split<;>omega) (by omega) λh1 tk acc k1 hacc=>Ya (wpAny_newList ?_ ?_))))
 case refine_2=>rw[YQ,hacc.1];exact Yo (show n.toNat<=1000 by omega) (by decide)
 have hia:IntsAre acc.toList (nats n):=by
  have hv:Vals ((nats n).map V.int) acc.toList:=by
   unfold nats
   rw[YW]
   exact Zr9 (g:=λ(i:Nat)=>V.int (i:Int)) (P:=λ(i:Nat) v=>∃t,v=.int (0+(i:Int)*1) t) (λi v h=>by obtain⟨t,e⟩:=h;exact⟨t,by rw[e];simp⟩) _ _ (by rw[YQ];exact hacc.1) λk v hk=>hacc.2 k v (by simpa using hk)
  exact intsAre_of hv
 have I1:=I.kept (t':=tk) k1
 show wpAny _ _ _ _ _ {s with heap:=h1.push (seqObj "list" acc.toList.toArray 0),toks:=tk}
 have oa:(h1.push (seqObj "list" acc.toList.toArray 0)).get? h1.objs.size=some (seqObj "list" acc.toList.toArray 0):=Yt _ rfl
 have I2:=I1.kept (h':=h1.push (seqObj "list" acc.toList.toArray 0)) (t':=tk) λb o e=>Yh _ e
 have na:H h1.objs.size=none:=I1.hok.fresh (Ye _)
 have la:h1.objs.size≠X.env.locals:=Nat.ne_of_gt I1.lt
 have a0:X.s₀.heap.objs.size<=h1.objs.size:=I1.sz
 have hl:acc.toList.length<64:=by rw[YQ,hacc.1];omega
 refine Ya (wpAny_holding (wpAny_call_entry_kw slot_list_sort ⟨_,oa,rfl⟩ entry_list_sort ?body (ha2 _)))
 case body =>
  show wpAny (model X.prog X.w) X.A.in1.in1 (Builtin.«list.sort» ⟨[.ref h1.objs.size],kw⟩) _ _ _
  rw[ht]
  refine Zso (e0:=0) (pins:=pins) (ns:=nats n) (kz:=kz) (I2.ZX λq hq=>?_) a0 (λq hq=>?_) hia hl (λH' s' pins' i u hi J sm r=>?_) λH' s' out c J sm n2 o2 ko=>⟨_,rfl,Yc ⟨_,rfl,?_⟩⟩
  ·rcases Ym.mp hq with rfl|hq
   ·exact⟨oa,na,la,I1.ZlV (Ye _),λv z=>by cases z⟩
   ·exact I2.pin q (Yl _ hq)
  ·exact Yp (Yk (I1.pin q hq).1)
  ·obtain⟨k,hk,rfl⟩:=Yu.mp hi
   have:=Yw.mp hk
   exact turn H' s' pins' _ u (by omega) (by omega) J sm r
  ·obtain⟨ns,hi,hpm,hpw⟩:=Zmx hia ko
   have ca:∀y cc,X.env.cells.lookup y=some cc->cc≠h1.objs.size:=λy cc hc' z=>by
    obtain⟨v,oc,w1,w2⟩:=I1.cell y cc hc'
    exact absurd (Yk w1) (by rw[z];exact YO _)
   have K:=J.track (a:=h1.objs.size) (o:=.lst (ns.map V.int)) n2 la (.inr a0) ca (λq hq=>Yp (Yk (I1.pin q hq).1)) ⟨?_,out.toList,c,ZeP hi,by rw[Array.toArray_toList];exact o2⟩
   ·exact⟨.ref h1.objs.size,_,K,rfl,fin ns _ _ hpm hpw (λb o e=>by rw[Zg (Zy e na)];exact sm _ _ e) na Zb⟩
   ·rw[Yf,hpm.length_eq]
    unfold nats
    rw[Yf,Y9]
    exact Yo (show n.toNat<=1000 by omega) (by decide)
noncomputable def Zj7 (ta td:TA) (tb:TE) (js:List (Option Nat)) (env:Env) (P:Addr) (q:Str) (params:Arguments) (body:Expr) (scope:Scope):TE:=fun σ H Q=>ta σ H λvs H1=>td σ H1 λzs H2=>∃(p f:Addr) (n:Int) (kz:Int->Int),
 vs=[.ref p]/\zs=[.ref f,.bl true]/\H2 p=some (.rng 0 n)/\0<=n/\n<64/\Zk9 env P q params body scope H2 f /\
 (∀i H3,0<=i->i<n->Ze H2 H3->tb ((Z3 js σ).set 0 (some (.int i))) H3 λv H4=>v=.int (kz i)/\Ze H3 H4) /\
 ∀(ns:List Int) (l:Addr) (H3:Hp),ns.Perm (nats n)->(ns.Pairwise λx y=>kz y<=kz x)->Ze H2 H3->H2 l=none->H3 l=some (.lst (ns.map V.int))->Q (.ref l) H3
theorem Zqu {pins':List (Addr×Obj)}{σ:St}{H':Hp}{s':Shared}{Nc:List Str}{js:List (Option Nat)}{q pn:Str}{params:Arguments}{body:Expr}{scope:Scope}{P f:Addr}{tb:TE}{Q:VK}{m:Nat}{i:Int}{u:Value} (hr:Room m X.A)
  (S:LamSc X Nc js params body scope pn) (hbody:∀cl L f c s H,PE (Zjs X X.A.in1.in1 Nc q scope cl L f c s H) body tb) (J:Inv X pins' σ H' s') (L:Zk9 X.env P q params body scope H' f) (r:RelV (.int i) u)
  (h:tb ((Z3 js σ).set 0 (some (.int i))) H' Q):wpAny (model X.prog X.w) X.A.in1.in1 (call (.ref f) [u]) (EP X pins' σ Q) (λ_ _=>False) s' :=
 Zla S hbody J J.ok.frames J.ok.hd hr.depth L r h
theorem Zox {Nc:List Str}{js:List (Option Nat)}{q pn:Str}{params:Arguments}{body:Expr}{scope:Scope}{P:Addr}{ta td:TA}{tb:TE}{m:Nat}{e:Expr}{e2:Expr}{p pos lpos kp1 kp2:Pos} (hc:X.calm=true) (hr:Room m X.A) (S:LamSc X Nc js params body scope pn)
  (hbody:∀cl L f c s H,PE (Zjs X X.A.in1.in1 Nc q scope cl L f c s H) body tb) (hg:Gl X "sorted") (hm:X.mg "sorted"=none) (ha:PA X [e] ta) (hd:PK X [⟨some (Str.ofString "key"),.Lambda params body scope lpos,kp1⟩,⟨some (Str.ofString "reverse"),e2,kp2⟩] td)
  (hpl:(backTo pos (starEach [e] X.env)).any (·.1)=false:=by rfl) (hall:(backToKw pos (keywordEach [⟨some (Str.ofString "key"),.Lambda params body scope lpos,kp1⟩,⟨some (Str.ofString "reverse"),e2,kp2⟩] X.env)).all (·.1.isSome)=true:=by rfl)
  (hnn:(backToKw pos (keywordEach [⟨some (Str.ofString "key"),.Lambda params body scope lpos,kp1⟩,⟨some (Str.ofString "reverse"),e2,kp2⟩] X.env)).any (·.1.isNone)=false:=by rfl) (hks:(backToKw pos (keywordEach [⟨some (Str.ofString "key"),.Lambda params body scope lpos,kp1⟩,⟨some (Str.ofString "reverse"),e2,kp2⟩] X.env)).filterMap (·.1)=[Str.ofString "key",Str.ofString "reverse"]:=by rfl) (hb:backTo pos (starEach [e] X.env)=(false,eval e X.env)::backTo pos (starEach [] X.env):=by rfl) :
  PE X (.Call (.Name "sorted" p) [e] [⟨some (Str.ofString "key"),.Lambda params body scope lpos,kp1⟩,⟨some (Str.ofString "reverse"),e2,kp2⟩] pos) (Zj7 ta td tb js X.env P q params body scope):=by
 intro pins s σ H Q I h
 refine wpAny_Call_Name_kw (Zcn I hg hm ZeU ?_)
 refine PyProof.Rows.callWith_kw (thn (ha pos pins s σ H _ I h) λus s1 ⟨vs,H1,I1,r1,q1⟩=>?_) hb hpl hall hnn
 refine thn (hd pos pins s1 σ H1 _ I1 q1) λws s2 ⟨zs,H2,I2,r2,pp,f,n,kz,e1,e2,hp,h0,h64,L,tn,fin⟩=>?_
 subst e1 e2
 obtain⟨u,rfl,ru⟩:=r1.one
 cases(show u=Value.ref pp from ru)
 rw[hks]
 obtain⟨v,v2,rfl,rv,rv2⟩:=r2.two
 cases(show v=Value.ref f from rv)
 cases(show v2=Value.bool true from rv2)
 exact Zmy (f:=.ref f) (b:=true) (kz:=kz) I2 hc hp h0 h64 (ksk_s2 _ _ _) (λx=>ksk_l2 _ _ _) (λx=>ksk_t2 _ _ _) (λH' s' pins' i u hi0 hi1 J sm r=>Zqu hr S hbody J (L.same sm) r (tn i H' hi0 hi1 sm)) (λns l H' a1 a2=>fin ns l H' a1 a2)
end
noncomputable def Zld (x:Str):Str:=(x++".<locals>.")++"<lambda>"
noncomputable def ZbQ (K:Frag) (mg:Str->Option Value) (x:Str) (H:Hp):Prop:=H (Zh0 K mg x)=some (Zh1 (Zld x))
theorem ZbQ.same {K:Frag}{mg:Str->Option Value}{x:Str}{H H':Hp} (h:ZbQ K mg x H) (s:Ze H H'):ZbQ K mg x H':=s _ _ h
noncomputable def LamD (K:Frag) (mg:Str->Option Value) (x:Str) (f:Addr):Prop:=∃c,Zov K f=some c/\codeHdIn K c (Zh0 K mg x)=true
section
variable {P:Program}{w:World}{K:Frag}{mg:Str->Option Value}{base:Heap}
theorem Fun.okL {x qual:Str}{st:Stmt}{f:Addr}{fd:FuncData}{N ps:List Str}{k:Nat}{sp:Sp} (F:Fun K x qual st f fd) (L:LamD K mg qual f) (B:BM mg base) (S:FnScope N ps (defScope st)) (len:∀vs H Q E,sp vs H Q E->vs.length=ps.length)
  (hbody:∀(cdv:Value) (A:Around) (outer:List Env) (s:Shared) (H:Hp) (vs:List V) (Q:VK) (E:XK),LamIn (ZfD (CXE P w) P w K mg base N qual (defScope st) f cdv A outer s H E) (Zh0 K mg qual) (Zld qual)->Room k (A.deeper (envOfC qual (defScope st) s.heap.objs.size f cdv))->sp vs H Q E ->
   ∃t,PSs (ZfD (CXE P w) P w K mg base N qual (defScope st) f cdv A outer s H E) (defBody st) t/\t {nx:=λ_ H'=>Q .non H',rt:=Q} (start N vs) H):FnOk P w K mg base (CXE P w) (k+1) f fd ps sp:=by
 obtain⟨oc,od,kV,doc,pm,an,cdv,ct,osl,rfl,lk,hcd⟩:=F.ex
 obtain⟨c,h1,h2⟩:=L
 have e:cdv=.ref c:=by
  unfold Zov at h1
  rw[lk]at h1
  dsimp only at h1
  cases cdv<;>first|(cases h1;rfl)|(cases h1;done)
 exact fn_of lk hcd S len λA outer s H vs Q E hr hsp=>hbody cdv A outer s H vs Q E ⟨⟨c,e,h2⟩,B,rfl⟩ hr hsp
end
theorem Zqv {b:Addr}{q:Str}:∀{l:List (Addr×Str)},l.lookup b=some q->(b,q)∈l
 |[],e=>by cases e
 |(c,y)::r,e=>by
  rw[List.lookup_cons]at e
  cases hb:b==c with
  |true=>rw[hb]at e;cases e;rw[eq_of_beq hb];exact Yz
  |false=>rw[hb]at e;exact YD _ (Zqv e)
theorem Znz {K:Frag}{mg:Str->Option Value}{x:Str}{f c T:Addr}{oc1 oc2:Value}{od1 od2:Option Addr}{fd:FuncData}{sl1 sl2:Array (Option Value)}{vs:Array Value} (hm:mg x=some (.ref f)) (l1:K.lookup f=some ⟨oc1,od1,.func fd,sl1⟩) (e:fd.code=.ref c) (l2:K.lookup c=some ⟨oc2,od2,.fields vs,sl2⟩) (h11:vs[11]?=some (.ref T)):Zh0 K mg x=T/\Zov K f=some c:=by
 have h1:Zov K f=some c:=by
  unfold Zov
  rw[l1]
  dsimp only
  rw[e]
 refine⟨?_,h1⟩
 unfold Zh0
 rw[hm]
 dsimp only
 rw[h1]
 dsimp only
 unfold tabOf
 rw[l2]
 dsimp only
 rw[h11]
theorem Zoy {P:Program}{w:World}{K:Frag}{mg mb:Str->Option Value}{CX:CXT}{k:Nat}{fa a:Addr}{fd:FuncData}{x:Str}{sp:Sp}{s₁:Shared}{vs:List Value}{ns:List Int}{tabs:List (Addr×Str)}
  (KX:K.In s₁.heap) (hns:s₁.heap.Ns mainGlobals mg) (hb:s₁.heap.Ns builtinsNs mb) (hbb:∀x:Str,x≠"__name__"->mb x=bootBuiltins x) (hlim:s₁.heap.NoLimit) (hg:s₁.gens=#[]) (hbm:BM mg s₁.heap)
  (ha:s₁.heap.get? a=some {cls:=.type "list",data:=.seq vs.toArray}) (hi:IntsAre vs ns) (hl:ns.length<=sizeLine) (hr:Room k callerA)
  (hT:∀p∈tabs,s₁.heap.get? p.1=some (tabObj #[])/\K.lookup p.1=none/\∃c,codeHdIn K c p.1=true) (nd:(tabs.map (·.1)).Nodup)
  (F:∀base:Heap,K.In base->base.Ns mainGlobals mg->BM mg base->FnOk P w K mg base CX k fa fd [x] sp) (hbind:∀(s:Shared) (u:Value),BindsTo s fd ⟨[u],[]⟩ [(x,u)])
  (hsp:∀H:Hp,SqL K H a (ns.map V.int)->(∀p∈tabs,H p.1=some (Zh1 p.2))->sp [.ref a] H (λv _=>v=.bl true) λ_ _ _=>False)
  (hCX:∀H e s',CX [] H s₁ (λ_ _ _=>False) e s'->False) :
  codeAny (model P w) callerA (.call (.ref fa) ⟨[.ref a],[]⟩) (λr s'=>r=.ok (.ret (.bool true))/\OldK s₁.heap s'.heap/\s'.os=s₁.os/\AllBare s'.gens) s₁:=by
 have rv:=ZeP hi
 have lenV:=hi.length
 have tmem:∀b q,tabs.lookup b=some q->(b,q)∈tabs:=λb q e=>Zqv e
 have tlook:∀p∈tabs,tabs.lookup p.1=some p.2:=by
  clear hT hsp tmem
  induction tabs with
  |nil=>intro p hp;cases hp
  |cons t r ih =>
   intro p hp
   rw[YH,List.nodup_cons]at nd
   rcases Ym.mp hp with rfl|hp
   ·rw[List.lookup_cons,beq_self_eq_true]
   ·have:(p.1==t.1)=false:=beq_eq_false_iff_ne.mpr λz=>nd.1 (Yu.mpr ⟨p,hp,z⟩)
    rw[List.lookup_cons,this]
    exact ih nd.2 p hp
 have core:∀H:Hp,SqL K H a (ns.map V.int)->HOk P w H s₁.heap->(∀b,H b=none\/(b=a/\K.lookup a=none/\∃o xs,H b=some (.frz o (.lst xs)))\/∃q,(b,q)∈tabs/\H b=some (Zh1 q))->(∀p∈tabs,H p.1=some (Zh1 p.2)) ->
   codeAny (model P w) callerA (.call (.ref fa) ⟨[.ref a],[]⟩) (λr s'=>r=.ok (.ret (.bool true))/\OldK s₁.heap s'.heap/\s'.os=s₁.os/\AllBare s'.gens) s₁:=by
  intro H hS hok hA hTb
  have base_of:∀{b:Addr}{o:Obj},s₁.heap.get? b=some o->H b=none->(ZiR s₁.heap H).get? b=some o:=λe n=>Zpx e n
  have noA:∀{b:Addr}{o:Obj},s₁.heap.get? b=some o->o.cls≠.type "list"->o.cls≠.none->H b=none:=λ{b o} e d1 d2=>by
   rcases hA b with z|⟨z,_⟩|⟨q,z,_⟩
   ·exact z
   ·subst z;rw[ha]at e;cases e;exact absurd rfl d1
   ·rw[(hT _ z).1]at e;cases e;exact absurd rfl d2
  have noD:∀{b:Addr}{o:Obj}{es:Array DictEntry}{ep:Nat},s₁.heap.get? b=some o->o.data=.dict es ep->H b=none:=λ{b o es ep} e d=>by
   rcases hA b with z|⟨z,_⟩|⟨q,z,_⟩
   ·exact z
   ·subst z;rw[ha]at e;cases e;cases d
   ·rw[(hT _ z).1]at e;cases e;cases d
  have nsK:∀{b:Addr}{m:Str->Option Value},s₁.heap.Ns b m->(ZiR s₁.heap H).Ns b m:=λ{b m} ⟨o,es,ep,e,d,r⟩=>⟨o,es,ep,base_of e (noD e d),d,r⟩
  have hKb:K.In (ZiR s₁.heap H):=λb o e=>base_of (KX b o e) (by
   rcases hA b with z|⟨z,zk,_⟩|⟨q,z,_⟩
   ·exact z
   ·subst z;rw[zk]at e;cases e
   ·rw[(hT _ z).2.1]at e;cases e)
  have hM:Mod K mg (ZiR s₁.heap H):=⟨hKb,nsK hns,⟨mb,nsK hb,hbb⟩,let ⟨mc,h1,h2⟩:=hlim;⟨mc,nsK h1,h2⟩⟩
  have hB:BM mg (ZiR s₁.heap H):=by
   obtain⟨bm,ob,b1,b2,b3,b4,b5,b6,b7⟩:=hbm
   exact⟨bm,ob,b1,b2,b3,base_of b4 (noA b4 (by rw[b5];decide) (by rw[b5];nofun)),b5,b6,b7⟩
  have e0:Env0 P w K mg (ZiR s₁.heap H) callerA [] s₁ H:=⟨rfl,hM,λb o e=>ZrW e,Jb (ZnQ _ _),trivial,λb hb=>absurd (show b∈([]:List Addr)from hb) (by simp),hok,.of_eq hg⟩
  refine codeAny_mono ((F _ hKb (nsK hns) hB).run callerA [] s₁ H ⟨[.ref a],[]⟩ [.ref a] [.ref a] _ _ hr e0 (hbind s₁ (.ref a)) (.cons rfl .nil) (hsp H hS hTb)) λr s' h=>?_
  cases r with
  |error e=>exact(hCX H e s' h).elim
  |ok fl =>
   cases fl with
   |next=>exact False.elim h
   |brk=>exact False.elim h
   |cont=>exact False.elim h
   |ret u =>
    obtain⟨v,H',os,bare,un,hok',r',q⟩:=h
    have q':v=.bl true:=q
    subst q'
    obtain rfl:u=Value.bool true:=r'
    have old:∀b o,s₁.heap.get? b=some o->asItWas s₁.heap s'.heap b o/\∃o',s'.heap.get? b=some o':=λb o e=>by
     rcases hA b with z|⟨_,_,ob,xs,z⟩|⟨q,zm,z⟩
     ·have:=un.keep b o e z (by intro y;exact absurd (show b∈([]:List Addr)from y) (by simp)) (by simp)
      exact⟨.inl this,o,this⟩
     ·have z2:=un.frzs b ob _ z
      obtain⟨e1,_⟩:=hok b _ z
      obtain⟨e2,_⟩:=hok' b _ z2
      rw[e]at e1;cases e1
      exact⟨.inl e2,o,e2⟩
     ·obtain⟨more,z2⟩:=un.tbls b _ z
      obtain⟨ts,e2,_⟩:=hok' b _ z2
      obtain⟨t1,_,c,t3⟩:=hT _ zm
      have t1':s₁.heap.get? b=some (tabObj #[]):=t1
      rw[e]at t1';cases t1'
      refine⟨.inr (.inl ⟨((codeHd_of_K KX t3).tab t1).isCodeTable,rfl,#[],ts,rfl,by rw[Array.empty_append];exact e2⟩),_,e2⟩
    exact⟨rfl,⟨λb o e=>(old b o e).1,λb o e=>(old b o e).2⟩,os,bare⟩
 have neA:∀q,(a,q)∉tabs:=λq z=>by
  have:=(hT _ z).1
  rw[show((a,q):Addr×Str).1=a from rfl,ha]at this;cases this
 have tabok:∀(H:Hp) (b:Addr) (q:Str),(b,q)∈tabs->ZZ P w H s₁.heap b (Zh1 q):=λH b q z=>⟨#[],(hT _ z).1,trivial,λpos cv e=>by cases e⟩
 cases hk:K.lookup a with
 |some o =>
  have e:=KX a o hk
  rw[ha]at e
  cases e
  refine core (λb=>(tabs.lookup b).map Zh1) (.inr ⟨_,vs.toArray,_,hk,rfl,rfl,rfl,by rw[Yv,lenV];exact hl,by simpa using rv⟩) (λb u z=>?_) (λb=>?_) λp hp=>by rw[tlook p hp];rfl
  ·dsimp only at z
   cases q:tabs.lookup b with
   |none=>rw[q]at z;cases z
   |some y=>rw[q]at z;cases z;exact tabok _ b y (tmem b y q)
  ·cases q:tabs.lookup b with
   |none=>exact .inl rfl
   |some y=>exact .inr (.inr ⟨y,tmem b y q,rfl⟩)
 |none =>
  refine core (λb=>if b=a then some (.frz {cls:=.type "list",data:=.seq vs.toArray} (.lst (ns.map V.int)))else (tabs.lookup b).map Zh1) (.inl (.inr ⟨{cls:=.type "list",data:=.seq vs.toArray},Yd rfl⟩)) (λb u z=>?_) (λb=>?_) λp hp=>?_
  ·by_cases hb:b=a
   ·have z':=(Yd hb).symm.trans z
    cases z'
    subst hb
    exact⟨ha,by rw[Yf];exact hl,vs,_,rv,ha⟩
   ·have z':=(Yb hb).symm.trans z
    cases q:tabs.lookup b with
    |none=>rw[q]at z';cases z'
    |some y=>rw[q]at z';cases z';exact tabok _ b y (tmem b y q)
  ·by_cases hb:b=a
   ·exact .inr (.inl ⟨hb,hk,_,_,Yd hb⟩)
   ·cases q:tabs.lookup b with
    |none=>exact .inl (by rw[Yb hb];rfl)
    |some y=>exact .inr (.inr ⟨y,tmem b y q,by rw[Yb hb];rfl⟩)
  ·have:p.1≠a:=λz=>neA p.2 (by rw[<-z];exact hp)
   rw[Yb this,tlook p hp];rfl
theorem Zqw {l:OpenLaw}{n k:Nat}{q:Program}{loose:List Str}{XP:(Str->Option Value)->Heap->Prop}{YP:World->Heap->Prop}{d:DefRec}{K:Params->Frag}{CX:World->CXT}{sp:World->(Str->Option Value)->Sp}{x:Str}{ts:List Addr}{tabs:Frag->(Str->Option Value)->List (Addr×Str)}
  (hn:l.most=some n) (hn2:n<=sizeLine) (hdf:d.params.defaults=[]) (hr:Room k callerA)
  (hY:∀(w:World) (h:Heap),YP w h->(K w.params).In h) (hY2:∀(w:World) (h:Heap),YP w h->∀P∈ts,h.get? P=some (tabObj #[]))
  (F:∀(w:World) (mg:Str->Option Value) (fa:Addr) (h:Heap),(K w.params).In h->h.Ns mainGlobals mg->mg d.name=some (.ref fa) ->
   ∃fd:FuncData,(∀(s:Shared) (u:Value),BindsTo s fd ⟨[u],[]⟩ [(x,u)])/\(∀p∈tabs (K w.params) mg,p.1∈ts/\(K w.params).lookup p.1=none/\∃c,codeHdIn (K w.params) c p.1=true)/\((tabs (K w.params) mg).map (·.1)).Nodup /\
    ∀base:Heap,(K w.params).In base->base.Ns mainGlobals mg->BM mg base->FnOk l.prog w (K w.params) mg base (CX w) k fa fd [x] (sp w mg))
  (hsp:∀(w:World) (mg:Str->Option Value) (H:Hp) (a:Addr) (ns:List Int),ns.length<=n->SqL (K w.params) H a (ns.map V.int)->(∀p∈tabs (K w.params) mg,H p.1=some (Zh1 p.2))->sp w mg [.ref a] H (λv _=>v=.bl true) λ_ _ _=>False)
  (hCX:∀(w:World) (H:Hp) (s:Shared) (e:Value) (s':Shared),CX w [] H s (λ_ _ _=>False) e s'->False) :
  WalkO q loose XP YP l.row.toRowW d [] (λf vs=>PySem.call f vs):=by
 refine Att.ZkL hn hdf λw s₀ s₁ mg mb fa o pm cd doc a vs ns G Y ho hd hcd hmg hobj hints hlen hg=>?_
 have KX:=hY w _ Y
 have TX:=hY2 w _ Y
 obtain⟨fd,hb,hT,nd,hF⟩:=F w mg fa _ KX G.T.g hmg
 have hbm:BM mg s₁.heap:=by
  obtain⟨bm,ob,b1,b2,b3,b4,b5,b6⟩:=G.T.bmain
  have bG:bm≠mainGlobals:=λz=>by
   obtain⟨o,es,ep,e,hd,_⟩:=G.T.g
   rw[z,e]at b3;cases b3;rw[hd]at b6;cases b6
  exact⟨bm,ob,b1,b2,bG,b3,b4,b5,b6⟩
 exact Zoy KX G.T.g G.T.b G.T.builtins G.T.nolimit hg hbm hobj hints (Yo hlen hn2) hr (λp hp=>⟨TX _ (hT p hp).1,(hT p hp).2⟩) nd hF hb (λH hS hTb=>hsp w mg H a ns hlen hS hTb) λH e s'=>hCX w H s₁ e s'
theorem Zmz (a v d:Value):argsOk "max" ⟨[a],[(Str.ofString "key",v),(Str.ofString "default",d)]⟩:=by unfold argsOk;kernel_rfl
noncomputable def Zdk (kz:Int->Int) (ns:List Int) (m i:Nat):Prop:=∀j,j<m->kz (nth ns j)<=kz (nth ns i)/\(j<i->kz (nth ns j)<kz (nth ns i))
theorem Zdk.one (kz:Int->Int) (ns:List Int):Zdk kz ns 1 0:=λj hj=>⟨by rw[show j=0 by omega];exact Int.le_refl _,λh=>absurd h (by omega)⟩
theorem Zdk.take {kz:Int->Int}{ns:List Int}{m i:Nat} (h:Zdk kz ns m i) (hi:i<m) (c:kz (nth ns m)>kz (nth ns i)):Zdk kz ns (m+1) m:=λj hj=>by
 by_cases e:j=m
 ·subst e;exact⟨Int.le_refl _,λh=>absurd h (by omega)⟩
 ·have:=(h j (by omega)).1
  exact⟨by omega,λ_=>by omega⟩
theorem Zdk.keep {kz:Int->Int}{ns:List Int}{m i:Nat} (h:Zdk kz ns m i) (hi:i<m) (c:¬ kz (nth ns m)>kz (nth ns i)):Zdk kz ns (m+1) i:=λj hj=>by
 by_cases e:j=m
 ·subst e;exact⟨by omega,λz=>absurd z (by omega)⟩
 ·exact h j (by omega)
section
variable {X:Cx}
theorem ZaM {σ:St}{H':Hp}{s':Shared}{ps:List (Addr×Obj)}{x:Addr}{o:Obj} (J:Inv X ps σ H' s') (hm:(x,o)∈ps):s'.heap.get? x=some o/\H' x=none/\x≠X.env.locals/\x∉X.fs/\(∀v,o.data≠.cell v)/\∀y cc,X.env.cells.lookup y=some cc->cc≠x:=by
 obtain⟨q1,q2,q3,q4,q5⟩:=J.pin _ (Yl _ hm)
 refine⟨q1,q2,q3,q4,q5,λy cc hc z=>?_⟩
 obtain⟨v,oc,w1,w2⟩:=J.cell y cc hc
 rw[z,q1]at w1;cases w1;exact q5 _ w2
theorem Zoz {pins:List (Addr×Obj)}{σ:St}{H:Hp}{A:Around}{R:Result->Shared->Prop}{d:Value}{dk:Str}{l I S q:Addr}{ns:List Int}{kz:Int->Int}
  (hh:A.handled=none) (hlI:l≠I) (hSI:S≠I) (hI0:X.s₀.heap.objs.size<=I) (hS0:X.s₀.heap.objs.size<=S) (hp:∀p∈X.pn++pins,p.1≠I/\p.1≠S) (hl:H l=some (.lst (ns.map V.int)))
  (turn:∀(H':Hp) (s':Shared) (pins':List (Addr×Obj)) (n:Int) (u:Value),n∈ns->Inv X pins' σ H' s'->Ze H H'->RelV (.int n) u->wpAny (model X.prog X.w) A.in1 (call (.ref q) [u]) (EP X pins' σ λv H2=>v=.int (kz n)/\Ze H' H2) (λ_ _=>False) s')
  (hR0:ns=[]->∀H' s',Inv X pins σ H' s'->Ze H H'->R (.ok (.ret d)) s')
  (hR:∀(i:Nat) (v:Value) H' s',i<ns.length->RelV (.int (nth ns i)) v->Zdk kz ns ns.length i->Inv X pins σ H' s'->Ze H H'->R (.ok (.ret v)) s') :
  ∀(r j:Nat) (H':Hp) (s':Shared) (buf:Array Value) (c:Nat) (oI:Obj),ns.length-j=r->j<=ns.length->Inv X ((S,seqObj "list" buf c)::(I,oI)::pins) σ H' s'->Ze H H'->s'.heap.IsListIter I l j ->
   ((j=0/\buf=#[])\/∃(i:Nat) (vb:Value) (tb:Tok),i<j/\buf=#[vb,.int (kz (nth ns i)) tb]/\RelV (.int (nth ns i)) vb/\Zdk kz ns j i) ->
   codeAny (model X.prog X.w) A (.builtin "max.loop" ⟨[.ref I,.ref q,.ref S],[(dk,d)]⟩) R s':=by
 have hname:(toString "max"++toString ".loop":String)="max.loop":=by decide
 intro r
 induction r with
 |zero =>
  intro j H' s' buf c oI hr hj J sm hit hb
  have hjn:j=ns.length:=by omega
  obtain⟨oS,nS,lS,fS,_,cS⟩:=ZaM J (Yz ..)
  obtain⟨oI',nI,lI,fI,dI,cI⟩:=ZaM J (YD _ (Yz ..))
  obtain⟨its,rv,pl,_⟩:=J.list (SqL.of (sm _ _ hl))
  have hlen:its.length=ns.length:=by have:=rv.length;rw[Yf]at this;omega
  have hsz:its.toArray.size=its.length:=Yv ..
  have W:=Walks.list (prog:=X.prog) (w:=X.w) (A:=A.in1) hh I l hlI its.toArray
  have J0:Inv X pins σ H' s':=J.ZX λp hp'=>J.pin p (Yl _ (YD _ (YD _ hp')))
  refine codeAny_builtin PySem.F.entry_max_loop ?_
  rw[Around.under_plainId PySem.F.plain_max_loop _]
  show wpAny _ A.in1 (seqItems? (.ref S) >>= _) _ _ _
  refine Ya (wpAny_seqItems oS rfl ?_)
  rcases hb with⟨hj0,rfl⟩|⟨i,vb,tb,hi,rfl,rvb,hB⟩
  ·refine Ya (wpAny_tryCatch (W.done _ _ _ ⟨by rw[hsz,hlen,<-hjn];exact hit,pl.isList⟩ λh' tk' hk'=>?_))
   refine Ya (wpAny_rule (Yc ?_))
   exact hR0 (List.length_eq_zero_iff.mp (by omega)) H' _ (J0.turned (it:=I) (λb o nb e=>hk' b o (by simpa using nb) e) nI lI (.inr hI0) cI λp hp'=>(hp p hp').1) sm
  ·refine Ya (wpAny_tryCatch (W.done _ _ _ ⟨by rw[hsz,hlen,<-hjn];exact hit,pl.isList⟩ λh' tk' hk'=>?_))
   have hS':=hk' S _ (by simpa using hSI) oS
   have J1:=J0.turned (t':=tk') (h':=h') (it:=I) (λb o nb e=>hk' b o (by simpa using nb) e) nI lI (.inr hI0) cI λp hp'=>(hp p hp').1
   refine Ya (wpAny_updateSeq hS' rfl ?_ (show 2<=sizeLine by decide) (Yr _))
   refine Ya (wpAny_letGo (Yc ?_))
   have J2:=J1.turned (t':=tk') (h':=h'.update S (Obj.mapSeq λ_=>(#[]:Array Value))) (it:=S) (λb o nb e=>(Heap.get?_update_ne _ _ _ _ nb).trans e) nS lS (.inr hS0) cS λp hp'=>(hp p hp').2
   exact hR i vb H' _ (by omega) rvb (hjn▸hB) J2 sm
 |succ r ih =>
  intro j H' s' buf c oI hr hj J sm hit hb
  have hlt:j<ns.length:=by omega
  obtain⟨oS,nS,lS,fS,_,cS⟩:=ZaM J (Yz ..)
  obtain⟨oI',nI,lI,fI,dI,cI⟩:=ZaM J (YD _ (Yz ..))
  obtain⟨its,rv,pl,_⟩:=J.list (SqL.of (sm _ _ hl))
  have hlen:its.length=ns.length:=by have:=rv.length;rw[Yf]at this;omega
  have hsz:its.toArray.size=its.length:=Yv ..
  have W:=Walks.list (prog:=X.prog) (w:=X.w) (A:=A.in1) hh I l hlI its.toArray
  have J0:Inv X ((S,seqObj "list" buf c)::pins) σ H' s':=J.ZX λp hp'=>J.pin p (Yl _ (by
   rcases Ym.mp hp' with z|z
   ·exact Ym.mpr (.inl z)
   ·exact YD _ (YD _ z)))
  refine codeAny_builtin PySem.F.entry_max_loop ?_
  rw[Around.under_plainId PySem.F.plain_max_loop _]
  show wpAny _ A.in1 (seqItems? (.ref S) >>= _) _ _ _
  refine Ya (wpAny_seqItems oS rfl ?_)
  have step:∀(v:Value) (h':Heap) (tk':Nat),its.toArray[j]?=some v->h'.IsListIter I l (j+1)/\h'.IsList l its.toArray->(∀b o,b∉[I]->s'.heap.get? b=some o->h'.get? b=some o)->RelV (.int (nth ns j)) v/\∃oI2,h'.get? I=some oI2/\Inv X ((S,seqObj "list" buf c)::(I,oI2)::pins) σ H' {s' with heap:=h',toks:=tk'}:=λv h' tk' hP hst hk'=>by
   refine⟨?_,?_⟩
   ·obtain⟨v',e1,e2⟩:=rv.get (i:=j) (x:=V.int (nth ns j)) (by unfold nth;rw[YL,Yn,Yi hlt];rfl)
    have:its[j]?=some v:=by simpa using hP
    rw[e1]at this;cases this;exact e2
   ·obtain⟨oI2,g2,hcls,hdat⟩:=id hst.1
    have J1:=J0.turned (t':=tk') (h':=h') (it:=I) (λb o nb e=>hk' b o (by simpa using nb) e) nI lI (.inr hI0) cI λp hp'=>by
     rcases Yq.mp hp' with z|z
     ·exact(hp p (YA _ z)).1
     ·rcases Ym.mp z with rfl|z
      ·exact hSI
      ·exact(hp p (Yl _ z)).1
    refine⟨oI2,g2,J1.ZX λp hp'=>?_⟩
    rcases Ym.mp hp' with rfl|hp'
    ·exact J1.pin _ (Yl _ (Yz ..))
    ·rcases Ym.mp hp' with rfl|hp'
     ·exact⟨g2,nI,lI,fI,λv z=>by rw[hdat]at z;cases z⟩
     ·exact J1.pin _ (Yl _ (YD _ hp'))
  have write:∀{H2:Hp}{s2:Shared}{oI2:Obj} (v:Value) (t2:Tok) (b2:Array Value) (c0:Nat),Inv X ((S,seqObj "list" b2 c0)::(I,oI2)::pins) σ H2 s2->∃c2,Inv X ((S,seqObj "list" #[v,.int (kz (nth ns j)) t2] c2)::(I,oI2)::pins) σ H2 {s2 with heap:=s2.heap.update S (Obj.mapSeq λ_=>#[v,.int (kz (nth ns j)) t2])}:=λ{H2 s2 oI2} v t2 b2 c0 K=>by
   obtain⟨o2,n2,l2,f2,_,cc2⟩:=ZaM K (Yz ..)
   obtain⟨c2,hc2⟩:∃c2,(s2.heap.update S (Obj.mapSeq λ_=>#[v,.int (kz (nth ns j)) t2])).get? S=some (seqObj "list" #[v,.int (kz (nth ns j)) t2] c2):=⟨_,get?_update_seq o2 λ_=>#[v,.int (kz (nth ns j)) t2]⟩
   have K0:Inv X ((I,oI2)::pins) σ H2 s2:=K.ZX λp hp'=>K.pin p (Yl _ (YD _ hp'))
   have K1:=K0.turned (t':=s2.toks) (h':=s2.heap.update S (Obj.mapSeq λ_=>#[v,.int (kz (nth ns j)) t2])) (it:=S) (λb o nb e=>(Heap.get?_update_ne _ _ _ _ nb).trans e) n2 l2 (.inr hS0) cc2 λp hp'=>by
    rcases Yq.mp hp' with z|z
    ·exact(hp p (YA _ z)).2
    ·rcases Ym.mp z with rfl|z
     ·exact hSI.symm
     ·exact(hp p (Yl _ z)).2
   refine⟨c2,K1.ZX λp hp'=>?_⟩
   rcases Ym.mp hp' with rfl|hp'
   ·exact⟨hc2,n2,l2,f2,λv z=>by cases z⟩
   ·exact K1.pin p (Yl _ hp')
  have mem:nth ns j∈ns:=by unfold nth;rw[Yn,Yi hlt];exact YC hlt
  rcases hb with⟨hj0,rfl⟩|⟨i,vb,tb,hi,rfl,rvb,hB⟩
  ·refine Ya (wpAny_tryCatch (W.item j _ _ _ (by rw[hsz,hlen];exact hlt) ⟨hit,pl.isList⟩ λv h' tk' hP hst' hk'=>?_))
   obtain⟨rj,oI2,gI,J2⟩:=step v h' tk' hP hst' hk'
   obtain⟨oI3,gI3,hcls,hdat⟩:=id hst'.1
   rw[gI]at gI3;cases gI3
   refine Ya (wpAny_tryCatch (wpAny_holding (Yy (turn H' _ _ _ v mem J2 sm rj) (λx s'' he=>?_) λ_ _ hF=>hF.elim)))
   obtain⟨x2,H2,J3,r2,rfl,sm2⟩:=he
   obtain⟨t2,rfl⟩:=r2
   obtain⟨oS3,_⟩:=ZaM J3 (Yz ..)
   obtain⟨oI4,_⟩:=ZaM J3 (YD _ (Yz ..))
   obtain⟨c2,J4⟩:=write v t2 _ _ J3
   refine Ya (wpAny_updateSeq oS3 rfl ?_ (Yr _) (show 2<=sizeLine+1 by decide))
   rw[hname]
   refine Yc ⟨plainId_quiet PySem.F.plain_max_loop _,ih (j+1) H2 _ _ c2 oI2 (by omega) hlt J4 (sm.trans sm2) ⟨oI2,(Heap.get?_update_ne _ _ _ _ hSI.symm).trans oI4,hcls,hdat⟩ (.inr ⟨j,v,t2,by omega,rfl,rj,?_⟩)⟩
   subst hj0;exact Zdk.one kz ns
  ·refine Ya (wpAny_tryCatch (W.item j _ _ _ (by rw[hsz,hlen];exact hlt) ⟨hit,pl.isList⟩ λv h' tk' hP hst' hk'=>?_))
   obtain⟨rj,oI2,gI,J2⟩:=step v h' tk' hP hst' hk'
   obtain⟨oI3,gI3,hcls,hdat⟩:=id hst'.1
   rw[gI]at gI3;cases gI3
   refine Ya (wpAny_tryCatch (wpAny_holding (Yy (turn H' _ _ _ v mem J2 sm rj) (λx s'' he=>?_) λ_ _ hF=>hF.elim)))
   obtain⟨x2,H2,J3,r2,rfl,sm2⟩:=he
   obtain⟨t2,rfl⟩:=r2
   obtain⟨oS3,_⟩:=ZaM J3 (Yz ..)
   obtain⟨oI4,_⟩:=ZaM J3 (YD _ (Yz ..))
   refine Ya (wpAny_tryCatch (wpAny_holding (Ya (CmpOf.ints_gt (prog:=X.prog) (w:=X.w) (A:=A.in1) (P:=λi v=>∃t,v=.int (kz (nth ns i)) t) (λi=>kz (nth ns i)) (λi v h=>h) j i _ _ _ _ _ ⟨t2,rfl⟩ ⟨tb,rfl⟩ ?_))))
   refine Ya (wpAny_holding (wpAny_truthy_bool ?_))
   refine Ya (wpAny_letGo (Yc ?_))
   by_cases hb':kz (nth ns j)>kz (nth ns i)
   ·simp only[hb',decide_true,if_true]
    obtain⟨c2,J4⟩:=write v t2 _ _ J3
    refine Ya (wpAny_updateSeq oS3 rfl (Ya (wpAny_letGo ?_)) (show 2<=sizeLine by decide) (show 2<=sizeLine+1 by decide))
    rw[hname]
    exact Yc ⟨plainId_quiet PySem.F.plain_max_loop _,ih (j+1) H2 _ _ c2 oI2 (by omega) hlt J4 (sm.trans sm2) ⟨oI2,(Heap.get?_update_ne _ _ _ _ hSI.symm).trans oI4,hcls,hdat⟩ (.inr ⟨j,v,t2,by omega,rfl,rj,hB.take hi hb'⟩)⟩
   ·simp only[hb',decide_false,Bool.false_eq_true,if_false]
    refine Ya (wpAny_letGo ?_)
    rw[hname]
    exact Yc ⟨plainId_quiet PySem.F.plain_max_loop _,ih (j+1) H2 _ _ c oI2 (by omega) hlt J3 (sm.trans sm2) ⟨oI2,oI4,hcls,hdat⟩ (.inr ⟨i,vb,tb,by omega,rfl,rvb,hB.keep hi hb'⟩)⟩
theorem maxKD {pins:List (Addr×Obj)}{σ:St}{H:Hp}{s:Shared}{l q:Addr}{ns:List Int}{kz:Int->Int}{d:Value}{dv:V}{Q:VK} (I:Inv X pins σ H s) (hc:X.calm=true) (hl:H l=some (.lst (ns.map V.int))) (rd:RelV dv d)
  (turn:∀(H':Hp) (s':Shared) (pins':List (Addr×Obj)) (n:Int) (u:Value),n∈ns->Inv X pins' σ H' s'->Ze H H'->RelV (.int n) u->wpAny (model X.prog X.w) X.A.in1 (call (.ref q) [u]) (EP X pins' σ λv H2=>v=.int (kz n)/\Ze H' H2) (λ_ _=>False) s')
  (fin0:ns=[]->∀H',Ze H H'->Q dv H') (fin:∀i H',i<ns.length->Zdk kz ns ns.length i->Ze H H'->Q (.int (nth ns i)) H') :
  wpAny (model X.prog X.w) X.A (call (.builtin "max") [.ref l] [(Str.ofString "key",.ref q),(Str.ofString "default",d)]) (EP X pins σ Q) X.xe s:=by
 have hname:(toString "max"++toString ".loop":String)="max.loop":=by decide
 obtain⟨its,rv,pl,_⟩:=I.list (SqL.of hl)
 obtain⟨ol,hol,_⟩:=id pl.isList
 have hll:l<s.heap.objs.size:=Yk hol
 refine kmk_tree PySem.F.kind_max PySem.F.plain_max PySem.F.entry_max (Zmz _ _ _) ?_
 show wpAny _ X.A.in1 (Builtin.Builtins.bindParams "max" ["key","default"] 0 ⟨[],[(Str.ofString "key",.ref q),(Str.ofString "default",d)]⟩ >>= _) _ _ s
 refine Ya (wpAny_of_eq (show Builtin.Builtins.bindParams "max" ["key","default"] 0 ⟨[],[(Str.ofString "key",.ref q),(Str.ofString "default",d)]⟩=pure [some (.ref q),some d]from rfl) ?_)
 refine Ya (Yc ?_)
 refine Ya (wpAny_pyIter_list pl.isList ?_)
 refine Ya (wpAny_newList ?_ (Yr _))
 rw[hname]
 refine Yc ⟨plainId_quiet PySem.F.plain_max_loop _,?_⟩
 have hS:(s.heap.push {cls:=.type "list_iterator",data:=.fields #[.ref l,.int 0 0]}).objs.size=s.heap.objs.size+1:=size_push' ..
 have I2:=I.kept (h':=(s.heap.push {cls:=.type "list_iterator",data:=.fields #[.ref l,.int 0 0]}).push (seqObj "list" #[] 0)) (t':=s.toks) λb o e=>Yh _ (Yh _ e)
 have gI:((s.heap.push {cls:=.type "list_iterator",data:=.fields #[.ref l,.int 0 0]}).push (seqObj "list" #[] 0)).get? s.heap.objs.size=some {cls:=.type "list_iterator",data:=.fields #[.ref l,.int 0 0]}:=Yh _ (Yt _ rfl)
 have gS:((s.heap.push {cls:=.type "list_iterator",data:=.fields #[.ref l,.int 0 0]}).push (seqObj "list" #[] 0)).get? (s.heap.objs.size+1)=some (seqObj "list" #[] 0):=by rw[<-hS];exact Yt _ rfl
 rw[hS]
 refine Zoz (pins:=pins) (H:=H) (ns:=ns) (kz:=kz) (I.ok.hd hc) (Yp hll) (Nat.ne_of_gt (Nat.lt_succ_self _)) I.sz (Nat.le_succ_of_le I.sz) (λp hp=>?_) hl turn (λz H' s' J sm=>⟨dv,H',J,rd,fin0 z H' sm⟩) (λi v H' s' hi r hB J sm=>⟨.int (nth ns i),H',J,r,fin i H' hi hB sm⟩) _ 0 H _ #[] 0 {cls:=.type "list_iterator",data:=.fields #[.ref l,.int 0 0]} rfl (Yr _) (I2.ZX λp hp=>?_) (Ze.refl H) ⟨_,gI,rfl,rfl⟩ (.inl ⟨rfl,rfl⟩)
 ·have:=Yk (I.pin p hp).1
  exact⟨Yp this,Yp (YV this)⟩
 ·rcases Ym.mp hp with rfl|hp
  ·exact⟨gS,I.hok.fresh (YU _),Nat.ne_of_gt (YV I.lt),I.ZlV (YU _),λv z=>by cases z⟩
  ·rcases Ym.mp hp with rfl|hp
   ·exact⟨gI,I.hok.fresh (Ye _),Nat.ne_of_gt I.lt,I.ZlV (Ye _),λv z=>by cases z⟩
   ·exact I2.pin p (Yl _ hp)
noncomputable def ZmA (ta td:TA) (tb:TE) (js:List (Option Nat)) (env:Env) (P:Addr) (q:Str) (params:Arguments) (body:Expr) (scope:Scope):TE:=fun σ H Q=>ta σ H λvs H1=>td σ H1 λzs H2=>∃(p f:Addr) (dv:V) (ns:List Int) (kz:Int->Int),
 vs=[.ref p]/\zs=[.ref f,dv]/\H2 p=some (.lst (ns.map V.int))/\Zk9 env P q params body scope H2 f /\
 (∀n H3,n∈ns->Ze H2 H3->tb ((Z3 js σ).set 0 (some (.int n))) H3 λv H4=>v=.int (kz n)/\Ze H3 H4) /\
 (ns=[]->∀H3,Ze H2 H3->Q dv H3)/\∀i H3,i<ns.length->Zdk kz ns ns.length i->Ze H2 H3->Q (.int (nth ns i)) H3
theorem Zqx {Nc:List Str}{js:List (Option Nat)}{q pn:Str}{params:Arguments}{body:Expr}{scope:Scope}{P:Addr}{ta td:TA}{tb:TE}{m:Nat}{e:Expr}{e2:Expr}{p pos lpos kp1 kp2:Pos} (hc:X.calm=true) (hr:Room m X.A) (S:LamSc X Nc js params body scope pn)
  (hbody:∀cl L f c s H,PE (Zjs X X.A.in1 Nc q scope cl L f c s H) body tb) (hg:Gl X "max") (hm:X.mg "max"=none) (ha:PA X [e] ta) (hd:PK X [⟨some (Str.ofString "key"),.Lambda params body scope lpos,kp1⟩,⟨some (Str.ofString "default"),e2,kp2⟩] td)
  (hpl:(backTo pos (starEach [e] X.env)).any (·.1)=false:=by rfl) (hall:(backToKw pos (keywordEach [⟨some (Str.ofString "key"),.Lambda params body scope lpos,kp1⟩,⟨some (Str.ofString "default"),e2,kp2⟩] X.env)).all (·.1.isSome)=true:=by rfl)
  (hnn:(backToKw pos (keywordEach [⟨some (Str.ofString "key"),.Lambda params body scope lpos,kp1⟩,⟨some (Str.ofString "default"),e2,kp2⟩] X.env)).any (·.1.isNone)=false:=by rfl) (hks:(backToKw pos (keywordEach [⟨some (Str.ofString "key"),.Lambda params body scope lpos,kp1⟩,⟨some (Str.ofString "default"),e2,kp2⟩] X.env)).filterMap (·.1)=[Str.ofString "key",Str.ofString "default"]:=by rfl) (hb:backTo pos (starEach [e] X.env)=(false,eval e X.env)::backTo pos (starEach [] X.env):=by rfl) :
  PE X (.Call (.Name "max" p) [e] [⟨some (Str.ofString "key"),.Lambda params body scope lpos,kp1⟩,⟨some (Str.ofString "default"),e2,kp2⟩] pos) (ZmA ta td tb js X.env P q params body scope):=by
 intro pins s σ H Q I h
 refine wpAny_Call_Name_kw (Zcn I hg hm ZhE ?_)
 refine PyProof.Rows.callWith_kw (thn (ha pos pins s σ H _ I h) λus s1 ⟨vs,H1,I1,r1,q1⟩=>?_) hb hpl hall hnn
 refine thn (hd pos pins s1 σ H1 _ I1 q1) λws s2 ⟨zs,H2,I2,r2,pp,f,dv,ns,kz,e1,e2,hp,L,tn,fin0,fin⟩=>?_
 subst e1 e2
 obtain⟨u,rfl,ru⟩:=r1.one
 cases(show u=Value.ref pp from ru)
 rw[hks]
 obtain⟨v,v2,rfl,rv,rv2⟩:=r2.two
 cases(show v=Value.ref f from rv)
 exact maxKD (kz:=kz) I2 hc hp rv2 (λH' s' pins' n u hn J sm r=>Zla S hbody J J.ok.frames J.ok.hd hr.depth (L.same sm) r (tn n H' hn sm)) fin0 fin
end
section
variable {prog:Program}{w:World}{A:Around}{E:Value->Shared->Prop}{s:Shared}{κ:SortKind}{P:Keyed->Prop}{ky:Keyed->Int}
noncomputable def Zeg (prog:Program) (w:World) (A:Around) (s:Shared) (κ:SortKind) (P:Keyed->Prop) (ky:Keyed->Int):Prop :=
 ∀x y,P x->P y->∀C:Bool->Shared->Prop,C (decide (ky x<ky y)) s->wpAny (model prog w) A (keyLt' κ x.1 y.1) C (λ_ _=>False) s
theorem Zle (hc:Zeg prog w A s κ P ky) {x y:Keyed}{st:SortSt}{Q:Option Bool->SortSt->Prop} (hk:PyProof.Rows.kindOf st=κ) (hx:P x) (hy:P y) (h:Q (some (decide (ky x<ky y))) st):wpS (model prog w) A E s (lt' x y) Q st:=by
 rw[lt'_eq]
 refine Yg (wpS_get ?_)
 refine Yg (wpS_lift ?_)
 refine wpAny_attempt ?_
 rw[hk]
 refine Yy (hc x y hx hy (λb s'=>s'=s/\b=decide (ky x<ky y)) ⟨rfl,rfl⟩) ?_ (λ_ _ z=>z.elim)
 rintro b s' ⟨rfl,rfl⟩
 exact⟨rfl,Yj h⟩
theorem ZP {arr:Array Keyed}{i:Nat}{st:SortSt}{Q:Keyed->SortSt->Prop} (hi:i<arr.size) (h:Q (arr[i]'hi) st):wpS (model prog w) A E s (elem' arr i) Q st:=by
 rw[elem'_eq,getElem?_pos arr i hi]
 exact Yj h
noncomputable def Zsp:Bool->Keyed->Array Keyed->Nat->Nat->Nat->StateT SortSt Sem (Option Nat):=sortPriv% PySem.Builtin.gallop
theorem Zck {left:Bool}{key:Keyed}{arr:Array Keyed}{base n hint:Nat}{st:SortSt}{Q:Option Nat->SortSt->Prop}{f:Nat->Bool}
  (hc:Zeg prog w A s κ P ky) (hk:PyProof.Rows.kindOf st=κ) (hkey:P key) (hP:∀i,(h:i<arr.size)->P arr[i]) (hn:base+n<=arr.size) (hh:hint<n)
  (hf:∀i,(h:base+i<arr.size)->f i=if left then decide (ky arr[base+i]<ky key)else !decide (ky key<ky arr[base+i]))
  (hm:∀i j,i<=j->j<n->f j=true->f i=true)
  (hQ:∀r,r<=n->(∀i,i<r->f i=true)->(∀i,r<=i->i<n->f i=false)->Q (some r) st) :
  wpS (model prog w) A E s (Zsp left key arr base n hint) Q st:=by
 have hb:∀i,i<n->∀{R:Option Bool->SortSt->Prop},R (some (f i)) st->wpS (model prog w) A E s (do
   let x <-elem' arr (base+i)
   if left=true then lt' x key else do
    let c <-lt' key x
    pure (Option.map (λx=>!x) c)) R st:=by
  intro i hi R hR
  have hlt:base+i<arr.size:=by omega
  refine Yg (ZP hlt ?_)
  rw[hf i hlt]at hR
  cases left with
  |true=>exact Zle hc hk (hP _ hlt) hkey hR
  |false=>exact Yg (Zle hc hk hkey (hP _ hlt) (Yj hR))
 have hbin:∀lo hi,lo<=hi->hi<=n->(∀i,i<lo->f i=true)->(∀i,hi<=i->i<n->f i=false)->∀(body:Nat->Option (Option Nat)×Nat×Nat->StateT SortSt Sem (ForInStep (Option (Option Nat)×Nat×Nat))) (R:Option (Option Nat)×Nat×Nat->SortSt->Prop),
   (∀x c,body x c=if c.2.1 ≥ c.2.2 then pure (ForInStep.done (none,c.2.1,c.2.2))else do
    let r <-(do
     let x <-elem' arr (base+(c.2.1+(c.2.2-c.2.1) / 2))
     if left=true then lt' x key else do
      let c <-lt' key x
      pure (Option.map (λx=>!x) c))
    match r with
    |some more=>if more=true then pure (ForInStep.yield (none,c.2.1+(c.2.2-c.2.1) / 2+1,c.2.2))else pure (ForInStep.yield (none,c.2.1,c.2.1+(c.2.2-c.2.1) / 2))
    |x=>pure (ForInStep.done (some none,c.2.1,c.2.2))) ->
   (∀r,r<=n->(∀i,i<r->f i=true)->(∀i,r<=i->i<n->f i=false)->R (none,r,r) st)->wpS (model prog w) A E s (forIn [:n] (none,lo,hi) body) R st:=by
  intro lo hi hlh hhn h1 h2 body R hbody hR
  refine wpS_forRange (λt c st'=>st'=st/\c.1=none/\c.2.1<=c.2.2/\c.2.2<=n/\(∀i,i<c.2.1->f i=true)/\(∀i,c.2.2<=i->i<n->f i=false)/\c.2.2-c.2.1<=n-t) ?_ ?_ ⟨rfl,rfl,hlh,hhn,h1,h2,by show hi-lo<=n-0;omega⟩
  ·rintro t ⟨r,lo,hi⟩ st' _ ht ⟨rfl,e,a1,a2,a3,a4,a5⟩
   rw[hbody]
   simp only at e a1 a2 a3 a4 a5⊢
   by_cases hge:lo ≥ hi
   ·rw[Yd hge]
    have:lo=hi:=by omega
    subst this
    exact Yj (hR lo a2 a3 a4)
   ·rw[Yb hge]
    refine Yg (hb _ (by omega) ?_)
    cases hv:f (lo+(hi-lo) / 2)with
    |true =>
     refine Yj ⟨rfl,rfl,?_,a2,?_,a4,?_⟩
     ·show lo+(hi-lo) / 2+1<=hi;omega
     ·intro i hi2;exact hm i (lo+(hi-lo) / 2) (by simp only at hi2;omega) (by omega) hv
     ·show hi-(lo+(hi-lo) / 2+1)<=n-(t+1);omega
    |false =>
     refine Yj ⟨rfl,rfl,?_,?_,a3,?_,?_⟩
     ·show lo<=lo+(hi-lo) / 2;omega
     ·show lo+(hi-lo) / 2<=n;omega
     ·intro i hi2 hi3
      cases hz:f i with
      |false=>rfl
      |true=>rw[hm (lo+(hi-lo) / 2) i hi2 hi3 hz]at hv;cases hv
     ·show lo+(hi-lo) / 2-lo<=n-(t+1);omega
  ·rintro⟨r,lo,hi⟩ st' ⟨rfl,e,a1,a2,a3,a4,a5⟩
   simp only at e a1 a2 a3 a4 a5
   have:lo=hi:=by
    have:max 0 n=n:=by omega
    rw[this]at a5;omega
   subst this;subst e
   exact hR lo a2 a3 a4
 refine Yg (hb hint hh ?_)
 cases hv:f hint with
 |true =>
  refine Yg (wpS_mono (Q:=λ(c:Option (Option Nat)×Nat×Nat) (st':SortSt)=>st'=st/\c.1=none/\hint+c.2.1<n/\c.2.1<c.2.2/\f (hint+c.2.1)=true/\(n-hint<=c.2.2\/(hint+c.2.2<n/\f (hint+c.2.2)=false))) (wpS_forRange (λ(t:Nat) (c:Option (Option Nat)×Nat×Nat) (st':SortSt)=>st'=st/\c.1=none/\c.2.1<c.2.2/\hint+c.2.1<n/\f (hint+c.2.1)=true/\t+1<=c.2.2) ?_ ?_ ⟨rfl,rfl,Nat.zero_lt_one,by show hint+0<n;omega,hv,Ye _⟩) ?_)
  ·rintro t ⟨r,lo,of⟩ st' _ ht ⟨rfl,e,a1,a2,a3,a4⟩
   simp only at e a1 a2 a3 a4⊢
   split
   ·rename_i hge
    exact Yj ⟨rfl,rfl,a2,a1,a3,.inl hge⟩
   ·rename_i hge
    refine Yg (hb (hint+of) (by omega) ?_)
    cases hw:f (hint+of)with
    |true=>exact Yj ⟨rfl,rfl,by show of<2*of+1;omega,by show hint+of<n;omega,hw,by show t+1+1<=2*of+1;omega⟩
    |false=>exact Yj ⟨rfl,rfl,a2,a1,a3,.inr ⟨by show hint+of<n;omega,hw⟩⟩
  ·rintro⟨r,lo,of⟩ st' ⟨rfl,e,a1,a2,a3,a4⟩
   simp only at e a1 a2 a3 a4
   exact⟨rfl,e,a2,a1,a3,.inl (by show n-hint<=of;omega)⟩
  ·rintro⟨r,lo,of⟩ st' ⟨rfl,e,a1,a2,a3,a4⟩
   simp only at e a1 a2 a3 a4⊢
   subst e
   refine Yg (hbin (hint+lo+1) (hint+min of (n-hint)) (by omega) (by omega) ?_ ?_ _ _ (λx c=>rfl) ?_)
   ·intro i hi;exact hm i (hint+lo) (by omega) a1 a3
   ·intro i h1 h2
    cases hz:f i with
    |false=>rfl
    |true =>
     rcases a4 with a4|⟨a4,a5⟩
     ·omega
     ·rw[hm (hint+of) i (by omega) h2 hz]at a5;cases a5
   ·intro r h1 h2 h3
    exact Yj (hQ r h1 h2 h3)
 |false =>
  refine Yg (wpS_mono (Q:=λ(c:Option (Option Nat)×Nat×Nat) (st':SortSt)=>st'=st/\c.1=none/\c.2.1<=hint/\c.2.1<c.2.2/\f (hint-c.2.1)=false/\(hint+1<=c.2.2\/(c.2.2<=hint/\f (hint-c.2.2)=true))) (wpS_forRange (λ(t:Nat) (c:Option (Option Nat)×Nat×Nat) (st':SortSt)=>st'=st/\c.1=none/\c.2.1<c.2.2/\c.2.1<=hint/\f (hint-c.2.1)=false/\t+1<=c.2.2) ?_ ?_ ⟨rfl,rfl,Nat.zero_lt_one,Yr _,hv,Ye _⟩) ?_)
  ·rintro t ⟨r,lo,of⟩ st' _ ht ⟨rfl,e,a1,a2,a3,a4⟩
   simp only at e a1 a2 a3 a4⊢
   split
   ·rename_i hge
    exact Yj ⟨rfl,rfl,a2,a1,a3,.inl hge⟩
   ·rename_i hge
    refine Yg (hb (hint-of) (by omega) ?_)
    cases hw:f (hint-of)with
    |false=>exact Yj ⟨rfl,rfl,by show of<2*of+1;omega,by show of<=hint;omega,hw,by show t+1+1<=2*of+1;omega⟩
    |true=>exact Yj ⟨rfl,rfl,a2,a1,a3,.inr ⟨by show of<=hint;omega,hw⟩⟩
  ·rintro⟨r,lo,of⟩ st' ⟨rfl,e,a1,a2,a3,a4⟩
   simp only at e a1 a2 a3 a4
   exact⟨rfl,e,a2,a1,a3,.inl (by show hint+1<=of;omega)⟩
  ·rintro⟨r,lo,of⟩ st' ⟨rfl,e,a1,a2,a3,a4⟩
   simp only at e a1 a2 a3 a4⊢
   subst e
   refine Yg (hbin (hint+1-min of (hint+1)) (hint-lo) (by omega) (by omega) ?_ ?_ _ _ (λx c=>rfl) ?_)
   ·intro i hi
    rcases a4 with a4|⟨a4,a5⟩
    ·omega
    ·exact hm i (hint-of) (by omega) (by omega) a5
   ·intro i h1 h2
    cases hz:f i with
    |false=>rfl
    |true=>rw[hm (hint-lo) i (by omega) h2 hz]at a3;cases a3
   ·intro r h1 h2 h3
    exact Yj (hQ r h1 h2 h3)
end
section
variable {ky:Keyed->Int}
noncomputable def Srt (ky:Keyed->Int) (l:List Keyed):Prop:=l.Pairwise (λx y=>ky x<=ky y)
structure Mg (ky:Keyed->Int) (a b:List Keyed) (out:List Keyed) (ia ib:Nat):Prop where
 perm:out.Perm (a.take ia++b.take ib)
 srt:Srt ky out
 le:∀x,x∈out->∀y,y∈a.drop ia\/y∈b.drop ib->ky x<=ky y
variable {a b out:List Keyed}{ia ib:Nat}
theorem Mg.swap (h:Mg ky a b out ia ib):Mg ky b a out ib ia:=⟨h.perm.trans List.perm_append_comm,h.srt,λx hx y hy=>h.le x hx y hy.symm⟩
theorem Mg.ZnA (ha:Srt ky a) (h:Mg ky a b out ia ib) (hia:ia<a.length) (hle:∀y,y∈b.drop ib->ky a[ia]<=ky y):Mg ky a b (out++[a[ia]]) (ia+1) ib:=by
 have e:a.drop ia=a[ia]::a.drop (ia+1):=List.drop_eq_getElem_cons hia
 have hs:∀y,y∈a.drop (ia+1)->ky a[ia]<=ky y:=by
  have:Srt ky (a.drop ia):=List.Pairwise.sublist (List.drop_sublist _ _) ha
  rw[e]at this
  exact(Y0.mp this).1
 refine⟨?_,?_,?_⟩
 ·have et:a.take (ia+1)=a.take ia++[a[ia]]:=by rw[Y5,Yi hia];rfl
  rw[et,YT]
  refine(List.Perm.append_right [a[ia]] h.perm).trans ?_
  rw[YT]
  exact List.Perm.append_left _ List.perm_append_comm
 ·refine List.pairwise_append.mpr ⟨h.srt,List.pairwise_singleton _ _,?_⟩
  intro x hx y hy
  rw[Y3]at hy;subst hy
  exact h.le x hx _ (.inl (by rw[e];exact Yz))
 ·intro x hx y hy
  rcases Yq.mp hx with hx|hx
  ·refine h.le x hx y ?_
   rcases hy with hy|hy
   ·exact .inl (by rw[e];exact YD _ hy)
   ·exact .inr hy
  ·rw[Y3]at hx;subst hx
   rcases hy with hy|hy
   ·exact hs y hy
   ·exact hle y hy
theorem Mg.ZnB (ha:Srt ky a) (h:Mg ky a b out ia ib):∀k,ia+k<=a.length->(∀i,(hi:ia+i<a.length)->i<k->∀y,y∈b.drop ib->ky a[ia+i]<=ky y)->Mg ky a b (out++(a.drop ia).take k) (ia+k) ib
 |0,_,_=>by simpa using h
 |k+1,hk,hle=>by
  have h2:=(Mg.ZnB ha h k (by omega) λi hi hik=>hle i hi (by omega)).ZnA ha (by omega) (hle k (by omega) (by omega))
  have:(a.drop ia).take (k+1)=(a.drop ia).take k++[a[ia+k]]:=by
   rw[Y5,List.getElem?_drop,Yi (by omega:ia+k<a.length)];rfl
  rw[this,<-YT]
  exact h2
theorem Mg.stepB (hb:Srt ky b) (h:Mg ky a b out ia ib) (hib:ib<b.length) (hle:∀y,y∈a.drop ia->ky b[ib]<=ky y):Mg ky a b (out++[b[ib]]) ia (ib+1):=(h.swap.ZnA hb hib hle).swap
theorem Mg.bulkB (hb:Srt ky b) (h:Mg ky a b out ia ib) (k:Nat) (hk:ib+k<=b.length) (hle:∀i,(hi:ib+i<b.length)->i<k->∀y,y∈a.drop ia->ky b[ib+i]<=ky y):Mg ky a b (out++(b.drop ib).take k) ia (ib+k):=(h.swap.ZnB hb k hk hle).swap
theorem Zh2 (ha:Srt ky a) (hi:ia<a.length) {y:Keyed} (hy:y∈a.drop ia):ky a[ia]<=ky y:=by
 have:Srt ky (a.drop ia):=List.Pairwise.sublist (List.drop_sublist _ _) ha
 rw[List.drop_eq_getElem_cons hi]at this hy
 rcases Ym.mp hy with hy|hy
 ·subst hy;exact Int.le_refl _
 ·exact(Y0.mp this).1 y hy
noncomputable def Gd (ky:Keyed->Int) (a b res:List Keyed):Prop:=res.Perm (a++b)/\Srt ky res
theorem Mg.Zlf (ha:Srt ky a) (h:Mg ky a b out ia ib) (hib:b.length<=ib):Gd ky a b (out++a.drop ia):=by
 refine⟨?_,List.pairwise_append.mpr ⟨h.srt,List.Pairwise.sublist (List.drop_sublist _ _) ha,λx hx y hy=>h.le x hx y (.inl hy)⟩⟩
 refine(List.Perm.append_right _ h.perm).trans ?_
 rw[List.take_of_length_le hib,YT]
 refine(List.Perm.append_left _ List.perm_append_comm).trans ?_
 rw[<-YT,Y7]
theorem Mg.ZnC (hb:Srt ky b) (h:Mg ky a b out ia ib) (hia:a.length<=ia):Gd ky a b (out++b.drop ib):=by
 have:=h.swap.Zlf hb hia
 exact⟨this.1.trans List.perm_append_comm,this.2⟩
theorem Mg.lastA (ha:Srt ky a) (hb:Srt ky b) (h:Mg ky a b out ia ib) (hl:∀y,y∈b.drop ib->∀z,z∈a.drop ia->ky y<=ky z):Gd ky a b (out++b.drop ib++a.drop ia):=by
 refine⟨?_,?_⟩
 ·refine(List.Perm.append_right _ (List.Perm.append_right _ h.perm)).trans ?_
  rw[YT,YT]
  have e1:a++b=a.take ia++(a.drop ia++(b.take ib++b.drop ib)):=by rw[<-YT,Y7,Y7]
  rw[e1]
  refine List.Perm.append_left _ ?_
  rw[<-YT]
  exact List.perm_append_comm
 ·refine List.pairwise_append.mpr ⟨List.pairwise_append.mpr ⟨h.srt,List.Pairwise.sublist (List.drop_sublist _ _) hb,λx hx y hy=>h.le x hx y (.inr hy)⟩,List.Pairwise.sublist (List.drop_sublist _ _) ha,?_⟩
  intro x hx y hy
  rcases Yq.mp hx with hx|hx
  ·exact h.le x hx y (.inl hy)
  ·exact hl x hx y hy
variable {prog:Program}{w:World}{A:Around}{E:Value->Shared->Prop}{s:Shared}{κ:SortKind}{P:Keyed->Prop}
theorem Zp {σ α:Type}{c:Prop} [Decidable c] {m1 m2:StateT σ Sem α}{Q:α->σ->Prop}{st:σ}{M:Model} (h1:c->wpS M A E s m1 Q st) (h2:¬c->wpS M A E s m2 Q st):wpS M A E s (if c then m1 else m2) Q st:=by
 by_cases h:c
 ·rw[Yd h];exact h1 h
 ·rw[Yb h];exact h2 h
noncomputable def Zqy:Array Keyed->Array Keyed->StateT SortSt Sem (Array Keyed):=sortPriv% PySem.Builtin.mergeLo
theorem ZmB {a b:Array Keyed}{arr:Array Keyed}{pd:Array (Nat×Nat×Nat)}{g:Nat}{fl:Option Value}{Q:Array Keyed->SortSt->Prop}
  (hc:Zeg prog w A s κ P ky) (hPa:∀i,(h:i<a.size)->P a[i]) (hPb:∀i,(h:i<b.size)->P b[i]) (ha:Srt ky a.toList) (hb:Srt ky b.toList)
  (ha0:0<a.size) (hb0:0<b.size) (h0:ky b[0]<=ky a[0]) (hl:∀j,(h:j<b.size)->ky b[j]<=ky (a[a.size-1]'(by omega)))
  (hQ:∀res g',Gd ky a.toList b.toList res.toList->Q res (SortSt.mk' κ arr pd g' fl)) :
  wpS (model prog w) A E s (Zqy a b) Q (SortSt.mk' κ arr pd g fl):=by
 refine Yg (wpS_lift (wpAny_rule ⟨rfl,?_⟩))
 refine Yg (ZP hb0 ?_)
 have m0:Mg ky a.toList b.toList [] 0 0:=⟨by simp,List.Pairwise.nil,λx hx=>by cases hx⟩
 have hdA:∀i,(h:i<a.size)->∀y,y∈a.toList.drop i->ky a[i]<=ky y:=λi h y hy=>Zh2 ha (by simpa using h) hy
 have hdB:∀i,(h:i<b.size)->∀y,y∈b.toList.drop i->ky b[i]<=ky y:=λi h y hy=>Zh2 hb (by simpa using h) hy
 have m1:Mg ky a.toList b.toList #[b[0]].toList 0 1:=by
  have:=m0.stepB hb (by simpa using hb0) (λy hy=>Int.le_trans h0 (hdA 0 ha0 y hy))
  simpa using this
 have exA:∀i,(a.extract i).toList=a.toList.drop i:=λi=>by simp[Array.toList_extract,List.extract];exact List.take_of_length_le (by simp)
 have exB:∀i,(b.extract i).toList=b.toList.drop i:=λi=>by simp[Array.toList_extract,List.extract];exact List.take_of_length_le (by simp)
 have exA2:∀i k,(a.extract i (i+k)).toList=(a.toList.drop i).take k:=λi k=>by simp[Array.toList_extract,List.extract]
 have exB2:∀i k,(b.extract i (i+k)).toList=(b.toList.drop i).take k:=λi k=>by simp[Array.toList_extract,List.extract]
 have hdone:∀(out:Array Keyed) ia ib,Mg ky a.toList b.toList out.toList ia ib->b.size<=ib->Gd ky a.toList b.toList (out++a.extract ia++b.extract ib).toList:=by
  intro out ia ib m h
  rw[Array.toList_append,Array.toList_append,exA,exB,List.drop_of_length_le (l:=b.toList) (by simpa using h),List.append_nil]
  exact m.Zlf ha (by simpa using h)
 have hdone2:∀(out:Array Keyed) ia ib,Mg ky a.toList b.toList out.toList ia ib->a.size<=ia->Gd ky a.toList b.toList (out++a.extract ia++b.extract ib).toList:=by
  intro out ia ib m h
  rw[Array.toList_append,Array.toList_append,exA,exB,List.drop_of_length_le (by simpa using h),List.append_nil]
  exact m.ZnC hb (by simpa using h)
 have hlast:∀(out:Array Keyed) ia ib,Mg ky a.toList b.toList out.toList ia ib->ia+1=a.size->Gd ky a.toList b.toList (out++b.extract ib++a.extract ia).toList:=by
  intro out ia ib m h
  rw[Array.toList_append,Array.toList_append,exA,exB]
  refine m.lastA ha hb ?_
  intro y hy z hz
  have hz2:z=a[ia]'(by omega):=by
   rw[List.drop_eq_getElem_cons (by simp;omega),List.drop_of_length_le (by simp;omega)]at hz
   simpa using hz
  subst hz2
  obtain⟨j,hj,e⟩:=List.mem_iff_getElem.mp (List.mem_of_mem_drop hy)
  rw[<-e]
  have:=hl j (by simpa using hj)
  have e2:a.size-1=ia:=by omega
  simp only[e2]at this
  simpa using this
 have sA:∀(out:Array Keyed) ia ib,Mg ky a.toList b.toList out.toList ia ib->(h:ia<a.size)->(∀y,y∈b.toList.drop ib->ky a[ia]<=ky y)->Mg ky a.toList b.toList (out.push a[ia]).toList (ia+1) ib:=λout ia ib m h hle=>by
  rw[Array.toList_push];exact m.ZnA ha (by simpa using h) hle
 have sB:∀(out:Array Keyed) ia ib,Mg ky a.toList b.toList out.toList ia ib->(h:ib<b.size)->(∀y,y∈a.toList.drop ia->ky b[ib]<=ky y)->Mg ky a.toList b.toList (out.push b[ib]).toList ia (ib+1):=λout ia ib m h hle=>by
  rw[Array.toList_push];exact m.stepB hb (by simpa using h) hle
 have bA:∀(out:Array Keyed) ia ib k,Mg ky a.toList b.toList out.toList ia ib->ia+k<=a.size->(∀i,(h:ia+i<a.size)->i<k->∀y,y∈b.toList.drop ib->ky a[ia+i]<=ky y)->Mg ky a.toList b.toList (out++a.extract ia (ia+k)).toList (ia+k) ib:=λout ia ib k m h hle=>by
  rw[Array.toList_append,exA2];exact m.ZnB ha k (by simpa using h) (λi hi hik=>hle i (by simpa using hi) hik)
 have bB:∀(out:Array Keyed) ia ib k,Mg ky a.toList b.toList out.toList ia ib->ib+k<=b.size->(∀i,(h:ib+i<b.size)->i<k->∀y,y∈a.toList.drop ia->ky b[ib+i]<=ky y)->Mg ky a.toList b.toList (out++b.extract ib (ib+k)).toList ia (ib+k):=λout ia ib k m h hle=>by
  rw[Array.toList_append,exB2];exact m.bulkB hb k (by simpa using h) (λi hi hik=>hle i (by simpa using hi) hik)
 have moA:∀i j,(hij:i<=j)->(h:j<a.size)->ky (a[i]'(by omega))<=ky a[j]:=λi j hij h=>hdA i (by omega) _ (by rw[List.mem_drop_iff_getElem];exact⟨j-i,by simp;omega,by simp;congr 1;omega⟩)
 have moB:∀i j,(hij:i<=j)->(h:j<b.size)->ky (b[i]'(by omega))<=ky b[j]:=λi j hij h=>hdB i (by omega) _ (by rw[List.mem_drop_iff_getElem];exact⟨j-i,by simp;omega,by simp;congr 1;omega⟩)
 refine Zp (λh1=>?_) (λh1=>Zp (λh2=>?_) (λh2=>?_))
 ·exact Yj (hQ _ _ (hdone _ 0 1 m1 (by simp at h1⊢;omega)))
 ·exact Yj (hQ _ _ (hlast _ 0 1 m1 (by simpa using h2)))
 ·have h1':b.size≠1:=λz=>h1 (by simp[z])
  have h2':a.size≠1:=λz=>h2 (by simp[z])
  refine Yg (wpS_get ?_)
  refine Yg (wpS_mono (Q:=λ(c:Option (Array Keyed)×Array Keyed×Nat×Nat×Nat) (st':SortSt)=>(∃g',st'=SortSt.mk' κ arr pd g' fl)/\∃res,c.1=some res/\Gd ky a.toList b.toList res.toList) (wpS_forRange (λ(t:Nat) (c:Option (Array Keyed)×Array Keyed×Nat×Nat×Nat) (st':SortSt)=>(∃g',st'=SortSt.mk' κ arr pd g' fl)/\c.1=none/\Mg ky a.toList b.toList c.2.1.toList c.2.2.1 c.2.2.2.1/\c.2.2.1+1<a.size/\c.2.2.2.1<b.size/\t<c.2.2.1+c.2.2.2.1) ?_ ?_ ⟨⟨g,rfl⟩,rfl,m1,by show 0+1<a.size;omega,by show 1<b.size;omega,by show 0<0+1;omega⟩) ?_)
  ·rintro t ⟨r,out,ia,ib,mg⟩ st' _ ht ⟨⟨g1,rfl⟩,e,m,hia,hib,hti⟩
   simp only at e m hia hib hti
   subst e
   refine Yg (wpS_mono (Q:=λ(c:Option (Array Keyed)×Array Keyed×Nat×Nat×Nat×Nat) (st':SortSt)=>(∃g',st'=SortSt.mk' κ arr pd g' fl)/\((∃res,c.1=some res/\Gd ky a.toList b.toList res.toList)\/(c.1=none/\Mg ky a.toList b.toList c.2.1.toList c.2.2.1 c.2.2.2.1/\c.2.2.1+1<a.size/\c.2.2.2.1<b.size/\t<c.2.2.1+c.2.2.2.1))) (wpS_forRange (λ(u:Nat) (c:Option (Array Keyed)×Array Keyed×Nat×Nat×Nat×Nat) (st':SortSt)=>(∃g',st'=SortSt.mk' κ arr pd g' fl)/\c.1=none/\Mg ky a.toList b.toList c.2.1.toList c.2.2.1 c.2.2.2.1/\c.2.2.1+1<a.size/\c.2.2.2.1<b.size/\t<c.2.2.1+c.2.2.2.1) ?_ ?_ ⟨⟨g1,rfl⟩,rfl,m,hia,hib,hti⟩) ?_)
   ·rintro u ⟨r,out,ia,ib,ac,bc⟩ st' _ hu ⟨⟨g1,rfl⟩,e,m,hia,hib,hti⟩
    simp only at e m hia hib hti
    subst e
    refine Yg (ZP hib ?_)
    refine Yg (ZP (by omega:ia<a.size) ?_)
    refine Yg (Zle hc rfl (hPb _ _) (hPa _ _) ?_)
    refine Zp (λhv=>?_) (λhv=>?_)
    ·have hv:=YX hv
     refine Yg (ZP hib ?_)
     have m2:=sB _ _ _ m hib (λy hy=>Int.le_trans (Int.le_of_lt hv) (hdA ia (by omega) y hy))
     refine Zp (λh3=>?_) (λh3=>?_)
     ·exact Yj ⟨⟨_,rfl⟩,.inl ⟨_,rfl,hdone _ _ _ m2 (by simp at h3⊢;omega)⟩⟩
     ·have h3':ib+1≠b.size:=λz=>h3 (by simp[z])
      refine Zp (λh4=>?_) (λh4=>?_)
      ·exact Yj ⟨⟨_,rfl⟩,.inr ⟨rfl,m2,hia,by simp only;omega,by simp only;omega⟩⟩
      ·exact Yj ⟨⟨_,rfl⟩,rfl,m2,hia,by simp only;omega,by simp only;omega⟩
    ·have hv:¬ ky b[ib]<ky a[ia]:=λz=>hv (YB z)
     refine Yg (ZP (by omega:ia<a.size) ?_)
     have m2:=sA _ _ _ m (by omega) (λy hy=>Int.le_trans (Int.not_lt.mp hv) (hdB ib hib y hy))
     refine Zp (λh3=>?_) (λh3=>?_)
     ·exact Yj ⟨⟨_,rfl⟩,.inl ⟨_,rfl,hlast _ _ _ m2 (by simpa using h3)⟩⟩
     ·have h3':ia+1+1≠a.size:=λz=>h3 (by simp[z])
      refine Zp (λh4=>?_) (λh4=>?_)
      ·exact Yj ⟨⟨_,rfl⟩,.inr ⟨rfl,m2,by simp only;omega,hib,by simp only;omega⟩⟩
      ·exact Yj ⟨⟨_,rfl⟩,rfl,m2,by simp only;omega,hib,by simp only;omega⟩
   ·rintro⟨r,out,ia,ib,ac,bc⟩ st' ⟨hg,e,m,hia,hib,hti⟩
    exact⟨hg,.inr ⟨e,m,hia,hib,hti⟩⟩
   ·rintro⟨r,out,ia,ib,ac,bc⟩ st' ⟨⟨g2,rfl⟩,hor⟩
    rcases hor with⟨res,e,hgd⟩|⟨e,m,hia,hib,hti⟩
    ·simp only at e
     subst e
     exact Yj ⟨⟨_,rfl⟩,res,rfl,hgd⟩
    ·simp only at e m hia hib hti
     subst e
     refine Yg (wpS_lift (wpAny_rule ⟨rfl,?_⟩))
     refine Yg (wpS_mono (Q:=λ(c:Option (Array Keyed)×Array Keyed×Nat×Nat×Nat×Nat×Nat) (st':SortSt)=>(∃g',st'=SortSt.mk' κ arr pd g' fl)/\((∃res,c.1=some res/\Gd ky a.toList b.toList res.toList)\/(c.1=none/\Mg ky a.toList b.toList c.2.1.toList c.2.2.1 c.2.2.2.1/\c.2.2.1+1<a.size/\c.2.2.2.1<b.size/\t+1<c.2.2.1+c.2.2.2.1))) (wpS_forRange (λ(u:Nat) (c:Option (Array Keyed)×Array Keyed×Nat×Nat×Nat×Nat×Nat) (st':SortSt)=>(∃g',st'=SortSt.mk' κ arr pd g' fl)/\c.1=none/\Mg ky a.toList b.toList c.2.1.toList c.2.2.1 c.2.2.2.1/\c.2.2.1+1<a.size/\c.2.2.2.1<b.size/\t+u<c.2.2.1+c.2.2.2.1) ?_ ?_ ⟨⟨g2,rfl⟩,rfl,m,hia,hib,hti⟩) ?_)
     ·rintro u c st' _ hu ⟨⟨g1,rfl⟩,e,m,hia,hib,hti⟩
      refine Zp (λ_=>?_) (λ_=>?_)
      all_goals
       refine Yg (wpS_modify ?_)
       refine Yg (ZP hib ?_)
       refine Yg (Zck (f:=λi=>!decide (ky b[c.2.2.2.1]<ky (a.getD (c.2.2.1+i) (Value.none,Value.none)))) hc rfl (hPb _ _) hPa (by omega) (by omega) (λi h=>by simp[Array.getD,h]) ?_ ?_)
       ·intro i j hij hj hfj
        simp only[Bool.not_eq_true',decide_eq_false_iff_not,Int.not_lt]at hfj⊢
        have:=moA (c.2.2.1+i) (c.2.2.1+j) (by omega) (by omega)
        simp only[Array.getD,(by omega:c.2.2.1+i<a.size),(by omega:c.2.2.1+j<a.size),dif_pos]at hfj⊢
        exact Int.le_trans this hfj
       ·intro k hk1 hk2 hk3
        have hA1:∀i,(h:c.2.2.1+i<a.size)->i<k->ky a[c.2.2.1+i]<=ky b[c.2.2.2.1]:=by
         intro i h hi
         have:=hk2 i hi
         simp only[Bool.not_eq_true',decide_eq_false_iff_not,Int.not_lt,Array.getD,h,dif_pos]at this
         exact this
        have hA2:(h:c.2.2.1+k<a.size)->ky b[c.2.2.2.1]<ky a[c.2.2.1+k]:=by
         intro h
         have:=hk3 k (Ye _) (by omega)
         simp only[Bool.not_eq_false',decide_eq_true_eq,Array.getD,h,dif_pos]at this
         exact this
        have m2:=bA _ _ _ k m (by omega) (λi h hi y hy=>Int.le_trans (hA1 i h hi) (hdB _ hib y hy))
        refine Zp (λhk0=>Zp (λh3=>Yj ⟨⟨_,rfl⟩,.inl ⟨_,rfl,hlast _ _ _ m2 (by simpa using h3)⟩⟩) (λh3=>Zp (λh4=>Yj ⟨⟨_,rfl⟩,.inl ⟨_,rfl,hdone2 _ _ _ m2 (by simp at h4⊢;omega)⟩⟩) (λh4=>?_))) (λhk0=>?_)
        focus
         have h3':c.2.2.1+k+1≠a.size:=λz=>h3 (by simp[z])
         have h4':c.2.2.1+k≠a.size:=λz=>h4 (by simp[z])
         have m':=m2
         have hlt:c.2.2.1+k<a.size:=by omega
         have hlt2:c.2.2.1+k+1<a.size:=by omega
         have hx':=hA2 hlt
         have ht':t+u<c.2.2.1+k+c.2.2.2.1:=by omega
         have hd':=hdA _ hlt
         obtain⟨y,hy⟩:∃y,y=ky a[c.2.2.1+k]:=⟨_,rfl⟩
        rotate_left
        focus
         have hk0':k=0:=by omega
         subst hk0'
         have m':=m
         have hlt:c.2.2.1<a.size:=by omega
         have hlt2:c.2.2.1+1<a.size:=by omega
         have hx':=hA2 hlt
         have ht':t+u<c.2.2.1+c.2.2.2.1:=by omega
         have hd':=hdA _ hlt
         obtain⟨y,hy⟩:∃y,y=ky a[c.2.2.1]:=⟨_,rfl⟩
        all_goals
         refine Yg (ZP hib ?_)
         have m3:=sB _ _ _ m' hib (λz hz=>Int.le_trans (Int.le_of_lt hx') (hd' z hz))
         refine Zp (λh5=>Yj ⟨⟨_,rfl⟩,.inl ⟨_,rfl,hdone _ _ _ m3 (by simp at h5⊢;omega)⟩⟩) (λh5=>?_)
         have h5':c.2.2.2.1+1≠b.size:=λz=>h5 (by simp[z])
         refine Yg (ZP hlt ?_)
         refine Yg (Zck (f:=λi=>decide (ky (b.getD (c.2.2.2.1+1+i) (Value.none,Value.none))<y)) hc rfl (hPa _ _) hPb (by omega) (by omega) (λi h=>by simp[Array.getD,h,hy]) ?_ ?_)
         ·intro i j hij hj hfj
          simp only[decide_eq_true_eq]at hfj⊢
          have:=moB (c.2.2.2.1+1+i) (c.2.2.2.1+1+j) (by omega) (by omega)
          simp only[Array.getD,(by omega:c.2.2.2.1+1+i<b.size),(by omega:c.2.2.2.1+1+j<b.size),dif_pos]at hfj⊢
          exact Int.lt_of_le_of_lt this hfj
         ·intro k2 q1 q2 q3
          have hB1:∀i,(h:c.2.2.2.1+1+i<b.size)->i<k2->ky b[c.2.2.2.1+1+i]<y:=by
           intro i h hi
           have:=q2 i hi
           simp only[decide_eq_true_eq,Array.getD,h,dif_pos]at this
           exact this
          have hB2:(h:c.2.2.2.1+1+k2<b.size)->y<=ky b[c.2.2.2.1+1+k2]:=by
           intro h
           have:=q3 k2 (Ye _) (by omega)
           simp only[decide_eq_false_iff_not,Int.not_lt,Array.getD,h,dif_pos]at this
           exact this
          have m4:=bB _ _ _ k2 m3 (by omega) (λi h hi z hz=>Int.le_trans (Int.le_of_lt (hB1 i h hi)) (hy▸hd' z hz))
          refine Zp (λq0=>Zp (λh6=>Yj ⟨⟨_,rfl⟩,.inl ⟨_,rfl,hdone _ _ _ m4 (by simp at h6⊢;omega)⟩⟩) (λh6=>?_)) (λq0=>?_)
          focus
           have h6':c.2.2.2.1+1+k2≠b.size:=λz=>h6 (by simp[z])
           have hl2:c.2.2.2.1+1+k2<b.size:=by omega
           have m5:=sA _ _ _ m4 hlt (λz hz=>Int.le_trans (hy▸hB2 hl2) (hdB _ hl2 z hz))
          rotate_left
          focus
           have q0':k2=0:=by omega
           subst q0'
           have hl2:c.2.2.2.1+1<b.size:=by omega
           have m5:=sA _ _ _ m3 hlt (λz hz=>Int.le_trans (hy▸hB2 hl2) (hdB _ hl2 z hz))
          all_goals
           refine Yg (ZP hlt ?_)
           refine Zp (λh7=>Yj ⟨⟨_,rfl⟩,.inl ⟨_,rfl,hlast _ _ _ m5 (by simpa using h7)⟩⟩) (λh7=>?_)
           simp only[beq_iff_eq]at h7
           refine Zp (λh8=>Yj ⟨⟨_,rfl⟩,.inr ⟨rfl,m5,by simp only;omega,hl2,by simp only;omega⟩⟩) (λh8=>Yj ⟨⟨_,rfl⟩,rfl,m5,by simp only;omega,hl2,by simp only;omega⟩)
     ·rintro⟨r,out,ia,ib,mg,ac,bc⟩ st' ⟨hg,e,m,hia,hib,hti⟩
      exact⟨hg,.inr ⟨e,m,hia,hib,by simp only at hti⊢;omega⟩⟩
     ·rintro⟨r,out,ia,ib,mg,ac,bc⟩ st' ⟨⟨g3,rfl⟩,hor⟩
      rcases hor with⟨res,e,hgd⟩|⟨e,m,hia,hib,hti⟩
      ·simp only at e
       subst e
       exact Yj ⟨⟨_,rfl⟩,res,rfl,hgd⟩
      ·simp only at e m hia hib hti
       subst e
       exact Yg (wpS_modify (Yj ⟨⟨_,rfl⟩,rfl,m,hia,hib,hti⟩))
  ·rintro⟨r,out,ia,ib,mg⟩ st' ⟨_,e,m,hia,hib,hti⟩
   simp only at hia hib hti
   omega
  ·rintro⟨r,out,ia,ib,mg⟩ st' ⟨⟨g2,rfl⟩,res,e,hgd⟩
   simp only at e
   subst e
   exact Yj (hQ res g2 hgd)
end
section
variable {ky:Keyed->Int}
theorem ZdA {l:List Keyed}:Srt (λx=>- ky x) l.reverse↔Srt ky l:=by
 unfold Srt
 rw[List.pairwise_reverse]
 constructor
 ·exact λh=>h.imp λz=>by simp only at z;omega
 ·exact λh=>h.imp λz=>by simp only;omega
theorem ZmC {a b l:List Keyed} (h:Gd (λx=>- ky x) a.reverse b.reverse l):Gd ky a b l.reverse:=by
 refine⟨(List.reverse_perm l).trans (h.1.trans (List.Perm.append (List.reverse_perm a) (List.reverse_perm b))),?_⟩
 rw[<-ZdA,List.reverse_reverse]
 exact h.2
theorem Zjt {a:Array Keyed}{na:Nat} (h:na<=a.size):a.toList.reverse.drop (a.size-na)=(a.toList.take na).reverse:=by
 rw[List.drop_reverse]
 congr 2
 simp;omega
theorem rmem {a:Array Keyed}{na:Nat} (h:na<=a.size) {y:Keyed} (hy:y∈a.toList.reverse.drop (a.size-na)):∃i,∃hi:i<a.size,i<na/\y=a[i]:=by
 rw[Zjt h,List.mem_reverse,List.mem_take_iff_getElem]at hy
 obtain⟨i,hi,e⟩:=hy
 exact⟨i,by simp at hi;omega,by simp at hi;omega,by simpa using e.symm⟩
noncomputable def MM (ky:Keyed->Int) (a b out:Array Keyed) (na nb:Nat):Prop:=Mg (λx=>- ky x) a.toList.reverse b.toList.reverse out.toList (a.size-na) (b.size-nb)
variable {a b out:Array Keyed}{na nb:Nat}
theorem MM.swap (h:MM ky a b out na nb):MM ky b a out nb na:=Mg.swap h
theorem MM.sA (ha:Srt ky a.toList) (m:MM ky a b out na nb) (h1:1<=na) (h2:na<=a.size) (hb:nb<=b.size) (hle:∀i,(h:i<b.size)->i<nb->ky b[i]<=ky (a[na-1]'(by omega))):MM ky a b (out.push (a[na-1]'(by omega))) (na-1) nb:=by
 have hl:a.size-na<a.toList.reverse.length:=by simp;omega
 have e:a.toList.reverse[a.size-na]=a[na-1]'(by omega):=by
  rw[List.getElem_reverse]
  simp only[YQ,Array.getElem_toList]
  congr 1;omega
 have:=Mg.ZnA (ZdA.mpr ha) m hl (by
  intro y hy
  obtain⟨i,hi,hin,rfl⟩:=rmem hb hy
  rw[e]
  have:=hle i hi hin
  show-ky _<=- ky _;omega)
 rw[e]at this
 unfold MM
 rw[Array.toList_push,(by omega:a.size-(na-1)=a.size-na+1)]
 exact this
theorem MM.bA (ha:Srt ky a.toList) (m:MM ky a b out na nb) {at_:Nat} (h1:at_<=na) (h2:na<=a.size) (hb:nb<=b.size) (hle:∀j,(hj:j<a.size)->at_<=j->j<na->∀i,(h:i<b.size)->i<nb->ky b[i]<=ky a[j]):MM ky a b (out++(a.extract at_ na).reverse) at_ nb:=by
 have:=Mg.ZnB (ZdA.mpr ha) m (na-at_) (by simp;omega) (by
  intro i hi hik y hy
  obtain⟨j,hj,hjn,rfl⟩:=rmem hb hy
  have e:a.toList.reverse[a.size-na+i]=a[na-1-i]'(by omega):=by
   rw[List.getElem_reverse]
   simp only[YQ,Array.getElem_toList]
   congr 1;omega
  rw[e]
  have:=hle (na-1-i) (by omega) (by omega) (by omega) j hj hjn
  show-ky _<=- ky _;omega)
 unfold MM
 rw[Array.toList_append,(by omega:a.size-at_=a.size-na+(na-at_))]
 have e2:(a.extract at_ na).reverse.toList=(a.toList.reverse.drop (a.size-na)).take (na-at_):=by
  rw[Zjt h2,List.take_reverse]
  simp only[Array.toList_reverse,Array.toList_extract,List.extract_eq_drop_take,Y1,YQ]
  rw[List.drop_take]
  congr 2
  ·omega
  ·congr 1;omega
 rw[e2]
 exact this
theorem MM.ZnC (hb:Srt ky b.toList) (m:MM ky a b out 0 nb) (hn:nb<=b.size):Gd ky a.toList b.toList (a.extract 0 0++b.extract 0 nb++out.reverse).toList:=by
 have:=ZmC (Mg.ZnC (ZdA.mpr hb) m (by simp))
 rw[Zjt hn,List.reverse_append,List.reverse_reverse]at this
 simpa using this
theorem MM.Zlf (ha:Srt ky a.toList) (m:MM ky a b out na 0) (hn:na<=a.size):Gd ky a.toList b.toList (a.extract 0 na++b.extract 0 0++out.reverse).toList:=by
 have:=ZmC (Mg.Zlf (ZdA.mpr ha) m (by simp))
 rw[Zjt hn,List.reverse_append,List.reverse_reverse]at this
 simpa using this
theorem MM.firstB (ha:Srt ky a.toList) (hb:Srt ky b.toList) (m:MM ky a b out na 1) (hn:na<=a.size) (hb1:1<=b.size) (h0:∀i,(h:i<a.size)->ky b[0]<=ky a[i]):Gd ky a.toList b.toList (b.extract 0 1++a.extract 0 na++out.reverse).toList:=by
 have:=Mg.lastA (ZdA.mpr hb) (ZdA.mpr ha) (Mg.swap m) (by
  intro y hy z hz
  obtain⟨i,hi,_,rfl⟩:=rmem hn hy
  obtain⟨j,hj,hj1,rfl⟩:=rmem hb1 hz
  have hj0:j=0:=by omega
  subst hj0
  have:=h0 i hi
  show-ky _<=- ky _;omega)
 have:=ZmC ⟨this.1.trans List.perm_append_comm,this.2⟩
 rw[Zjt hn,Zjt hb1,List.reverse_append,List.reverse_append,List.reverse_reverse,List.reverse_reverse,<-YT]at this
 simpa using this
variable {prog:Program}{w:World}{A:Around}{E:Value->Shared->Prop}{s:Shared}{κ:SortKind}{P:Keyed->Prop}
noncomputable def Zqz:Array Keyed->Array Keyed->StateT SortSt Sem (Array Keyed):=sortPriv% PySem.Builtin.mergeHi
theorem ZqA {a:Array Keyed} (ha:Srt ky a.toList) {i j:Nat} (hij:i<=j) (h:j<a.size):ky (a[i]'(by omega))<=ky a[j]:=by
 have:=Zh2 (ia:=i) ha (by simp;omega) (y:=a[j]) (by rw[List.mem_drop_iff_getElem];exact⟨j-i,by simp;omega,by simp;congr 1;omega⟩)
 simpa using this
theorem ZmD {arr:Array Keyed}{pd:Array (Nat×Nat×Nat)}{g:Nat}{fl:Option Value}{Q:Array Keyed->SortSt->Prop}
  (hc:Zeg prog w A s κ P ky) (hPa:∀i,(h:i<a.size)->P a[i]) (hPb:∀i,(h:i<b.size)->P b[i]) (ha:Srt ky a.toList) (hb:Srt ky b.toList)
  (ha0:0<a.size) (hb0:0<b.size) (h0:ky b[0]<=ky a[0]) (hl:∀j,(h:j<b.size)->ky b[j]<=ky (a[a.size-1]'(by omega)))
  (hQ:∀res g',Gd ky a.toList b.toList res.toList->Q res (SortSt.mk' κ arr pd g' fl)) :
  wpS (model prog w) A E s (Zqz a b) Q (SortSt.mk' κ arr pd g fl):=by
 refine Yg (wpS_lift (wpAny_rule ⟨rfl,?_⟩))
 refine Yg (ZP (by omega:a.size-1<a.size) ?_)
 have moA:∀i j,(hij:i<=j)->(h:j<a.size)->ky (a[i]'(by omega))<=ky a[j]:=λi j hij h=>ZqA ha hij h
 have moB:∀i j,(hij:i<=j)->(h:j<b.size)->ky (b[i]'(by omega))<=ky b[j]:=λi j hij h=>ZqA hb hij h
 have h0':∀i,(h:i<a.size)->ky b[0]<=ky a[i]:=λi h=>Int.le_trans h0 (moA 0 i (by omega) h)
 have m0:MM ky a b #[] a.size b.size:=by
  refine⟨by simp,List.Pairwise.nil,λx hx=>by cases hx⟩
 have m1:MM ky a b #[a[a.size-1]] (a.size-1) b.size:=m0.sA ha ha0 (Ye _) (Ye _) (λi h _=>hl i h)
 have dA:∀(out:Array Keyed) na nb,MM ky a b out na nb->nb<=b.size->na=0->Gd ky a.toList b.toList (a.extract 0 na++b.extract 0 nb++out.reverse).toList:=by
  rintro out na nb m h rfl;exact m.ZnC hb h
 have dB:∀(out:Array Keyed) na nb,MM ky a b out na nb->na<=a.size->nb=0->Gd ky a.toList b.toList (a.extract 0 na++b.extract 0 nb++out.reverse).toList:=by
  rintro out na nb m h rfl;exact m.Zlf ha h
 have fB:∀(out:Array Keyed) na nb,MM ky a b out na nb->na<=a.size->nb=1->Gd ky a.toList b.toList (b.extract 0 nb++a.extract 0 na++out.reverse).toList:=by
  rintro out na nb m h rfl;exact m.firstB ha hb h hb0 h0'
 refine Zp (λh1=>?_) (λh1=>Zp (λh2=>?_) (λh2=>?_))
 ·exact Yj (hQ _ _ (dA _ _ _ m1 (Ye _) (by simpa using h1)))
 ·exact Yj (hQ _ _ (fB _ _ _ m1 (by omega) (by simpa using h2)))
 ·simp only[beq_iff_eq]at h1 h2
  refine Yg (wpS_get ?_)
  refine Yg (wpS_mono (Q:=λ(c:Option (Array Keyed)×Nat×Nat×Array Keyed×Nat) (st':SortSt)=>(∃g',st'=SortSt.mk' κ arr pd g' fl)/\∃res,c.1=some res/\Gd ky a.toList b.toList res.toList) (wpS_forRange (λ(t:Nat) (c:Option (Array Keyed)×Nat×Nat×Array Keyed×Nat) (st':SortSt)=>(∃g',st'=SortSt.mk' κ arr pd g' fl)/\c.1=none/\MM ky a b c.2.2.2.1 c.2.1 c.2.2.1/\(1<=c.2.1/\c.2.1<=a.size)/\(2<=c.2.2.1/\c.2.2.1<=b.size)/\t+c.2.1+c.2.2.1<a.size+b.size) ?_ ?_ ⟨⟨g,rfl⟩,rfl,m1,by simp only;omega,by simp only;omega,by simp only;omega⟩) ?_)
  ·rintro t c0 st' _ ht ⟨⟨g1,rfl⟩,e,m,hia,hib,hti⟩
   refine Yg (wpS_mono (Q:=λ(c:Option (Array Keyed)×Nat×Nat×Array Keyed×Nat×Nat) (st':SortSt)=>(∃g',st'=SortSt.mk' κ arr pd g' fl)/\((∃res,c.1=some res/\Gd ky a.toList b.toList res.toList)\/(c.1=none/\MM ky a b c.2.2.2.1 c.2.1 c.2.2.1/\(1<=c.2.1/\c.2.1<=a.size)/\(2<=c.2.2.1/\c.2.2.1<=b.size)/\t+c.2.1+c.2.2.1<a.size+b.size))) (wpS_forRange (λ(u:Nat) (c:Option (Array Keyed)×Nat×Nat×Array Keyed×Nat×Nat) (st':SortSt)=>(∃g',st'=SortSt.mk' κ arr pd g' fl)/\c.1=none/\MM ky a b c.2.2.2.1 c.2.1 c.2.2.1/\(1<=c.2.1/\c.2.1<=a.size)/\(2<=c.2.2.1/\c.2.2.1<=b.size)/\t+c.2.1+c.2.2.1<a.size+b.size) ?_ ?_ ⟨⟨g1,rfl⟩,rfl,m,hia,hib,hti⟩) ?_)
   ·rintro u c st' _ hu ⟨⟨g1,rfl⟩,e,m,hia,hib,hti⟩
    have l1:c.2.1-1<a.size:=by omega
    have l2:c.2.2.1-1<b.size:=by omega
    refine Yg (ZP l2 ?_)
    refine Yg (ZP l1 ?_)
    refine Yg (Zle hc rfl (hPb _ _) (hPa _ _) ?_)
    refine Zp (λhv=>?_) (λhv=>?_)
    ·have hv:=YX hv
     refine Yg (ZP l1 ?_)
     have m2:=m.sA ha hia.1 hia.2 hib.2 (λi h hi=>Int.le_trans (moB i (c.2.2.1-1) (by omega) l2) (Int.le_of_lt hv))
     refine Zp (λh3=>?_) (λh3=>?_)
     ·exact Yj ⟨⟨_,rfl⟩,.inl ⟨_,rfl,dA _ _ _ m2 hib.2 (by simpa using h3)⟩⟩
     ·simp only[beq_iff_eq]at h3
      refine Zp (λh4=>?_) (λh4=>?_)
      ·exact Yj ⟨⟨_,rfl⟩,.inr ⟨rfl,m2,by simp only;omega,hib,by simp only;omega⟩⟩
      ·exact Yj ⟨⟨_,rfl⟩,rfl,m2,by simp only;omega,hib,by simp only;omega⟩
    ·have hv:¬ ky b[c.2.2.1-1]<ky a[c.2.1-1]:=λz=>hv (YB z)
     refine Yg (ZP l2 ?_)
     have m2:=(m.swap.sA hb (by omega) hib.2 hia.2 (λi h hi=>Int.le_trans (moA i (c.2.1-1) (by omega) l1) (Int.not_lt.mp hv))).swap
     refine Zp (λh3=>?_) (λh3=>?_)
     ·exact Yj ⟨⟨_,rfl⟩,.inl ⟨_,rfl,fB _ _ _ m2 hia.2 (by simpa using h3)⟩⟩
     ·simp only[beq_iff_eq]at h3
      refine Zp (λh4=>?_) (λh4=>?_)
      ·exact Yj ⟨⟨_,rfl⟩,.inr ⟨rfl,m2,hia,by simp only;omega,by simp only;omega⟩⟩
      ·exact Yj ⟨⟨_,rfl⟩,rfl,m2,hia,by simp only;omega,by simp only;omega⟩
   ·rintro c st' ⟨hg,e,m,hia,hib,hti⟩
    exact⟨hg,.inr ⟨e,m,hia,hib,hti⟩⟩
   ·rintro⟨r,na,nb,out,ac,bc⟩ st' ⟨⟨g2,rfl⟩,hor⟩
    rcases hor with⟨res,e,hgd⟩|⟨e,m,hia,hib,hti⟩
    ·simp only at e
     subst e
     exact Yj ⟨⟨_,rfl⟩,res,rfl,hgd⟩
    ·simp only at e m hia hib hti
     subst e
     refine Yg (wpS_lift (wpAny_rule ⟨rfl,?_⟩))
     refine Yg (wpS_mono (Q:=λ(c:Option (Array Keyed)×Nat×Nat×Array Keyed×Nat×Nat×Nat) (st':SortSt)=>(∃g',st'=SortSt.mk' κ arr pd g' fl)/\((∃res,c.1=some res/\Gd ky a.toList b.toList res.toList)\/(c.1=none/\MM ky a b c.2.2.2.1 c.2.1 c.2.2.1/\(1<=c.2.1/\c.2.1<=a.size)/\(2<=c.2.2.1/\c.2.2.1<=b.size)/\t+1+c.2.1+c.2.2.1<a.size+b.size))) (wpS_forRange (λ(u:Nat) (c:Option (Array Keyed)×Nat×Nat×Array Keyed×Nat×Nat×Nat) (st':SortSt)=>(∃g',st'=SortSt.mk' κ arr pd g' fl)/\c.1=none/\MM ky a b c.2.2.2.1 c.2.1 c.2.2.1/\(1<=c.2.1/\c.2.1<=a.size)/\(2<=c.2.2.1/\c.2.2.1<=b.size)/\t+u+c.2.1+c.2.2.1<a.size+b.size) ?_ ?_ ⟨⟨g2,rfl⟩,rfl,m,hia,hib,hti⟩) ?_)
     ·rintro u c st' _ hu ⟨⟨g1,rfl⟩,e,m,hia,hib,hti⟩
      have l2:c.2.2.1-1<b.size:=by omega
      refine Zp (λ_=>?_) (λ_=>?_)
      all_goals
       refine Yg (wpS_modify ?_)
       refine Yg (ZP l2 ?_)
       refine Yg (Zck (f:=λi=>!decide (ky b[c.2.2.1-1]<ky (a.getD (0+i) (Value.none,Value.none)))) hc rfl (hPb _ _) hPa (by omega) (by omega) (λi h=>by simp only[Array.getD,h,dif_pos];simp) ?_ ?_)
       ·intro i j hij hj hfj
        simp only[Bool.not_eq_true',decide_eq_false_iff_not,Int.not_lt]at hfj⊢
        have:=moA (0+i) (0+j) (by omega) (by omega)
        simp only[Array.getD,(by omega:0+i<a.size),(by omega:0+j<a.size),dif_pos]at hfj⊢
        exact Int.le_trans this hfj
       ·intro k hk1 hk2 hk3
        have hA1:∀i,(h:i<a.size)->i<k->ky a[i]<=ky b[c.2.2.1-1]:=by
         intro i h hi
         have:=hk2 i hi
         simp only[Bool.not_eq_true',decide_eq_false_iff_not,Int.not_lt,Array.getD,Nat.zero_add,h,dif_pos]at this
         exact this
        have hA2:∀i,(h:i<a.size)->k<=i->i<c.2.1->ky b[c.2.2.1-1]<ky a[i]:=by
         intro i h hi1 hi2
         have:=hk3 i hi1 hi2
         simp only[Bool.not_eq_false',decide_eq_true_eq,Array.getD,Nat.zero_add,h,dif_pos]at this
         exact this
        have m2:=m.bA ha hk1 hia.2 hib.2 (λj hj h1 h2 i h hi=>Int.le_trans (moB i (c.2.2.1-1) (by omega) l2) (Int.le_of_lt (hA2 j hj h1 h2)))
        refine Zp (λhk0=>Zp (λh3=>Yj ⟨⟨_,rfl⟩,.inl ⟨_,rfl,dA _ _ _ m2 hib.2 (by simpa using h3)⟩⟩) (λh3=>?_)) (λhk0=>?_)
        focus
         simp only[beq_iff_eq]at h3
         have m':=m2
         have n1:1<=k:=by omega
         have n2:k<=a.size:=by omega
         have l1:k-1<a.size:=by omega
         have hx':∀i,(h:i<a.size)->i<k->ky a[i]<=ky b[c.2.2.1-1]:=hA1
         have ht':t+u+k+c.2.2.1<a.size+b.size:=by omega
         obtain⟨y,hy⟩:∃y,y=ky a[k-1]:=⟨_,rfl⟩
         have hy2:∀i,(h:i<a.size)->i<k->ky a[i]<=y:=λi h hi=>hy▸moA i (k-1) (by omega) l1
        rotate_left
        focus
         have hk0':k=c.2.1:=by omega
         subst hk0'
         have m':=m
         have n1:1<=c.2.1:=by omega
         have n2:c.2.1<=a.size:=by omega
         have l1:c.2.1-1<a.size:=by omega
         have hx':∀i,(h:i<a.size)->i<c.2.1->ky a[i]<=ky b[c.2.2.1-1]:=hA1
         have ht':t+u+c.2.1+c.2.2.1<a.size+b.size:=by omega
         obtain⟨y,hy⟩:∃y,y=ky a[c.2.1-1]:=⟨_,rfl⟩
         have hy2:∀i,(h:i<a.size)->i<c.2.1->ky a[i]<=y:=λi h hi=>hy▸moA i (c.2.1-1) (by omega) l1
        all_goals
         refine Yg (ZP l2 ?_)
         have m3:=(m'.swap.sA hb (by omega) hib.2 n2 hx').swap
         refine Zp (λh5=>Yj ⟨⟨_,rfl⟩,.inl ⟨_,rfl,fB _ _ _ m3 n2 (by simpa using h5)⟩⟩) (λh5=>?_)
         simp only[beq_iff_eq]at h5
         refine Yg (ZP l1 ?_)
         refine Yg (Zck (f:=λi=>decide (ky (b.getD (0+i) (Value.none,Value.none))<y)) hc rfl (hPa _ _) hPb (by omega) (by omega) (λi h=>by simp only[Array.getD,h,dif_pos,hy];simp) ?_ ?_)
         ·intro i j hij hj hfj
          simp only[decide_eq_true_eq]at hfj⊢
          have:=moB (0+i) (0+j) (by omega) (by omega)
          simp only[Array.getD,(by omega:0+i<b.size),(by omega:0+j<b.size),dif_pos]at hfj⊢
          exact Int.lt_of_le_of_lt this hfj
         ·intro k2 q1 q2 q3
          have hB1:∀i,(h:i<b.size)->i<k2->ky b[i]<y:=by
           intro i h hi
           have:=q2 i hi
           simp only[decide_eq_true_eq,Array.getD,Nat.zero_add,h,dif_pos]at this
           exact this
          have hB2:∀i,(h:i<b.size)->k2<=i->i<c.2.2.1-1->y<=ky b[i]:=by
           intro i h hi1 hi2
           have:=q3 i hi1 hi2
           simp only[decide_eq_false_iff_not,Int.not_lt,Array.getD,Nat.zero_add,h,dif_pos]at this
           exact this
          have m4:=(m3.swap.bA hb q1 (by omega) n2 (λj hj h1 h2 i h hi=>Int.le_trans (hy2 i h hi) (hB2 j hj h1 h2))).swap
          refine Zp (λq0=>Zp (λh6=>Yj ⟨⟨_,rfl⟩,.inl ⟨_,rfl,fB _ _ _ m4 n2 (by simpa using h6)⟩⟩) (λh6=>Zp (λh7=>Yj ⟨⟨_,rfl⟩,.inl ⟨_,rfl,dB _ _ _ m4 n2 (by simpa using h7)⟩⟩) (λh7=>?_))) (λq0=>?_)
          focus
           simp only[beq_iff_eq]at h6 h7
           have hl2:2<=k2/\k2<=b.size:=by omega
           have m5:=m4.sA ha n1 n2 hl2.2 (λi h hi=>Int.le_of_lt (hy▸hB1 i h hi))
           have hlt:k2+1<=c.2.2.1:=by omega
          rotate_left
          focus
           have q0':k2=c.2.2.1-1:=by omega
           subst q0'
           have hl2:2<=c.2.2.1-1/\c.2.2.1-1<=b.size:=by omega
           have m5:=m3.sA ha n1 n2 hl2.2 (λi h hi=>Int.le_of_lt (hy▸hB1 i h hi))
           have hlt:c.2.2.1-1+1<=c.2.2.1:=by omega
          all_goals
           refine Yg (ZP l1 ?_)
           refine Zp (λh8=>Yj ⟨⟨_,rfl⟩,.inl ⟨_,rfl,dA _ _ _ m5 hl2.2 (by simpa using h8)⟩⟩) (λh8=>?_)
           simp only[beq_iff_eq]at h8
           refine Zp (λh9=>Yj ⟨⟨_,rfl⟩,.inr ⟨rfl,m5,by simp only;omega,hl2,by simp only;omega⟩⟩) (λh9=>Yj ⟨⟨_,rfl⟩,rfl,m5,by simp only;omega,hl2,by simp only;omega⟩)
     ·rintro c st' ⟨hg,e,m,hia,hib,hti⟩
      exact⟨hg,.inr ⟨e,m,hia,hib,by omega⟩⟩
     ·rintro⟨r,na,nb,out,mg,ac,bc⟩ st' ⟨⟨g3,rfl⟩,hor⟩
      rcases hor with⟨res,e,hgd⟩|⟨e,m,hia,hib,hti⟩
      ·simp only at e
       subst e
       exact Yj ⟨⟨_,rfl⟩,res,rfl,hgd⟩
      ·simp only at e m hia hib hti
       subst e
       exact Yg (wpS_modify (Yj ⟨⟨_,rfl⟩,rfl,m,hia,hib,by simp only;omega⟩))
  ·rintro c st' ⟨_,e,m,hia,hib,hti⟩
   omega
  ·rintro⟨r,na,nb,out,mg⟩ st' ⟨⟨g2,rfl⟩,res,e,hgd⟩
   simp only at e
   subst e
   exact Yj (hQ res g2 hgd)
end
section
variable {ky:Keyed->Int}
noncomputable def kp (ky:Keyed->Int) (a:Array Keyed) (i:Nat):Int:=ky (a.getD i (Value.none,Value.none))
theorem Zh3 {a:Array Keyed}{i:Nat} (h:i<a.size):kp ky a i=ky a[i]:=by unfold kp;simp[Array.getD,h]
theorem Zdl {a b:Array Keyed}{i j:Nat} (h:a[i]?=b[j]?):kp ky a i=kp ky b j:=by
 unfold kp;rw[Array.getD_eq_getD_getElem?,Array.getD_eq_getD_getElem?,h]
noncomputable def SoR (ky:Keyed->Int) (a:Array Keyed) (l r:Nat):Prop:=∀i j,l<=i->i<=j->j<r->kp ky a i<=kp ky a j
noncomputable def DeR (ky:Keyed->Int) (a:Array Keyed) (l r:Nat):Prop:=∀i j,l<=i->i<=j->j<r->kp ky a j<=kp ky a i
theorem SoR.next {a:Array Keyed}{l r:Nat} (h:SoR ky a l r) (hr:l<r) (h2:kp ky a (r-1)<=kp ky a r):SoR ky a l (r+1):=by
 intro i j hi hij hj
 by_cases e:j=r
 ·subst e
  by_cases e2:i=j
  ·rw[e2];exact Int.le_refl _
  ·exact Int.le_trans (h i (j-1) hi (by omega) (by omega)) h2
 ·exact h i j hi hij (by omega)
theorem DeR.next {a:Array Keyed}{l r:Nat} (h:DeR ky a l r) (hr:l<r) (h2:kp ky a r<=kp ky a (r-1)):DeR ky a l (r+1):=by
 intro i j hi hij hj
 by_cases e:j=r
 ·subst e
  by_cases e2:i=j
  ·rw[e2];exact Int.le_refl _
  ·exact Int.le_trans h2 (h i (j-1) hi (by omega) (by omega))
 ·exact h i j hi hij (by omega)
theorem SoR.congr {a a':Array Keyed}{l r:Nat} (h:SoR ky a l r) (e:∀i,l<=i->i<r->kp ky a' i=kp ky a i):SoR ky a' l r:=by
 intro i j hi hij hj
 rw[e i hi (by omega),e j (by omega) hj]
 exact h i j hi hij hj
theorem DeR.congr {a a':Array Keyed}{l r:Nat} (h:DeR ky a l r) (e:∀i,l<=i->i<r->kp ky a' i=kp ky a i):DeR ky a' l r:=by
 intro i j hi hij hj
 rw[e i hi (by omega),e j (by omega) hj]
 exact h i j hi hij hj
theorem Zgn {a:Array Keyed}{i j:Nat} (hj:j<=a.size) (x:Nat):kp ky (mirror a i j ((j-i) / 2)) x=if i<=x/\x<j then kp ky a (i+j-1-x)else kp ky a x:=by
 have e:=getElem?_mirror_all (xs:=a) (i:=i) hj x
 by_cases h:i<=x/\x<j
 ·rw[Yd h]at e⊢;exact Zdl e
 ·rw[Yb h]at e⊢;exact Zdl e
theorem ZdB {a:Array Keyed}{i j:Nat} (hj:j<=a.size) (heq:∀x,i<=x->x<j->kp ky a x=kp ky a (j-1)) (x:Nat):kp ky (mirror a i j ((j-i) / 2)) x=kp ky a x:=by
 rw[Zgn hj]
 split
 ·rw[heq _ (by omega) (by omega),heq x (by omega) (by omega)]
 ·rfl
theorem ZqB {a:Array Keyed}{src d:Nat} (hs:src<a.size) (hd:d<=src) (x:Nat):kp ky (bubble a src d) x=if x=src-d then kp ky a src else if src-d<x/\x<=src then kp ky a (x-1)else kp ky a x:=by
 have e:=getElem?_bubble hs d hd x
 by_cases h1:x=src-d
 ·rw[Yd h1]at e⊢;exact Zdl e
 ·rw[Yb h1]at e⊢
  by_cases h2:src-d<x/\x<=src
  ·rw[Yd h2]at e⊢;exact Zdl e
  ·rw[Yb h2]at e⊢;exact Zdl e
structure Chg (a a':Array Keyed) (l r:Nat):Prop where
 perm:a'.Perm a
 same:∀i,i<l\/r<=i->a'[i]?=a[i]?
theorem Chg.refl (a:Array Keyed) (l r:Nat):Chg a a l r:=⟨Array.Perm.refl _,λ_ _=>rfl⟩
theorem Chg.trans {a b c:Array Keyed}{l r:Nat} (h1:Chg a b l r) (h2:Chg b c l r):Chg a c l r:=⟨h2.perm.trans h1.perm,λi h=>(h2.same i h).trans (h1.same i h)⟩
theorem Chg.wide {a b:Array Keyed}{l r l' r':Nat} (h:Chg a b l r) (h1:l'<=l) (h2:r<=r'):Chg a b l' r':=⟨h.perm,λi hi=>h.same i (by omega)⟩
theorem Chg.size {a b:Array Keyed}{l r:Nat} (h:Chg a b l r):b.size=a.size:=by
 have:=(Array.perm_iff_toList_perm.mp h.perm).length_eq;simpa using this
theorem Chg.kp {a b:Array Keyed}{l r:Nat} (h:Chg a b l r) {i:Nat} (hi:i<l\/r<=i):kp ky b i=kp ky a i:=Zdl (h.same i hi)
theorem ZdC (a:Array Keyed) {i j:Nat} (hj:j<=a.size):Chg a (mirror a i j ((j-i) / 2)) i j:=by
 refine⟨mirror_perm a i j _,λk hk=>?_⟩
 rw[getElem?_mirror_all hj,Yb (by omega)]
theorem Zsq (a:Array Keyed) {src d:Nat} (hs:src<a.size) (hd:d<=src):Chg a (bubble a src d) (src-d) (src+1):=by
 refine⟨bubble_perm a src d,λk hk=>?_⟩
 rw[getElem?_bubble hs d hd,Yb (by omega),Yb (by omega)]
variable {prog:Program}{w:World}{A:Around}{E:Value->Shared->Prop}{s:Shared}{κ:SortKind}{P:Keyed->Prop}
noncomputable def AllP (P:Keyed->Prop) (a:Array Keyed):Prop:=∀x,x∈a->P x
theorem AllP.at {a:Array Keyed} (h:AllP P a) (i:Nat) (hi:i<a.size):P a[i]:=h _ (Array.getElem_mem hi)
theorem AllP.perm {a b:Array Keyed} (h:AllP P a) (e:b.Perm a):AllP P b:=λx hx=>h x ((Array.Perm.mem_iff e).mp hx)
theorem ZfS (hc:Zeg prog w A s κ P ky) {a:Array Keyed}{pd:Array (Nat×Nat×Nat)}{g:Nat}{fl:Option Value} (hP:AllP P a) {i j:Nat}{Q:Option Bool->SortSt->Prop} (hi:i<a.size) (hj:j<a.size) (h:Q (some (decide (kp ky a i<kp ky a j))) (SortSt.mk' κ a pd g fl)):wpS (model prog w) A E s (ltAt' i j) Q (SortSt.mk' κ a pd g fl):=by
 rw[ltAt'_eq]
 refine Yg (wpS_get ?_)
 refine Yg (ZP hi ?_)
 refine Yg (ZP hj ?_)
 rw[Zh3 hi,Zh3 hj]at h
 exact Zle hc rfl (hP.at _ hi) (hP.at _ hj) h
theorem Zh4 {a:Array Keyed}{pd:Array (Nat×Nat×Nat)}{g:Nat}{fl:Option Value}{i j:Nat}{Q:Unit->SortSt->Prop} (h:Q () (SortSt.mk' κ (mirror a i j ((j-i) / 2)) pd g fl)):wpS (model prog w) A E s (reverseSlice' i j) Q (SortSt.mk' κ a pd g fl):=wpS_reverse h
theorem Zlg (hc:Zeg prog w A s κ P ky) {a:Array Keyed}{pd:Array (Nat×Nat×Nat)}{g:Nat}{fl:Option Value} (hP:AllP P a) {lo nrem:Nat}{Q:Option Nat->SortSt->Prop} (hn:1<=nrem) (hs:lo+nrem<=a.size)
  (hQ:∀m a',1<=m->m<=nrem->Chg a a' lo (lo+nrem)->SoR ky a' lo (lo+m)->Q (some m) (SortSt.mk' κ a' pd g fl)):wpS (model prog w) A E s (countRun' lo nrem) Q (SortSt.mk' κ a pd g fl):=by
 have asc:∀(a:Array Keyed),AllP P a->lo+nrem<=a.size->∀n,1<=n->n<=nrem->SoR ky a lo (lo+n)->∀(body:Nat->Option (Option Nat)×Nat->StateT SortSt Sem (ForInStep (Option (Option Nat)×Nat))) (R:Option (Option Nat)×Nat->SortSt->Prop),
   (∀x c,body x c=do
    let r <-ltAt' (lo+c.2) (lo+c.2-1)
    match r with
    |some smaller=>if smaller=true then pure (ForInStep.done (none,c.2))else pure (ForInStep.yield (none,c.2+1))
    |x=>pure (ForInStep.done (some none,c.2))) ->
   (∀m,n<=m->m<=nrem->SoR ky a lo (lo+m)->(m<nrem->kp ky a (lo+m)<kp ky a (lo+m-1))->R (none,m) (SortSt.mk' κ a pd g fl))->wpS (model prog w) A E s (forIn [n:nrem] (none,n) body) R (SortSt.mk' κ a pd g fl):=by
  intro a hP hs n h1 h2 hS body R hbody hR
  refine wpS_forRange (λ(t:Nat) (c:Option (Option Nat)×Nat) (st':SortSt)=>st'=SortSt.mk' κ a pd g fl/\c=(none,t)/\SoR ky a lo (lo+t)) ?_ ?_ ⟨rfl,rfl,hS⟩
  ·rintro t c st' ht1 ht2 ⟨rfl,rfl,hSo⟩
   rw[hbody]
   refine Yg (ZfS hc hP (by simp only;omega) (by simp only;omega) ?_)
   refine Zp (λhv=>?_) (λhv=>?_)
   ·exact Yj (hR t ht1 (by omega) hSo (λ_=>YX hv))
   ·have hv:=λz=>hv (YB z)
    exact Yj ⟨rfl,rfl,SoR.next (r:=lo+t) hSo (by omega) (Int.not_lt.mp hv)⟩
  ·rintro c st' ⟨rfl,rfl,hSo⟩
   have:max n nrem=nrem:=by omega
   rw[this]at hSo⊢
   exact hR nrem h2 (Ye _) hSo (λz=>by omega)
 have one:SoR ky a lo (lo+1):=λi j hi hij hj=>by
  have:i=j:=by omega
  rw[this];exact Int.le_refl _
 rw[countRun'_eq]
 refine Yg (asc a hP hs 1 (Ye _) hn one _ _ (λx c=>rfl) ?_)
 intro n hn1 hn2 hSo hlast
 refine Zp (λh1=>?_) (λh1=>?_)
 ·exact Yj (hQ n a hn1 hn2 (Chg.refl _ _ _) hSo)
 ·simp only[beq_iff_eq]at h1
  have hl:=hlast (by omega)
  refine Zp (λh2=>Yg (ZfS hc hP (by omega) (by omega) (Zp (λh3=>Yj (hQ n a hn1 hn2 (Chg.refl _ _ _) hSo)) (λh3=>Yg (Zh4 ?_))))) (λh2=>?_)
  focus
   have h3:¬ kp ky a lo<kp ky a (lo+n-1):=λz=>h3 (YB z)
   have heq:∀x,lo<=x->x<lo+n->kp ky a x=kp ky a (lo+n-1):=λx x1 x2=>by
    have:=hSo lo x (by omega) (by omega) x2
    have:=hSo x (lo+n-1) x1 (by omega) (by omega)
    omega
   have ek:=ZdB (ky:=ky) (i:=lo) (j:=lo+n) (by omega) heq
   have hC:=(ZdC a (i:=lo) (j:=lo+n) (by omega)).wide (l':=lo) (r':=lo+nrem) (Ye _) (by omega)
   have hD:DeR ky (mirror a lo (lo+n) ((lo+n-lo) / 2)) lo (lo+n+1):=by
    refine DeR.congr (a:=a) ?_ (λi _ _=>ek i)
    refine DeR.next (λi j hi hij hj=>?_) (by omega) (Int.le_of_lt hl)
    rw[heq i hi (by omega),heq j (by omega) hj];exact Int.le_refl _
  rotate_left
  focus
   have hn0:n=1:=by omega
   subst hn0
   have hC:=Chg.refl a lo (lo+nrem)
   have hD:DeR ky a lo (lo+1+1):=by
    refine DeR.next (λi j hi hij hj=>?_) (by omega) (Int.le_of_lt hl)
    have:i=j:=by omega
    rw[this];exact Int.le_refl _
  all_goals
   have hP1:=hP.perm hC.perm
   have hs1:=hC.size
   refine Yg (wpS_lift (wpAny_rule ⟨rfl,?_⟩))
   refine Yg (wpS_mono (Q:=λ(c:Option (Option Nat)×Nat×Nat) (st':SortSt)=>∃a',st'=SortSt.mk' κ a' pd g fl/\Chg a a' lo (lo+nrem)/\c.1=none/\1<=c.2.1/\c.2.1<=nrem/\DeR ky a' lo (lo+c.2.1)/\c.2.2+1<=c.2.1/\∀x,lo+c.2.1-(c.2.2+1)<=x->x<lo+c.2.1->kp ky a' x=kp ky a' (lo+c.2.1-1)) (wpS_forRange (λ(t:Nat) (c:Option (Option Nat)×Nat×Nat) (st':SortSt)=>∃a',st'=SortSt.mk' κ a' pd g fl/\Chg a a' lo (lo+nrem)/\c.1=none/\c.2.1=t/\DeR ky a' lo (lo+c.2.1)/\c.2.2+1<=c.2.1/\∀x,lo+c.2.1-(c.2.2+1)<=x->x<lo+c.2.1->kp ky a' x=kp ky a' (lo+c.2.1-1)) ?_ ?_ ⟨_,rfl,hC,rfl,rfl,hD,by simp only;omega,λx x1 x2=>by simp only at x1 x2⊢;congr 1;omega⟩) ?_)
   ·rintro t c st' ht1 ht2 ⟨a1,rfl,hC1,e1,e2,hD1,hq,heq⟩
    have hP2:=hP.perm hC1.perm
    have hs2:=hC1.size
    refine Yg (ZfS hc hP2 (by omega) (by omega) (Zp (λh3=>?_) (λh3=>Yg (ZfS hc hP2 (by omega) (by omega) (Zp (λh4=>?_) (λh4=>?_))))))
    ·have h3:=YX h3
     have hr:=ZdB (ky:=ky) (i:=lo+c.2.1-(c.2.2+1)) (j:=lo+c.2.1) (by omega) heq
     refine Zp (λh5=>Yg (Zh4 (Yj ⟨_,rfl,hC1.trans ((ZdC a1 (by omega)).wide (by omega) (by omega)),rfl,by simp only;omega,?_,by simp only;omega,λx x1 x2=>by simp only at x1 x2⊢;congr 1;omega⟩))) (λh5=>Yj ⟨_,rfl,hC1,rfl,by simp only;omega,?_,by simp only;omega,λx x1 x2=>by simp only at x1 x2⊢;congr 1;omega⟩)
     ·exact DeR.congr (a:=a1) (DeR.next (r:=lo+c.2.1) hD1 (by omega) (Int.le_of_lt h3)) (λi _ _=>hr i)
     ·exact DeR.next (r:=lo+c.2.1) hD1 (by omega) (Int.le_of_lt h3)
    ·exact Yj ⟨_,rfl,hC1,rfl,by simp only;omega,by simp only;omega,hD1,hq,heq⟩
    ·have h3:=Int.not_lt.mp λz=>h3 (YB z)
     have h4:=Int.not_lt.mp λz=>h4 (YB z)
     have e5:kp ky a1 (lo+c.2.1)=kp ky a1 (lo+c.2.1-1):=Int.le_antisymm h4 h3
     refine Yj ⟨_,rfl,hC1,rfl,by simp only;omega,DeR.next (r:=lo+c.2.1) hD1 (by omega) h4,by simp only;omega,?_⟩
     intro x x1 x2
     simp only at x1 x2⊢
     have e6:lo+(c.2.1+1)-1=lo+c.2.1:=by omega
     rw[e6,e5]
     by_cases ex:x=lo+c.2.1
     ·rw[ex,e5]
     ·exact heq x (by omega) (by omega)
   ·rintro c st' ⟨a1,rfl,hC1,e1,e2,hD1,hq,heq⟩
    exact⟨a1,rfl,hC1,e1,by omega,by omega,hD1,hq,heq⟩
   ·rintro⟨r,n2,neq⟩ st' ⟨a1,rfl,hC1,e1,m1,m2,hD1,hq,heq⟩
    simp only at e1 m1 m2 hD1 hq heq
    subst e1
    have hs2:=hC1.size
    have fin:∀a2,Chg a a2 lo (lo+nrem)->DeR ky a2 lo (lo+n2)->Chg a (mirror a2 lo (lo+n2) ((lo+n2-lo) / 2)) lo (lo+nrem)/\SoR ky (mirror a2 lo (lo+n2) ((lo+n2-lo) / 2)) lo (lo+n2):=by
     intro a2 hC2 hD2
     have:=hC2.size
     refine⟨hC2.trans ((ZdC a2 (by omega)).wide (by omega) (by omega)),?_⟩
     intro i j hi hij hj
     rw[Zgn (by omega),Zgn (by omega),Yd ⟨hi,by omega⟩,Yd ⟨by omega,hj⟩]
     exact hD2 _ _ (by omega) (by omega) (by omega)
    have hr:=ZdB (ky:=ky) (i:=lo+n2-(neq+1)) (j:=lo+n2) (by omega) heq
    have C3:=hC1.trans ((ZdC a1 (i:=lo+n2-(neq+1)) (j:=lo+n2) (by omega)).wide (l':=lo) (r':=lo+nrem) (by omega) (by omega))
    have F1:=fin _ C3 (DeR.congr (a:=a1) hD1 (λi _ _=>hr i))
    have F2:=fin _ hC1 hD1
    refine Zp (λh5=>Yg (Zh4 (Yg (Zh4 (Yg (asc _ (hP.perm F1.1.perm) (by have:=F1.1.size;omega) n2 m1 m2 F1.2 _ _ (λx c=>rfl) (λm z1 z2 z3 _=>?_))))))) (λh5=>Yg (Zh4 (Yg (asc _ (hP.perm F2.1.perm) (by have:=F2.1.size;omega) n2 m1 m2 F2.2 _ _ (λx c=>rfl) (λm z1 z2 z3 _=>?_)))))
    ·exact Yj (hQ m _ (by omega) z2 F1.1 z3)
    ·exact Yj (hQ m _ (by omega) z2 F2.1 z3)
theorem ZiW (hc:Zeg prog w A s κ P ky) {a:Array Keyed}{pd:Array (Nat×Nat×Nat)}{g:Nat}{fl:Option Value} (hP:AllP P a) {lo n ok:Nat}{Q:Bool->SortSt->Prop} (hs:lo+n<=a.size) (hok:ok<=n) (hS:SoR ky a lo (lo+ok))
  (hQ:∀a',Chg a a' lo (lo+n)->SoR ky a' lo (lo+n)->Q true (SortSt.mk' κ a' pd g fl)):wpS (model prog w) A E s (binarySort' lo n ok) Q (SortSt.mk' κ a pd g fl):=by
 rw[binarySort'_eq]
 have h1:SoR ky a lo (lo+max ok 1):=by
  by_cases h:1<=ok
  ·rw[Nat.max_eq_left h];exact hS
  ·intro i j hi hij hj
   have:i=j:=by omega
   rw[this];exact Int.le_refl _
 refine Yg (wpS_mono (Q:=λ(c:Option Bool×Unit) (st':SortSt)=>∃a',st'=SortSt.mk' κ a' pd g fl/\c.1=none/\Chg a a' lo (lo+n)/\SoR ky a' lo (lo+n)) (wpS_forRange (λ(k:Nat) (c:Option Bool×Unit) (st':SortSt)=>∃a',st'=SortSt.mk' κ a' pd g fl/\c.1=none/\Chg a a' lo (lo+n)/\SoR ky a' lo (lo+k)) ?_ ?_ ⟨a,rfl,rfl,Chg.refl _ _ _,h1⟩) ?_)
 ·rintro k c st' k1 k2 ⟨a1,rfl,e1,hC,hSo⟩
  have hP1:=hP.perm hC.perm
  have hs1:=hC.size
  refine Yg (wpS_mono (Q:=λ(c:Option Bool×Nat×Nat) (st':SortSt)=>st'=SortSt.mk' κ a1 pd g fl/\c.1=none/\c.2.1<=k/\(∀i,i<c.2.1->kp ky a1 (lo+i)<=kp ky a1 (lo+k))/\(∀i,c.2.1<=i->i<k->kp ky a1 (lo+k)<kp ky a1 (lo+i))) (wpS_forRange (λ(t:Nat) (c:Option Bool×Nat×Nat) (st':SortSt)=>st'=SortSt.mk' κ a1 pd g fl/\c.1=none/\c.2.1<=c.2.2/\c.2.2<=k/\c.2.2-c.2.1<=k-t/\(∀i,i<c.2.1->kp ky a1 (lo+i)<=kp ky a1 (lo+k))/\(∀i,c.2.2<=i->i<k->kp ky a1 (lo+k)<kp ky a1 (lo+i))) ?_ ?_ ⟨rfl,rfl,Yr _,Ye _,Ye _,λi hi=>absurd hi (Nat.not_lt_zero _),λi x1 x2=>by simp only at x1;omega⟩) ?_)
  ·rintro t c st' t1 t2 ⟨rfl,e1,b1,b2,b3,b4,b5⟩
   refine Zp (λh=>Yj ⟨rfl,rfl,by simp only;omega,b4,λi x1 x2=>b5 i (by simp only at x1;omega) x2⟩) (λh=>Yg (ZfS hc hP1 (by omega) (by omega) (Zp (λh3=>?_) (λh3=>?_))))
   ·have h3:=YX h3
    refine Yj ⟨rfl,rfl,by simp only;omega,by simp only;omega,by simp only;omega,b4,?_⟩
    intro i x1 x2
    simp only at x1
    exact Int.lt_of_lt_of_le h3 (hSo _ _ (by omega) (by omega) (by omega))
   ·have h3:=Int.not_lt.mp λz=>h3 (YB z)
    refine Yj ⟨rfl,rfl,by simp only;omega,by simp only;omega,by simp only;omega,?_,b5⟩
    intro i x1
    simp only at x1
    exact Int.le_trans (hSo _ _ (by omega) (by omega) (by omega)) h3
  ·rintro c st' ⟨rfl,e1,b1,b2,b3,b4,b5⟩
   exact⟨rfl,e1,by omega,b4,λi x1 x2=>b5 i (by omega) x2⟩
  ·rintro⟨r,l,r2⟩ st' ⟨rfl,e2,b1,b4,b5⟩
   simp only at e2 b1 b4 b5
   subst e2
   simp only[moveDown'_eq]
   refine Yg (wpS_modify (Yj ⟨_,rfl,rfl,hC.trans ((Zsq a1 (src:=lo+k) (d:=lo+k-(lo+l)) (by omega) (by omega)).wide (by omega) (by omega)),?_⟩))
   intro i j hi hij hj
   have ed:lo+k-(lo+k-(lo+l))=lo+l:=by omega
   show kp ky (bubble a1 (lo+k) (lo+k-(lo+l))) i<=kp ky (bubble a1 (lo+k) (lo+k-(lo+l))) j
   rw[ZqB (by omega) (by omega),ZqB (by omega) (by omega),ed]
   have big:∀x,lo<=x->x<lo+k->∃y,x=lo+y/\y<k:=λx x1 x2=>⟨x-lo,by omega,by omega⟩
   by_cases c1:i=lo+l
   ·rw[Yd c1]
    by_cases c2:j=lo+l
    ·rw[Yd c2];exact Int.le_refl _
    ·rw[Yb c2,Yd ⟨by omega,by omega⟩]
     obtain⟨y,hy,hyk⟩:=big (j-1) (by omega) (by omega)
     rw[hy];exact Int.le_of_lt (b5 y (by omega) hyk)
   ·rw[Yb c1]
    by_cases c2:j=lo+l
    ·rw[Yd c2,Yb (by omega)]
     obtain⟨y,hy,hyk⟩:=big i (by omega) (by omega)
     rw[hy];exact b4 y (by omega)
    ·rw[Yb c2]
     split<;>split
     ·exact hSo _ _ (by omega) (by omega) (by omega)
     ·omega
     ·exact hSo _ _ (by omega) (by omega) (by omega)
     ·exact hSo _ _ (by omega) (by omega) (by omega)
 ·rintro c st' ⟨a1,rfl,e1,hC,hSo⟩
  exact⟨a1,rfl,e1,hC,λi j hi hij hj=>hSo i j hi hij (by omega)⟩
 ·rintro⟨r,u⟩ st' ⟨a1,rfl,e1,hC,hSo⟩
  simp only at e1
  subst e1
  exact Yj (hQ a1 hC hSo)
end
section
variable {ky:Keyed->Int}
noncomputable def Z0 (ky:Keyed->Int) (a:Array Keyed):List (Nat×Nat×Nat)->Nat->Nat->Prop
 |[],x,y=>x=y
 |r::l,x,y=>r.1=x/\1<=r.2.1/\SoR ky a x (x+r.2.1)/\Z0 ky a l (x+r.2.1) y
variable {a a':Array Keyed}
theorem Z0.app:∀{l m:List (Nat×Nat×Nat)}{x z:Nat},Z0 ky a (l++m) x z↔∃y,Z0 ky a l x y/\Z0 ky a m y z
 |[],m,x,z=>⟨λh=>⟨x,rfl,h⟩,λ⟨y,e,h⟩=>by cases e;exact h⟩
 |r::l,m,x,z=>by
  constructor
  ·rintro⟨h1,h2,h3,h4⟩
   obtain⟨y,q1,q2⟩:=Z0.app.mp h4
   exact⟨y,⟨h1,h2,h3,q1⟩,q2⟩
  ·rintro⟨y,⟨h1,h2,h3,h4⟩,q⟩
   exact⟨h1,h2,h3,Z0.app.mpr ⟨y,h4,q⟩⟩
theorem Z0.le:∀{l:List (Nat×Nat×Nat)}{x y:Nat},Z0 ky a l x y->x+l.length<=y
 |[],x,y,h=>by cases h;exact Ye _
 |r::l,x,y,⟨_,h2,_,h4⟩=>by have:=h4.le;simp only[YR];omega
theorem Z0.congr:∀{l:List (Nat×Nat×Nat)}{x y:Nat},Z0 ky a l x y->(∀i,x<=i->i<y->kp ky a' i=kp ky a i)->Z0 ky a' l x y
 |[],x,y,h,_=>h
 |r::l,x,y,⟨h1,h2,h3,h4⟩,e=>by
  have:=h4.le
  exact⟨h1,h2,h3.congr (λi x1 x2=>e i x1 (by omega)),h4.congr (λi x1 x2=>e i (by omega) x2)⟩
theorem Z0.ZqC:∀{l m:List (Nat×Nat×Nat)}{x y:Nat},Z0 ky a l x y->l.map (λr=>(r.1,r.2.1))=m.map (λr=>(r.1,r.2.1))->Z0 ky a m x y
 |[],[],x,y,h,_=>h
 |r::l,q::m,x,y,⟨h1,h2,h3,h4⟩,e=>by
  simp only[YH,List.cons.injEq,Prod.mk.injEq]at e
  obtain⟨⟨e1,e2⟩,e3⟩:=e
  refine⟨e1▸h1,e2▸h2,e2▸h3,?_⟩
  rw[<-e2];exact h4.ZqC e3
 |[],_::_,_,_,_,e=>by cases e
 |_::_,[],_,_,_,e=>by cases e
theorem ZnD (base:Nat):∀(m:List Keyed) (n:Nat) (a:Array Keyed),base+n+m.length<=a.size ->
  (List.foldl (λ(a:Array Keyed) (x:Keyed×Nat)=>a.setIfInBounds (base+x.2) x.1) a (m.zipIdx n)).toList=a.toList.take (base+n)++m++a.toList.drop (base+n+m.length)
 |[],n,a,h=>by simp
 |x::m,n,a,h=>by
  simp only[YR]at h
  rw[List.zipIdx_cons,List.foldl_cons,ZnD base m (n+1) _ (by simp;omega)]
  simp only[Array.toList_setIfInBounds,YR]
  have e1:(a.toList.set (base+n) x).take (base+(n+1))=a.toList.take (base+n)++[x]:=by
   rw[<-Nat.add_assoc,Y5,List.take_set,List.getElem?_set]
   rw[List.set_eq_of_length_le (by simp;omega)]
   simp[show base+n<a.size by omega]
  have e2:(a.toList.set (base+n) x).drop (base+(n+1)+m.length)=a.toList.drop (base+n+(m.length+1)):=by
   rw[List.drop_set_of_lt (by omega)]
   congr 1;omega
  rw[e1,e2]
  simp
variable {prog:Program}{w:World}{A:Around}{E:Value->Shared->Prop}{s:Shared}{κ:SortKind}{P:Keyed->Prop}
theorem ZgP {l r:Nat} (h:SoR ky a l r) (hr:r<=a.size):Srt ky (a.extract l r).toList:=by
 unfold Srt
 rw[List.pairwise_iff_getElem]
 intro i j hi hj hij
 simp only[YQ,Array.size_extract]at hi hj
 simp only[Array.getElem_toList,Array.getElem_extract]
 rw[<-Zh3 (ky:=ky) (a:=a) (by omega),<-Zh3 (ky:=ky) (a:=a) (by omega)]
 exact h _ _ (by omega) (by omega) (by omega)
theorem laid {base mid r:Nat}{res:Array Keyed} (h1:base<=mid) (h2:mid<=r) (h3:r<=a.size) (hg:Gd ky (a.extract base mid).toList (a.extract mid r).toList res.toList) :
  ∃a':Array Keyed,List.foldl (λ(a:Array Keyed) (x:Keyed×Nat)=>a.setIfInBounds (base+x.2) x.1) a res.toList.zipIdx=a'/\Chg a a' base r/\SoR ky a' base r/\∀j,base<=j->j<r->∃t,base<=t/\t<r/\kp ky a' j=kp ky a t:=by
 have hlen:res.toList.length=r-base:=by
  have:=hg.1.length_eq
  simp only[YM,YQ,Array.size_extract]at this⊢;omega
 have key:=ZnD base res.toList 0 a (by omega)
 have hb:base+0+res.toList.length=r:=by omega
 rw[hb,Nat.add_zero]at key
 refine⟨_,rfl,⟨?_,?_⟩,?_,?_⟩
 ·rw[Array.perm_iff_toList_perm,key]
  have e:a.toList=a.toList.take base++((a.extract base mid).toList++(a.extract mid r).toList)++a.toList.drop r:=by
   simp only[Array.toList_extract,List.extract_eq_drop_take]
   have:(a.toList.drop base).take (mid-base)++(a.toList.drop mid).take (r-mid)=(a.toList.drop base).take (r-base):=by
    have e2:r-base=(mid-base)+(r-mid):=by omega
    rw[e2,List.take_add,List.drop_drop]
    congr 3;omega
   rw[this]
   have e3:a.toList.drop r=(a.toList.drop base).drop (r-base):=by rw[List.drop_drop];congr 1;omega
   rw[e3,YT,Y7,Y7]
  conv=>rhs;rw[e]
  exact List.Perm.append_right _ (List.Perm.append_left _ hg.1)
 ·intro i hi
  rw[<-Array.getElem?_toList,<-Array.getElem?_toList,key]
  have hl0:(a.toList.take base).length=base:=by simp;omega
  rcases hi with hi|hi
  ·rw[YT,Y8 (by omega),List.getElem?_take_of_lt hi]
  ·rw[Ja (by simp;simp at hlen;omega),List.getElem?_drop]
   congr 1
   simp only[YM,hl0,hlen];omega
 all_goals
  have atm:∀j,(hj0:base<=j)->(hj:j<r)->kp ky (List.foldl (λ(a:Array Keyed) (x:Keyed×Nat)=>a.setIfInBounds (base+x.2) x.1) a res.toList.zipIdx) j=ky (res.toList[j-base]'(by omega)):=by
   intro j j1 j2
   have hl0:(a.toList.take base).length=base:=by simp;omega
   have:(List.foldl (λ(a:Array Keyed) (x:Keyed×Nat)=>a.setIfInBounds (base+x.2) x.1) a res.toList.zipIdx)[j]?=some (res.toList[j-base]'(by omega)):=by
    rw[<-Array.getElem?_toList,key,YT,Ja (by omega),Y8 (by omega),hl0,Yi (by omega)]
   unfold kp
   rw[Array.getD_eq_getD_getElem?,this];rfl
 ·intro i j hi hij hj
  rw[atm i hi (by omega),atm j (by omega) hj]
  by_cases e:i=j
  ·subst e;exact Int.le_refl _
  ·exact List.pairwise_iff_getElem.mp hg.2 _ _ _ _ (by omega)
 ·intro j j1 j2
  rw[atm j j1 j2]
  have hm:(res.toList[j-base]'(by omega))∈(a.extract base mid).toList++(a.extract mid r).toList:=(List.Perm.mem_iff hg.1).mp (YC _)
  rcases Yq.mp hm with hm|hm
  ·obtain⟨t,ht,e⟩:=List.mem_iff_getElem.mp hm
   simp only[YQ,Array.size_extract]at ht
   simp only[Array.getElem_toList,Array.getElem_extract]at e
   exact⟨base+t,by omega,by omega,by rw[Zh3 (by omega),e,Array.getElem_toList]⟩
  ·obtain⟨t,ht,e⟩:=List.mem_iff_getElem.mp hm
   simp only[YQ,Array.size_extract]at ht
   simp only[Array.getElem_toList,Array.getElem_extract]at e
   exact⟨mid+t,by omega,by omega,by rw[Zh3 (by omega),e,Array.getElem_toList]⟩
theorem ZmE (hc:Zeg prog w A s κ P ky) {pd:Array (Nat×Nat×Nat)}{g:Nat} (hP:AllP P a) {i sa na p sb nb p':Nat}{Q:Bool->SortSt->Prop} (h1:pd[i]?=some (sa,na,p)) (h2:pd[i+1]?=some (sb,nb,p')) (hsb:sb=sa+na) (hna:1<=na) (hnb:1<=nb) (hs:sb+nb<=a.size) (hSa:SoR ky a sa sb) (hSb:SoR ky a sb (sb+nb))
  (hQ:∀a' g',Chg a a' sa (sb+nb)->SoR ky a' sa (sb+nb)->Q true (SortSt.mk' κ a' ((pd.setIfInBounds i (sa,na+nb,p)).eraseIdxIfInBounds (i+1)) g' none)) :
  wpS (model prog w) A E s (mergeAt' i) Q (SortSt.mk' κ a pd g none):=by
 refine Yg (wpS_get ?_)
 simp only[h1,h2]
 refine Yg (wpS_modify ?_)
 have kat:∀j,(h:j<a.size)->kp ky a j=ky a[j]:=λj h=>Zh3 h
 refine Yg (ZP (by omega:sb<a.size) ?_)
 refine Yg (Zck (f:=λj=>!decide (kp ky a sb<kp ky a (sa+j))) hc rfl (hP.at _ _) hP.at (by omega) (by omega) (λj h=>by rw[kat _ h,kat sb (by omega)];simp) ?_ ?_)
 ·intro x y hxy hy hfy
  simp only[Bool.not_eq_true',decide_eq_false_iff_not,Int.not_lt]at hfy⊢
  exact Int.le_trans (hSa _ _ (by omega) (by omega) (by omega)) hfy
 intro k hk1 hk2 hk3
 simp only[Bool.not_eq_true',decide_eq_false_iff_not,Int.not_lt,Bool.not_eq_false',decide_eq_true_eq]at hk2 hk3
 have pre:∀x,sa<=x->x<sa+k->kp ky a x<=kp ky a sb:=λx x1 x2=>by
  have:=hk2 (x-sa) (by omega)
  rwa [(by omega:sa+(x-sa)=x)]at this
 refine Zp (λh3=>Yj (hQ a g (Chg.refl _ _ _) ?_)) (λh3=>?_)
 ·simp only[beq_iff_eq]at h3
  intro x y hx hxy hy
  by_cases c1:y<sb
  ·exact hSa x y hx hxy c1
  ·by_cases c2:x<sb
   ·exact Int.le_trans (pre x hx (by omega)) (hSb sb y (Ye _) (by omega) hy)
   ·exact hSb x y (by omega) hxy hy
 ·simp only[beq_iff_eq]at h3
  have post1:kp ky a sb<kp ky a (sa+k):=hk3 k (Ye _) (by omega)
  refine Yg (ZP (by omega:sa+k+(na-k)-1<a.size) ?_)
  refine Yg (Zck (f:=λj=>decide (kp ky a (sb+j)<kp ky a (sb-1))) hc rfl (hP.at _ _) hP.at (by omega) (by omega) (λj h=>by
   have e:sb-1=sa+k+(na-k)-1:=by omega
   rw[kat _ h,e,kat _ (by omega)];simp) ?_ ?_)
  ·intro x y hxy hy hfy
   simp only[decide_eq_true_eq]at hfy⊢
   exact Int.lt_of_le_of_lt (hSb _ _ (by omega) (by omega) (by omega)) hfy
  intro n2 q1 q2 q3
  simp only[decide_eq_true_eq,decide_eq_false_iff_not,Int.not_lt]at q2 q3
  refine Zp (λh4=>Yj (hQ a g (Chg.refl _ _ _) ?_)) (λh4=>?_)
  ·simp only[beq_iff_eq]at h4
   have:=q3 0 (by omega) (by omega)
   have:=hSa (sa+k) (sb-1) (by omega) (by omega) (by omega)
   rw[Nat.add_zero]at *
   omega
  ·simp only[beq_iff_eq]at h4
   have fin:∀res:Array Keyed,Gd ky (a.extract (sa+k) sb).toList (a.extract sb (sb+n2)).toList res.toList->∃a':Array Keyed,List.foldl (λ(a:Array Keyed) (x:Keyed×Nat)=>a.setIfInBounds (sa+k+x.2) x.1) a res.toList.zipIdx=a'/\Chg a a' sa (sb+nb)/\SoR ky a' sa (sb+nb):=by
    intro res hg
    obtain⟨a',e,c,so,mem⟩:=laid (by omega) (by omega) (by omega) hg
    refine⟨a',e,c.wide (by omega) (by omega),?_⟩
    have low:∀x t,sa<=x->x<sa+k->sa+k<=t->t<sb+n2->kp ky a x<=kp ky a t:=by
     intro x t x1 x2 t1 t2
     by_cases c1:t<sb
     ·exact hSa x t x1 (by omega) c1
     ·exact Int.le_trans (pre x x1 x2) (hSb sb t (Ye _) (by omega) (by omega))
    have high:∀x t,sb+n2<=x->x<sb+nb->sa+k<=t->t<sb+n2->kp ky a t<=kp ky a x:=by
     intro x t x1 x2 t1 t2
     have h5:kp ky a (sb-1)<=kp ky a x:=by
      have:=q3 (x-sb) (by omega) (by omega)
      rwa [(by omega:sb+(x-sb)=x)]at this
     by_cases c1:t<sb
     ·exact Int.le_trans (hSa t (sb-1) (by omega) (by omega) (by omega)) h5
     ·exact hSb t x (by omega) (by omega) (by omega)
    intro x y hx hxy hy
    by_cases x1:x<sa+k
    ·rw[c.kp (.inl x1)]
     by_cases y1:y<sa+k
     ·rw[c.kp (.inl y1)];exact hSa x y hx hxy (by omega)
     ·by_cases y2:y<sb+n2
      ·obtain⟨t,t1,t2,e2⟩:=mem y (by omega) y2
       rw[e2];exact low x t hx x1 t1 t2
      ·rw[c.kp (.inr (by omega))]
       exact Int.le_trans (low x (sa+k) hx x1 (Ye _) (by omega)) (high y (sa+k) (by omega) hy (Ye _) (by omega))
    ·by_cases x2:x<sb+n2
     ·by_cases y2:y<sb+n2
      ·exact so x y (by omega) hxy y2
      ·obtain⟨t,t1,t2,e2⟩:=mem x (by omega) x2
       rw[e2,c.kp (.inr (by omega))];exact high y t (by omega) hy t1 t2
     ·rw[c.kp (.inr (by omega)),c.kp (.inr (by omega))]
      exact hSb x y (by omega) hxy hy
   have Sx:=ZgP (ky:=ky) (a:=a) (l:=sa+k) (r:=sb) (λx y x1 x2 x3=>hSa x y (by omega) x2 x3) (by omega)
   have Sy:=ZgP (ky:=ky) (a:=a) (l:=sb) (r:=sb+n2) (λx y x1 x2 x3=>hSb x y (by omega) x2 (by omega)) (by omega)
   have px:∀j,(h:j<(a.extract (sa+k) sb).size)->P (a.extract (sa+k) sb)[j]:=λj h=>by rw[Array.getElem_extract];exact hP.at _ _
   have py:∀j,(h:j<(a.extract sb (sb+n2)).size)->P (a.extract sb (sb+n2))[j]:=λj h=>by rw[Array.getElem_extract];exact hP.at _ _
   have zx:0<(a.extract (sa+k) sb).size:=by rw[Array.size_extract];omega
   have zy:0<(a.extract sb (sb+n2)).size:=by rw[Array.size_extract];omega
   have c0:ky (a.extract sb (sb+n2))[0]<=ky (a.extract (sa+k) sb)[0]:=by
    rw[Array.getElem_extract,Array.getElem_extract,<-kat _ (by omega),<-kat _ (by omega)]
    exact Int.le_of_lt post1
   have cl:∀j,(h:j<(a.extract sb (sb+n2)).size)->ky (a.extract sb (sb+n2))[j]<=ky ((a.extract (sa+k) sb)[(a.extract (sa+k) sb).size-1]'(by omega)):=by
    intro j h
    rw[Array.size_extract]at h
    rw[Array.getElem_extract,Array.getElem_extract,<-kat _ (by omega),<-kat _ (by rw[Array.size_extract];omega)]
    have e:sa+k+((a.extract (sa+k) sb).size-1)=sb-1:=by rw[Array.size_extract];omega
    rw[e]
    exact Int.le_of_lt (q2 j (by omega))
   refine Zp (λh5=>Yg (ZmB hc px py Sx Sy zx zy c0 cl ?_)) (λh5=>Yg (ZmD hc px py Sx Sy zx zy c0 cl ?_))
   all_goals
    intro res g' hg
    obtain⟨a',e,c,so⟩:=fin res hg
    refine Yg (wpS_modify (Yg (wpS_get (Yj ?_))))
    have:=hQ a' g' c so
    rw[<-e]at this
    exact this
theorem split2 {l:List (Nat×Nat×Nat)}{i:Nat} (h:i+1<l.length):l=l.take i++l[i]::l[i+1]::l.drop (i+2):=by
 rw[<-List.drop_eq_getElem_cons (by omega),<-List.drop_eq_getElem_cons (by omega),Y7]
theorem ZnE {pd:Array (Nat×Nat×Nat)}{i:Nat} (h:i+1<pd.size) (v:Nat×Nat×Nat):((pd.setIfInBounds i v).eraseIdxIfInBounds (i+1)).toList=pd.toList.take i++v::pd.toList.drop (i+2):=by
 rw[Array.toList_eraseIdxIfInBounds,Array.toList_setIfInBounds,List.eraseIdx_eq_take_drop_succ,List.set_eq_take_append_cons_drop,Yd (by simp;omega)]
 have hl:(pd.toList.take i).length=i:=by simp;omega
 rw[List.take_append,List.drop_append,hl,(by omega:i+1-i=1),(by omega:i+1+1-i=2),List.take_of_length_le (l:=pd.toList.take i) (by omega),List.drop_of_length_le (l:=pd.toList.take i) (by omega)]
 simp
theorem ZfT (hc:Zeg prog w A s κ P ky) {pd:Array (Nat×Nat×Nat)}{g i lo:Nat} (hP:AllP P a) {Q:Bool->SortSt->Prop} (hi:i+1<pd.size) (hR:Z0 ky a pd.toList 0 lo) (hlo:lo<=a.size)
  (hQ:∀a' pd' g',Chg a a' 0 lo->Z0 ky a' pd'.toList 0 lo->pd'.size+1=pd.size->Q true (SortSt.mk' κ a' pd' g' none)) :
  wpS (model prog w) A E s (mergeAt' i) Q (SortSt.mk' κ a pd g none):=by
 have hl:i+1<pd.toList.length:=by simpa using hi
 have hR0:=hR
 rw[split2 hl]at hR
 obtain⟨y,r1,r2⟩:=Z0.app.mp hR
 obtain⟨e1,n1,s1,e2,n2,s2,r3⟩:=r2
 have le3:=r3.le
 have le1:=r1.le
 refine ZmE hc hP (p:=pd.toList[i].2.2) (p':=pd.toList[i+1].2.2) (sa:=y) (na:=pd.toList[i].2.1) (sb:=y+pd.toList[i].2.1) (nb:=pd.toList[i+1].2.1) ?_ ?_ rfl n1 n2 (by omega) s1 s2 ?_
 ·rw[<-Array.getElem?_toList,Yi (by omega),<-e1]
 ·rw[<-Array.getElem?_toList,Yi (by omega),<-e2]
 ·intro a' g' c so
  refine hQ _ _ _ (c.wide (by omega) (by omega)) ?_ ?_
  ·rw[ZnE hi]
   refine Z0.app.mpr ⟨y,r1.congr (λj _ j2=>c.kp (.inl j2)),rfl,by simp only;omega,?_,?_⟩
   ·simp only;rw[<-Nat.add_assoc];exact so
   ·simp only;rw[<-Nat.add_assoc];exact r3.congr (λj j1 _=>c.kp (.inr j1))
  ·rw[<-YQ,ZnE hi]
   simp;omega
end
section
variable {ky:Keyed->Int}{prog:Program}{w:World}{A:Around}{E:Value->Shared->Prop}{s:Shared}{κ:SortKind}{P:Keyed->Prop}
theorem Z0.push {a:Array Keyed}{pd:Array (Nat×Nat×Nat)}{lo n p:Nat} (h:Z0 ky a pd.toList 0 lo) (hn:1<=n) (hs:SoR ky a lo (lo+n)):Z0 ky a (pd.push (lo,n,p)).toList 0 (lo+n):=by
 rw[Array.toList_push]
 exact Z0.app.mpr ⟨lo,h,rfl,hn,hs,rfl⟩
theorem Zlh (hc:Zeg prog w A s κ P ky) {a:Array Keyed}{g:Nat}{Q:Unit->SortSt->Prop} (hP:AllP P a) (h2:1<=a.size)
  (hQ:∀st',(arrOf st').Perm a->failedOf st'=none->SoR ky (arrOf st') 0 a.size->Q () st') :
  wpS (model prog w) A E s sortRuns' Q (SortSt.mk' κ a #[] g none):=by
 rw[sortRuns'_eq]
 refine Yg (wpS_get ?_)
 refine Yg (wpS_mono (Q:=λ(c:Option Unit×Nat) (st':SortSt)=>∃a' pd' g',st'=SortSt.mk' κ a' pd' g' none/\c.1=none/\a'.Perm a/\Z0 ky a' pd'.toList 0 a.size) (wpS_forRange (λ(t:Nat) (c:Option Unit×Nat) (st':SortSt)=>∃a' pd' g',st'=SortSt.mk' κ a' pd' g' none/\c.1=none/\a'.Perm a/\t<=c.2/\c.2<=a.size/\Z0 ky a' pd'.toList 0 c.2) ?_ ?_ ⟨a,#[],g,rfl,rfl,Array.Perm.refl _,Ye _,Yr _,rfl⟩) ?_)
 ·rintro t c st' _ ht ⟨a1,pd1,g1,rfl,e1,hp1,ht1,hlo,hR⟩
  have hsz:∀{b:Array Keyed},b.Perm a->b.size=a.size:=λh=>by
   have:=(Array.perm_iff_toList_perm.mp h).length_eq;simpa using this
  have hs1:=hsz hp1
  refine Zp (λh=>Yj ⟨a1,pd1,g1,rfl,rfl,hp1,?_⟩) (λh=>?_)
  ·have e:c.2=a.size:=Nat.le_antisymm hlo h
   rw[<-e];exact hR
  have h:c.2<a.size:=Nat.lt_of_not_le h
  refine Yg (Zlg hc (hP.perm hp1) (by show 1<=a.size-c.2;omega) (by show c.2+(a.size-c.2)<=a1.size;omega) ?_)
  intro m a2 m1 m2 c2 so2
  have m2:m<=a.size-c.2:=m2
  have hs2:=c2.size
  have hp2:=c2.perm.trans hp1
  refine Zp (λh3=>Yg (wpS_lift (wpAny_rule ⟨rfl,Yg (ZiW hc (hP.perm hp2) (by show c.2+min (a.size-c.2) (minRun' a.size a.size 0)<=a2.size;omega) (by show m<=min (a.size-c.2) (minRun' a.size a.size 0);have:m<minRun' a.size a.size 0:=h3;omega) so2 ?_)⟩))) (λh3=>?_)
  focus
   intro a3 c3 so3
   refine Zp (λz=>by cases z) (λ_=>?_)
   have hp3:=c3.perm.trans hp2
   have R3:Z0 ky a3 pd1.toList 0 c.2:=hR.congr (λi _ i2=>by rw[c3.kp (.inl i2),c2.kp (.inl i2)])
   have h3:m<minRun' a.size a.size 0:=h3
   have n3:1<=min (a.size-c.2) (minRun' a.size a.size 0):=by omega
   have n4:c.2+min (a.size-c.2) (minRun' a.size a.size 0)<=a.size:=by omega
  rotate_left
  focus
   have hp3:=hp2
   have so3:=so2
   have R3:Z0 ky a2 pd1.toList 0 c.2:=hR.congr (λi _ i2=>by rw[c2.kp (.inl i2)])
   have n3:=m1
   have n4:c.2+m<=a.size:=by omega
  all_goals
   have hs3:=hsz hp3
   refine Yg (wpS_get ?_)
   cases hb:pd1.back? with
   |none =>
    simp only[hb]
    exact Yg (wpS_modify (Yj ⟨_,_,_,rfl,rfl,hp3,by simp only;omega,n4,R3.push n3 so3⟩))
   |some b =>
    obtain⟨s1,n1,p1⟩:=b
    simp only[hb]
    refine Yg (wpS_mono (Q:=λ(c':Option Unit×Unit) (st':SortSt)=>∃a4 pd4 g4,st'=SortSt.mk' κ a4 pd4 g4 none/\c'.1=none/\Chg _ a4 0 c.2/\Z0 ky a4 pd4.toList 0 c.2) (wpS_forRange (λ(t':Nat) (c':Option Unit×Unit) (st':SortSt)=>∃a4 pd4 g4,st'=SortSt.mk' κ a4 pd4 g4 none/\c'.1=none/\Chg _ a4 0 c.2/\Z0 ky a4 pd4.toList 0 c.2) ?_ (λc' st' z=>z) ⟨_,pd1,g1,rfl,rfl,Chg.refl _ _ _,R3⟩) ?_)
    ·rintro t' c' st' _ _ ⟨a4,pd4,g4,rfl,e4,c4,R4⟩
     have hp4:=c4.perm.trans hp3
     have hs4:=hsz hp4
     refine Yg (wpS_get ?_)
     by_cases hz:pd4.size>1
     ·have hg:pd4[pd4.size-2]?=some (pd4[pd4.size-2]'(by omega)):=getElem?_pos _ _ _
      simp only[hz,if_true,hg]
      refine Zp (λ_=>Yj ⟨a4,pd4,g4,rfl,rfl,c4,R4⟩) (λ_=>Yg (ZfT hc (hP.perm hp4) (by show pd4.size-2+1<pd4.size;omega) R4 (by omega) ?_))
      intro a5 pd5 g5 c5 R5 _
      exact Zp (λz=>by cases z) (λ_=>Yj ⟨a5,pd5,g5,rfl,rfl,c4.trans c5,R5⟩)
     ·simp only[hz,if_false]
      exact Yj ⟨a4,pd4,g4,rfl,rfl,c4,R4⟩
    ·rintro⟨r,u⟩ st' ⟨a4,pd4,g4,rfl,e4,c4,R4⟩
     simp only at e4
     subst e4
     refine Yg (wpS_modify (Yg (wpS_modify (Yj ⟨_,_,_,rfl,rfl,c4.perm.trans hp3,by simp only;omega,n4,?_⟩))))
     refine Z0.push (R4.ZqC ?_) n3 (so3.congr (λi i1 _=>c4.kp (.inr i1)))
     rw[Array.toList_modify]
     apply List.ext_getElem?
     intro i
     simp only[YL,List.getElem?_modify]
     cases pd4.toList[i]? with
     |none=>rfl
     |some v=>simp only[Option.map_some];split<;>rfl
 ·rintro c st' ⟨a1,pd1,g1,rfl,e1,hp1,ht1,hlo,hR⟩
  have e:c.2=a.size:=by
   have:max 0 a.size=a.size:=by omega
   simp only[this]at ht1;omega
  exact⟨a1,pd1,g1,rfl,e1,hp1,e▸hR⟩
 ·rintro⟨r,lo⟩ st' ⟨a1,pd1,g1,rfl,e1,hp1,hR⟩
  have hsz:∀{b:Array Keyed},b.Perm a->b.size=a.size:=λh=>by
   have:=(Array.perm_iff_toList_perm.mp h).length_eq;simpa using this
  simp only at e1
  subst e1
  have hle:=hR.le
  simp only[YQ,Nat.zero_add]at hle
  refine Yg (wpS_mono (Q:=λ(c':Option Unit×Unit) (st':SortSt)=>∃a4 pd4 g4,st'=SortSt.mk' κ a4 pd4 g4 none/\c'.1=none/\a4.Perm a/\Z0 ky a4 pd4.toList 0 a.size/\pd4.size<=1) (wpS_forRange (λ(t':Nat) (c':Option Unit×Unit) (st':SortSt)=>∃a4 pd4 g4,st'=SortSt.mk' κ a4 pd4 g4 none/\c'.1=none/\a4.Perm a/\Z0 ky a4 pd4.toList 0 a.size/\pd4.size<=max 1 (a.size-t')) ?_ ?_ ⟨_,pd1,g1,rfl,rfl,hp1,hR,by omega⟩) ?_)
  ·rintro t' c' st' _ _ ⟨a4,pd4,g4,rfl,e4,hp4,R4,z4⟩
   have hs4:=hsz hp4
   refine Yg (wpS_get (Zp (λhz=>Yj ⟨a4,pd4,g4,rfl,rfl,hp4,R4,hz⟩) (λhz=>?_)))
   have hz:¬ pd4.size<=1:=hz
   refine Yg (ZfT hc (hP.perm hp4) ?_ R4 (by omega) ?_)
   ·show(if _ then pd4.size-2-1 else pd4.size-2)+1<pd4.size
    have two:∀(c:Prop) [Decidable c],(if c then pd4.size-2-1 else pd4.size-2)+1<pd4.size:=λc _=>by split<;>omega
    exact two _
   ·intro a5 pd5 g5 c5 R5 z5
    exact Zp (λz=>by cases z) (λ_=>Yj ⟨a5,pd5,g5,rfl,rfl,c5.perm.trans hp4,R5,by omega⟩)
  ·rintro c' st' ⟨a4,pd4,g4,rfl,e4,hp4,R4,z4⟩
   have z4:pd4.size<=max 1 (a.size-max 0 a.size):=z4
   exact⟨a4,pd4,g4,rfl,e4,hp4,R4,by omega⟩
  ·rintro⟨r,u⟩ st' ⟨a4,pd4,g4,rfl,e4,hp4,R4,z4⟩
   simp only at e4
   subst e4
   refine Yj (hQ _ hp4 rfl ?_)
   show SoR ky a4 0 a.size
   have zl:pd4.toList.length<=1:=by simpa using z4
   match hl:pd4.toList,zl with
   |[],_=>rw[hl]at R4;have:0=a.size:=R4;omega
   |[r],_=>rw[hl]at R4;obtain⟨_,_,so,e⟩:=R4;have e:0+r.2.1=a.size:=e;rw[e]at so;exact so
   |_::_::_,z=>simp at z
end
section
variable {prog:Program}{w:World}{E:Value->Shared->Prop}{s:Shared}
theorem ZqD {α β:Type}{f:α->β}:∀{l l':List β},l'.Perm l->∀q0:List α,l=q0.map f->∃q:List α,q.Perm q0/\l'=q.map f:=by
 intro l l' h
 induction h with
 |nil=>intro q0 e;exact⟨q0,.refl _,e⟩
 |cons x h ih =>
  intro q0 e
  cases q0 with
  |nil=>cases e
  |cons a q0 =>
   rw[YH]at e
   obtain⟨e1,e2⟩:=List.cons.inj e
   obtain⟨q,hq,e3⟩:=ih q0 e2
   exact⟨a::q,hq.cons a,by rw[YH,<-e3,e1]⟩
 |swap x y l =>
  intro q0 e
  cases q0 with
  |nil=>cases e
  |cons a q0 =>
   cases q0 with
   |nil=>simp at e
   |cons b q0 =>
    simp only[YH,List.cons.injEq]at e
    exact⟨b::a::q0,List.Perm.swap a b q0,by simp only[YH];rw[e.1,e.2.1,e.2.2]⟩
 |trans h1 h2 ih1 ih2 =>
  intro q0 e
  obtain⟨q,hq,e2⟩:=ih2 q0 e
  obtain⟨q',hq',e3⟩:=ih1 q e2
  exact⟨q',hq'.trans hq,e3⟩
theorem ZqE {A:Around}{κ:SortKind}{key:Nat->Int}{vs:List Value} (h2:2<=vs.length) (ha:Zdi vs.length key (kas_ask prog w A κ vs) s) (hk:∀i j,i<vs.length->j<vs.length->vs.getD i .none=vs.getD j .none->key i=key j) :
  wpAny (model prog w) A (sortRuns'.run (SortSt.mk' κ (vs.toArray.zip vs.toArray) #[] 7 none)) (λr s'=>∃p:Array Nat,Bd vs.length p/\SoT key p vs.length/\arrOf r.2=p.map (kas_item (vs.toArray.zip vs.toArray))/\failedOf r.2=none/\s'=s) E s:=by
 have hsz:(vs.toArray.zip vs.toArray).size=vs.length:=by simp
 have hitem:∀i,i<vs.length->kas_item (vs.toArray.zip vs.toArray) i=(vs.getD i .none,vs.getD i .none):=by
  intro i hi
  unfold kas_item
  rw[Array.getD_eq_getD_getElem?,getElem?_pos _ i (by omega)]
  simp[hi]
 let P:Keyed->Prop:=λx=>∃i,i<vs.length/\x=(vs.getD i .none,vs.getD i .none)
 let ky:Keyed->Int:=λx=>@dite _ (P x) (Classical.propDecidable _) (λh=>key (Classical.choose h)) (λ_=>0)
 have hky:∀i,i<vs.length->ky (vs.getD i .none,vs.getD i .none)=key i:=by
  intro i hi
  have hp:P (vs.getD i .none,vs.getD i .none):=⟨i,hi,rfl⟩
  show @dite _ (P _) (Classical.propDecidable _) _ _=_
  rw[dif_pos hp]
  have:=Classical.choose_spec hp
  exact hk _ _ this.1 hi (Prod.mk.inj this.2).1.symm
 have hc:Zeg prog w A s κ P ky:=by
  rintro x y ⟨i,hi,rfl⟩ ⟨j,hj,rfl⟩ C hC
  rw[hky i hi,hky j hj]at hC
  exact ha i j C hi hj hC
 have hP:AllP P (vs.toArray.zip vs.toArray):=by
  intro x hx
  obtain⟨i,hi,e⟩:=Array.mem_iff_getElem.mp hx
  rw[hsz]at hi
  refine⟨i,hi,?_⟩
  rw[<-e];simp[hi]
 refine Yy (Zlh (E:=E) hc hP (by omega) (Q:=λ_ st'=>(arrOf st').Perm (vs.toArray.zip vs.toArray)/\failedOf st'=none/\SoR ky (arrOf st') 0 vs.length) (λst' h1 h2 h3=>⟨h1,h2,hsz▸h3⟩)) ?_ (λ_ _ z=>z)
 rintro⟨u,st'⟩ s' ⟨rfl,hp,hf,hS⟩
 have e0:(vs.toArray.zip vs.toArray).toList=(List.range vs.length).map (kas_item (vs.toArray.zip vs.toArray)):=by
  refine List.ext_getElem (by simp) λi i1 i2=>?_
  have hi:i<vs.length:=by simpa using i2
  rw[List.getElem_map,List.getElem_range,hitem i hi]
  simp[hi]
 obtain⟨q,hq,e⟩:=ZqD (Array.perm_iff_toList_perm.mp hp) _ e0
 have hB:Bd vs.length q.toArray:=Array.perm_iff_toList_perm.mpr (by simpa using hq)
 have harr:arrOf st'=q.toArray.map (kas_item (vs.toArray.zip vs.toArray)):=by
  apply Array.toList_inj.mp
  rw[e];simp
 refine⟨q.toArray,hB,?_,harr,hf,rfl⟩
 intro i j hij hj
 have hql:q.toArray.size=vs.length:=hB.size
 have hat:∀t,t<vs.length->kp ky (arrOf st') t=kk key q.toArray t:=by
  intro t ht
  have hb:q.toArray.getD t 0<vs.length:=hB.lt (by omega) t
  unfold kk
  rw[<-hky _ hb,<-hitem _ hb]
  unfold kp
  rw[harr]
  have ht2:t<(q.toArray.map (kas_item (vs.toArray.zip vs.toArray))).size:=by rw[Array.size_map];omega
  rw[Array.getD_eq_getD_getElem?,getElem?_pos _ t ht2,Array.getElem_map,Array.getD_eq_getD_getElem?,getElem?_pos q.toArray t (by omega)]
  rfl
 rw[<-hat i (by omega),<-hat j hj]
 exact hS i j (Yr _) hij hj
theorem ZmF {A:Around}{κ:SortKind}{key:Nat->Int}{a:Addr}{vs:List Value}{n:Nat}{P:PySem.Fin->Shared->Prop} (ho:s.heap.get? a=some (seqObj "list" vs.toArray n)) (h64:vs.length<=100000) (hcs:∀i j,i<vs.length->j<vs.length->vs.getD i .none=vs.getD j .none->key i=key j)
  (hk:∀s':Shared,(∀b o,b≠a->s.heap.get? b=some o->s'.heap.get? b=some o)->2<=vs.length->(∀Q:SortKind->Shared->Prop,Q κ s'->wpAny (model prog w) A (keyKind' vs.toArray) Q E s')/\Zdi vs.length key (kas_ask prog w A κ vs) s')
  (fin:∀p:Array Nat,Bd vs.length p->SoT key p vs.length->P (.done (.ret .none)) {s with heap:=sortedHeap s.heap a vs (Zb6 vs p)}):wpAny (model prog w) A (Builtin.«list.sort» ⟨[.ref a],[]⟩) P E s:=by
 have lt:=Yk ho
 obtain⟨c1,oc1⟩:∃c1,(s.heap.update a (Obj.mapSeq λ_=>#[])).get? a=some (seqObj "list" #[] c1):=⟨_,get?_update_seq ho λ_=>#[]⟩
 have oc6:(((s.heap.update a (Obj.mapSeq λ_=>#[])).push (seqObj "tuple" vs.toArray 0)).push (seqObj "list" #[] 0)).get? a=some (seqObj "list" #[] c1):=Yh _ (Yh _ oc1)
 have kp:∀b o,b≠a->s.heap.get? b=some o->(((s.heap.update a (Obj.mapSeq λ_=>#[])).push (seqObj "tuple" vs.toArray 0)).push (seqObj "list" #[] 0)).get? b=some o:=λb o nb e =>
  Yh _ (Yh _ (by rw[Heap.get?_update_ne _ _ _ _ nb];exact e))
 have z1:vs.toArray.size=vs.length:=Yv ..
 have za:∀p:Array Nat,Bd vs.length p->(Zb6 vs p).size<=sizeLine:=λp hp=>by
  have:=hp.size
  unfold Zb6
  rw[Yv,Yf,YQ,this,sizeLine_eq];omega
 rw[list_sort_plain]
 have hob:=ho
 refine Ya (listItems_at hob rfl (Ya ?_))
 refine listUpdate_at hob rfl (Ya (seqEpoch_at oc1 rfl (Ya ?_))) (by rw[z1,sizeLine_eq];omega) (Yr _)
 refine wpAny_newTuple (Ya ?_) (Yo h64 (by decide))
 refine wpAny_newList (wpAny_holding ?_) (Yr _)
 show wpAny (model prog w) A _ P E {s with heap:=(((s.heap.update a (Obj.mapSeq λ_=>#[])).push (seqObj "tuple" vs.toArray 0)).push (seqObj "list" #[] 0))}
 dsimp only
 by_cases h2:vs.toArray.size<2
 ·rw[Yd h2,Yd h2]
  refine Ya (Yc ?_)
  rw[StateT.run_pure]
  refine Ya (Yc ?_)
  have hB:Bd vs.length (List.range vs.length).toArray:=Array.Perm.refl _
  have e:=kas_range (vs.toArray.zip vs.toArray)
  rw[show(vs.toArray.zip vs.toArray).size=vs.length by simp]at e
  have eo:(arrOf (SortSt.mk' general' (vs.toArray.zip vs.toArray) #[] 7 none)).map (·.2)=Zb6 vs (List.range vs.length).toArray:=kat_snds (ks:=vs) (vs:=vs) rfl e.symm
  dsimp only
  rw[eo]
  refine Ya (seqEpoch_at oc6 rfl (Ya (listUpdate_at oc6 rfl ?_ (Yr _) (Nat.le_succ_of_le (za _ hB)))))
  simp only[bne_self_eq_false,Bool.false_eq_true,if_false]
  exact Yc (fin _ hB λi j h1 hj=>by rw[show i=j by omega];exact Int.le_refl _)
 ·rw[Yb h2,Yb h2]
  have h2':2<=vs.length:=by omega
  obtain⟨hk1,hk2⟩:=hk {s with heap:=(((s.heap.update a (Obj.mapSeq λ_=>#[])).push (seqObj "tuple" vs.toArray 0)).push (seqObj "list" #[] 0))} kp h2'
  refine Ya (hk1 _ (Ya (Yy (ZqE h2' hk2 hcs) ?_ λ_ _ z=>z)))
  rintro⟨⟨⟩,st⟩ s' ⟨p,b1,b2,har,hf,rfl⟩
  have eo:(arrOf st).map (·.2)=Zb6 vs p:=kat_snds (ks:=vs) (vs:=vs) rfl har
  dsimp only
  rw[eo]
  refine Ya (seqEpoch_at oc6 rfl (Ya (listUpdate_at oc6 rfl ?_ (Yr _) (Nat.le_succ_of_le (za _ b1)))))
  rw[hf]
  simp only[bne_self_eq_false,Bool.false_eq_true,if_false]
  exact Yc (fin p b1 b2)
theorem Zsr {A:Around}{κ:SortKind}{key:Nat->Int}{l:Addr}{vs:List Value}{Q:Value->Shared->Prop} (hl:s.heap.IsList l vs.toArray) (h64:vs.length<=100000) (hcs:∀i j,i<vs.length->j<vs.length->vs.getD i .none=vs.getD j .none->key i=key j)
  (hk:∀(A':Around) (E':Value->Shared->Prop) (s':Shared),(∀b o,s.heap.get? b=some o->s'.heap.get? b=some o)->2<=vs.length->(∀Q:SortKind->Shared->Prop,Q κ s'->wpAny (model prog w) A' (keyKind' vs.toArray) Q E' s')/\Zdi vs.length key (kas_ask prog w A' κ vs) s')
  (fin:∀p:Array Nat,Bd vs.length p->SoT key p vs.length->Q (.ref (s.heap.objs.size+1)) {s with heap:=sortedAll s.heap vs (Zb6 vs p)}):wpAny (model prog w) A (call (.builtin "sorted") [.ref l]) Q E s:=by
 refine Calls.call_function_entry kind_sorted plain_sorted entry_sorted (args_sorted1 _) ?_
 unfold Builtin.«sorted»
 refine Ya (m:=checkCount "sorted" 1 1 _) (Yc (Ya (collect_list hl (Ya (wpAny_newList ?_ (by rw[sizeLine_eq];omega))) (by rw[sizeLine_eq];omega))))
 have z5:((s.heap.push (seqObj "list" #[] 0)).update s.heap.objs.size (Obj.mapSeq (·++vs.toArray))).objs.size=s.heap.objs.size+1:=(Heap.size_update ..).trans (size_push' ..)
 have o5:(((s.heap.push (seqObj "list" #[] 0)).update s.heap.objs.size (Obj.mapSeq (·++vs.toArray))).push (seqObj "list" vs.toArray 0)).get? (s.heap.objs.size+1)=some (seqObj "list" vs.toArray 0):=z5▸Yt _ rfl
 have kp:∀b o,s.heap.get? b=some o->(((s.heap.push (seqObj "list" #[] 0)).update s.heap.objs.size (Obj.mapSeq (·++vs.toArray))).push (seqObj "list" vs.toArray 0)).get? b=some o:=λb o e=>by
  have hlt:=Yk e
  refine Yh _ ?_
  rw[Heap.get?_update_ne _ _ _ _ (Yp hlt)]
  exact Yh _ e
 show wpAny _ _ _ _ _ {s with heap:=(((s.heap.push (seqObj "list" #[] 0)).update s.heap.objs.size (Obj.mapSeq (·++vs.toArray))).push (seqObj "list" vs.toArray 0))}
 rw[z5]
 refine Ya (wpAny_holding (wpAny_call_entry slot_list_sort ⟨_,o5,rfl⟩ entry_list_sort (ZmF (κ:=κ) (key:=key) o5 h64 hcs (λs' k6 h2=>hk _ _ s' (λb o e=>k6 b o (Yp (YV (Yk e))) (kp b o e)) h2) λp b1 b2=>⟨_,rfl,?_⟩) (args_list_sort _)))
 exact Yc ⟨_,rfl,fin p b1 b2⟩
end
section
variable {X:Cx}
noncomputable def Zj8 (K:Frag):List V->Hp->VK->Prop:=λxs H Q=>∃(p:Addr) (rs:List (List Int)),xs=[.ref p]/\ZA H p rs/\(∀r∈rs,∃x y,r=[x,y]/\0<=y/\y<100000)/\rs.length<=100000/\∀(rs':List (List Int)) (l:Addr) (H':Hp),rs'.Perm rs->rs'.Pairwise (λr r'=>ZaI r<=ZaI r')->H l=none->Ze H H'->ZA H' l rs'->Q (.ref l) H'
theorem ZiX {K:Frag} (hK:X.K=K):ZaF X (.builtin "sorted") (Zj8 K):=by
 subst hK
 intro pins s σ H xs us Q I r h
 obtain⟨p,rs,rfl,⟨as,hp,hla,hT⟩,hR,hn,q⟩:=h
 obtain⟨u,rfl,ru⟩:=r.one
 cases(show u=Value.ref p from ru)
 obtain⟨its,rv,pl,hz⟩:=I.list (SqL.of hp)
 have hl:its.length=rs.length:=by have:=rv.length;rw[Yf]at this;omega
 have hits:∀i (h1:i<its.length) (h2:i<as.length),its[i]=Value.ref as[i]:=λi h1 h2=>by
  obtain⟨v,e1,e2⟩:=rv.get (i:=i) (x:=V.ref as[i]) (by rw[YL,Yi h2];rfl)
  rw[Yi h1]at e1
  cases e1
  exact e2
 have hPr:∀i (h1:i<its.length) (h2:i<rs.length),∃x y,rs[i]=[x,y]/\0<=y/\y<100000/\Pr s.heap its[i] x y:=λi h1 h2=>by
  obtain⟨x,y,e,y0,y1⟩:=hR _ (YC h2)
  obtain⟨_,tv,hv,o,g,c,n,d⟩:=I.hok _ _ (hT i (by omega) h2)
  rw[e]at hv
  obtain⟨v1,v2,rfl,⟨t1,rfl⟩,⟨t2,rfl⟩⟩:=hv.two
  exact⟨x,y,e,y0,y1,as[i]'(by omega),o,n,t1,t2,hits i h1 (by omega),g,c,d⟩
 have hPm:∀v∈its,∃x y,Pr s.heap v x y:=λv hv=>by
  obtain⟨i,h1,rfl⟩:=YZ hv
  obtain⟨x,y,_,_,_,hp⟩:=hPr i h1 (by omega)
  exact⟨x,y,hp⟩
 refine Zsr (κ:=tuples' true) (key:=λi=>ZaI (rs.getD i [])) pl.isList (by omega) ?_ (λA' E' s' kp h2=>⟨λQ' hq=>ZhS h2 (λv hv=>?_) hq,λi j C hi hj hC=>?_⟩) λp' hB hS=>?_
 ·intro i j hi hj e
  obtain⟨x,y,e1,_,_,a1,o1,n1,t1,u1,q1,q2,_,q3⟩:=hPr i hi (by omega)
  obtain⟨x',y',e1',_,_,a1',o1',n1',t1',u1',q1',q2',_,q3'⟩:=hPr j hj (by omega)
  have e2:its[i]=its[j]:=by simpa[hi,hj]using e
  rw[q1,q1']at e2
  cases e2
  rw[q2]at q2'
  cases q2'
  rw[q3]at q3'
  have ei:rs.getD i []=[x,y]:=by simp[Yn,show i<rs.length by omega,e1]
  have ej:rs.getD j []=[x',y']:=by simp[Yn,show j<rs.length by omega,e1']
  cases q3'
  simp only[ei,ej]
 ·obtain⟨x,y,hp⟩:=hPm v hv
  exact⟨x,y,hp.keep kp⟩
 ·obtain⟨x,y,e,y0,y1,hp1⟩:=hPr i hi (by omega)
  obtain⟨x',y',e',y0',y1',hp2⟩:=hPr j hj (by omega)
  unfold kas_ask
  rw[show its.getD i Value.none=its[i] by simp[hi],show its.getD j Value.none=its[j] by simp[hj]]
  refine Zk2 (hp1.keep kp) (hp2.keep kp) ?_
  have ei:ZaI (rs.getD i [])=x*100000+y:=by simp[ZaI,Yn,show i<rs.length by omega,e]
  have ej:ZaI (rs.getD j [])=x'*100000+y':=by simp[ZaI,Yn,show j<rs.length by omega,e']
  have:decide (ZaI (rs.getD i [])<ZaI (rs.getD j []))=decide (x<x'\/(x=x'/\y<y')):=by rw[ei,ej];exact decide_eq_decide.mpr (by omega)
  rw[<-this];exact hC
 ·have hsz:p'.size=rs.length:=hB.size.trans hl
  have hlt:∀i∈p'.toList,i<rs.length:=λi hi=>by
   have:=(Array.perm_iff_toList_perm.mp hB).mem_iff.mp hi
   simpa[hl]using this
  have sm:Ze H (upd H (s.heap.objs.size+1) (.lst ((p'.toList.map λi=>as.getD i 0).map V.ref))):=(Ze.refl H).upd (I.hok.fresh (YU _))
  refine⟨.ref (s.heap.objs.size+1),_,I.laid (t':=s.toks) (a:=s.heap.objs.size+1) (o:=.lst ((p'.toList.map λi=>as.getD i 0).map V.ref)) (λb o e=>sortedAll_old e) (YU _) ?_,rfl,q (p'.toList.map λi=>rs.getD i []) _ _ ?_ ?_ (I.hok.fresh (YU _)) sm ⟨_,Zb,by simp,λi i1 i2=>sm _ _ ?_⟩⟩
  ·obtain⟨n,e⟩:=sortedAll_at s.heap its (Zb6 its p')
   refine⟨Yo (show _<=100000 by simp;omega) (by decide),(Zb6 its p').toList,n,?_,by rw[e]⟩
   have key:∀(l:List Nat),(∀i∈l,i<rs.length)->Vals ((l.map λi=>as.getD i 0).map V.ref) (l.map λi=>its.getD i Value.none):=by
    intro l
    induction l with
    |nil=>intro _;exact .nil
    |cons a l ih =>
     intro hl'
     refine .cons ?_ (ih λi hi=>hl' i (YD _ hi))
     have ha:=hl' a Yz
     have h1:a<its.length:=by omega
     have h2:a<as.length:=by omega
     show its.getD a Value.none=Value.ref (as.getD a 0)
     rw[show its.getD a Value.none=its[a] by simp[h1],show as.getD a 0=as[a] by simp[h2]]
     exact hits a h1 h2
   exact key _ hlt
  ·have:=(Array.perm_iff_toList_perm.mp hB).map λi=>rs.getD i []
   refine this.trans ?_
   have e:((List.range its.length).toArray.toList.map λi=>rs.getD i [])=rs:=by
    rw[hl]
    refine List.ext_getElem (by simp) λi i1 i2=>?_
    have:i<rs.length:=i2
    simp[Yn,this]
   rw[e]
  ·rw[List.pairwise_iff_getElem]
   intro i j i1 j1 hij
   have i2:i<p'.size:=by simpa using i1
   have j2:j<p'.size:=by simpa using j1
   have:=hS i j (by omega) (by omega)
   unfold kk at this
   rw[Array.getD_eq_getD_getElem?,Array.getD_eq_getD_getElem?,getElem?_pos p' i i2,getElem?_pos p' j j2]at this
   simpa using this
  ·have i3:i<p'.toList.length:=by simpa using i1
   have hi:=hlt _ (YC i3)
   have h2:p'.toList[i]<as.length:=by omega
   have:=hT _ h2 hi
   have e1:(p'.toList.map λi=>as.getD i 0)[i]'(by simpa using i1)=as[p'.toList[i]]:=by rw[List.getElem_map,Yn,Yi h2];rfl
   have e2:(p'.toList.map λi=>rs.getD i [])[i]'(by simpa using i2)=rs[p'.toList[i]]:=by rw[List.getElem_map,Yn,Yi hi];rfl
   rw[e1,e2];exact this
end
end L2
namespace L2
open PySem PySem.Spec PyProof.Rows
section
variable {prog:Program}{w:World}{A:Around}{R:Result->Shared->Prop}{s:Shared}{elt tg iter tg1 iter1:Expr}{ifs ifs1:List Expr}{scope:Scope}{pos:Pos}{it acc:Value}{env:Env}
theorem Zj9 (hs1:∀env x,foldedSetIterable iter1 env x=pure x) (I:Nat->Shared->Prop)
  (turn:∀n s,I n s->wpAny (model prog w) A (pyNext it) (λr s₁=>match r with
   |none=>R (.ok .next) s₁
   |some v=>wpAny (model prog w) A (letOwnedTupleGo tg it v) (λ_ s₁=>wpAny (model prog w) A (assign tg env v) (λ_ s₂ =>
     wpAny (model prog w) A (forIn ifs true λc r=>if r=true then do let ok <-isTrue c env (eval c env);pure (ForInStep.yield ok)else pure (ForInStep.yield r)) (λok s₃ =>
      if ok=true then wpAny (model prog w) A (eval iter1 env) (λx s₄=>wpAny (model prog w) A (pyIter x) (λit2 s₅ =>
       wpAny (model prog w) A (runOwn (.compStart (.ListComp elt [⟨tg,iter,ifs,0⟩,⟨tg1,iter1,ifs1,0⟩] scope pos) 1 it2 acc env) env) (λ_ s₆=>∃m,m<n/\I m s₆) (λ_ _=>False) s₅) (λ_ _=>False) s₄) (λ_ _=>False) s₃
      else ∃m,m<n/\I m s₃) (λ_ _=>False) s₂) (λ_ _=>False) s₁) (λ_ _=>False) s₁) (λ_ _=>False) s)
  (n:Nat) (h:I n s) :
  codeAny (model prog w) A (.compLoop (.ListComp elt [⟨tg,iter,ifs,0⟩,⟨tg1,iter1,ifs1,0⟩] scope pos) 0 it acc env) R s:=by
 refine codeAny_loop rfl I (λn s hI=>?_) n h
 show wpAny _ A ((compTurn (.ListComp elt [⟨tg,iter,ifs,0⟩,⟨tg1,iter1,ifs1,0⟩] scope pos) 0 it acc env).onRaise (λx=>do noteFrame x env;theTreesLotGoes x)) _ _ s
 refine wpAny_noted ?_
 refine Ya (m:=standAt iter.pos) (wpAny_standAt (Ya (m:=pyNext it) (Yy (turn n s hI) (λr s₁ h₁=>?_) λ_ _ h'=>h'.elim)))
 cases r with
 |none=>exact Yc h₁
 |some v =>
  refine Ya (m:=letOwnedTupleGo tg it v) (Yy h₁ (λ_ s₁' h₁=>?_) λ_ _ h'=>h'.elim)
  refine Ya (m:=assign tg env v) (Yy h₁ (λ_ s₂ h₂=>Ya (Yy h₂ (λok s₃ h₃=>?_) λ_ _ h'=>h'.elim)) λ_ _ h'=>h'.elim)
  cases ok with
  |false=>exact Yc ⟨rfl,h₃⟩
  |true =>
   refine Ya (m:=eval iter1 env) (Yy h₃ (λx s₄ h₄=>?_) λ_ _ h'=>h'.elim)
   refine Ya (m:=standAt iter1.pos) (wpAny_standAt ?_)
   refine Ya (m:=foldedSetIterable iter1 env x) ?_
   rw[hs1]
   refine Yc ?_
   refine Ya (m:=holding [x] (pyIter x)) (wpAny_holding (Yy h₄ (λit2 s₅ h₅=>?_) λ_ _ h'=>h'.elim))
   exact Ya (m:=runOwn _ env) (Yy h₅ (λ_ s₆ h₆=>Yc ⟨rfl,h₆⟩) λ_ _ h'=>h'.elim)
theorem Zka (I:Nat->Shared->Prop)
  (turn:∀n s,I n s->wpAny (model prog w) A (pyNext it) (λr s₁=>match r with
   |none=>R (.ok .next) s₁
   |some v=>wpAny (model prog w) A (letOwnedTupleGo tg1 it v) (λ_ s₁=>wpAny (model prog w) A (assign tg1 env v) (λ_ s₂ =>
     wpAny (model prog w) A (forIn ifs1 true λc r=>if r=true then do let ok <-isTrue c env (eval c env);pure (ForInStep.yield ok)else pure (ForInStep.yield r)) (λok s₃ =>
      if ok=true then wpAny (model prog w) A (eval elt env) (λx s₄ =>
       wpAny (model prog w) A (call (.builtin "list.append") [acc,x]) (λ_ s₅=>∃m,m<n/\I m s₅) (λ_ _=>False) s₄) (λ_ _=>False) s₃
      else ∃m,m<n/\I m s₃) (λ_ _=>False) s₂) (λ_ _=>False) s₁) (λ_ _=>False) s₁) (λ_ _=>False) s)
  (n:Nat) (h:I n s) :
  codeAny (model prog w) A (.compLoop (.ListComp elt [⟨tg,iter,ifs,0⟩,⟨tg1,iter1,ifs1,0⟩] scope pos) 1 it acc env) R s:=by
 refine codeAny_loop rfl I (λn s hI=>?_) n h
 show wpAny _ A ((compTurn (.ListComp elt [⟨tg,iter,ifs,0⟩,⟨tg1,iter1,ifs1,0⟩] scope pos) 1 it acc env).onRaise (λx=>do noteFrame x env;theTreesLotGoes x)) _ _ s
 refine wpAny_noted ?_
 refine Ya (m:=standAt iter1.pos) (wpAny_standAt (Ya (m:=pyNext it) (Yy (turn n s hI) (λr s₁ h₁=>?_) λ_ _ h'=>h'.elim)))
 cases r with
 |none=>exact Yc h₁
 |some v =>
  refine Ya (m:=letOwnedTupleGo tg1 it v) (Yy h₁ (λ_ s₁' h₁=>?_) λ_ _ h'=>h'.elim)
  refine Ya (m:=assign tg1 env v) (Yy h₁ (λ_ s₂ h₂=>Ya (Yy h₂ (λok s₃ h₃=>?_) λ_ _ h'=>h'.elim)) λ_ _ h'=>h'.elim)
  cases ok with
  |false=>exact Yc ⟨rfl,h₃⟩
  |true =>
   exact Ya (m:=(do let x <-eval elt env;let _ <-call (.builtin "list.append") [acc,x];pure ())) (Ya (Yy h₃ (λx s₄ h₄=>Ya (Yy h₄ (λ_ s₅ h₅=>Yc (Yc ⟨rfl,h₅⟩)) λ_ _ h'=>h'.elim)) λ_ _ h'=>h'.elim))
theorem Zh5
  (h0:codeAny (model prog w) A (.compLoop (.ListComp elt [⟨tg,iter,ifs,0⟩,⟨tg1,iter1,ifs1,0⟩] scope pos) 1 it acc env) R s)
  (h:wpAny (model prog w) A (pyIter it) (λit' s'=>codeAny (model prog w) A (.compLoop (.ListComp elt [⟨tg,iter,ifs,0⟩,⟨tg1,iter1,ifs1,0⟩] scope pos) 1 it' acc env) R s') (λ_ _=>False) s) :
  codeAny (model prog w) A (.compStart (.ListComp elt [⟨tg,iter,ifs,0⟩,⟨tg1,iter1,ifs1,0⟩] scope pos) 1 it acc env) R s:=by
 refine codeAny_of_tree ?_
 show wpAny _ _ ((compStart (.ListComp elt [⟨tg,iter,ifs,0⟩,⟨tg1,iter1,ifs1,0⟩] scope pos) 1 it acc env).onRaise (λx=>do noteFrame x env;standAt theWindowsPlace)) _ _ s
 refine wpAny_onRaise (Yy (E:=λ_ _=>False) ?_ (λ_ _ q=>q) λ_ _ z=>z.elim)
 unfold compStart
 show wpAny _ _ (ask >>= _) _ _ s
 refine Ya (wpAny_askSetting (wpAny_ite ?_))
 split
 ·first
   |exact Ya (Yc (Yc (And.intro rfl h0)))
   |exact Yc (And.intro rfl h0)
 ·first
   |exact Ya (wpAny_rule (Ya (wpAny_standAt (Ya (Yy h (λit' s' h'=>Yc (And.intro rfl h')) λ_ _ x=>x)))))
   |(refine Ya (wpAny_rule ?_);show wpAny _ _ (standAt iter1.pos >>= _) _ _ s;exact Ya (wpAny_standAt (Ya (Yy h (λit' s' h'=>Yc (And.intro rfl h')) λ_ _ x=>x))))
end
noncomputable def Zkb (J2:It) (g1:TG) (tt1:TT) (te:TE) (σ2:St) (acc:List V) (F:List V->Hp->Prop) (H4:Hp):Prop:=∃W2:Nat->Nat->List V->Hp->Prop,(∃m2,W2 0 m2 acc H4)/\∀j m2 acc2 H5,W2 j m2 acc2 H5 ->
 (J2.stop j H5/\F acc2 H5) \/
 (J2.go j H5/\acc2.length<sizeLine/\∀x2 H6,J2.yld j H5 x2 H6->g1 x2 σ2 H6 fun σ3 H7=>tt1 σ3 H7 λb2 H8=>if b2=true then te σ3 H8 λv H9=>∃m',m'<m2/\W2 (j+1) m' (acc2++[v]) H9 else ∃m',m'<m2/\W2 (j+1) m' acc2 H8)
noncomputable def ZmG (J:It) (g:TG) (tt:TT) (wi1:TI) (g1:TG) (tt1:TT) (te:TE) (σ0:St) (Q:VK) (H1:Hp):Prop:=∃W:Nat->Nat->List V->Hp->Prop,(∃m,W 0 m [] H1)/\∀i m acc H,W i m acc H ->
 (J.stop i H/\acc.length<=sizeLine/\∀p,H p=none->Q (.ref p) (upd H p (.lst acc))) \/
 (J.go i H/\acc.length<=sizeLine/\∀x H',J.yld i H x H'->g x σ0 H' fun σ2 H2=>tt σ2 H2 λb H3=>if b=true then wi1 σ2 H3 λJ2 H4=>Zkb J2 g1 tt1 te σ2 acc (λacc2 H5=>∃m',m'<m/\W (i+1) m' acc2 H5) H4 else ∃m',m'<m/\W (i+1) m' acc H3)
noncomputable def ZmH (wi:TI) (g:TG) (tt:TT) (wi1:TI) (g1:TG) (tt1:TT) (te:TE) (js:List (Option Nat)):TE:=fun σ H Q=>wi σ H λJ H1=>ZmG J g tt wi1 g1 tt1 te (Z3 js σ) Q H1
theorem Zju {wi wi1:TI}{g g1:TG}{tt tt1:TT}{te:TE}{js:List (Option Nat)}{σ:St}{H:Hp}{Q:VK}:ZmH wi g tt wi1 g1 tt1 te js σ H Q=wi σ H λJ H1=>ZmG J g tt wi1 g1 tt1 te (Z3 js σ) Q H1:=rfl
section
variable {X:Cx}
theorem ZoA {pins:List (Addr×Obj)}{σ:St}{H:Hp}{s:Shared}{tg elt iter tg1 iter1:Expr}{ifs ifs1:List Expr}{scope:Scope}{pos:Pos}{wi wi1:TI}{g g1:TG}{tt tt1:TT}{te:TE}{Nc:List Str}{js:List (Option Nat)}{use:Option (Value->Sem Unit)}{Q:VK}{QQ:Value->Shared->Prop}
  (hc:X.calm=true) (hok:compOk X.env.scope scope=true) (htk:takesC X.N Nc scope js 0=true) (hi:PI X tg iter wi)
  (hg:∀cl C s2 H2 fp,PG (ZU X Nc scope cl C s2 H2 fp) tg g) (ht:∀cl C s2 H2 fp,Zg8 (ZU X Nc scope cl C s2 H2 fp) ifs tt) (hi1:∀cl C s2 H2 fp,PI (ZU X Nc scope cl C s2 H2 fp) tg1 iter1 wi1) (hg1:∀cl C s2 H2 fp,PG (ZU X Nc scope cl C s2 H2 fp) tg1 g1) (ht1:∀cl C s2 H2 fp,Zg8 (ZU X Nc scope cl C s2 H2 fp) ifs1 tt1) (he:∀cl C s2 H2 fp,PE (ZU X Nc scope cl C s2 H2 fp) elt te)
  (hs:∀x,foldedSetIterable iter X.env x=pure x) (hs1:∀env x,foldedSetIterable iter1 env x=pure x) {L L1:List Nat} (ho:Ze2 g L) (ho1:Ze2 g1 L1) (hL:(L.all λk=>js[k]?==some none)=true) (hL1:(L1.all λk=>js[k]?==some none&&!L.contains k)=true) (I:Inv X pins σ H s) (h:ZmH wi g tt wi1 g1 tt1 te js σ H Q)
  (fin:∀(D C:Addr) (H' H2:Hp) (s2 s':Shared) (xs:List V) (m:Str->Option Value),Inv X pins σ H2 s2->H' C=none->C=D+1->D=s2.heap.objs.size->s'.heap.Ns C m->(∀h',Heap.SameBut C s'.heap h'->Inv X pins σ (upd H' D (.lst xs)) {s' with heap:=h'})->Q (.ref D) (upd H' D (.lst xs)) ->
   compPost (model X.prog X.w) X.A X.xe use QQ (.ref D) C (.ok .next) s') :
  wpAny (model X.prog X.w) X.A (comprehension (.ListComp elt [⟨tg,iter,ifs,0⟩,⟨tg1,iter1,ifs1,0⟩] scope pos) scope X.env (firstIterPos [⟨tg,iter,ifs,0⟩,⟨tg1,iter1,ifs1,0⟩] pos) (newList []) false (eval iter X.env) use) QQ X.xe s:=by
 have hcells:∀y∈scope.names,y.2=.free->∃c,X.env.cells.lookup y.1=some c:=λy hy hf=>I.ok.has y.1 (ZbO hok y hy hf)
 obtain⟨cl,hcl,up,hfr⟩:=Zfi hcells
 have hk:=ZbM hok
 have hcell:=ZbN hok
 refine wpAny_comprehension_free (use:=use) rfl hs hcl hk (ZfH hok) (thn (hi pins s σ H _ I h) λv s1 h1=>thn h1 λitv s2 h2=>?_)
 obtain⟨it,fp,tn,J,H2,e,I2,T,st2,f2,W,⟨m0,w0⟩,turn⟩:=h2
 subst e
 refine wpAny_newObj_type (wpAny_newFunctionEnv hcell (by intro y hy;simp at hy) (λh₁ hns₁ hsb₁=>?_) hk)
 dsimp only at hns₁ hsb₁⊢
 generalize hH2:s2.heap.push {cls:=.type "list",dict:=none,data:=.seq ([]:List Value).toArray}=HH at hns₁ hsb₁⊢
 have hC:HH.objs.size=s2.heap.objs.size+1:=by rw[<-hH2,Heap.size_push]
 have hfl:∀b∈fp,b<s2.heap.objs.size:=λb hb=>by
  obtain⟨o,ho,_⟩:=T.obj 0 _ st2 b hb
  exact Yk ho
 have hDC:s2.heap.objs.size≠HH.objs.size:=by rw[hC];exact Yp (Nat.lt_succ_self _)
 have old:∀b o,s2.heap.get? b=some o->h₁.get? b=some o:=λb o e=>hsb₁.extBut b o (by rw[hC];exact Yp (YV (Yk e))) (Yh _ (hH2▸Yh _ e))
 have hacc:h₁.get? s2.heap.objs.size=some {cls:=.type "list",dict:=none,data:=.seq ([]:List Value).toArray}:=hsb₁.extBut _ _ hDC (Yh _ (hH2▸Yt _ rfl))
 have I4:=ZhB (Nc:=Nc) (js:=js) (tk:=s2.toks+([]:List (Str×Value)).length) I2 hok htk up hfr f2 hfl rfl hC old hns₁ hacc (by intro v z;cases z)
 have st4:tn 0 h₁:=T.keep _ _ _ st2 λb _ o e=>old b o e
 generalize hXc:ZU X Nc scope cl HH.objs.size s2 H2 fp=Xc at I4
 have hXA:Xc.A=X.A:=by rw[<-hXc];rfl
 have hXe:Xc.env=compEnvC scope cl HH.objs.size X.env:=by rw[<-hXc];rfl
 have hXp:Xc.prog=X.prog:=by rw[<-hXc];rfl
 have hXw:Xc.w=X.w:=by rw[<-hXc];rfl
 have hXx:Xc.xe=λ_ _=>False:=by rw[<-hXc];rfl
 have hXk:Xc.K=X.K:=by rw[<-hXc];rfl
 have hXcalm:Xc.calm=true:=by rw[<-hXc];exact hc
 have fpok:∀{pl:List (Addr×Obj)}{H':Hp},(∀p∈pl,s2.heap.objs.size<=p.1)->(∀b∈fp,H' b=none)->∀b∈fp,FpOk Xc pl H' b:=λ{pl H'} hpl hn b hb=>by
  have k1:b≠HH.objs.size:=Yp (by rw[hC];exact YV (hfl b hb))
  have k2:b∉frs X.stack:=λq=>by
   rcases Ym.mp (I2.Zfc b q)with z|z
   ·exact(f2 b hb).2.1 z
   ·exact(f2 b hb).2.2.1 z
  rw[<-hXc]
  refine⟨hn b hb,k1,k2,.inl hb,λx c e=>(f2 b hb).2.2.2.2.1 x c (up _ _ e),λp hp=>?_⟩
  have hp':p∈pl:=by simpa[ZU]using hp
  exact Nat.ne_of_gt (YG (hfl b hb) (hpl p hp'))
 have gX:PG Xc tg g:=hXc▸hg cl HH.objs.size s2 H2 fp
 have tX:Zg8 Xc ifs tt:=hXc▸ht cl HH.objs.size s2 H2 fp
 have iX:PI Xc tg1 iter1 wi1:=hXc▸hi1 cl HH.objs.size s2 H2 fp
 have gX1:PG Xc tg1 g1:=hXc▸hg1 cl HH.objs.size s2 H2 fp
 have tX1:Zg8 Xc ifs1 tt1:=hXc▸ht1 cl HH.objs.size s2 H2 fp
 have eX:PE Xc elt te:=hXc▸he cl HH.objs.size s2 H2 fp
 have hs0:Xc.s₀=s2:=by rw[<-hXc];rfl
 have hh0:Xc.H₀=H2:=by rw[<-hXc];rfl
 have hfs:Xc.fs=frs X.stack:=by rw[<-hXc];rfl
 have hex:Xc.ex=fp:=by rw[<-hXc];rfl
 have loop:codeAny (model X.prog X.w) X.A (.compLoop (.ListComp elt [⟨tg,iter,ifs,0⟩,⟨tg1,iter1,ifs1,0⟩] scope pos) 0 (.ref it) (.ref s2.heap.objs.size) (compEnvC scope cl HH.objs.size X.env)) (compPost (model X.prog X.w) X.A X.xe use QQ (.ref s2.heap.objs.size) HH.objs.size)
   {s2 with heap:=h₁,toks:=s2.toks+([]:List (Str×Value)).length}:=by
  refine Zj9 hs1 (λn s'=>∃i acc its nn H',Inv Xc [(s2.heap.objs.size,{cls:=.type "list",dict:=none,data:=.seq (its:List Value).toArray nn})] (Z3 js σ) H' s'/\Vals acc its/\acc.length<=sizeLine/\tn i s'.heap/\(∀b∈fp,H' b=none)/\W i n acc H') ?_ m0
   ⟨0,[],[],0,H2,I4,.nil,Yr _,st4,λb hb=>(f2 b hb).1,w0⟩
  rintro n s3 ⟨i,acc,its,nn,H3,I3,va,hlen,st3,fr3,w3⟩
  have pg:∀p∈([(s2.heap.objs.size,{cls:=.type "list",dict:=none,data:=.seq its.toArray nn})]:List (Addr×Obj)),s2.heap.objs.size<=p.1:=λp hp=>by
   simp only[Ym,List.not_mem_nil,or_false]at hp
   subst hp;exact Ye _
  rcases turn i n acc H3 w3 with⟨stop,hl,qn⟩|⟨go,hl,step⟩
  ·have q:=T.done Xc hXp hXw hXk hXcalm i _ s3 (Z3 js σ) H3 (λ_ _=>False) I3 (fpok pg fr3) st3 stop
   rw[hXA]at q
   refine thn q λr s4 ⟨hr,I5⟩=>?_
   subst hr
   have hpin:=I5.pin _ (Yl _ (.head _))
   obtain⟨m5,hn5,_⟩:=I5.loc
   rw[hXe]at hn5
   refine fin _ _ H3 H2 s2 s4 acc m5 I2 (by have:=I5.free;rw[hXe]at this;exact this) hC rfl hn5 (λh' hsb=>?_) (qn _ hpin.2.1)
   have same:∀b o,b≠HH.objs.size->s4.heap.get? b=some o->h'.get? b=some o:=λb o hb e=>hsb.extBut b o hb e
   have un:=I5.base
   rw[hfs,hex,hh0,hs0]at un
   have lt:∀b o,s2.heap.get? b=some o->b<s2.heap.objs.size:=λb o e=>Yk e
   have neC:∀b o,s2.heap.get? b=some o->b≠HH.objs.size:=λb o e=>Yp (by rw[hC];exact YV (lt b o e))
   have neD:∀b o,s2.heap.get? b=some o->b≠s2.heap.objs.size:=λb o e=>Yp (lt b o e)
   have trkC:∀b o,H3 b=some o->b≠HH.objs.size:=λb o e z=>by
    have:=I5.free;rw[hXe]at this;rw[z,show H3 HH.objs.size=none from this]at e;cases e
   refine I2.Zpy (s':={s4 with heap:=h'}) (ch:=fp) (I5.os.trans (by rw[hs0])) ⟨λb o e n hb hx=>same _ _ (neC b o e) (un.keep b o e n hb hx),λb o e n hb hx=>?_,λb o e n hx=>by rw[Zg (neD b o e)];exact un.free b o e n hx,λb o e hx=>?_,λb xs e=>?_,λb o u e=>?_,λb ps e=>?_⟩ (λa o e=>?_) I5.bare λb hb=>⟨(f2 b hb).2.2.2.1,(f2 b hb).2.1,(f2 b hb).2.2.2.2.1,(f2 b hb).2.2.2.2.2⟩
   ·obtain⟨sl,z⟩:=un.slot b o e n hb hx
    exact⟨sl,same _ _ (neC b o e) z⟩
   ·obtain⟨o',z⟩:=un.there b o e hx
    exact⟨o',same _ _ (neC b o e) z⟩
   ·rw[Zg (Yp (I2.hok.lt e))];exact un.tups b xs e
   ·rw[Zg (Yp (I2.hok.lt e))];exact un.frzs b o u e
   ·obtain⟨more,z⟩:=un.tbls b ps e
    exact⟨more,by rw[Zg (Yp (I2.hok.lt e))];exact z⟩
   ·by_cases ha:a=s2.heap.objs.size
    ·subst ha
     rw[Zb]at e;cases e
     exact⟨hl,its,nn,va,same _ _ hDC hpin.1⟩
    ·rw[Zg ha]at e
     have q:=I5.hok a o e
     rw[hXp,hXw]at q
     refine q.Zfz (λb u hb z=>same b u ?_ z) (λb z=>by rw[Zg];exact z;intro y;subst y;rw[hpin.2.1]at z;cases z) (λb xs z=>by rw[Zg];exact z;intro y;subst y;rw[hpin.2.1]at z;cases z) λb o u z=>by rw[Zg];exact z;intro y;subst y;rw[hpin.2.1]at z;cases z
     rcases hb with hb|hb
     ·subst hb;exact trkC _ _ e
     ·exact trkC _ _ hb
  ·have q:=T.item Xc hXp hXw hXk hXcalm i _ s3 (Z3 js σ) H3 (λ_ _=>False) I3 (fpok pg fr3) st3 go
   rw[hXA]at q
   refine thn q λr s4 ⟨u,hr,h4⟩=>?_
   subst hr
   refine thn h4 λ_ s5 ⟨x,H5,I5,r5,y5,st5,fr5⟩=>?_
   have I5':=I5.pinned (fpok pg fr5) (T.obj _ _ st5)
   have again:∀{σ7:St}{H7:Hp}{s7:Shared}{acc7:List V}{its7:List Value}{n7:Nat}{m:Nat},Inv Xc ([(s2.heap.objs.size,{cls:=.type "list",dict:=none,data:=.seq its7.toArray n7})]++Zae fp s5.heap) σ7 H7 s7->Vals acc7 its7->acc7.length<=sizeLine->W (i+1) m acc7 H7->σ7.length=(Z3 js σ).length->(∀(k:Nat) v,(Z3 js σ)[k]?=some (some v)->σ7[k]?=some (some v)) ->
     ∃i acc its nn H',Inv Xc [(s2.heap.objs.size,{cls:=.type "list",dict:=none,data:=.seq (its:List Value).toArray nn})] (Z3 js σ) H' s7/\Vals acc its/\acc.length<=sizeLine/\tn i s7.heap/\(∀b∈fp,H' b=none)/\W i m acc H':=λ{σ7 H7 s7 acc7 its7 n7 m} I7 v7 l7 w7 hl7 hw7=>by
    refine⟨i+1,acc7,its7,n7,H7,(I7.weak hl7.symm hw7).ZbL,v7,l7,T.keep _ _ _ st5 λb hb o e=>(I7.pin (b,o) (Yl _ (Yl _ (ZaD hb e)))).1,λb hb=>?_,w7⟩
    obtain⟨o,e,d⟩:=T.obj _ _ st5 b hb
    exact(I7.pin (b,o) (Yl _ (Yl _ (ZaD hb e)))).2.1
   have keep:∀{σ6:St},ZbU L (Z3 js σ) σ6->σ6.length=(Z3 js σ).length/\∀(k:Nat) v,(Z3 js σ)[k]?=some (some v)->σ6[k]?=some (some v):=λ{σ6} hk=>⟨hk.1,λk v e=>by
    rw[hk.2 k]
    ·exact e
    ·intro z
     have q:=List.all_eq_true.mp hL k z
     simp only[beq_iff_eq]at q
     unfold Z3 at e
     rw[YL,q]at e
     cases e⟩
   have q6:=gX _ s5 (Z3 js σ) H5 x u _ I5' r5 (ho _ _ _ _ _ (fun σ' H' kk z=>And.intro kk z) (step x H5 y5))
   rw[hXe,hXA,hXp,hXw,hXx]at q6
   refine thn q6 λ_ s6 ⟨σ6,H6,I6,k6,q6⟩=>?_
   obtain⟨kl,kv⟩:=keep k6
   have q7:=tX _ s6 σ6 H6 _ I6 q6
   rw[hXe,hXA,hXp,hXw,hXx]at q7
   refine thn q7 λb s7 ⟨H7,I7,q7⟩=>?_
   cases b with
   |false =>
    obtain⟨m',hm,w7⟩:=q7
    exact⟨m',hm,again I7 va hlen w7 kl kv⟩
   |true =>
    have q8:=iX _ s7 σ6 H7 _ I7 q7
    rw[hXe,hXA,hXp,hXw,hXx]at q8
    refine thn q8 λy s8 h8=>thn h8 λitv s9 h9=>?_
    obtain⟨it2,fp2,tn2,J2,H9,rfl,I9,T2,st9,f9,W2,⟨m2,w2⟩,turn2⟩:=h9
    rw[hXp,hXw]at T2
    have kv1:∀{σ':St},ZbU L1 σ6 σ'->σ'.length=σ6.length/\∀(k:Nat) v,σ6[k]?=some (some v)->σ'[k]?=some (some v):=λ{σ'} hk=>⟨hk.1,λk v e=>by
     rw[hk.2 k]
     ·exact e
     ·intro z
      have q:=List.all_eq_true.mp hL1 k z
      simp only[Bool.and_eq_true,beq_iff_eq,Bool.not_eq_true']at q
      have hk6:=k6.2 k (λzz=>by rw[List.contains_iff_mem.mpr zz]at q;cases q.2)
      rw[hk6]at e
      unfold Z3 at e
      rw[YL,q.1]at e
      cases e⟩
    have loop2:codeAny (model X.prog X.w) X.A (.compLoop (.ListComp elt [⟨tg,iter,ifs,0⟩,⟨tg1,iter1,ifs1,0⟩] scope pos) 1 (.ref it2) (.ref s2.heap.objs.size) (compEnvC scope cl HH.objs.size X.env)) (λr s'=>match r with
      |.ok _=>∃m,m<n/\∃i acc its nn H',Inv Xc [(s2.heap.objs.size,{cls:=.type "list",dict:=none,data:=.seq (its:List Value).toArray nn})] (Z3 js σ) H' s'/\Vals acc its/\acc.length<=sizeLine/\tn i s'.heap/\(∀b∈fp,H' b=none)/\W i m acc H'
      |.error _=>False) s9:=by
     refine Zka (λn2 s'=>∃j acc2 its2 nn2 H',Inv Xc ([(s2.heap.objs.size,{cls:=.type "list",dict:=none,data:=.seq (its2:List Value).toArray nn2})]++Zae fp s5.heap) σ6 H' s'/\Vals acc2 its2/\acc2.length<=sizeLine/\tn2 j s'.heap/\(∀b∈fp2,H' b=none)/\W2 j n2 acc2 H') ?_ m2
      ⟨0,acc,its,nn,H9,I9,va,hlen,st9,λb hb=>(f9 b hb).1,w2⟩
     rintro n2 sA ⟨j,acc2,its2,nn2,HA,IA,va2,hlen2,stA,frA,wA⟩
     have fpok2:∀{its3:List Value}{nn3:Nat}{H':Hp},(∀b∈fp2,H' b=none)->∀b∈fp2,FpOk Xc ([(s2.heap.objs.size,{cls:=.type "list",dict:=none,data:=.seq its3.toArray nn3})]++Zae fp s5.heap) H' b:=λ{its3 nn3 H'} hn b hb=>by
      obtain⟨z1,z2,z3,z4,z5,z6⟩:=f9 b hb
      refine⟨hn b hb,z2,z3,z4,z5,λp hp=>?_⟩
      rcases Yq.mp hp with z|z
      ·exact z6 p (YA _ z)
      ·rcases Yq.mp z with z|z
       ·simp only[Ym,List.not_mem_nil,or_false]at z
        subst z
        exact z6 (s2.heap.objs.size,{cls:=.type "list",dict:=none,data:=.seq its.toArray nn}) (Yl _ (YA _ (.head _)))
       ·exact z6 p (Yl _ (Yl _ z))
     rcases turn2 j n2 acc2 HA wA with⟨stop,m',hm,wN⟩|⟨go,hl,step⟩
     ·have q:=T2.done Xc hXp hXw rfl hXcalm j _ sA σ6 HA (λ_ _=>False) IA (fpok2 frA) stA stop
      rw[hXA]at q
      refine thn q λr sB ⟨hr,IB⟩=>?_
      subst hr
      exact⟨m',hm,again IB va2 hlen2 wN kl kv⟩
     ·have q:=T2.item Xc hXp hXw rfl hXcalm j _ sA σ6 HA (λ_ _=>False) IA (fpok2 frA) stA go
      rw[hXA]at q
      refine thn q λr sB ⟨u2,hr,hB⟩=>?_
      subst hr
      refine thn hB λ_ sC ⟨x2,HC,IC,rC,yC,stC,frC⟩=>?_
      have IC':=IC.pinned (fpok2 frC) (T2.obj _ _ stC)
      have again2:∀{σ7:St}{H7:Hp}{s7:Shared}{acc7:List V}{its7:List Value}{n7:Nat}{m:Nat},Inv Xc (([(s2.heap.objs.size,{cls:=.type "list",dict:=none,data:=.seq its7.toArray n7})]++Zae fp s5.heap)++Zae fp2 sC.heap) σ7 H7 s7->Vals acc7 its7->acc7.length<=sizeLine->W2 (j+1) m acc7 H7->σ7.length=σ6.length->(∀(k:Nat) v,σ6[k]?=some (some v)->σ7[k]?=some (some v)) ->
        ∃j acc2 its2 nn2 H',Inv Xc ([(s2.heap.objs.size,{cls:=.type "list",dict:=none,data:=.seq (its2:List Value).toArray nn2})]++Zae fp s5.heap) σ6 H' s7/\Vals acc2 its2/\acc2.length<=sizeLine/\tn2 j s7.heap/\(∀b∈fp2,H' b=none)/\W2 j m acc2 H':=λ{σ7 H7 s7 acc7 its7 n7 m} I7 v7 l7 w7 hl7 hw7=>by
       refine⟨j+1,acc7,its7,n7,H7,(I7.weak hl7.symm hw7).ZbL,v7,l7,T2.keep _ _ _ stC λb hb o e=>(I7.pin (b,o) (Yl _ (Yl _ (ZaD hb e)))).1,λb hb=>?_,w7⟩
       obtain⟨o,e,d⟩:=T2.obj _ _ stC b hb
       exact(I7.pin (b,o) (Yl _ (Yl _ (ZaD hb e)))).2.1
      have qD:=gX1 _ sC σ6 HC x2 u2 _ IC' rC (ho1 _ _ _ _ _ (fun σ' H' kk z=>And.intro kk z) (step x2 HC yC))
      rw[hXe,hXA,hXp,hXw,hXx]at qD
      refine thn qD λ_ sD ⟨σD,HD,ID,kD,qD⟩=>?_
      obtain⟨kl1,kv1'⟩:=kv1 kD
      have qE:=tX1 _ sD σD HD _ ID qD
      rw[hXe,hXA,hXp,hXw,hXx]at qE
      refine thn qE λb sE ⟨HE,IE,qE⟩=>?_
      cases b with
      |false =>
       obtain⟨m',hm,wE⟩:=qE
       exact⟨m',hm,again2 IE va2 hlen2 wE kl1 kv1'⟩
      |true =>
       have qF:=eX _ sE σD HE _ IE qE
       rw[hXe,hXA,hXp,hXw,hXx]at qF
       refine thn qF λy sF ⟨vF,HF,IF,rF,m',hm,wF⟩=>?_
       have pinD:=IF.pin _ (Yl _ (YA _ (YA _ (.head _))))
       have hnf:∀p∈Zae fp s5.heap++Zae fp2 sC.heap,p.1≠s2.heap.objs.size:=λp hp=>by
        rcases Yq.mp hp with z|z
        ·obtain⟨z,_⟩:=ZeO z
         exact Yp (hfl _ z)
        ·obtain⟨z,_⟩:=ZeO z
         obtain⟨_,_,_,_,_,z6⟩:=f9 _ z
         exact λzz=>z6 _ (Yl _ (YA _ (.head _))) zz.symm
       have va':=va2.length
       refine call_meets F.slot_list_append ⟨_,pinD.1,rfl⟩ F.entry_list_append (F.args_list_append_2 _ _) (PySem.list_append s2.heap.objs.size its2.toArray nn2 y (by rw[Yv];omega)) ⟨pinD.1,?_⟩
       have e9:=PySem.IsL.update pinD.1 (λa=>a.push y)
       have e9':its2.toArray.push y=(its2++[y]).toArray:=by simp
       dsimp only at e9
       rw[e9']at e9
       have I8':Inv Xc (Zae fp s5.heap++Zae fp2 sC.heap) σD HF sF:=IF.ZX λp hp=>IF.pin p (Yl _ (by rw[YT];exact Yl _ hp))
       have hXpn:Xc.pn=[]:=by rw[<-hXc];rfl
       have I9:=I8'.turned (t':=sF.toks) (it:=s2.heap.objs.size) (h':=sF.heap.update s2.heap.objs.size (Obj.mapSeq λa=>a.push y)) (λb o hb e=>(Heap.get?_update_other sF.heap _ (Ne.symm hb)).trans e) pinD.2.1 pinD.2.2.1
        (.inr (by rw[hs0];exact Ye _)) (λx c e=>by
         rw[hXe]at e
         intro z
         obtain⟨v,q⟩:=I2.cell x c (up _ _ e)
         exact absurd q.lt (by rw[z];exact YO _)) (λp hp=>by rw[hXpn,List.nil_append]at hp;exact hnf p hp)
       have I10:=I9.ZX (pins':=([(s2.heap.objs.size,{cls:=.type "list",dict:=none,data:=.seq (its2++[y]).toArray _})]++Zae fp s5.heap)++Zae fp2 sC.heap) λp hp=>by
        rw[YT]at hp
        rcases Yq.mp hp with z|z
        ·simp only[Ym,List.not_mem_nil,or_false]at z
         subst z
         exact⟨e9,pinD.2.1,pinD.2.2.1,pinD.2.2.2.1,by intro v z;cases z⟩
        ·exact I9.pin p (Yl _ z)
       exact⟨m',hm,again2 I10 (va2.append (.cons rF .nil)) (by rw[YM,List.length_singleton];omega) wF kl1 kv1'⟩
    refine wpAny_runOwn ?_
    refine codeAny_mono (Zh5 loop2 (T2.self _ 0 _ _ _ st9 loop2)) λr s' hr=>?_
    cases r with
    |ok f=>exact hr
    |error e=>exact hr.elim
 exact codeAny_compStart_list loop (T.self _ 0 _ _ _ st4 loop)
theorem ZqF {i:Nat}{x:Str}{pos' spos:Pos}{tg elt iter tg1 iter1:Expr}{ifs ifs1:List Expr}{scope:Scope}{pos:Pos}{wi wi1:TI}{g g1:TG}{tt tt1:TT}{te:TE} (Nc:List Str) (js:List (Option Nat)) {L L1:List Nat}
  (hN:X.N.Nodup) (hxi:X.N[i]?=some x) (hx:Loc X.env.scope x)
  (hc:X.calm=true) (hok:compOk X.env.scope scope=true) (htk:takesC X.N Nc scope js 0=true) (hi:PI X tg iter wi)
  (hg:∀cl C s2 H2 fp,PG (ZU X Nc scope cl C s2 H2 fp) tg g) (ht:∀cl C s2 H2 fp,Zg8 (ZU X Nc scope cl C s2 H2 fp) ifs tt) (hi1:∀cl C s2 H2 fp,PI (ZU X Nc scope cl C s2 H2 fp) tg1 iter1 wi1) (hg1:∀cl C s2 H2 fp,PG (ZU X Nc scope cl C s2 H2 fp) tg1 g1) (ht1:∀cl C s2 H2 fp,Zg8 (ZU X Nc scope cl C s2 H2 fp) ifs1 tt1) (he:∀cl C s2 H2 fp,PE (ZU X Nc scope cl C s2 H2 fp) elt te)
  (ho:Ze2 g L) (ho1:Ze2 g1 L1) (hL:(L.all λk=>js[k]?==some none)=true:=by rfl) (hL1:(L1.all λk=>js[k]?==some none&&!L.contains k)=true:=by rfl) (hs:∀x,foldedSetIterable iter X.env x=pure x:=by intro _;rfl) (hs1:∀env x,foldedSetIterable iter1 env x=pure x:=by intro _ _;rfl)
  (hsw:swapsWith (.ListComp elt [⟨tg,iter,ifs,0⟩,⟨tg1,iter1,ifs1,0⟩] scope pos) (some (.Name x pos')) spos.line X.env=pure true:=by rfl)
  (hf:X.fn x=true\/X.env.scope.names.lookup x=some .local:=by first|exact .inl rfl|exact .inr rfl|assumption) :
  PS X (.Assign [.Name x pos'] (.ListComp elt [⟨tg,iter,ifs,0⟩,⟨tg1,iter1,ifs1,0⟩] scope pos) spos) (ZnT (ZmH wi g tt wi1 g1 tt1 te js) (ZcF i)):=by
 intro pins s σ H D I h
 rw[exec_Assign_Name_used _ _ _ _ hsw]
 refine Ya (wpAny_standAt (Ya ?_))
 show wpAny _ _ (comprehension _ _ _ _ _ _ _ _ >>= _) _ _ _
 refine Ya (thn (Q:=λ_ s'=>∃σ' H',Inv X pins σ' H' s'/\D.nx σ' H') (ZoA (Q:=λv H1=>ZcF i v σ H1 D.nx) (use:=some (assign (.Name x pos') X.env)) hc hok htk hi hg ht hi1 hg1 ht1 he hs hs1 ho ho1 hL hL1 I h ?_) λ_ s' ⟨σ',H',I',q⟩=>Yc (Yc ⟨σ',H',I',q⟩))
 intro D' C H' H2 s2 s' xs m I2 hHC e1 e2 hn hI q
 obtain⟨oC,es,ep,hoC,hdC,hrest⟩:=id hn
 have leC:s2.heap.objs.size<=C:=by rw[e1,e2];exact YU _
 have ltC:s2.heap.objs.size<C:=by rw[e1,e2];exact Nat.lt_succ_self _
 have neDC:C≠D':=by rw[e2];exact Nat.ne_of_gt ltC
 have fresh:s2.heap.get? C=none:=by
  cases e:s2.heap.get? C with
  |none=>rfl
  |some o=>exact absurd (YG (Yk e) leC) (YO _)
 have neL:C≠X.env.locals:=Nat.ne_of_gt (YG I2.lt leC)
 have nfs:C∉X.fs:=I2.ZlV leC
 have ncl:∀x c,X.env.cells.lookup x=some c->c≠C:=λx c e z=>by
  obtain⟨v,q⟩:=I2.cell x c e
  exact absurd (YG q.lt leC) (by rw[z];exact YO _)
 have npn:∀p∈X.pn++pins,p.1≠C:=λp hp z=>by
  have:=(I2.pin p hp).1
  rw[z,fresh]at this;cases this
 have hH:(upd H' D' (HO.lst xs)) C=none:=by rw[Zg neDC];exact hHC
 have I0:=hI s'.heap ZfI
 have I1:Inv X (pins++[(C,oC)]) σ (upd H' D' (.lst xs)) s':=I0.ZX λp hp=>by
  rcases Yq.mp hp with z|z
  ·exact I0.pin p (Yl _ z)
  ·simp only[Ym,List.not_mem_nil,or_false]at z
   subst z
   exact⟨hoC,hH,neL,nfs,λv z=>by rw[hdC]at z;cases z⟩
 show wpAny _ _ _ _ _ _
 refine thn (Zm (X:=X) (i:=i) hN hxi hx hf (pins++[(C,oC)]) s' σ _ (.ref D') (.ref D') _ I1 rfl q) λ_ s3 ⟨σ3,H3,I3,q3⟩=>?_
 have pC:=I3.pin (C,oC) (Yl _ (Yl _ (.head _)))
 refine⟨m,⟨oC,es,ep,pC.1,hdC,hrest⟩,λh' hsb=>⟨σ3,H3,?_,q3⟩⟩
 exact I3.ZbL.turned (t':=s3.toks) (it:=C) (λb o hb e=>hsb.extBut b o hb e) pC.2.1 neL (.inr (Yo I2.sz leC)) ncl npn
end
end L2
namespace L2
open PySem PySem.Spec PyProof.Rows PySem.W
noncomputable def Za7 (H:Hp) (acc:List V) (rs:List (List Int)):Prop:=∃as:List Addr,acc=as.map V.ref/\as.length=rs.length/\∀i (h1:i<as.length) (h2:i<rs.length),H as[i]=some (.tup (rs[i].map V.int))
theorem Za7.nil {H:Hp}:Za7 H [] []:=⟨[],rfl,rfl,λi h=>absurd h (by simp)⟩
theorem Za7.same {H H':Hp}{acc:List V}{rs:List (List Int)} (h:Za7 H acc rs) (s:Ze H H'):Za7 H' acc rs:=by
 obtain⟨as,e,l,k⟩:=h
 exact⟨as,e,l,λi h1 h2=>s _ _ (k i h1 h2)⟩
theorem Za7.len {H:Hp}{acc:List V}{rs:List (List Int)} (h:Za7 H acc rs):acc.length=rs.length:=by
 obtain⟨as,e,l,k⟩:=h
 rw[e,Yf,l]
theorem Za7.snoc {H:Hp}{acc:List V}{rs:List (List Int)}{u:Addr}{r:List Int} (h:Za7 H acc rs) (hu:H u=some (.tup (r.map V.int))):Za7 H (acc++[V.ref u]) (rs++[r]):=by
 obtain⟨as,e,l,k⟩:=h
 refine⟨as++[u],by rw[e];simp,by simp[l],λi h1 h2=>?_⟩
 by_cases c:i<as.length
 ·rw[Je c,Je (by omega)];exact k i c (by omega)
 ·have:i=as.length:=by simp at h1;omega
  subst this
  rw[List.getElem_concat_length,List.getElem_append_right (by omega)]
  simpa[l]using hu
  rfl
theorem Za7.at {H:Hp}{acc:List V}{rs:List (List Int)}{l:Addr} (h:Za7 H acc rs) (hl:H l=none):ZA (upd H l (.lst acc)) l rs:=by
 obtain⟨as,e,ln,k⟩:=h
 refine⟨as,by rw[Zb,e],ln,λi h1 h2=>?_⟩
 rw[Zg (λz=>by have:=k i h1 h2;rw[z,hl]at this;cases this)]
 exact k i h1 h2
noncomputable def C2W (n:Nat) (U:Nat->List (List Int)) (H1:Hp) (i m:Nat) (acc:List V) (H:Hp):Prop:=m=n-i/\i<=n/\Za7 H acc (U i)/\Ze H1 H
theorem C2W.next {n:Nat}{U:Nat->List (List Int)}{H1 H:Hp}{i:Nat}{acc:List V} (hi:i<n) (t:Za7 H acc (U (i+1))) (s:Ze H1 H):∃m',m'<n-i/\C2W n U H1 (i+1) m' acc H:=⟨n-(i+1),by omega,rfl,hi,t,s⟩
theorem ZmI {J:It}{g:TG}{tt:TT}{wi1:TI}{g1:TG}{tt1:TT}{te:TE}{σ0:St}{Q:VK}{H1:Hp} (n:Nat) (U:Nat->List (List Int)) (h0:U 0=[]) (hl:∀i,i<=n->(U i).length<=100000)
  (hgo:∀i H,Ze H1 H->i<n->J.go i H) (hstop:∀H,Ze H1 H->J.stop n H)
  (hb:∀i x acc H H',i<n->Za7 H acc (U i)->Ze H1 H->J.yld i H x H'->g x σ0 H' fun σ2 H2=>tt σ2 H2 λb H3=>if b=true then wi1 σ2 H3 λJ2 H4=>Zkb J2 g1 tt1 te σ2 acc (λacc2 H5=>∃m',m'<n-i/\C2W n U H1 (i+1) m' acc2 H5) H4 else ∃m',m'<n-i/\C2W n U H1 (i+1) m' acc H3)
  (hk:∀l acc H',Ze H1 H'->H' l=none->Za7 H' acc (U n)->Q (.ref l) (upd H' l (.lst acc))):ZmG J g tt wi1 g1 tt1 te σ0 Q H1:=by
 refine⟨C2W n U H1,⟨n,rfl,Yr _,by rw[h0];exact Za7.nil,Ze.refl _⟩,?_⟩
 rintro i m acc H ⟨rfl,hi,t,s⟩
 have hlen:acc.length<=sizeLine:=Yo (t.len▸hl i hi) (by decide)
 by_cases h:i<n
 ·exact .inr ⟨hgo i H s h,hlen,λx H' y=>hb i x acc H H' h t s y⟩
 ·have e:i=n:=by omega
  subst e
  exact .inl ⟨hstop H s,hlen,λp hp=>hk p acc H s hp t⟩
theorem ZqG {J2:It}{g1:TG}{tt1:TT}{te:TE}{σ2:St}{acc:List V}{F:List V->Hp->Prop}{H4:Hp} (k:Nat) (V':Nat->List (List Int)) (h0:Za7 H4 acc (V' 0)) (hl:∀j,j<=k->(V' j).length<=100000)
  (hgo:∀j H,Ze H4 H->j<k->J2.go j H) (hstop:∀H,Ze H4 H->J2.stop k H)
  (hb:∀j x acc2 H5 H6,j<k->Za7 H5 acc2 (V' j)->Ze H4 H5->J2.yld j H5 x H6->g1 x σ2 H6 fun σ3 H7=>tt1 σ3 H7 λb2 H8=>if b2=true then te σ3 H8 λv H9=>∃m',m'<k-j/\C2W k V' H4 (j+1) m' (acc2++[v]) H9 else ∃m',m'<k-j/\C2W k V' H4 (j+1) m' acc2 H8)
  (hF:∀acc2 H5,Za7 H5 acc2 (V' k)->Ze H4 H5->F acc2 H5):Zkb J2 g1 tt1 te σ2 acc F H4:=by
 refine⟨C2W k V' H4,⟨k,rfl,Yr _,h0,Ze.refl _⟩,?_⟩
 rintro j m acc2 H ⟨rfl,hj,t,s⟩
 have hlen:acc2.length<sizeLine:=YF (t.len▸hl j hj) (by decide)
 by_cases h:j<k
 ·exact .inr ⟨hgo j H s h,hlen,λx H' y=>hb j x acc2 H H' h t s y⟩
 ·have e:j=k:=by omega
  subst e
  exact .inl ⟨hstop H s,hF acc2 H t s⟩
end L2
namespace L2
open PySem PySem.Spec PyProof.Rows PySem.W PySem.Calls
section
variable {X:Cx}{o:Expr}{apos cpos:Pos}{td:TE}
noncomputable def ZnF (td:TE):TE:=fun σ H Q=>td σ H λx H1=>∃a kvs,x=.ref a/\H1 a=some (.dK kvs)/\∀v,H1 v=none->Q (.ref v) (upd H1 v (.ext (Zfl v a)))
theorem ZoB (ho:PE X o td) (hbase:attributeBase o "values" X.env (eval o X.env)=eval o X.env:=by rfl) (hline:(apos.endLine==cpos.line)=true:=by rfl):PE X (.Call (.Attribute o "values" apos) [] [] cpos) (ZnF td):=by
 intro pins s σ H Q I h
 refine wpAny_Call_method0_late hbase hline (thn (ho pins s σ H _ I h) λu s1 ⟨x,H1,I1,rx,a,kvs,ex,ea,q⟩=>?_)
 subst ex
 obtain rfl:u=Value.ref a:=rx
 obtain⟨t1,t2,hd⟩:=Zqm I1 (.inl ⟨kvs,.inl ea⟩)
 refine⟨"dict",_,PySem.F.plainAttrs_dict,PySem.F.slot_dict_values,PySem.F.type_dict_values,t1,t2,Calls.callWith_builtin rfl (PySem.evalArgs_none ?_)⟩
 refine call_meetsIn PySem.F.slot_dict_values t1 PySem.F.entry_dict_values (PySem.F.args_dict_values_1 _) (Zmu a hd) ⟨t1,?_⟩
 refine⟨.ref s1.heap.objs.size,_,I1.laid (t':=s1.toks) (a:=s1.heap.objs.size) (o:=.ext (Zfl s1.heap.objs.size a)) (λb o e=>Yh _ e) (Ye _) ⟨⟨_,Yt _ rfl,rfl,rfl⟩,⟨_,Yt _ rfl⟩,λh1 h2 e k=>?_⟩,rfl,q _ (I1.hok.fresh (Ye _))⟩
 obtain⟨o,a1,a2⟩:=e
 exact⟨o,k o a1,a2⟩
theorem Zss {κ:Type}{kvs:List (κ×V)}{xs:List (κ×Value)} (r:KV kvs xs):Vals (kvs.map (·.2)) (xs.map (·.2)):=by
 unfold KV at r
 induction r with
 |nil=>exact .nil
 |cons h t ih=>exact .cons h.2 ih
theorem ZmJ {P:Program}{w:World}:∀{es:List DictEntry}{vs:List (Key×Value)},Pairs (Z7 P w) es vs->es.map (·.val)=vs.map (·.2):=by
 intro es vs h
 induction es generalizing vs with
 |nil=>cases vs with
  |nil=>rfl
  |cons v vs=>cases h
 |cons e es ih=>cases vs with
  |nil=>cases h
  |cons v vs =>
   cases h with
   |cons h1 h2 h3=>rw[YH,YH,ih h3,h2]
noncomputable def ZnG:List V->Hp->VK->Prop:=λxs H Q=>∃(v a:Addr) (kvs:List (Key×V)),xs=[.ref v]/\H v=some (.ext (Zfl v a))/\H a=some (.dK kvs)/\∀l,H l=none->Q (.ref l) (upd H l (.lst (kvs.map (·.2))))
theorem Zg9 (hc:X.calm=true):ZaF X (.type "list") ZnG:=by
 intro pins s σ H xs us Q I r h
 obtain⟨v,a,kvs,rfl,hv,ha,q⟩:=h
 obtain⟨u,rfl,ru⟩:=r.one
 cases(show u=Value.ref v from ru)
 obtain⟨hz,lo,ys,rel,o,es,ep,g1,g2,g3,g4,g5,g6⟩:=Zny I.hok ha
 have hV:s.heap.IsValuesView v a:=(show ZZ X.prog X.w H s.heap v (.ext (Zfl v a))from I.hok v _ hv).1
 have hA:Zcu s.heap a (ys.map (·.2)) ep:=⟨o,es,g1,g2.1,g3,ZmJ g5⟩
 have hl:(ys.map (·.2)).length<=sizeLine:=by rw[Yf,<-Paired.length rel];exact hz
 refine kdl_call (A:=X.A) Zqq (I.ok.hd hc) ⟨hV,hA⟩ hl λh' tk acc c kp hS hacc=>?_
 have eacc:acc.toList=ys.map (·.2):=by
  refine List.ext_getElem? λi=>?_
  rw[Array.getElem?_toList]
  rcases Nat.lt_or_ge i acc.size with hi|hi
  ·have:=hacc.2 i acc[i] (Array.getElem?_eq_getElem hi)
   rw[this,Array.getElem?_eq_getElem hi]
  ·rw[Array.getElem?_eq_none hi,List.getElem?_eq_none (by rw[<-hacc.1];exact hi)]
 have hsz:s.heap.objs.size<h'.objs.size:=Yk hS
 refine⟨.ref s.heap.objs.size,_,I.laid (t':=tk) (a:=s.heap.objs.size) (o:=.lst (kvs.map (·.2))) kp (Ye _) ⟨by rw[Yf];exact hz,acc.toList,c,by rw[eacc];exact Zss rel,by rw[hS,Array.toArray_toList]⟩,rfl,q _ (I.hok.fresh (Ye _))⟩
end
end L2
namespace L2
open PySem PySem.Spec PyProof.Rows PySem.W
section
variable {prog:Program}{w:World}{A:Around}{E:Value->Shared->Prop}{s:Shared}{z TI TO i1 i2 l1 l2:Addr}{k1 k2:Nat}{xs ys:Array Value}{a b f0:Value}{b0:Bool}
theorem Zh6 {c:Addr}{Q:Option Obj->Shared->Prop} (h:Q (s.heap.get? c) s):wpAny (model prog w) A (loadIfAlive c) Q E s:=fun Γ p _=>by
 unfold loadIfAlive
 simpa using h
noncomputable abbrev Zac (h:Heap) (z TI TO:Addr) (f0:Value) (b0:Bool):Prop:=h.get? z=some {cls:=.type "zip",dict:=none,data:=.fields #[f0,.bool b0,.bool false,.ref TI,.ref TO],slots:=#[]}
noncomputable def ZiY (f0:Value):Prop:=f0=.none\/∃c:Nat,f0=rawInt c
theorem Zjv (hz:Zac s.heap z TI TO f0 b0) (hf:ZiY f0):wpAny (model prog w) A (Builtin.SmallTypes.ownedTupleIsFree (.ref z)) (λr s'=>(r=true/\s'=s)\/(r=false/\∃h' b',Zac h' z TI TO f0 b'/\Heap.SameBut z s.heap h'/\s'={s with heap:=h'})) E s:=by
 unfold Builtin.SmallTypes.ownedTupleIsFree
 refine Ya (wpAny_field hz rfl (x:=f0) rfl ?_)
 rcases hf with rfl|⟨c,rfl⟩
 ·exact Yc (.inl ⟨rfl,rfl⟩)
 ·refine Ya (Zh6 ?_)
  show wpAny _ _ _ _ _ _
  cases hc:s.heap.get? ((c:Int).toNat)with
  |none=>exact Yc (.inl ⟨rfl,rfl⟩)
  |some o =>
   refine Ya (wpAny_field hz rfl (x:=.bool b0) rfl ?_)
   cases b0 with
   |true=>exact Yc (.inr ⟨rfl,s.heap,true,hz,⟨rfl,λ_ _=>rfl⟩,rfl⟩)
   |false=>exact Ya (wpAny_setField_rec hz (by simp) λh' z' m'=>Yc (.inr ⟨rfl,h',true,z',m',rfl⟩))
theorem ZoC {x y:Value}{Q:Value->Shared->Prop} (D:ZipApart z TI TO i1 i2 l1 l2) (hz:Zac s.heap z TI TO f0 b0) (hf:ZiY f0) (hI:IsPair s.heap TI (.ref i1) (.ref i2)) (hO:IsPair s.heap TO a b)
  (q1:QIt s.heap i1 l1 k1 xs) (q2:QIt s.heap i2 l2 k2 ys) (hx:xs[k1]?=some x) (hy:ys[k2]?=some y)
  (hQ:∀h' f' b',ZiY f'->Zac h' z TI TO f' b'->(∃u v,IsPair h' TO u v)->QIt h' i1 l1 (k1+1) xs->QIt h' i2 l2 (k2+1) ys->IsPair h' s.heap.objs.size x y->ZkZ z TO i1 i2 s.heap h'->Q (.ref s.heap.objs.size) {s with heap:=h'}) :
  wpAny (model prog w) A (Builtin.«zip.__next__» ⟨[.ref z],[]⟩) (λfin s'=>∃v,fin=.done (.ret v)/\Q v s') E s:=by
 show wpAny _ _ (field (.ref z) 2 >>= _) _ _ _;refine Ya (wpAny_field hz rfl (x:=.bool false) rfl ?_)
 show wpAny _ _ (field (.ref z) 3 >>= _) _ _ _;refine Ya (wpAny_field hz rfl (x:=.ref TI) rfl ?_);refine Ya (wpAny_seqItems hI rfl ?_)
 show wpAny _ _ (Builtin.SmallTypes.ownedTupleIsFree (.ref z) >>= _) _ _ _
 refine Ya (Yy (Zjv hz hf) ?_ λ_ _ h=>h)
 rintro r s' (⟨rfl,e⟩|⟨rfl,h0,b1,z0,m0,rfl⟩)
 ·rw[e]
  clear e s'
  simp only[if_true]
  refine Ya (wpAny_rule ?_);refine Ya (wpAny_field hz rfl (x:=.ref TO) rfl ?_)
  refine Ya (wpAny_setField_rec hz (by simp) λg1 z1 m1=>?_);replace z1:Zac g1 z TI TO .ellipsis b0:=z1
  refine Ya ?_;simp only[List.zipIdx_cons,List.zipIdx_nil,List.forIn_cons,List.forIn_nil];refine Ya (Ya (wpAny_onRaise ?_))
  show wpAny _ _ (Builtin.SmallTypes.nextOf (.ref i1) >>= _) _ _ _;refine Ya (Zbw (q1.ext m1.extBut D.i1z D.l1z) D.l1i1 hx λg2 p1 m2=>Yc ?_)
  have o2:IsPair g2 TO a b:=m2.extBut _ _ D.TOi1 (m1.extBut _ _ D.TOz hO)
  refine Ya (wpAny_seqItems o2 rfl ?_);refine Ya (wpAny_updateSeq_pair o2 λg3 o3 m3=>?_);replace o3:IsPair g3 TO x b:=o3
  refine Ya (wpAny_letGo (Yc ?_));refine Ya (Ya (wpAny_onRaise ?_))
  show wpAny _ _ (Builtin.SmallTypes.nextOf (.ref i2) >>= _) _ _ _
  refine Ya (Zbw (((q2.ext m1.extBut D.i2z D.l2z).ext m2.extBut D.i12.symm D.l2i1).ext m3.extBut D.TOi2.symm D.l2TO) D.l2i2 hy λg4 p2 m4=>Yc ?_)
  have o4:IsPair g4 TO x b:=m4.extBut _ _ D.TOi2 o3
  refine Ya (wpAny_seqItems o4 rfl ?_);refine Ya (wpAny_updateSeq_pair o4 λg5 o5 m5=>?_);replace o5:IsPair g5 TO x y:=o5
  refine Ya (wpAny_letGo (Yc (Yc ?_)));refine Ya (wpAny_seqItems o5 rfl ?_);refine Ya (wpAny_newTuple ?_)
  have hsz:g5.objs.size=s.heap.objs.size:=by rw[m5.1,m4.1,m3.1,m2.1,m1.1]
  have z5:Zac g5 z TI TO .ellipsis b0:=m5.extBut _ _ D.TOz.symm (m4.extBut _ _ D.i2z.symm (m3.extBut _ _ D.TOz.symm (m2.extBut _ _ D.i1z.symm z1)))
  have kk:ZkZ z TO i1 i2 s.heap g5:=λc o c1 c2 c3 c4 e=>m5.extBut _ _ c2 (m4.extBut _ _ c4 (m3.extBut _ _ c2 (m2.extBut _ _ c3 (m1.extBut _ _ c1 e))))
  have r1:QIt g5 i1 l1 (k1+1) xs:=((p1.ext m3.extBut D.TOi1.symm D.l1TO).ext m4.extBut D.i12 D.l1i2).ext m5.extBut D.TOi1.symm D.l1TO
  have r2:QIt g5 i2 l2 (k2+1) ys:=p2.ext m5.extBut D.TOi2.symm D.l2TO
  have lz:z<g5.objs.size:=Yk z5
  show wpAny _ _ (Builtin.SmallTypes.ownedTupleHandOut (.ref z) (.ref g5.objs.size) >>= _) _ _ _;refine Ya ?_;unfold Builtin.SmallTypes.ownedTupleHandOut
  have z6:Zac (g5.push {cls:=.type "tuple",data:=.seq #[x,y]}) z TI TO .ellipsis b0:=Yh _ z5
  refine Ya (wpAny_setField_rec z6 (by simp) λg7 z7 m7=>?_);replace z7:Zac g7 z TI TO (rawInt g5.objs.size) b0:=z7
  refine wpAny_setField_rec z7 (by simp) λg8 z8 m8=>?_;replace z8:Zac g8 z TI TO (rawInt g5.objs.size) false:=z8
  have up:∀c o,c≠z->g5.get? c=some o->g8.get? c=some o:=λc o c1 e=>m8.extBut _ _ c1 (m7.extBut _ _ c1 (Yh _ e))
  have t8:IsPair g8 g5.objs.size x y:=m8.extBut _ _ (Nat.ne_of_gt lz) (m7.extBut _ _ (Nat.ne_of_gt lz) (Yt _ rfl))
  rw[hsz]at z8 t8
  refine Yc ⟨_,rfl,?_⟩;show Q (.ref g5.objs.size) _;rw[hsz]
  exact hQ g8 _ _ (.inr ⟨_,rfl⟩) z8 ⟨_,_,up _ _ D.TOz o5⟩ (r1.at (λo e=>up _ o D.i1z e) λo e=>up _ o D.l1z e) (r2.at (λo e=>up _ o D.i2z e) λo e=>up _ o D.l2z e) t8 λc o c1 c2 c3 c4 e=>up c o c1 (kk c o c1 c2 c3 c4 e)
 ·simp only[Bool.false_eq_true,if_false]
  refine Ya ?_
  simp only[List.forIn_toArray,List.forIn_cons,List.forIn_nil]
  refine Ya (Ya (wpAny_holding ?_))
  show wpAny _ _ (Builtin.SmallTypes.nextOf (.ref i1) >>= _) _ _ _
  refine Ya (Zbw (q1.ext m0.extBut D.i1z D.l1z) D.l1i1 hx λg1 p1 m1=>Yc (Yc ?_))
  refine Ya (Ya (wpAny_holding ?_))
  show wpAny _ _ (Builtin.SmallTypes.nextOf (.ref i2) >>= _) _ _ _
  refine Ya (Zbw ((q2.ext m0.extBut D.i2z D.l2z).ext m1.extBut D.i12.symm D.l2i1) D.l2i2 hy λg2 p2 m2=>Yc (Yc (Yc ?_)))
  refine Ya (wpAny_newTuple ?_ (show 2<=sizeLine by decide))
  have hsz:g2.objs.size=s.heap.objs.size:=by rw[m2.1,m1.1,m0.1]
  have up:∀c o,c≠z->c≠i1->c≠i2->s.heap.get? c=some o->(g2.push {cls:=.type "tuple",data:=.seq #[x,y]}).get? c=some o:=λc o c1 c2 c3 e=>Yh _ (m2.extBut _ _ c3 (m1.extBut _ _ c2 (m0.extBut _ _ c1 e)))
  have z2:Zac (g2.push {cls:=.type "tuple",data:=.seq #[x,y]}) z TI TO f0 b1:=Yh _ (m2.extBut _ _ D.i2z.symm (m1.extBut _ _ D.i1z.symm z0))
  refine Yc ⟨_,rfl,?_⟩
  show Q (.ref g2.objs.size) _
  rw[hsz]
  refine hQ _ f0 b1 hf z2 ⟨_,_,up _ _ D.TOz D.TOi1 D.TOi2 hO⟩ ?_ ?_ ?_ λc o c1 c2 c3 c4 e=>up c o c1 c3 c4 e
  ·exact(p1.ext m2.extBut D.i12 D.l1i2).at (λo e=>Yh _ e) λo e=>Yh _ e
  ·exact p2.at (λo e=>Yh _ e) λo e=>Yh _ e
  ·rw[<-hsz];exact Yt _ rfl
theorem ZqH {Q:Fin->Shared->Prop} (hA:A.handled=none) (D:ZipApart z TI TO i1 i2 l1 l2) (hz:Zac s.heap z TI TO f0 b0) (hf:ZiY f0) (hI:IsPair s.heap TI (.ref i1) (.ref i2)) (hO:IsPair s.heap TO a b)
  (q1:QIt s.heap i1 l1 k1 xs) (q2:QIt s.heap i2 l2 k2 ys) (hend:xs[k1]?=none\/ys[k2]?=none)
  (hE:∀h' e,ZkZ z TO i1 i2 s.heap h'->(∃o,h'.get? e=some o/\o.cls=.type "StopIteration")->E (.ref e) {s with heap:=h'}) :
  wpAny (model prog w) A (Builtin.«zip.__next__» ⟨[.ref z],[]⟩) Q E s:=by
 show wpAny _ _ (field (.ref z) 2 >>= _) _ _ _;refine Ya (wpAny_field hz rfl (x:=.bool false) rfl ?_)
 show wpAny _ _ (field (.ref z) 3 >>= _) _ _ _;refine Ya (wpAny_field hz rfl (x:=.ref TI) rfl ?_);refine Ya (wpAny_seqItems hI rfl ?_)
 show wpAny _ _ (Builtin.SmallTypes.ownedTupleIsFree (.ref z) >>= _) _ _ _
 refine Ya (Yy (Zjv hz hf) ?_ λ_ _ h=>h)
 rintro r s' (⟨rfl,e⟩|⟨rfl,h0,b1,z0,m0,rfl⟩)
 ·rw[e]
  clear e s'
  simp only[if_true]
  refine Ya (wpAny_rule ?_);refine Ya (wpAny_field hz rfl (x:=.ref TO) rfl ?_)
  refine Ya (wpAny_setField_rec hz (by simp) λg1 z1 m1=>?_);replace z1:Zac g1 z TI TO .ellipsis b0:=z1
  refine Ya ?_;simp only[List.zipIdx_cons,List.zipIdx_nil,List.forIn_cons,List.forIn_nil];refine Ya (Ya (wpAny_onRaise ?_))
  show wpAny _ _ (Builtin.SmallTypes.nextOf (.ref i1) >>= _) _ _ _
  cases hx:xs[k1]? with
  |none =>
   refine Ya (ZeV hA (q1.ext m1.extBut D.i1z D.l1z) hx λg2 e m2 he=>?_)
   obtain⟨oe,e1,e2⟩:=he
   have z2:Zac g2 z TI TO .ellipsis b0:=m2 _ _ D.i1z.symm z1
   have nz:e≠z:=λq=>by subst q;rw[z2]at e1;cases e1;simp at e2
   exact wpAny_setField_rec z2 (by simp) λg3 _ m3=>hE g3 e (λc o c1 _ c3 _ q=>m3.extBut _ _ c1 (m2 _ _ c3 (m1.extBut _ _ c1 q))) ⟨oe,m3.extBut _ _ nz e1,e2⟩
  |some x =>
   have hy:ys[k2]?=none:=by rcases hend with h|h;rw[hx]at h;cases h;exact h
   refine Ya (Zbw (q1.ext m1.extBut D.i1z D.l1z) D.l1i1 hx λg2 p1 m2=>Yc ?_)
   have o2:IsPair g2 TO a b:=m2.extBut _ _ D.TOi1 (m1.extBut _ _ D.TOz hO)
   refine Ya (wpAny_seqItems o2 rfl ?_);refine Ya (wpAny_updateSeq_pair o2 λg3 o3 m3=>?_);refine Ya (wpAny_letGo (Yc ?_));refine Ya (Ya (wpAny_onRaise ?_))
   show wpAny _ _ (Builtin.SmallTypes.nextOf (.ref i2) >>= _) _ _ _
   refine Ya (ZeV hA (((q2.ext m1.extBut D.i2z D.l2z).ext m2.extBut D.i12.symm D.l2i1).ext m3.extBut D.TOi2.symm D.l2TO) hy λg4 e m4 he=>?_)
   obtain⟨oe,e1,e2⟩:=he
   have z4:Zac g4 z TI TO .ellipsis b0:=m4 _ _ D.i2z.symm (m3.extBut _ _ D.TOz.symm (m2.extBut _ _ D.i1z.symm z1))
   have nz:e≠z:=λq=>by subst q;rw[z4]at e1;cases e1;simp at e2
   exact wpAny_setField_rec z4 (by simp) λg5 _ m5=>hE g5 e (λc o c1 c2 c3 c4 q=>m5.extBut _ _ c1 (m4 _ _ c4 (m3.extBut _ _ c2 (m2.extBut _ _ c3 (m1.extBut _ _ c1 q))))) ⟨oe,m5.extBut _ _ nz e1,e2⟩
 ·simp only[Bool.false_eq_true,if_false]
  refine Ya ?_
  simp only[List.forIn_toArray,List.forIn_cons,List.forIn_nil]
  refine Ya (Ya (wpAny_holding ?_))
  show wpAny _ _ (Builtin.SmallTypes.nextOf (.ref i1) >>= _) _ _ _
  cases hx:xs[k1]? with
  |none=>exact Ya (ZeV hA (q1.ext m0.extBut D.i1z D.l1z) hx λg2 e m2 he=>hE g2 e (λc o c1 _ c3 _ q=>m2 _ _ c3 (m0.extBut _ _ c1 q)) he)
  |some x =>
   have hy:ys[k2]?=none:=by rcases hend with h|h;rw[hx]at h;cases h;exact h
   refine Ya (Zbw (q1.ext m0.extBut D.i1z D.l1z) D.l1i1 hx λg1 p1 m1=>Yc (Yc ?_))
   refine Ya (Ya (wpAny_holding ?_))
   show wpAny _ _ (Builtin.SmallTypes.nextOf (.ref i2) >>= _) _ _ _
   exact Ya (ZeV hA ((q2.ext m0.extBut D.i2z D.l2z).ext m1.extBut D.i12.symm D.l2i1) hy λg2 e m2 he=>hE g2 e (λc o c1 c2 c3 c4 q=>m2 _ _ c4 (m1.extBut _ _ c3 (m0.extBut _ _ c1 q))) he)
theorem Zli {x y:Value}{Q:Option Value->Shared->Prop} (D:ZipApart z TI TO i1 i2 l1 l2) (hz:Zac s.heap z TI TO f0 b0) (hf:ZiY f0) (hI:IsPair s.heap TI (.ref i1) (.ref i2)) (hO:IsPair s.heap TO a b)
  (q1:QIt s.heap i1 l1 k1 xs) (q2:QIt s.heap i2 l2 k2 ys) (hx:xs[k1]?=some x) (hy:ys[k2]?=some y)
  (hQ:∀h' f' b',ZiY f'->Zac h' z TI TO f' b'->(∃u v,IsPair h' TO u v)->QIt h' i1 l1 (k1+1) xs->QIt h' i2 l2 (k2+1) ys->IsPair h' s.heap.objs.size x y->ZkZ z TO i1 i2 s.heap h'->Q (some (.ref s.heap.objs.size)) {s with heap:=h'}) :
  wpAny (model prog w) A (pyNext (.ref z)) Q E s:=by
 have ty:s.TypeIs (.ref z) "zip":=⟨_,hz,rfl⟩
 unfold pyNext
 exact Ya (wpAny_attempt (wpAny_callSpecial?_slot (name:=Str.ofString "__next__") ty F.slot_zip_next (wpAny_call_entry F.slot_zip_next ty F.entry_zip_next (ZoC D hz hf hI hO q1 q2 hx hy λh' f' b' a0 a1 a2 a3 a4 a5 a6=>Yc (hQ h' f' b' a0 a1 a2 a3 a4 a5 a6)) (F.args_zip_next_1 _))))
theorem ZmK {Q:Option Value->Shared->Prop} (hA:A.handled=none) (D:ZipApart z TI TO i1 i2 l1 l2) (hz:Zac s.heap z TI TO f0 b0) (hf:ZiY f0) (hI:IsPair s.heap TI (.ref i1) (.ref i2)) (hO:IsPair s.heap TO a b)
  (q1:QIt s.heap i1 l1 k1 xs) (q2:QIt s.heap i2 l2 k2 ys) (hend:xs[k1]?=none\/ys[k2]?=none) (hQ:∀h',ZkZ z TO i1 i2 s.heap h'->Q none {s with heap:=h'}):wpAny (model prog w) A (pyNext (.ref z)) Q E s:=by
 have ty:s.TypeIs (.ref z) "zip":=⟨_,hz,rfl⟩
 unfold pyNext
 refine Ya (wpAny_attempt (wpAny_callSpecial?_slot (name:=Str.ofString "__next__") ty F.slot_zip_next (wpAny_call_entry F.slot_zip_next ty F.entry_zip_next (ZqH hA D hz hf hI hO q1 q2 hend λh' e hk he=>?_) (F.args_zip_next_1 _))))
 obtain⟨o,e1,e2⟩:=he
 exact Ya (wpAny_isInstance (T:="StopIteration") (b:=true) ⟨o,e1,e2⟩ isSubtype_stop (Yc (hQ _ hk)))
theorem ZoD {Q:Value->Shared->Prop} (hz:Zac s.heap z TI TO f0 b0) (h:Q (.ref z) s):wpAny (model prog w) A (pyIter (.ref z)) Q E s:=by
 have hZ:s.TypeIs (.ref z) "zip":=⟨_,hz,rfl⟩
 refine wpAny_pyIter_slot hZ F.slot_zip_iter (wpAny_call_entry F.slot_zip_iter hZ F.entry_zip_iter (Yc ⟨_,rfl,"zip",_,hZ,F.slot_zip_next.lookup,h⟩) (F.args_zip_iter_1 _))
end
section
variable {prog:Program}{w:World}{A:Around}{E:Value->Shared->Prop}{s:Shared}{z TI TO:Addr}{f0:Value}{b0:Bool}
theorem Zst {tg : Expr} {v : Value} {Q : Unit → Shared → Prop} (hz : Zac s.heap z TI TO f0 b0) (hf : ZiY f0)
    (hQ : ∀ h' f', ZiY f' → Zac h' z TI TO f' b0 → Heap.SameBut z s.heap h' → Q () { s with heap := h' }) : wpAny (model prog w) A (letOwnedTupleGo tg (.ref z) v) Q E s := by
  have hp : Q () s := hQ s.heap f0 hf hz ⟨rfl, fun _ _ => rfl⟩
  unfold letOwnedTupleGo
  cases tg <;> first
    | exact Yc hp
    | (cases v <;> first
        | exact Yc hp
        | (refine Ya (wpAny_load hz ?_)
           dsimp only
           split
           · refine Ya (wpAny_rule ?_)
             show wpAny _ _ (setField (.ref z) 0 .none) Q E s
             exact wpAny_setField_rec hz (by simp) fun h' hz' hs' => hQ h' .none (.inl rfl) hz' hs'
           · exact Yc hp))
end
section
variable {X:Cx}{pins:List (Addr×Obj)}{σ:St}{H:Hp}{s:Shared}
theorem ZoE {P:Program}{w:World}{K:Frag}{tg:Expr}{t u:Bool}{a b z TI TO i1 i2:Addr} (D:ZipApart z TI TO i1 i2 a b) :
  Turn P w K tg (Itzq K t u a b) [z,TI,TO,i1,i2] z (λi h=>(∃f b,ZiY f/\Zac h z TI TO f b)/\IsPair h TI (.ref i1) (.ref i2)/\(∃u v,IsPair h TO u v)/\ItB t h i1 a i/\ItB u h i2 b i) where
 mem:=by simp
 obj:=λi h st c hc=>by
  obtain⟨⟨f,b',qf,q1⟩,q2,⟨u,v,q3⟩,q4,q5⟩:=st
  simp at hc
  rcases hc with rfl|rfl|rfl|rfl|rfl
  ·exact⟨_,q1,λv z=>by cases z⟩
  ·exact⟨_,q2,λv z=>by cases z⟩
  ·exact⟨_,q3,λv z=>by cases z⟩
  ·obtain⟨o,ho,v,d⟩:=q4.obj;exact⟨_,ho,λv z=>by rw[d]at z;cases z⟩
  ·obtain⟨o,ho,v,d⟩:=q5.obj;exact⟨_,ho,λv z=>by rw[d]at z;cases z⟩
 keep:=λi h h' st k=>by
  obtain⟨⟨f,b',qf,q1⟩,q2,⟨u,v,q3⟩,q4,q5⟩:=st
  exact⟨⟨f,b',qf,k z (by simp) _ q1⟩,k TI (by simp) _ q2,⟨u,v,k TO (by simp) _ q3⟩,q4.keep λo e=>k i1 (by simp) o e,q5.keep λo e=>k i2 (by simp) o e⟩
 item:=by
  intro X hP hw hK hc i pins s σ H E I hf st hg
  subst hP hw hK
  obtain⟨xs,ys,x,y,qa,qb,hx,hy⟩:=hg
  obtain⟨⟨f,b',qf,q1⟩,q2,⟨u0,v0,q3⟩,q4,q5⟩:=st
  obtain⟨is1,r1,p1,w1⟩:=I.sqb qa
  obtain⟨is2,r2,p2,w2⟩:=I.sqb qb
  obtain⟨u',hu,ru⟩:=r1.get hx
  obtain⟨v,hv,rv⟩:=r2.get hy
  have oa:=p1.obj
  have ob:=p2.obj
  refine Zli D q1 qf q2 q3 (w1 _ _ q4) (w2 _ _ q5) (x:=u') (y:=v) (by simpa using hu) (by simpa using hv) λh' f1 b1' a0 a1 a2 a3 a4 a5 a7=>?_
  refine⟨_,rfl,?_⟩
  refine Zst (s:={s with heap:=h'}) a1 a0 λh2 f2 c0 d1 b2=>?_
  have hfr:H s.heap.objs.size=none:=I.hok.fresh (Ye _)
  have I1:Inv X pins σ (upd H s.heap.objs.size (.tup [x,y])) {s with heap:=s.heap.push {cls:=.type "tuple",data:=.seq #[u',v]}}:=by
   refine I.laid (t':=s.toks) (λb u e=>Yh _ e) (Ye _) ?_
   exact⟨by show 2<=sizeLine;decide,[u',v],.cons ru (.cons rv .nil),⟨_,Yt _ rfl,rfl,_,rfl⟩⟩
  have nz:∀c∈[z,TI,TO,i1,i2],c≠s.heap.objs.size:=λc hc e=>by
   have:∃o,s.heap.get? c=some o:=by
    simp at hc
    rcases hc with rfl|rfl|rfl|rfl|rfl
    ·exact⟨_,q1⟩
    ·exact⟨_,q2⟩
    ·exact⟨_,q3⟩
    ·obtain⟨o,q,_⟩:=q4.obj;exact⟨o,q⟩
    ·obtain⟨o,q,_⟩:=q5.obj;exact⟨o,q⟩
   obtain⟨o,q⟩:=this
   exact absurd (Yk q) (by rw[e];exact YO _)
  have hf1:∀c∈[z,TI,TO,i1,i2],FpOk X pins (upd H s.heap.objs.size (.tup [x,y])) c:=λc hc=>by
   obtain⟨f0,f1,f2,f3,f4,f5⟩:=hf c hc
   exact⟨by rw[Zg (nz c hc)];exact f0,f1,f2,f3,f4,f5⟩
  have I2:Inv X pins σ (upd H s.heap.objs.size (.tup [x,y])) {s with heap:=h2}:=by
   refine Inv.Zhh (s:={s with heap:=s.heap.push {cls:=.type "tuple",data:=.seq #[u',v]}}) (t':=s.toks) (fp:=[z,TI,TO,i1,i2]) I1 (λc o hc e=>?_) hf1
   simp only[Ym,List.not_mem_nil,or_false,not_or]at hc
   obtain⟨c1,c2,c3,c4,c5⟩:=hc
   refine b2.extBut _ _ c1 ?_
   by_cases hs:c=s.heap.objs.size
   ·subst hs
    have e':(s.heap.push {cls:=.type "tuple",data:=.seq #[u',v]}).get? s.heap.objs.size=some _:=Yt _ rfl
    have ee:o={cls:=.type "tuple",data:=.seq #[u',v]}:=by
     have:=e.symm.trans e'
     exact YN this
    rw[ee];exact a5
   ·have:s.heap.get? c=some o:=by
     rcases Heap.get?_push_cases e with⟨q,_⟩|q
     ·exact absurd q hs
     ·exact q
    exact a7 c o c1 c3 c4 c5 this
  have ka:∀o,s.heap.get? a=some o->h2.get? a=some o:=λo e=>b2.extBut _ _ D.l1z (a7 a o D.l1z D.l1TO D.l1i1 D.l1i2 e)
  have kb:∀o,s.heap.get? b=some o->h2.get? b=some o:=λo e=>b2.extBut _ _ D.l2z (a7 b o D.l2z D.l2TO D.l2i1 D.l2i2 e)
  refine⟨.ref s.heap.objs.size,_,I2,rfl,⟨_,x,y,hfr,rfl,rfl,λxs' q'=>?_,λys' q'=>?_⟩,⟨⟨f2,b1',c0,d1⟩,?_,?_,?_,?_⟩,λc hc=>(hf1 c hc).1⟩
  ·rw[I.Znw q' qa];exact hx
  ·rw[I.Znw q' qb];exact hy
  ·exact b2.extBut _ _ D.TIz (a7 _ _ D.TIz D.TITO D.TIi1 D.TIi2 q2)
  ·obtain⟨u2,v2,a2⟩:=a2
   exact⟨u2,v2,b2.extBut _ _ D.TOz a2⟩
  ·exact I.itb qa ka (a3.ext b2.extBut D.i1z D.l1z)
  ·exact I.itb qb kb (a4.ext b2.extBut D.i2z D.l2z)
 done:=by
  intro X hP hw hK hc i pins s σ H E I hf st hg
  subst hP hw hK
  obtain⟨xs,ys,qa,qb,hx⟩:=hg
  obtain⟨⟨f,b',qf,q1⟩,q2,⟨u0,v0,q3⟩,q4,q5⟩:=st
  obtain⟨is1,r1,p1,w1⟩:=I.sqb qa
  obtain⟨is2,r2,p2,w2⟩:=I.sqb qb
  refine ZmK (I.ok.hd hc) D q1 qf q2 q3 (w1 _ _ q4) (w2 _ _ q5) ?_ λh' k=>⟨rfl,I.Zhh (t':=s.toks) (fp:=[z,TI,TO,i1,i2]) (λc o hc e=>?_) hf⟩
  ·rcases hx with hx|hx
   ·left;simp;rw[<-r1.length];exact hx
   ·right;simp;rw[<-r2.length];exact hx
  ·simp only[Ym,List.not_mem_nil,or_false,not_or]at hc
   obtain⟨c1,c2,c3,c4,c5⟩:=hc
   exact k c o c1 c3 c4 c5 e
 self:=λ_ _ _ _ _ ⟨⟨_,_,_,q⟩,_⟩ h=>ZoD q h
theorem Zkc {K:Frag}{tg:Expr}{e1 e2:Expr}{ta:TA}{p pos:Pos} (hK:X.K=K) (hg:Gl X "zip") (hm:X.mg "zip"=none) (ha:PA X [e1,e2] ta) (he:starEach [e1,e2] X.env=(false,eval e1 X.env)::starEach [e2] X.env:=by rfl) (hpl:(backTo pos (starEach [e2] X.env)).any (·.1)=false:=by rfl) :
  PI X tg (.Call (.Name "zip" p) [e1,e2] [] pos) (Zqc K ta):=by
 subst hK
 intro pins s σ H R I h
 refine wpAny_Call_Name_kw (Zcn I hg hm Zn7 ?_)
 refine PyProof.Rows.callWith_type1 (thn (ha pos pins s σ H _ I h) λus s1 ⟨vs,H1,I1,r1,a,b,t,u,xs,ys,e1,qa,qb,q⟩=>?_) he hpl
 subst e1
 obtain⟨u',v,rfl,ru,rv⟩:=r1.two
 cases(show u'=Value.ref a from ru)
 cases(show v=Value.ref b from rv)
 obtain⟨is1,rr1,p1,_⟩:=I1.sqb qa
 obtain⟨is2,rr2,p2,_⟩:=I1.sqb qb
 refine Zon p1 p2 λh' c1 c2 c3 c4 c5 c7=>?_
 refine wpAny_pyIter_zip c1 ?_
 have l1:a<s1.heap.objs.size:=by obtain⟨o,e⟩:=p1.obj;exact Yk e
 have l2:b<s1.heap.objs.size:=by obtain⟨o,e⟩:=p2.obj;exact Yk e
 have sm:∀b,s1.heap.objs.size<=b->FpOk X pins H1 b:=λb hb=>I1.ZkG hb (I1.hok.fresh hb)
 refine⟨_,[s1.heap.objs.size+4,s1.heap.objs.size+2,s1.heap.objs.size+3,s1.heap.objs.size,s1.heap.objs.size+1],_,_,H1,rfl,I1.kept (t':=s1.toks) c7,ZoE (t:=t) (u:=u) (a:=a) (b:=b) ?_,⟨⟨_,_,.inl rfl,c1⟩,c2,⟨_,_,c3⟩,I1.itb qa (λo e=>c7 _ o e) c4,I1.itb qb (λo e=>c7 _ o e) c5⟩,λc hc=>?_,q⟩
 ·exact zapart _ _ _ l1 l2
 ·simp at hc
  rcases hc with rfl|rfl|rfl|rfl|rfl<;>exact sm _ (by omega)
end
theorem le1 {n:Nat}{us:List Value} (e:us.length=n+1):∃a t,us=a::t/\t.length=n:=by
 cases us with
 |nil=>cases e
 |cons a t=>exact⟨a,t,rfl,Nat.succ.inj e⟩
theorem le0 {us:List Value} (e:us.length=0):us=[]:=List.length_eq_zero_iff.mp e
end L2
namespace K70
open PySem PySem.Spec PyProof.Rows L2
open PySem.W (nsIn mg_of fnOf keepIn codeIn mg_none_of)
local macro_rules | `(tactic| walk_at "rd") => `(tactic| simp only [tIfS, tNot, ZkI, ZlZ, rI0, rI, rU, Zfd, tC, tB, tIf, Zm6, tOrV, Znd, Znc, tNil, ZnT, tSeq, tRet, ZpC, tOp, tUn, tAnd, tOr, ZpD, ZcF, gSub, tAug, tCB, tSl, Zl8, tLst, tTup, L2.start, Zn2, ZnS, Zjb, gNil, Z3, Option.join_some, Option.join_none, rEq, rNe, Znl, Znm, Znn, Zno, Znp, Znq, tBM, Bool.true_eq_false, YH, List.map_nil, List.cons_append, List.nil_append, YR, List.length_nil, List.replicate, List.append_nil, List.set_cons_zero, List.set_cons_succ, List.getElem?_cons_zero, List.getElem?_cons_succ, Option.some.injEq, V.int.injEq, V.bl.injEq, V.ref.injEq, List.cons.injEq, and_true, true_and, exists_eq_left, exists_eq_left', exists_and_left, exists_eq, decide_eq_true_eq, Bool.not_eq_true', decide_eq_false_iff_not, cxK, and_assoc, Bool.false_eq_true, ↓reduceIte, Znk, Zji, ZkQ, ZpH, Zm7, iTup, Zl4, ZjL, ZpO, rIsi, Zp5, rPop, Zp4, rLen, rLof, rTof, iSeq, tBM0, rEqD, Zp1, rIn, Zp9, Zmi, rInD, Zqa, Zj0, rAll, rAny, rIxQ, tRev, ZpM, ZjJ, tSl, ipI, ZjP, rRep, Znr, ZpX, Zqc, Zmo, V.str.injEq, Zms, Zqj, Zqk, tDIn, Zqp, tLam, Zj7, ZmA, Zj8, Zju])
noncomputable def top (i:Nat):Stmt:=PySem.Challenge.pw_dipkin_k70_whole_stays_within_bounds.main.body.getD i (.Pass ⟨0,0,0,0⟩)
noncomputable abbrev Zdm:Stmt:=top 6
noncomputable abbrev Zcl:Stmt:=top 7
noncomputable abbrev Zdn:Stmt:=top 8
noncomputable abbrev Zcm:Stmt:=top 9
noncomputable abbrev Za8:Stmt:=top 10
noncomputable abbrev ZaN:Stmt:=top 11
noncomputable abbrev Zas:Stmt:=top 13
noncomputable abbrev Zbx:Stmt:=top 14
noncomputable abbrev ZaO:Stmt:=top 16
noncomputable abbrev Zdo:Stmt:=top 17
noncomputable abbrev Zdp:Stmt:=top 18
noncomputable abbrev Zaj:Stmt:=top 19
noncomputable abbrev Zby:Stmt:=top 21
noncomputable abbrev Zat:Stmt:=top 22
noncomputable abbrev Za9:Stmt:=top 23
noncomputable abbrev ZeX:Stmt:=top 24
noncomputable abbrev Zba:Stmt:=top 25
noncomputable abbrev Zdq:Stmt:=top 27
noncomputable abbrev Zbb:Stmt:=top 29
noncomputable abbrev Zbc:Stmt:=top 30
noncomputable abbrev ZaP:Stmt:=top 31
noncomputable abbrev Zbd:Stmt:=top 32
noncomputable abbrev Zbe:Stmt:=top 33
noncomputable abbrev Zak:Stmt:=top 34
noncomputable abbrev Z4:Stmt:=top 35
noncomputable abbrev Zau:Stmt:=top 36
noncomputable abbrev Z5:Stmt:=top 37
noncomputable abbrev ZY:Stmt:=top 38
noncomputable abbrev ZfU:Stmt:=top 39
structure Txt (K:PySem.W.Frag) (mg:Str->Option Value):Prop where
 b_abs:mg "abs"=none
 b_all:mg "all"=none
 b_any:mg "any"=none
 b_enumerate:mg "enumerate"=none
 b_int:mg "int"=none
 b_isinstance:mg "isinstance"=none
 b_len:mg "len"=none
 b_list:mg "list"=none
 b_max:mg "max"=none
 b_min:mg "min"=none
 b_range:mg "range"=none
 b_sorted:mg "sorted"=none
 b_tuple:mg "tuple"=none
 b_zip:mg "zip"=none
 c_DipError:mg "DipError"=some (.ref (clsAt mg "DipError"))
 x_DipError:PySem.W.excIn K (clsAt mg "DipError") bmV newV=true
 c_Unlike:mg "Unlike"=some (.ref (clsAt mg "Unlike"))
 x_Unlike:PySem.W.excIn K (clsAt mg "Unlike") bmV newV=true
 c_NoTree:mg "NoTree"=some (.ref (clsAt mg "NoTree"))
 x_NoTree:PySem.W.excIn K (clsAt mg "NoTree") bmV newV=true
 m_MOST_PLACES:mg "MOST_PLACES"=some (.int 40 (tokAt mg "MOST_PLACES"))
noncomputable def Ze4 (K:PySem.W.Frag) (mg:Str->Option Value):List (Addr×Str):=[(Zh0 K mg "from_below",Zld "from_below"),(Zh0 K mg "chains_by",Zld "chains_by")]
noncomputable abbrev SpT:=PySem.W.Frag->(Str->Option Value)->Sp
noncomputable def ZnH (K:PySem.W.Frag) (mg:Str->Option Value):Sp:=λvs H Q E=>∃(a:Addr) (ns:List Int),vs=[.ref a]/\SqL K H a (ns.map V.int)/\ns.length<=63/\(∀p∈Ze4 K mg,H p.1=some (Zh1 p.2))/\∀H',Q (.bl true) H'
noncomputable def ZdD:SpT:=λK mg vs H Q E=>∃(a:Addr) (ns:List Int) (k:Int),vs=[.ref a,.int k]/\SqL K H a (ns.map V.int)/\0<=k/\k<=100/\∀p H',H p=none->Ze H H'->Zr H' p->Q (.ref p) H'
noncomputable def ZaQ:SpT:=λK mg vs H Q E=>∃(p:Addr) (many:Int),vs=[.ref p,.int many]/\0<many/\many<=1000000000/\Zr H p/\∀d H',0<=d->d<many->Zr H' p->Exc p H H'->Q (.int d) H'
noncomputable def Zgo:SpT:=λK mg vs H Q E=>∃(el sp:Addr) (es:List Int) (A B:List Nat) (i:Nat),vs=[.ref el,.ref sp,.int i,.int A.length]/\H el=some (.lst (es.map V.int))/\H sp=some (.lst (Zt (A++B)))/\el≠sp/\i<es.length/\(∀q∈A++B,q<es.length)/\(A++B).length<=1000 /\
 ∀H',(∀b o,b≠el->b≠sp->H b=some o->H' b=some o)->H' el=some (.lst ((Zde es A B i).map V.int))->H' sp=some (.lst (Zt (A++[i])))->Q .non H'
noncomputable def Zfm:SpT:=λK mg vs H Q E=>∃(r:Addr) (ns:List Int),vs=[.ref r]/\(SqL K H r (ns.map V.int)\/SqT K H r (ns.map V.int))/\ns.length<=1000/\∀(t:Addr) (es:List Int) H',Zq ns es->Ze H H'->H' t=some (.tup (es.map V.int))->Q (.ref t) H'
noncomputable def Zbz:SpT:=λK mg vs H Q E=>∃(t:Addr) (T:List Int) (p:Nat),vs=[.ref t,.int p]/\(SqL K H t (T.map V.int)\/SqT K H t (T.map V.int))/\T.length<=1000/\p<T.length/\∀(w:Addr) H',H w=none->Ze H H'->H' w=some (.lst ((Zbg T p).map V.int))->Q (.ref w) H'
noncomputable def Zfn:SpT:=λK mg vs H Q E=>∃(t:Addr) (T:List Int),vs=[.ref t]/\H t=some (.tup (T.map V.int))/\T.length<=1000/\(Zai T->∀H',Ze H H'->Q (.bl true) H')/\(¬ Zai T->∀H',Ze H H'->Q (.bl false) H')
noncomputable def ZdE:SpT:=λK mg vs H Q E=>∃(t:Addr) (T:List Int),vs=[.ref t]/\H t=some (.tup (T.map V.int))/\T.length<=1000/\(Zai T->∀H',Ze H H'->Q .non H')/\(¬ Zai T->∀H',Ze H H'->E (.ref (clsAt mg "NoTree")) none H')
noncomputable def Zcv:SpT:=λK mg vs H Q E=>∃(t:Addr) (T:List Int) (p:Nat),vs=[.ref t,.int p]/\H t=some (.tup (T.map V.int))/\T.length<=1000/\p<T.length/\∀H',Ze H H'->Q (.int (ZaH T p:Nat)) H'
noncomputable def ZbR:SpT:=λK mg vs H Q E=>∃(t:Addr) (T:List Int),vs=[.ref t]/\H t=some (.tup (T.map V.int))/\T.length<=1000/\(Zai T->∀(t':Addr) H',Ze H H'->H' t'=some (.tup ((Zj T).map V.int))->Q (.ref t') H')/\(¬ Zai T->∀H',Ze H H'->E (.ref (clsAt mg "NoTree")) none H')
noncomputable def ZdF:SpT:=λK mg vs H Q E=>∃(t:Addr) (T:List Int) (p:Nat),vs=[.ref t,.int p]/\H t=some (.tup (T.map V.int))/\T.length<=900/\p<T.length /\
 ((∃ns,Zq ns T)->∀(w:Addr) H',H w=none->Ze H H'->H' w=some (.lst ((Zbg T p).map V.int))->Q (.ref w) H') /\
 ((¬ ∃ns,Zq ns T)->(∀H',Ze H H'->Q .non H')/\∀(w:Addr) (L:List Nat) H',H w=none->L.length<=T.length+1->Ze H H'->H' w=some (.lst (Zt L))->Q (.ref w) H')
noncomputable def ZcU:SpT:=λK mg vs H Q E=>∃(p:Addr) (n:Nat),vs=[.ref p,.int n]/\n<=40/\Zr H p/\∀(t:Addr) (ds:List Nat) H',H t=none->ds.length=n->ZeW ds->H' t=some (.tup (Zt ds))->Zr H' p->Exc p H H'->Q (.ref t) H'
noncomputable def ZdG:SpT:=λK mg vs H Q E=>∃(t:Addr) (ds:List Nat),vs=[.ref t]/\H t=some (.tup (Zt ds))/\ds.length<=40/\ZeW ds/\∀(u:Addr) (es:List Int) H',H u=none->es.length=ds.length->(∃ns,Zq ns es)->Ze H H'->H' u=some (.tup (es.map V.int))->Q (.ref u) H'
noncomputable def ZbX:SpT:=λK mg vs H Q E=>∃(p t:Addr) (T:List Int),vs=[.ref p,.ref t]/\Zr H p/\H t=some (.tup (T.map V.int))/\T.length<=40/\(∃ns,Zq ns T)/\∀(r:Addr) (ms:List Int) H',H r=none->Zq ms T->H' r=some (.tup (ms.map V.int))->Zr H' p->Exc p H H'->Q (.ref r) H'
noncomputable def hgt (F ns:List Int):List Int:=(List.range F.length).map λi=>nth ns i-nth F i
noncomputable def ZaX:SpT:=λK mg vs H Q E=>∃(f r:Addr) (F ns:List Int),vs=[.ref f,.ref r]/\H f=some (.tup (F.map V.int))/\(SqL K H r (ns.map V.int)\/SqT K H r (ns.map V.int))/\F.length<=1000/\ns.length<=1000/\(ns.length=F.length->∀(l:Addr) H',H l=none->Ze H H'->H' l=some (.lst ((hgt F ns).map V.int))->Q (.ref l) H')/\(ns.length≠F.length->∀H',Ze H H'->E (.ref (clsAt mg "Unlike")) none H')
noncomputable def ZQ (T hs:List Int):List (List Int):=(List.range T.length).flatMap λb=>((Zbg T b).filter λa=>decide (nth hs b<nth hs a.toNat)).map λa=>[a,(b:Int)]
noncomputable def ZfV (rs' rs:List (List Int)):Prop:=rs'.Perm rs/\rs'.Pairwise (λr r'=>ZaI r<=ZaI r')
noncomputable def ZaZ:SpT:=λK mg vs H Q E=>∃(t h:Addr) (T hs:List Int),vs=[.ref t,.ref h]/\H t=some (.tup (T.map V.int))/\H h=some (.lst (hs.map V.int))/\T.length<=40/\hs.length=T.length/\∀(l:Addr) (rs:List (List Int)) H',H l=none->Ze H H'->ZA H' l rs->ZfV rs (ZQ T hs)->Q (.ref l) H'
noncomputable def Zlj (T ls ds:List Int):Prop:=ds.length=T.length/\∀p,p<T.length->(∃o∈p::way T p,nth ds p=nth ls o+nth (Zj T) p-nth (Zj T) o)/\∀o∈p::way T p,nth ls o+nth (Zj T) p-nth (Zj T) o<=nth ds p
inductive Td where
 |row (ns:List Int)
 |clash (a b:Int)
noncomputable def ZqI (H:Hp) (t:Addr):Td->Prop
 |.row ns=>ns.length<=1000/\∃r:Addr,H t=some (.tup [.str (Str.ofString "row"),.ref r])/\H r=some (.tup (ns.map V.int))
 |.clash a b=>H t=some (.tup [.str (Str.ofString "clash"),.int a,.int b])
noncomputable def ZmL (T ls gs:List Int) (a b:Int):Prop:=0<=a/\0<=b/\a<T.length/\b<T.length/\(a=b\/a∈Zbg T b.toNat)/\nth gs b.toNat<nth ls a.toNat+nth (Zj T) b.toNat-nth (Zj T) a.toNat
noncomputable def dpI (T:List Int) (i:Int):Int:=((Zbg T i.toNat).length:Int)
noncomputable def ZbE:SpT:=λK mg vs H Q E=>∃(t:Addr) (T:List Int),vs=[.ref t]/\H t=some (.tup (T.map V.int))/\Zai T/\ZbQ K mg "from_below" H/\∀(l:Addr) (ps:List Int) H',H l=none->Ze H H'->ps.Perm (nats (T.length:Int))->(ps.Pairwise λx y=>dpI T y<=dpI T x)->H' l=some (.lst (ps.map V.int))->Q (.ref l) H'
noncomputable def Zd8 (F us:List Int):List Int:=(List.range F.length).map λi=>nth F i+nth us i
noncomputable def Zdr:SpT:=λK mg vs H Q E=>∃(f h:Addr) (F us:List Int),vs=[.ref f,.ref h]/\H f=some (.tup (F.map V.int))/\H h=some (.lst (us.map V.int))/\F.length=us.length/\us.length<=1000/\∀(t:Addr) H',Ze H H'->H' t=some (.tup ((Zd8 F us).map V.int))->Q (.ref t) H'
noncomputable def ZmM (T hs us:List Int):Prop:=us.length=T.length/\∀p,p<T.length->nth us p=if nth T p=-1 then nth hs p else max (nth hs p) (nth us (nth T p).toNat)
noncomputable def Zgp:SpT:=λK mg vs H Q E=>∃(t h:Addr) (T hs:List Int),vs=[.ref t,.ref h]/\H t=some (.tup (T.map V.int))/\H h=some (.lst (hs.map V.int))/\Zai T/\hs.length=T.length/\ZbQ K mg "from_below" H/\∀(l:Addr) (us:List Int) H',H l=none->Ze H H'->ZmM T hs us->H' l=some (.lst (us.map V.int))->Q (.ref l) H'
noncomputable def FirstC (T ls gs ds:List Int) (i j:Nat):Prop:=i<T.length/\(∀p,p<i->nth ds p<=nth gs p)/\¬ nth ds i<=nth gs i/\j<(i::way T i).length/\nth (hgt (Zj T) ls) ((i::way T i).getD j 0)=nth ds i-nth (Zj T) i/\∀j',j'<j->nth (hgt (Zj T) ls) ((i::way T i).getD j' 0)≠nth ds i-nth (Zj T) i
noncomputable def FitIs (T ls gs:List Int):Td->Prop
 |.row ds=>Zlj T ls ds/\∀p,p<T.length->nth ds p<=nth gs p
 |.clash a b=>ZmL T ls gs a b/\∃(ds:List Int) (i j:Nat),Zlj T ls ds/\FirstC T ls gs ds i j/\a=((i::way T i).getD j 0:Nat)/\b=(i:Int)
noncomputable def Zgq:SpT:=λK mg vs H Q E=>∃(t a b:Addr) (T ls gs:List Int),vs=[.ref t,.ref a,.ref b]/\H t=some (.tup (T.map V.int))/\(SqL K H a (ls.map V.int)\/SqT K H a (ls.map V.int))/\(SqL K H b (gs.map V.int)\/SqT K H b (gs.map V.int))/\Zai T/\ls.length=T.length/\gs.length=T.length/\ZbQ K mg "from_below" H/\∀(c:Addr) (d:Td) H',Ze H H'->ZqI H' c d->FitIs T ls gs d->Q (.ref c) H'
noncomputable def Zlk (T ns ks:List Int):Td->Prop
 |.row ds=>ds.length=T.length/\(∀r∈ZQ T (hgt (Zj T) ns),¬ (r.getD 0 0∈ks/\r.getD 1 0∈ks))/\∀p:Nat,p<T.length->(p:Int)∈ks->nth ds p=nth ns p
 |.clash a b=>a∈ks/\b∈ks/\[a,b]∈ZQ T (hgt (Zj T) ns)
noncomputable def Zbl:SpT:=λK mg vs H Q E=>∃(t r k:Addr) (T ns ks:List Int),vs=[.ref t,.ref r,.ref k]/\H t=some (.tup (T.map V.int))/\H r=some (.tup (ns.map V.int))/\(SqL K H k (ks.map V.int)\/SqT K H k (ks.map V.int))/\Zai T/\ns.length=T.length/\ns≠[]/\ks.length<=1000/\ZbQ K mg "from_below" H/\∀(c:Addr) (d:Td) H',Ze H H'->ZqI H' c d->Zlk T ns ks d->Q (.ref c) H'
noncomputable def ZbA:SpT:=λK mg vs H Q E=>∃(t r k:Addr) (T ns ks:List Int),vs=[.ref t,.ref r,.ref k]/\H t=some (.tup (T.map V.int))/\H r=some (.tup (ns.map V.int))/\(SqL K H k (ks.map V.int)\/SqT K H k (ks.map V.int))/\Zai T/\ns.length=T.length/\ns≠[]/\ks.length<=1000/\(∀x∈ks,∃i:Nat,x=i/\i<T.length)/\ZbQ K mg "from_below" H/\∀(z:Bool) H',(z=true↔∀r∈ZQ T (hgt (Zj T) ns),¬ (r.getD 0 0∈ks/\r.getD 1 0∈ks))->Ze H H'->Q (.bl z) H'
noncomputable def Za4:SpT:=λK mg vs H Q E=>∃(t r k l:Addr) (T ns ks:List Int) (rs:List (List Int)),vs=[.ref t,.ref r,.ref k,.ref l]/\H t=some (.tup (T.map V.int))/\H r=some (.tup (ns.map V.int))/\(SqL K H k (ks.map V.int)\/SqT K H k (ks.map V.int))/\ZA H l rs/\Zai T/\ns.length=T.length/\ns≠[]/\ks.length<=1000/\rs.length<=2000/\(¬ ∀r∈ZQ T (hgt (Zj T) ns),¬ (r.getD 0 0∈ks/\r.getD 1 0∈ks))/\(∀a b:Int,a∈ks->b∈ks->[a,b]∈ZQ T (hgt (Zj T) ns)->[a,b]∈rs)/\ZbQ K mg "from_below" H/\∀H',Ze H H'->Q (.bl true) H'
noncomputable def lowAt (rs:List (List Int)) (p:Nat):List Int:=(rs.filter λr=>decide (r.getD 0 0=(p:Int))).map λr=>r.getD 1 0
noncomputable def LowAt (H:Hp) (l:Addr) (n:Nat) (rs:List (List Int)):Prop:=∃as:List Addr,H l=some (.lst (as.map V.ref))/\as.length=n/\∀(i:Nat) (a:Addr),as[i]?=some a->H a=some (.lst ((lowAt rs i).map V.int))
noncomputable def Zcw:SpT:=λK mg vs H Q E=>∃(t h:Addr) (T hs:List Int),vs=[.ref t,.ref h]/\H t=some (.tup (T.map V.int))/\H h=some (.lst (hs.map V.int))/\Zai T/\hs.length=T.length/\∀(l:Addr) (rs:List (List Int)) H',H l=none->ZfV rs (ZQ T hs)->LowAt H' l T.length rs->Ze H H'->Q (.ref l) H'
noncomputable def Zh7:SpT:=λK mg vs H Q E=>∃(h b:Int) (u:Option Int),vs=[.int h,.int b,(match u with|none=>.non|some x=>.int x)]/\Q (.bl (decide (b<=h/\∀x,u=some x->x<b))) H
inductive ChRun (hs:List Int) (rs:List (List Int)):List Int->List (Int×List Int)->List (Int×Option Int)->Prop
 |nil:ChRun hs rs [] [] []
 |new {ps cs fo}{p:Nat}:ChRun hs rs ps cs fo->(∀b∈lowAt rs p,∀c∈cs,c.1≠b)->ChRun hs rs (ps++[(p:Int)]) (cs++[((p:Int),[(p:Int)])]) (fo++[((p:Int),none)])
 |on {ps cs fo}{p:Nat}{b:Int}{ch:List Int}:ChRun hs rs ps cs fo->b∈lowAt rs p->(b,ch)∈cs->(∀b'∈lowAt rs p,(∃c∈cs,c.1=b')->nth hs b'.toNat<=nth hs b.toNat)->ChRun hs rs (ps++[(p:Int)]) (cs.filter (λc=>decide (c.1≠b))++[((p:Int),(p:Int)::ch)]) (fo++[((p:Int),some b)])
noncomputable def ZJ (i:Int):Key:=.inl i
noncomputable def Zgr:Option Int->V
 |none=>.non
 |some x=>.int x
noncomputable def ZnI (H:Hp) (d:Addr) (cs:List (Int×List Int)):Prop:=∃A:Int->Addr,H d=some (.dK (cs.map λc=>(ZJ c.1,V.ref (A c.1))))/\∀c∈cs,H (A c.1)=some (.tup (c.2.map V.int))
noncomputable def ZgQ (H:Hp) (d:Addr) (fo:List (Int×Option Int)):Prop:=H d=some (.dK (fo.map λc=>(ZJ c.1,Zgr c.2)))
noncomputable def ZdH:SpT:=λK mg vs H Q E=>∃(o l h:Addr) (ps hs:List Int) (rs:List (List Int)),vs=[.ref o,.ref l,.ref h]/\H o=some (.lst (ps.map V.int))/\LowAt H l hs.length rs/\H h=some (.lst (hs.map V.int))/\hs.length<=40/\ps.length<=40/\ps.Nodup/\(∀p∈ps,0<=p/\p<hs.length)/\(∀(i:Nat),∀b∈lowAt rs i,0<=b/\b<hs.length)/\rs.length<=2000/\ZbQ K mg "chains_by" H /\
 ∀(t d1 d2:Addr) (cs:List (Int×List Int)) (fo:List (Int×Option Int)) H',ChRun hs rs ps cs fo->ZnI H' d1 cs->ZgQ H' d2 fo->H' t=some (.tup [.ref d1,.ref d2])->Ze H H'->Q (.ref t) H'
noncomputable def lookI (bs:List (Int×Int)) (x:Int):Option Int:=(bs.find? λc=>decide (c.1=x)).map (·.2)
noncomputable def lookO (fo:List (Int×Option Int)) (x:Int):Option (Option Int):=(fo.find? λc=>decide (c.1=x)).map (·.2)
noncomputable def staysI (hs:List Int) (h b:Int) (u:Option Int):Bool:=decide (b<=h/\∀x,u.map (λ(y:Int)=>nth hs y.toNat)=some x->x<b)
inductive BarRun (T hs:List Int) (fo:List (Int×Option Int)) (m:Int):List Int->List (Int×Int)->List Int->Prop
 |nil:BarRun T hs fo m [] [(-1,m)] []
 |keep {qs bs ks}{p:Nat}{b:Int}{u:Option Int}:BarRun T hs fo m qs bs ks->lookI bs (nth T p)=some b->lookO fo (p:Int)=some u->staysI hs (nth hs p) b u=true->BarRun T hs fo m (qs++[(p:Int)]) (bs++[((p:Int),nth hs p)]) (ks++[(p:Int)])
 |pass {qs bs ks}{p:Nat}{b:Int}{u:Option Int}:BarRun T hs fo m qs bs ks->lookI bs (nth T p)=some b->lookO fo (p:Int)=some u->staysI hs (nth hs p) b u=false->BarRun T hs fo m (qs++[(p:Int)]) (bs++[((p:Int),b)]) ks
noncomputable def Zll (H:Hp) (d:Addr) (bs:List (Int×Int)):Prop:=H d=some (.dK (bs.map λc=>(ZJ c.1,V.int c.2)))
noncomputable def usB (n:Nat) (bs:List (Int×Int)):List Int:=(List.range n).map λ(p:Nat)=>(lookI bs (p:Int)).getD 0
noncomputable def Zgs (T ns ks' us:List Int) (cs:List (Int×List Int)):Prop:=∃(ps:List Int) (rs:List (List Int)) (fo:List (Int×Option Int)) (m:Int) (bs:List (Int×Int)) (ks:List Int),ps.Perm (nats (T.length:Int))/\(ps.Pairwise λx y=>dpI T y<=dpI T x)/\ZfV rs (ZQ T (hgt (Zj T) ns))/\ChRun (hgt (Zj T) ns) rs ps cs fo/\(hgt (Zj T) ns=[]->m=0)/\(hgt (Zj T) ns≠[]->m∈hgt (Zj T) ns/\∀a∈hgt (Zj T) ns,m<=a)/\BarRun T (hgt (Zj T) ns) fo m ps.reverse bs ks/\ks'.Perm ks/\ks'.Pairwise (·<=·)/\us=usB T.length bs
noncomputable def ZdI:SpT:=λK mg vs H Q E=>∃(t r:Addr) (T ns:List Int),vs=[.ref t,.ref r]/\H t=some (.tup (T.map V.int))/\(SqL K H r (ns.map V.int)\/SqT K H r (ns.map V.int))/\T.length<=1000/\ns.length<=1000/\ZbQ K mg "from_below" H/\ZbQ K mg "chains_by" H /\
 (Zai T->ns.length=T.length->∀(u a b c:Addr) (A:Int->Addr) (ks us:List Int) (cs:List (Int×List Int)) H',Zgs T ns ks us cs->H' u=some (.tup [.ref a,.ref b,.ref c])->H' a=some (.tup (ks.map V.int))->H' b=some (.tup ((Zd8 (Zj T) us).map V.int))->H' c=some (.lst (cs.map λx=>V.ref (A x.1)))->(∀x∈cs,H' (A x.1)=some (.tup (x.2.map V.int)))->Ze H H'->Q (.ref u) H')/\(¬ Zai T->∀H',Ze H H'->E (.ref (clsAt mg "NoTree")) none H')/\(Zai T->ns.length≠T.length->∀H',Ze H H'->E (.ref (clsAt mg "Unlike")) none H')
noncomputable def ZdJ (n:Nat) (ks:List Int):List Int:=((List.range n).filter λ(p:Nat)=>decide ((p:Int)∈ks)).map λ(p:Nat)=>(p:Int)
noncomputable def ZqJ (T hs ch:List Int) (i:Nat):Bool:=decide (nth ch i∈Zbg T (nth ch (i+1)).toNat)&&decide (nth hs (nth ch (i+1)).toNat<nth hs (nth ch i).toNat)
noncomputable def Zh8 (T hs ch:List Int):Bool:=(List.range (ch.length-1)).all (ZqJ T hs ch)
noncomputable def ZbY (T ns ks ms:List Int) (chs:List (List Int)):Prop:=Zq ms T/\ks=ZdJ ns.length ks/\(∀p∈ks,nth ms p.toNat=nth ns p.toNat)/\chs.length=ks.length/\[]∉chs/\chs.flatten.Perm (nats (T.length:Int))/\∀ch∈chs,Zh8 T (hgt (Zj T) ns) ch=true
noncomputable def Zeh:SpT:=λK mg vs H Q E=>∃(t r:Addr) (T ns:List Int),vs=[.ref t,.ref r]/\H t=some (.tup (T.map V.int))/\(SqL K H r (ns.map V.int)\/SqT K H r (ns.map V.int))/\T.length<=1000/\ns.length<=1000/\(Zai T->ns.length=T.length->∀(l:Addr) (rs:List (List Int)) H',H l=none->Ze H H'->ZA H' l rs->ZfV rs (ZQ T (hgt (Zj T) ns))->Q (.ref l) H')/\(¬ Zai T->∀H',Ze H H'->E (.ref (clsAt mg "NoTree")) none H')/\(Zai T->ns.length≠T.length->∀H',Ze H H'->E (.ref (clsAt mg "Unlike")) none H')
noncomputable def ZbB:SpT:=λK mg vs H Q E=>∃(p t:Addr) (T:List Int),vs=[.ref p,.ref t]/\Zr H p/\H t=some (.tup (T.map V.int))/\T.length<=40/\(∃ns,Zq ns T)/\∀(r:Addr) (ms:List Int) H',H r=none->ms.length=T.length->H' r=some (.tup (ms.map V.int))->Zr H' p->Exc p H H'->Q (.ref r) H'
section
variable {P:Program}{w:World}{K:PySem.W.Frag}{mg:Str->Option Value}{base:Heap}
theorem ZoF:FnScope ["elders","spine","place","keep"] ["elders","spine","place","keep"] (defScope Zdm):=⟨rfl,rfl,rfl,by decide +kernel,rfl,by decide +kernel,by decide +kernel⟩
theorem ZbC:FnScope ["row","elders","spine","place","keep"] ["row"] (defScope Zcl):=⟨rfl,rfl,rfl,by decide +kernel,rfl,by decide +kernel,by decide +kernel⟩
theorem ZeY:FnScope ["tree","place","way","at"] ["tree","place"] (defScope Zdn):=⟨rfl,rfl,rfl,by decide +kernel,rfl,by decide +kernel,by decide +kernel⟩
theorem Zh9:FnScope ["tree","depths"] ["tree"] (defScope Zcm):=⟨rfl,rfl,rfl,by decide +kernel,rfl,by decide +kernel,by decide +kernel⟩
theorem Zkd:FnScope ["tree"] ["tree"] (defScope Za8):=⟨rfl,rfl,rfl,by decide +kernel,rfl,by decide +kernel,by decide +kernel⟩
theorem ZiZ:FnScope ["tree"] ["tree"] (defScope ZaN):=⟨rfl,rfl,rfl,by decide +kernel,rfl,by decide +kernel,by decide +kernel⟩
theorem Zia:FnScope ["tree","place"] ["tree","place"] (defScope Zas):=⟨rfl,rfl,rfl,by decide +kernel,rfl,by decide +kernel,by decide +kernel⟩
theorem Zlm:FnScope ["tree"] ["tree"] (defScope Zbx):=⟨rfl,rfl,rfl,by decide +kernel,rfl,by decide +kernel,by decide +kernel⟩
theorem Zi0:FnScope ["flat","row"] ["flat","row"] (defScope ZaO):=⟨rfl,rfl,rfl,by decide +kernel,rfl,by decide +kernel,by decide +kernel⟩
theorem ZoG:FnScope ["flat","heights"] ["flat","heights"] (defScope Zdo):=⟨rfl,rfl,rfl,by decide +kernel,rfl,by decide +kernel,by decide +kernel⟩
theorem Zgt:FnScope ["tree","heights","up","place"] ["tree","heights"] (defScope Zdp):=⟨rfl,rfl,rfl,by decide +kernel,rfl,by decide +kernel,by decide +kernel⟩
theorem Zd2:FnScope ["tree","heights","pairs"] ["tree","heights"] (defScope Zaj):=⟨rfl,rfl,rfl,by decide +kernel,rfl,by decide +kernel,by decide +kernel⟩
theorem Zln:FnScope ["tree","row"] ["tree","row"] (defScope Zby):=⟨rfl,rfl,rfl,by decide +kernel,rfl,by decide +kernel,by decide +kernel⟩
theorem Zbm:FnScope ["tree","heights","lower","a","b"] ["tree","heights"] (defScope Zat):=⟨rfl,rfl,rfl,by decide +kernel,rfl,by decide +kernel,by decide +kernel⟩
theorem ZaR:FnScope ["order","lower","heights","chains","following","place","firsts","best"] ["order","lower","heights"] (defScope Za9):=⟨rfl,rfl,rfl,by decide +kernel,rfl,by decide +kernel,by decide +kernel⟩
theorem ZqK:FnScope ["height","bar","under"] ["height","bar","under"] (defScope ZeX):=⟨rfl,rfl,rfl,by decide +kernel,rfl,by decide +kernel,by decide +kernel⟩
theorem ZR:FnScope ["tree","row","flat","heights","order","chains","following","bars","kept","place","after","made"] ["tree","row"] (defScope Zba):=⟨rfl,rfl,rfl,by decide +kernel,rfl,by decide +kernel,by decide +kernel⟩
theorem Zbf:FnScope ["tree","least","greatest","flat","floors","roofs","needed","b","height","lifting"] ["tree","least","greatest"] (defScope Zdq):=⟨rfl,rfl,rfl,by decide +kernel,rfl,by decide +kernel,by decide +kernel⟩
theorem ZdK:FnScope ["script","k","cell"] ["script","k"] (defScope Zbb):=⟨rfl,rfl,rfl,by decide +kernel,rfl,by decide +kernel,by decide +kernel⟩
theorem ZfW:FnScope ["pool","many","digit"] ["pool","many"] (defScope Zbc):=⟨rfl,rfl,rfl,by decide +kernel,rfl,by decide +kernel,by decide +kernel⟩
theorem ZM:FnScope ["pool","many","way","found","still","k","drop"] ["pool","many"] (defScope ZaP):=⟨rfl,rfl,rfl,by decide +kernel,rfl,by decide +kernel,by decide +kernel⟩
theorem ZaS:FnScope ["drops","elders","still","place","drop","turn"] ["drops"] (defScope Zbd):=⟨rfl,rfl,rfl,by decide +kernel,rfl,by decide +kernel,by decide +kernel⟩
theorem Zb9:FnScope ["tree","place","found","here"] ["tree","place"] (defScope Zbe):=⟨rfl,rfl,rfl,by decide +kernel,rfl,by decide +kernel,by decide +kernel⟩
theorem ZF:FnScope ["pool","tree","rise","begin","found","ranks","place","rank","elder","least"] ["pool","tree"] (defScope Zak):=⟨rfl,rfl,rfl,by decide +kernel,rfl,by decide +kernel,by decide +kernel⟩
theorem ZD:FnScope ["pool","tree","many","row","way","turn","at","turned"] ["pool","tree"] (defScope Z4):=⟨rfl,rfl,rfl,by decide +kernel,rfl,by decide +kernel,by decide +kernel⟩
theorem ZaJ:FnScope ["tree","row","kept","far","least","greatest","place"] ["tree","row","kept"] (defScope Zau):=⟨rfl,rfl,rfl,by decide +kernel,rfl,by decide +kernel,by decide +kernel⟩
theorem Zds:FnScope ["tree","row","kept","told"] ["tree","row","kept"] (defScope Z5):=⟨rfl,rfl,rfl,by decide +kernel,rfl,by decide +kernel,by decide +kernel⟩
theorem Zcx:FnScope ["tree","row","kept","pairs","told"] ["tree","row","kept","pairs"] (defScope ZY):=⟨rfl,rfl,rfl,by decide +kernel,rfl,by decide +kernel,by decide +kernel⟩
theorem Zbn:FnScope ["script","k","pool","tree","row","pairs","kept","made","chains","place","chain","two","some","clash"] ["script"] (defScope ZfU):=⟨rfl,rfl,rfl,by decide +kernel,rfl,by decide +kernel,by decide +kernel⟩
theorem Zke {f:Addr}{fd:FuncData} (F:Fun K "_law_pool" "_law_pool" Zbb f fd) (T:Txt K mg):FnOk P w K mg base (CXE P w) 1 f fd ["script","k"] (ZdD K mg):=by
 refine F.okX ZdK (λvs H Q E h=>?_) (λcdv A outer s H vs Q E hr h=>?_)
 ·obtain⟨n,k,_,rfl,_⟩:=h;rfl
 obtain⟨a,ns,k,rfl,hS,h0,h1,k1⟩:=h
 refine⟨_,(Zd (Zo (i:=2) ZdK.nd rfl (Or.inl rfl) Zf)
   (Zd (ZaA (Zu Zhz (pv 1) (Zk (Zn (K:=K) rfl) rfl T.b_len YE (Za (pv 0) Zc)) (Zx _)) (Zi (Zo (i:=2) ZdK.nd rfl (Or.inl rfl) (Zs Zff (Zw Zv (pv 0) (pv 1) (λ_ _=>rfl)) (Zs Zbj (Zs Zbj (Zs Zbj (Zs Zfg Zf Zf) (Zs Zfg Zf Zf)) (Zs Zfg Zf Zf)) (Zs Zfg Zf Zf))))) ZK)
   (Zi (ZE (Z9 (Za (Zk (Zgc rfl) rfl T.b_max ZhE (Za Zf (Za (Zs Zcp (pv 2) (Zs Zfg Zf Zf)) Zc))) (Za (Zs Zff (Zs Zbj (Zs ZaW (Zs ZaW (Zs Zff (pv 2) Zf) (Zs Zbj Zf (pv 1))) Zf) Zf) Zf) Zc))))))),?_⟩
 simp only[tIfS,tNot,ZkI,ZlZ,rI0,rI,rU,Zfd,tC,tB,tIf,Zm6,tOrV,Znd,Znc,tNil,ZnT,tSeq,tRet,ZpC,tOp,tUn,tAnd,tOr,ZpD,ZcF,gSub,tAug,tCB,tSl,Zl8,tLst,tTup,L2.start,Zn2,ZnS,Zjb,gNil,Z3,Option.join_some,Option.join_none,rEq,rNe,Znl,Znm,Znn,Zno,Znp,Znq,tBM,Bool.true_eq_false,YH,List.map_nil,List.cons_append,List.nil_append,YR,List.length_nil,List.replicate,List.append_nil,List.set_cons_zero,List.set_cons_succ,List.getElem?_cons_zero,List.getElem?_cons_succ,Option.some.injEq,V.int.injEq,V.bl.injEq,V.ref.injEq,List.cons.injEq,and_true,true_and,exists_eq_left,exists_eq_left',exists_and_left,exists_eq,decide_eq_true_eq,Bool.not_eq_true',decide_eq_false_iff_not,cxK,and_assoc,Bool.false_eq_true,↓reduceIte,Znk,Zji,ZkQ,ZpH,Zm7,iTup,Zl4,ZjL,ZpO,rIsi,Zp5,rPop,Zp4,rLen,rLof,rTof,iSeq,tBM0,rEqD,Zp1,rIn,Zp9,Zmi,rInD,Zqa,Zj0,rAll,rAny,rIxQ,tRev,ZpM,ZjJ,tSl,ipI,ZjP,rRep,Znr,ZpX,Zqc,Zmo,V.str.injEq,Zms,Zqj,Zqk,tDIn,Zqp,tLam,Zj7,ZmA,Zj8,Zju,cp64,cp18,pm1,pm2,pm3,pm4,pm5,pm6,pm7]
 refine⟨ns.map V.int,.inl hS,?_⟩
 refine Z1 (λhk=>?_) (λ_=>?_)
 ·obtain⟨j,rfl⟩:=Y2 h0
  have hj:j<(ns.map V.int).length:=by omega
  refine⟨_,hS,_,ZhF rfl hj,ns[j]'(by simpa using hj),by simp,ZhG (by omega) (by omega),mul_r (by omega) (by omega),λp hp=>k1 p _ hp ((Ze.refl H).upd hp) ⟨_,_,Zb,?_,Int.emod_nonneg _ (by decide),Int.emod_lt_of_pos _ (by decide)⟩⟩
  split<;>omega
 ·refine⟨ZhG (by omega) (by omega),mul_r (by omega) (by omega),λp hp=>k1 p _ hp ((Ze.refl H).upd hp) ⟨_,_,Zb,?_,Int.emod_nonneg _ (by decide),Int.emod_lt_of_pos _ (by decide)⟩⟩
  split<;>omega
theorem Zkf {f:Addr}{fd:FuncData} (F:Fun K "_law_pick" "_law_pick" Zbc f fd) (T:Txt K mg):FnOk P w K mg base (CXE P w) 1 f fd ["pool","many"] (ZaQ K mg):=by
 refine F.okX ZfW (λvs H Q E h=>?_) (λcdv A outer s H vs Q E hr h=>?_)
 ·obtain⟨n,k,rfl,_⟩:=h;rfl
 obtain⟨p,many,rfl,h0,h1,⟨x,y,hp,hx,hy,hy2⟩,k1⟩:=h
 refine⟨_,(Zd (ZaA (Zu Zd1 (Zw Zv (pv 0) Zf (λ_ _=>rfl)) Zf (Zx _)) (Zd (Zo (i:=2) ZfW.nd rfl (Or.inl rfl) (Zs Zff (Zw Zv (pv 0) Zf (λ_ _=>rfl)) (pv 1)))
   (Zd (Zco (Zs ZjH (Zw Zv (pv 0) Zf (λ_ _=>rfl)) (pv 1)) (Zdu (pv 0) Zf set_list (λ_=>rfl)))
   (Zi (ZE (pv 2))))) ZK)
   (Zd (Zco (Zs Zff (Zs ZaW (Zs Zbj (Zw Zv (pv 0) Zf (λ_ _=>rfl)) Zf) Zf) Zf) (Zdu (pv 0) Zf set_list (λ_=>rfl)))
   (Zi (ZE (Zs Zff (Zs ZjH (Zs Zff (Zs Zbj (Zw Zv (pv 0) Zf (λ_ _=>rfl)) (Zw Zv (pv 0) Zf (λ_ _=>rfl))) Zf) Zf) (pv 1)))))),?_⟩
 walk_at "rd"
 refine⟨_,SqL.of hp,_,rfl,_,rfl,?_⟩
 refine Z1 (λhk=>?_) (λ_=>?_)
 ·refine⟨_,SqL.of hp,_,rfl,_,rfl,h0,?_⟩
  refine⟨_,SqL.of hp,_,rfl,_,rfl,⟨h0,by omega⟩,_,hp,_,rfl,?_⟩
  exact k1 _ _ (Int.emod_nonneg _ (by omega)) (Int.emod_lt_of_pos _ h0) ⟨_,_,Zb,Int.ediv_nonneg hx (by omega),hy,hy2⟩ Exc.upd
 ·refine⟨_,SqL.of hp,_,rfl,_,rfl,?_⟩
  refine⟨mul_r (by omega) (by omega),by decide,_,hp,_,rfl,_,SqL.of Zb,_,rfl,_,SqL.of Zb,_,rfl,_,rfl,_,rfl,ZhG ?_ ?_,by decide,⟨by decide,by decide⟩,h0,?_⟩
  ·have:=Int.emod_nonneg (y*69621+12345) (b:=2147483647) (by decide);omega
  ·have:=Int.emod_lt_of_pos (y*69621+12345) (b:=2147483647) (by decide);omega
  ·exact k1 _ _ (Int.emod_nonneg _ (by omega)) (Int.emod_lt_of_pos _ h0) ⟨_,_,Zb,hx,Int.emod_nonneg _ (by decide),Int.emod_lt_of_pos _ (by decide)⟩ Exc.upd
theorem ZoH {f:Addr}{fd:FuncData} (F:Fun K "settle" "settle" Zdm f fd) (T:Txt K mg):FnOk P w K mg base (CXE P w) 1 f fd ["elders","spine","place","keep"] (Zgo K mg):=by
 refine F.okX ZoF (λvs H Q E h=>?_) (λcdv A outer s H vs Q E hr h=>?_)
 ·obtain⟨el,sp,es,A,B,i,rfl,_⟩:=h;rfl
 obtain⟨el,sp,es,A',B,i,rfl,hel,hsp,hne,hi,hq,hlen,k1⟩:=h
 refine⟨_,(Zd (ZaA (Zu Zhz (pv 3) (Zk (Zn (K:=K) rfl) rfl T.b_len YE (Za (pv 1) Zc)) (Zx _)) (Zi (Zco (pv 2) (Zdu (pv 0) (Zw Zv (pv 1) (pv 3) (λ_ _=>rfl)) set_list (λ_=>rfl)))) ZK)
   (Zd (ZaA (Zu Zd1 (pv 3) Zf (Zx _)) (Zi (Zco (Zw Zv (pv 1) (Zs Zcp (pv 3) Zf) (λ_ _=>rfl)) (Zdu (pv 0) (pv 2) set_list (λ_=>rfl)))) ZK)
   (Zd (Zmd (pv 1) (pv 3))
   (Zi (ZaL (Ze1 PySem.F.plainAttrs_list PySem.F.slot_list_append PySem.F.type_list_append Zaq (pv 1) (Za (pv 2) Zc))))))),?_⟩
 walk_at "rd"
 have hb1:(Zt A').length<sizeLine:=by
  rw[ZV]
  rw[YM]at hlen
  exact YF (show _<=1000 by omega) (by decide)
 have etk:List.take A'.length (Zt (A'++B))=Zt A':=by
  rw[Zcj]
  have:A'.length=(Zt A').length:=(ZV A').symm
  rw[this,List.take_left]
 have hle:A'.length<=(Zt (A'++B)).length:=by rw[ZV,YM];omega
 have esn:Zt A'++[V.int (i:Nat)]=Zt (A'++[i]):=by rw[Zcj];rfl
 refine⟨_,.inl (SqL.of hsp),?_⟩
 rw[ZV,YM]
 -- the end: behind the two stores
 have fin:∀(es1:List Int) (Hx:Hp),(∀b o,b≠el->b≠sp->H b=some o->Hx b=some o)->Hx el=some (.lst (es1.map V.int))->Hx sp=some (.lst (Zt (A'++B)))->es1=Zde es A' B i ->
   ∃(xs:List V) (k:Nat),(A'.length:Int)=(k:Int)/\Hx sp=some (HO.lst xs)/\k<=xs.length/\tyV K "list" (V.ref sp) (upd Hx sp (HO.lst (List.take k xs)))/\∃x,upd Hx sp (HO.lst (List.take k xs)) sp=some (HO.lst x)/\x.length<sizeLine/\Q V.non (upd (upd Hx sp (HO.lst (List.take k xs))) sp (HO.lst (x++[V.int (i:Nat)]))):=by
  intro es1 Hx h1 h2 h3 h4
  refine⟨_,A'.length,rfl,h3,hle,Zah Zb,_,Zb,by rw[etk];exact hb1,k1 _ (λb o n1 n2 z=>by rw[Zg n2,Zg n2];exact h1 b o n1 n2 z) (by rw[Zg hne,Zg hne,h2,h4]) (by rw[Zb,etk,esn])⟩
 -- elders[place]=spine[keep-1]
 have mid:∀(es1:List Int) (Hx:Hp),(∀b o,b≠el->b≠sp->H b=some o->Hx b=some o)->Hx el=some (.lst (es1.map V.int))->es1.length=es.length->Hx sp=some (.lst (Zt (A'++B)))->∀q,A'.getLast?=some q->es1.set i (q:Int)=Zde es A' B i ->
   ∃x,SqL K Hx sp x/\∃x_1,atI x ((A'.length:Int)-1)=some x_1/\∃x,Hx el=some (HO.lst x)/\∃x_2,ixN x.length (i:Int)=some x_2/\∃(xs:List V) (k:Nat),(A'.length:Int)=(k:Int)/\upd Hx el (HO.lst (x.set x_2 x_1)) sp=some (HO.lst xs)/\k<=xs.length/\tyV K "list" (V.ref sp) (upd (upd Hx el (HO.lst (x.set x_2 x_1))) sp (HO.lst (List.take k xs))) /\
    ∃x_3,upd (upd Hx el (HO.lst (x.set x_2 x_1))) sp (HO.lst (List.take k xs)) sp=some (HO.lst x_3)/\x_3.length<sizeLine/\Q V.non (upd (upd (upd Hx el (HO.lst (x.set x_2 x_1))) sp (HO.lst (List.take k xs))) sp (HO.lst (x_3++[V.int (i:Nat)]))):=by
  intro es1 Hx h1 h2 hl1 h3 q hq h4
  have hpos:0<A'.length:=by
   cases A' with
   |nil=>cases hq
   |cons _ _=>simp
  have hat:(A'++B)[A'.length-1]?=some q:=by
   rw[Y8 (by omega)]
   rw[List.getLast?_eq_getElem?]at hq;exact hq
  have ei:((A'.length:Int)-1)=((A'.length-1:Nat):Int):=by omega
  refine⟨_,SqL.of h3,_,by rw[ei];exact ZhP hat,_,h2,i,by rw[Yf,hl1];exact Zdz hi,?_⟩
  have em:(es1.map V.int).set i (V.int (q:Nat))=(es1.set i (q:Int)).map V.int:=by rw[List.map_set]
  rw[em]
  exact fin _ _ (λb o n1 n2 z=>by rw[Zg n1];exact h1 b o n1 n2 z) Zb (by rw[Zg hne.symm];exact h3) h4
 cases B with
 |nil =>
  rw[Yb (by simp)]
  cases hq:A'.getLast? with
  |none =>
   have:A'=[]:=List.getLast?_eq_none_iff.mp hq
   rw[Yb (by rw[this];simp)]
   exact fin es H (λb o _ _ z=>z) hel hsp (by unfold Zde;rw[hq];rfl)
  |some q =>
   have:A'≠[]:=λz=>by rw[z]at hq;cases hq
   rw[Yd (by have:=List.length_pos_iff.mpr this;omega)]
   exact mid es H (λb o _ _ z=>z) hel rfl hsp q hq (by unfold Zde;rw[hq];rfl)
 |cons b Br =>
  rw[Yd (by simp;omega)]
  have hat:(A'++b::Br)[A'.length]?=some b:=by rw[Ja (Ye _)];simp
  have hbn:b<es.length:=hq b (by simp)
  refine⟨_,SqL.of hsp,_,ZhP hat,_,_,rfl,hel,b,by rw[Yf];exact Zdz hbn,?_⟩
  have em:(es.map V.int).set b (V.int (i:Nat))=(es.set b (i:Int)).map V.int:=by rw[List.map_set]
  rw[em]
  cases hq2:A'.getLast? with
  |none =>
   have:A'=[]:=List.getLast?_eq_none_iff.mp hq2
   rw[Yb (by rw[this];simp)]
   exact fin (es.set b i) _ (λc o n1 n2 z=>by rw[Zg n1];exact z) Zb (by rw[Zg hne.symm];exact hsp) (by unfold Zde;rw[hq2];rfl)
  |some q =>
   have:A'≠[]:=λz=>by rw[z]at hq2;cases hq2
   rw[Yd (by have:=List.length_pos_iff.mpr this;omega)]
   exact mid (es.set b i) _ (λc o n1 n2 z=>by rw[Zg n1];exact z) Zb (by simp) (by rw[Zg hne.symm];exact hsp) q hq2 (by unfold Zde;rw[hq2];rfl)
theorem ZmN {f:Addr}{fd:FuncData} (F:Fun K "tree_of" "tree_of" Zcl f fd) (Ziq:Callee P w K mg base "settle" 1 ["elders","spine","place","keep"] (Zgo K mg)) (T:Txt K mg):FnOk P w K mg base (CXE P w) 2 f fd ["row"] (Zfm K mg):=by
 refine F.okX ZbC (λvs H Q E h=>?_) (λcdv A outer s H vs Q E hr h=>?_)
 ·obtain⟨r,ns,rfl,_⟩:=h;rfl
 obtain⟨r,ns,rfl,hS,hn,k1⟩:=h
 refine⟨_,(Zd (Zo (i:=1) ZbC.nd rfl (Or.inl rfl) (Zs Zl7 (Z9 (Za (ZfB Zdv Zf) Zc)) (Zk (Zn (K:=K) rfl) rfl T.b_len YE (Za (pv 0) Zc))))
   (Zd (Zo (i:=2) ZbC.nd rfl (Or.inl rfl) (Z9 Zc))
   (Zd (Zag (ZaE PassesOwn.never rfl (ZS rfl T.b_range (Za (Zk (Zn (K:=K) rfl) rfl T.b_len YE (Za (pv 0) Zc)) Zc)) (Zm (i:=3) ZbC.nd rfl (Or.inl rfl)) (Zd (Zo (i:=4) ZbC.nd rfl (Or.inl rfl) (Zk (Zn (K:=K) rfl) rfl T.b_len YE (Za (pv 2) Zc)))
   (Zd (Zag (Zhw PassesOwn.never (PW.pt (Zht (Zu Zd1 (pv 4) Zf (Zx _)) (ZfA (Zu Zd1 (Zw (ix_q (K:=K) rfl) (pv 0) (Zw Zv (pv 2) (Zs Zcp (pv 4) Zf) (λ_ _=>rfl)) (λ_ _=>rfl)) (Zw (ix_q (K:=K) rfl) (pv 0) (pv 3) (λ_ _=>rfl)) (Zx _))))) (Zi (ps_aug (i:=4) ZbC.nd rfl (Or.inl rfl) Zf ip_sub))))
   (Zi (ZaL (Zh Ziq (hr.mono (by decide)) rfl Zz (Za (pv 1) (Za (pv 2) (Za (pv 3) (Za (pv 4) Zc)))))))))))
   (Zi (ZE (ZT (Za6 (K:=K) rfl) rfl T.b_tuple Zbk (Za (pv 1) Zc))))))),?_⟩
 walk_at "rd"
 have eL:(ns.map V.int).length=ns.length:=Yf ..
 refine⟨by decide,λp hp=>⟨_,((Ze.refl H).upd hp).q hS,_,Zb,by omega,by rw[eL];omega,?_,λel hel=>⟨Yr _,λsp hsp=>?_⟩⟩⟩
 ·exact Yo (show _<=1000 by simp;omega) (by decide)
 have s0:Ze H (upd (upd (upd H p (.lst [V.int (-1)])) el (.lst (List.replicate (((ns.map V.int).length:Nat):Int).toNat [V.int (-1)]).flatten)) sp (.lst [])):=(((Ze.refl H).upd hp).Z8 hel).Z8 hsp
 refine⟨_,s0.q hS,by omega,by rw[eL];omega,?_⟩
 have en:(((ns.map V.int).length:Nat):Int).toNat=ns.length:=by rw[eL];omega
 have hel0:(upd (upd (upd H p (.lst [V.int (-1)])) el (.lst (List.replicate (((ns.map V.int).length:Nat):Int).toNat [V.int (-1)]).flatten)) sp (.lst [])) el=some (.lst ((List.replicate ns.length (-1:Int)).map V.int)):=by
  have:=((Ze.refl _).Z8 (o:=.lst []) hsp) el _ Zb
  rw[this,en];simp
 have hsp0:(upd (upd (upd H p (.lst [V.int (-1)])) el (.lst (List.replicate (((ns.map V.int).length:Nat):Int).toNat [V.int (-1)]).flatten)) sp (.lst [])) sp=some (.lst (Zt [])):=Zb
 have nes:el≠sp:=λz=>by
  subst z
  rw[Zb]at hsp;cases hsp
 have zel:H el=none:=((Ze.refl H).upd hp).free hel
 have zsp:H sp=none:=(((Ze.refl H).upd hp).Z8 hel).free hsp
 rw[en]at hel0 hsp0 s0⊢
 generalize (upd (upd (upd H p (.lst [V.int (-1)])) el (.lst (List.replicate ns.length [V.int (-1)]).flatten)) sp (.lst []))=H0 at s0 hel0 hsp0⊢
 refine Za5 (λi σ Hx=>∃(es:List Int) (S:List Nat) (v3 v4:Option V),σ=[some (.ref r),some (.ref el),some (.ref sp),v3,v4]/\Ze H Hx/\Hx el=some (.lst (es.map V.int))/\Hx sp=some (.lst (Zt S))/\es.length=ns.length/\Zjk (nth ns) i S/\(∀p e,p<i->e=es.getD p 0->ZL (nth ns) i p e)/\∀p,i<=p->p<ns.length->es.getD p 0=-1)
  ⟨List.replicate ns.length (-1),[],none,none,rfl,s0,hel0,hsp0,by simp,⟨List.Pairwise.nil,λq=>by simp⟩,λp e hp=>by omega,λp _ hp=>by simp[Yn,hp]⟩ ?_ ?_
 ·rintro i σ Hx hi ⟨es,S,v3,v4,rfl,sx,hxe,hxs,hesl,hS2,hE,hE2⟩
  walk_at "rd"
  have hin:i<ns.length:=by omega
  have hSl:S.length<=1000:=by
   rcases Zmf S i 0 hS2.1 (λq hq=>⟨Yr _,((hS2.2 q).mp hq).1⟩)with z|z
   ·omega
   ·rw[z];simp
  refine⟨_,.inl (SqL.of hxs),?_⟩
  rw[ZV]
  refine Znt S.length (λj σ Hy=>∃A B,S=A++B/\B.length=j/\(∀q∈B,nth ns i<nth ns q)/\σ=[some (.ref r),some (.ref el),some (.ref sp),some (.int (0+(i:Int))),some (.int (A.length:Nat))]/\Hy=Hx) ⟨S,[],by simp,rfl,(λq hq=>absurd hq (by simp)),rfl,rfl⟩ ?_
  rintro j σ Hy hj ⟨A,B,hAB,hBl,hBg,rfl,rfl⟩
  walk_at "rd"
  have hmem:∀q,q∈A++B->q<i:=λq hq=>((hS2.2 q).mp (by rw[hAB];exact hq)).1
  have hix:(0+(i:Int))=(i:Int):=by omega
  rw[hix]
  by_cases hA0:A=[]
  case' pos =>
   rw[Yb (by rw[hA0];simp)]
   have hA:∀q∈A,nth ns q<=nth ns i:=λq hq=>absurd hq (by rw[hA0];simp)
  case' neg =>
   obtain⟨q,Al,rfl⟩:∃q Al,A=Al++[q]:=⟨A.getLast hA0,A.dropLast,(List.dropLast_concat_getLast hA0).symm⟩
   have hal:(Al++[q]).length=Al.length+1:=by simp
   rw[Yd (by rw[hal];omega)]
   have eiA:(((Al++[q]).length:Nat):Int)-1=(Al.length:Int):=by rw[hal];omega
   have hat:S[Al.length]?=some q:=by
    rw[hAB,YT,Ja (Ye _)];simp
   have hqi:q<i:=hmem q (by simp)
   refine⟨_,SqL.of hxs,_,by rw[eiA];exact ZhP hat,_,_,rfl,sx.q hS,_,Zay (by omega),_,sx.q hS,_,Zay hin,_,rfl,_,rfl,Z1 (λhlt=>?_) (λhge=>?_)⟩
   ·have hj2:j+1<=S.length:=by rw[hAB,YM,hal];omega
    refine⟨_,WI.next,hj2,Al,q::B,by rw[hAB];simp,by simp[hBl],λx hx=>?_,by rw[eiA],rfl⟩
    rcases Ym.mp hx with z|z
    ·rw[z];exact hlt
    ·exact hBg x z
   have hA:∀x∈Al++[q],nth ns x<=nth ns i:=λx hx=>by
    by_cases z:x=q
    ·rw[z];omega
    ·have hxa:x∈Al:=by
      rcases Yq.mp hx with y|y
      ·exact y
      ·exact absurd (by simpa using y) z
     have hpw:=hS2.1
     rw[hAB]at hpw
     have hxq:x<q:=(List.pairwise_append.mp (List.pairwise_append.mp hpw).1).2.2 x hxa q (by simp)
     have:=((hS2.2 x).mp (by rw[hAB];exact YA _ hx)).2 q hxq hqi
     omega
   generalize Al++[q]=A at hA hAB hmem hA0⊢
  all_goals
   have SS:=ZhJ (f:=nth ns) (i:=i) (A:=A) (B:=B) (by rw[<-hAB];exact hS2) hA hBg
   refine⟨el,sp,es,A,B,i,rfl,hxe,by rw[<-hAB];exact hxs,nes,by omega,λq hq=>by have:=hmem q hq;omega,by rw[<-hAB];exact hSl,λH' q1 q2 q3=>?_⟩
   have hbi:∀b,B.head?=some b->b≠i:=λb hb=>by
    have:=hmem b (Yl _ (List.mem_of_head? hb));omega
   refine⟨λb o z=>q1 b o (Zy z zel) (Zy z zsp) (sx b o z),Zde es A B i,q2,A++[i],q3,by rw[ZhO];exact hesl,SS.1,λp e hp he=>?_,λp hp1 hp2=>?_⟩
   ·rw[Zhi _ _ _ _ _ (by omega) hbi]at he
    by_cases z:p=i
    ·subst z
     rw[Yd rfl,hE2 p (Ye _) (by omega)]at he
     rw[he];exact SS.2.1
    ·rw[Yb z]at he
     rw[he]
     exact SS.2.2 p _ (by omega) (hE p _ (by omega) rfl)
   ·rw[Zhi _ _ _ _ _ (by omega) hbi,Yb (by omega),Yb (λz=>?_)]
    ·exact hE2 p (by omega) hp2
    ·have:=hmem p (Yl _ (List.mem_of_head? z));omega
 ·rintro σ Hx ⟨es,S,v3,v4,rfl,sx,hxe,hxs,hesl,hS2,hE,hE2⟩
  walk_at "rd"
  exact⟨_,.inl ⟨SqL.of hxe,λt ht=>k1 t es _ ⟨hesl,λp hp=>hE p _ hp rfl⟩ (sx.Z8 ht) Zb⟩⟩
theorem ZoI {f:Addr}{fd:FuncData} (F:Fun K "way_up" "way_up" Zdn f fd) (T:Txt K mg):FnOk P w K mg base (CXE P w) 1 f fd ["tree","place"] (Zbz K mg):=by
 refine F.okX ZeY (λvs H Q E h=>?_) (λcdv A outer s H vs Q E hr h=>?_)
 ·obtain⟨t,T,p,rfl,_⟩:=h;rfl
 obtain⟨t,T',p,rfl,ht,hn,hp,k1⟩:=h
 have hQ:∀Hx,Ze H Hx->(SqL K Hx t (T'.map V.int)\/SqT K Hx t (T'.map V.int)):=λHx sx=>ht.elim (λz=>.inl (sx.seq z)) λz=>.inr (sx.Zoa z)
 refine⟨_,(Zd (Zo (i:=2) ZeY.nd rfl (Or.inl rfl) (Z9 Zc))
   (Zd (Zo (i:=3) ZeY.nd rfl (Or.inl rfl) (Zw (ix_q (K:=K) rfl) (pv 0) (pv 1) (λ_ _=>rfl)))
   (Zd (Zag (Zhw PassesOwn.never (PW.pt (Zht (ZpJ op_le Zhz Zf (pv 3) (Zk (Zn (K:=K) rfl) rfl T.b_len YE (Za (pv 0) Zc))) (ZfA (Zu Zhz (Zk (Zn (K:=K) rfl) rfl T.b_len YE (Za (pv 2) Zc)) (Zk (Zn (K:=K) rfl) rfl T.b_len YE (Za (pv 0) Zc)) (Zx _))))) (Zd (ZaL (Ze1 PySem.F.plainAttrs_list PySem.F.slot_list_append PySem.F.type_list_append Zaq (pv 2) (Za (pv 3) Zc)))
   (Zi (Zo (i:=3) ZeY.nd rfl (Or.inl rfl) (Zw (ix_q (K:=K) rfl) (pv 0) (pv 3) (λ_ _=>rfl)))))))
   (Zi (ZE (pv 2)))))),?_⟩
 walk_at "rd"
 refine⟨Yr _,λl hl=>⟨_,hQ _ ((Ze.refl H).upd hl),_,Zay hp,?_⟩⟩
 refine Znt T'.length (λj σ Hx=>Ze H Hx/\Hx l=some (.lst (Zt (Zab T' j (nth T' p))))/\(Zab T' j (nth T' p)).length=j/\σ=[some (.ref t),some (.int p),some (.ref l),some (.int (ZaV T' j (nth T' p)))]) ⟨(Ze.refl H).upd hl,Zb,rfl,rfl⟩ ?_
 rintro j σ Hx hj ⟨sx,hxl,hjl,rfl⟩
 walk_at "rd"
 have hlen:(Zt (Zab T' j (nth T' p))).length=j:=by rw[ZV];exact hjl
 have eL:(T'.map V.int).length=T'.length:=Yf ..
 have done:(j=T'.length\/¬ (0<=ZaV T' j (nth T' p)/\ZaV T' j (nth T' p)<T'.length))->Q (.ref l) Hx:=λz=>by
  refine k1 l Hx hl sx ?_
  have:Zab T' T'.length (nth T' p)=Zab T' j (nth T' p):=by
   rcases z with z|z
   ·rw[<-z]
   ·exact Zjn T' j _ _ hj hjl z
  rw[hxl];unfold Zbg;rw[this];simp[Zt]
 refine Z1 (λh0=>⟨_,hQ _ sx,Z1 (λh1=>⟨_,.inl (SqL.of hxl),_,hQ _ sx,Z1 (λh2=>?_) λh2=>done (.inl (by rw[hlen,eL]at h2;omega))⟩) λh1=>done (.inr (by rw[eL]at h1;omega))⟩) λh0=>done (.inr (by omega))
 rw[eL]at h1;rw[hlen,eL]at h2
 obtain⟨a1,a2⟩:=Zjm T' j (nth T' p) h0 h1 hjl
 have ei:ZaV T' j (nth T' p)=(((ZaV T' j (nth T' p)).toNat:Nat):Int):=by omega
 refine⟨_,WI.next,Zah hxl,_,hxl,by rw[hlen];exact YF (show _<=1000 by omega) (by decide),_,hQ _ (sx.upd hl),_,(congrArg (atI _) ei).trans (Zay (by omega)),by omega,sx.upd hl,?_,?_,?_⟩
 ·rw[Zb,a1,Zcj]
  have:Zt [(ZaV T' j (nth T' p)).toNat]=[V.int (ZaV T' j (nth T' p))]:=by rw[ei];simp[Zt]
  rw[this]
 ·rw[a1];simp[hjl]
 ·rw[a2]
theorem ZmO {f:Addr}{fd:FuncData} (F:Fun K "is_tree" "is_tree" Zcm f fd) (ZgA:Callee P w K mg base "tree_of" 2 ["row"] (Zfm K mg)) (Z2:Callee P w K mg base "way_up" 1 ["tree","place"] (Zbz K mg)) (T:Txt K mg):FnOk P w K mg base (CXE P w) 3 f fd ["tree"] (Zfn K mg):=by
 refine F.okX Zh9 (λvs H Q E h=>?_) (λcdv A outer s H vs Q E hr h=>?_)
 ·obtain⟨t,T,rfl,_⟩:=h;rfl
 obtain⟨t,T',rfl,ht,hn,k1,k2⟩:=h
 refine⟨_,(Zd (ZaA (PW.pt (ZpB (Zhu (Zga (Zk (Zn8 (K:=K) rfl) rfl T.b_isinstance ZiU (Za (pv 0) (Za (ZrZ (v:=.ty "tuple") rfl T.b_tuple Zbk rfl) Zc))))) (ZpA (Zu Zd1 (Zk (Zn (K:=K) rfl) rfl T.b_len YE (Za (pv 0) Zc)) (ZrY (v:=.int 40) rfl T.m_MOST_PLACES ⟨_,rfl⟩) (Zx _))))) (Zi (ZE Zhs)) ZK)
   (Zd (Zdx (i:=1) ["place","tree"] [none,some 0] Zh9.nd rfl (Or.inl rfl) rfl rfl rfl (ZS rfl T.b_range (Za (Zk (Zn (K:=K) rfl) rfl T.b_len YE (Za (pv 0) Zc)) Zc)) (λ_ _ _ _ _=>(Zm (i:=0) (show(["place","tree"]:List Str).Nodup from by decide +kernel) rfl (Or.inl rfl))) (λ_ _ _ _ _=>Zaf) (λ_ _ _ _ _=>(Zk (Zn (K:=K) rfl) rfl T.b_len YE (Za (Zh Z2 (hr.mono (by decide)) rfl Zz (Za (pv 1) (Za (pv 0) Zc))) Zc))) ZC)
   (Zi (ZE (Zad (op_eqD (K:=K) rfl hr) (Zh ZgA (hr.mono (by decide)) rfl Zz (Za (pv 1) Zc)) (pv 0) (Zx _)))))),?_⟩
 walk_at "rd"
 have eL:(T'.map V.int).length=T'.length:=Yf ..
 refine⟨true,.inl ⟨_,.tup ht,by with_unfolding_all rfl⟩,Z1 (λz=>nomatch z) λ_=>⟨_,.inr (SqT.of ht),Z1 (λz=>k2 (λg=>?_) _ (Ze.refl H)) λz=>⟨_,.inr (SqT.of ht),by omega,by rw[eL];omega,?_⟩⟩⟩
 ·rw[eL]at z;have:=g.1;omega
 rw[eL]at z⊢
 have en:((T'.length:Nat):Int).toNat=T'.length:=by omega
 rw[en]
 refine comp_map (n:=T'.length) (λq=>V.int (nth (Zfj T') q)) (YF hn (by decide)) (λj Hx s hj=>hj) (λHx s=>Ye _) ?_ ?_
 ·rintro j x Hx Hy hj s ⟨rfl,rfl⟩
  walk_at "rd"
  refine⟨t,T',j,by simp,.inr (SqT.of (s _ _ ht)),hn,hj,λl H9 hl s9 h9=>⟨l,rfl,_,.inl (SqL.of h9),CW.next hj ?_ (s.trans s9)⟩⟩
  rw[ZkU hj,Yf];simp[Zbg]
 ·intro l' Hx s hl'
  have ed:(List.range T'.length).map (λq=>V.int (nth (Zfj T') q))=(Zfj T').map V.int:=by
   rw[<-ZfN T'];exact range_getD _ _ V.int _ rfl
  rw[ed]
  have u:=s.Z8 (o:=.lst ((Zfj T').map V.int)) hl'
  refine⟨l',Zfj T',rfl,.inl (SqL.of Zb),by rw[ZfN];exact hn,λt2 es H2 hT2 s2 ht2=>⟨t2,rfl,_,Zns (n:=2) ZjY _ _ es T' (ZfK (SqT.of ht2)) (ZfK (SqT.of ((u.trans s2) _ _ ht))),?_⟩⟩
  by_cases g:es=T'
  ·rw[YB g];exact k1 ⟨by omega,_,g▸hT2⟩ _ (u.trans s2)
  ·rw[YS g];exact k2 (λgg=>g (hT2.unique ((Zoe T').mp gg.2))) _ (u.trans s2)
theorem Zkg {f:Addr}{fd:FuncData} (F:Fun K "need_tree" "need_tree" Za8 f fd) (ZgB:Callee P w K mg base "is_tree" 3 ["tree"] (Zfn K mg)) (T:Txt K mg):FnOk P w K mg base (CXE P w) 4 f fd ["tree"] (ZdE K mg):=by
 refine F.okX Zkd (λvs H Q E h=>?_) (λcdv A outer s H vs Q E hr h=>?_)
 ·obtain⟨t,T,rfl,_⟩:=h;rfl
 obtain⟨t,T',rfl,ht,hn,k1,k2⟩:=h
 refine⟨_,(Zi (ZaA (Zhu (Zga (Zh ZgB (hr.mono (by decide)) rfl Zz (Za (pv 0) Zc)))) (Zi (ZkO rfl rfl T.c_NoTree T.x_NoTree (Za (Zjh (ZfJ (by decide) (Zl9 (Zk (Zn (K:=K) rfl) rfl T.b_len YE (Za (pv 0) Zc)) (ZfJ (by decide) ZpV)))) Zc) Znj)) ZK)),?_⟩
 walk_at "rd"
 exact⟨t,T',rfl,ht,hn,λg H1 s1=>⟨true,rfl,Z1 (λz=>nomatch z) λ_=>k1 g _ s1⟩,λg H1 s1=>⟨false,rfl,Z1 (λ_=>⟨_,.inr (SqT.of (s1 _ _ ht)),by omega,by rw[Yf];omega,λy=>⟨by decide,k2 g _ s1⟩⟩) λz=>absurd rfl z⟩⟩
theorem ZmP {a:Addr}{L:List Int}{p:Nat}{H1:Hp}{Q:VK} (ha:H1 a=some (.lst (L.map V.int))) (hn:L.length<=1000)
  (hk:∀l H' (xs:List V),Ze H1 H'->xs.length=(L.filter λo=>decide ((p:Int)<o)).length->H' l=none->Q (.ref l) (upd H' l (.lst xs))) :
  ZgK (Itl K a) (ZcF 0) (ZkI (tOp (rI0 λi j=>V.bl (decide (j<i))) (Zfd 0) (Zfd 1))) (Zfd 0) [none,some (V.int (p:Int))] Q H1:=by
 refine Zgh (n:=L.length) (λi=>decide ((p:Int)<L.getD i 0)) (λi=>V.int (L.getD i 0)) (YF hn (by decide)) (λi Hx s hi=>⟨_,_,SqL.of (s _ _ ha),Yi (by simpa using hi)⟩) (λHx s=>⟨_,SqL.of (s _ _ ha),by simp⟩) ?_ ?_
 ·rintro i x Hx Hy hi s ⟨rfl,hx⟩
  have ex:=hx _ (SqL.of (s _ _ ha))
  rw[YL,Yi hi]at ex
  cases ex
  have eg:L.getD i 0=L[i]:=by simp[Yn,hi]
  walk_at "rd"
  exact Z1 (λz=>CF.take hi (by rw[eg];exact YB z) (by rw[eg]) s) (λz=>CF.skip hi (by rw[eg];exact YS z) s)
 ·intro l H' s hl
  refine hk l H' _ s ?_ hl
  rw[Yf]
  have:L=(List.range L.length).map λi=>L.getD i 0:=by
   refine List.ext_getElem (by simp) λj h1 h2=>?_
   simp[Yn,h1]
  conv=>rhs;rw[this,List.filter_map,Yf]
  rfl
theorem Zib {f:Addr}{fd:FuncData} (F:Fun K "flat_number" "flat_number" Zas f fd) (Z2:Callee P w K mg base "way_up" 1 ["tree","place"] (Zbz K mg)) (T:Txt K mg):FnOk P w K mg base (CXE P w) 2 f fd ["tree","place"] (Zcv K mg):=by
 refine F.okX Zia (λvs H Q E h=>?_) (λcdv A outer s H vs Q E hr h=>?_)
 ·obtain⟨t,T,p,rfl,_⟩:=h;rfl
 obtain⟨t,T',p,rfl,ht,hn,hp,k1⟩:=h
 refine⟨_,(Zi (ZE (Zk (Zn (K:=K) rfl) rfl T.b_len YE (Za (Zb8 ["elder","place"] [none,some 1] rfl rfl rfl (Zbh (Zh Z2 (hr.mono (by decide)) rfl Zz (Za (pv 0) (Za (pv 1) Zc)))) (λ_ _ _ _ _=>(Zm (i:=0) (show(["elder","place"]:List Str).Nodup from by decide +kernel) rfl (Or.inl rfl))) (λ_ _ _ _ _=>Zec (Zu Zd1 (pv 0) (pv 1) (Zx _))) (λ_ _ _ _ _=>(pv 0)) ZC) Zc)))),?_⟩
 walk_at "rd"
 refine⟨t,T',p,rfl,.inr (SqT.of ht),hn,hp,λw H1 hw s1 h1=>⟨w,rfl,⟨_,SqL.of h1⟩,ZmP h1 (by simp only[Zbg,Yf];exact Yo (Zcr _ _ _) hn) λl H2 xs s2 hx hl=>⟨l,rfl,xs,.inl (SqL.of Zb),?_⟩⟩⟩
 have e:(xs.length:Nat)=ZaH T' p:=by
  rw[hx,ZbP,List.filter_map,Yf]
  unfold ZaH
  refine Zdg λo ho=>?_
  rw[Bool.eq_iff_iff]
  simp
 rw[e]
 exact k1 _ ((s1.trans s2).Z8 hl)
theorem Zlo {f:Addr}{fd:FuncData} (F:Fun K "flattest" "flattest" Zbx f fd) (Zej:Callee P w K mg base "need_tree" 4 ["tree"] (ZdE K mg)) (ZcW:Callee P w K mg base "flat_number" 2 ["tree","place"] (Zcv K mg)) (T:Txt K mg):FnOk P w K mg base (CXE P w) 5 f fd ["tree"] (ZbR K mg):=by
 refine F.okX Zlm (λvs H Q E h=>?_) (λcdv A outer s H vs Q E hr h=>?_)
 ·obtain⟨t,T,rfl,_⟩:=h;rfl
 obtain⟨t,T',rfl,ht,hn,k1,k2⟩:=h
 refine⟨_,(Zd (ZaL (Zh Zej (hr.mono (by decide)) rfl Zbi (Za (pv 0) Zc)))
   (Zi (ZE (ZT (Za6 (K:=K) rfl) rfl T.b_tuple Zbk (Za (Zb8 ["place","tree"] [none,some 0] rfl rfl rfl (ZS rfl T.b_range (Za (Zk (Zn (K:=K) rfl) rfl T.b_len YE (Za (pv 0) Zc)) Zc)) (λ_ _ _ _ _=>(Zm (i:=0) (show(["place","tree"]:List Str).Nodup from by decide +kernel) rfl (Or.inl rfl))) (λ_ _ _ _ _=>Zaf) (λ_ _ _ _ _=>(Zh ZcW (hr.mono (by decide)) rfl Zz (Za (pv 1) (Za (pv 0) Zc)))) ZC) Zc))))),?_⟩
 walk_at "rd"
 have eL:(T'.map V.int).length=T'.length:=Yf ..
 refine⟨t,T',rfl,ht,hn,λg H1 s1=>⟨_,.inr (SqT.of (s1 _ _ ht)),by omega,by rw[eL];omega,?_⟩,λg H1 s1=>k2 g _ s1⟩
 have en:(((T'.map V.int).length:Nat):Int).toNat=T'.length:=by rw[eL];omega
 rw[en]
 refine comp_map (n:=T'.length) (λq=>V.int (ZaH T' q:Nat)) (YF hn (by decide)) (λj Hx s hj=>hj) (λHx s=>Ye _) ?_ ?_
 ·rintro j x Hx Hy hj s ⟨rfl,rfl⟩
  walk_at "rd"
  exact⟨t,T',j,by simp,(s1.trans s) _ _ ht,hn,hj,λH9 s9=>CW.next hj rfl (s.trans s9)⟩
 ·intro l' Hx s hl'
  have ed:(List.range T'.length).map (λq=>V.int (ZaH T' q:Nat))=(Zj T').map V.int:=by simp[Zj]
  rw[ed]
  exact⟨l',rfl,_,.inl ⟨SqL.of Zb,λt' ht'=>k1 g t' _ (((s1.trans s).Z8 hl').Z8 ht') Zb⟩⟩
theorem Zkh {f:Addr}{fd:FuncData} (F:Fun K "_law_over" "_law_over" Zbe f fd) (T:Txt K mg):FnOk P w K mg base (CXE P w) 1 f fd ["tree","place"] (ZdF K mg):=by
 refine F.okX Zb9 (λvs H Q E h=>?_) (λcdv A outer s H vs Q E hr h=>?_)
 ·obtain⟨t,T,p,rfl,_⟩:=h;rfl
 obtain⟨t,T',p,rfl,ht,hn,hp,k1,k2⟩:=h
 refine⟨_,(Zd (Zo (i:=2) Zb9.nd rfl (Or.inl rfl) (Z9 Zc))
   (Zd (Zo (i:=3) Zb9.nd rfl (Or.inl rfl) (Zw Zaa (pv 0) (pv 1) (λ_ _=>rfl)))
   (Zd (Zag (Zhw PassesOwn.never (Zu op_ne (pv 3) (ZfB Zdv Zf) (Zx _)) (Zd (ZaA (PW.pt (ZpB (Zu Zhz (pv 3) Zf (Zx _)) (ZpB (Zu Znb (pv 3) (Zk (Zn (K:=K) rfl) rfl T.b_len YE (Za (pv 0) Zc)) (Zx _)) (ZpA (Zu Zd1 (Zk (Zn (K:=K) rfl) rfl T.b_len YE (Za (pv 2) Zc)) (Zk (Zn (K:=K) rfl) rfl T.b_len YE (Za (pv 0) Zc)) (Zx _)))))) (Zi (ZE Zf9)) ZK)
   (Zd (ZaL (Ze1 PySem.F.plainAttrs_list PySem.F.slot_list_append PySem.F.type_list_append Zaq (pv 2) (Za (pv 3) Zc)))
   (Zi (Zo (i:=3) Zb9.nd rfl (Or.inl rfl) (Zw Zaa (pv 0) (pv 3) (λ_ _=>rfl))))))))
   (Zi (ZE (pv 2)))))),?_⟩
 walk_at "rd"
 refine⟨Yr _,λl hl=>⟨_,SqT.of (((Ze.refl H).upd hl) _ _ ht),_,Zay hp,?_⟩⟩
 refine Zsa (λm σ Hx=>∃(h:Int) (L:List Nat),0<m/\m+L.length=T'.length+2/\((∃ns,Zq ns T')->∃q,q<T'.length/\h=nth T' q/\L++way T' q=way T' p)/\Ze H Hx/\Hx l=some (.lst (Zt L))/\σ=[some (.ref t),some (.int p),some (.ref l),some (.int h)]) (T'.length+2) ⟨nth T' p,[],by omega,by simp,λ_=>⟨p,hp,rfl,rfl⟩,(Ze.refl H).upd hl,Zb,rfl⟩ ?_
 rintro m σ Hx ⟨h,L,hm0,hm,hq,sx,hxl,rfl⟩
 walk_at "rd"
 have eL:(T'.map V.int).length=T'.length:=Yf ..
 have nlt:t≠l:=Zy ht hl
 have bad:(h<0\/(T'.length:Int)<=h\/T'.length<L.length)->¬ h=-1->Q .non Hx:=λz z1=>by
  refine(k2 λg=>?_).1 Hx sx
  obtain⟨q,q1,q2,q3⟩:=hq g
  obtain⟨ns,hT⟩:=g
  have e:=hT.1
  have hw:(way T' p).length<=T'.length:=Zcr _ _ _
  rw[<-q3,YM]at hw
  rcases ZG hT (by omega:q<ns.length)with y|⟨r,y,hr2,_⟩<;>omega
 refine Z1 (λz1=>⟨_,fun σ' H' z=>z,Z1 (λz=>bad (.inl z) z1) λz2=>⟨_,.inr (SqT.of (sx _ _ ht)),Z1 (λz=>bad (.inr (.inl (by rw[eL]at z;exact z))) z1) λz3=>⟨_,.inl (SqL.of hxl),_,.inr (SqT.of (sx _ _ ht)),Z1 (λz=>bad (.inr (.inr (by rw[eL,ZV]at z;omega))) z1) λz4=>?_⟩⟩⟩) λz1=>?_
 ·rw[eL]at z3
  rw[eL,ZV]at z4
  obtain⟨j,rfl⟩:=Y2 (show 0<=h by omega)
  refine⟨Zah hxl,_,hxl,YF (show _<=2000 by rw[ZV];omega) (by decide),_,SqT.of (by rw[Zg nlt];exact sx _ _ ht),_,Zay (by omega),m-1,by omega,by omega,nth T' j,L++[j],by simp;omega,λg=>?_,sx.upd hl,?_,rfl⟩
  ·obtain⟨q,q1,q2,q3⟩:=hq g
   obtain⟨ns,hT⟩:=g
   have e:=hT.1
   refine⟨j,by omega,rfl,?_⟩
   rw[<-q3,Zcs hT (by omega) q2.symm];simp
  ·rw[Zb,Zcj];rfl
 ·have z1:h=-1:=by omega
  by_cases g:∃ns,Zq ns T'
  ·obtain⟨q,q1,q2,q3⟩:=hq g
   refine k1 g l Hx hl sx ?_
   rw[hxl,ZbP,<-q3,ZfO (q2.symm.trans z1)]
   simp[Zt]
  ·exact(k2 g).2 l L Hx hl (by omega) sx hxl
theorem Zi1 {f:Addr}{fd:FuncData} (F:Fun K "_law_drops" "_law_drops" ZaP f fd) (Zl:Callee P w K mg base "_law_pick" 1 ["pool","many"] (ZaQ K mg)) (T:Txt K mg):FnOk P w K mg base (CXE P w) 2 f fd ["pool","many"] (ZcU K mg):=by
 refine F.okX ZM (λvs H Q E h=>?_) (λcdv A outer s H vs Q E hr h=>?_)
 ·obtain⟨p,n,rfl,_⟩:=h;rfl
 obtain⟨p,n,rfl,hn,hP,k1⟩:=h
 refine⟨_,(Zd (Zo (i:=2) ZM.nd rfl (Or.inl rfl) (Zh Zl (hr.mono (by decide)) rfl Zz (Za (pv 0) (Za Zf Zc))))
   (Zd (Zo (i:=3) ZM.nd rfl (Or.inl rfl) (Z9 Zc))
   (Zd (Zo (i:=4) ZM.nd rfl (Or.inl rfl) Zf)
   (Zd (Zag (ZaE PassesOwn.never rfl (ZS rfl T.b_range (Za (pv 1) Zc)) (Zm (i:=5) ZM.nd rfl (Or.inl rfl)) (Zd (Zo (i:=6) ZM.nd rfl (Or.inl rfl) (Zh Zl (hr.mono (by decide)) rfl Zz (Za (pv 0) (Za (Zs ZaW (pv 4) Zf) Zc))))
   (Zd (ZaA (PW.pt (Zht (Zu Zdd (pv 2) Zf (Zx _)) (ZfA (Zu Zd1 (Zh Zl (hr.mono (by decide)) rfl Zz (Za (pv 0) (Za Zf Zc))) Zf (Zx _))))) (Zi (Zo (i:=6) ZM.nd rfl (Or.inl rfl) Zf)) ZK)
   (Zd (ZaA (PW.pt (Zht (Zu Zdd (pv 2) Zf (Zx _)) (ZfA (Zu Zd1 (Zh Zl (hr.mono (by decide)) rfl Zz (Za (pv 0) (Za Zf Zc))) Zf (Zx _))))) (Zi (Zo (i:=6) ZM.nd rfl (Or.inl rfl) (pv 4))) ZK)
   (Zd (ZaA (Zu Zdd (pv 2) Zf (Zx _)) (Zi (Zo (i:=6) ZM.nd rfl (Or.inl rfl) (Zk (Zop rfl) rfl T.b_min Zma (Za (pv 4) (Za (pv 6) (Za (Zs ZaW Zf (Zh Zl (hr.mono (by decide)) rfl Zz (Za (pv 0) (Za Zf Zc)))) Zc)))))) ZK)
   (Zd (ZaL (Ze1 PySem.F.plainAttrs_list PySem.F.slot_list_append PySem.F.type_list_append Zaq (pv 3) (Za (pv 6) Zc)))
   (Zi (Zo (i:=4) ZM.nd rfl (Or.inl rfl) (Zs ZaW (Zs Zcp (pv 4) (pv 6)) Zf))))))))))
   (Zi (ZE (ZT (Za6 (K:=K) rfl) rfl T.b_tuple Zbk (Za (pv 3) Zc)))))))),?_⟩
 refine Zao (fun σ Hx=>∃way:Int,σ=[some (.ref p),some (.int (n:Int)),some (.int way),none,none,none,none]/\Zr Hx p/\Exc p H Hx) (λR hR=>?_) ?_
 ·walk_at "rd"
  exact⟨p,_,rfl,by decide,by decide,hP,λd H1 d0 d1 P1 e1=>hR _ _ ⟨d,rfl,P1,e1⟩⟩
 rintro σ H1 ⟨way,rfl,P1,e1⟩
 walk_at "rd"
 refine⟨Yr _,λl hl=>⟨by omega,by omega,?_⟩⟩
 have nlp:l≠p:=P1.ne hl
 have zl:H l=none:=e1.free nlp hl
 rw[Ys]
 refine Za5 (λi σ Hx=>∃(ds:List Nat) (v5 v6:Option V),σ=[some (.ref p),some (.int (n:Int)),some (.int way),some (.ref l),some (.int (Zap ds i:Nat)),v5,v6]/\ds.length=i/\ZeW ds/\Hx l=some (.lst (Zt ds))/\Zr Hx p/\Exc p H Hx) ⟨[],none,none,rfl,rfl,(λk hk=>absurd hk (by simp)),Zb,P1.upd hl,e1.same ((Ze.refl H1).upd hl)⟩ ?_ ?_
 ·rintro i σ Hx hi ⟨ds,v5,v6,rfl,hd,hD,hxl,Px,ex⟩
  have hop:=Zqh ds i
  refine Zao (fun σ Hx=>∃d:Nat,d<=Zap ds i/\σ=[some (.ref p),some (.int (n:Int)),some (.int way),some (.ref l),some (.int (Zap ds i:Nat)),some (.int (0+(i:Int))),some (.int (d:Nat))]/\Hx l=some (.lst (Zt ds))/\Zr Hx p/\Exc p H Hx) (λR hR=>?_) ?_
  ·walk_at "rd"
   exact⟨p,_,rfl,by omega,by omega,Px,λd H2 d0 d1 P2 e2=>hR _ _ ⟨d.toNat,by omega,by rw[Jc d0],e2 _ _ nlp hxl,P2,ex.trans e2⟩⟩
  clear hxl Px ex Hx
  rintro σ Hx ⟨d,hd1,rfl,hxl,Px,ex⟩
  refine Zao (fun σ Hx=>∃d:Nat,d<=Zap ds i/\σ=[some (.ref p),some (.int (n:Int)),some (.int way),some (.ref l),some (.int (Zap ds i:Nat)),some (.int (0+(i:Int))),some (.int (d:Nat))]/\Hx l=some (.lst (Zt ds))/\Zr Hx p/\Exc p H Hx) (λR hR=>?_) ?_
  ·walk_at "rd"
   refine Z1 (λ_=>⟨p,_,rfl,by decide,by decide,Px,λu H2 u0 u1 P2 e2=>⟨u,rfl,Z1 (λ_=>hR _ _ ⟨0,by omega,rfl,e2 _ _ nlp hxl,P2,ex.trans e2⟩) λ_=>hR _ _ ⟨d,hd1,rfl,e2 _ _ nlp hxl,P2,ex.trans e2⟩⟩⟩) λ_=>hR _ _ ⟨d,hd1,rfl,hxl,Px,ex⟩
  clear hxl Px ex Hx hd1 d
  rintro σ Hx ⟨d,hd1,rfl,hxl,Px,ex⟩
  refine Zao (fun σ Hx=>∃d:Nat,d<=Zap ds i/\σ=[some (.ref p),some (.int (n:Int)),some (.int way),some (.ref l),some (.int (Zap ds i:Nat)),some (.int (0+(i:Int))),some (.int (d:Nat))]/\Hx l=some (.lst (Zt ds))/\Zr Hx p/\Exc p H Hx) (λR hR=>?_) ?_
  ·walk_at "rd"
   refine Z1 (λ_=>⟨p,_,rfl,by decide,by decide,Px,λu H2 u0 u1 P2 e2=>⟨u,rfl,Z1 (λ_=>hR _ _ ⟨Zap ds i,by omega,rfl,e2 _ _ nlp hxl,P2,ex.trans e2⟩) λ_=>hR _ _ ⟨d,hd1,rfl,e2 _ _ nlp hxl,P2,ex.trans e2⟩⟩⟩) λ_=>hR _ _ ⟨d,hd1,rfl,hxl,Px,ex⟩
  clear hxl Px ex Hx hd1 d
  rintro σ Hx ⟨d,hd1,rfl,hxl,Px,ex⟩
  refine Zao (fun σ Hx=>∃d:Nat,d<=Zap ds i/\σ=[some (.ref p),some (.int (n:Int)),some (.int way),some (.ref l),some (.int (Zap ds i:Nat)),some (.int (0+(i:Int))),some (.int (d:Nat))]/\Hx l=some (.lst (Zt ds))/\Zr Hx p/\Exc p H Hx) (λR hR=>?_) ?_
  ·walk_at "rd"
   refine Z1 (λ_=>⟨p,_,rfl,by decide,by decide,Px,λu H2 u0 u1 P2 e2=>⟨u,rfl,hR _ _ ⟨(min (min ((Zap ds i:Nat):Int) (d:Int)) (1+u)).toNat,by omega,?_,e2 _ _ nlp hxl,P2,ex.trans e2⟩⟩⟩) λ_=>hR _ _ ⟨d,hd1,rfl,hxl,Px,ex⟩
   rw[Jc (by omega)]
  clear hxl Px ex Hx hd1 d
  rintro σ Hx ⟨d,hd1,rfl,hxl,Px,ex⟩
  walk_at "rd"
  have eo:Zap (ds++[d]) (i+1)=Zap ds i-d+1:=by
   show Zap (ds++[d]) i-(ds++[d]).getD i 0+1=_
   rw[Zgk ds d i (by omega),<-hd];simp[Yn]
  refine⟨Zah hxl,_,hxl,YF (show _<=1000 by rw[ZV];omega) (by decide),ds++[d],by rw[eo];omega,by simp[hd],hD.snoc (by rw[hd];exact hd1),by rw[Zb,Zcj];rfl,Px.ZjZ nlp,ex.ZjZ zl⟩
 ·rintro σ Hx ⟨ds,v5,v6,rfl,hd,hD,hxl,Px,ex⟩
  walk_at "rd"
  exact⟨_,.inl ⟨SqL.of hxl,λt ht=>k1 t ds _ (ex.free (Px.ne ht) ht) hd hD Zb (Px.upd ht) (ex.same ((Ze.refl Hx).upd ht))⟩⟩
theorem Zki {f:Addr}{fd:FuncData} (F:Fun K "_law_hung" "_law_hung" Zbd f fd) (T:Txt K mg):FnOk P w K mg base (CXE P w) 1 f fd ["drops"] (ZdG K mg):=by
 refine F.okX ZaS (λvs H Q E h=>?_) (λcdv A outer s H vs Q E hr h=>?_)
 ·obtain⟨t,ds,rfl,_⟩:=h;rfl
 obtain⟨t,ds,rfl,ht,hn,hD,k1⟩:=h
 refine⟨_,(Zd (Zo (i:=1) ZaS.nd rfl (Or.inl rfl) (Zs Zl7 (Z9 (Za (ZfB Zdv Zf) Zc)) (Zk (Zn (K:=K) rfl) rfl T.b_len YE (Za (pv 0) Zc))))
   (Zd (Zo (i:=2) ZaS.nd rfl (Or.inl rfl) (Z9 Zc))
   (Zd (Zag (ZaE PassesOwn.never rfl (Zqb (K:=K) rfl rfl T.b_enumerate (Za (pv 0) Zc)) (Zfe (n:=2) rfl (ZN (Zm (i:=3) ZaS.nd rfl (Or.inl rfl)) (ZN (Zm (i:=4) ZaS.nd rfl (Or.inl rfl)) Zb7))) (Zd (Zag (ZaE PassesOwn.never rfl (ZS rfl T.b_range (Za (pv 4) Zc)) (Zm (i:=5) ZaS.nd rfl (Or.inl rfl)) (Zd (Zco (Zw Zv (Z9 (Za (Zw Zv (pv 1) (Zw Zv (pv 2) (ZfB Zdv Zf) (λ_ _=>rfl)) (λ_ _=>rfl)) (Za (pv 3) Zc))) (ZT ZeR rfl T.b_int ZjU (Za (Zad Zdd (pv 5) (Zs Zcp (pv 4) Zf) (Zx _)) Zc)) (λ_ _=>rfl)) (Zdu (pv 1) (Zw Zv (pv 2) (ZfB Zdv Zf) (λ_ _=>rfl)) set_list (λ_=>rfl)))
   (Zi (ZaL (pe_bm0 PySem.F.plainAttrs_list PySem.F.slot_list_pop PySem.F.type_list_pop mt_pop (pv 2)))))))
   (Zd (ZaA (Zu (op_neD (K:=K) rfl hr) (pv 2) (Z9 Zc) (Zx _)) (Zi (Zco (Zw Zv (pv 2) (ZfB Zdv Zf) (λ_ _=>rfl)) (Zdu (pv 1) (pv 3) set_list (λ_=>rfl)))) ZK)
   (Zi (ZaL (Ze1 PySem.F.plainAttrs_list PySem.F.slot_list_append PySem.F.type_list_append Zaq (pv 2) (Za (pv 3) Zc))))))))
   (Zi (ZE (ZT (Za6 (K:=K) rfl) rfl T.b_tuple Zbk (Za (pv 1) Zc))))))),?_⟩
 walk_at "rd"
 have eL:(Zt ds).length=ds.length:=ZV ds
 refine⟨by decide,λp hp=>⟨_,.inr (SqT.of (((Ze.refl H).upd hp) _ _ ht)),_,Zb,by omega,by rw[eL];omega,?_,λel hel=>⟨Yr _,λsp hsp=>?_⟩⟩⟩
 ·exact Yo (show _<=1000 by simp;omega) (by decide)
 have en:(((Zt ds).length:Nat):Int).toNat=ds.length:=by rw[eL];omega
 have s0:Ze H (upd (upd (upd H p (.lst [V.int (-1)])) el (.lst (List.replicate (((Zt ds).length:Nat):Int).toNat [V.int (-1)]).flatten)) sp (.lst [])):=(((Ze.refl H).upd hp).Z8 hel).Z8 hsp
 refine⟨_,SqT.of (s0 _ _ ht),?_⟩
 have hel0:(upd (upd (upd H p (.lst [V.int (-1)])) el (.lst (List.replicate (((Zt ds).length:Nat):Int).toNat [V.int (-1)]).flatten)) sp (.lst [])) el=some (.lst ((List.replicate ds.length (-1:Int)).map V.int)):=by
  have:=((Ze.refl _).Z8 (o:=.lst []) hsp) el _ Zb
  rw[this,en];simp
 have hsp0:(upd (upd (upd H p (.lst [V.int (-1)])) el (.lst (List.replicate (((Zt ds).length:Nat):Int).toNat [V.int (-1)]).flatten)) sp (.lst [])) sp=some (.lst (Zt [])):=Zb
 have nes:el≠sp:=λz=>by
  subst z
  rw[Zb]at hsp;cases hsp
 have zel:H el=none:=((Ze.refl H).upd hp).free hel
 have zsp:H sp=none:=(((Ze.refl H).upd hp).Z8 hel).free hsp
 rw[en]at hel0 hsp0 s0⊢
 generalize (upd (upd (upd H p (.lst [V.int (-1)])) el (.lst (List.replicate ds.length [V.int (-1)]).flatten)) sp (.lst []))=H0 at s0 hel0 hsp0⊢
 refine Zgi (n:=ds.length) (λi σ Hx=>∃(es:List Int) (S:List Nat) (v3 v4 v5:Option V),σ=[some (.ref t),some (.ref el),some (.ref sp),v3,v4,v5]/\Hx el=some (.lst (es.map V.int))/\Hx sp=some (.lst (Zt S))/\es.length=ds.length/\ZhT ds.length i S es/\S.length=Zap ds i/\(∀p,i<=p->p<ds.length->es.getD p 0=-1)/\Ze H Hx)
  ⟨List.replicate ds.length (-1),[],none,none,none,rfl,hel0,hsp0,by simp,Zoo _ _,rfl,λp _ hp=>by simp[Yn,hp],s0⟩ (λi σ Hx hi ⟨_,_,_,_,_,_,_,_,_,_,_,_,sx⟩=>⟨_,_,SqT.of (sx _ _ ht),Yi (by rw[eL];exact hi)⟩) (fun σ Hx ⟨_,_,_,_,_,_,_,_,_,_,_,_,sx⟩=>⟨_,SqT.of (sx _ _ ht),eL⟩) ?_ ?_
 ·rintro i x σ Hx Hx' hi ⟨es,S,v3,v4,v5,rfl,hxe,hxs,hel',hH,hSl,hE,sx⟩ ⟨q,x,hq,rfl,rfl,hx⟩
  have ex:=hx _ (SqT.of (sx _ _ ht))
  have ed:(Zt ds)[i]?=some (V.int (ds.getD i 0:Nat)):=by simp[Zt,Yn,hi]
  rw[ed]at ex
  cases ex
  have hdi:=hD i hi
  have hSi:=hH.len
  have hSlt:=hH.lt
  rw[<-hSl]at hdi
  generalize hdd:ds.getD i 0=d at hdi ed hx hq⊢
  have g:=(Ze.refl Hx).upd (o:=.tup [.int (i:Int),.int (d:Nat)]) hq
  have tq:(upd Hx q (.tup [.int (i:Int),.int (d:Nat)])) q=some (.tup [.int (i:Int),.int (d:Nat)]):=Zb
  replace sx:=sx.trans g
  replace hxe:=g _ _ hxe
  replace hxs:=g _ _ hxs
  generalize upd Hx q (.tup [.int (i:Int),.int (d:Nat)])=Hy at sx hxe hxs tq⊢
  clear g hx hq Hx
  refine⟨q,_,rfl,SqT.of tq,rfl,_,_,rfl,_,_,rfl,rfl,?_⟩
  clear tq
  obtain⟨A',B,hAB,hBl⟩:=Zmp S hdi
  refine Zao (fun σ Hx=>∃(v5:Option V),σ=[some (.ref t),some (.ref el),some (.ref sp),some (.int (i:Int)),some (.int (d:Nat)),v5]/\Hx el=some (.lst ((match B.head? with|some b=>es.set b i|none=>es).map V.int))/\Hx sp=some (.lst (Zt A'))/\Ze H Hx) (λR hR=>?_) ?_
  ·walk_at "rd"
   refine⟨by omega,by omega,?_⟩
   rw[Ys]
   refine Za5 (λj σ Hz=>∃(v5:Option V),σ=[some (.ref t),some (.ref el),some (.ref sp),some (.int (i:Int)),some (.int (d:Nat)),v5]/\Hz el=some (.lst ((if j=d then (match B.head? with|some b=>es.set b i|none=>es)else es).map V.int))/\Hz sp=some (.lst (Zt (A'++B.take (d-j))))/\Ze H Hz) ⟨_,rfl,?_,?_,sx⟩ ?_ ?_
   ·rw[hxe]
    congr 2
    split
    ·rename_i z
     have:B=[]:=List.length_eq_zero_iff.mp (by omega)
     rw[this];rfl
    ·rfl
   ·rw[hxs,hAB,Nat.sub_zero,<-hBl,List.take_length]
   ·clear hxe hxs sx v5 Hy
    rintro j σ Hy hj ⟨v5,rfl,hye,hys,sy⟩
    rw[Yb (by omega)]at hye
    have hlt:d-j-1<B.length:=by omega
    have etk:B.take (d-j)=B.take (d-j-1)++[B[d-j-1]]:=by
     have:=List.take_succ (l:=B) (i:=d-j-1)
     rw[show d-j-1+1=d-j by omega,Yi hlt]at this
     exact this
    have hyi:B[d-j-1]<i:=hSlt _ (by rw[hAB];exact Yl _ (YC hlt))
    have hhd:j=d-1->B.head?=some B[d-j-1]:=λz=>by
     rw[List.head?_eq_getElem?,Yi (show 0<B.length by omega)]
     congr 2;omega
    rw[etk,<-YT]at hys
    generalize B[d-j-1]=y at hys hyi hhd
    have hat:atI (Zt (A'++B.take (d-j-1)++[y])) (-1)=some (V.int (y:Nat)):=ZhU _ _
    walk_at "rd"
    refine⟨_,SqL.of hys,_,hat,_,_,rfl,SqL.of hye,_,Zay (show y<es.length by omega),by decide,λu hu=>?_⟩
    have g:=(Ze.refl Hy).upd (o:=.lst [V.int (nth es y),V.int (i:Int)]) hu
    refine⟨_,SqL.of Zb,V.int (if j=d-1 then (i:Int)else nth es y),?_,_,SqL.of (g _ _ hys),_,hat,_,_,rfl,g _ _ hye,y,by rw[Yf];exact Zdz (by omega),?_⟩
    ·by_cases z:j=d-1
     ·rw[Yd z,Yd (by omega)];rfl
     ·rw[Yb z,Yb (by omega)];rfl
    rw[<-List.map_set]
    have hys2:(upd (upd Hy u (.lst [V.int (nth es y),V.int (i:Int)])) el (.lst ((es.set y (if j=d-1 then (i:Int)else nth es y)).map V.int))) sp=some (.lst (Zt (A'++B.take (d-j-1)++[y]))):=by rw[Zg nes.symm];exact g _ _ hys
    refine⟨Zah hys2,_,hys2,V.int (y:Nat),by simp[Zt],?_,?_,((sy.trans g).upd zel).upd zsp⟩
    ·rw[Zg nes,Zb]
     congr 3
     by_cases z:j=d-1
     ·rw[Yd z,Yd (by omega),hhd z]
     ·rw[Yb z,Yb (by omega),Zj3]
    ·rw[Zb,show d-(j+1)=d-j-1 by omega]
     simp[Zt]
   ·rintro σ Hz ⟨v5,rfl,hze,hzs,sz⟩
    rw[Yd rfl]at hze
    rw[Nat.sub_self,List.take_zero,List.append_nil]at hzs
    exact hR _ _ ⟨v5,rfl,hze,hzs,sz⟩
  clear hxe hxs sx Hy
  rintro σ Hy ⟨v5,rfl,hye,hys,sy⟩
  walk_at "rd"
  have hbi:∀b,B.head?=some b->b≠i:=λb hb=>by
   have:=hSlt b (by rw[hAB];exact Yl _ (List.mem_of_head? hb));omega
  rw[hAB]at hH
  have hst:=hH.step hi hel' (hE i (Ye _) hi)
  have hAl:A'.length+d=S.length:=by rw[hAB,YM];omega
  have hno:(A'++[i]).length=Zap ds (i+1):=by
   show _=Zap ds i-ds.getD i 0+1
   rw[hdd,<-hSl];simp;omega
  have hEn:∀p,i+1<=p->p<ds.length->(Zde es A' B i).getD p 0=-1:=λp p1 p2=>by
   rw[Zhi _ _ _ _ _ (by omega) hbi,Yb (by omega),Yb (λz=>?_)]
   ·exact hE p (by omega) p2
   ·have:=hSlt p (by rw[hAB];exact Yl _ (List.mem_of_head? z));omega
  have esn:Zt A'++[V.int (i:Nat)]=Zt (A'++[i]):=by rw[Zcj];rfl
  refine⟨Yr _,λu hu=>?_⟩
  have g:=(Ze.refl Hy).upd (o:=.lst []) hu
  have e0:=Zsf (K:=K) (g _ _ hys) (Zb (H:=Hy) (a:=u) (o:=.lst []))
  replace hye:=g _ _ hye
  replace hys:=g _ _ hys
  replace sy:=sy.trans g
  generalize upd Hy u (.lst [])=Hz at hye hys sy e0⊢
  refine⟨_,e0,?_⟩
  rcases snoc_cases A' with rfl|⟨A1,a,rfl⟩
  ·rw[YB rfl]
   refine Z1 (λz=>nomatch z) λ_=>⟨Zah hys,_,hys,YF (show _<=1000 by simp[Zt]) (by decide),Zde es [] B i,?_,[]++[i],by rw[Zb,esn],by rw[ZhO];exact hel',hst,hno,hEn,sy.upd zsp⟩
   rw[Zg nes,hye];rfl
  ·rw[YS (by simp)]
   have hat:atI (Zt (A1++[a])) (-1)=some (V.int (a:Nat)):=ZhU _ _
   have hl2:(match B.head? with|some b=>es.set b i|none=>es).length=ds.length:=by split<;>simp[hel']
   have eE:(match B.head? with|some b=>es.set b (i:Int)|none=>es).set i (a:Int)=Zde es (A1++[a]) B i:=by unfold Zde;rw[show(A1++[a]).getLast?=some a by simp]<;>rfl
   refine Z1 (λ_=>⟨_,SqL.of hys,_,hat,_,hye,i,by rw[Yf,hl2];exact Zdz hi,?_⟩) λz=>absurd rfl z
   have em:((match B.head? with|some b=>es.set b (i:Int)|none=>es).map V.int).set i (V.int (a:Nat))=(Zde es (A1++[a]) B i).map V.int:=by rw[<-eE,List.map_set]
   rw[em]
   have hys2:(upd Hz el (.lst ((Zde es (A1++[a]) B i).map V.int))) sp=some (.lst (Zt (A1++[a]))):=by rw[Zg nes.symm];exact hys
   refine⟨Zah hys2,_,hys2,YF (show _<=1000 by rw[ZV];omega) (by decide),Zde es (A1++[a]) B i,by rw[Zg nes,Zb],A1++[a]++[i],by rw[Zb,esn],by rw[ZhO];exact hel',hst,hno,hEn,(sy.upd zel).upd zsp⟩
 ·rintro σ Hx ⟨es,S,v3,v4,v5,rfl,hxe,hxs,hel',hH,hSl,hE,sx⟩
  walk_at "rd"
  exact⟨_,.inl ⟨SqL.of hxe,λu hu=>k1 u es _ (sx.free hu) hel' (hH.tree hel') (sx.Z8 hu) Zb⟩⟩
theorem Zha {f:Addr}{fd:FuncData} (F:Fun K "_law_kin_row" "_law_kin_row" Zak f fd) (Zl:Callee P w K mg base "_law_pick" 1 ["pool","many"] (ZaQ K mg)) (Zek:Callee P w K mg base "_law_over" 1 ["tree","place"] (ZdF K mg)) (T:Txt K mg):FnOk P w K mg base (CXE P w) 2 f fd ["pool","tree"] (ZbX K mg):=by
 refine F.okX ZF (λvs H Q E h=>?_) (λcdv A outer s H vs Q E hr h=>?_)
 ·obtain⟨p,t,T,rfl,_⟩:=h;rfl
 obtain⟨p,t,T',rfl,hP,ht,hn,⟨ns,hT⟩,k1⟩:=h
 refine⟨_,(Zd (Zo (i:=2) ZF.nd rfl (Or.inl rfl) (Zs ZaW Zf (Zh Zl (hr.mono (by decide)) rfl Zz (Za (pv 0) (Za Zf Zc)))))
   (Zd (Zo (i:=3) ZF.nd rfl (Or.inl rfl) (Zs Zbj (Zs Zcp (Zh Zl (hr.mono (by decide)) rfl Zz (Za (pv 0) (Za Zf Zc))) Zf) (Zw Zaa (Zbu (Za Zf (Za Zf (Za (Zs Zfg Zf Zf) Zc)))) (Zh Zl (hr.mono (by decide)) rfl Zz (Za (pv 0) (Za Zf Zc))) (λ_ _=>rfl))))
   (Zd (Zo (i:=4) ZF.nd rfl (Or.inl rfl) (Zs Zl7 (Z9 (Za (pv 3) Zc)) (Zk (Zn (K:=K) rfl) rfl T.b_len YE (Za (pv 1) Zc))))
   (Zd (Zo (i:=5) ZF.nd rfl (Or.inl rfl) (Z9 Zc))
   (Zd (Zag (ZaE PassesOwn.never rfl (ZS rfl T.b_range (Za (Zk (Zn (K:=K) rfl) rfl T.b_len YE (Za (pv 1) Zc)) Zc)) (Zm (i:=6) ZF.nd rfl (Or.inl rfl)) (Zi (ZaL (Ze1 PySem.F.plainAttrs_list PySem.F.slot_list_append PySem.F.type_list_append Zaq (pv 5) (Za (Zbu (Za (Zk (Zn (K:=K) rfl) rfl T.b_len YE (Za (Zh Zek (hr.mono (by decide)) rfl Zz (Za (pv 1) (Za (pv 6) Zc))) Zc)) (Za (pv 6) Zc))) Zc))))))
   (Zd (Zag (ZaE PassesOwn.never rfl (Zbh (Zk (Zj1 (K:=K) rfl) rfl T.b_sorted ZeU (Za (pv 5) Zc))) (Zfe (n:=2) rfl (ZN (Zm (i:=7) ZF.nd rfl (Or.inl rfl)) (ZN (Zm (i:=6) ZF.nd rfl (Or.inl rfl)) Zb7))) (Zd (Zo (i:=8) ZF.nd rfl (Or.inl rfl) (Zw Zaa (pv 1) (pv 6) (λ_ _=>rfl)))
   (Zi (ZaA (Zu Znb (pv 8) Zf (Zx _)) (Zd (Zo (i:=9) ZF.nd rfl (Or.inl rfl) (Zs ZaW (Zw Zv (pv 4) (pv 8) (λ_ _=>rfl)) (ZT ZeR rfl T.b_int ZjU (Za (Zad Zhz (pv 6) (pv 8) (Zx _)) Zc))))
   (Zi (Zco (Zs ZaW (pv 9) (Zh Zl (hr.mono (by decide)) rfl Zz (Za (pv 0) (Za (pv 2) Zc)))) (Zdu (pv 4) (pv 6) set_list (λ_=>rfl))))) ZK)))))
   (Zi (ZE (ZT (Za6 (K:=K) rfl) rfl T.b_tuple Zbk (Za (pv 4) Zc)))))))))),?_⟩
 have eT:T'.length=ns.length:=hT.1
 have eL:(T'.map V.int).length=T'.length:=Yf ..
 have ntp:t≠p:=λz=>by
  obtain⟨x,y,e,_⟩:=hP
  rw[z,e]at ht;cases ht
 refine Zao (fun σ Hx=>∃rise:Int,σ=[some (.ref p),some (.ref t),some (.int rise),none,none,none,none,none,none,none]/\1<=rise/\rise<=3/\Zr Hx p/\Exc p H Hx) (λR hR=>?_) ?_
 ·walk_at "rd"
  exact⟨p,_,rfl,by decide,by decide,hP,λd H1 d0 d1 P1 e1=>⟨d,rfl,hR _ _ ⟨_,rfl,by omega,by omega,P1,e1⟩⟩⟩
 rintro σ H1 ⟨rise,rfl,hr1,hr3,P1,e1⟩
 refine Zao (fun σ Hx=>∃begin:Int,σ=[some (.ref p),some (.ref t),some (.int rise),some (.int begin),none,none,none,none,none,none]/\Zr Hx p/\Exc p H Hx) (λR hR=>?_) ?_
 ·walk_at "rd"
  refine⟨p,_,rfl,by decide,by decide,P1,λd H2 d0 d1 P2 e2=>⟨d,rfl,cp58,by decide,λq hq=>⟨p,_,rfl,by decide,by decide,P2.upd hq,λu H3 u0 u1 P3 e3=>?_⟩⟩⟩
  have hq3:=e3 _ _ (P2.ne hq) Zb
  obtain⟨v,hv,z,rfl⟩:=ZjW (xs:=[V.int 1,V.int 1,V.int (10 ^ Int.toNat 58)]) (i:=u) (λv=>∃n:Int,v=V.int n) u0 u1 (by
   intro x hx
   simp only[Ym,List.not_mem_nil,or_false]at hx
   rcases hx with rfl|rfl|rfl<;>exact⟨_,rfl⟩)
  exact⟨_,u,rfl,SqT.of hq3,_,hv,z,rfl,ZhG (by omega) (by omega),hR _ _ ⟨_,rfl,P3,((e1.trans e2).same ((Ze.refl H2).upd hq)).trans e3⟩⟩
 clear P1 e1 H1
 rintro σ H1 ⟨begin,rfl,P1,e1⟩
 refine Zao (fun σ Hx=>∃fo:Addr,σ=[some (.ref p),some (.ref t),some (.int rise),some (.int begin),some (.ref fo),none,none,none,none,none]/\fo≠p/\H fo=none/\Hx fo=some (.lst ((List.replicate T'.length begin).map V.int))/\Zr Hx p/\Exc p H Hx) (λR hR=>?_) ?_
 ·walk_at "rd"
  have ht1:=e1 _ _ ntp ht
  refine⟨by decide,λq hq=>⟨_,.inr (SqT.of (((Ze.refl H1).upd hq) _ _ ht1)),_,Zb,by omega,by rw[eL];omega,?_,λfo hfo=>?_⟩⟩
  ·exact Yo (show _<=1000 by simp;omega) (by decide)
  have e2:=e1.same ((Ze.refl H1).upd (o:=.lst [V.int begin]) hq)
  refine hR _ _ ⟨fo,rfl,(P1.upd hq).ne hfo,e2.free ((P1.upd hq).ne hfo) hfo,?_,(P1.upd hq).upd hfo,e2.same ((Ze.refl _).upd hfo)⟩
  rw[Zb,eL];simp
 clear P1 e1 H1
 rintro σ H1 ⟨fo,rfl,nfp,zf,hfo,P1,e1⟩
 refine Zao (fun σ Hx=>∃(ra:Addr),σ=[some (.ref p),some (.ref t),some (.int rise),some (.int begin),some (.ref fo),some (.ref ra),none,none,none,none]/\ra≠p/\ra≠fo/\H ra=none/\ZA Hx ra []/\Hx fo=some (.lst ((List.replicate T'.length begin).map V.int))/\Zr Hx p/\Exc p H Hx) (λR hR=>?_) ?_
 ·walk_at "rd"
  exact⟨Yr _,λra hra=>hR _ _ ⟨ra,rfl,P1.ne hra,(λz=>by rw[z,hfo]at hra;cases hra),e1.free (P1.ne hra) hra,ZA.nil Zb,((Ze.refl H1).upd hra) _ _ hfo,P1.upd hra,e1.same ((Ze.refl H1).upd hra)⟩⟩
 clear P1 e1 hfo H1
 rintro σ H1 ⟨ra,rfl,nrp,nrf,zra,hra,hfo,P1,e1⟩
 refine Zao (fun σ Hx=>∃(v6:Option V),σ=[some (.ref p),some (.ref t),some (.int rise),some (.int begin),some (.ref fo),some (.ref ra),v6,none,none,none]/\ZA Hx ra ((List.range T'.length).map (Zdj T'))/\Hx fo=some (.lst ((List.replicate T'.length begin).map V.int))/\Zr Hx p/\Exc p H Hx) (λR hR=>?_) ?_
 ·walk_at "rd"
  refine⟨_,.inr (SqT.of (e1 _ _ ntp ht)),by omega,by rw[eL];omega,?_⟩
  rw[eL,Ys]
  refine Za5 (λi σ Hx=>∃(v6:Option V),σ=[some (.ref p),some (.ref t),some (.int rise),some (.int begin),some (.ref fo),some (.ref ra),v6,none,none,none]/\ZA Hx ra ((List.range i).map (Zdj T'))/\Hx fo=some (.lst ((List.replicate T'.length begin).map V.int))/\Zr Hx p/\Exc p H Hx) ⟨none,rfl,hra,hfo,P1,e1⟩ ?_ ?_
  ·rintro i σ Hx hi ⟨v6,rfl,hxr,hxf,Px,ex⟩
   have ei:((0:Int)+(i:Int))=(i:Int):=by omega
   rw[ei]
   walk_at "rd"
   obtain⟨as,t1,t2,t3⟩:=id hxr
   refine⟨Zah t1,t,T',i,rfl,ex _ _ ntp ht,by omega,by omega,λg w H2 hw s2 h2=>?_,λg=>absurd ⟨ns,hT⟩ g⟩
   have ew:((Zbg T' i).map V.int).length=(way T' i).length:=by rw[Yf,ZbP,Yf]
   refine⟨w,rfl,_,.inl (SqL.of h2),by decide,λq1 hq1=>?_⟩
   rw[ew]
   have g1:=s2.Z8 (o:=.tup [V.int ((way T' i).length:Nat),V.int (i:Int)]) hq1
   have lr:((List.range i).map (Zdj T')).length=i:=by simp
   refine⟨_,g1 _ _ t1,YF (show _<=2000 by rw[Yf];omega) (by decide),?_,?_,(Px.same g1).ZjZ nrp,(ex.same g1).ZjZ zra⟩
   ·rw[YY,YI]
    exact ZA.push (r:=Zdj T' i) (g1 _ _ t1) t2 (λj j1 j2=>g1 _ _ (t3 j j1 j2)) Zb
   ·rw[Zg nrf.symm];exact g1 _ _ hxf
  ·rintro σ Hx ⟨v6,rfl,hxr,hxf,Px,ex⟩
   exact hR _ _ ⟨v6,rfl,hxr,hxf,Px,ex⟩
 clear P1 e1 hfo hra H1
 rintro σ H1 ⟨v6,rfl,hra,hfo,P1,e1⟩
 walk_at "rd"
 refine⟨_,hra,?_,by simp;omega,λrs' l H2 hperm hpw zl s2 hl=>?_⟩
 ·intro r hr'
  obtain⟨q,hq,rfl⟩:=Yu.mp hr'
  have:=Yw.mp hq
  exact⟨_,_,rfl,by omega,by omega⟩
 obtain⟨os,ho,rfl,hos⟩:=Zmq (by omega) hperm hpw
 have nlp:l≠p:=P1.ne zl
 have nlf:l≠fo:=λz=>by rw[z,hfo]at zl;cases zl
 have lo:os.length=T'.length:=by simpa using ho.length_eq
 have hlt:∀i,i<os.length->os.getD i 0<T'.length:=λi hi=>by
  rw[show os.getD i 0=os[i] by simp[hi]]
  exact Yw.mp (ho.mem_iff.mp (YC hi))
 have lm:(os.map (Zdj T')).length=T'.length:=by rw[Yf,lo]
 refine⟨hl.sq,?_⟩
 refine Zgi (n:=T'.length) (λj σ Hx=>∃(fs:List Int) (v6 v7 v8 v9:Option V),σ=[some (.ref p),some (.ref t),some (.int rise),some (.int begin),some (.ref fo),some (.ref ra),v6,v7,v8,v9]/\fs.length=T'.length/\Hx fo=some (.lst (fs.map V.int))/\ZA Hx l (os.map (Zdj T'))/\(∀i,i<j->∀q:Nat,nth T' (os.getD i 0)=q->nth fs q+(if os.getD i 0<q then 1 else 0)<=nth fs (os.getD i 0))/\Zr Hx p/\Exc p H Hx) ⟨_,v6,none,none,none,rfl,List.length_replicate ..,s2 _ _ hfo,hl,(λi hi=>by omega),P1.same s2,e1.same s2⟩ (λj σ Hx hj ⟨_,_,_,_,_,_,_,_,hx,_⟩=>(hx.walk (K:=K)).1 j Hx (Ze.refl _) (by rw[lm];exact hj)) (fun σ Hx ⟨_,_,_,_,_,_,_,_,hx,_⟩=>lm▸(hx.walk (K:=K)).2.1 Hx (Ze.refl _)) ?_ ?_
 ·rintro j x σ Hx Hx' hj ⟨fs,v6,v7,v8,v9,rfl,hfl,hxf,hxl,hF,Px,ex⟩ y
  obtain⟨rfl,a,rfl,ha⟩:=(hxl.walk (K:=K)).2.2 j x Hx Hx' (by rw[lm];exact hj) (Ze.refl _) y
  have ej:(os.map (Zdj T'))[j]'(by rw[lm];exact hj)=Zdj T' (os.getD j 0):=by
   rw[List.getElem_map];congr 1;simp[show j<os.length by omega]
  rw[ej]at ha
  have hq0:=hlt j (by omega)
  have hF2:∀i,i<j->os.getD i 0≠os.getD j 0/\(way T' (os.getD i 0)).length<=(way T' (os.getD j 0)).length:=λi hi=>hos i j hi (by omega)
  have hl2:∀i,i<j->os.getD i 0<T'.length:=λi hi=>hlt i (by omega)
  generalize hj0:os.getD j 0=q0 at ha hq0 hF2
  refine⟨a,_,rfl,SqT.of ha,rfl,_,_,rfl,_,_,rfl,rfl,?_⟩
  have htx:=ex _ _ ntp ht
  walk_at "rd"
  refine⟨_,SqT.of htx,_,Zay hq0,_,rfl,?_⟩
  rcases ZG hT (show q0<ns.length by omega)with z|⟨e,z,he,hO,_⟩
  ·rw[z]
   refine Z1 (λy=>absurd y (by omega)) λ_=>⟨fs,hfl,hxf,hxl,λi hi q e=>?_,Px,ex⟩
   by_cases ei:i=j
   ·rw[ei,hj0,z]at e;omega
   ·exact hF i (by omega) q e
  ·rw[z]
   have neq:e≠q0:=hO.ne
   refine Z1 (λ_=>⟨_,_,rfl,SqL.of hxf,_,Zay (show e<fs.length by omega),_,rfl,_,rfl,p,rise,rfl,by omega,by omega,Px,λu H4 u0 u1 P4 e4=>⟨_,rfl,_,e4 _ _ nfp hxf,q0,?_,?_⟩⟩) λy=>absurd (by omega) y
   ·rw[Yf];exact Zdz (by omega)
   rw[<-List.map_set]
   have hx4:=e4 _ _ nfp hxf
   refine⟨fs.set q0 (nth fs e+(if (q0:Int)<(e:Int)then 1 else 0)+u),by simp[hfl],Zb,(hxl.exc e4 Px nlp).updL hx4 nlf,λi hi q eq=>?_,P4.ZjZ nfp,(ex.trans e4).ZjZ zf⟩
   have setn:∀r,r<fs.length->nth (fs.set q0 (nth fs e+(if (q0:Int)<(e:Int)then 1 else 0)+u)) r=if q0=r then nth fs e+(if (q0:Int)<(e:Int)then 1 else 0)+u else nth fs r:=λr hr'=>Zed _ _ _ _ hr'
   by_cases ei:i=j
   ·rw[ei,hj0,z]at eq
    have:q=e:=by omega
    subst this
    rw[ei,hj0,setn q (by omega),setn q0 (by omega),Yb neq.symm,Yd rfl]
    by_cases y:q0<q
    ·rw[Yd y,Yd (by omega)];omega
    ·rw[Yb y,Yb (by omega)];omega
   ·have hij:i<j:=by omega
    obtain⟨n1,n2⟩:=hF2 i hij
    have hli:=hl2 i hij
    have old:=hF i hij q eq
    generalize os.getD i 0=p0 at *
    rcases ZG hT (show p0<ns.length by omega)with z'|⟨e',z',he',_⟩
    ·rw[z']at eq;omega
    have:q=e':=by rw[z']at eq;omega
    subst this
    have hw:=Zcs hT (show p0<ns.length by omega) z'
    rw[hw,YR]at n2
    have nq:q0≠q:=λy=>by subst y;omega
    rw[setn q (by omega),setn p0 (by omega),Yb nq,Yb (show ¬ q0=p0 from λy=>n1 y.symm)]
    exact old
 ·rintro σ Hx ⟨fs,v6,v7,v8,v9,rfl,hfl,hxf,hxl,hF,Px,ex⟩
  walk_at "rd"
  refine⟨_,.inl ⟨SqL.of hxf,λu hu=>k1 u fs _ (ex.free (Px.ne hu) hu) (Zqg hT hfl λp q hp e=>?_) Zb (Px.upd hu) (ex.same ((Ze.refl Hx).upd hu))⟩⟩
  obtain⟨i,hi,e2⟩:=YZ (ho.mem_iff.mpr (Yw.mpr hp))
  have e3:os.getD i 0=p:=by simp[hi,e2]
  have:=hF i (by omega) q (by rw[e3];exact e)
  rwa [e3]at this
theorem ZaK {ns:List Int}{i:Nat} (h:i<ns.length):(ns.map V.int)[i]?=some (V.int (nth ns i)):=by
 unfold nth
 rw[YL,Yi h,Yn,Yi h];rfl
theorem Zhn (F ns:List Int):(hgt F ns).length=F.length:=by unfold hgt;simp
theorem ZH {F ns:List Int}{i:Nat} (h:i<F.length):nth (hgt F ns) i=nth ns i-nth F i:=by
 show List.getD ((List.range F.length).map λi=>nth ns i-nth F i) i 0=_
 rw[Yn,YL,Jf h];rfl
theorem Zi2 {f:Addr}{fd:FuncData} (F:Fun K "heights_of" "heights_of" ZaO f fd) (T:Txt K mg):FnOk P w K mg base (CXE P w) 1 f fd ["flat","row"] (ZaX K mg):=by
 refine F.okX Zi0 (λvs H Q E h=>?_) (λcdv A outer s H vs Q E hr h=>?_)
 ·obtain⟨f,r,F,ns,rfl,_⟩:=h;rfl
 obtain⟨f,r,Fl,ns,rfl,hf,hr1,hF,hn,k1,k2⟩:=h
 refine⟨_,(Zd (ZaA (Zu op_ne (Zk (Zn (K:=K) rfl) rfl T.b_len YE (Za (pv 1) Zc)) (Zk (Zn (K:=K) rfl) rfl T.b_len YE (Za (pv 0) Zc)) (Zx _)) (Zi (ZkO rfl rfl T.c_Unlike T.x_Unlike (Za (Zjh (ZfJ (by decide) (Zl9 (Zk (Zn (K:=K) rfl) rfl T.b_len YE (Za (pv 1) Zc)) (ZfJ (by decide) (Zl9 (Zk (Zn (K:=K) rfl) rfl T.b_len YE (Za (pv 0) Zc)) (ZfJ (by decide) ZpV)))))) Zc) Znj)) ZK)
   (Zi (ZE (Zb8 ["number","least"] [none,none] rfl rfl rfl (Zkc (K:=K) rfl rfl T.b_zip (Za (pv 1) (Za (pv 0) Zc))) (λ_ _ _ _ _=>(ZjV (K:=K) (n:=2) rfl rfl (ZN (Zm (i:=0) (show(["number","least"]:List Str).Nodup from by decide +kernel) rfl (Or.inl rfl)) (ZN (Zm (i:=1) (show(["number","least"]:List Str).Nodup from by decide +kernel) rfl (Or.inl rfl)) Zb7)))) (λ_ _ _ _ _=>Zaf) (λ_ _ _ _ _=>(Zs Zcp (pv 0) (pv 1))) (ZhD (Zci ZC (Zci ZC ZhC))))))),?_⟩
 walk_at "rd"
 have ef:(Fl.map V.int).length=Fl.length:=Yf ..
 have en:(ns.map V.int).length=ns.length:=Yf ..
 refine⟨_,hr1,_,.inr (SqT.of hf),Z1 (λc=>?_) (λc=>?_)⟩
 ·exact⟨_,hr1,by omega,Int.lt_trans (show _<(2000:Int) by omega) (by decide),_,.inr (SqT.of hf),by omega,Int.lt_trans (show _<(2000:Int) by omega) (by decide),λy=>⟨by decide,k2 (λz=>c (by omega)) H (Ze.refl H)⟩⟩
 have e:ns.length=Fl.length:=by
  have:=Decidable.not_not.mp c
  omega
 obtain⟨tg,hB⟩:=SqB.of hr1
 obtain⟨tu,hB2⟩:=SqB.of (K:=K) (H:=H) (a:=f) (xs:=Fl.map V.int) (.inr (SqT.of hf))
 refine⟨tg,tu,_,hB,_,hB2,?_⟩
 refine comp_map (n:=Fl.length) (λi=>V.int (nth ns i-nth Fl i)) (YF hF (by decide)) (λi Hx s hi=>⟨_,_,_,_,s.Zd7 hB,s.Zd7 hB2,ZaK (by omega),ZaK hi⟩) (λHx s=>⟨_,_,s.Zd7 hB,s.Zd7 hB2,.inl (by omega)⟩) ?_ ?_
 ·rintro i x Hx Hy hi s ⟨q,x,y,hq,rfl,rfl,hx,hy⟩
  have ex:=hx _ (s.Zd7 hB)
  have ey:=hy _ (s.Zd7 hB2)
  rw[ZaK (by omega)]at ex
  rw[ZaK hi]at ey
  cases ex;cases ey
  walk_at "rd"
  exact⟨_,SqT.of Zb,rfl,_,_,rfl,_,_,rfl,rfl,_,rfl,_,rfl,CW.next hi rfl (s.Z8 hq)⟩
 ·intro l Hx s hl
  have:=k1 e l (upd Hx l (.lst ((hgt Fl ns).map V.int))) (s.free hl) (s.Z8 hl) Zb
  unfold hgt at this
  rw[YW]at this
  exact this
theorem Zlp {T:List Int}{p:Nat}{a:Int} (h:a∈Zbg T p):0<=a/\a<T.length:=by
 have key:∀k x,∀o∈Zab T k x,o<T.length:=by
  intro k
  induction k with
  |zero=>intro x o ho;cases ho
  |succ k ih =>
   intro x o ho
   rw[Zab]at ho
   split at ho
   ·rcases Ym.mp ho with z|z
    ·omega
    ·exact ih _ o z
   ·cases ho
 obtain⟨o,ho,rfl⟩:=Yu.mp h
 have:=key _ _ o ho
 omega
theorem Zlq {T:List Int}{p:Nat}:(Zbg T p).length<=T.length:=by
 unfold Zbg
 rw[Yf]
 exact Zcr _ _ _
noncomputable def Zei (T hs:List Int) (b:Nat):List (List Int):=((Zbg T b).filter λa=>decide (nth hs b<nth hs a.toNat)).map λa=>[a,(b:Int)]
noncomputable def ZcV (T hs:List Int) (i j:Nat):List (List Int):=(List.range i).flatMap (Zei T hs)++(((Zbg T i).take j).filter λa=>decide (nth hs i<nth hs a.toNat)).map λa=>[a,(i:Int)]
theorem pairs_len (T hs:List Int):∀i,((List.range i).flatMap (Zei T hs)).length<=i*T.length
 |0=>by simp
 |i+1=>by
  have:=pairs_len T hs i
  have h2:(Zei T hs i).length<=T.length:=by
   unfold Zei
   rw[Yf]
   exact Yo (Y4 _ _) Zlq
  rw[YY,List.flatMap_append,YM,Nat.add_mul]
  simp only[List.flatMap_cons,List.flatMap_nil,List.append_nil,Nat.one_mul]
  omega
theorem ZoJ {T hs r:List Int}{i:Nat} (h:r∈(List.range i).flatMap (Zei T hs)):∃(a:Int) (b:Nat),r=[a,(b:Int)]/\b<i/\a∈Zbg T b/\nth hs b<nth hs a.toNat:=by
 obtain⟨b,hb,hr⟩:=List.mem_flatMap.mp h
 obtain⟨a,ha,rfl⟩:=Yu.mp hr
 have:=YJ.mp ha
 exact⟨a,b,rfl,Yw.mp hb,this.1,by simpa using this.2⟩
theorem Zic {T hs:List Int}{i j:Nat} (hj:j<(Zbg T i).length):ZcV T hs i (j+1)=if nth hs i<nth hs (Zbg T i)[j].toNat then ZcV T hs i j++[[(Zbg T i)[j],(i:Int)]]else ZcV T hs i j:=by
 unfold ZcV
 rw[Y5,Yi hj,List.filter_append,YI]
 by_cases c:nth hs i<nth hs (Zbg T i)[j].toNat
 ·rw[Yd c];simp[c]
 ·rw[Yb c];simp[c]
theorem ZoK {T hs:List Int}{i:Nat}:ZcV T hs i (Zbg T i).length=(List.range (i+1)).flatMap (Zei T hs):=by
 unfold ZcV
 rw[List.take_length,YY,List.flatMap_append]
 simp[Zei]
theorem ZmQ {T hs:List Int}{i j:Nat}:(ZcV T hs i j).length<=(i+1)*T.length:=by
 unfold ZcV
 have:=pairs_len T hs i
 rw[YM,Yf,Nat.add_mul,Nat.one_mul]
 have h3:((((Zbg T i).take j).filter λa=>decide (nth hs i<nth hs a.toNat))).length<=T.length:=Yo (Y4 _ _) (Yo (by rw[Y1];exact Nat.min_le_right _ _) Zlq)
 omega
theorem ZnJ {i n:Nat} (h1:i<=41) (h2:n<=40):i*n<=2000:=Yo (Nat.mul_le_mul h1 h2) (by decide)
noncomputable def Zlr (p t:Addr) (n:Nat) (way:Int) (H0:Hp) (σ:L2.St) (Hx:Hp):Prop:=∃(r:Addr) (ns:List Int) (v5 v6 v7:Option V),σ=[some (.ref p),some (.ref t),some (.int (n:Int)),some (.ref r),some (.int way),v5,v6,v7]/\H0 r=none/\ns.length=n/\Hx r=some (.lst (ns.map V.int))/\Zr Hx p/\Exc p H0 Hx
theorem Zgu {p:Addr}{n:Nat}{te:TE}{σ0:L2.St}{Q:VK}{H1:Hp} (hP:Zr H1 p) (hn:n<=1000)
  (hb:∀(j:Nat) (Hz:Hp) (R:VK),j<n->Zr Hz p->(∀(z:Int) H4,Zr H4 p->Exc p Hz H4->R (V.int z) H4)->te (σ0.set 0 (some (V.int (0+(j:Int))))) Hz R)
  (hk:∀(l:Addr) (bs:List Int) (Hz:Hp),bs.length=n->Zr Hz p->Exc p H1 Hz->Hz l=none->Q (.ref l) (upd Hz l (.lst (bs.map V.int)))):ZgK (Itr 0 n) (ZcF 0) Zn2 te σ0 Q H1:=by
 refine ZfL (n:=n) (λj acc Hz=>∃bs:List Int,acc=bs.map V.int/\bs.length=j/\Zr Hz p/\Exc p H1 Hz) (YF hn (by decide)) ⟨[],rfl,rfl,hP,(Ze.refl H1).ZpW⟩ (λj acc Hz _ hj=>hj) (λacc Hz _=>Ye _) ?_ ?_
 ·rintro j x acc Hz Hw hj hla ⟨bs,rfl,hbs,Pz,ez⟩ ⟨rfl,rfl⟩
  refine hb j Hw _ hj Pz λz H4 P4 e4=>?_
  exact CA.take hj hla ⟨bs++[z],by simp,by simp[hbs],P4,ez.trans e4⟩
 ·rintro l acc Hz ⟨bs,rfl,hbs,Pz,ez⟩ _ zl
  exact hk l bs Hz hbs Pz ez zl
theorem cp57':ZjG 10 57:=by unfold ZjG;decide
theorem Zgv {T hs:List Int}{rs:List (List Int)} (hn:T.length<=40) (h:ZfV rs (ZQ T hs)):rs.length<=2000:=by
 have e1:=h.1.length_eq
 have e2:(ZQ T hs).length<=T.length*T.length:=pairs_len T hs T.length
 have:=ZnJ (i:=T.length) (by omega) hn
 omega
theorem Zgw {qs:List Int}{i:Nat}{x y:Int} (h:qs[i]?=some y):x∈qs.take (i+1)↔x∈qs.take i\/x=y:=by
 rw[Y5,h];simp
theorem Zjw {ns T:List Int} (hT:Zq ns T) {p q:Nat} (hp:p<ns.length) (h:nth T p=q):dpI T (p:Int)=dpI T (q:Int)+1:=by
 unfold dpI
 simp only[Ys,ZbP,Yf]
 rw[Zcs hT hp h,YR];omega
theorem ZgR {ns T qs:List Int} (hT:Zq ns T) (hpm:qs.Perm (nats (T.length:Int))) (hpw:qs.Pairwise λx y=>dpI T x<=dpI T y) {p q i:Nat} (hp:p<T.length) (hq:q<T.length) (h:nth T p=q):(qs[i]?=some (p:Int)->(q:Int)∈qs.take i)/\((p:Int)∈qs.take i->(q:Int)∈qs.take i):=by
 have eT:=hT.1
 have dp:=Zjw hT (p:=p) (by omega) h
 have mq:(q:Int)∈qs:=hpm.mem_iff.mpr (Yu.mpr ⟨q,Yw.mpr (by omega),rfl⟩)
 obtain⟨m,hm,em⟩:=YZ mq
 have key:∀k,qs[k]?=some (p:Int)->m<k:=λk e=>by
  obtain⟨hk,ek⟩:=Yx.mp e
  refine Nat.lt_of_not_le λz=>?_
  rcases Nat.lt_or_eq_of_le z with z|z
  ·have:=List.pairwise_iff_getElem.mp hpw k m hk hm z
   rw[ek,em]at this;omega
  ·subst z
   rw[ek]at em
   rw[em]at dp;omega
 constructor
 ·intro e
  have:=key i e
  rw[List.mem_take_iff_getElem]
  exact⟨m,by omega,em⟩
 ·intro e
  obtain⟨k,hk,ek⟩:=List.mem_take_iff_getElem.mp e
  have:=key k (Yx.mpr ⟨by omega,ek⟩)
  rw[List.mem_take_iff_getElem]
  exact⟨m,by omega,em⟩
theorem ZbD (n:Int):(nats n).Nodup:=by
 unfold nats
 exact List.Pairwise.map _ (λa b (h:a≠b)=>λ(e:(a:Int)=(b:Int))=>h (by omega)) List.nodup_range
theorem Zam {T hs:List Int}{r:List Int} (h:r∈ZQ T hs):∃a b:Nat,r=[(a:Int),(b:Int)]/\a<T.length/\b<T.length/\(a:Int)∈Zbg T b/\nth hs b<nth hs a:=by
 unfold ZQ at h
 obtain⟨b,hb,h⟩:=List.mem_flatMap.mp h
 obtain⟨a,ha,rfl⟩:=Yu.mp h
 obtain⟨h1,h2⟩:=YJ.mp ha
 obtain⟨z1,z2⟩:=Zlp h1
 obtain⟨a,rfl⟩:=Y2 z1
 exact⟨a,b,rfl,by omega,Yw.mp hb,h1,by simpa using h2⟩
theorem ZmR {rs:List (List Int)}{i p:Nat}{r:List Int} (h:rs[i]?=some r):lowAt (rs.take (i+1)) p=if r.getD 0 0=(p:Int)then lowAt (rs.take i) p++[r.getD 1 0]else lowAt (rs.take i) p:=by
 unfold lowAt
 rw[Y5,h,List.filter_append,YI]
 by_cases c:r.getD 0 0=(p:Int)
 ·rw[Yd c,show(some r).toList.filter (λr=>decide (r.getD 0 0=(p:Int)))=[r]from List.filter_cons_of_pos (YB c)];rfl
 ·rw[Yb c,show(some r).toList.filter (λr=>decide (r.getD 0 0=(p:Int)))=[]from List.filter_cons_of_neg (by simpa using c)];exact List.append_nil _
theorem Zjx {rs:List (List Int)}{p:Nat}:(lowAt rs p).length<=rs.length:=by
 unfold lowAt
 rw[Yf];exact Y4 _ _
theorem Zid {a b:Int} (h:ZJ a=ZJ b):a=b:=by unfold ZJ at h;cases h;rfl
theorem valC {α:Type}{f:α->Int}{g:α->V}{b:Int}:∀{cs:List α},ZcT (cs.map λc=>(ZJ (f c),g c)) (ZJ b)=(cs.find? λc=>decide (f c=b)).map g
 |[]=>rfl
 |c::cs=>by
  by_cases e:f c=b
  ·rw[YH,ZfQ (by rw[e]),List.find?_cons_of_pos (by simpa using e)];rfl
  ·rw[YH,ZfR (λz=>e (Zid z)),List.find?_cons_of_neg (by simpa using e)];exact valC
theorem valA {β:Type}{A:Int->Addr}{b:Int}{cs:List (Int×β)}:ZcT (cs.map λc=>(ZJ c.1,V.ref (A c.1))) (ZJ b)=if (cs.any λc=>decide (c.1=b))=true then some (V.ref (A b))else none:=by
 rw[valC (f:=λc:Int×β=>c.1) (g:=λc=>V.ref (A c.1))]
 cases e:cs.find? λc=>decide (c.1=b)with
 |none =>
  rw[Yb (λz=>?_)];rfl
  obtain⟨c,hc,h⟩:=List.any_eq_true.mp z
  exact absurd h (by simpa using List.find?_eq_none.mp e c hc)
 |some c =>
  have h1:=List.find?_some e
  have h2:=List.mem_of_find?_eq_some e
  rw[Yd (List.any_eq_true.mpr ⟨c,h2,h1⟩)]
  have:c.1=b:=by simpa using h1
  rw[<-this];rfl
theorem ChRun.keys {hs:List Int}{rs:List (List Int)}{ps:List Int}{cs:List (Int×List Int)}{fo:List (Int×Option Int)} (h:ChRun hs rs ps cs fo):∀x∈cs,x.1∈ps:=by
 induction h with
 |nil=>intro x h;simp at h
 |new _ _ ih =>
  intro x hx
  rcases Yq.mp hx with z|z
  ·exact YA _ (ih x z)
  ·exact Yl _ (by simp at z;simp[z])
 |on _ _ _ _ ih =>
  intro x hx
  rcases Yq.mp hx with z|z
  ·exact YA _ (ih x (YJ.mp z).1)
  ·exact Yl _ (by simp at z;simp[z])
theorem ChRun.fol {hs:List Int}{rs:List (List Int)}{ps:List Int}{cs:List (Int×List Int)}{fo:List (Int×Option Int)} (h:ChRun hs rs ps cs fo):fo.map (·.1)=ps:=by
 induction h with
 |nil=>rfl
 |new _ _ ih=>simp[ih]
 |on _ _ _ _ ih=>simp[ih]
theorem ChRun.len {hs:List Int}{rs:List (List Int)}{ps:List Int}{cs:List (Int×List Int)}{fo:List (Int×Option Int)} (h:ChRun hs rs ps cs fo):cs.length<=ps.length:=by
 induction h with
 |nil=>exact Ye _
 |new _ _ ih=>simp;omega
 |@on ps cs fo p b ch _ _ _ _ ih =>
  have:=Y4 (λc:Int×List Int=>decide (c.1≠b)) cs
  simp only[YM,YR,List.length_nil];omega
theorem ChRun.chl {hs:List Int}{rs:List (List Int)}{ps:List Int}{cs:List (Int×List Int)}{fo:List (Int×Option Int)} (h:ChRun hs rs ps cs fo):∀x∈cs,x.2.length<=ps.length:=by
 induction h with
 |nil=>intro x h;simp at h
 |new _ _ ih =>
  intro x hx
  rcases Yq.mp hx with z|z
  ·have:=ih x z;simp;omega
  ·simp at z;simp[z]
 |on _ _ hm _ ih =>
  intro x hx
  rcases Yq.mp hx with z|z
  ·have:=ih x (YJ.mp z).1;simp;omega
  ·have:=ih _ hm
   simp at z;simp[z];omega
theorem dropA {β:Type}{g:Int×β->V}{b:Int}{cs:List (Int×β)}:ZhV (cs.map λc=>(ZJ c.1,g c)) (ZJ b)=(cs.filter λc=>decide (c.1≠b)).map λc=>(ZJ c.1,g c):=by
 unfold ZhV
 rw[List.filter_map]
 congr 1
 apply List.filter_congr
 intro c _
 exact decide_eq_decide.mpr ⟨λz y=>z (by show ZJ c.1=ZJ b;rw[y]),λz y=>z (Zid y)⟩
theorem Zie {H Hy:Hp}{d1 d2 v:Addr}{hs ps ch:List Int}{rs:List (List Int)}{cs:List (Int×List Int)}{fo:List (Int×Option Int)}{A:Int->Addr}{p:Nat}{bo:Option Int} (z1:H d1=none) (z2:H d2=none) (n12:d2≠d1) (hd:Hy d1=some (.dK (cs.map λc=>(ZJ c.1,V.ref (A c.1))))) (hcs:∀c∈cs,Hy (A c.1)=some (.tup (c.2.map V.int))) (hn:∀x∈cs,x.1≠(p:Int)) (hF:ZgQ Hy d2 fo) (hnf:∀x∈fo,x.1≠(p:Int)) (l1:cs.length<=40) (l2:fo.length<=40) (sy:Ze H Hy) (hv:Hy v=some (.tup (ch.map V.int))) (hR:ChRun hs rs ps (cs++[((p:Int),ch)]) (fo++[((p:Int),bo)])) :
  ∃x,ZhY Hy d1 (V.int (p:Int)) (.ref v) x/\∃x1,ZhY x d2 (V.int (p:Int)) (Zgr bo) x1/\∃cs' fo',ChRun hs rs ps cs' fo'/\ZnI x1 d1 cs'/\ZgQ x1 d2 fo'/\Ze H x1:=by
 have v1:ZcT (cs.map λc=>(ZJ c.1,V.ref (A c.1))) (ZJ (p:Int))=none:=by
  rw[valA,Yb]
  intro z
  obtain⟨c,hc,e⟩:=List.any_eq_true.mp z
  exact hn c hc (by simpa using e)
 have v2:ZcT (fo.map λc=>(ZJ c.1,Zgr c.2)) (ZJ (p:Int))=none:=by
  rw[valC (f:=λc:Int×Option Int=>c.1) (g:=λc=>Zgr c.2),List.find?_eq_none.mpr (λc hc=>by simpa using hnf c hc)];rfl
 have hF2:upd Hy d1 (.dK (putK (cs.map λc=>(ZJ c.1,V.ref (A c.1))) (ZJ (p:Int)) (.ref v))) d2=some (.dK (fo.map λc=>(ZJ c.1,Zgr c.2))):=by rw[Zg n12];exact hF
 refine⟨_,ZhY.k (k:=ZJ (p:Int)) hd (YF (show _<=40 by rw[Yf];exact l1) (by decide)),_,ZhY.k (k:=ZJ (p:Int)) hF2 (YF (show _<=40 by rw[Yf];exact l2) (by decide)),_,_,hR,?_,?_,?_⟩
 ·refine⟨λy=>if y=(p:Int)then v else A y,?_,λc hc=>?_⟩
  ·rw[Zg (Ne.symm n12),Zb,ZhX _ v1,YI]
   congr 3
   ·exact List.map_congr_left λc hc=>by dsimp only;rw[Yb (hn c hc)]
   ·simp
  ·have key:∀a xs,Hy a=some (.tup xs)->upd (upd Hy d1 (.dK (putK (cs.map λc=>(ZJ c.1,V.ref (A c.1))) (ZJ (p:Int)) (.ref v)))) d2 (.dK (putK (fo.map λc=>(ZJ c.1,Zgr c.2)) (ZJ (p:Int)) (Zgr bo))) a=some (.tup xs):=λa xs e=>by
    rw[Zg (λy=>by rw[y,hF]at e;cases e),Zg (λy=>by rw[y,hd]at e;cases e)];exact e
   rcases Yq.mp hc with z|z
   ·dsimp only;rw[Yb (hn c z)];exact key _ _ (hcs c z)
   ·have:c=((p:Int),ch):=by simpa using z
    subst this
    dsimp only;rw[Yd rfl];exact key _ _ hv
 ·unfold ZgQ
  rw[Zb,ZhX _ v2,YI];rfl
 ·exact(sy.exc z1 Exc.upd).exc z2 Exc.upd
theorem BarRun.keys {T hs:List Int}{fo:List (Int×Option Int)}{m:Int}{qs:List Int}{bs:List (Int×Int)}{ks:List Int} (h:BarRun T hs fo m qs bs ks):bs.map (·.1)=-1::qs:=by
 induction h with
 |nil=>rfl
 |keep _ _ _ _ ih=>rw[YI,ih];rfl
 |pass _ _ _ _ ih=>rw[YI,ih];rfl
theorem BarRun.ksl {T hs:List Int}{fo:List (Int×Option Int)}{m:Int}{qs:List Int}{bs:List (Int×Int)}{ks:List Int} (h:BarRun T hs fo m qs bs ks):ks.length<=qs.length:=by
 induction h with
 |nil=>exact Ye _
 |keep _ _ _ _ ih=>simp;omega
 |pass _ _ _ _ ih=>simp;omega
theorem Zls {bs:List (Int×Int)}{x:Int} (h:x∈bs.map (·.1)):∃b,lookI bs x=some b:=by
 obtain⟨c,hc,e⟩:=Yu.mp h
 unfold lookI
 cases z:bs.find? λc=>decide (c.1=x)with
 |none=>exact absurd e (by simpa using List.find?_eq_none.mp z c hc)
 |some c=>exact⟨_,rfl⟩
theorem ZqL {bs:List (Int×Option Int)}{x:Int} (h:x∈bs.map (·.1)):∃b c,lookO bs x=some b/\c∈bs/\c.2=b:=by
 obtain⟨c,hc,e⟩:=Yu.mp h
 unfold lookO
 cases z:bs.find? λc=>decide (c.1=x)with
 |none=>exact absurd e (by simpa using List.find?_eq_none.mp z c hc)
 |some c=>exact⟨_,c,rfl,List.mem_of_find?_eq_some z,rfl⟩
theorem ChRun.fob {hs:List Int}{rs:List (List Int)}{ps:List Int}{cs:List (Int×List Int)}{fo:List (Int×Option Int)} (h:ChRun hs rs ps cs fo):∀x∈fo,∀b,x.2=some b->∃p,b∈lowAt rs p:=by
 induction h with
 |nil=>intro x h;simp at h
 |new _ _ ih =>
  intro x hx b e
  rcases Yq.mp hx with z|z
  ·exact ih x z b e
  ·simp at z;rw[z]at e;cases e
 |on _ hb _ _ ih =>
  intro x hx b e
  rcases Yq.mp hx with z|z
  ·exact ih x z b e
  ·simp at z;rw[z]at e;cases e;exact⟨_,hb⟩
theorem valB {bs:List (Int×Int)}{x:Int}:ZcT (bs.map λc=>(ZJ c.1,V.int c.2)) (ZJ x)=(lookI bs x).map V.int:=by
 rw[valC (f:=λc:Int×Int=>c.1) (g:=λc=>V.int c.2)]
 unfold lookI
 rw[Option.map_map];rfl
theorem valO {bs:List (Int×Option Int)}{x:Int}:ZcT (bs.map λc=>(ZJ c.1,Zgr c.2)) (ZJ x)=(lookO bs x).map Zgr:=by
 rw[valC (f:=λc:Int×Option Int=>c.1) (g:=λc=>Zgr c.2)]
 unfold lookO
 rw[Option.map_map];rfl
theorem ZmS {bs:List (Int×Int)}{x:Int} (h:x∉bs.map (·.1)):lookI bs x=none:=by
 unfold lookI
 rw[List.find?_eq_none.mpr (λc hc=>by simp only[decide_eq_true_eq];exact λz=>h (Yu.mpr ⟨c,hc,z⟩))];rfl
theorem Zfo {bs:List (Int×Int)}{x v:Int} (h:x∉bs.map (·.1)):lookI (bs++[(x,v)]) x=some v:=by
 unfold lookI
 rw[List.find?_append,List.find?_eq_none.mpr (λc hc=>by simp only[decide_eq_true_eq];exact λz=>h (Yu.mpr ⟨c,hc,z⟩))]
 simp
theorem ZqM {bs:List (Int×Int)}{x v:Int} (h:x∉bs.map (·.1)):putK (bs.map λc=>(ZJ c.1,V.int c.2)) (ZJ x) (V.int v)=(bs++[(x,v)]).map λc=>(ZJ c.1,V.int c.2):=by
 rw[ZhX _ (by rw[valB,ZmS h];rfl),YI];rfl
theorem Zif {bs:List (Int×Int)}{x b v:Int} (h:x∉bs.map (·.1)):putK ((bs++[(x,b)]).map λc=>(ZJ c.1,V.int c.2)) (ZJ x) (V.int v)=(bs++[(x,v)]).map λc=>(ZJ c.1,V.int c.2):=by
 unfold putK
 rw[Yd (by simp[ZJ])]
 rw[YI,YI,YI]
 congr 1
 ·rw[YW]
  refine List.map_congr_left λc hc=>?_
  show(if ZJ c.1=ZJ x then _ else _)=_
  rw[Yb (λz=>h (Yu.mpr ⟨c,hc,Zid z⟩))]
 ·simp
theorem ZbS {T:List Int}{a b:Nat}:(a:Int)∈Zbg T b↔a∈way T b:=by
 rw[ZbP,Yu]
 constructor
 ·rintro⟨q,hq,e⟩
  rwa [show a=q by omega]
 ·exact λh=>⟨a,h,rfl⟩
inductive Chn (fo:List (Int×Option Int)):List Int->Prop
 |one {p}:(p,none)∈fo->Chn fo [p]
 |cons {p q r}:(p,some q)∈fo->Chn fo (q::r)->Chn fo (p::q::r)
theorem Chn.more {fo fo':List (Int×Option Int)} (hs:∀x∈fo,x∈fo') {ch:List Int} (h:Chn fo ch):Chn fo' ch:=by
 induction h with
 |one h=>exact .one (hs _ h)
 |cons h _ ih=>exact .cons (hs _ h) ih
structure ChI (hs:List Int) (rs:List (List Int)) (ps:List Int) (cs:List (Int×List Int)) (fo:List (Int×Option Int)):Prop where
 hd:(cs.map (·.1)).Nodup
 hp:∀c∈cs,c.1∈ps
 ch:∀c∈cs,(∃r,c.2=c.1::r)/\Chn fo c.2
 fl:(cs.map (·.2)).flatten.Perm ps
 hf:∀c∈cs,∀p,(p,some c.1)∉fo
 fi:∀p x,(p,some x)∈fo->x∈ps
 fp:∀c∈fo,c.1∈ps
 inj:∀p p' x,(p,some x)∈fo->(p',some x)∈fo->p=p'
 al:∀x∈ps,(∃c∈cs,c.1=x)\/∃p∈ps,(p,some x)∈fo
 lw:∀p b,(p,some b)∈fo->b∈lowAt rs p.toNat
 gr:∀l1 q l2,ps=l1++q::l2->∀x∈lowAt rs q.toNat,x∈l1->(∃b,(q,some b)∈fo/\nth hs x.toNat<=nth hs b.toNat)\/∃p∈l1,(p,some x)∈fo
theorem ZgS {b:Int}{ch:List Int}:∀{cs:List (Int×List Int)},(cs.map (·.1)).Nodup->(b,ch)∈cs->cs.Perm ((b,ch)::cs.filter λc=>decide (c.1≠b))
 |[],_,h=>nomatch h
 |c::cs,nd,h=>by
  rw[YH,List.nodup_cons]at nd
  rcases Ym.mp h with e|h
  ·subst e
   rw[List.filter_cons_of_neg (by simp),List.filter_eq_self.mpr]
   intro d hd
   exact YB λz=>nd.1 (Yu.mpr ⟨d,hd,z⟩)
  ·have ne:c.1≠b:=λz=>nd.1 (Yu.mpr ⟨_,h,z.symm⟩)
   rw[List.filter_cons_of_pos (by simpa using ne)]
   exact((ZgS nd.2 h).cons c).trans (List.Perm.swap _ _ _)
theorem Zig {ps l1 l2:List Int}{p q:Int} (h:ps++[p]=l1++q::l2):(l1=ps/\q=p/\l2=[])\/∃l2',l2=l2'++[p]/\ps=l1++q::l2':=by
 rcases List.eq_nil_or_concat l2 with rfl|⟨l2',y,rfl⟩
 ·have:=List.append_inj' h rfl
  exact .inl ⟨this.1.symm,by simpa using this.2.symm,rfl⟩
 ·rw[List.concat_eq_append,<-List.cons_append,<-YT]at h
  have:=List.append_inj' h rfl
  refine .inr ⟨l2',?_,this.1⟩
  rw[List.concat_eq_append]
  congr 1
  simpa using this.2.symm
theorem ChRun.all {hs:List Int}{rs:List (List Int)}{ps:List Int}{cs:List (Int×List Int)}{fo:List (Int×Option Int)} (h:ChRun hs rs ps cs fo):ps.Nodup->ChI hs rs ps cs fo:=by
 induction h with
 |nil=>exact λ_=>⟨by simp,by simp,by simp,by simp,by simp,by simp,by simp,by simp,by simp,by simp,λl1 q l2 e=>by simp at e⟩
 |@new ps cs fo p h no ih =>
  intro nd
  rw[List.nodup_append]at nd
  have hnp:(p:Int)∉ps:=λz=>nd.2.2 _ z _ (by simp) rfl
  have I:=ih nd.1
  have up:∀x∈fo,x∈fo++[((p:Int),none)]:=λx hx=>YA _ hx
  have sm:∀a x,((a,some x):Int×Option Int)∈fo++[((p:Int),none)]->(a,some x)∈fo:=λa x hx=>(Yq.mp hx).elim id λz=>by simp at z
  refine⟨?_,?_,?_,?_,?_,?_,?_,?_,?_,?_,?_⟩
  ·rw[YI,List.nodup_append]
   refine⟨I.hd,by simp,?_⟩
   rintro a ha b hb rfl
   obtain⟨c,hc,rfl⟩:=Yu.mp ha
   have:c.1=(p:Int):=by simpa using hb
   exact hnp (this▸I.hp c hc)
  ·intro c hc
   rcases Yq.mp hc with hc|hc
   ·exact YA _ (I.hp c hc)
   ·have:c=((p:Int),[(p:Int)]):=by simpa using hc
    subst this;simp
  ·intro c hc
   rcases Yq.mp hc with hc|hc
   ·exact⟨(I.ch c hc).1,(I.ch c hc).2.more up⟩
   ·have:c=((p:Int),[(p:Int)]):=by simpa using hc
    subst this
    exact⟨⟨[],rfl⟩,.one (by simp)⟩
  ·rw[YI,List.flatten_append]
   exact I.fl.append (by simp)
  ·intro c hc a z
   have z:=sm _ _ z
   rcases Yq.mp hc with hc|hc
   ·exact I.hf c hc a z
   ·have:c=((p:Int),[(p:Int)]):=by simpa using hc
    subst this
    exact hnp (I.fi _ _ z)
  ·exact λa x z=>YA _ (I.fi _ _ (sm _ _ z))
  ·intro c hc
   rcases Yq.mp hc with hc|hc
   ·exact YA _ (I.fp c hc)
   ·have:c=((p:Int),none):=by simpa using hc
    subst this;simp
  ·exact λa a' x z z'=>I.inj a a' x (sm _ _ z) (sm _ _ z')
  ·intro x hx
   rcases Yq.mp hx with hx|hx
   ·rcases I.al x hx with⟨c,hc,e⟩|⟨q,hq,e⟩
    ·exact .inl ⟨c,YA _ hc,e⟩
    ·exact .inr ⟨q,YA _ hq,up _ e⟩
   ·have:x=(p:Int):=by simpa using hx
    subst this
    exact .inl ⟨_,Yl _ (Y3.mpr rfl),rfl⟩
  ·exact λa b z=>I.lw a b (sm _ _ z)
  ·intro l1 q l2 e x hx hx1
   rcases Zig e with⟨rfl,rfl,rfl⟩|⟨l2',rfl,e2⟩
   ·rcases I.al x hx1 with⟨c,hc,e⟩|⟨q,hq,e⟩
    ·exact absurd e (no x (by simpa using hx) c hc)
    ·exact .inr ⟨q,hq,up _ e⟩
   ·rcases I.gr l1 q l2' e2 x hx hx1 with⟨b,z1,z2⟩|⟨a,ha,z⟩
    ·exact .inl ⟨b,up _ z1,z2⟩
    ·exact .inr ⟨a,ha,up _ z⟩
 |@on ps cs fo p b ch h hb hc hmx ih =>
  intro nd
  rw[List.nodup_append]at nd
  have hnp:(p:Int)∉ps:=λz=>nd.2.2 _ z _ (by simp) rfl
  have I:=ih nd.1
  have up:∀x∈fo,x∈fo++[((p:Int),some b)]:=λx hx=>YA _ hx
  have sm:∀a x,((a,some x):Int×Option Int)∈fo++[((p:Int),some b)]->(a,some x)∈fo\/(a=(p:Int)/\x=b):=λa x hx=>(Yq.mp hx).elim .inl λz=>by
   simp at z;exact .inr z
  have fm:∀c,c∈cs.filter (λc=>decide (c.1≠b))->c∈cs/\c.1≠b:=λc hc=>by simpa using YJ.mp hc
  refine⟨?_,?_,?_,?_,?_,?_,?_,?_,?_,?_,?_⟩
  ·rw[YI,List.nodup_append]
   refine⟨I.hd.sublist (List.filter_sublist.map _),by simp,?_⟩
   rintro a ha b' hb' rfl
   obtain⟨c,hc,rfl⟩:=Yu.mp ha
   have:c.1=(p:Int):=by simpa using hb'
   exact hnp (this▸I.hp c (fm c hc).1)
  ·intro c hc
   rcases Yq.mp hc with hc|hc
   ·exact YA _ (I.hp c (fm c hc).1)
   ·have:c=((p:Int),(p:Int)::ch):=by simpa using hc
    subst this;simp
  ·intro c hc'
   rcases Yq.mp hc' with hc'|hc'
   ·exact⟨(I.ch c (fm c hc').1).1,(I.ch c (fm c hc').1).2.more up⟩
   ·have:c=((p:Int),(p:Int)::ch):=by simpa using hc'
    subst this
    obtain⟨⟨r,e⟩,h2⟩:=I.ch _ hc
    have e:ch=b::r:=e
    subst e
    exact⟨⟨_,rfl⟩,.cons (by simp) (h2.more up)⟩
  ·rw[YI,List.flatten_append]
   have p1:=((ZgS I.hd hc).map (·.2)).flatten
   rw[YH,List.flatten_cons]at p1
   have p2:=p1.symm.trans I.fl
   have e3:(List.map (λx=>x.2) [((p:Int),(p:Int)::ch)]).flatten=(p:Int)::ch:=by simp
   rw[e3]
   refine(List.perm_append_comm.trans ?_)
   rw[List.cons_append]
   refine(p2.cons _).trans ?_
   exact(List.perm_append_singleton _ _).symm
  ·intro c hc' a y
   rcases sm _ _ y with z|⟨rfl,z⟩
   ·rcases Yq.mp hc' with hc'|hc'
    ·exact I.hf c (fm c hc').1 a z
    ·have:c=((p:Int),(p:Int)::ch):=by simpa using hc'
     subst this
     exact hnp (I.fi _ _ z)
   ·rcases Yq.mp hc' with hc'|hc'
    ·exact(fm c hc').2 z
    ·have:c=((p:Int),(p:Int)::ch):=by simpa using hc'
     subst this
     have z:(p:Int)=b:=z
     exact hnp (z▸I.hp _ hc)
  ·intro a x z
   rcases sm _ _ z with z|⟨rfl,rfl⟩
   ·exact YA _ (I.fi _ _ z)
   ·exact YA _ (I.hp _ hc)
  ·intro c hc
   rcases Yq.mp hc with hc|hc
   ·exact YA _ (I.fp c hc)
   ·have:c=((p:Int),some b):=by simpa using hc
    subst this;simp
  ·intro a a' x z z'
   rcases sm _ _ z with z|⟨rfl,rfl⟩<;>rcases sm _ _ z' with z'|⟨rfl,e⟩
   ·exact I.inj a a' x z z'
   ·exact absurd (e▸z) (I.hf _ hc a)
   ·exact absurd z' (I.hf _ hc a')
   ·rfl
  ·intro x hx
   rcases Yq.mp hx with hx|hx
   ·rcases I.al x hx with⟨c,hc',e⟩|⟨q,hq,e⟩
    ·by_cases y:x=b
     ·exact .inr ⟨p,by simp,by simp[y]⟩
     ·exact .inl ⟨c,YA _ (YJ.mpr ⟨hc',YB (e▸y)⟩),e⟩
    ·exact .inr ⟨q,YA _ hq,up _ e⟩
   ·have:x=(p:Int):=by simpa using hx
    subst this
    exact .inl ⟨_,Yl _ (Y3.mpr rfl),rfl⟩
  ·intro a x z
   rcases sm _ _ z with z|⟨rfl,rfl⟩
   ·exact I.lw a x z
   ·simpa using hb
  ·intro l1 q l2 e x hx hx1
   rcases Zig e with⟨rfl,rfl,rfl⟩|⟨l2',rfl,e2⟩
   ·rcases I.al x hx1 with⟨c,hc',e⟩|⟨q,hq,e⟩
    ·exact .inl ⟨b,by simp,hmx x (by simpa using hx) ⟨c,hc',e⟩⟩
    ·exact .inr ⟨q,hq,up _ e⟩
   ·rcases I.gr l1 q l2' e2 x hx hx1 with⟨b',z1,z2⟩|⟨a,ha,z⟩
    ·exact .inl ⟨b',up _ z1,z2⟩
    ·exact .inr ⟨a,ha,up _ z⟩
structure BarI (T hs:List Int) (fo:List (Int×Option Int)) (m:Int) (qs:List Int) (bs:List (Int×Int)) (ks:List Int):Prop where
 top:lookI bs (-1)=some m
 kq:∀k∈ks,k∈qs
 nd:ks.Nodup
 at_:∀p∈qs,∃b u,lookI bs (nth T p.toNat)=some b/\lookO fo p=some u/\((p∈ks/\staysI hs (nth hs p.toNat) b u=true/\lookI bs p=some (nth hs p.toNat))\/(p∉ks/\staysI hs (nth hs p.toNat) b u=false/\lookI bs p=some b))
theorem Zav {bs cs:List (Int×Int)}{x b:Int} (h:lookI bs x=some b):lookI (bs++cs) x=some b:=by
 unfold lookI at *
 rw[List.find?_append]
 cases e:bs.find? λc=>decide (c.1=x)with
 |none=>rw[e]at h;cases h
 |some c=>rw[e]at h;exact h
theorem BarRun.all {T hs:List Int}{fo:List (Int×Option Int)}{m:Int}{qs:List Int}{bs:List (Int×Int)}{ks:List Int} (h:BarRun T hs fo m qs bs ks):qs.Nodup->(∀q∈qs,0<=q)->BarI T hs fo m qs bs ks:=by
 induction h with
 |nil=>exact λ_ _=>⟨rfl,by simp,by simp,by simp⟩
 |@keep qs bs ks p b u h hb hu hst ih =>
  intro nd h0
  rw[List.nodup_append]at nd
  have hnp:(p:Int)∉qs:=λz=>nd.2.2 _ z _ (by simp) rfl
  have I:=ih nd.1 λq hq=>h0 q (YA _ hq)
  have nk:(p:Int)∉bs.map (·.1):=by
   rw[h.keys]
   intro z
   rcases Ym.mp z with z|z
   ·omega
   ·exact hnp z
  refine⟨Zav I.top,?_,?_,?_⟩
  ·intro k hk
   rcases Yq.mp hk with hk|hk
   ·exact YA _ (I.kq k hk)
   ·exact Yl _ hk
  ·rw[List.nodup_append]
   refine⟨I.nd,by simp,?_⟩
   rintro a ha c hc rfl
   have:a=(p:Int):=by simpa using hc
   exact hnp (this▸I.kq a ha)
  ·intro q hq
   rcases Yq.mp hq with hq|hq
   ·obtain⟨b',u',e1,e2,e3⟩:=I.at_ q hq
    refine⟨b',u',Zav e1,e2,?_⟩
    rcases e3 with⟨e3,e4,e5⟩|⟨e3,e4,e5⟩
    ·exact .inl ⟨YA _ e3,e4,Zav e5⟩
    ·refine .inr ⟨λz=>?_,e4,Zav e5⟩
     rcases Yq.mp z with z|z
     ·exact e3 z
     ·have:q=(p:Int):=by simpa using z
      exact hnp (this▸hq)
   ·have:q=(p:Int):=by simpa using hq
    subst this
    rw[Ys]
    exact⟨b,u,Zav hb,hu,.inl ⟨by simp,hst,Zfo nk⟩⟩
 |@pass qs bs ks p b u h hb hu hst ih =>
  intro nd h0
  rw[List.nodup_append]at nd
  have hnp:(p:Int)∉qs:=λz=>nd.2.2 _ z _ (by simp) rfl
  have I:=ih nd.1 λq hq=>h0 q (YA _ hq)
  have nk:(p:Int)∉bs.map (·.1):=by
   rw[h.keys]
   intro z
   rcases Ym.mp z with z|z
   ·omega
   ·exact hnp z
  refine⟨Zav I.top,λk hk=>YA _ (I.kq k hk),I.nd,?_⟩
  ·intro q hq
   rcases Yq.mp hq with hq|hq
   ·obtain⟨b',u',e1,e2,e3⟩:=I.at_ q hq
    refine⟨b',u',Zav e1,e2,?_⟩
    rcases e3 with⟨e3,e4,e5⟩|⟨e3,e4,e5⟩
    ·exact .inl ⟨e3,e4,Zav e5⟩
    ·exact .inr ⟨e3,e4,Zav e5⟩
   ·have:q=(p:Int):=by simpa using hq
    subst this
    rw[Ys]
    exact⟨b,u,Zav hb,hu,.inr ⟨λz=>hnp (I.kq _ z),hst,Zfo nk⟩⟩
theorem Zjy {fo:List (Int×Option Int)}{x:Int}{u:Option Int} (h:lookO fo x=some u):(x,u)∈fo:=by
 unfold lookO at h
 cases e:fo.find? λc=>decide (c.1=x)with
 |none=>rw[e]at h;cases h
 |some c =>
  rw[e]at h
  cases h
  have h1:c.1=x:=by simpa using List.find?_some e
  have h2:=List.mem_of_find?_eq_some e
  subst h1
  exact h2
theorem Zsu {fo:List (Int×Option Int)} (nd:(fo.map (·.1)).Nodup) {x:Int}{u v:Option Int} (h1:(x,u)∈fo) (h2:(x,v)∈fo):u=v:=by
 induction fo with
 |nil=>cases h1
 |cons c fo ih =>
  rw[YH,List.nodup_cons]at nd
  rcases Ym.mp h1 with e1|h1<;>rcases Ym.mp h2 with e2|h2
  ·have:=e1.trans e2.symm
   cases this;rfl
  ·exact absurd (Yu.mpr ⟨_,h2,by rw[<-e1]⟩) nd.1
  ·exact absurd (Yu.mpr ⟨_,h1,by rw[<-e2]⟩) nd.1
  ·exact ih nd.2 h1 h2
theorem Zfp {ns T:List Int} (hT:Zq ns T) {a b:Nat} (hb:b<T.length) (h:a∈way T b):a<T.length:=by
 have e:=hT.1
 have:=((Zct hT (by omega)).mp h).1
 omega
theorem Zkj {ns T:List Int} (hT:Zq ns T) {a b c:Nat} (hc:c<T.length) (h1:a∈way T b) (h2:b∈way T c):a∈way T c:=by
 have e:=hT.1
 have hb:=Zfp hT hc h2
 have z1:=(Zct hT (by omega)).mp h1
 have z2:=(Zct hT (by omega)).mp h2
 exact(Zct hT (by omega)).mpr ⟨z1.1,z1.2.trans z2.2⟩
theorem Zbo {ns T:List Int} (hT:Zq ns T) {p:Nat} (hp:p<T.length):(nth T p=-1/\way T p=[])\/∃q:Nat,nth T p=q/\q<T.length/\way T p=q::way T q:=by
 have e:=hT.1
 rcases ZG hT (p:=p) (by omega)with z|⟨q,z,hq,_,_⟩
 ·exact .inl ⟨z,ZfO z⟩
 ·exact .inr ⟨q,z,by omega,Zcs hT (by omega) z⟩
theorem ZqN {ns T:List Int} (hT:Zq ns T) {a:Nat}:∀(k b:Nat),b<T.length->(way T b).length<=k->a∈way T b->(way T a).length<(way T b).length:=by
 intro k
 induction k with
 |zero =>
  intro b hb hk h
  have:way T b=[]:=List.length_eq_zero_iff.mp (by omega)
  rw[this]at h;cases h
 |succ k ih =>
  intro b hb hk h
  rcases Zbo hT hb with⟨_,e⟩|⟨q,_,hq,e⟩
  ·rw[e]at h;cases h
  ·rw[e,YR]at hk⊢
   rw[e]at h
   rcases Ym.mp h with rfl|h
   ·omega
   ·have:=ih q hq (by omega) h
    omega
theorem Zho (T:List Int) (p:Nat):dpI T (p:Int)=((way T p).length:Int):=by
 unfold dpI
 rw[Ys,ZbP,Yf]
theorem ZnK {T hs:List Int}{rs:List (List Int)} (hrs:ZfV rs (ZQ T hs)) {q:Nat}{x:Int}:x∈lowAt rs q↔∃b:Nat,x=b/\b<T.length/\q∈way T b/\nth hs b<nth hs q:=by
 unfold lowAt
 rw[Yu]
 constructor
 ·rintro⟨r,hr,rfl⟩
  obtain⟨h1,h2⟩:=YJ.mp hr
  obtain⟨a,b,rfl,ha,hb,hw,hh⟩:=Zam (hrs.1.mem_iff.mp h1)
  have h2:(a:Int)=(q:Int):=by simpa using h2
  have:a=q:=by omega
  subst this
  exact⟨b,rfl,hb,ZbS.mp hw,hh⟩
 ·rintro⟨b,rfl,hb,hw,hh⟩
  refine⟨[(q:Int),(b:Int)],YJ.mpr ⟨hrs.1.mem_iff.mpr ?_,by simp⟩,rfl⟩
  unfold ZQ
  rw[List.mem_flatMap]
  refine⟨b,Yw.mpr hb,Yu.mpr ⟨(q:Int),YJ.mpr ⟨ZbS.mpr hw,YB ?_⟩,rfl⟩⟩
  rw[Ys];exact hh
theorem ZbT {n:Nat}{x:Int}:x∈nats (n:Int)↔∃i:Nat,x=i/\i<n:=by
 unfold nats
 rw[Yu]
 constructor
 ·rintro⟨i,hi,rfl⟩
  exact⟨i,rfl,by simpa using hi⟩
 ·rintro⟨i,rfl,hi⟩
  exact⟨i,by simpa using hi,rfl⟩
structure StayI (T hs:List Int) (fo:List (Int×Option Int)) (ks:List Int) (bar:Int->Int):Prop where
 b0:∀p,p<T.length->bar (-1)<=nth hs p
 b1:∀p:Nat,p<T.length->(p:Int)∈ks->bar (nth T p)<=nth hs p/\(∀b,((p:Int),some b)∈fo->nth hs b.toNat<bar (nth T p))/\bar p=nth hs p
 b2:∀p:Nat,p<T.length->(p:Int)∉ks->bar p=bar (nth T p)/\(bar (nth T p)<=nth hs p->∃b,((p:Int),some b)∈fo/\bar (nth T p)<=nth hs b.toNat)
 lk:∀a b,(a,some b)∈fo->∃p q:Nat,a=p/\b=q/\p<T.length/\q<T.length/\p∈way T q/\nth hs q<nth hs p
 inj:∀p p' x,(p,some x)∈fo->(p',some x)∈fo->p=p'
 one:∀p u v,((p,u):Int×Option Int)∈fo->(p,v)∈fo->u=v
 gr:∀q b:Nat,b<T.length->q∈way T b->nth hs b<nth hs q->(∃b',((q:Int),some b')∈fo/\nth hs b<=nth hs b'.toNat)\/∃p:Nat,((p:Int),some (b:Int))∈fo/\(way T q).length<=(way T p).length
section
variable {nsT T hs:List Int}{fo:List (Int×Option Int)}{ks:List Int}{bar:Int->Int}
theorem StayI.up (I:StayI T hs fo ks bar) {p:Nat} (hp:p<T.length):bar (nth T p)<=bar p:=by
 by_cases h:(p:Int)∈ks
 ·obtain⟨h1,_,h2⟩:=I.b1 p hp h
  omega
 ·have:=(I.b2 p hp h).1
  omega
theorem StayI.over (hT:Zq nsT T) (I:StayI T hs fo ks bar) {a:Nat}:∀(k b:Nat),b<T.length->(way T b).length<=k->a∈way T b->bar a<=bar (nth T b):=by
 intro k
 induction k with
 |zero =>
  intro b hb hk h
  have:way T b=[]:=List.length_eq_zero_iff.mp (by omega)
  rw[this]at h;cases h
 |succ k ih =>
  intro b hb hk h
  rcases Zbo hT hb with⟨_,e⟩|⟨q,eq,hq,e⟩
  ·rw[e]at h;cases h
  ·rw[e,YR]at hk
   rw[e]at h
   rw[eq]
   rcases Ym.mp h with rfl|h
   ·omega
   ·have:=ih q hq (by omega) h
    have:=I.up hq
    omega
theorem StayI.to (hT:Zq nsT T) (I:StayI T hs fo ks bar) {x:Nat} (hx:x<T.length) (C:Nat->Prop) (hC:∀q,q∈way T x->C q->bar (nth T q)<=nth hs x\/∃q':Nat,nth T q=q'/\q'∈way T x/\C q')
  (hg:∀q,q∈way T x->C q->nth hs x<nth hs q->∃b,((q:Int),some b)∈fo/\nth hs x<=nth hs b.toNat):∀(k q:Nat),q∈way T x->(way T q).length<=k->C q->bar q<=nth hs x:=by
 intro k
 induction k with
 |zero =>
  intro q hq hk hc
  have hqn:=Zfp hT hx hq
  have hb:bar (nth T q)<=nth hs x:=by
   rcases hC q hq hc with h|⟨q',e,h1,h2⟩
   ·exact h
   ·rcases Zbo hT hqn with⟨z,_⟩|⟨q2,z,_,z2⟩
    ·omega
    ·rw[z2]at hk;simp at hk
  by_cases h:(q:Int)∈ks
  ·obtain⟨h1,h2,h3⟩:=I.b1 q hqn h
   rw[h3]
   refine Int.not_lt.mp λz=>?_
   obtain⟨b,z1,z2⟩:=hg q hq hc z
   have:=h2 b z1
   omega
  ·rw[(I.b2 q hqn h).1];exact hb
 |succ k ih =>
  intro q hq hk hc
  have hqn:=Zfp hT hx hq
  have hb:bar (nth T q)<=nth hs x:=by
   rcases hC q hq hc with h|⟨q',e,h1,h2⟩
   ·exact h
   ·rw[e]
    refine ih q' h1 ?_ h2
    rcases Zbo hT hqn with⟨z,_⟩|⟨q2,z,_,z2⟩
    ·omega
    ·have:q2=q':=by omega
     subst this
     rw[z2,YR]at hk
     omega
  by_cases h:(q:Int)∈ks
  ·obtain⟨h1,h2,h3⟩:=I.b1 q hqn h
   rw[h3]
   refine Int.not_lt.mp λz=>?_
   obtain⟨b,z1,z2⟩:=hg q hq hc z
   have:=h2 b z1
   omega
  ·rw[(I.b2 q hqn h).1];exact hb
theorem StayI.first (hT:Zq nsT T) (I:StayI T hs fo ks bar) {x:Nat} (hx:x<T.length) (hf:∀p,(p,some (x:Int))∉fo):bar (nth T x)<=nth hs x:=by
 have key:=I.to hT hx (λ_=>True) (λq hq _=>by
  rcases Zbo hT (Zfp hT hx hq)with⟨z,_⟩|⟨q2,z,_,z2⟩
  ·rw[z];exact .inl (I.b0 x hx)
  ·exact .inr ⟨q2,z,Zkj hT hx (by rw[z2];exact Yz) hq,trivial⟩) (λq hq _ z=>by
  rcases I.gr q x hx hq z with h|⟨p,h,_⟩
  ·exact h
  ·exact absurd h (hf _))
 rcases Zbo hT hx with⟨z,_⟩|⟨q,z,_,z2⟩
 ·rw[z];exact I.b0 x hx
 ·rw[z]
  exact key _ q (by rw[z2];exact Yz) (Ye _) trivial
theorem StayI.next (hT:Zq nsT T) (I:StayI T hs fo ks bar) {p x:Nat} (hf:((p:Int),some (x:Int))∈fo) (hb:bar p<=nth hs x):bar (nth T x)<=nth hs x:=by
 obtain⟨p',x',e1,e2,hp,hx,hw,hh⟩:=I.lk _ _ hf
 have:p'=p:=by omega
 subst this
 have:x'=x:=by omega
 subst this
 have key:=I.to hT hx (λq=>p'∈way T q) (λq hq hc=>by
  rcases Zbo hT (Zfp hT hx hq)with⟨_,z⟩|⟨q2,z,_,z2⟩
  ·rw[z]at hc;cases hc
  ·rw[z2]at hc
   rcases Ym.mp hc with rfl|hc
   ·rw[z];exact .inl hb
   ·exact .inr ⟨q2,z,Zkj hT hx (by rw[z2];exact Yz) hq,hc⟩) (λq hq hc z=>by
  rcases I.gr q x' hx hq z with h|⟨a,h,hl⟩
  ·exact h
  ·have:=I.inj _ _ _ h hf
   have:a=p':=by omega
   subst this
   have:=ZqN hT _ q (Zfp hT hx hq) (Ye _) hc
   omega)
 rcases Zbo hT hx with⟨_,z⟩|⟨q,z,_,z2⟩
 ·rw[z]at hw;cases hw
 ·rw[z]
  rw[z2]at hw
  rcases Ym.mp hw with rfl|hw
  ·exact hb
  ·exact key _ q (by rw[z2];exact Yz) (Ye _) hw
theorem StayI.down (hT:Zq nsT T) (I:StayI T hs fo ks bar) {ch:List Int} (h:Chn fo ch):∀(x:Nat) (r:List Int),ch=(x:Int)::r->∀y∈r,∃b:Nat,y=b/\b<T.length/\x∈way T b/\nth hs b<nth hs x:=by
 induction h with
 |one h=>rintro x r e y hy;cases e;cases hy
 |@cons p q r h h2 ih =>
  rintro x r' e y hy
  cases e
  obtain⟨p',q',e1,rfl,hp,hq,hw,hh⟩:=I.lk _ _ h
  have:p'=x:=by omega
  subst this
  rcases Ym.mp hy with rfl|hy
  ·exact⟨q',rfl,hq,hw,hh⟩
  ·obtain⟨b,e,hb,w2,h2⟩:=ih q' r rfl y hy
   exact⟨b,e,hb,Zkj hT hb hw w2,by omega⟩
theorem StayI.ZoL (hT:Zq nsT T) (I:StayI T hs fo ks bar) {ch:List Int} (h:Chn fo ch):∀(x:Nat) (r:List Int),ch=(x:Int)::r->x<T.length->bar (nth T x)<=nth hs x->ch.countP (λy=>decide (y∈ks))=1:=by
 induction h with
 |@one p h =>
  rintro x r e hx hb
  cases e
  have:(x:Int)∈ks:=by
   refine Classical.byContradiction λz=>?_
   obtain⟨_,h2⟩:=I.b2 x hx z
   obtain⟨b,h3,_⟩:=h2 hb
   exact nomatch I.one _ _ _ h h3
  simp[this]
 |@cons p q r h h2 ih =>
  rintro x r' e hx hb
  cases e
  by_cases z:(x:Int)∈ks
  ·have dn:=I.down hT (.cons h h2) x _ rfl
   obtain⟨h3,_,h4⟩:=I.b1 x hx z
   have:(q::r).countP (λy=>decide (y∈ks))=0:=by
    rw[List.countP_eq_zero]
    intro y hy
    obtain⟨b,rfl,hb',w,hh⟩:=dn y hy
    have:=I.over hT _ b hb' (Ye _) w
    simp only[decide_eq_true_eq]
    intro k
    have:=(I.b1 b hb' k).1
    omega
   rw[List.countP_cons_of_pos (by simpa using z),this]
  ·obtain⟨h3,h4⟩:=I.b2 x hx z
   obtain⟨b,h5,h6⟩:=h4 hb
   have:=I.one _ _ _ h h5
   cases this
   rw[List.countP_cons_of_neg (by simpa using z)]
   obtain⟨p',q',e1,rfl,hp,hq,hw,hh⟩:=I.lk _ _ h
   exact ih q' r rfl hq (I.next hT h (by rw[h3];simpa using h6))
theorem StayI.chain (I:StayI T hs fo ks bar) {ch:List Int} (h:Chn fo ch):Zh8 T hs ch=true:=by
 unfold Zh8
 rw[List.all_eq_true]
 intro i hi
 have hi:=Yw.mp hi
 induction h generalizing i with
 |one h=>simp at hi
 |@cons p q r h h2 ih =>
  cases i with
  |zero =>
   obtain⟨p',q',rfl,rfl,hp,hq,hw,hh⟩:=I.lk _ _ h
   have e1:nth ((p':Int)::(q':Int)::r) 0=(p':Int):=rfl
   have e2:nth ((p':Int)::(q':Int)::r) (0+1)=(q':Int):=rfl
   unfold ZqJ
   rw[e1,e2,Ys,Ys,YB (ZbS.mpr hw),YB hh];rfl
  |succ i =>
   have:=ih i (by simp at hi⊢;omega) (by simp at hi⊢;omega)
   exact this
end
theorem Zih {T ls ds:List Int} (hG:Zai T) (hl:ds.length=T.length):Zlj T ls ds↔∀p,p<T.length->nth (hgt (Zj T) ds) p=(if nth T p=-1 then nth (hgt (Zj T) ls) p else max (nth (hgt (Zj T) ls) p) (nth (hgt (Zj T) ds) (nth T p).toNat)):=by
 obtain⟨h40,nsT,hT⟩:=hG
 have eT:=hT.1
 have eF:(Zj T).length=T.length:=Zar T
 constructor
 ·intro h p hp
  obtain⟨⟨o,ho,e1⟩,b1⟩:=h.2 p hp
  have bp:=b1 p Yz
  rw[ZH (by omega),ZH (by omega)]
  rcases ZG hT (p:=p) (by omega)with e|⟨q,e,hq,_,_⟩
  ·rw[Yd e]
   rw[ZfO e]at ho
   have:o=p:=by simpa using ho
   subst this
   omega
  ·rw[Yb (by omega),e,show((q:Nat):Int).toNat=q by omega,ZH (by omega)]
   have hw:=Zcs hT (p:=p) (by omega) e
   obtain⟨⟨o',ho',e2⟩,b2⟩:=h.2 q (by omega)
   have c1:=b1 o' (by rw[hw];exact YD _ ho')
   rcases Ym.mp ho with rfl|ho
   ·omega
   ·rw[hw]at ho
    have c2:=b2 o ho
    omega
 ·intro h
  refine⟨hl,?_⟩
  have key:∀d p,p<T.length->dep (nth nsT) nsT.length p=d->(∃o∈p::way T p,nth ds p=nth ls o+nth (Zj T) p-nth (Zj T) o)/\∀o∈p::way T p,nth ls o+nth (Zj T) p-nth (Zj T) o<=nth ds p:=by
   intro d
   induction d with
   |zero =>
    intro p hp hd
    have h1:=h p hp
    rw[ZH (by omega),ZH (by omega)]at h1
    rcases ZG hT (p:=p) (by omega)with e|⟨q,e,hq,_,e5⟩
    ·rw[Yd e]at h1
     rw[ZfO e]
     refine⟨⟨p,Yz,by omega⟩,λo ho=>?_⟩
     have:o=p:=by simpa using ho
     subst this;omega
    ·omega
   |succ d ih =>
    intro p hp hd
    have h1:=h p hp
    rw[ZH (by omega),ZH (by omega)]at h1
    rcases ZG hT (p:=p) (by omega)with e|⟨q,e,hq,_,e5⟩
    ·rw[Yd e]at h1
     rw[ZfO e]
     refine⟨⟨p,Yz,by omega⟩,λo ho=>?_⟩
     have:o=p:=by simpa using ho
     subst this;omega
    ·rw[Yb (by omega),e,show((q:Nat):Int).toNat=q by omega,ZH (by omega)]at h1
     obtain⟨⟨o,ho,e2⟩,b2⟩:=ih q (by omega) (by omega)
     rw[Zcs hT (p:=p) (by omega) e]
     constructor
     ·by_cases c:nth ls p-nth (Zj T) p<nth ds q-nth (Zj T) q
      ·exact⟨o,YD _ ho,by omega⟩
      ·exact⟨p,Yz,by omega⟩
     ·intro o' ho'
      rcases Ym.mp ho' with rfl|ho'
      ·omega
      ·have:=b2 o' ho'
       omega
  exact λp hp=>key _ p hp rfl
theorem ZqO {T ls ds:List Int} (hG:Zai T) (h:Zlj T ls ds):Zq ds T:=by
 have hf:=(Zih hG h.1).mp h
 obtain⟨_,nsT,hT⟩:=hG
 have eT:=hT.1
 have eF:(Zj T).length=T.length:=Zar T
 have hup:∀o p,o<nsT.length->p<nsT.length->Over (nth nsT) o p->nth ds o-nth (Zj T) o<=nth ds p-nth (Zj T) p:=λo p ho hp hO =>
  ZfP hT (R:=λo p=>nth ds o-nth (Zj T) o<=nth ds p-nth (Zj T) p) (λp q hp hq e _=>by
   have:=hf p (by omega)
   rw[ZH (by omega),Yb (by omega),e,show((q:Nat):Int).toNat=q by omega,ZH (F:=Zj T) (ns:=ds) (i:=q) (by omega)]at this
   omega) (λo q p _ _ r1 r2=>by omega) _ p o hp ho rfl hO
 refine⟨h.1.symm,λp hp=>?_⟩
 have hl:=h.1
 rw[show ds.length=nsT.length by omega]at hp⊢
 refine ZkV hT (λq p hq hp hO=>?_) p hp
 have h1:=hup q p hq hp hO
 have h2:=Zoi hT hp hq hO
 rw[Zdf (by omega),Zdf (by omega)]at h1
 exact⟨λ_=>by omega,λz=>by have:=h2.2 z;omega⟩
theorem Zii (F us:List Int):(Zd8 F us).length=F.length:=by unfold Zd8;simp
theorem Zlt {F us:List Int}{i:Nat} (h:i<F.length):nth (Zd8 F us) i=nth F i+nth us i:=by
 show List.getD ((List.range F.length).map λi=>nth F i+nth us i) i 0=_
 rw[Yn,YL,Jf h];rfl
theorem Zsv (n:Int):(nats n).Pairwise (·<=·):=by
 unfold nats
 rw[List.pairwise_map]
 exact List.pairwise_lt_range.imp λh=>by omega
theorem Zgs.Zfz {T ns ks us:List Int}{cs:List (Int×List Int)} (hG:Zai T) (hl:ns.length=T.length) (h:Zgs T ns ks us cs):∃(fo:List (Int×Option Int)) (bar:Int->Int),StayI T (hgt (Zj T) ns) fo ks bar/\us=(List.range T.length).map (λ(p:Nat)=>bar (p:Int))/\ks.Nodup/\ks.Pairwise (·<=·)/\(∀k∈ks,k∈nats (T.length:Int))/\(cs.map (·.2)).flatten.Perm (nats (T.length:Int))/\∀c∈cs,(∃r,c.2=c.1::r)/\Chn fo c.2/\∀p,(p,some c.1)∉fo:=by
 obtain⟨ps,rs,fo,m,bs,ks0,hpm,hpw,hrs,hch,_,hm1,hbr,hk,hks,hus⟩:=h
 obtain⟨h40,nsT,hT⟩:=id hG
 have eF:(Zj T).length=T.length:=Zar T
 have eH:(hgt (Zj T) ns).length=T.length:=by simp[hgt,eF]
 generalize hgt (Zj T) ns=hs at *
 have nd:ps.Nodup:=hpm.nodup_iff.mpr (ZbD _)
 have I:=hch.all nd
 have pn:∀x∈ps,∃i:Nat,x=i/\i<T.length:=λx hx=>ZbT.mp (hpm.mem_iff.mp hx)
 have pm:∀i:Nat,i<T.length->(i:Int)∈ps:=λi hi=>hpm.mem_iff.mpr (ZbT.mpr ⟨i,rfl,hi⟩)
 have B:=hbr.all ((List.reverse_perm ps).nodup_iff.mpr nd) λq hq=>by
  obtain⟨i,rfl,_⟩:=pn q (List.mem_reverse.mp hq)
  omega
 have kf:∀p u v,((p,u):Int×Option Int)∈fo->(p,v)∈fo->u=v:=λp u v=>Zsu (by rw[hch.fol];exact nd)
 have mh:∀p,p<T.length->nth hs p∈hs:=λp hp=>by
  unfold nth
  rw[Yn,Yi (by omega)]
  exact YC _
 refine⟨fo,λx=>(lookI bs x).getD 0,⟨?_,?_,?_,?_,I.inj,kf,?_⟩,hus,hk.nodup_iff.mpr B.nd,hks,?_,I.fl.trans hpm,λc hc=>⟨(I.ch c hc).1,(I.ch c hc).2,I.hf c hc⟩⟩
 ·intro p hp
  show(lookI bs (-1)).getD 0<=_
  rw[B.top]
  have ne:hs≠[]:=λz=>by rw[z]at eH;simp at eH;omega
  exact(hm1 ne).2 _ (mh p hp)
 ·intro p hp hkp
  obtain⟨b,u,e1,e2,e3⟩:=B.at_ (p:Int) (List.mem_reverse.mpr (pm p hp))
  rw[Ys]at e1 e3
  show(lookI bs (nth T p)).getD 0<=_/\(∀b',_->_<(lookI bs (nth T p)).getD 0)/\(lookI bs (p:Int)).getD 0=_
  rw[e1]
  rcases e3 with⟨_,e4,e5⟩|⟨e3,_⟩
  ·have e4:=YX e4
   refine⟨e4.1,λb' hb'=>?_,by rw[e5];rfl⟩
   have:=kf _ _ _ (Zjy e2) hb'
   subst this
   exact e4.2 _ rfl
  ·exact absurd (hk.mem_iff.mp hkp) e3
 ·intro p hp hkp
  obtain⟨b,u,e1,e2,e3⟩:=B.at_ (p:Int) (List.mem_reverse.mpr (pm p hp))
  rw[Ys]at e1 e3
  show(lookI bs (p:Int)).getD 0=(lookI bs (nth T p)).getD 0/\((lookI bs (nth T p)).getD 0<=_->∃b',_/\(lookI bs (nth T p)).getD 0<=_)
  rw[e1]
  rcases e3 with⟨e3,_⟩|⟨_,e4,e5⟩
  ·exact absurd (hk.mem_iff.mpr e3) hkp
  ·refine⟨by rw[e5],λhb=>?_⟩
   have e4:=of_decide_eq_false e4
   cases u with
   |none=>exact absurd ⟨hb,λx z=>nomatch z⟩ e4
   |some b' =>
    refine⟨b',Zjy e2,Int.not_lt.mp λz=>e4 ⟨hb,λx y=>?_⟩⟩
    cases y;exact z
 ·intro a b hab
  obtain⟨p,rfl,hp⟩:=pn a (I.fp _ hab)
  have:=I.lw _ _ hab
  rw[Ys]at this
  obtain⟨q,rfl,hq,hw,hh⟩:=(ZnK hrs).mp this
  exact⟨p,q,rfl,rfl,hp,hq,hw,hh⟩
 ·intro q b hb hw hh
  have hqn:=Zfp hT hb hw
  obtain⟨l1,l2,e⟩:=List.append_of_mem (pm q hqn)
  have dd:=ZqN hT _ b hb (Ye _) hw
  have pw:=hpw
  rw[e,List.pairwise_append]at pw
  have hb1:(b:Int)∈l1:=by
   have:=pm b hb
   rw[e]at this
   rcases Yq.mp this with z|z
   ·exact z
   ·rcases Ym.mp z with z|z
    ·have:b=q:=by omega
     subst this;omega
    ·have:=(Y0.mp pw.2.1).1 _ z
     rw[Zho,Zho]at this;omega
  rcases I.gr l1 q l2 e b (by rw[Ys];exact(ZnK hrs).mpr ⟨b,rfl,hb,hw,hh⟩) hb1 with⟨b',z1,z2⟩|⟨p,hp,z⟩
  ·exact .inl ⟨b',z1,by simpa using z2⟩
  ·obtain⟨p,rfl,hpn⟩:=pn p (by rw[e];exact YA _ hp)
   have:=pw.2.2 _ hp _ Yz
   rw[Zho,Zho]at this
   exact .inr ⟨p,z,by omega⟩
 ·intro k hkk
  exact hpm.mem_iff.mp (List.mem_reverse.mp (B.kq k (hk.mem_iff.mp hkk)))
theorem Zlu {n:Nat}{ks:List Int} (nd:ks.Nodup) (hs:ks.Pairwise (·<=·)) (hk:∀k∈ks,k∈nats (n:Int)):ks=ZdJ n ks:=by
 have e:ZdJ n ks=(nats (n:Int)).filter λp=>decide (p∈ks):=by
  unfold ZdJ nats
  rw[List.filter_map];rfl
 refine Zk0 ?_ hs ?_
 ·rw[e]
  refine(List.perm_ext_iff_of_nodup nd ((ZbD _).filter _)).mpr λa=>?_
  rw[YJ]
  exact⟨λh=>⟨hk a h,YB h⟩,λh=>YX h.2⟩
 ·rw[e]
  exact(Zsv _).filter _
theorem Zlv {n:Nat}{ks:List Int} (nd:ks.Nodup) (hk:∀k∈ks,k∈nats (n:Int)):(nats (n:Int)).countP (λy=>decide (y∈ks))=ks.length:=by
 rw[List.countP_eq_length_filter]
 refine List.Perm.length_eq ((List.perm_ext_iff_of_nodup ((ZbD _).filter _) nd).mpr λa=>?_)
 rw[YJ]
 exact⟨λh=>YX h.2,λh=>⟨hk a h,YB h⟩⟩
theorem Zgs.ok {T ns ks us:List Int}{cs:List (Int×List Int)} (hG:Zai T) (hl:ns.length=T.length) (h:Zgs T ns ks us cs):ZbY T ns ks (Zd8 (Zj T) us) (cs.map (·.2)):=by
 obtain⟨fo,bar,I,hus,nd,hks,hkn,hfl,hcs⟩:=h.Zfz hG hl
 obtain⟨h40,nsT,hT⟩:=id hG
 have eF:(Zj T).length=T.length:=Zar T
 have un:∀p,p<T.length->nth us p=bar (p:Int):=λp hp=>by
  rw[hus]
  unfold nth
  rw[Yn,YL,Jf hp];rfl
 have an:∀p,p<T.length->nth (Zd8 (Zj T) us) p=nth (Zj T) p+nth us p:=λp hp=>Zlt (by omega)
 have hu:∀p,p<T.length->nth (hgt (Zj T) (Zd8 (Zj T) us)) p=nth us p:=λp hp=>by rw[ZH (by omega),an p hp];omega
 have hrow:∀p,p<T.length->nth (hgt (Zj T) ns) p=nth ns p-nth (Zj T) p:=λp hp=>ZH (by omega)
 refine⟨ZqO (ls:=Zd8 (Zj T) us) hG ((Zih hG (by rw[Zii];exact eF)).mpr λp hp=>?_),?_,?_,?_,?_,hfl,?_⟩
 ·rcases Zbo hT hp with⟨z,_⟩|⟨q,z,hq,_⟩
  ·rw[Yd z]
  ·rw[Yb (by omega),z,Ys,hu p hp,hu q hq,un p hp,un q hq]
   have:=I.up hp
   rw[z]at this
   omega
 ·rw[hl];exact Zlu nd hks hkn
 ·intro p hp
  obtain⟨i,rfl,hi⟩:=ZbT.mp (hkn p hp)
  rw[Ys,an i hi,un i hi,(I.b1 i hi hp).2.2,hrow i hi];omega
 ·have e1:=hfl.countP_eq (λy=>decide (y∈ks))
  rw[Zlv nd hkn,List.countP_flatten,YW]at e1
  rw[<-e1,Yf]
  have:(cs.map ((List.countP λy=>decide (y∈ks)) ∘ (·.2)))=cs.map λ_=>1:=by
   refine List.map_congr_left λc hc=>?_
   obtain⟨⟨r,e⟩,h2,h3⟩:=hcs c hc
   have hm:c.1∈nats (T.length:Int):=hfl.mem_iff.mp (List.mem_flatten.mpr ⟨c.2,Yu.mpr ⟨c,hc,rfl⟩,by rw[e];exact Yz⟩)
   obtain⟨x,ex,hx⟩:=ZbT.mp hm
   exact I.ZoL hT h2 x r (show c.2=_ by rw[e,ex]) hx (I.first hT hx (by rw[<-ex];exact h3))
  rw[this,List.map_const',List.sum_replicate_nat,Nat.mul_one]
 ·intro z
  obtain⟨c,hc,e⟩:=Yu.mp z
  obtain⟨⟨r,e2⟩,_⟩:=hcs c hc
  rw[e2]at e
  cases e
 ·intro ch hch
  obtain⟨c,hc,rfl⟩:=Yu.mp hch
  exact I.chain (hcs c hc).2.1
theorem hgt_up {T ns:List Int} (hT:Zq ns T) {a b:Nat} (hb:b<T.length) (hw:a∈way T b):nth (hgt (Zj T) ns) a<=nth (hgt (Zj T) ns) b:=by
 have e:=hT.1
 have eF:(Zj T).length=T.length:=Zar T
 have hO:=(Zct hT (by omega)).mp hw
 have h1:=Zse hT (p:=b) (o:=a) (by omega) hO.1 hO.2
 rw[ZH (by omega),ZH (by omega),Zdf (by omega),Zdf (by omega)]
 omega
theorem Zij {n:Nat}{ks:List Int} (h:ks=ZdJ n ks):∀p∈ks,∃i:Nat,p=i/\i<n:=λp hp=>by
 rw[h]at hp
 unfold ZdJ at hp
 obtain⟨i,hi,rfl⟩:=Yu.mp hp
 exact⟨i,rfl,Yw.mp (YJ.mp hi).1⟩
theorem ZbY.no_two {T ns ks ms:List Int}{chs:List (List Int)} (h:ZbY T ns ks ms chs) (hl:ns.length=T.length) {r:List Int} (hr:r∈ZQ T (hgt (Zj T) ns)):¬ (r.getD 0 0∈ks/\r.getD 1 0∈ks):=by
 obtain⟨h1,h2,h3,_⟩:=h
 obtain⟨a,b,rfl,ha,hb,hw,hh⟩:=Zam hr
 rintro⟨z1,z2⟩
 have e1:=h3 _ z1
 have e2:=h3 _ z2
 have e1:nth ms a=nth ns a:=e1
 have e2:nth ms b=nth ns b:=e2
 have:=hgt_up h1 hb (ZbS.mp hw)
 have eF:(Zj T).length=T.length:=Zar T
 rw[ZH (by omega),ZH (by omega)]at this hh
 omega
theorem Zik {nsT T hs:List Int} (hT:Zq nsT T):∀ch:List Int,(∀x∈ch,∃i:Nat,x=i/\i<T.length)->Zh8 T hs ch=true->ch.Pairwise λx y=>x.toNat∈way T y.toNat/\nth hs y.toNat<nth hs x.toNat
 |[],_,_=>List.Pairwise.nil
 |[x],_,_=>by simp
 |x::y::r,hm,h=>by
  have h0:=List.all_eq_true.mp h
  have ih:=Zik hT (y::r) (λz hz=>hm z (YD _ hz)) (by
   unfold Zh8
   rw[List.all_eq_true]
   intro i hi
   have:=h0 (i+1) (Yw.mpr (by have:=Yw.mp hi;simp at this⊢;omega))
   exact this)
  have l0:=h0 0 (Yw.mpr (by simp))
  obtain⟨a,rfl,ha⟩:=hm x (by simp)
  obtain⟨b,rfl,hb⟩:=hm y (by simp)
  unfold ZqJ at l0
  rw[show nth ((a:Int)::(b:Int)::r) 0=(a:Int)from rfl,show nth ((a:Int)::(b:Int)::r) (0+1)=(b:Int)from rfl,Ys,Ys,Bool.and_eq_true]at l0
  have z1:=ZbS.mp (YX l0.1)
  have z2:=YX l0.2
  refine Y0.mpr ⟨λz hz=>?_,ih⟩
  rw[Ys]
  rcases Ym.mp hz with rfl|hz
  ·rw[Ys];exact⟨z1,z2⟩
  ·obtain⟨c,rfl,hc⟩:=hm z (by simp[hz])
   have:=(Y0.mp ih).1 _ hz
   rw[Ys,Ys]at this
   rw[Ys]
   exact⟨Zkj hT hc z1 this.1,by omega⟩
noncomputable def Indep (T hs S:List Int):Prop:=∀r∈ZQ T hs,¬ (r.getD 0 0∈S/\r.getD 1 0∈S)
theorem ZoM {T hs S:List Int} (hI:Indep T hs S) {ch:List Int} (hm:∀x∈ch,∃i:Nat,x=i/\i<T.length) (hp:ch.Pairwise λx y=>x.toNat∈way T y.toNat/\nth hs y.toNat<nth hs x.toNat):ch.countP (λy=>decide (y∈S))<=1:=by
 induction ch with
 |nil=>simp
 |cons x r ih =>
  rw[Y0]at hp
  by_cases z:x∈S
  ·have:r.countP (λy=>decide (y∈S))=0:=by
    rw[List.countP_eq_zero]
    intro y hy
    simp only[decide_eq_true_eq]
    intro k
    obtain⟨a,rfl,ha⟩:=hm x (by simp)
    obtain⟨b,rfl,hb⟩:=hm y (by simp[hy])
    obtain⟨h1,h2⟩:=hp.1 _ hy
    rw[Ys,Ys]at h1 h2
    refine hI [(a:Int),(b:Int)] ?_ ⟨z,k⟩
    unfold ZQ
    rw[List.mem_flatMap]
    refine⟨b,Yw.mpr hb,Yu.mpr ⟨(a:Int),YJ.mpr ⟨ZbS.mpr h1,YB ?_⟩,rfl⟩⟩
    rw[Ys];exact h2
   rw[List.countP_cons_of_pos (by simpa using z),this];exact Ye 1
  ·rw[List.countP_cons_of_neg (by simpa using z)]
   exact ih (λy hy=>hm y (YD _ hy)) hp.2
theorem ZbY.most {T ns ks ms S:List Int}{chs:List (List Int)} (h:ZbY T ns ks ms chs) (hI:Indep T (hgt (Zj T) ns) S) (nd:S.Nodup) (hS:∀k∈S,k∈nats (T.length:Int)):S.length<=ks.length:=by
 obtain⟨h1,h2,h3,h4,h5,h6,h7⟩:=h
 rw[<-h4,<-Zlv nd hS,<-h6.countP_eq (λy=>decide (y∈S)),List.countP_flatten]
 have:∀l:List (List Int),(∀ch∈l,ch∈chs)->(l.map (List.countP λy=>decide (y∈S))).sum<=l.length:=by
  intro l
  induction l with
  |nil=>intro _;simp
  |cons c l ih =>
   intro hl
   have hc:=hl c Yz
   have hm:∀x∈c,∃i:Nat,x=i/\i<T.length:=λx hx=>ZbT.mp (h6.mem_iff.mp (List.mem_flatten.mpr ⟨c,hc,hx⟩))
   have:=ZoM hI hm (Zik h1 c hm (h7 c hc))
   have:=ih λch hch=>hl ch (YD _ hch)
   rw[YH,List.sum_cons,YR]
   omega
 exact this chs λ_ h=>h
noncomputable def MadeIs (T ns ks:List Int) (mn:Int) (ms:List Int):Prop:=ms.length=T.length/\∀b,b<T.length->(nth ms b=mn-50+nth (Zj T) b\/∃a∈b::way T b,(a:Int)∈ks/\nth ms b=nth ns a+nth (Zj T) b-nth (Zj T) a)/\mn-50+nth (Zj T) b<=nth ms b/\∀a∈b::way T b,(a:Int)∈ks->nth ns a+nth (Zj T) b-nth (Zj T) a<=nth ms b
theorem ZbY.indep {T ns ks ms:List Int}{chs:List (List Int)} (h:ZbY T ns ks ms chs) (hl:ns.length=T.length):Indep T (hgt (Zj T) ns) ks:=λr hr=>h.no_two hl hr
theorem Zhb {f:Addr}{fd:FuncData} (F:Fun K "higher_pairs" "higher_pairs" Zaj f fd) (Z2:Callee P w K mg base "way_up" 1 ["tree","place"] (Zbz K mg)) (T:Txt K mg):FnOk P w K mg base (CXE P w) 2 f fd ["tree","heights"] (ZaZ K mg):=by
 refine F.okX Zd2 (λvs H Q E h=>?_) (λcdv A outer s H vs Q E hr h=>?_)
 ·obtain⟨t,h,T,hs,rfl,_⟩:=h;rfl
 obtain⟨t,h,T',hs,rfl,ht,hh,hn,hl,k1⟩:=h
 refine⟨_,(Zd (ZqF (i:=2) ["b","a","heights","tree"] [none,none,some 1,some 0] Zd2.nd rfl (Or.inl rfl) rfl rfl rfl (ZS rfl T.b_range (Za (Zk (Zn (K:=K) rfl) rfl T.b_len YE (Za (pv 0) Zc)) Zc)) (λ_ _ _ _ _=>(Zm (i:=0) (show(["b","a","heights","tree"]:List Str).Nodup from by decide +kernel) rfl (Or.inl rfl))) (λ_ _ _ _ _=>Zaf) (λ_ _ _ _ _=>(Zp8 (K:=K) rfl (Zh Z2 (hr.mono (by decide)) rfl Zz (Za (pv 3) (Za (pv 0) Zc))))) (λ_ _ _ _ _=>(Zm (i:=1) (show(["b","a","heights","tree"]:List Str).Nodup from by decide +kernel) rfl (Or.inl rfl))) (λ_ _ _ _ _=>Zec (Zu Zd1 (Zw (r:=Zl4 K) Zv (pv 2) (pv 1) (λ_ _=>rfl)) (Zw (r:=Zl4 K) Zv (pv 2) (pv 0) (λ_ _=>rfl)) (Zx _))) (λ_ _ _ _ _=>(Zbu (Za (pv 1) (Za (pv 0) Zc)))) ZC ZC)
   (Zi (ZE (Zk (ZiX (K:=K) rfl) rfl T.b_sorted ZeU (Za (pv 2) Zc))))),?_⟩
 walk_at "rd"
 have eL:(T'.map V.int).length=T'.length:=Yf ..
 refine⟨_,.inr (SqT.of ht),by omega,by rw[eL];omega,?_⟩
 rw[eL,Ys]
 refine ZmI T'.length (λi=>(List.range i).flatMap (Zei T' hs)) rfl (λi hi=>Yo (pairs_len T' hs i) (Yo (ZnJ (by omega) hn) (by decide))) (λi Hx s hi=>hi) (λHx s=>Ye _) ?_ ?_
 ·rintro i x acc Hx Hy hi tv s ⟨rfl,rfl⟩
  have ei:((0:Int)+(i:Int))=(i:Int):=by omega
  rw[ei]
  walk_at "rd"
  refine⟨t,T',i,rfl,.inr (SqT.of (s _ _ ht)),by omega,hi,λw H2 zw s2 hw=>⟨w,rfl,⟨_,SqL.of hw⟩,?_⟩⟩
  refine ZqG (Zbg T' i).length (ZcV T' hs i) (by unfold ZcV;simpa using tv.same s2) (λj hj=>Yo ZmQ (Yo (ZnJ (by omega) hn) (by decide))) (λj Hz sz hj=>⟨_,_,SqL.of (sz _ _ hw),Yi (by simpa using hj)⟩) (λHz sz=>⟨_,SqL.of (sz _ _ hw),by simp⟩) ?_ ?_
  ·rintro j x acc2 H5 H6 hj t5 s5 ⟨rfl,hx⟩
   have ex:=hx _ (SqL.of (s5 _ _ hw))
   rw[YL,Yi hj]at ex
   cases ex
   have hm:=Zlp (YC hj)
   have hh5:H6 h=some (.lst (hs.map V.int)):=(s.trans (s2.trans s5)) _ _ hh
   have ea:((Zbg T' i)[j]:Int)=(((Zbg T' i)[j].toNat:Nat):Int):=by omega
   walk_at "rd"
   refine⟨_,SqL.of hh5,_,(congrArg (atI _) ea).trans (Zay (by omega)),_,SqL.of hh5,_,Zay (by omega),?_⟩
   refine⟨_,rfl,_,rfl,Z1 (λc=>⟨by decide,λp hp=>C2W.next hj ?_ (s5.Z8 hp)⟩) (λc=>C2W.next hj ?_ s5)⟩
   ·rw[Zic hj,Yd c];exact(t5.same ((Ze.refl _).upd hp)).snoc Zb
   ·rw[Zic hj,Yb c];exact t5
  ·intro acc2 H5 t5 s5
   rw[ZoK]at t5
   exact C2W.next hi t5 (s.trans (s2.trans s5))
 ·intro l acc H' s' hl' tv
  refine⟨l,rfl,_,tv.at hl',λr hr=>?_,Yo (pairs_len T' hs _) (Yo (ZnJ (by omega) hn) (by decide)),λrs' l2 H2 p1 p2 z2 s2 t2=>k1 l2 rs' H2 ((s'.Z8 hl').free z2) ((s'.Z8 hl').trans s2) t2 ⟨p1,p2⟩⟩
  obtain⟨a,b,rfl,hb,_⟩:=ZoJ hr
  exact⟨a,b,rfl,by omega,by omega⟩
theorem Zgx {f:Addr}{fd:FuncData} (F:Fun K "_law_near_row" "_law_near_row" Z4 f fd) (Zl:Callee P w K mg base "_law_pick" 1 ["pool","many"] (ZaQ K mg)) (Zcy:Callee P w K mg base "_law_kin_row" 2 ["pool","tree"] (ZbX K mg)) (T:Txt K mg):FnOk P w K mg base (CXE P w) 3 f fd ["pool","tree"] (ZbB K mg):=by
 refine F.okX ZD (λvs H Q E h=>?_) (λcdv A outer s H vs Q E hr h=>?_)
 ·obtain⟨p,t,T,rfl,_⟩:=h;rfl
 obtain⟨p,t,T',rfl,hP,ht,hn,hT,k1⟩:=h
 refine⟨_,(Zd (Zo (i:=2) ZD.nd rfl (Or.inr rfl) (Zk (Zn (K:=K) rfl) rfl T.b_len YE (Za (pv 1) Zc)))
   (Zd (Zo (i:=3) ZD.nd rfl (Or.inl rfl) (ZT (ZhH (K:=K) rfl) rfl T.b_list ZjT (Za (Zh Zcy (hr.mono (by decide)) rfl Zz (Za (pv 0) (Za (pv 1) Zc))) Zc)))
   (Zd (Zo (i:=4) ZD.nd rfl (Or.inl rfl) (Zh Zl (hr.mono (by decide)) rfl Zz (Za (pv 0) (Za Zf Zc))))
   (Zd (Zag (ZaE PassesOwn.never rfl (ZS rfl T.b_range (Za (Zw Zv (Z9 (Za Zf (Za (Zh Zl (hr.mono (by decide)) rfl Zz (Za (pv 0) (Za Zf Zc))) (Za (Zh Zl (hr.mono (by decide)) rfl Zz (Za (pv 0) (Za (Zs ZaW (pv 2) Zf) Zc))) Zc)))) (Zh Zl (hr.mono (by decide)) rfl Zz (Za (pv 0) (Za Zf Zc))) (λ_ _=>rfl)) Zc)) (Zm (i:=5) ZD.nd rfl (Or.inl rfl)) (Zi (ZaA (Zu Zd1 (pv 2) Zf (Zx _)) (Zd (Zo (i:=6) ZD.nd rfl (Or.inl rfl) (Zh Zl (hr.mono (by decide)) rfl Zz (Za (pv 0) (Za (pv 2) Zc))))
   (Zi (Zco (Zs ZaW (Zw Zv (pv 3) (pv 6) (λ_ _=>rfl)) (Zs Zbj (Zs Zcp (Zh Zl (hr.mono (by decide)) rfl Zz (Za (pv 0) (Za Zf Zc))) Zf) (Zw Zaa (Zbu (Za Zf (Za Zf (Za Zf (Za (Zs Zfg Zf Zf) Zc))))) (Zh Zl (hr.mono (by decide)) rfl Zz (Za (pv 0) (Za Zf Zc))) (λ_ _=>rfl)))) (Zdu (pv 3) (pv 6) set_list (λ_=>rfl))))) ZK))))
   (Zd (ZaA (Zu Zdd (pv 4) Zf (Zx _)) (Zi (Zdx (i:=3) ["place","pool"] [none,some 0] ZD.nd rfl (Or.inl rfl) rfl rfl rfl (ZS rfl T.b_range (Za (pv 2) Zc)) (λ_ _ _ _ _=>(Zm (i:=0) (show(["place","pool"]:List Str).Nodup from by decide +kernel) rfl (Or.inl rfl))) (λ_ _ _ _ _=>Zaf) (λ_ _ _ _ _=>(Zh Zl (hr.mono (by decide)) rfl Zz (Za (pv 1) (Za Zf Zc)))) ZC)) ZK)
   (Zd (ZaA (Zu Zdd (pv 4) Zf (Zx _)) (Zi (Zdx (i:=3) ["place","pool","many"] [none,some 0,some 2] ZD.nd rfl (Or.inl rfl) rfl rfl rfl (ZS rfl T.b_range (Za (pv 2) Zc)) (λ_ _ _ _ _=>(Zm (i:=0) (show(["place","pool","many"]:List Str).Nodup from by decide +kernel) rfl (Or.inl rfl))) (λ_ _ _ _ _=>Zaf) (λ_ _ _ _ _=>(Zs Zcp (Zh Zl (hr.mono (by decide)) rfl Zz (Za (pv 1) (Za (Zs ZaW (pv 2) Zf) Zc))) Zf)) ZC)) ZK)
   (Zd (ZaA (Zu Zdd (pv 4) Zf (Zx _)) (Zd (Zo (i:=7) ZD.nd rfl (Or.inr rfl) (Zs Zcp Zf (Zs Zbj Zf (Zh Zl (hr.mono (by decide)) rfl Zz (Za (pv 0) (Za Zf Zc))))))
   (Zi (Zdx (i:=3) ["place","turned","pool"] [none,some 7,some 0] ZD.nd rfl (Or.inl rfl) rfl rfl rfl (ZS rfl T.b_range (Za (pv 2) Zc)) (λ_ _ _ _ _=>(Zm (i:=0) (show(["place","turned","pool"]:List Str).Nodup from by decide +kernel) rfl (Or.inl rfl))) (λ_ _ _ _ _=>Zaf) (λ_ _ _ _ _=>(Zs ZjH (Zs Zbj (pv 1) (pv 0)) (Zs ZaW Zf (Zh Zl (hr.mono (by decide)) rfl Zz (Za (pv 2) (Za Zf Zc)))))) ZC))) ZK)
   (Zi (ZE (ZT (Za6 (K:=K) rfl) rfl T.b_tuple Zbk (Za (pv 3) Zc))))))))))),?_⟩
 have eL:(T'.map V.int).length=T'.length:=Yf ..
 refine Zao (fun σ Hx=>σ=[some (.ref p),some (.ref t),some (.int (T'.length:Int)),none,none,none,none,none]/\Hx=H) (λR hR=>?_) ?_
 ·walk_at "rd"
  exact⟨_,.inr (SqT.of ht),hR _ _ ⟨by rw[eL],rfl⟩⟩
 rintro σ H0 ⟨rfl,rfl⟩
 refine Zao (fun σ Hx=>∃(r:Addr) (ns:List Int),σ=[some (.ref p),some (.ref t),some (.int (T'.length:Int)),some (.ref r),none,none,none,none]/\H0 r=none/\ns.length=T'.length/\Hx r=some (.lst (ns.map V.int))/\Zr Hx p/\Exc p H0 Hx) (λR hR=>?_) ?_
 ·walk_at "rd"
  refine⟨p,t,T',rfl,hP,ht,hn,hT,λr ms H1 zr hT1 hr1 P1 e1=>⟨r,rfl,_,.inr (SqT.of hr1),λl zl=>hR _ _ ⟨l,ms,rfl,e1.free (P1.ne zl) zl,hT1.1.symm,Zb,P1.upd zl,e1.same ((Ze.refl H1).upd zl)⟩⟩⟩
 rintro σ H1 ⟨r,ns,rfl,zr,hns,hr1,P1,e1⟩
 refine Zao (fun σ Hx=>∃(way:Int),σ=[some (.ref p),some (.ref t),some (.int (T'.length:Int)),some (.ref r),some (.int way),none,none,none]/\Hx r=some (.lst (ns.map V.int))/\Zr Hx p/\Exc p H0 Hx) (λR hR=>?_) ?_
 ·walk_at "rd"
  exact⟨p,_,rfl,by decide,by decide,P1,λd H2 d0 d1 P2 e2=>hR _ _ ⟨d,rfl,e2 _ _ (hP.ne zr) hr1,P2,e1.trans e2⟩⟩
 clear hr1 P1 e1 H1
 rintro σ H1 ⟨way,rfl,hr1,P1,e1⟩
 refine Zao (Zlr p t T'.length way H0) (λR hR=>?_) ?_
 ·walk_at "rd"
  have nrp:r≠p:=hP.ne zr
  refine⟨p,_,rfl,by decide,by decide,P1,λd1 H2 _ _ P2 e2=>⟨p,_,rfl,by omega,by omega,P2,λd2 H3 _ _ P3 e3=>⟨by decide,λq hq=>⟨p,_,rfl,by decide,by decide,P3.upd hq,λd3 H4 a0 a1 P4 e4=>?_⟩⟩⟩⟩
  have hq4:=e4 _ _ (P3.ne hq) Zb
  obtain⟨v,hv,j,rfl,j0,j1⟩:=ZjW (xs:=[V.int 0,V.int d1,V.int d2]) (i:=d3) (λv=>∃n:Int,v=V.int n/\0<=n/\n<100) a0 a1 (by
   intro x hx
   simp only[Ym,List.not_mem_nil,or_false]at hx
   rcases hx with rfl|rfl|rfl<;>exact⟨_,rfl,by omega,by omega⟩)
  have s3:=(Ze.refl H3).upd (o:=.lst [V.int 0,V.int d1,V.int d2]) hq
  have e5:Exc p H1 H4:=((e2.trans e3).same s3).trans e4
  refine⟨_,_,rfl,SqL.of hq4,_,hv,_,rfl,by omega,by omega,Za5 (λi σ Hx=>Zlr p t T'.length way H0 σ Hx) ⟨r,ns,none,none,none,rfl,zr,hns,e5 _ _ nrp hr1,P4,e1.trans e5⟩ ?_ ?_⟩
  ·clear hr1 P1 e1 hns zr nrp e5 s3 e4 e3 e2 P4 P3 P2 hq4
   rintro i σ Hx hi ⟨r,ns,v5,v6,v7,rfl,zr,hns,hr1,P1,e1⟩
   have nrp:r≠p:=hP.ne zr
   walk_at "rd"
   refine Z1 (λc=>?_) λ_=>⟨r,ns,_,v6,v7,rfl,zr,hns,hr1,P1,e1⟩
   refine⟨p,_,rfl,by omega,by omega,P1,λat_ H2 b0 b1 P2 e2=>⟨_,at_,rfl,SqL.of (e2 _ _ nrp hr1),_,(congrArg (atI _) (Jc b0).symm).trans (Zay (by omega)),p,_,rfl,by decide,by decide,P2,λd H3 c0 c1 P3 e3=>⟨d,rfl,cp57',by decide,λq hq=>⟨p,_,rfl,by decide,by decide,P3.upd hq,λu H4 u0 u1 P4 e4=>?_⟩⟩⟩⟩
   have hq4:=e4 _ _ (P3.ne hq) Zb
   obtain⟨v,hv,z,rfl⟩:=ZjW (xs:=[V.int 1,V.int 1,V.int 1,V.int (10 ^ Int.toNat 57)]) (i:=u) (λv=>∃n:Int,v=V.int n) u0 u1 (by
    intro x hx
    simp only[Ym,List.not_mem_nil,or_false]at hx
    rcases hx with rfl|rfl|rfl|rfl<;>exact⟨_,rfl⟩)
   have e5:Exc p Hx H4:=((e2.trans e3).same ((Ze.refl H3).upd hq)).trans e4
   have hr4:=e5 _ _ nrp hr1
   refine⟨_,u,rfl,SqT.of hq4,_,hv,z,rfl,ZhG (by omega) (by omega),_,rfl,_,_,rfl,hr4,at_.toNat,(congrArg (ixN _) (Jc b0).symm).trans (Zdz (by rw[Yf];omega)),?_⟩
   exact⟨r,ns.set at_.toNat _,_,_,v7,rfl,zr,by simp[hns],by rw[Zb,List.map_set],P4.ZjZ nrp,(e1.trans e5).ZjZ zr⟩
  ·rintro σ Hx ⟨r,ns,v5,v6,v7,rfl,zr,hns,hr1,P1,e1⟩
   exact hR _ _ ⟨r,ns,v5,v6,v7,rfl,zr,hns,hr1,P1,e1⟩
 clear hr1 P1 e1 H1 zr hns
 rintro σ H1 ⟨r,ns,v5,v6,v7,rfl,zr,hns,hr1,P1,e1⟩
 refine Zao (Zlr p t T'.length way H0) (λR hR=>?_) ?_
 ·walk_at "rd"
  refine Z1 (λ_=>⟨by omega,by omega,?_⟩) λ_=>hR _ _ ⟨r,ns,v5,v6,v7,rfl,zr,hns,hr1,P1,e1⟩
  rw[Ys]
  refine Zgu P1 (by omega) (λj Hz R hj Pz hR2=>?_) λl bs Hz hbs Pz ez zl=>hR _ _ ⟨l,bs,v5,v6,v7,rfl,(e1.trans ez).free (Pz.ne zl) zl,hbs,Zb,Pz.upd zl,(e1.trans ez).same ((Ze.refl Hz).upd zl)⟩
  walk_at "rd"
  exact⟨p,_,rfl,by decide,by decide,Pz,λz H4 z0 z1 P4 e4=>hR2 z H4 P4 e4⟩
 clear hr1 P1 e1 H1 zr hns
 rintro σ H1 ⟨r,ns,v5,v6,v7,rfl,zr,hns,hr1,P1,e1⟩
 refine Zao (Zlr p t T'.length way H0) (λR hR=>?_) ?_
 ·walk_at "rd"
  refine Z1 (λ_=>⟨by omega,by omega,?_⟩) λ_=>hR _ _ ⟨r,ns,v5,v6,v7,rfl,zr,hns,hr1,P1,e1⟩
  rw[Ys]
  refine Zgu P1 (by omega) (λj Hz R hj Pz hR2=>?_) λl bs Hz hbs Pz ez zl=>hR _ _ ⟨l,bs,v5,v6,v7,rfl,(e1.trans ez).free (Pz.ne zl) zl,hbs,Zb,Pz.upd zl,(e1.trans ez).same ((Ze.refl Hz).upd zl)⟩
  walk_at "rd"
  exact⟨p,_,rfl,by omega,by omega,Pz,λz H4 z0 z1 P4 e4=>⟨z,rfl,hR2 _ H4 P4 e4⟩⟩
 clear hr1 P1 e1 H1 zr hns
 rintro σ H1 ⟨r,ns,v5,v6,v7,rfl,zr,hns,hr1,P1,e1⟩
 refine Zao (Zlr p t T'.length way H0) (λR hR=>?_) ?_
 ·walk_at "rd"
  refine Z1 (λ_=>⟨p,_,rfl,by decide,by decide,P1,λx H2 x0 x1 P2 e2=>⟨x,rfl,ZhG (by omega) (by omega),by omega,by omega,?_⟩⟩) λ_=>hR _ _ ⟨r,ns,v5,v6,v7,rfl,zr,hns,hr1,P1,e1⟩
  rw[Ys]
  refine Zgu P2 (by omega) (λj Hz R hj Pz hR2=>?_) λl bs Hz hbs Pz ez zl=>hR _ _ ⟨l,bs,v5,v6,_,rfl,(e1.trans (e2.trans ez)).free (Pz.ne zl) zl,hbs,Zb,Pz.upd zl,(e1.trans (e2.trans ez)).same ((Ze.refl Hz).upd zl)⟩
  walk_at "rd"
  refine⟨ZhG (by omega) (by omega),p,_,rfl,by decide,by decide,Pz,λz H4 z0 z1 P4 e4=>⟨z,rfl,⟨by omega,by omega⟩,hR2 _ H4 P4 e4⟩⟩
 clear hr1 P1 e1 H1 zr hns
 rintro σ H1 ⟨r,ns,v5,v6,v7,rfl,zr,hns,hr1,P1,e1⟩
 walk_at "rd"
 exact⟨_,.inl ⟨SqL.of hr1,λl zl=>k1 l ns _ (e1.free (P1.ne zl) zl) hns Zb (P1.upd zl) (e1.same ((Ze.refl H1).upd zl))⟩⟩
theorem Zsw {ns:List Int}{i:Nat} (h:i<ns.length):nth ns i∈ns:=by
 unfold nth
 rw[Yn,Yi h];exact YC h
theorem atI_hd {x:V}{os:List V}:atI (x::os) 0=some x:=by
 have:=ZhF (xs:=x::os) (j:=0) (show(0:Int)=((0:Nat):Int)from rfl) (by simp)
 simpa using this
noncomputable def Zgy (T hs qs us:List Int) (i:Nat):Prop:=us.length=T.length/\∀p:Nat,p<T.length->nth us p=if (p:Int)∈qs.take i/\nth T p≠-1 then max (nth hs p) (nth us (nth T p).toNat)else nth hs p
theorem ZqP {us:List Int}{j:Nat}{z:Int} (h:j<us.length):nth (us.set j z) j=z:=by
 unfold nth
 rw[Yn,List.getElem?_set_self h];rfl
theorem Zil {us:List Int}{j p:Nat}{z:Int} (h:p≠j):nth (us.set j z) p=nth us p:=by
 unfold nth
 rw[Yn,Yn,List.getElem?_set_ne (Ne.symm h)]
theorem ZoN {T hs qs us:List Int}{i j:Nat} (h:Zgy T hs qs us i) (e:qs[i]?=some (j:Int)) (ht:nth T j=-1):Zgy T hs qs us (i+1):=by
 refine⟨h.1,λp hp=>?_⟩
 rw[h.2 p hp]
 by_cases c:p=j
 ·subst c
  rw[Yb (λz=>z.2 ht),Yb (λz=>z.2 ht)]
 ·have:(p:Int)∈qs.take (i+1)↔(p:Int)∈qs.take i:=by rw[Zgw e];exact⟨λz=>z.elim id λy=>absurd (by omega) c,.inl⟩
  simp only[this]
theorem ZoO {ns T hs qs us:List Int}{i j k:Nat} (hT:Zq ns T) (hpm:qs.Perm (nats (T.length:Int))) (hpw:qs.Pairwise λx y=>dpI T x<=dpI T y) (h:Zgy T hs qs us i) (e:qs[i]?=some (j:Int)) (hj:j<T.length) (hk:k<T.length) (ht:nth T j=k):Zgy T hs qs (us.set j (max (nth us j) (nth us k))) (i+1):=by
 have eT:=hT.1
 have hkj:k≠j:=λz=>by
  have:=Zjw hT (p:=j) (by omega) ht
  rw[z]at this;omega
 have nj:(j:Int)∉qs.take i:=λz=>by
  have nd:qs.Nodup:=hpm.nodup_iff.mpr (ZbD _)
  obtain⟨m,hm,em⟩:=List.mem_take_iff_getElem.mp z
  obtain⟨hi,ei⟩:=Yx.mp e
  have:=(List.getElem_inj nd (h₀:=by omega) (h₁:=hi)).mp (em.trans ei.symm)
  omega
 have uj:=h.2 j hj
 rw[Yb (λz=>nj z.1)]at uj
 refine⟨by rw[List.length_set];exact h.1,λp hp=>?_⟩
 by_cases c:p=j
 ·subst c
  rw[ZqP (by rw[h.1];exact hp),Yd ⟨(Zgw e).mpr (.inr rfl),by omega⟩,ht,show((k:Nat):Int).toNat=k by omega,Zil hkj,uj]
 ·rw[Zil c,h.2 p hp]
  have:(p:Int)∈qs.take (i+1)↔(p:Int)∈qs.take i:=by rw[Zgw e];exact⟨λz=>z.elim id λy=>absurd (by omega) c,.inl⟩
  simp only[this]
  by_cases y:(p:Int)∈qs.take i/\nth T p≠-1
  ·rw[Yd y,Yd y]
   rcases ZG hT (p:=p) (by omega)with z|⟨q,ez,hq,_,_⟩
   ·exact absurd z y.2
   ·rw[ez,show((q:Nat):Int).toNat=q by omega,Zil (λz=>?_)]
    subst z
    exact nj ((ZgR hT hpm hpw hp (by omega) ez).2 y.1)
  ·rw[Yb y,Yb y]
theorem ZqQ {T hs qs us:List Int} (hpm:qs.Perm (nats (T.length:Int))) (h:Zgy T hs qs us qs.length):ZmM T hs us:=by
 refine⟨h.1,λp hp=>?_⟩
 rw[h.2 p hp,List.take_length]
 have mq:(p:Int)∈qs:=hpm.mem_iff.mpr (Yu.mpr ⟨p,Yw.mpr (by omega),rfl⟩)
 by_cases c:nth T p=-1
 ·rw[Yd c,Yb (λz=>z.2 c)]
 ·rw[Yb c,Yd ⟨mq,c⟩]
theorem ZqR {T ls us:List Int} (hG:Zai T) (hl:ls.length=T.length) (h:ZmM T (hgt (Zj T) ls) us):Zlj T ls (Zd8 (Zj T) us)/\∀p,p<T.length->nth (Zd8 (Zj T) us) p=nth (Zj T) p+nth us p:=by
 have eF:(Zj T).length=T.length:=Zar T
 have e2:∀p,p<T.length->nth (Zd8 (Zj T) us) p=nth (Zj T) p+nth us p:=λp hp=>Zlt (by omega)
 refine⟨(Zih hG (by rw[Zii];exact eF)).mpr λp hp=>?_,e2⟩
 have key:∀q,q<T.length->nth (hgt (Zj T) (Zd8 (Zj T) us)) q=nth us q:=λq hq=>by rw[ZH (by omega),e2 q hq];omega
 rw[key p hp,h.2 p hp]
 obtain⟨_,nsT,hT⟩:=hG
 have eT:=hT.1
 rcases ZG hT (p:=p) (by omega)with z|⟨q,ez,hq,_,_⟩
 ·rw[Yd z,Yd z]
 ·rw[Yb (by omega),Yb (by omega),ez,show((q:Nat):Int).toNat=q by omega,key q (by omega)]
theorem Zkk {m j2:Nat}{r:List Nat}{P:Nat->Bool} (h:(List.range m).filter P=j2::r):j2<m/\P j2=true/\∀j,j<j2->P j=false:=by
 have h2:j2∈(List.range m).filter P:=by rw[h];exact Yz
 obtain⟨m1,m2⟩:=YJ.mp h2
 refine⟨Yw.mp m1,m2,λj hj=>?_⟩
 cases hp:P j with
 |false=>rfl
 |true =>
  have hin:j∈(List.range m).filter P:=YJ.mpr ⟨Yw.mpr (by have:=Yw.mp m1;omega),hp⟩
  have hs:((List.range m).filter P).Pairwise (· < ·):=List.Pairwise.filter _ List.pairwise_lt_range
  rw[h]at hin hs
  rcases Ym.mp hin with e|hin
  ·omega
  ·have:=(Y0.mp hs).1 j hin
   omega
theorem Zi3 {f:Addr}{fd:FuncData} (F:Fun K "from_below" "from_below" ZaN f fd) (Z2:Callee P w K mg base "way_up" 1 ["tree","place"] (Zbz K mg)) (L:LamD K mg "from_below" f) (B:BM mg base) (T:Txt K mg):FnOk P w K mg base (CXE P w) 5 f fd ["tree"] (ZbE K mg):=by
 refine F.okL L B ZiZ (λvs H Q E h=>?_) (λcdv A outer s H vs Q E LI hr h=>?_)
 ·obtain⟨t,T,rfl,_⟩:=h;rfl
 obtain⟨t,T',rfl,ht,hG,hTb,k1⟩:=h
 refine⟨_,(Zi (ZE (Zox (Nc:=["place","tree"]) (js:=[none,some 0]) (pn:="place") (q:=Zld "from_below") (P:=Zh0 K mg "from_below") rfl hr ⟨rfl,rfl,rfl,rfl,rfl,rfl,rfl,λ_ _ _ _ _ _=>rfl⟩ (λ_ _ _ _ _ _=>(Zk (Zn (K:=K) rfl) rfl T.b_len YE (Za (Zh Z2 ((hr.in1.in1.deeper _).mono (by decide)) rfl Zz (Za (pv 1) (Za (pv 0) Zc))) Zc))) rfl T.b_sorted (Za (Zn9 rfl T.b_range (Za (Zk (Zn (K:=K) rfl) rfl T.b_len YE (Za (pv 0) Zc)) Zc)) Zc) (ZfC (Zqr ⟨LI.code,LI.bm,LI.ql⟩ rfl) (ZfC Zhs Zl0))))),?_⟩
 walk_at "rd"
 have eL:(T'.map V.int).length=T'.length:=Yf ..
 have h40:=hG.1
 refine⟨_,.inr (SqT.of ht),by omega,by omega,λp1 hp1=>?_⟩
 rw[eL]
 have g1:=(Ze.refl H).Z8 (o:=.rng 0 (T'.length:Int)) hp1
 have h1:=Zb (H:=H) (a:=p1) (o:=.rng 0 (T'.length:Int))
 generalize upd H p1 (.rng 0 (T'.length:Int))=H4 at g1 h1⊢
 refine⟨g1 _ _ hTb,λf1 H5 zf s5 LO=>⟨_,s5 _ _ h1,by omega,by omega,LO,dpI T',λi H6 i0 i1 s6=>?_,λps l H6 hpm hpw s6 zl hl=>k1 l ps H6 ((g1.trans s5).free zl) ((g1.trans s5).trans s6) hpm hpw hl⟩⟩
 obtain⟨j,rfl⟩:=Y2 i0
 have g6:=(g1.trans s5).trans s6
 exact⟨t,T',j,rfl,.inr (SqT.of (g6 _ _ ht)),by omega,by omega,λw H7 zw s7 hw=>⟨w,rfl,_,.inl (SqL.of hw),by rw[Yf];rfl,s7⟩⟩
theorem ZoP {f:Addr}{fd:FuncData} (F:Fun K "row_by" "row_by" Zdo f fd) (T:Txt K mg):FnOk P w K mg base (CXE P w) 1 f fd ["flat","heights"] (Zdr K mg):=by
 refine F.okX ZoG (λvs H Q E h=>?_) (λcdv A outer s H vs Q E hr h=>?_)
 ·obtain⟨f,h,F,us,rfl,_⟩:=h;rfl
 obtain⟨f,h,Fl,us,rfl,hf,hh,e,hn,k1⟩:=h
 refine⟨_,(Zi (ZE (ZT (Za6 (K:=K) rfl) rfl T.b_tuple Zbk (Za (Zb8 ["least","height"] [none,none] rfl rfl rfl (Zkc (K:=K) rfl rfl T.b_zip (Za (pv 0) (Za (pv 1) Zc))) (λ_ _ _ _ _=>(ZjV (K:=K) (n:=2) rfl rfl (ZN (Zm (i:=0) (show(["least","height"]:List Str).Nodup from by decide +kernel) rfl (Or.inl rfl)) (ZN (Zm (i:=1) (show(["least","height"]:List Str).Nodup from by decide +kernel) rfl (Or.inl rfl)) Zb7)))) (λ_ _ _ _ _=>Zaf) (λ_ _ _ _ _=>(Zs ZaW (pv 0) (pv 1))) (ZhD (Zci ZC (Zci ZC ZhC)))) Zc)))),?_⟩
 walk_at "rd"
 obtain⟨tg,hB⟩:=SqB.of (K:=K) (H:=H) (a:=f) (xs:=Fl.map V.int) (.inr (SqT.of hf))
 obtain⟨tu,hB2⟩:=SqB.of (K:=K) (H:=H) (a:=h) (xs:=us.map V.int) (.inl (SqL.of hh))
 refine⟨tg,tu,_,hB,_,hB2,?_⟩
 refine comp_map (n:=Fl.length) (λi=>V.int (nth Fl i+nth us i)) (YF (show _<=1000 by omega) (by decide)) (λi Hx s hi=>⟨_,_,_,_,s.Zd7 hB,s.Zd7 hB2,ZaK (by omega),ZaK (by omega)⟩) (λHx s=>⟨_,_,s.Zd7 hB,s.Zd7 hB2,.inl (by rw[Yf];exact Ye _)⟩) ?_ ?_
 ·rintro i x Hx Hy hi s ⟨q,x,y,hq,rfl,rfl,hx,hy⟩
  have ex:=hx _ (s.Zd7 hB)
  have ey:=hy _ (s.Zd7 hB2)
  rw[ZaK (by omega)]at ex
  rw[ZaK (by omega)]at ey
  cases ex;cases ey
  walk_at "rd"
  exact⟨_,SqT.of Zb,rfl,_,_,rfl,_,_,rfl,rfl,_,rfl,_,rfl,CW.next hi rfl (s.Z8 hq)⟩
 ·intro l Hx s hl
  have e1:(List.range Fl.length).map (λi=>V.int (nth Fl i+nth us i))=(Zd8 Fl us).map V.int:=by unfold Zd8;rw[YW];rfl
  rw[e1]
  exact⟨l,rfl,_,.inl ⟨SqL.of Zb,λq hq=>k1 q _ ((s.Z8 hl).Z8 hq) Zb⟩⟩
theorem ZoQ {f:Addr}{fd:FuncData} (F:Fun K "lifted" "lifted" Zdp f fd) (ZaT:Callee P w K mg base "from_below" 5 ["tree"] (ZbE K mg)) (T:Txt K mg):FnOk P w K mg base (CXE P w) 6 f fd ["tree","heights"] (Zgp K mg):=by
 refine F.okX Zgt (λvs H Q E h=>?_) (λcdv A outer s H vs Q E hr h=>?_)
 ·obtain⟨t,h,T,hs,rfl,_⟩:=h;rfl
 obtain⟨t,h,T',hs,rfl,ht,hh,hG,hl,hTb,k1⟩:=h
 refine⟨_,(Zd (Zo (i:=2) Zgt.nd rfl (Or.inl rfl) (ZT (ZhH (K:=K) rfl) rfl T.b_list ZjT (Za (pv 1) Zc)))
   (Zd (Zag (ZaE PassesOwn.never rfl (Zbh (Zjj (K:=K) rfl (Zh ZaT (hr.mono (by decide)) rfl Zz (Za (pv 0) Zc)) (ZfB Zdv Zf))) (Zm (i:=3) Zgt.nd rfl (Or.inl rfl)) (Zi (ZaA (Zu Znb (Zw Zaa (pv 0) (pv 3) (λ_ _=>rfl)) Zf (Zx _)) (Zi (Zco (Zk (Zgc rfl) rfl T.b_max ZhE (Za (Zw Zv (pv 2) (pv 3) (λ_ _=>rfl)) (Za (Zw Zv (pv 2) (Zw Zaa (pv 0) (pv 3) (λ_ _=>rfl)) (λ_ _=>rfl)) Zc))) (Zdu (pv 2) (pv 3) set_list (λ_=>rfl)))) ZK))))
   (Zi (ZE (pv 2))))),?_⟩
 walk_at "rd"
 have eL:(T'.map V.int).length=T'.length:=Yf ..
 obtain⟨h40,nsT,hT⟩:=id hG
 have eT:=hT.1
 refine⟨_,.inl (SqL.of hh),λl zl=>?_⟩
 have g1:=(Ze.refl H).Z8 (o:=.lst (hs.map V.int)) zl
 have h1:=Zb (H:=H) (a:=l) (o:=.lst (hs.map V.int))
 generalize upd H l (.lst (hs.map V.int))=H1 at g1 h1⊢
 refine⟨t,T',rfl,g1 _ _ ht,hG,ZbQ.same hTb g1,λq ps H2 zq s2 hpm hpw hq=>⟨q,rfl,_,SqL.of hq,λp zp=>?_⟩⟩
 have nlq:l≠q:=λz=>by rw[z,zq]at h1;cases h1
 have e2:(ps.map V.int).reverse=ps.reverse.map V.int:=(List.map_reverse ..).symm
 rw[e2]
 have hpm2:ps.reverse.Perm (nats (T'.length:Int)):=(List.reverse_perm ps).trans hpm
 have hpw2:ps.reverse.Pairwise λx y=>dpI T' x<=dpI T' y:=List.pairwise_reverse.mpr hpw
 generalize ps.reverse=qs at hpm2 hpw2⊢
 have g3:=s2.Z8 (o:=.lst (qs.map V.int)) zp
 have h3:=Zb (H:=H2) (a:=p) (o:=.lst (qs.map V.int))
 have nlp:l≠p:=λz=>by rw[<-z,s2 _ _ h1]at zp;cases zp
 generalize upd H2 p (.lst (qs.map V.int))=H3 at g3 h3⊢
 have g13:=g1.trans g3
 refine⟨⟨_,SqL.of h3⟩,Zgi (n:=qs.length) (λi σ Hx=>∃(v3:Option V) (us:List Int),σ=[some (.ref t),some (.ref h),some (.ref l),v3]/\Zgy T' hs qs us i/\Hx l=some (.lst (us.map V.int))/\Hx p=some (.lst (qs.map V.int))/\Ze H Hx) ⟨none,hs,rfl,⟨hl,λp hp=>by rw[Yb (λz=>by simpa using z.1)]⟩,g3 _ _ h1,h3,g13⟩ (λi σ Hx hi ⟨_,_,_,_,_,h,_⟩=>⟨_,_,SqL.of h,ZaK hi⟩) (fun σ Hx ⟨_,_,_,_,_,h,_⟩=>⟨_,SqL.of h,by rw[Yf];exact Ye _⟩) ?_ ?_⟩
 ·rintro i x σ Hx Hx' hi ⟨v3,us,rfl,hL,hlx,hpx,sx⟩ ⟨rfl,hx⟩
  have e1:=hx _ (SqL.of hpx)
  rw[ZaK hi]at e1
  cases e1
  have eqi:qs[i]?=some (nth qs i):=by unfold nth;rw[Yn,Yi hi];rfl
  have mq:=hpm2.mem_iff.mp (Zsw hi)
  unfold nats at mq
  obtain⟨j,hj,ej⟩:=Yu.mp mq
  have hj':=Yw.mp hj
  have hj2:j<T'.length:=by omega
  rw[<-ej]at eqi⊢
  clear mq hx ej hj
  walk_at "rd"
  have eu:=hL.1
  refine⟨_,SqT.of (sx _ _ ht),_,Zay hj2,_,rfl,Z1 (λc0=>?_) λc0=>?_⟩
  ·rcases ZG hT (p:=j) (by omega)with e|⟨k,e,hk,_,_⟩
   ·omega
   have hk2:k<T'.length:=by omega
   refine⟨_,SqL.of hlx,_,Zay (by omega),_,SqT.of (sx _ _ ht),_,Zay hj2,_,_,rfl,SqL.of hlx,_,by rw[e];exact Zay (by omega),_,rfl,_,rfl,_,hlx,j,by rw[Yf];exact Zdz (by omega),us.set j (max (nth us j) (nth us k)),ZoO hT hpm2 hpw2 hL eqi hj2 hk2 e,?_,by rw[Zg (Ne.symm nlp)];exact hpx,sx.upd zl⟩
   rw[Zb,List.map_set,show(if nth us k>nth us j then nth us k else nth us j)=max (nth us j) (nth us k) by split<;>omega]
  ·rcases ZG hT (p:=j) (by omega)with e|⟨k,e,hk,_,_⟩
   ·exact⟨us,ZoN hL eqi e,hlx,hpx,sx⟩
   ·omega
 ·rintro σ Hx ⟨v3,us,rfl,hL,hlx,hpx,sx⟩
  walk_at "rd"
  exact k1 l us Hx zl sx (ZqQ hpm2 hL) hlx
theorem ZoR {f:Addr}{fd:FuncData} (F:Fun K "fitted" "fitted" Zdq f fd) (Z2:Callee P w K mg base "way_up" 1 ["tree","place"] (Zbz K mg)) (Zan:Callee P w K mg base "flattest" 5 ["tree"] (ZbR K mg)) (ZW:Callee P w K mg base "heights_of" 1 ["flat","row"] (ZaX K mg)) (Zdt:Callee P w K mg base "row_by" 1 ["flat","heights"] (Zdr K mg)) (Zir:Callee P w K mg base "lifted" 6 ["tree","heights"] (Zgp K mg)) (T:Txt K mg):FnOk P w K mg base (CXE P w) 7 f fd ["tree","least","greatest"] (Zgq K mg):=by
 refine F.okX Zbf (λvs H Q E h=>?_) (λcdv A outer s H vs Q E hr h=>?_)
 ·obtain⟨t,a,b,T,ls,gs,rfl,_⟩:=h;rfl
 obtain⟨t,a,b,T',ls,gs,rfl,ht,ha,hb,hG,l1,l2,hTb,k1⟩:=h
 refine⟨_,(Zd (Zo (i:=3) Zbf.nd rfl (Or.inl rfl) (Zh Zan (hr.mono (by decide)) rfl Zbi (Za (pv 0) Zc)))
   (Zd (Zo (i:=4) Zbf.nd rfl (Or.inr rfl) (Zh ZW (hr.mono (by decide)) rfl Zbi (Za (pv 3) (Za (pv 1) Zc))))
   (Zd (Zo (i:=5) Zbf.nd rfl (Or.inl rfl) (Zh ZW (hr.mono (by decide)) rfl Zbi (Za (pv 3) (Za (pv 2) Zc))))
   (Zd (Zo (i:=6) Zbf.nd rfl (Or.inl rfl) (Zh Zir (hr.mono (by decide)) rfl Zz (Za (pv 0) (Za (pv 4) Zc))))
   (Zd (Zag (ZaE PassesOwn.never rfl (Zsc (K:=K) rfl rfl T.b_enumerate (Za (pv 6) Zc)) (Zfe (n:=2) rfl (ZN (Zm (i:=7) Zbf.nd rfl (Or.inl rfl)) (ZN (Zm (i:=8) Zbf.nd rfl (Or.inr rfl)) Zb7))) (Zi (ZaA (Zu Zd1 (pv 8) (Zw Zv (pv 5) (pv 7) (λ_ _=>rfl)) (Zx _)) (Zd (Zdx (i:=9) ["a","height","floors"] [none,some 8,some 4] Zbf.nd rfl (Or.inl rfl) rfl rfl rfl (Zbh (Zs (Zsl (K:=K) rfl) (Z9 (Za (pv 7) Zc)) (Zh Z2 (hr.mono (by decide)) rfl Zz (Za (pv 0) (Za (pv 7) Zc))))) (λ_ _ _ _ _=>(Zm (i:=0) (show(["a","height","floors"]:List Str).Nodup from by decide +kernel) rfl (Or.inl rfl))) (λ_ _ _ _ _=>Zec (Zu Zdd (Zw (r:=Zl4 K) Zv (pv 2) (pv 0) (λ_ _=>rfl)) (pv 1) (Zx _))) (λ_ _ _ _ _=>(pv 0)) ZC)
   (Zi (ZE (Zbu (Za ZjE (Za (Zw Zv (pv 9) Zf (λ_ _=>rfl)) (Za (pv 7) Zc))))))) ZK))))
   (Zi (ZE (Zbu (Za ZjE (Za (Zh Zdt (hr.mono (by decide)) rfl Zz (Za (pv 3) (Za (pv 6) Zc))) Zc)))))))))),?_⟩
 walk_at "rd"
 have eF:(Zj T').length=T'.length:=Zar T'
 obtain⟨h40,nsT,hT⟩:=id hG
 have eT:=hT.1
 refine⟨t,T',rfl,ht,by omega,λ_ f H1 s1 hf=>⟨f,a,Zj T',ls,rfl,hf,s1.q ha,by omega,by omega,λ_ fo H2 zfo s2 hfo=>⟨f,b,Zj T',gs,rfl,s2 _ _ hf,(s1.trans s2).q hb,by omega,by omega,λ_ ro H3 zro s3 hro=>?_,λz=>absurd (by omega) z⟩,λz=>absurd (by omega) z⟩,λz=>absurd hG z⟩
 have s03:=(s1.trans s2).trans s3
 have hf3:=(s2.trans s3) _ _ hf
 have hfo3:=s3 _ _ hfo
 have ht3:=s03 _ _ ht
 refine⟨t,fo,T',_,rfl,ht3,hfo3,hG,by rw[Zhn];omega,ZbQ.same hTb s03,λnd us H4 znd s4 hL hnd=>⟨nd,rfl,_,SqL.of hnd,?_⟩⟩
 have s04:=s03.trans s4
 have hf4:=s4 _ _ hf3
 have hfo4:=s4 _ _ hfo3
 have hro4:=s4 _ _ hro
 obtain⟨hD,hDn⟩:=ZqR hG l1 hL
 have eu:=hL.1
 have efl:(hgt (Zj T') ls).length=T'.length:=by rw[Zhn];exact eF
 have erf:(hgt (Zj T') gs).length=T'.length:=by rw[Zhn];exact eF
 refine Zgi (n:=T'.length) (λi σ Hx=>∃v7 v8:Option V,σ=[some (.ref t),some (.ref a),some (.ref b),some (.ref f),some (.ref fo),some (.ref ro),some (.ref nd),v7,v8,none]/\Ze H4 Hx/\∀p,p<i->nth us p<=nth (hgt (Zj T') gs) p) ⟨none,none,rfl,Ze.refl H4,λp hp=>absurd hp (by omega)⟩ (λi σ Hx hi ⟨_,_,_,sx,_⟩=>⟨_,_,SqL.of (sx _ _ hnd),ZaK (by omega)⟩) (fun σ Hx ⟨_,_,_,sx,_⟩=>⟨_,SqL.of (sx _ _ hnd),by rw[Yf];omega⟩) ?_ ?_
 ·rintro i x σ Hx Hx' hi ⟨v7,v8,rfl,sx,hle⟩ ⟨q,x,hq,rfl,rfl,hx⟩
  have ex:=hx _ (SqL.of (sx _ _ hnd))
  rw[ZaK (by omega)]at ex
  cases ex
  replace sx:=sx.Z8 (o:=.tup [.int (i:Int),.int (nth us i)]) hq
  have tq:(upd Hx q (.tup [.int (i:Int),.int (nth us i)])) q=some (.tup [.int (i:Int),.int (nth us i)]):=Zb
  generalize upd Hx q (.tup [.int (i:Int),.int (nth us i)])=Hy at sx tq⊢
  walk_at "rd"
  refine⟨_,SqT.of tq,rfl,_,_,rfl,_,_,rfl,rfl,_,_,rfl,SqL.of (sx _ _ hro4),_,Zay (by omega),_,rfl,_,rfl,Z1 (λc=>⟨by decide,λp1 hp1=>?_⟩) λc=>⟨sx,λp hp=>?_⟩⟩
  ·have g1:=(Ze.refl Hy).Z8 (o:=.lst [V.int (i:Int)]) hp1
   have h1:=Zb (H:=Hy) (a:=p1) (o:=.lst [V.int (i:Int)])
   generalize upd Hy p1 (.lst [V.int (i:Int)])=Hz at g1 h1⊢
   refine⟨t,T',i,rfl,.inr (SqT.of (g1 _ _ (sx _ _ (s4 _ _ ht3)))),by omega,hi,λw H5 zw s5 hw=>⟨w,rfl,_,SqL.of (s5 _ _ h1),_,SqL.of hw,?_,λp2 hp2=>?_⟩⟩
   ·have:=Zcr T' T'.length (nth T' i)
    rw[Zbg,Yf,Yf]
    exact Yo (show _<=1000 by simp only[YR,List.length_nil];omega) (by decide)
   have eW:[V.int (i:Int)]++(Zbg T' i).map V.int=((i::way T' i).map λ(q:Nat)=>(q:Int)).map V.int:=by rw[ZbP];rfl
   rw[eW]
   have g2:=(g1.trans s5).Z8 (o:=.lst (((i::way T' i).map λ(q:Nat)=>(q:Int)).map V.int)) hp2
   have h2:=Zb (H:=H5) (a:=p2) (o:=.lst (((i::way T' i).map λ(q:Nat)=>(q:Int)).map V.int))
   generalize upd H5 p2 (.lst (((i::way T' i).map λ(q:Nat)=>(q:Int)).map V.int))=H6 at g2 h2⊢
   have hW:∀o∈i::way T' i,o<T'.length:=λo ho=>by
    rcases Ym.mp ho with rfl|ho
    ·exact hi
    ·have:=((Zct hT (by omega)).mp ho).1;omega
   have hWl:(i::way T' i).length<=1000:=by
    have:=Zcr T' T'.length (nth T' i)
    unfold way
    rw[YR];omega
   obtain⟨⟨o1,ho1,e1⟩,_⟩:=hD.2 i hi
   rw[hDn i hi]at e1
   have hcl:∀o∈i::way T' i,nth (hgt (Zj T') ls) o=nth us i->ZmL T' ls gs (o:Int) (i:Int):=λo ho e=>by
    have hoT:=hW o ho
    rw[ZH (by omega)]at e c
    unfold ZmL
    simp only[Ys]
    refine⟨by omega,by omega,by omega,by omega,?_,by omega⟩
    rcases Ym.mp ho with rfl|ho
    ·exact .inl rfl
    ·exact .inr (by rw[ZbP];exact Yu.mpr ⟨o,ho,rfl⟩)
   have ho1':nth (hgt (Zj T') ls) o1=nth us i:=by rw[ZH (by have:=hW o1 ho1;omega)];omega
   generalize hWg:i::way T' i=W at h2 hW hWl hcl ho1⊢
   refine⟨⟨_,SqL.of h2⟩,Zgh (n:=W.length) (λj=>decide (nth (hgt (Zj T') ls) (W.getD j 0)=nth us i)) (λj=>V.int ((W.getD j 0:Nat):Int)) (YF hWl (by decide)) (λj Hz s hj=>⟨_,_,SqL.of (s _ _ h2),Yi (by simpa using hj)⟩) (λHz s=>⟨_,SqL.of (s _ _ h2),by simp⟩) ?_ ?_⟩
   ·rintro j x Hz Hw hj sz ⟨rfl,hx⟩
    have ex:=hx _ (SqL.of (sz _ _ h2))
    have eo:(((W.map λ(q:Nat)=>(q:Int)).map V.int))[j]?=some (V.int ((W.getD j 0:Nat):Int)):=by simp[Yn,hj]
    rw[eo]at ex
    cases ex
    have ho:=hW _ (show W.getD j 0∈W by rw[Yn,Yi hj];exact YC hj)
    walk_at "rd"
    exact⟨_,SqL.of ((g2.trans sz) _ _ (sx _ _ hfo4)),_,Zay (by omega),rfl,Z1 (λh=>CF.take hj (YB (by simpa using h)) rfl sz) (λh=>CF.skip hj (YS (by simpa using h)) sz)⟩
   ·intro lf Hz sz hlf
    have hmem:∃(j2:Nat) (os:List V),(((List.range W.length).filter λj=>decide (nth (hgt (Zj T') ls) (W.getD j 0)=nth us i)).map λj=>V.int ((W.getD j 0:Nat):Int))=V.int ((W.getD j2 0:Nat):Int)::os/\j2<W.length/\nth (hgt (Zj T') ls) (W.getD j2 0)=nth us i/\∀j',j'<j2->nth (hgt (Zj T') ls) (W.getD j' 0)≠nth us i:=by
     obtain⟨j1,hj1,ej1⟩:=YZ ho1
     have hin:j1∈(List.range W.length).filter λj=>decide (nth (hgt (Zj T') ls) (W.getD j 0)=nth us i):=YJ.mpr ⟨Yw.mpr hj1,by
      rw[Yn,Yi hj1]
      simpa[ej1]using ho1'⟩
     cases hf:(List.range W.length).filter λj=>decide (nth (hgt (Zj T') ls) (W.getD j 0)=nth us i)with
     |nil=>rw[hf]at hin;cases hin
     |cons j2 r =>
      obtain⟨m1,m2,m3⟩:=Zkk hf
      exact⟨j2,_,rfl,m1,YX m2,λj' hj'=>of_decide_eq_false (m3 j' hj')⟩
    obtain⟨j2,os,eos,hj2,hoe,hfst⟩:=hmem
    have hoW:W.getD j2 0∈W:=by rw[Yn,Yi hj2];exact YC _
    rw[eos]
    have g3:=(g2.trans sz).Z8 (o:=.lst (V.int ((W.getD j2 0:Nat):Int)::os)) hlf
    have eus:nth us i=nth (Zd8 (Zj T') us) i-nth (Zj T') i:=by rw[hDn i hi];omega
    refine⟨lf,rfl,_,SqL.of Zb,V.int ((W.getD j2 0:Nat):Int),atI_hd,by decide,λcc zc=>k1 cc (.clash ((W.getD j2 0:Nat):Int) (i:Int)) _ (((s04.trans sx).trans g3).Z8 zc) Zb ⟨hcl _ hoW hoe,Zd8 (Zj T') us,i,j2,hD,⟨hi,λp hp=>?_,?_,by rw[hWg];exact hj2,by rw[hWg,<-eus];exact hoe,λj' hj'=>by rw[hWg,<-eus];exact hfst j' hj'⟩,by rw[hWg],rfl⟩⟩
    ·have:=hle p hp
     rw[ZH (by omega)]at this
     rw[hDn p (by omega)];omega
    ·rw[hDn i hi]
     rw[ZH (by omega)]at c
     omega
  ·by_cases z:p<i
   ·exact hle p z
   ·have:p=i:=by omega
    subst this
    omega
 ·rintro σ Hx ⟨v7,v8,rfl,sx,hle⟩
  walk_at "rd"
  refine⟨f,nd,Zj T',us,rfl,sx _ _ hf4,sx _ _ hnd,by omega,by omega,λr H5 s5 hr5=>⟨by decide,λc zc=>?_⟩⟩
  have g6:=(Ze.refl H5).upd (o:=.tup [V.str (Str.ofString "row"),V.ref r]) zc
  refine k1 c (.row (Zd8 (Zj T') us)) _ (((s04.trans sx).trans s5).trans g6) ⟨by rw[Zii];omega,r,Zb,g6 _ _ hr5⟩ ⟨hD,λp hp=>?_⟩
  have:=hle p hp
  rw[ZH (by omega)]at this
  rw[hDn p hp]
  omega
theorem Zlw {T:List Int}{p:Nat} (hp:p<T.length) (hn:T.length<=40):0<=nth (Zj T) p/\nth (Zj T) p<=40:=by
 rw[Zdf hp]
 unfold ZaH
 have h1:=Y4 (λo=>decide (p<o)) (way T p)
 have h2:(way T p).length<=T.length:=by unfold way;exact Zcr T _ _
 omega
theorem ZoS {T ns ks ls gs:List Int}{far:Int}{d:Td} (hG:Zai T) (hl:ns.length=T.length) (hf:∀p,p<T.length->100-far<=nth ns p/\nth ns p<=far-100) (hls:∀p:Nat,p<T.length->nth ls p=if (p:Int)∈ks then nth ns p else 0-far) (hgs:∀p:Nat,p<T.length->nth gs p=if (p:Int)∈ks then nth ns p else far) (h:FitIs T ls gs d):Zlk T ns ks d:=by
 obtain⟨h40,nsT,hT⟩:=id hG
 have eF:(Zj T).length=T.length:=Zar T
 cases d with
 |row ds =>
  obtain⟨⟨ld,hD⟩,hle⟩:=h
  refine⟨ld,λr hr=>?_,λp hp hk=>?_⟩
  ·obtain⟨a,b,rfl,ha,hb,hw,hh⟩:=Zam hr
   rintro⟨z1,z2⟩
   have z1:(a:Int)∈ks:=z1
   have z2:(b:Int)∈ks:=z2
   have h1:=(hD b hb).2 a (YD _ (ZbS.mp hw))
   have h2:=hle b hb
   rw[hgs b hb,Yd z2]at h2
   rw[hls a ha,Yd z1]at h1
   rw[ZH (by omega),ZH (by omega)]at hh
   omega
  ·have h1:=(hD p hp).2 p Yz
   have h2:=hle p hp
   rw[hgs p hp,Yd hk]at h2
   rw[hls p hp,Yd hk]at h1
   omega
 |clash a b =>
  obtain⟨⟨a0,b0,a1,b1,hab,hlt⟩,_⟩:=h
  obtain⟨x,rfl⟩:=Y2 a0
  obtain⟨y,rfl⟩:=Y2 b0
  have hx:x<T.length:=by omega
  have hy:y<T.length:=by omega
  rw[Ys,Ys]at hlt
  rw[Ys]at hab
  rw[hls x hx,hgs y hy]at hlt
  have f1:=Zlw hx h40
  have f2:=Zlw hy h40
  have n1:=hf x hx
  have n2:=hf y hy
  rcases hab with e|hw
  ·have:x=y:=by omega
   subst this
   exfalso
   split at hlt<;>omega
  ·by_cases z1:(x:Int)∈ks
   ·by_cases z2:(y:Int)∈ks
    ·rw[Yd z1,Yd z2]at hlt
     refine⟨z1,z2,?_⟩
     unfold ZQ
     rw[List.mem_flatMap]
     refine⟨y,Yw.mpr hy,Yu.mpr ⟨(x:Int),YJ.mpr ⟨hw,YB ?_⟩,rfl⟩⟩
     rw[Ys,ZH (by omega),ZH (by omega)]
     omega
    ·exfalso
     rw[Yd z1,Yb z2]at hlt
     omega
   ·exfalso
    rw[Yb z1]at hlt
    split at hlt<;>omega
theorem ZbY.two {T ns ks ms:List Int}{chs:List (List Int)} (h:ZbY T ns ks ms chs) {ch:List Int} (hc:ch∈chs) {j:Nat} (hj:j+1<ch.length):[nth ch j,nth ch (j+1)]∈ZQ T (hgt (Zj T) ns):=by
 obtain⟨h1,_,_,_,_,h6,h7⟩:=h
 have hm:∀x∈ch,∃i:Nat,x=i/\i<T.length:=λx hx=>ZbT.mp (h6.mem_iff.mp (List.mem_flatten.mpr ⟨ch,hc,hx⟩))
 have hp:=Zik h1 ch hm (h7 ch hc)
 have hpj:=List.pairwise_iff_getElem.mp hp j (j+1) (by omega) hj (by omega)
 have e0:nth ch j=ch[j]:=by unfold nth;rw[Yn,Yi (by omega)];rfl
 have e1:nth ch (j+1)=ch[j+1]:=by unfold nth;rw[Yn,Yi hj];rfl
 obtain⟨a,ea,ha⟩:=hm _ (YC (show j<ch.length by omega))
 obtain⟨b,eb,hb⟩:=hm _ (YC hj)
 rw[ea,eb,Ys,Ys]at hpj
 rw[e0,e1,ea,eb]
 unfold ZQ
 rw[List.mem_flatMap]
 refine⟨b,Yw.mpr hb,Yu.mpr ⟨(a:Int),YJ.mpr ⟨ZbS.mpr hpj.1,YB ?_⟩,rfl⟩⟩
 rw[Ys];exact hpj.2
theorem ZbY.more {T ns ks ms:List Int}{chs:List (List Int)} (h:ZbY T ns ks ms chs) (hl:ns.length=T.length) {p:Nat} (hp:p<T.length) (hk:(p:Int)∉ks):¬ Indep T (hgt (Zj T) ns) (ks++[(p:Int)]):=λhI=>by
 have sub:=Zij (n:=T.length) (ks:=ks) (by rw[<-hl];exact h.2.1)
 have e:ZdJ ns.length ks=(nats (ns.length:Int)).filter λp=>decide (p∈ks):=by
  unfold ZdJ nats
  rw[List.filter_map];rfl
 have nd:ks.Nodup:=by rw[h.2.1,e];exact(ZbD _).filter _
 have:=h.most hI (List.nodup_append.mpr ⟨nd,by simp,λa ha b hb=>by rw[Y3.mp hb];exact λz=>hk (z▸ha)⟩) λk hk=>by
  rcases Yq.mp hk with hk|hk
  ·exact ZbT.mpr (sub k hk)
  ·exact ZbT.mpr ⟨p,Y3.mp hk,hp⟩
 rw[YM,List.length_singleton]at this
 omega
noncomputable def ZmT (ns ks:List Int) (far:Int) (i:Nat):List Int:=(List.range i).map λ(p:Nat)=>if (p:Int)∈ks then nth ns p else far
noncomputable def bnd (ns ks:List Int) (far:Int) (i:Nat):List V:=(ZmT ns ks far i).map V.int
theorem Zim {ns ks:List Int}{far:Int}{i:Nat}:(ZmT ns ks far i).length=i:=by unfold ZmT;simp
theorem Zlx {ns ks:List Int}{far:Int}{i p:Nat} (h:p<i):nth (ZmT ns ks far i) p=if (p:Int)∈ks then nth ns p else far:=by
 show List.getD ((List.range i).map λ(p:Nat)=>if (p:Int)∈ks then nth ns p else far) p 0=_
 rw[Yn,YL,Jf h];rfl
theorem ZnL {ns ks:List Int}{far:Int}{i:Nat} (h:i<=40):(bnd ns ks far i).length<sizeLine:=by
 unfold bnd
 rw[Yf,Zim]
 exact YF h (by decide)
theorem Zly (ks:List Int) (i x y:Int):atI [V.int x,V.int y] (if inV (V.int i) (ks.map V.int)=true then 1 else 0)=some (V.int (if i∈ks then y else x)):=by
 rw[ZeT]
 by_cases c:i∈ks
 ·rw[YB c,Yd c];rfl
 ·rw[YS c,Yb c];rfl
theorem Zlz {ns ks:List Int}{far:Int}{i:Nat}:bnd ns ks far i++[V.int (if (i:Int)∈ks then nth ns i else far)]=bnd ns ks far (i+1):=by
 unfold bnd ZmT
 rw[YY,YI,YI];rfl
theorem Zhp {H:Hp}{p q:Addr}{o o':HO} (z:H q=none) (h:H p=some o'):upd H q o p=some o':=by
 rw[Zg (λe=>by rw[e,z]at h;cases h),h]
theorem Zin {f:Addr}{fd:FuncData} (F:Fun K "_law_fitted" "_law_fitted" Zau f fd) (Zis:Callee P w K mg base "fitted" 7 ["tree","least","greatest"] (Zgq K mg)) (T:Txt K mg):FnOk P w K mg base (CXE P w) 8 f fd ["tree","row","kept"] (Zbl K mg):=by
 refine F.okX ZaJ (λvs H Q E h=>?_) (λcdv A outer s H vs Q E hr h=>?_)
 ·obtain⟨t,r,k,T,ns,ks,rfl,_⟩:=h;rfl
 obtain⟨t,r,k,T',ns,ks,rfl,ht,hr1,hk,hG,hl,hne,lk,hTb,k1⟩:=h
 refine⟨_,(Zd (Zo (i:=3) ZaJ.nd rfl (Or.inl rfl) (Zs ZaW (Zk (Zos rfl) rfl T.b_max ZhE (Za (Zb8 ["number"] [none] rfl rfl rfl (ZpF (pv 1)) (λ_ _ _ _ _=>(Zm (i:=0) (show(["number"]:List Str).Nodup from by decide +kernel) rfl (Or.inl rfl))) (λ_ _ _ _ _=>Zaf) (λ_ _ _ _ _=>(Zk ZpK rfl T.b_abs bt_abs (Za (pv 0) Zc))) ZC) Zc)) Zf))
   (Zd (Zo (i:=4) ZaJ.nd rfl (Or.inl rfl) (Z9 Zc))
   (Zd (Zo (i:=5) ZaJ.nd rfl (Or.inl rfl) (Z9 Zc))
   (Zd (Zag (ZaE PassesOwn.never rfl (ZS rfl T.b_range (Za (Zk (Zn (K:=K) rfl) rfl T.b_len YE (Za (pv 1) Zc)) Zc)) (Zm (i:=6) ZaJ.nd rfl (Or.inl rfl)) (Zd (ZaL (Ze1 PySem.F.plainAttrs_list PySem.F.slot_list_append PySem.F.type_list_append Zaq (pv 4) (Za (Zw Zv (Z9 (Za (Zs Zcp Zf (pv 3)) (Za (Zw Zaa (pv 1) (pv 6) (λ_ _=>rfl)) Zc))) (ZT ZeR rfl T.b_int ZjU (Za (Zad (Zgg (K:=K) rfl) (pv 6) (pv 2) (by with_unfolding_all rfl)) Zc)) (λ_ _=>rfl)) Zc)))
   (Zi (ZaL (Ze1 PySem.F.plainAttrs_list PySem.F.slot_list_append PySem.F.type_list_append Zaq (pv 5) (Za (Zw Zv (Z9 (Za (pv 3) (Za (Zw Zaa (pv 1) (pv 6) (λ_ _=>rfl)) Zc))) (ZT ZeR rfl T.b_int ZjU (Za (Zad (Zgg (K:=K) rfl) (pv 6) (pv 2) (by with_unfolding_all rfl)) Zc)) (λ_ _=>rfl)) Zc)))))))
   (Zi (ZE (Zh Zis (hr.mono (by decide)) rfl Zbi (Za (pv 0) (Za (pv 4) (Za (pv 5) Zc)))))))))),?_⟩
 have h40:=hG.1
 refine Zao (fun σ Hx=>∃far:Int,σ=[some (.ref t),some (.ref r),some (.ref k),some (.int far),none,none,none]/\(∀p,p<T'.length->100-far<=nth ns p/\nth ns p<=far-100)/\Ze H Hx) (λR hR=>?_) ?_
 ·walk_at "rd"
  refine⟨⟨_,SqT.of hr1⟩,comp_map (n:=ns.length) (λj=>V.int (if nth ns j<0 then -(nth ns j)else nth ns j)) (YF (show _<=1000 by omega) (by decide)) (λj Hx s hj=>⟨_,_,SqT.of (s _ _ hr1),ZaK hj⟩) (λHx s=>⟨_,SqT.of (s _ _ hr1),by rw[Yf];exact Ye _⟩) ?_ ?_⟩
  ·rintro j x Hx Hy hj s ⟨rfl,hx⟩
   have:=hx _ (SqT.of (s _ _ hr1))
   rw[ZaK hj]at this
   cases this
   walk_at "rd"
   exact CW.next hj rfl s
  ·intro lz Hx sx zl
   have e1:(List.range ns.length).map (λj=>V.int (if nth ns j<0 then -(nth ns j)else nth ns j))=((List.range ns.length).map λj=>if nth ns j<0 then -(nth ns j)else nth ns j).map V.int:=by rw[YW];rfl
   rw[e1]
   refine⟨lz,rfl,_,SqL.of Zb,λz=>?_,λm _ hm=>hR _ _ ⟨_,rfl,λp hp=>?_,sx.Z8 zl⟩⟩
   ·simp at z
    exact hne z
   ·have:=hm _ (Yu.mpr ⟨p,Yw.mpr (by omega),rfl⟩)
    split at this<;>omega
 rintro σ H1 ⟨far,rfl,hf,g1⟩
 walk_at "rd"
 refine⟨by decide,λp1 z1=>⟨by decide,λp2 z2=>?_⟩⟩
 have g2:=g1.Z8 (o:=.lst []) z1
 have n12:p1≠p2:=λz=>by rw[z,Zb]at z2;cases z2
 have h1:upd (upd H1 p1 (.lst [])) p2 (.lst []) p1=some (.lst []):=by rw[Zg n12,Zb]
 have h2:upd (upd H1 p1 (.lst [])) p2 (.lst []) p2=some (.lst []):=Zb
 have g3:=g2.Z8 (o:=.lst []) z2
 have zp1:=g1.free z1
 have zp2:=g2.free z2
 generalize upd (upd H1 p1 (.lst [])) p2 (.lst [])=H3 at g3 h1 h2⊢
 refine⟨_,.inr (SqT.of (g3 _ _ hr1)),by omega,by rw[Yf];omega,?_⟩
 rw[Yf,Ys]
 refine Za5 (λi σ Hx=>∃v6,σ=[some (.ref t),some (.ref r),some (.ref k),some (.int far),some (.ref p1),some (.ref p2),v6]/\Hx p1=some (.lst (bnd ns ks (0-far) i))/\Hx p2=some (.lst (bnd ns ks far i))/\Ze H Hx) ⟨_,rfl,h1,h2,g3⟩ ?_ ?_
 ·clear g3 h1 h2 g1 g2 z1 z2 k1 hTb ht
  rintro i σ Hy hi ⟨v6,rfl,y1,y2,sy⟩
  rw[show(0:Int)+(i:Int)=((i:Nat):Int) by omega]
  refine Zao (fun σ Hz=>σ=[some (.ref t),some (.ref r),some (.ref k),some (.int far),some (.ref p1),some (.ref p2),some (.int (i:Int))]/\Hz p1=some (.lst (bnd ns ks (0-far) (i+1)))/\Hz p2=some (.lst (bnd ns ks far i))/\Ze H Hz) (λR hR=>?_) ?_
  ·walk_at "rd"
   refine⟨Zah y1,_,SqT.of (sy _ _ hr1),_,ZaY (ZaK hi),by decide,λq1 zq1=>?_⟩
   have s1:=sy.Z8 (o:=.lst [V.int (0-far),V.int (nth ns i)]) zq1
   have t1:=Zb (H:=Hy) (a:=q1) (o:=.lst [V.int (0-far),V.int (nth ns i)])
   have w1:=Zhp (o:=.lst [V.int (0-far),V.int (nth ns i)]) zq1 y1
   have w2:=Zhp (o:=.lst [V.int (0-far),V.int (nth ns i)]) zq1 y2
   generalize upd Hy q1 (.lst [V.int (0-far),V.int (nth ns i)])=Hz at s1 t1 w1 w2⊢
   refine⟨_,s1.q hk,rfl,Zbv _,_,SqL.of t1,_,Zly _ _ _ _,_,w1,ZnL (by omega),hR _ _ ⟨rfl,?_,(Zg (Ne.symm n12)).trans w2,s1.upd zp1⟩⟩
   rw[Zb,Zlz]
  ·clear y1 y2 sy Hy
   rintro σ Hy ⟨rfl,y1,y2,sy⟩
   walk_at "rd"
   refine⟨Zah y2,_,SqT.of (sy _ _ hr1),_,ZaY (ZaK hi),by decide,λq1 zq1=>?_⟩
   have s1:=sy.Z8 (o:=.lst [V.int far,V.int (nth ns i)]) zq1
   have t1:=Zb (H:=Hy) (a:=q1) (o:=.lst [V.int far,V.int (nth ns i)])
   have w1:=Zhp (o:=.lst [V.int far,V.int (nth ns i)]) zq1 y1
   have w2:=Zhp (o:=.lst [V.int far,V.int (nth ns i)]) zq1 y2
   generalize upd Hy q1 (.lst [V.int far,V.int (nth ns i)])=Hz at s1 t1 w1 w2⊢
   refine⟨_,s1.q hk,rfl,Zbv _,_,SqL.of t1,_,Zly _ _ _ _,_,w2,ZnL (by omega),(Zg n12).trans w1,?_,s1.upd zp2⟩
   rw[Zb,Zlz]
 ·rintro σ Hy ⟨v6,rfl,y1,y2,sy⟩
  walk_at "rd"
  exact⟨t,p1,p2,T',ZmT ns ks (0-far) ns.length,ZmT ns ks far ns.length,rfl,sy _ _ ht,.inl (SqL.of y1),.inl (SqL.of y2),hG,by rw[Zim,hl],by rw[Zim,hl],ZbQ.same hTb sy,λc d H' s' hd hF=>k1 c d H' (sy.trans s') hd (ZoS hG hl hf (λp hp=>Zlx (by omega)) (λp hp=>Zlx (by omega)) hF)⟩
theorem Zjz {J:It}{c r r2:Addr}{T ns ds ks:List Int}{H1:Hp}{Q:VK} (lk:ks.length<=1000) (hgo:∀j Hx,Ze H1 Hx->j<ks.length->J.go j Hx) (hst:∀Hx,Ze H1 Hx->J.stop ks.length Hx) (hy:∀j x Hx Hy,j<ks.length->Ze H1 Hx->J.yld j Hx x Hy->Hy=Hx/\x=V.int (nth ks j)) (body:∀j,j<ks.length->∃i:Nat,nth ks j=i/\i<T.length/\nth ds i=nth ns i) (hc:H1 c=some (.tup [.str (Str.ofString "row"),.ref r2])) (hr2:H1 r2=some (.tup (ds.map V.int))) (hr1:H1 r=some (.tup (ns.map V.int))) (le:ds.length=T.length) (hl:ns.length=T.length) (key:∀l Hz,Ze H1 Hz->Hz l=some (.lst ((List.replicate ks.length true).map V.bl))->Q (.ref l) Hz):ZgK J (ZcF 0) Zn2 (tOp rEq (tOp (ZjL K) (tOp (ZjL K) (Zfd 2) (tC (V.int 1))) (Zfd 0)) (tOp (ZjL K) (Zfd 1) (Zfd 0))) [none,some (V.ref r),some (V.ref c)] Q H1:=by
 refine comp_map (n:=ks.length) (λ_=>V.bl true) (YF lk (by decide)) hgo hst ?_ ?_
 ·rintro j x Hx Hy hj s y
  obtain⟨rfl,rfl⟩:=hy j x Hx Hy hj s y
  obtain⟨i,e,hi,en⟩:=body j hj
  rw[e]
  walk_at "rd"
  refine⟨_,SqT.of (s _ _ hc),_,rfl,r2,rfl,_,SqT.of (s _ _ hr2),_,ZaY (ZaK (by omega)),_,SqT.of (s _ _ hr1),_,ZaY (ZaK (by omega)),rfl,CW.next hj ?_ s⟩
  rw[en];simp
 ·intro lz Hx sx hlz
  exact key lz _ (sx.Z8 hlz) (by rw[Zb,List.map_replicate,List.map_const',Y9])
theorem Zgz {f:Addr}{fd:FuncData} (F:Fun K "_law_row_told" "_law_row_told" Z5 f fd) (Zaw:Callee P w K mg base "_law_fitted" 8 ["tree","row","kept"] (Zbl K mg)) (T:Txt K mg):FnOk P w K mg base (CXE P w) 9 f fd ["tree","row","kept"] (ZbA K mg):=by
 refine F.okX Zds (λvs H Q E h=>?_) (λcdv A outer s H vs Q E hr h=>?_)
 ·obtain⟨t,r,k,T,ns,ks,rfl,_⟩:=h;rfl
 obtain⟨t,r,k,T',ns,ks,rfl,ht,hr1,hk,hG,hl,hne,lk,hks,hTb,k1⟩:=h
 refine⟨_,(Zd (Zo (i:=3) Zds.nd rfl (Or.inr rfl) (Zh Zaw (hr.mono (by decide)) rfl Zbi (Za (pv 0) (Za (pv 1) (Za (pv 2) Zc)))))
   (Zi (ZE (Zgb (Zad Zdd (Zw Zaa (pv 3) Zf (λ_ _=>rfl)) ZjE (Zx _)) (Zhv (Zk (Zp2 (K:=K) rfl rfl) rfl T.b_all bt_all (Za (Zb8 ["place","row","told"] [none,some 1,some 3] rfl rfl rfl (pi_seq (K:=K) rfl (pv 2)) (λ_ _ _ _ _=>(Zm (i:=0) (show(["place","row","told"]:List Str).Nodup from by decide +kernel) rfl (Or.inl rfl))) (λ_ _ _ _ _=>Zaf) (λ_ _ _ _ _=>(Zad Zdd (Zw (r:=ZjL K) Zaa (Zw (r:=ZjL K) Zaa (pv 2) Zf (λ_ _=>rfl)) (pv 0) (λ_ _=>rfl)) (Zw (r:=ZjL K) Zaa (pv 1) (pv 0) (λ_ _=>rfl)) (Zx _))) ZC) Zc))))))),?_⟩
 walk_at "rd"
 refine⟨t,r,k,T',ns,ks,rfl,ht,hr1,hk,hG,hl,hne,lk,hTb,λc d H1 s1 hd hF=>?_⟩
 cases d with
 |clash a b =>
  obtain⟨z1,z2,z3⟩:=hF
  refine⟨c,rfl,_,SqT.of hd,_,rfl,rfl,Z1 (λz=>absurd z (by decide)) λ_=>k1 false H1 ⟨(λz=>nomatch z),λz=>absurd ⟨z1,z2⟩ (z _ z3)⟩ s1⟩
 |row ds =>
  obtain⟨ld,r2,hc,hr2⟩:=hd
  obtain⟨le,hI,hkp⟩:=hF
  have key:∀l Hz,Ze H1 Hz->Hz l=some (.lst ((List.replicate ks.length true).map V.bl))->∃p,V.ref l=V.ref p/\∃x,SqL K Hz p (List.map V.bl x)/\Q (V.bl (x.all id)) Hz:=λl Hz sz hz=>⟨l,rfl,_,SqL.of hz,k1 _ _ ⟨λ_=>hI,λ_=>by simp⟩ (s1.trans sz)⟩
  have hk1:=s1.q hk
  have body:∀j,j<ks.length->∃i:Nat,nth ks j=i/\i<T'.length/\nth ds i=nth ns i:=λj hj=>by
   have ej:nth ks j=ks[j]:=by unfold nth;rw[Yn,Yi hj];rfl
   obtain⟨i,e,hi⟩:=hks _ (YC hj)
   exact⟨i,by rw[ej,e],hi,hkp i hi (by rw[<-e];exact YC hj)⟩
  refine⟨c,rfl,_,SqT.of hc,_,rfl,rfl,Z1 (λ_=>?_) λz=>absurd rfl z⟩
  rcases hk1 with hk1|hk1
  ·exact .inl ⟨⟨_,hk1⟩,Zjz lk (λj Hx s hj=>⟨_,_,s.seq hk1,ZaK hj⟩) (λHx s=>⟨_,s.seq hk1,by rw[Yf];exact Ye _⟩) (λj x Hx Hy hj s ⟨e,hx⟩=>⟨e,by have:=hx _ (s.seq hk1);rw[ZaK hj]at this;cases this;rfl⟩) body hc hr2 (s1 _ _ hr1) le hl key⟩
  ·exact .inr ⟨⟨_,hk1⟩,Zjz lk (λj Hx s hj=>⟨_,_,s.Zoa hk1,ZaK hj⟩) (λHx s=>⟨_,s.Zoa hk1,by rw[Yf];exact Ye _⟩) (λj x Hx Hy hj s ⟨e,hx⟩=>⟨e,by have:=hx _ (s.Zoa hk1);rw[ZaK hj]at this;cases this;rfl⟩) body hc hr2 (s1 _ _ hr1) le hl key⟩
theorem Zfq {f:Addr}{fd:FuncData} (F:Fun K "_law_clash_told" "_law_clash_told" ZY f fd) (Zaw:Callee P w K mg base "_law_fitted" 8 ["tree","row","kept"] (Zbl K mg)) (T:Txt K mg):FnOk P w K mg base (CXE P w) 9 f fd ["tree","row","kept","pairs"] (Za4 K mg):=by
 refine F.okX Zcx (λvs H Q E h=>?_) (λcdv A outer s H vs Q E hr h=>?_)
 ·obtain⟨t,r,k,l,T,ns,ks,rs,rfl,_⟩:=h;rfl
 obtain⟨t,r,k,l,T',ns,ks,rs,rfl,ht,hr1,hk,hrs,hG,hl,hne,lk,lrs,hno,hin,hTb,k1⟩:=h
 refine⟨_,(Zd (Zo (i:=4) Zcx.nd rfl (Or.inl rfl) (Zh Zaw (hr.mono (by decide)) rfl Zbi (Za (pv 0) (Za (pv 1) (Za (pv 2) Zc)))))
   (Zi (ZE (Zgb (Zad Zdd (Zw Zaa (pv 4) Zf (λ_ _=>rfl)) ZjE (Zx _)) (Zgb (Zad (op_inD (K:=K) rfl hr) (Zbu (Za (Zw Zaa (pv 4) Zf (λ_ _=>rfl)) (Za (Zw Zaa (pv 4) Zf (λ_ _=>rfl)) Zc))) (pv 3) (by with_unfolding_all rfl)) (Zgb (Zad (Zgg (K:=K) rfl) (Zw Zaa (pv 4) Zf (λ_ _=>rfl)) (pv 2) (by with_unfolding_all rfl)) (Zhv (Zad (Zgg (K:=K) rfl) (Zw Zaa (pv 4) Zf (λ_ _=>rfl)) (pv 2) (by with_unfolding_all rfl))))))))),?_⟩
 walk_at "rd"
 refine⟨t,r,k,T',ns,ks,rfl,ht,hr1,hk,hG,hl,hne,lk,hTb,λc d H1 s1 hd hF=>?_⟩
 cases d with
 |row ds=>exact absurd hF.2.1 hno
 |clash a b =>
  obtain⟨z1,z2,z3⟩:=hF
  have hm:=hin a b z1 z2 z3
  refine⟨c,rfl,_,SqT.of hd,_,rfl,rfl,Z1 (λ_=>?_) λz=>absurd rfl z⟩
  refine⟨c,rfl,_,SqT.of hd,_,rfl,c,rfl,_,SqT.of hd,_,rfl,by decide,λq zq=>?_⟩
  have g2:=(Ze.refl H1).upd (o:=.tup [.int a,.int b]) zq
  have h2:upd H1 q (.tup [.int a,.int b]) q=some (.tup ([a,b].map V.int)):=Zb
  generalize upd H1 q (.tup [.int a,.int b])=H2 at g2 h2⊢
  obtain⟨as,ha1,ha2,ha3⟩:=hrs.same (s1.trans g2)
  have dec:∀a'∈as,∃z,EqD K H2 3 (V.ref a') (V.ref q) z/\(H2 a'=some (.tup ([a,b].map V.int))->z=true):=λa' h=>by
   obtain⟨i,hi,rfl⟩:=YZ h
   have e:=ha3 i hi (by omega)
   refine⟨_,Zns (n:=2) (K:=K) ZjY _ _ _ _ (ZfK (SqT.of e)) (ZfK (SqT.of h2)),λz=>?_⟩
   rw[e]at z
   have:rs[i].map V.int=[a,b].map V.int:=HO.tup.inj (YN z)
   exact YB ((List.map_inj_right λ_ _ h=>by cases h;rfl).mp this)
  refine⟨as,SqL.of ha1,λa'=>if h:a'∈as then (dec a' h).choose else false,λa' h=>by simp only[dif_pos h];exact(dec a' h).choose_spec.1,Z1 (λ_=>⟨c,rfl,_,SqT.of (g2 _ _ hd),_,rfl,_,(s1.trans g2).q hk,rfl,Zbv _,?_⟩) λz=>absurd ?_ z⟩
  ·rw[ZeT]
   refine Z1 (λ_=>⟨c,rfl,_,SqT.of (g2 _ _ hd),_,rfl,_,(s1.trans g2).q hk,rfl,Zbv _,?_⟩) λz=>absurd (YB z1) z
   rw[ZeT,YB z2]
   exact k1 H2 (s1.trans g2)
  ·obtain⟨i,hi,e⟩:=YZ hm
   rw[List.any_eq_true]
   refine⟨as[i],YC _,?_⟩
   simp only[dif_pos (YC (show i<as.length by omega))]
   refine(dec as[i] (YC _)).choose_spec.2 ?_
   rw[ha3 i (by omega) hi,e]
theorem Zio {f:Addr}{fd:FuncData} (F:Fun K "lower_under" "lower_under" Zat f fd) (Zal:Callee P w K mg base "higher_pairs" 2 ["tree","heights"] (ZaZ K mg)) (T:Txt K mg):FnOk P w K mg base (CXE P w) 3 f fd ["tree","heights"] (Zcw K mg):=by
 refine F.okX Zbm (λvs H Q E h=>?_) (λcdv A outer s H vs Q E hr h=>?_)
 ·obtain⟨t,h,T,hs,rfl,_⟩:=h;rfl
 obtain⟨t,h,T',hs,rfl,ht,hh,hG,hl,k1⟩:=h
 refine⟨_,(Zd (Zdx (i:=2) ["place"] [none] Zbm.nd rfl (Or.inl rfl) rfl rfl rfl (ZpF (pv 0)) (λ_ _ _ _ _=>(Zm (i:=0) (show(["place"]:List Str).Nodup from by decide +kernel) rfl (Or.inl rfl))) (λ_ _ _ _ _=>Zaf) (λ_ _ _ _ _=>(Z9 Zc)) ZC)
   (Zd (Zag (ZaE PassesOwn.never rfl (Zbh (Zh Zal (hr.mono (by decide)) rfl Zz (Za (pv 0) (Za (pv 1) Zc)))) (Zfe (n:=2) rfl (ZN (Zm (i:=3) Zbm.nd rfl (Or.inl rfl)) (ZN (Zm (i:=4) Zbm.nd rfl (Or.inl rfl)) Zb7))) (Zi (ZaL (Ze1 PySem.F.plainAttrs_list PySem.F.slot_list_append PySem.F.type_list_append Zaq (Zw Zv (pv 2) (pv 3) (λ_ _=>rfl)) (Za (pv 4) Zc))))))
   (Zi (ZE (pv 2))))),?_⟩
 have h40:=hG.1
 have eL:(T'.map V.int).length=T'.length:=Yf ..
 walk_at "rd"
 refine⟨⟨_,SqT.of ht⟩,ZfL (n:=T'.length) (λj acc Hz=>∃as:List Addr,acc=as.map V.ref/\as.length=j/\(∀a∈as,H a=none/\Hz a=some (.lst []))/\as.Nodup/\Ze H Hz) (YF (show _<=1000 by omega) (by decide)) ⟨[],rfl,rfl,(λa ha=>absurd ha (by simp)),List.nodup_nil,Ze.refl H⟩ (λj acc Hz ⟨_,_,_,_,_,e⟩ hj=>⟨_,_,SqT.of (e _ _ ht),ZaK hj⟩) (λacc Hz ⟨_,_,_,_,_,e⟩=>⟨_,SqT.of (e _ _ ht),Jb eL⟩) ?_ ?_⟩
 ·rintro j w acc Hz Hw hj hla ⟨as,rfl,hal,has,hnd,sz⟩ ⟨rfl,hx⟩
  walk_at "rd"
  refine⟨Yr _,λp zp=>CA.take hj hla ⟨as++[p],by simp,by simp[hal],λa ha=>?_,?_,sz.Z8 zp⟩⟩
  ·rcases Yq.mp ha with z|z
   ·exact⟨(has a z).1,((Ze.refl _).upd zp) _ _ (has a z).2⟩
   ·have:a=p:=by simpa using z
    subst this
    exact⟨sz.free zp,Zb⟩
  ·rw[List.nodup_append]
   refine⟨hnd,by simp,λb hb c hc=>?_⟩
   have:c=p:=by simpa using hc
   subst this
   exact λy=>by rw[<-y,(has b hb).2]at zp;cases zp
 rintro l acc Hz ⟨as,rfl,hal,has,hnd,sz⟩ _ zl
 have gl:=(Ze.refl Hz).upd (o:=.lst (as.map V.ref)) zl
 have hl1:=Zb (H:=Hz) (a:=l) (o:=.lst (as.map V.ref))
 have nla:l∉as:=λz=>by rw[(has l z).2]at zl;cases zl
 have s1:=sz.trans gl
 have has1:∀a∈as,upd Hz l (.lst (as.map V.ref)) a=some (.lst []):=λa ha=>gl _ _ (has a ha).2
 generalize upd Hz l (.lst (as.map V.ref))=H1 at gl hl1 s1 has1⊢
 refine⟨t,h,T',hs,rfl,s1 _ _ ht,s1 _ _ hh,by omega,hl,λq rs H2 zq s2 hq hS=>⟨q,rfl,hq.sq,?_⟩⟩
 obtain⟨bs,hb1,hb2,hb3⟩:=hq
 have hlen:=Zgv (hs:=hs) h40 hS
 have nql:q≠l:=λz=>by rw[z,hl1]at zq;cases zq
 have nqa:q∉as:=λz=>by rw[has1 q z]at zq;cases zq
 refine Zhy (xs:=bs.map V.ref) (λi σ Hx=>∃v3 v4,σ=[some (.ref t),some (.ref h),some (.ref l),v3,v4]/\(∀(j:Nat) (a:Addr),as[j]?=some a->Hx a=some (.lst ((lowAt (rs.take i) j).map V.int)))/\∀b o,b∉as->H2 b=some o->Hx b=some o) ⟨_,_,rfl,(λj a e=>s2 _ _ (has1 a (List.mem_of_getElem? e))),λb o _ z=>z⟩ (λi σ Hx _ ⟨_,_,_,_,e⟩=>SqL.of (e _ _ nqa hb1)) ?_ ?_
 ·rintro i w σ Hx hw ⟨v3,v4,rfl,hL,hE⟩
  have hi:i<bs.length:=by have:=(Yx.mp hw).1;simpa using this
  rw[YL,Yi hi]at hw
  cases hw
  have hir:i<rs.length:=by omega
  have er:rs[i]?=some rs[i]:=Yi hir
  obtain⟨a,b,eab,ha,hb,_,_⟩:=Zam (hS.1.mem_iff.mp (YC hir))
  have hbt:H2 bs[i]=some (.tup [V.int a,V.int b]):=by have:=hb3 i hi hir;rw[eab]at this;exact this
  have nba:bs[i]∉as:=λz=>by rw[s2 _ _ (has1 _ z)]at hbt;cases hbt
  have hbx:=hE _ _ nba hbt
  have hlx:=hE _ _ nla (s2 _ _ hl1)
  obtain⟨c,ec⟩:∃c,as[a]?=some c:=⟨_,Yi (by omega)⟩
  have hcx:=hL a c ec
  have hz:(lowAt (rs.take i) a).length<=2000:=Yo Zjx (by rw[Y1];omega)
  walk_at "rd"
  refine⟨_,SqT.of hbx,rfl,_,_,rfl,_,_,rfl,rfl,_,_,rfl,SqL.of hlx,V.ref c,ZaY (by rw[YL,ec];rfl),Zah hcx,c,rfl,_,hcx,YF (show _<=2000 by rw[Yf];exact hz) (by decide),λj d ed=>?_,λb' o nb z=>?_⟩
  ·rw[ZmR er,eab]
   by_cases c1:j=a
   ·subst c1
    rw[ec]at ed;cases ed
    rw[Zb,Yd (show([(j:Int),(b:Int)].getD 0 0)=(j:Int)from rfl),YI];rfl
   ·have ndc:d≠c:=λy=>by
     subst y
     obtain⟨h1,e1⟩:=Yx.mp ed
     obtain⟨h2,e2⟩:=Yx.mp ec
     exact c1 ((List.getElem_inj hnd (h₀:=h1) (h₁:=h2)).mp (e1.trans e2.symm))
    rw[Zg ndc,Yb (show ¬ (([(a:Int),(b:Int)].getD 0 0)=(j:Int))from λy=>c1 (by have:(a:Int)=(j:Int):=y;omega))]
    exact hL j d ed
  ·rw[Zg (show b'≠c from λy=>nb (by rw[y];exact List.mem_of_getElem? ec))]
   exact hE b' o nb z
 ·rintro σ Hx ⟨v3,v4,rfl,hL,hE⟩
  walk_at "rd"
  rw[List.take_of_length_le (by simp;omega)]at hL
  refine k1 l rs Hx (sz.free zl) hS ⟨as,hE _ _ nla (s2 _ _ hl1),hal,hL⟩ λb o z=>hE b o (λy=>by rw[(has b y).1]at z;cases z) ((s1.trans s2) _ _ z)
theorem ZqS {f:Addr}{fd:FuncData} (F:Fun K "stays" "stays" ZeX f fd) (T:Txt K mg):FnOk P w K mg base (CXE P w) 1 f fd ["height","bar","under"] (Zh7 K mg):=by
 refine F.okX ZqK (λvs H Q E h=>?_) (λcdv A outer s H vs Q E hr h=>?_)
 ·obtain⟨h,b,u,rfl,_⟩:=h;rfl
 obtain⟨h,b,u,rfl,k1⟩:=h
 refine⟨_,(Zi (ZE (Zgb (Zad Znb (pv 0) (pv 1) (Zx _)) (Zhv (pe_or (Zad ZlY (pv 2) Zf9 (Zx _)) (Zhv (Zad Zhz (pv 2) (pv 1) (Zx _)))))))),?_⟩
 walk_at "rd"
 refine Z1 (λc=>?_) λc=>?_
 ·cases u with
  |none=>rw[Yd rfl];rwa [YB ⟨c,λx z=>nomatch z⟩]at k1
  |some x =>
   rw[Yb (by simp)]
   refine⟨x,rfl,?_⟩
   have e:decide (x<b)=decide (b<=h/\∀y,some x=some y->y<b):=decide_eq_decide.mpr ⟨λz=>⟨c,λy e=>by cases e;exact z⟩,λz=>z.2 x rfl⟩
   rw[e];exact k1
 ·rwa [YS (λz=>c z.1)]at k1
theorem Zkl {f:Addr}{fd:FuncData} (F:Fun K "chains_by" "chains_by" Za9 f fd) (L:LamD K mg "chains_by" f) (B:BM mg base) (T:Txt K mg):FnOk P w K mg base (CXE P w) 1 f fd ["order","lower","heights"] (ZdH K mg):=by
 refine F.okL L B ZaR (λvs H Q E h=>?_) (λcdv A outer s H vs Q E LI hr h=>?_)
 ·obtain⟨o,l,h,ps,hs,rs,rfl,_⟩:=h;rfl
 obtain⟨o,l,h,ps,hs,rs,rfl,ho,hl,hh,n1,n2,nd,hp,hb,hrs,hTb,k1⟩:=h
 refine⟨_,(Zd (Zo (i:=3) ZaR.nd rfl (Or.inr rfl) Zk8)
   (Zd (Zo (i:=4) ZaR.nd rfl (Or.inl rfl) Zk8)
   (Zd (Zag (ZaE PassesOwn.never rfl (Zbh (pv 0)) (Zm (i:=5) ZaR.nd rfl (Or.inl rfl)) (Zd (Zdx (i:=6) ["b","chains"] [none,some 3] ZaR.nd rfl (Or.inl rfl) rfl rfl rfl (Zbh (Zw Zv (pv 1) (pv 5) (λ_ _=>rfl))) (λ_ _ _ _ _=>(Zm (i:=0) (show(["b","chains"]:List Str).Nodup from by decide +kernel) rfl (Or.inl rfl))) (λ_ _ _ _ _=>Zec (pt_cmp (pc_din (ZfG hr) (pv 0) (pv 1)))) (λ_ _ _ _ _=>(pv 0)) ZC)
   (Zd (Zo (i:=7) ZaR.nd rfl (Or.inl rfl) (Zqx (Nc:=["b","heights"]) (js:=[none,some 2]) (pn:="b") (q:=Zld "chains_by") (P:=Zh0 K mg "chains_by") rfl hr ⟨rfl,rfl,rfl,rfl,rfl,rfl,rfl,λ_ _ _ _ _ _=>rfl⟩ (λ_ _ _ _ _ _=>(Zw (r:=Zl4 K) Zv (pv 1) (pv 0) (λ_ _=>rfl))) rfl T.b_max (Za (pv 6) Zc) (ZfC (Zqr ⟨LI.code,LI.bm,LI.ql⟩ rfl) (ZfC Zf9 Zl0))))
   (Zd (Zhm (ZfG hr) (pv 3) (pv 5) (Zs Znf (Zbu (Za (pv 5) Zc)) (ZkF (Zu ZlY (pv 7) Zf9 (Zx _)) (Zbu Zc) (Zqo (pv 3) (pv 7) ⟨rfl,rfl,rfl,rfl⟩))) rfl)
   (Zi (Zhm (ZfG hr) (pv 4) (pv 5) (pv 7) rfl)))))))
   (Zi (ZE (Zbu (Za (pv 3) (Za (pv 4) Zc)))))))),?_⟩
 walk_at "rd"
 intro d1 z1 d2 z2
 have g1:=(Ze.refl H).upd (o:=.dK []) z1
 have g2:=(Ze.refl _).upd (o:=.dK []) z2
 have t1:=g2 _ _ (Zb (H:=H) (a:=d1) (o:=.dK []))
 have t2:=Zb (H:=upd H d1 (.dK [])) (a:=d2) (o:=.dK [])
 have nd12:d2≠d1:=λz=>by rw[z,Zb]at z2;cases z2
 have zd2:H d2=none:=g1.free z2
 have s1:=g1.trans g2
 generalize upd (upd H d1 (.dK [])) d2 (.dK [])=H1 at g2 t1 t2 s1⊢
 refine⟨⟨_,SqL.of (s1 _ _ ho)⟩,?_⟩
 refine Zhy (xs:=ps.map V.int) (λi σ Hx=>∃v5 v6 v7 cs fo,σ=[some (.ref o),some (.ref l),some (.ref h),some (.ref d1),some (.ref d2),v5,v6,v7]/\ChRun hs rs (ps.take i) cs fo/\ZnI Hx d1 cs/\ZgQ Hx d2 fo/\Ze H Hx) ⟨_,_,_,[],[],rfl,.nil,⟨λ_=>0,t1,λc h=>absurd h (by simp)⟩,t2,s1⟩ (λi σ Hx _ ⟨_,_,_,_,_,_,_,_,_,e⟩=>SqL.of (e _ _ ho)) ?_ ?_
 ·rintro i w σ Hx hw ⟨v5,v6,v7,cs,fo,rfl,hR,hC,hF,sx⟩
  have hi:i<ps.length:=by have:=(Yx.mp hw).1;simpa using this
  rw[YL,Yi hi]at hw
  cases hw
  have hpi:=hp _ (YC hi)
  obtain⟨p,ep⟩:=Y2 hpi.1
  rw[ep]at hpi⊢
  obtain⟨as,ha1,ha2,ha3⟩:=hl
  obtain⟨c,ec⟩:∃c,as[p]?=some c:=⟨_,Yi (by omega)⟩
  have hc:=ha3 p c ec
  obtain⟨AA,hd1,hcs⟩:=id hC
  have hz:(lowAt rs p).length<=2000:=Yo Zjx hrs
  have hcx:=sx _ _ hc
  have eLp:((lowAt rs p).map V.int).length=(lowAt rs p).length:=Yf ..
  walk_at "rd"
  refine⟨_,SqL.of (sx _ _ ha1),V.ref c,ZaY (by rw[YL,ec];rfl),c,rfl,⟨_,SqL.of hcx⟩,?_⟩
  refine Zgh (n:=(lowAt rs p).length) (λk=>cs.any λx=>decide (x.1=nth (lowAt rs p) k)) (λk=>V.int (nth (lowAt rs p) k)) (YF (show _<=2000 by omega) (by decide)) (λj Hz s hj=>⟨_,_,SqL.of (s _ _ hcx),ZaK hj⟩) (λHz s=>⟨_,SqL.of (s _ _ hcx),Jb eLp⟩) ?_ ?_
  ·rintro k y Hz Hw hk sz ⟨rfl,hy⟩
   have:=hy _ (SqL.of (sz _ _ hcx))
   rw[ZaK hk]at this
   cases this
   walk_at "rd"
   have hval:=valA (A:=AA) (b:=nth (lowAt rs p) k) (cs:=cs)
   refine⟨_,Zfk.k (k:=ZJ (nth (lowAt rs p) k)) (sz _ _ hd1),?_⟩
   rw[hval]
   by_cases c1:(cs.any λx=>decide (x.1=nth (lowAt rs p) k))=true
   ·rw[Yd c1,Yd (show(some (V.ref (AA (nth (lowAt rs p) k)))).isSome=true from rfl)];exact CF.take hk c1 rfl sz
   ·rw[Yb c1,Yb (by simp)];exact CF.skip hk (Bool.eq_false_iff.mpr c1) sz
  intro lf Hz sz zlf
  have efs:(((List.range (lowAt rs p).length).filter λk=>cs.any λx=>decide (x.1=nth (lowAt rs p) k)).map λk=>V.int (nth (lowAt rs p) k))=(((List.range (lowAt rs p).length).filter λk=>cs.any λx=>decide (x.1=nth (lowAt rs p) k)).map λk=>nth (lowAt rs p) k).map V.int:=by rw[YW];rfl
  rw[efs]
  have hfs:∀x,x∈(((List.range (lowAt rs p).length).filter λk=>cs.any λx=>decide (x.1=nth (lowAt rs p) k)).map λk=>nth (lowAt rs p) k)↔x∈lowAt rs p/\(cs.any λc=>decide (c.1=x))=true:=λx=>by
   rw[Yu]
   constructor
   ·rintro⟨k,hk,rfl⟩
    obtain⟨h1,h2⟩:=YJ.mp hk
    have hk:=Yw.mp h1
    refine⟨?_,h2⟩
    unfold nth
    rw[Yn,Yi hk]
    exact YC hk
   ·rintro⟨h1,h2⟩
    obtain⟨k,hk,rfl⟩:=YZ h1
    have e:nth (lowAt rs p) k=(lowAt rs p)[k]:=by unfold nth;rw[Yn,Yi hk];rfl
    exact⟨k,YJ.mpr ⟨Yw.mpr hk,by rw[e];exact h2⟩,e⟩
  generalize (((List.range (lowAt rs p).length).filter λk=>cs.any λx=>decide (x.1=nth (lowAt rs p) k)).map λk=>nth (lowAt rs p) k)=FS at hfs⊢
  have gf:=(Ze.refl Hz).upd (o:=.lst (FS.map V.int)) zlf
  have tf:=Zb (H:=Hz) (a:=lf) (o:=.lst (FS.map V.int))
  have sxf:=sz.trans gf
  generalize upd Hz lf (.lst (FS.map V.int))=H2 at gf tf sxf⊢
  refine⟨ZbQ.same hTb (sx.trans sxf),λf1 H3 zf s3 LO=>⟨lf,rfl,FS,s3 _ _ tf,LO,λn=>nth hs n.toNat,λn H4 hn s4=>?_,?_⟩⟩
  ·have hnb:=hb p n ((hfs n).mp hn).1
   obtain⟨m,rfl⟩:=Y2 hnb.1
   exact⟨_,SqL.of ((((sx.trans sxf).trans s3).trans s4) _ _ hh),_,ZaY (ZaK (by omega)),rfl,Ze.refl _⟩
  have hnew:∀x∈cs,x.1≠(p:Int):=λx hx z=>by
   have h1:=(hR.keys x hx)
   rw[z]at h1
   obtain⟨m,hm,em⟩:=List.mem_take_iff_getElem.mp h1
   have:=(List.getElem_inj nd (h₀:=by omega) (h₁:=hi)).mp (em.trans ep.symm)
   omega
  have hnf:∀x∈fo,x.1≠(p:Int):=λx hx z=>by
   have h1:x.1∈ps.take i:=by rw[<-hR.fol];exact Yu.mpr ⟨x,hx,rfl⟩
   rw[z]at h1
   obtain⟨m,hm,em⟩:=List.mem_take_iff_getElem.mp h1
   have:=(List.getElem_inj nd (h₀:=by omega) (h₁:=hi)).mp (em.trans ep.symm)
   omega
  have lc:cs.length<=40:=Yo hR.len (by rw[Y1];omega)
  have lf2:fo.length<=40:=by
   have:=congrArg List.length hR.fol
   rw[Yf,Y1]at this;omega
  have htk:ps.take (i+1)=ps.take i++[(p:Int)]:=by rw[Y5,Yi hi,ep];rfl
  rw[htk]
  refine⟨λe0 H4 s4=>⟨by decide,λq1 hq1=>?_⟩,λk H4 hk hB s4=>⟨by decide,λq1 hq1=>?_⟩⟩
  ·have g4:=(Ze.refl H4).upd (o:=.tup [V.int (p:Int)]) hq1
   have r1:=Zb (H:=H4) (a:=q1) (o:=.tup [V.int (p:Int)])
   generalize upd H4 q1 (.tup [V.int (p:Int)])=H5 at g4 r1⊢
   refine⟨Yr _,λq2 hq2=>?_⟩
   have g5:=(Ze.refl H5).upd (o:=.tup []) hq2
   have r2:=Zb (H:=H5) (a:=q2) (o:=.tup [])
   generalize upd H5 q2 (.tup [])=H6 at g5 r2⊢
   refine⟨q1,q2,_,_,rfl,rfl,SqT.of (g5 _ _ r1),SqT.of r2,by simp,show 1<=sizeLine by decide,λ_=>?_,λz=>absurd rfl z⟩
   have sxy:Ze Hx H6:=((sxf.trans s3).trans (s4.trans g4)).trans g5
   exact Zie (bo:=none) z1 zd2 nd12 (sxy _ _ hd1) (λc h=>sxy _ _ (hcs c h)) hnew (sxy _ _ hF) hnf lc lf2 (sx.trans sxy) (show H6 q1=some (.tup ([(p:Int)].map V.int))from g5 _ _ r1) (.new hR λb hb1 c hc e=>by
    have:b∈FS:=(hfs b).mpr ⟨hb1,List.any_eq_true.mpr ⟨c,hc,by simpa using e⟩⟩
    rw[e0]at this;simp at this)
  ·rw[Yb (by simp)]
   have g4:=(Ze.refl H4).upd (o:=.tup [V.int (p:Int)]) hq1
   have r1:=Zb (H:=H4) (a:=q1) (o:=.tup [V.int (p:Int)])
   generalize upd H4 q1 (.tup [V.int (p:Int)])=H5 at g4 r1⊢
   have hbm:nth FS k∈FS:=by
    unfold nth
    rw[Yn,Yi hk]
    exact YC hk
   have hBk:∀x∈FS,nth hs x.toNat<=nth hs (nth FS k).toNat:=λx hx=>by
    obtain⟨j,hj,rfl⟩:=YZ hx
    have:=(hB j hj).1
    rwa [show nth FS j=FS[j] by unfold nth;rw[Yn,Yi hj];rfl]at this
   generalize nth FS k=b at hbm hBk⊢
   obtain⟨hb1,hb2⟩:=(hfs b).mp hbm
   obtain⟨⟨b',ch⟩,hbc,eb⟩:=List.any_eq_true.mp hb2
   have:b'=b:=by simpa using eb
   subst this
   have sx5:Ze Hx H5:=(sxf.trans s3).trans (s4.trans g4)
   have hch:=sx5 _ _ (hcs _ hbc)
   have hchl:=hR.chl _ hbc
   have hd5:=sx5 _ _ hd1
   have hval:ZcT (cs.map λc=>(ZJ c.1,V.ref (AA c.1))) (ZJ b')=some (V.ref (AA b')):=by rw[valA,Yd hb2]
   unfold Zqn
   walk_at "rd"
   refine⟨.inl ⟨_,.inl hd5⟩,_,hd5,ZJ b',rfl,_,hval,?_⟩
   rw[dropA (g:=λc=>V.ref (AA c.1))]
   have e6:Exc d1 H5 (upd H5 d1 (.dK ((cs.filter λc=>decide (c.1≠b')).map λc=>(ZJ c.1,V.ref (AA c.1))))):=Exc.upd
   have hd6:=Zb (H:=H5) (a:=d1) (o:=.dK ((cs.filter λc=>decide (c.1≠b')).map λc=>(ZJ c.1,V.ref (AA c.1))))
   generalize upd H5 d1 (.dK ((cs.filter λc=>decide (c.1≠b')).map λc=>(ZJ c.1,V.ref (AA c.1))))=H6 at e6 hd6⊢
   have tup6:∀a xs,H5 a=some (.tup xs)->H6 a=some (.tup xs):=λa xs e=>e6 _ _ (λy=>by rw[y,hd5]at e;cases e) e
   have hF6:ZgQ H6 d2 fo:=e6 _ _ nd12 (sx5 _ _ hF)
   have s06:Ze H H6:=(sx.trans sx5).exc z1 e6
   have hrun:ChRun hs rs (ps.take i++[(p:Int)]) (cs.filter (λc=>decide (c.1≠b'))++[((p:Int),(p:Int)::ch)]) (fo++[((p:Int),some b')]):=.on hR hb1 hbc λb2 h2 ⟨c,hc,e⟩=>hBk b2 ((hfs b2).mpr ⟨h2,List.any_eq_true.mpr ⟨c,hc,by simpa using e⟩⟩)
   have hfl:(cs.filter λc=>decide (c.1≠b')).length<=40:=Yo (Y4 _ _) lc
   refine⟨q1,AA b',_,_,rfl,rfl,SqT.of (tup6 _ _ r1),SqT.of (tup6 _ _ hch),by simp,Y6 (YF (show _<=1000 by simp at hchl⊢;omega) (by decide)),λye=>?_,λyn q3 hq3=>?_⟩
   ·have ce:ch=[]:=by simpa using ye
    subst ce
    exact Zie (bo:=some b') z1 zd2 nd12 hd6 (λc h=>tup6 _ _ (sx5 _ _ (hcs c (YJ.mp h).1))) (λx h=>hnew x (YJ.mp h).1) hF6 hnf hfl lf2 s06 (show H6 q1=some (.tup ([(p:Int)].map V.int))from tup6 _ _ r1) hrun
   ·have g7:=(Ze.refl H6).upd (o:=.tup ([V.int (p:Int)]++ch.map V.int)) hq3
    have r7:=Zb (H:=H6) (a:=q3) (o:=.tup ([V.int (p:Int)]++ch.map V.int))
    generalize upd H6 q3 (.tup ([V.int (p:Int)]++ch.map V.int))=H7 at g7 r7⊢
    exact Zie (bo:=some b') z1 zd2 nd12 (g7 _ _ hd6) (λc h=>g7 _ _ (tup6 _ _ (sx5 _ _ (hcs c (YJ.mp h).1)))) (λx h=>hnew x (YJ.mp h).1) (g7 _ _ hF6) hnf hfl lf2 (s06.trans g7) (show H7 q3=some (.tup (((p:Int)::ch).map V.int))from r7) hrun
 ·rintro σ Hx ⟨v5,v6,v7,cs,fo,rfl,hR,hC,hF,sx⟩
  walk_at "rd"
  refine⟨by decide,λt zt=>?_⟩
  have gt:=(Ze.refl Hx).upd (o:=.tup [V.ref d1,V.ref d2]) zt
  rw[List.take_of_length_le (by simp)]at hR
  obtain⟨AA,hd1,hcs⟩:=hC
  exact k1 t d1 d2 cs fo _ hR ⟨AA,gt _ _ hd1,λc h=>gt _ _ (hcs c h)⟩ (gt _ _ hF) Zb (sx.trans gt)
theorem Zkm {f:Addr}{fd:FuncData} (F:Fun K "most_stay" "most_stay" Zba f fd) (ZaT:Callee P w K mg base "from_below" 5 ["tree"] (ZbE K mg)) (Zan:Callee P w K mg base "flattest" 5 ["tree"] (ZbR K mg)) (ZW:Callee P w K mg base "heights_of" 1 ["flat","row"] (ZaX K mg)) (Zdt:Callee P w K mg base "row_by" 1 ["flat","heights"] (Zdr K mg)) (ZcX:Callee P w K mg base "lower_under" 3 ["tree","heights"] (Zcw K mg)) (Zel:Callee P w K mg base "chains_by" 1 ["order","lower","heights"] (ZdH K mg)) (Zkn:Callee P w K mg base "stays" 1 ["height","bar","under"] (Zh7 K mg)) (T:Txt K mg):FnOk P w K mg base (CXE P w) 6 f fd ["tree","row"] (ZdI K mg):=by
 refine F.okX ZR (λvs H Q E h=>?_) (λcdv A outer s H vs Q E hr h=>?_)
 ·obtain⟨t,r,T,ns,rfl,_⟩:=h;rfl
 obtain⟨t,r,T',ns,rfl,ht,hr1,l1,l2,hT1,hT2,k1,k2,k3⟩:=h
 refine⟨_,(Zd (Zo (i:=2) ZR.nd rfl (Or.inl rfl) (Zh Zan (hr.mono (by decide)) rfl Zbi (Za (pv 0) Zc)))
   (Zd (Zo (i:=3) ZR.nd rfl (Or.inl rfl) (Zh ZW (hr.mono (by decide)) rfl Zbi (Za (pv 2) (Za (pv 1) Zc))))
   (Zd (Zo (i:=4) ZR.nd rfl (Or.inl rfl) (Zh ZaT (hr.mono (by decide)) rfl Zz (Za (pv 0) Zc)))
   (Zd (Zco (Zh Zel (hr.mono (by decide)) rfl Zz (Za (pv 4) (Za (Zh ZcX (hr.mono (by decide)) rfl Zz (Za (pv 0) (Za (pv 3) Zc))) (Za (pv 3) Zc)))) (Zfe (n:=2) rfl (ZN (Zm (i:=5) ZR.nd rfl (Or.inl rfl)) (ZN (Zm (i:=6) ZR.nd rfl (Or.inl rfl)) Zb7))))
   (Zd (Zo (i:=7) ZR.nd rfl (Or.inr rfl) (Zsk (Zql (ZfB Zdv Zf) (Zsd (K:=K) rfl rfl rfl T.b_min (Za (pv 3) Zc) (ZfC Zf Zl0)) Zsj) rfl rfl (by simp) (by decide)))
   (Zd (Zo (i:=8) ZR.nd rfl (Or.inl rfl) (Z9 Zc))
   (Zd (Zag (ZaE PassesOwn.never rfl (Zbh (Zjj (K:=K) rfl (pv 4) (ZfB Zdv Zf))) (Zm (i:=9) ZR.nd rfl (Or.inl rfl)) (Zd (Zhm (ZfG hr) (pv 7) (pv 9) (Zhl (ZfG hr) (pv 7) (Zw Zaa (pv 0) (pv 9) (λ_ _=>rfl)) (λ_ _=>rfl)) rfl)
   (Zd (Zo (i:=10) ZR.nd rfl (Or.inl rfl) (Zhl (ZfG hr) (pv 6) (pv 9) (λ_ _=>rfl)))
   (Zi (ZaA (Zga (Zh Zkn (hr.mono (by decide)) rfl Zz (Za (Zw Zv (pv 3) (pv 9) (λ_ _=>rfl)) (Za (Zhl (ZfG hr) (pv 7) (pv 9) (λ_ _=>rfl)) (Za (ZkF (Zu ZlY (pv 10) Zf9 (Zx _)) Zf9 (Zw Zv (pv 3) (pv 10) (λ_ _=>rfl))) Zc))))) (Zd (ZaL (Ze1 PySem.F.plainAttrs_list PySem.F.slot_list_append PySem.F.type_list_append Zaq (pv 8) (Za (pv 9) Zc)))
   (Zi (Zhm (ZfG hr) (pv 7) (pv 9) (Zw Zv (pv 3) (pv 9) (λ_ _=>rfl)) rfl))) ZK))))))
   (Zd (Zo (i:=11) ZR.nd rfl (Or.inl rfl) (Zh Zdt (hr.mono (by decide)) rfl Zz (Za (pv 2) (Za (Zb8 ["place","bars"] [none,some 7] rfl rfl rfl (ZS rfl T.b_range (Za (Zk (Zn (K:=K) rfl) rfl T.b_len YE (Za (pv 0) Zc)) Zc)) (λ_ _ _ _ _=>(Zm (i:=0) (show(["place","bars"]:List Str).Nodup from by decide +kernel) rfl (Or.inl rfl))) (λ_ _ _ _ _=>Zaf) (λ_ _ _ _ _=>(Zhl (ZfG hr) (pv 1) (pv 0) (λ_ _=>rfl))) ZC) Zc))))
   (Zi (ZE (Zbu (Za (ZT (Za6 (K:=K) rfl) rfl T.b_tuple Zbk (Za (Zk (ZkX (K:=K) rfl) rfl T.b_sorted ZeU (Za (pv 8) Zc)) Zc)) (Za (pv 11) (Za (ZT (Zg9 rfl) rfl T.b_list ZjT (Za (ZoB (pv 5)) Zc)) Zc)))))))))))))),?_⟩
 by_cases hG:Zai T'
 case neg =>
  refine Zao (λ_ _=>False) (λR hR=>?_) (λ_ _ z=>z.elim)
  walk_at "rd"
  exact⟨t,T',rfl,ht,l1,λg=>absurd g hG,λ_ H1 s1=>k2 hG H1 s1⟩
 have h40:=hG.1
 have eF:(Zj T').length=T'.length:=Zar T'
 refine Zao (fun σ Hx=>∃f,σ=[some (.ref t),some (.ref r),some (.ref f),none,none,none,none,none,none,none,none,none]/\Hx f=some (.tup ((Zj T').map V.int))/\Ze H Hx) (λR hR=>?_) ?_
 ·walk_at "rd"
  exact⟨t,T',rfl,ht,l1,λ_ f H1 s1 hf=>hR _ _ ⟨f,rfl,hf,s1⟩,λg=>absurd hG g⟩
 rintro σ H1 ⟨f,rfl,hf,s1⟩
 by_cases hn:ns.length=T'.length
 case neg =>
  refine Zao (λ_ _=>False) (λR hR=>?_) (λ_ _ z=>z.elim)
  walk_at "rd"
  exact⟨f,r,_,ns,rfl,hf,s1.q hr1,by omega,by omega,λz=>absurd (by omega) hn,λ_ H2 s2=>k3 hG hn H2 (s1.trans s2)⟩
 have eH:(hgt (Zj T') ns).length=T'.length:=by rw[Zhn,eF]
 refine Zao (fun σ Hx=>∃h,σ=[some (.ref t),some (.ref r),some (.ref f),some (.ref h),none,none,none,none,none,none,none,none]/\Hx h=some (.lst ((hgt (Zj T') ns).map V.int))/\Ze H1 Hx) (λR hR=>?_) ?_
 ·walk_at "rd"
  exact⟨f,r,_,ns,rfl,hf,s1.q hr1,by omega,by omega,λ_ l H2 zl s2 hl2=>hR _ _ ⟨l,rfl,hl2,s2⟩,λz=>absurd (by omega) z⟩
 rintro σ H2 ⟨h,rfl,hh,s2⟩
 generalize ehs:hgt (Zj T') ns=hs at eH hh⊢
 refine Zao (fun σ Hx=>∃(o:Addr) (ps:List Int),σ=[some (.ref t),some (.ref r),some (.ref f),some (.ref h),some (.ref o),none,none,none,none,none,none,none]/\ps.Perm (nats (T'.length:Int))/\(ps.Pairwise λx y=>dpI T' y<=dpI T' x)/\Hx o=some (.lst (ps.map V.int))/\Ze H2 Hx) (λR hR=>?_) ?_
 ·walk_at "rd"
  exact⟨t,T',rfl,(s1.trans s2) _ _ ht,hG,ZbQ.same hT1 (s1.trans s2),λl ps H3 zl s3 hpm hpw hl=>hR _ _ ⟨l,ps,rfl,hpm,hpw,hl,s3⟩⟩
 rintro σ H3 ⟨o,ps,rfl,hpm,hpw,ho,s3⟩
 have s03:=(s1.trans s2).trans s3
 have nd:ps.Nodup:=hpm.nodup_iff.mpr (ZbD _)
 have pl:ps.length=T'.length:=by have:=hpm.length_eq;unfold nats at this;simpa using this
 have hp:∀p∈ps,0<=p/\p<hs.length:=λp h=>by
  obtain⟨v,hv,rfl⟩:=Yu.mp (hpm.mem_iff.mp h)
  have:=Yw.mp hv
  omega
 refine Zao (fun σ Hx=>∃(d1 d2:Addr) (rs:List (List Int)) (cs:List (Int×List Int)) (fo:List (Int×Option Int)),σ=[some (.ref t),some (.ref r),some (.ref f),some (.ref h),some (.ref o),some (.ref d1),some (.ref d2),none,none,none,none,none]/\ZfV rs (ZQ T' hs)/\ChRun hs rs ps cs fo/\ZnI Hx d1 cs/\ZgQ Hx d2 fo/\Ze H3 Hx) (λR hR=>?_) ?_
 ·walk_at "rd"
  refine⟨t,h,T',hs,rfl,s03 _ _ ht,s3 _ _ hh,hG,eH,λl rs H4 zl hS hL s4=>?_⟩
  refine⟨o,l,h,ps,hs,rs,rfl,s4 _ _ ho,by rw[eH];exact hL,s4 _ _ (s3 _ _ hh),by omega,by omega,nd,hp,λi b hb=>?_,Zgv h40 hS,ZbQ.same hT2 (s03.trans s4),λu d1 d2 cs fo H5 hR5 hC hF hu s5=>⟨u,rfl,_,SqT.of hu,rfl,_,_,rfl,_,_,rfl,rfl,hR _ _ ⟨d1,d2,rs,cs,fo,rfl,hS,hR5,hC,hF,s4.trans s5⟩⟩⟩
  obtain⟨q,hq,rfl⟩:=Yu.mp hb
  obtain⟨a,b,rfl,_,hb,_⟩:=Zam (hS.1.mem_iff.mp (YJ.mp hq).1)
  exact⟨Int.natCast_nonneg _,by rw[eH];exact Int.ofNat_lt.mpr hb⟩
 rintro σ H4 ⟨d1,d2,rs,cs,fo,rfl,hS,hR4,hC,hF,s4⟩
 have s04:=s03.trans s4
 refine Zao (fun σ Hx=>∃(d3:Addr) (m:Int),σ=[some (.ref t),some (.ref r),some (.ref f),some (.ref h),some (.ref o),some (.ref d1),some (.ref d2),some (.ref d3),none,none,none,none]/\(hs=[]->m=0)/\(hs≠[]->m∈hs/\∀a∈hs,m<=a)/\H4 d3=none/\Zll Hx d3 [(-1,m)]/\Ze H4 Hx) (λR hR=>?_) ?_
 ·walk_at "rd"
  intro d3 z3
  have g5:=(Ze.refl H4).upd (o:=.dK []) z3
  have r5:=Zb (H:=H4) (a:=d3) (o:=.dK [])
  generalize e5:upd H4 d3 (.dK [])=H5 at g5 r5
  simp only[Zj5]
  walk_at "rd"
  have fin:∀m:Int,(hs=[]->m=0)->(hs≠[]->m∈hs/\∀a∈hs,m<=a)->H5 d3=some (.dK [])/\∃kvs:List (Key×V),[(V.int (-1),V.int m)]=kvs.map (λkv=>(kV kv.1,kv.2))/\kvs.length<=15/\R [some (.ref t),some (.ref r),some (.ref f),some (.ref h),some (.ref o),some (.ref d1),some (.ref d2),some (.ref d3),none,none,none,none] (upd H5 d3 (.dK (Zgm [] kvs))):=λm h1 h2=>by
   refine⟨r5,[(ZJ (-1),V.int m)],rfl,show 1<=15 by decide,hR _ _ ⟨d3,m,rfl,h1,h2,z3,?_,?_⟩⟩
   ·unfold Zll;rw[Zb];rfl
   ·rw[<-e5,ZrV];exact(Ze.refl H4).upd z3
  exact⟨hs,SqL.of (g5 _ _ (s4 _ _ (s3 _ _ hh))),λe0=>fin 0 (λ_=>rfl) (λz=>absurd e0 z),λn0 m hm hle=>fin m (λz=>absurd z n0) (λ_=>⟨hm,hle⟩)⟩
 rintro σ H5 ⟨d3,m,rfl,hm0,hm1,z3,hB5,s5⟩
 have s05:=s04.trans s5
 have z03:H d3=none:=s04.free z3
 obtain⟨AA,hd1,hcs⟩:=hC
 refine Zao (fun σ Hx=>∃(k:Addr),σ=[some (.ref t),some (.ref r),some (.ref f),some (.ref h),some (.ref o),some (.ref d1),some (.ref d2),some (.ref d3),some (.ref k),none,none,none]/\H5 k=none/\Hx k=some (.lst [])/\Ze H5 Hx) (λR hR=>?_) ?_
 ·walk_at "rd"
  exact⟨Yr _,λk zk=>hR _ _ ⟨k,rfl,zk,Zb,(Ze.refl _).upd zk⟩⟩
 rintro σ H6 ⟨k,rfl,zk,hk6,s6⟩
 have nk3:k≠d3:=λy=>by rw[y]at zk;unfold Zll at hB5;rw[zk]at hB5;cases hB5
 refine Zao (fun σ Hx=>∃(v9 v10:Option V) (bs:List (Int×Int)) (ks:List Int),σ=[some (.ref t),some (.ref r),some (.ref f),some (.ref h),some (.ref o),some (.ref d1),some (.ref d2),some (.ref d3),some (.ref k),v9,v10,none]/\BarRun T' hs fo m ps.reverse bs ks/\Zll Hx d3 bs/\Hx k=some (.lst (ks.map V.int))/\(∀b u,b≠d3->b≠k->H6 b=some u->Hx b=some u)) (λR hR=>?_) ?_
 ·walk_at "rd"
  obtain⟨_,nsT,hT⟩:=id hG
  have eT:=hT.1
  have s06:=s05.trans s6
  refine⟨_,SqL.of ((s4.trans (s5.trans s6)) _ _ ho),λq zq=>?_⟩
  have gq:=(Ze.refl H6).upd (o:=.lst (ps.map V.int).reverse) zq
  have hq:=Zb (H:=H6) (a:=q) (o:=.lst (ps.map V.int).reverse)
  rw[<-List.map_reverse]at gq hq⊢
  have nq3:q≠d3:=λy=>by rw[y,s6 _ _ hB5]at zq;cases zq
  have nqk:q≠k:=λy=>by rw[y,hk6]at zq;cases zq
  generalize upd H6 q (.lst (ps.reverse.map V.int))=H7 at gq hq⊢
  refine⟨⟨_,SqL.of hq⟩,?_⟩
  have zk0:H k=none:=s05.free zk
  refine Zhy (xs:=ps.reverse.map V.int) (λi σ Hx=>∃(v9 v10:Option V) (bs:List (Int×Int)) (ks:List Int),σ=[some (.ref t),some (.ref r),some (.ref f),some (.ref h),some (.ref o),some (.ref d1),some (.ref d2),some (.ref d3),some (.ref k),v9,v10,none]/\BarRun T' hs fo m (ps.reverse.take i) bs ks/\Zll Hx d3 bs/\Hx k=some (.lst (ks.map V.int))/\(∀b u,b≠d3->b≠k->H7 b=some u->Hx b=some u)) ⟨none,none,_,[],rfl,.nil,gq _ _ (s6 _ _ hB5),gq _ _ hk6,λb u _ _ z=>z⟩ (λi σ Hx _ ⟨_,_,_,_,_,_,_,_,e⟩=>SqL.of (e _ _ nq3 nqk hq)) ?_ ?_
  ·rintro i w σ Hx hw ⟨v9,v10,bs,ks,rfl,hBR,hBx,hkx,ex⟩
   have hi:i<ps.reverse.length:=by have:=(Yx.mp hw).1;simpa using this
   rw[YL,Yi hi]at hw
   cases hw
   have hpi:=hp _ (List.mem_reverse.mp (YC hi))
   obtain⟨p,ep⟩:=Y2 hpi.1
   rw[ep]at hpi⊢
   have hpT:p<T'.length:=by omega
   have hpi':p<hs.length:=by omega
   have n3:∀a o',H a=some o'->a≠d3/\a≠k:=λa o' e=>⟨λy=>(by rw[y,z03]at e;cases e),λy=>(by rw[y,zk0]at e;cases e)⟩
   have nd':ps.reverse.Nodup:=(List.reverse_perm ps).nodup_iff.mpr nd
   have hpn:(p:Int)∉bs.map (·.1):=λz=>by
    rw[hBR.keys]at z
    rcases Ym.mp z with z|z
    ·omega
    ·obtain⟨j,hj,ej⟩:=List.mem_take_iff_getElem.mp z
     have:=(List.getElem_inj nd' (h₀:=by omega) (h₁:=hi)).mp (ej.trans ep.symm)
     omega
   obtain⟨b,hb⟩:∃b,lookI bs (nth T' p)=some b:=Zls (by
    rw[hBR.keys]
    rcases ZG hT (p:=p) (by omega)with z|⟨q',z,hq',_⟩
    ·rw[z];simp
    ·refine YD _ ?_
     rw[z]
     exact(ZgR hT (hpm:=(List.reverse_perm ps).trans hpm) (List.pairwise_reverse.mpr hpw) hpT (by omega) z).1 (Yx.mpr ⟨hi,ep⟩))
   obtain⟨u,cu,hu,hcu,ecu⟩:=ZqL (bs:=fo) (x:=(p:Int)) (by rw[hR4.fol];exact List.mem_reverse.mp (ep▸YC hi))
   have keepH:∀a o',H a=some o'->Hx a=some o':=λa o' e=>ex _ _ (n3 a o' e).1 (n3 a o' e).2 ((s06.trans gq) _ _ e)
   have keep4:∀a o',H4 a=some o'->Hx a=some o':=λa o' e=>ex _ _ (λy=>by rw[y,z3]at e;cases e) (λy=>by have:=s5.free zk;rw[y,this]at e;cases e) ((s5.trans (s6.trans gq)) _ _ e)
   have hhx:=keep4 _ _ (s4 _ _ (s3 _ _ hh))
   have htx:=keepH _ _ ht
   have hFx:=keep4 _ _ hF
   have nd23:d2≠d3:=λy=>by unfold ZgQ at hF;rw[y,z3]at hF;cases hF
   have nh3:h≠d3:=λy=>by have:=s4 _ _ (s3 _ _ hh);rw[y,z3]at this;cases this
   have nhk:h≠k:=λy=>by have:=s5 _ _ (s4 _ _ (s3 _ _ hh));rw[y,zk]at this;cases this
   have lb:bs.length<=41:=by have:=congrArg List.length hBR.keys;simp at this;omega
   walk_at "rd"
   have g1:Zfk Hx d3 (V.int (nth T' p)) (some (V.int b)):=by
    have:=Zfk.k (k:=ZJ (nth T' p)) hBx
    rw[valB,hb]at this;exact this
   refine⟨_,SqT.of htx,_,ZaY (ZaK hpT),_,g1,_,ZhY.k (k:=ZJ (p:Int)) hBx (YF (show _<=41 by rw[Yf];exact lb) (by decide)),?_⟩
   rw[ZqM hpn]
   have hBy:=Zb (H:=Hx) (a:=d3) (o:=.dK ((bs++[((p:Int),b)]).map λc=>(ZJ c.1,V.int c.2)))
   have ey:Exc d3 Hx (upd Hx d3 (.dK ((bs++[((p:Int),b)]).map λc=>(ZJ c.1,V.int c.2)))):=Exc.upd
   generalize upd Hx d3 (.dK ((bs++[((p:Int),b)]).map λc=>(ZJ c.1,V.int c.2)))=Hy at hBy ey⊢
   have hky:=ey _ _ nk3 hkx
   have hhy:=ey _ _ nh3 hhx
   have g2:Zfk Hy d2 (V.int (p:Int)) (some (Zgr u)):=by
    have:=Zfk.k (k:=ZJ (p:Int)) (ey _ _ nd23 hFx)
    rw[valO,hu]at this;exact this
   have g3:Zfk Hy d3 (V.int (p:Int)) (some (V.int b)):=by
    have:=Zfk.k (k:=ZJ (p:Int)) hBy
    rw[valB,Zfo hpn]at this;exact this
   refine⟨_,g2,_,SqL.of hhy,_,ZaY (ZaK hpi'),_,g3,?_⟩
   have htk:ps.reverse.take (i+1)=ps.reverse.take i++[(p:Int)]:=by rw[Y5,Yi hi,ep];rfl
   rw[htk]
   have lks:ks.length<=40:=Yo hBR.ksl (by rw[Y1,List.length_reverse];omega)
   cases u with
   |none =>
    rw[Yd (show Zgr none=V.non from rfl)]
    refine⟨nth hs p,b,none,rfl,_,rfl,?_⟩
    have hst:staysI hs (nth hs p) b none=decide (b<=nth hs p/\∀x,(none:Option Int)=some x->x<b):=rfl
    refine Z1 (λcc=>⟨Zah hky,_,hky,YF (show _<=40 by rw[Yf];exact lks) (by decide),?_⟩) λcc=>⟨_,_,.pass hBR hb hu (hst.trans (Bool.eq_false_iff.mpr cc)),hBy,hky,λa o' n1 n2 z=>ey _ _ n1 (ex a o' n1 n2 z)⟩
    have ez:Exc k Hy (upd Hy k (.lst (ks.map V.int++[V.int (p:Int)]))):=Exc.upd
    have hkz:=Zb (H:=Hy) (a:=k) (o:=.lst (ks.map V.int++[V.int (p:Int)]))
    generalize upd Hy k (.lst (ks.map V.int++[V.int (p:Int)]))=Hz at ez hkz⊢
    have hBz:=ez _ _ (Ne.symm nk3) hBy
    refine⟨_,SqL.of (ez _ _ nhk hhy),_,ZaY (ZaK hpi'),_,ZhY.k (k:=ZJ (p:Int)) hBz (YF (show _<=42 by rw[Yf,YM];simp;omega) (by decide)),_,_,.keep hBR hb hu (hst.trans cc),?_,?_,λa o' n1 n2 z=>?_⟩
    ·rw[Zif hpn];exact Zb
    ·rw[Zg nk3,hkz,YI];rfl
    ·rw[Zg n1];exact ez _ _ n2 (ey _ _ n1 (ex a o' n1 n2 z))
   |some y =>
    rw[Yb (by unfold Zgr;simp)]
    obtain⟨p',hp'⟩:=hR4.fob cu hcu y ecu
    obtain⟨q',hq',rfl⟩:=Yu.mp hp'
    obtain⟨a',y',rfl,_,hy',_⟩:=Zam (hS.1.mem_iff.mp (YJ.mp hq').1)
    refine⟨_,(y':Int),rfl,SqL.of hhy,_,ZaY (ZaK (by omega)),nth hs p,b,some (nth hs y'),rfl,_,rfl,?_⟩
    have hst:staysI hs (nth hs p) b (some (y':Int))=decide (b<=nth hs p/\∀x,some (nth hs y')=some x->x<b):=rfl
    refine Z1 (λcc=>⟨Zah hky,_,hky,YF (show _<=40 by rw[Yf];exact lks) (by decide),?_⟩) λcc=>⟨_,_,.pass hBR hb hu (hst.trans (Bool.eq_false_iff.mpr cc)),hBy,hky,λa o' n1 n2 z=>ey _ _ n1 (ex a o' n1 n2 z)⟩
    have ez:Exc k Hy (upd Hy k (.lst (ks.map V.int++[V.int (p:Int)]))):=Exc.upd
    have hkz:=Zb (H:=Hy) (a:=k) (o:=.lst (ks.map V.int++[V.int (p:Int)]))
    generalize upd Hy k (.lst (ks.map V.int++[V.int (p:Int)]))=Hz at ez hkz⊢
    have hBz:=ez _ _ (Ne.symm nk3) hBy
    refine⟨_,SqL.of (ez _ _ nhk hhy),_,ZaY (ZaK hpi'),_,ZhY.k (k:=ZJ (p:Int)) hBz (YF (show _<=42 by rw[Yf,YM];simp;omega) (by decide)),_,_,.keep hBR hb hu (hst.trans cc),?_,?_,λa o' n1 n2 z=>?_⟩
    ·rw[Zif hpn];exact Zb
    ·rw[Zg nk3,hkz,YI];rfl
    ·rw[Zg n1];exact ez _ _ n2 (ey _ _ n1 (ex a o' n1 n2 z))
  ·rintro σ Hx ⟨v9,v10,bs,ks,rfl,hBR,hBx,hkx,ex⟩
   rw[List.take_of_length_le (by simp)]at hBR
   exact hR _ _ ⟨v9,v10,bs,ks,rfl,hBR,hBx,hkx,λb u n1 n2 z=>ex b u n1 n2 (gq _ _ z)⟩
 rintro σ H7 ⟨v9,v10,bs,ks,rfl,hBR,hB7,hk7,e7⟩
 walk_at "rd"
 have zk0:H k=none:=s05.free zk
 have s07:Ze H H7:=λb u e=>e7 b u (λy=>by rw[y,z03]at e;cases e) (λy=>by rw[y,zk0]at e;cases e) ((s05.trans s6) _ _ e)
 have keep4:∀a o',H4 a=some o'->H7 a=some o':=λa o' e=>e7 _ _ (λy=>by rw[y,z3]at e;cases e) (λy=>by have:=s5.free zk;rw[y,this]at e;cases e) ((s5.trans s6) _ _ e)
 have hf7:=keep4 _ _ ((s2.trans (s3.trans s4)) _ _ hf)
 have lks:ks.length<=40:=Yo hBR.ksl (by rw[List.length_reverse];omega)
 refine⟨_,.inr (SqT.of (s07 _ _ ht)),by rw[Yf];omega,by rw[Yf];omega,?_⟩
 rw[show(((T'.map V.int).length:Nat):Int).toNat=T'.length by simp]
 refine ZfL (n:=T'.length) (λj acc Hz=>acc=((List.range j).map λ(q:Nat)=>(lookI bs (q:Int)).getD 0).map V.int/\Ze H7 Hz) (YF (show _<=1000 by omega) (by decide)) ⟨rfl,Ze.refl _⟩ (λj acc Hz _ hj=>hj) (λacc Hz _=>Ye _) ?_ ?_
 ·rintro j y acc Hz Hw hj hla ⟨rfl,sz⟩ ⟨rfl,rfl⟩
  rw[show(0:Int)+(j:Int)=((j:Nat):Int) by omega]
  walk_at "rd"
  obtain⟨v,hv⟩:∃v,lookI bs (j:Int)=some v:=Zls (by
   rw[hBR.keys]
   exact YD _ (List.mem_reverse.mpr (hpm.mem_iff.mpr (Yu.mpr ⟨j,Yw.mpr (by omega),rfl⟩))))
  refine⟨V.int v,?_,CA.take hj hla ⟨?_,sz⟩⟩
  ·have:=Zfk.k (k:=ZJ (j:Int)) (sz _ _ hB7)
   rw[valB,hv]at this;exact this
  ·rw[YY,YI,YI,List.map_singleton,List.map_singleton,hv];rfl
 ·rintro lu acc Hz ⟨rfl,sz⟩ _ zlu
  have gl:=(Ze.refl Hz).upd (o:=.lst ((usB T'.length bs).map V.int)) zlu
  have hlu:=Zb (H:=Hz) (a:=lu) (o:=.lst ((usB T'.length bs).map V.int))
  show Zdr K mg _ (upd Hz lu (.lst ((usB T'.length bs).map V.int))) _ _
  generalize upd Hz lu (.lst ((usB T'.length bs).map V.int))=H8 at gl hlu⊢
  have s78:=sz.trans gl
  have ul:(usB T'.length bs).length=T'.length:=by unfold usB;simp
  refine⟨f,lu,Zj T',usB T'.length bs,rfl,s78 _ _ hf7,hlu,by omega,by omega,λmd H9 s9 hmd=>⟨ks,SqL.of ((s78.trans s9) _ _ hk7),by omega,λks' l hpk hpw' zl=>⟨_,.inl ⟨SqL.of Zb,λl1 zl1=>?_⟩⟩⟩⟩
  have g9:=(Ze.refl H9).upd (o:=.lst (ks'.map V.int)) zl
  have g10:=(Ze.refl _).upd (o:=.tup (ks'.map V.int)) zl1
  have h10:=Zb (H:=upd H9 l (.lst (ks'.map V.int))) (a:=l1) (o:=.tup (ks'.map V.int))
  have gg:=g9.trans g10
  generalize upd (upd H9 l (.lst (ks'.map V.int))) l1 (.tup (ks'.map V.int))=H10 at gg h10⊢
  have s710:=(s78.trans s9).trans gg
  have hd10:=s710 _ _ (keep4 _ _ hd1)
  unfold ZnF ZnG
  walk_at "rd"
  refine⟨_,hd10,λv zv=>?_⟩
  have gv:=(Ze.refl H10).upd (o:=.ext (Zfl v d1)) zv
  have hv:=Zb (H:=H10) (a:=v) (o:=.ext (Zfl v d1))
  generalize upd H10 v (.ext (Zfl v d1))=H11 at gv hv⊢
  refine⟨d1,hv,_,gv _ _ hd10,λlc zlc=>?_⟩
  rw[YW]
  have gc:=(Ze.refl H11).upd (o:=.lst (cs.map ((λx:Key×V=>x.2) ∘ λc=>(ZJ c.1,V.ref (AA c.1))))) zlc
  have hc:=Zb (H:=H11) (a:=lc) (o:=.lst (cs.map ((λx:Key×V=>x.2) ∘ λc=>(ZJ c.1,V.ref (AA c.1)))))
  generalize upd H11 lc (.lst (cs.map ((λx:Key×V=>x.2) ∘ λc=>(ZJ c.1,V.ref (AA c.1)))))=H12 at gc hc⊢
  refine⟨by decide,λu zu=>?_⟩
  have gu:=(Ze.refl H12).upd (o:=.tup [V.ref l1,V.ref md,V.ref lc]) zu
  have g12:=(gv.trans gc).trans gu
  refine k1 hG hn u l1 md lc AA ks' (usB T'.length bs) cs _ ?_ Zb (g12 _ _ h10) (g12 _ _ (gg _ _ hmd)) (gu _ _ hc) (λx hx=>(s710.trans g12) _ _ (keep4 _ _ (hcs x hx))) (s07.trans (s710.trans g12))
  unfold Zgs
  rw[ehs]
  exact⟨ps,rs,fo,m,bs,ks,hpm,hpw,hS,hR4,hm0,hm1,hBR,hpk,hpw',rfl⟩
theorem ZlA {f:Addr}{fd:FuncData} (F:Fun K "clashing" "clashing" Zby f fd) (Zan:Callee P w K mg base "flattest" 5 ["tree"] (ZbR K mg)) (ZW:Callee P w K mg base "heights_of" 1 ["flat","row"] (ZaX K mg)) (Zal:Callee P w K mg base "higher_pairs" 2 ["tree","heights"] (ZaZ K mg)) (T:Txt K mg):FnOk P w K mg base (CXE P w) 6 f fd ["tree","row"] (Zeh K mg):=by
 refine F.okX Zln (λvs H Q E h=>?_) (λcdv A outer s H vs Q E hr h=>?_)
 ·obtain⟨t,r,T,ns,rfl,_⟩:=h;rfl
 obtain⟨t,r,T',ns,rfl,ht,hr1,n1,n2,k1,k2,k3⟩:=h
 refine⟨_,(Zi (ZE (Zh Zal (hr.mono (by decide)) rfl Zz (Za (pv 0) (Za (Zh ZW (hr.mono (by decide)) rfl Zbi (Za (Zh Zan (hr.mono (by decide)) rfl Zbi (Za (pv 0) Zc)) (Za (pv 1) Zc))) Zc))))),?_⟩
 walk_at "rd"
 have eF:(Zj T').length=T'.length:=by simp[Zj]
 refine⟨t,T',rfl,ht,n1,λhG f H1 s1 hf=>⟨f,r,Zj T',ns,rfl,hf,s1.q hr1,by omega,by omega,λhl l H2 zl s2 hl2=>?_,λz H' s=>k3 hG (by omega) H' (s1.trans s)⟩,λg H' s=>k2 g H' s⟩
 have eH:(hgt (Zj T') ns).length=T'.length:=by simp[hgt,eF]
 exact⟨t,l,T',_,rfl,s2 _ _ (s1 _ _ ht),hl2,hG.1,eH,λl2 rs H3 z3 s3 t3 p3=>k1 hG (by omega) l2 rs H3 (s1.free (s2.free z3)) (s1.trans (s2.trans s3)) t3 p3⟩
theorem ZoT {l a:Addr}{T hs S:List Int}{rs:List (List Int)}{H1:Hp}{Q:VK} (hrs:ZA H1 l rs) (lrs:rs.length<=2000) (hSP:ZfV rs (ZQ T hs)) (hS:SqL K H1 a (S.map V.int)\/SqT K H1 a (S.map V.int)) (hq:∀p (bs:List Bool) H',Ze H1 H'->H' p=some (.lst (bs.map V.bl))->(bs.any id=true↔¬ Indep T hs S)->Q (.ref p) H'):ZgK (Itl K l) (ZnS K 2 (Zjb (ZcF 0) (Zjb (ZcF 1) gNil))) Zn2 (Zm6 (tOp (rIn K false) (Zfd 0) (Zfd 2)) (tOp (rIn K false) (Zfd 1) (Zfd 2))) [none,none,some (V.ref a)] Q H1:=by
 obtain⟨w1,w2,w3⟩:=hrs.walk (K:=K)
 refine comp_map (n:=rs.length) (λj=>V.bl (decide ((rs.getD j []).getD 0 0∈S)&&decide ((rs.getD j []).getD 1 0∈S))) (YF lrs (by decide)) (λj Hx s hj=>w1 j Hx s hj) (λHx s=>w2 Hx s) ?_ ?_
 ·rintro j x Hx Hy hj s y
  obtain⟨rfl,u,rfl,hu⟩:=w3 j x Hx Hy hj s y
  have hm:rs[j]∈ZQ T hs:=hSP.1.mem_iff.mp (YC hj)
  obtain⟨x0,x1,e,_⟩:=Zam hm
  have eg:rs.getD j []=[(x0:Int),(x1:Int)]:=by rw[Yn,Yi hj,e];rfl
  have ef:(decide ((rs.getD j []).getD 0 0∈S)&&decide ((rs.getD j []).getD 1 0∈S))=(decide ((x0:Int)∈S)&&decide ((x1:Int)∈S)):=by rw[eg];rfl
  rw[e]at hu
  walk_at "rd"
  have hka:=s.q hS
  refine⟨_,SqT.of hu,rfl,_,_,rfl,_,_,rfl,rfl,_,hka,rfl,Zbv _,?_⟩
  rw[ZeT]
  refine Z1 (λz=>⟨_,hka,rfl,Zbv _,?_⟩) λz=>CW.next hj ?_ s
  ·rw[ZeT]
   exact CW.next hj (by show V.bl _=V.bl _;rw[ef,z,Bool.true_and]) s
  ·show V.bl _=V.bl _
   rw[ef,Bool.eq_false_iff.mpr z,Bool.false_and]
 ·intro lz Hx sx hlz
  refine hq lz ((List.range rs.length).map λj=>decide ((rs.getD j []).getD 0 0∈S)&&decide ((rs.getD j []).getD 1 0∈S)) _ (sx.Z8 hlz) (by rw[Zb,YW];rfl) ?_
  rw[List.any_map,List.any_eq_true]
  constructor
  ·rintro⟨j,hj,z⟩ hI
   have hj':=Yw.mp hj
   have z:(decide ((rs.getD j []).getD 0 0∈S)&&decide ((rs.getD j []).getD 1 0∈S))=true:=z
   rw[Bool.and_eq_true]at z
   have hm:rs[j]∈ZQ T hs:=hSP.1.mem_iff.mp (YC hj')
   have eg:rs.getD j []=rs[j]:=by rw[Yn,Yi hj'];rfl
   rw[eg]at z
   exact hI _ hm ⟨YX z.1,YX z.2⟩
  ·intro hI
   refine Classical.byContradiction λhno=>hI λr hr hh=>hno ?_
   obtain⟨j,hj,e⟩:=YZ (hSP.1.mem_iff.mpr hr)
   refine⟨j,Yw.mpr hj,?_⟩
   have eg:rs.getD j []=r:=by rw[Yn,Yi hj,e];rfl
   show(decide ((rs.getD j []).getD 0 0∈S)&&decide ((rs.getD j []).getD 1 0∈S))=true
   rw[eg,YB hh.1,YB hh.2];rfl
theorem ZqT {H:Hp}{c:Addr}{A:Int->Addr}{cs:List (Int×List Int)} (hc:H c=some (.lst (cs.map λx=>V.ref (A x.1)))) (hA:∀x∈cs,H (A x.1)=some (.tup (x.2.map V.int))):ZA H c (cs.map (·.2)):=by
 refine⟨cs.map λx=>A x.1,by rw[hc,YW];rfl,by simp,λi h1 h2=>?_⟩
 rw[List.getElem_map,List.getElem_map]
 exact hA _ (YC _)
theorem ZqU {T hs:List Int}{x y:Int} (h:[x,y]∈ZQ T hs):∀a b:Int,a∈[x,y]->b∈[x,y]->[a,b]∈ZQ T hs->[a,b]∈[[x,y]]:=λa b ha hb hab=>by
 obtain⟨i,j,e,_,_,_,h1⟩:=Zam h
 obtain⟨k,m,e2,_,_,_,h2⟩:=Zam hab
 simp only[List.cons.injEq,and_true]at e e2
 obtain⟨rfl,rfl⟩:=e
 obtain⟨rfl,rfl⟩:=e2
 simp only[Ym,List.not_mem_nil,or_false,Int.ofNat_inj]at ha hb
 rcases ha with ha|ha<;>rcases hb with hb|hb<;>subst ha<;>subst hb
 ·omega
 ·simp
 ·omega
 ·omega
theorem ok_law {f:Addr}{fd:FuncData} (F:Fun K "law" "law" ZfU f fd) (Zfr:Callee P w K mg base "clashing" 6 ["tree","row"] (Zeh K mg)) (Zem:Callee P w K mg base "most_stay" 6 ["tree","row"] (ZdI K mg)) (Zen:Callee P w K mg base "_law_pool" 1 ["script","k"] (ZdD K mg)) (Zl:Callee P w K mg base "_law_pick" 1 ["pool","many"] (ZaQ K mg)) (ZdL:Callee P w K mg base "_law_drops" 2 ["pool","many"] (ZcU K mg)) (Zeo:Callee P w K mg base "_law_hung" 1 ["drops"] (ZdG K mg)) (ZbZ:Callee P w K mg base "_law_near_row" 3 ["pool","tree"] (ZbB K mg)) (Za0:Callee P w K mg base "_law_row_told" 9 ["tree","row","kept"] (ZbA K mg)) (ZaB:Callee P w K mg base "_law_clash_told" 9 ["tree","row","kept","pairs"] (Za4 K mg)) (T:Txt K mg):FnOk P w K mg base (CXE P w) 10 f fd ["script"] (ZnH K mg):=by
 refine F.okX Zbn (λvs H Q E h=>?_) (λcdv A outer s H vs Q E hr h=>?_)
 ·obtain⟨a,ns,rfl,_⟩:=h;rfl
 obtain⟨sc,ss,rfl,hsc,hss,hTT,k1⟩:=h
 have hT1:ZbQ K mg "from_below" H:=hTT (Zh0 K mg "from_below",Zld "from_below") (by unfold Ze4;simp)
 have hT2:ZbQ K mg "chains_by" H:=hTT (Zh0 K mg "chains_by",Zld "chains_by") (by unfold Ze4;simp)
 refine⟨_,(Zd (Zag (ZaE PassesOwn.never rfl (ZS rfl T.b_range (Za (Zk (Zgc rfl) rfl T.b_max ZhE (Za Zf (Za (Zk (ZnU rfl) rfl T.b_min Zma (Za (Zk (Zn (K:=K) rfl) rfl T.b_len YE (Za (pv 0) Zc)) (Za Zf Zc))) Zc))) Zc)) (Zm (i:=1) Zbn.nd rfl (Or.inl rfl)) (Zd (Zo (i:=2) Zbn.nd rfl (Or.inr rfl) (Zh Zen (hr.mono (by decide)) rfl Zz (Za (pv 0) (Za (pv 1) Zc))))
   (Zd (Zo (i:=3) Zbn.nd rfl (Or.inl rfl) (Zh Zeo (hr.mono (by decide)) rfl Zz (Za (Zh ZdL (hr.mono (by decide)) rfl Zz (Za (pv 2) (Za (Zs ZaW Zf (Zh Zl (hr.mono (by decide)) rfl Zz (Za (pv 2) (Za (Zw Zaa (Zbu (Za Zf (Za Zf Zc))) (Zh Zl (hr.mono (by decide)) rfl Zz (Za (pv 2) (Za Zf Zc))) (λ_ _=>rfl)) Zc)))) Zc))) Zc)))
   (Zd (Zo (i:=4) Zbn.nd rfl (Or.inl rfl) (Zh ZbZ (hr.mono (by decide)) rfl Zz (Za (pv 2) (Za (pv 3) Zc))))
   (Zd (Zo (i:=5) Zbn.nd rfl (Or.inl rfl) (Zh Zfr (hr.mono (by decide)) rfl Zz (Za (pv 3) (Za (pv 4) Zc))))
   (Zd (Zco (Zh Zem (hr.mono (by decide)) rfl Zz (Za (pv 3) (Za (pv 4) Zc))) (Zfe (n:=3) rfl (ZN (Zm (i:=6) Zbn.nd rfl (Or.inl rfl)) (ZN (Zm (i:=7) Zbn.nd rfl (Or.inl rfl)) (ZN (Zm (i:=8) Zbn.nd rfl (Or.inl rfl)) Zb7)))))
   (Zd (ZaA (Zhu (Zga (Zh Za0 (hr.mono (by decide)) rfl Zz (Za (pv 3) (Za (pv 4) (Za (pv 6) Zc)))))) (Zi (ZE Zhs)) ZK)
   (Zd (Zag (ZaE PassesOwn.never rfl (ZS rfl T.b_range (Za (Zk (Zn (K:=K) rfl) rfl T.b_len YE (Za (pv 3) Zc)) Zc)) (Zm (i:=9) Zbn.nd rfl (Or.inl rfl)) (Zi (ZaA (PW.pt (Zht (Zu (Zof (K:=K) rfl) (pv 9) (pv 6) (by with_unfolding_all rfl)) (ZfA (Zhu (Zga (Zh ZaB (hr.mono (by decide)) rfl Zz (Za (pv 3) (Za (pv 4) (Za (Zs Znf (pv 6) (Zbu (Za (pv 9) Zc))) (Za (pv 5) Zc)))))))))) (Zi (ZE Zhs)) ZK))))
   (Zd (Zag (ZaE PassesOwn.never rfl (Zbh (pv 8)) (Zm (i:=10) Zbn.nd rfl (Or.inl rfl)) (Zi (Zag (ZaE PassesOwn.never rfl (Zkc (K:=K) rfl rfl T.b_zip (Za (pv 10) (Za (ZpN sl_tup (pv 10) (Zr4 Zf) Zr3) Zc))) (Zm (i:=11) Zbn.nd rfl (Or.inl rfl)) (Zi (ZaA (Zhu (Zga (Zh ZaB (hr.mono (by decide)) rfl Zz (Za (pv 3) (Za (pv 4) (Za (pv 11) (Za (Z9 (Za (pv 11) Zc)) Zc))))))) (Zi (ZE Zhs)) ZK)))))))
   (Zd (Zo (i:=12) Zbn.nd rfl (Or.inr rfl) (Zb8 ["place","pool"] [none,some 2] rfl rfl rfl (ZS rfl T.b_range (Za (Zk (Zn (K:=K) rfl) rfl T.b_len YE (Za (pv 3) Zc)) Zc)) (λ_ _ _ _ _=>(Zm (i:=0) (show(["place","pool"]:List Str).Nodup from by decide +kernel) rfl (Or.inl rfl))) (λ_ _ _ _ _=>Zec (Zu Zdd (Zh Zl (hr.mono (by decide)) rfl Zz (Za (pv 1) (Za Zf Zc))) Zf (Zx _))) (λ_ _ _ _ _=>(pv 0)) ZC))
   (Zd (Zo (i:=13) Zbn.nd rfl (Or.inl rfl) (Zk (Zp3 (K:=K) rfl rfl) rfl T.b_any bt_any (Za (Zb8 ["a","b","some"] [none,none,some 12] rfl rfl rfl (Zbh (pv 5)) (λ_ _ _ _ _=>(ZjV (K:=K) (n:=2) rfl rfl (ZN (Zm (i:=0) (show(["a","b","some"]:List Str).Nodup from by decide +kernel) rfl (Or.inl rfl)) (ZN (Zm (i:=1) (show(["a","b","some"]:List Str).Nodup from by decide +kernel) rfl (Or.inl rfl)) Zb7)))) (λ_ _ _ _ _=>Zaf) (λ_ _ _ _ _=>(Zgb (Zad (Zgg (K:=K) rfl) (pv 0) (pv 2) (by with_unfolding_all rfl)) (Zhv (Zad (Zgg (K:=K) rfl) (pv 1) (pv 2) (by with_unfolding_all rfl))))) (ZhD (Zci ZC (Zci ZC ZhC)))) Zc)))
   (Zi (ZaA (Zu Zdd (Zh Za0 (hr.mono (by decide)) rfl Zz (Za (pv 3) (Za (pv 4) (Za (pv 12) Zc)))) (pv 13) (Zx _)) (Zi (ZE Zhs)) ZK))))))))))))))
   (Zi (ZE Zhs))),?_⟩
 walk_at "rd"
 refine⟨_,.inl hsc,?_,?_,Za5 (λi σ H'=>∃v1 v2 v3 v4 v5 v6 v7 v8 v9 v10 v11 v12 v13,σ=[some (.ref sc),v1,v2,v3,v4,v5,v6,v7,v8,v9,v10,v11,v12,v13]/\Ze H H') ⟨_,_,_,_,_,_,_,_,_,_,_,_,_,rfl,Ze.refl H⟩ ?_ ?_⟩
 ·split<;>(try split)<;>omega
 ·split<;>(try split)<;>omega
 ·rintro i σ H' hi ⟨v1,v2,v3,v4,v5,v6,v7,v8,v9,v10,v11,v12,v13,rfl,hs⟩
  have hi8:i<16:=by
   revert hi
   split
   ·split<;>omega
   ·omega
  refine Zao (fun σ Hx=>∃p,σ=[some (.ref sc),some (.int (0+(i:Int))),some (.ref p),v3,v4,v5,v6,v7,v8,v9,v10,v11,v12,v13]/\H p=none/\Zr Hx p/\Ze H Hx) (λR hR=>?_) ?_
  ·walk_at "rd"
   exact⟨sc,ss,_,rfl,hs.seq hsc,by omega,by omega,λp H1 hp s1 P1=>hR _ _ ⟨p,rfl,hs.free hp,P1,hs.trans s1⟩⟩
  rintro σ H1 ⟨p,rfl,zp,P1,s1⟩
  refine Zao (fun σ Hx=>∃(t:Addr) (T':List Int),σ=[some (.ref sc),some (.int (0+(i:Int))),some (.ref p),some (.ref t),v4,v5,v6,v7,v8,v9,v10,v11,v12,v13]/\1<=T'.length/\T'.length<=16/\(∃ns,Zq ns T')/\Hx t=some (.tup (T'.map V.int))/\Zr Hx p/\Ze H Hx) (λR hR=>?_) ?_
  ·walk_at "rd"
   refine⟨by decide,λq1 z1=>⟨p,2,rfl,by decide,by decide,P1.upd z1,λd H2 d0 d1 P2 e2=>?_⟩⟩
   have nq:q1≠p:=λz=>by
    obtain⟨x,y,e,_⟩:=P1
    rw[z,e]at z1;cases z1
   have hq2:H2 q1=some (.tup [V.int 8,V.int 16]):=e2 _ _ nq Zb
   obtain⟨m,em,hm0,hm1⟩:∃m:Int,atI [V.int 8,V.int 16] d=some (V.int m)/\0<m/\m<=16:=by
    obtain rfl|rfl:d=0\/d=1:=by omega
    ·exact⟨8,rfl,by decide,by decide⟩
    ·exact⟨16,rfl,by decide,by decide⟩
   refine⟨_,d,rfl,SqT.of hq2,_,em,p,m,rfl,hm0,by omega,P2,λd2 H3 d20 d21 P3 e3=>⟨d2,rfl,p,(1+d2).toNat,by rw[Jc (by omega)],by omega,P3,λu ds H4 zu hl hD hu P4 e4=>⟨u,ds,rfl,hu,by omega,hD,λw es H5 zw le hT s5 hw=>hR _ _ ⟨w,es,rfl,by omega,by omega,hT,hw,P4.same s5,?_⟩⟩⟩⟩
   exact((((s1.Z8 z1).exc zp e2).exc zp e3).exc zp e4).trans s5
  clear s1 P1 H1
  rintro σ H1 ⟨t,T',rfl,hn1,hn,hTe,ht,P1,s1⟩
  have hG:Zai T':=⟨by omega,hTe⟩
  have ntp:t≠p:=λz=>by
   obtain⟨x,y,e,_⟩:=P1
   rw[z,e]at ht;cases ht
  refine Zao (fun σ Hx=>∃(r:Addr) (ns:List Int),σ=[some (.ref sc),some (.int (0+(i:Int))),some (.ref p),some (.ref t),some (.ref r),v5,v6,v7,v8,v9,v10,v11,v12,v13]/\ns.length=T'.length/\Hx r=some (.tup (ns.map V.int))/\Hx t=some (.tup (T'.map V.int))/\Zr Hx p/\Ze H Hx) (λR hR=>?_) ?_
  ·walk_at "rd"
   exact⟨p,t,T',rfl,P1,ht,by omega,hTe,λr ms H2 zr hl2 hr2 P2 e2=>hR _ _ ⟨r,ms,rfl,hl2,hr2,e2 _ _ ntp ht,P2,s1.exc zp e2⟩⟩
  clear s1 P1 ht H1
  rintro σ H1 ⟨r,ns,rfl,hln,hr1,ht,P1,s1⟩
  have nrp:r≠p:=λz=>by
   obtain⟨x,y,e,_⟩:=P1
   rw[z,e]at hr1;cases hr1
  have hne:ns≠[]:=λz=>by rw[z]at hln;simp at hln;omega
  refine Zao (fun σ Hx=>∃(l:Addr) (rs:List (List Int)),σ=[some (.ref sc),some (.int (0+(i:Int))),some (.ref p),some (.ref t),some (.ref r),some (.ref l),v6,v7,v8,v9,v10,v11,v12,v13]/\ZA Hx l rs/\ZfV rs (ZQ T' (hgt (Zj T') ns))/\Ze H1 Hx) (λR hR=>?_) ?_
  ·walk_at "rd"
   exact⟨t,r,T',ns,rfl,ht,.inr (SqT.of hr1),by omega,by omega,λ_ _ l rs H2 zl s2 t2 p2=>hR _ _ ⟨l,rs,rfl,t2,p2,s2⟩,λg=>absurd hG g,λ_ z=>absurd hln z⟩
  rintro σ H2 ⟨l,rs,rfl,hrs,hSP,s2⟩
  have lrs:rs.length<=2000:=Zgv (by omega) hSP
  replace hr1:=s2 _ _ hr1
  replace ht:=s2 _ _ ht
  replace P1:=P1.same s2
  replace s1:=s1.trans s2
  clear s2 H1
  refine Zao (fun σ Hx=>∃(a b c:Addr) (ks ms:List Int) (chs:List (List Int)),σ=[some (.ref sc),some (.int (0+(i:Int))),some (.ref p),some (.ref t),some (.ref r),some (.ref l),some (.ref a),some (.ref b),some (.ref c),v9,v10,v11,v12,v13]/\ZbY T' ns ks ms chs/\Hx a=some (.tup (ks.map V.int))/\ZA Hx c chs/\Ze H2 Hx) (λR hR=>?_) ?_
  ·walk_at "rd"
   exact⟨t,r,T',ns,rfl,ht,.inr (SqT.of hr1),by omega,by omega,ZbQ.same hT1 s1,ZbQ.same hT2 s1,λ_ _ u a b c A ks us cs H3 hM hu ha hb hc hA s3=>⟨u,rfl,_,SqT.of hu,rfl,_,_,rfl,_,_,rfl,_,_,rfl,rfl,hR _ _ ⟨a,b,c,ks,_,_,rfl,hM.ok hG hln,ha,ZqT hc hA,s3⟩⟩,λg=>absurd hG g,λ_ z=>absurd hln z⟩
  rintro σ H3 ⟨a,b,c,ks,ms,chs,rfl,hS,ha,hc,s2⟩
  replace hr1:=s2 _ _ hr1
  replace ht:=s2 _ _ ht
  replace hrs:=hrs.same s2
  replace P1:=P1.same s2
  replace s1:=s1.trans s2
  clear s2 H2
  have sub:=Zij (n:=T'.length) (ks:=ks) (by rw[<-hln];exact hS.2.1)
  have lks:ks.length<=40:=by
   have:=hS.2.1
   have e:=congrArg List.length this
   unfold ZdJ at e
   rw[Yf]at e
   have:=Y4 (λ(p:Nat)=>decide ((p:Int)∈ks)) (List.range ns.length)
   rw[Y9]at this
   omega
  have kne:ks≠[]:=λz=>by
   have h4:=hS.2.2.2.1
   have h6:=hS.2.2.2.2.2.1
   rw[z]at h4
   rw[List.length_eq_zero_iff.mp h4]at h6
   have:=h6.length_eq
   unfold nats at this
   simp at this
   omega
  have hmem:∀a b:Int,[a,b]∈ZQ T' (hgt (Zj T') ns)->[a,b]∈rs:=λa b h=>hSP.1.mem_iff.mpr h
  refine Zao (fun σ Hx=>σ=[some (.ref sc),some (.int (0+(i:Int))),some (.ref p),some (.ref t),some (.ref r),some (.ref l),some (.ref a),some (.ref b),some (.ref c),v9,v10,v11,v12,v13]/\Ze H3 Hx) (λR hR=>?_) ?_
  ·walk_at "rd"
   exact⟨t,r,a,T',ns,ks,rfl,ht,hr1,.inr (SqT.of ha),hG,hln,hne,by omega,sub,ZbQ.same hT1 s1,λz H4 hz s4=>⟨z,rfl,Z1 (λy=>absurd (hz.mpr (hS.indep hln)) (by rw[y];decide)) λ_=>hR _ _ ⟨rfl,s4⟩⟩⟩
  rintro σ H1 ⟨rfl,s2⟩
  refine Zao (fun σ Hx=>∃v9,σ=[some (.ref sc),some (.int (0+(i:Int))),some (.ref p),some (.ref t),some (.ref r),some (.ref l),some (.ref a),some (.ref b),some (.ref c),v9,v10,v11,v12,v13]/\Ze H3 Hx) (λR hR=>?_) ?_
  ·walk_at "rd"
   refine⟨_,.inr (SqT.of (s2 _ _ ht)),by omega,by rw[Yf];omega,?_⟩
   rw[Yf,Ys]
   refine Za5 (λj σ Hx=>∃v9,σ=[some (.ref sc),some (.int (0+(i:Int))),some (.ref p),some (.ref t),some (.ref r),some (.ref l),some (.ref a),some (.ref b),some (.ref c),v9,v10,v11,v12,v13]/\Ze H3 Hx) ⟨_,rfl,s2⟩ ?_ ?_
   ·rintro j σ Hx hj ⟨v9,rfl,sx⟩
    rw[show(0:Int)+(j:Int)=((j:Nat):Int) by omega]
    walk_at "rd"
    refine⟨_,.inr (SqT.of (sx _ _ ha)),rfl,Zbv _,?_⟩
    rw[ZeT]
    refine Z1 (λz=>⟨by decide,λq zq=>?_⟩) λ_=>sx
    have hk:=of_decide_eq_false z
    have g4:=sx.Z8 (o:=.tup [V.int (j:Int)]) zq
    have t4:=Zb (H:=Hx) (a:=q) (o:=.tup [V.int (j:Int)])
    generalize upd Hx q (.tup [V.int (j:Int)])=H4 at g4 t4⊢
    refine⟨a,q,_,_,rfl,rfl,SqT.of (g4 _ _ ha),SqT.of t4,λz=>kne (List.map_eq_nil_iff.mp z),?_,(λz=>nomatch z),λ_ u zu=>?_⟩
    ·rw[Yf]
     exact Yo (show _<=1000 by simp only[YR,List.length_nil];omega) (by decide)
    have g5:=g4.Z8 (o:=.tup (ks.map V.int++[V.int (j:Int)])) zu
    have t5:upd H4 u (.tup (ks.map V.int++[V.int (j:Int)])) u=some (.tup ((ks++[(j:Int)]).map V.int)):=by rw[Zb,YI];rfl
    generalize upd H4 u (.tup (ks.map V.int++[V.int (j:Int)]))=H5 at g5 t5⊢
    exact⟨t,r,u,l,T',ns,ks++[(j:Int)],rs,rfl,g5 _ _ ht,g5 _ _ hr1,.inr (SqT.of t5),hrs.same g5,hG,hln,hne,by rw[YM,List.length_singleton];omega,lrs,hS.more hln hj hk,λa b _ _ h=>hmem a b h,ZbQ.same hT1 (s1.trans g5),λH6 s6=>⟨true,rfl,Z1 (λz=>nomatch z) λ_=>g5.trans s6⟩⟩
   ·rintro σ Hx ⟨v9,rfl,sx⟩
    exact hR _ _ ⟨_,rfl,sx⟩
  clear s2 H1 v9
  rintro σ H1 ⟨v9,rfl,s2⟩
  refine Zao (fun σ Hx=>∃v10 v11,σ=[some (.ref sc),some (.int (0+(i:Int))),some (.ref p),some (.ref t),some (.ref r),some (.ref l),some (.ref a),some (.ref b),some (.ref c),v9,v10,v11,v12,v13]/\Ze H3 Hx) (λR hR=>?_) ?_
  ·walk_at "rd"
   have hc1:=hc.same s2
   obtain⟨w1,w2,w3⟩:=hc1.walk (K:=K)
   refine⟨hc1.sq,Zgi (n:=chs.length) (λj σ Hx=>∃v10 v11,σ=[some (.ref sc),some (.int (0+(i:Int))),some (.ref p),some (.ref t),some (.ref r),some (.ref l),some (.ref a),some (.ref b),some (.ref c),v9,v10,v11,v12,v13]/\Ze H1 Hx) ⟨_,_,rfl,Ze.refl _⟩ (λj σ Hx hj ⟨_,_,_,sx⟩=>w1 j Hx sx hj) (fun σ Hx ⟨_,_,_,sx⟩=>w2 Hx sx) ?_ ?_⟩
   ·rintro j x σ Hx Hy hj ⟨v10,v11,rfl,sx⟩ y
    obtain⟨rfl,u,rfl,hu⟩:=w3 j x Hx Hy hj sx y
    have hch:chs[j]∈chs:=YC hj
    generalize chs[j]=ch at hu hch
    have ch0:ch≠[]:=λz=>hS.2.2.2.2.1 (z▸hch)
    have hpos:0<ch.length:=List.length_pos_iff.mpr ch0
    have lch:ch.length<=40:=by
     have e:=hS.2.2.2.2.2.1.length_eq
     have:=(List.sublist_flatten_of_mem hch).length_le
     unfold nats at e
     simp only[Yf,Y9]at e
     omega
    walk_at "rd"
    refine⟨u,_,rfl,SqT.of hu,?_,λq zq=>?_⟩
    ·rintro⟨z,_⟩
     rw[show(ch.map V.int).length=ch.length from Yf ..]at z
     rw[show HT.sIx ch.length 0 (some 1)=min 1 ch.length from rfl]at z
     omega
    have ec:Zl3 (ch.map V.int) (some 1) none=(ch.drop 1).map V.int:=by
     have:=Zog (ch.map V.int) 1
     rw[show((1:Nat):Int)=1 from rfl]at this
     rw[this,List.map_drop]
    rw[ec]
    have g1:=(Ze.refl Hy).upd (o:=.tup ((ch.drop 1).map V.int)) zq
    have t1:=Zb (H:=Hy) (a:=q) (o:=.tup ((ch.drop 1).map V.int))
    generalize upd Hy q (.tup ((ch.drop 1).map V.int))=H4 at g1 t1⊢
    obtain⟨tg,hB⟩:=SqB.of (K:=K) (H:=H4) (a:=u) (xs:=ch.map V.int) (.inr (SqT.of (g1 _ _ hu)))
    obtain⟨tu,hB2⟩:=SqB.of (K:=K) (H:=H4) (a:=q) (xs:=(ch.drop 1).map V.int) (.inr (SqT.of t1))
    have nd:∀i,nth (ch.drop 1) i=nth ch (i+1):=λi=>by
     unfold nth
     rw[Yn,Yn,List.getElem?_drop,Nat.add_comm]
    have ld:(ch.drop 1).length=ch.length-1:=Jd
    have s4:=sx.trans g1
    refine⟨q,rfl,tg,tu,_,hB,_,hB2,?_⟩
    refine Zgi (n:=ch.length-1) (λk σ Hx=>∃v11,σ=[some (.ref sc),some (.int (0+(i:Int))),some (.ref p),some (.ref t),some (.ref r),some (.ref l),some (.ref a),some (.ref b),some (.ref c),v9,some (.ref u),v11,v12,v13]/\Ze H4 Hx) ⟨_,rfl,Ze.refl _⟩ (λk σ Hx hk ⟨_,_,s⟩=>⟨_,_,_,_,s.Zd7 hB,s.Zd7 hB2,ZaK (by omega),ZaK (by omega)⟩) (fun σ Hx ⟨_,_,s⟩=>⟨_,_,s.Zd7 hB,s.Zd7 hB2,.inr (by rw[Yf];omega)⟩) ?_ ?_
    ·rintro k x σ Hz Hy hk ⟨v11,rfl,s⟩ ⟨q',x,y,hq,rfl,rfl,hx,hy⟩
     have ex:=hx _ (s.Zd7 hB)
     have ey:=hy _ (s.Zd7 hB2)
     rw[ZaK (by omega)]at ex
     rw[ZaK (by omega)]at ey
     cases ex;cases ey
     rw[nd]
     have hp2:=hS.two hch (j:=k) (by omega)
     have g5:=s.Z8 (o:=.tup [V.int (nth ch k),V.int (nth ch (k+1))]) hq
     have t5:upd Hz q' (.tup [V.int (nth ch k),V.int (nth ch (k+1))]) q'=some (.tup ([nth ch k,nth ch (k+1)].map V.int)):=Zb
     generalize upd Hz q' (.tup [V.int (nth ch k),V.int (nth ch (k+1))])=H5 at g5 t5⊢
     walk_at "rd"
     refine⟨by decide,λq2 zq2=>?_⟩
     have g6:=(Ze.refl H5).upd (o:=.lst [V.ref q']) zq2
     have t6:=Zb (H:=H5) (a:=q2) (o:=.lst [V.ref q'])
     generalize upd H5 q2 (.lst [V.ref q'])=H6 at g6 t6⊢
     have s6:=s2.trans (s4.trans (g5.trans g6))
     have hTu:ZA H6 q2 [[nth ch k,nth ch (k+1)]]:=⟨[q'],t6,rfl,λi h1 h2=>by
      have:i=0:=by simp at h1;omega
      subst this
      exact g6 _ _ t5⟩
     exact⟨t,r,q',q2,T',ns,_,_,rfl,s6 _ _ ht,s6 _ _ hr1,.inr (SqT.of (g6 _ _ t5)),hTu,hG,hln,hne,by simp,by simp,λh=>h _ hp2 ⟨by simp,by simp⟩,ZqU hp2,ZbQ.same hT1 (s1.trans s6),λH7 s7=>⟨true,rfl,Z1 (λz=>nomatch z) λ_=>(g5.trans g6).trans s7⟩⟩
    ·rintro σ Hz ⟨v11,rfl,s⟩
     exact⟨_,_,rfl,s4.trans s⟩
   ·rintro σ Hx ⟨v10,v11,rfl,sx⟩
    exact hR _ _ ⟨_,_,rfl,s2.trans sx⟩
  clear s2 H1 v10 v11
  rintro σ H1 ⟨v10,v11,rfl,s2⟩
  replace hr1:=s2 _ _ hr1
  replace ht:=s2 _ _ ht
  replace hrs:=hrs.same s2
  replace P1:=P1.same s2
  replace s1:=s1.trans s2
  clear s2 ha hc H3
  have nlp:l≠p:=λz=>by
   obtain⟨x,y,e,_⟩:=P1
   obtain⟨as,e2,_⟩:=hrs
   rw[z,e]at e2
   cases as with
   |nil=>simp at e2
   |cons x r=>simp at e2
  refine Zao (fun σ Hx=>∃(w:Addr) (S:List Int),σ=[some (.ref sc),some (.int (0+(i:Int))),some (.ref p),some (.ref t),some (.ref r),some (.ref l),some (.ref a),some (.ref b),some (.ref c),v9,v10,v11,some (.ref w),v13]/\S.length<=1000/\(∀x∈S,∃i:Nat,x=i/\i<T'.length)/\Hx w=some (.lst (S.map V.int))/\Hx r=some (.tup (ns.map V.int))/\Hx t=some (.tup (T'.map V.int))/\ZA Hx l rs/\Ze H Hx) (λR hR=>?_) ?_
  ·walk_at "rd"
   refine⟨_,.inr (SqT.of ht),by omega,by rw[Yf];omega,?_⟩
   rw[Yf,Ys]
   refine ZfL (n:=T'.length) (λj acc Hz=>∃S:List Int,acc=S.map V.int/\S.length<=j/\(∀x∈S,∃i:Nat,x=i/\i<T'.length)/\Zr Hz p/\Exc p H1 Hz) (YF (show _<=1000 by omega) (by decide)) ⟨[],rfl,Ye _,(λx h=>nomatch h),P1,(Ze.refl H1).ZpW⟩ (λj acc Hz _ hj=>hj) (λacc Hz _=>Ye _) ?_ ?_
   ·rintro j y acc Hz Hw hj hla ⟨S,rfl,lS,hSm,Pz,ez⟩ ⟨rfl,rfl⟩
    rw[show(0:Int)+(j:Int)=((j:Nat):Int) by omega]
    walk_at "rd"
    refine⟨p,4,rfl,by decide,by decide,Pz,λd H5 d0 d1 P5 e5=>⟨rfl,Z1 (λ_=>CA.take hj hla ⟨S++[(j:Int)],by rw[YI];rfl,by rw[YM,List.length_singleton];omega,λx hx=>?_,P5,ez.trans e5⟩) λ_=>CA.skip hj hla ⟨S,rfl,by omega,hSm,P5,ez.trans e5⟩⟩⟩
    rcases Yq.mp hx with hx|hx
    ·exact hSm x hx
    ·exact⟨j,Y3.mp hx,hj⟩
   ·rintro lw acc Hz ⟨S,rfl,lS,hSm,Pz,ez⟩ _ zl
    have gz:=(Ze.refl Hz).Z8 (o:=.lst (S.map V.int)) zl
    exact hR _ _ ⟨lw,S,rfl,by omega,hSm,Zb,gz _ _ (ez _ _ nrp hr1),gz _ _ (ez _ _ ntp ht),(hrs.exc ez P1 nlp).same gz,(s1.exc zp ez).trans gz⟩
  clear s1 P1 ht hr1 hrs H1
  rintro σ H1 ⟨w,S,rfl,lS,hSm,hw,hr1,ht,hrs,s1⟩
  walk_at "rd"
  refine⟨hrs.sq,ZoT hrs lrs hSP (.inl (SqL.of hw)) λx bs Hz sz hx hb=>⟨x,rfl,bs,SqL.of hx,?_⟩⟩
  have s2:=s1.trans sz
  refine⟨t,r,w,T',ns,S,rfl,sz _ _ ht,sz _ _ hr1,.inl (SqL.of (sz _ _ hw)),hG,hln,hne,lS,hSm,ZbQ.same hT1 s2,λz H5 hz s5=>⟨rfl,Z1 (λe=>?_) λ_=>s2.trans s5⟩⟩
  exfalso
  have hz:z=true↔Indep T' (hgt (Zj T') ns) S:=hz
  have e:z=bs.any id:=V.bl.inj e
  rw[e]at hz
  rcases Classical.em (Indep T' (hgt (Zj T') ns) S)with y|y
  ·exact hb.mp (hz.mpr y) y
  ·exact y (hz.mp (hb.mpr y))
 ·rintro σ H' ⟨v1,v2,v3,v4,v5,v6,v7,v8,v9,v10,v11,v12,v13,rfl,hs⟩
  walk_at "rd"
  exact k1 H'
end
theorem all_mk {l:PySem.W.OpenLaw}{w:World}{K:PySem.W.Frag}{h:Heap}{mg:Str->Option Value}{fa:Addr}{ts:List Addr} (X:K.In h) (G:h.Ns mainGlobals mg) (hfa:mg "law"=some (.ref fa))
  (Zit:nsIn K mainGlobals "settle"=some (some (.ref ZlB))) (Ziu:K.lookup ZlB=some ⟨Zt7,Zt8,.func (fnOf "settle" "settle" (defArgs Zdm) (defBody Zdm) (defScope Zdm) .none Zt9 Zua Zub Zuc ZoU Zud),Zue⟩) (Ziv:codeIn K ZoU "settle"=true) (ZfX:keepIn K (.ref ZlB)=true)
  (ZgC:nsIn K mainGlobals "tree_of"=some (some (.ref ZjA))) (ZgD:K.lookup ZjA=some ⟨ZtM,ZtN,.func (fnOf "tree_of" "tree_of" (defArgs Zcl) (defBody Zcl) (defScope Zcl) .none ZtO ZtP ZtQ ZtR ZmU ZtS),ZtT⟩) (ZgE:codeIn K ZmU "tree_of"=true) (ZeZ:keepIn K (.ref ZjA)=true)
  (Ziw:nsIn K mainGlobals "way_up"=some (some (.ref ZlC))) (Zix:K.lookup ZlC=some ⟨Zuf,Zug,.func (fnOf "way_up" "way_up" (defArgs Zdn) (defBody Zdn) (defScope Zdn) .none Zuh Zui Zuj Zuk ZoV Zul),Zum⟩) (Ziy:codeIn K ZoV "way_up"=true) (ZfY:keepIn K (.ref ZlC)=true)
  (ZgF:nsIn K mainGlobals "is_tree"=some (some (.ref ZjB))) (ZgG:K.lookup ZjB=some ⟨ZtU,ZtV,.func (fnOf "is_tree" "is_tree" (defArgs Zcm) (defBody Zcm) (defScope Zcm) .none ZtW ZtX ZtY ZtZ ZmV Zt0),Zt1⟩) (ZgH:codeIn K ZmV "is_tree"=true) (Ze0:keepIn K (.ref ZjB)=true)
  (Zep:nsIn K mainGlobals "need_tree"=some (some (.ref ZgT))) (Zeq:K.lookup ZgT=some ⟨Zsx,Zsy,.func (fnOf "need_tree" "need_tree" (defArgs Za8) (defBody Za8) (defScope Za8) .none Zsz ZsA ZsB ZsC Zko ZsD),ZsE⟩) (Zer:codeIn K Zko "need_tree"=true) (ZcH:keepIn K (.ref ZgT)=true)
  (Zca:nsIn K mainGlobals "from_below"=some (some (.ref ZdM))) (Zcb:K.lookup ZdM=some ⟨Zru,Zrv,.func (fnOf "from_below" "from_below" (defArgs ZaN) (defBody ZaN) (defScope ZaN) .none Zrw Zrx Zry Zrz Ze5 ZrA),ZrB⟩) (ZdN:codeIn K Ze5 "from_below"=true) (Zcc:keepIn K (.ref ZdM)=true)
  (ZcY:Ze5=.ref ZbF) (ZcZ:K.lookup ZbF=some ⟨ZrC,ZrD,.fields Zi4,ZrE⟩) (Zc0:Zi4[11]?=some (.ref ZbG)) (ZbH:PySem.W.codeHdIn K ZbF ZbG=true) (Zc1:K.lookup ZbG=none) (Zc2:ZbG∈ts)
  (Zc3:nsIn K mainGlobals "flat_number"=some (some (.ref Ze6))) (Zc4:K.lookup Ze6=some ⟨ZqV,ZqW,.func (fnOf "flat_number" "flat_number" (defArgs Zas) (defBody Zas) (defScope Zas) .none ZqX ZqY ZqZ Zq0 Ziz Zq1),Zq2⟩) (Zc5:codeIn K Ziz "flat_number"=true) (ZbI:keepIn K (.ref Ze6)=true)
  (Zfs:nsIn K mainGlobals "flattest"=some (some (.ref ZiA))) (Zft:K.lookup ZiA=some ⟨Ztv,Ztw,.func (fnOf "flattest" "flattest" (defArgs Zbx) (defBody Zbx) (defScope Zbx) .none Ztx Zty Ztz ZtA ZlD ZtB),ZtC⟩) (Zfu:codeIn K ZlD "flattest"=true) (ZdO:keepIn K (.ref ZiA)=true)
  (ZdP:nsIn K mainGlobals "heights_of"=some (some (.ref ZfZ))) (ZdQ:K.lookup ZfZ=some ⟨ZrF,ZrG,.func (fnOf "heights_of" "heights_of" (defArgs ZaO) (defBody ZaO) (defScope ZaO) .none ZrH ZrI ZrJ ZrK Zi5 ZrL),ZrM⟩) (ZdR:codeIn K Zi5 "heights_of"=true) (Zcd:keepIn K (.ref ZfZ)=true)
  (ZiB:nsIn K mainGlobals "row_by"=some (some (.ref ZlE))) (ZiC:K.lookup ZlE=some ⟨Zun,Zuo,.func (fnOf "row_by" "row_by" (defArgs Zdo) (defBody Zdo) (defScope Zdo) .none Zup Zuq Zur Zus ZoW Zut),Zuu⟩) (ZiD:codeIn K ZoW "row_by"=true) (Zf0:keepIn K (.ref ZlE)=true)
  (ZiE:nsIn K mainGlobals "lifted"=some (some (.ref ZlF))) (ZiF:K.lookup ZlF=some ⟨Zuv,Zuw,.func (fnOf "lifted" "lifted" (defArgs Zdp) (defBody Zdp) (defScope Zdp) .none Zux Zuy Zuz ZuA ZoX ZuB),ZuC⟩) (ZiG:codeIn K ZoX "lifted"=true) (Zf1:keepIn K (.ref ZlF)=true)
  (Zcz:nsIn K mainGlobals "higher_pairs"=some (some (.ref Zes))) (ZcA:K.lookup Zes=some ⟨Zph,Zpi,.func (fnOf "higher_pairs" "higher_pairs" (defArgs Zaj) (defBody Zaj) (defScope Zaj) .none Zpj Zpk Zpl Zpm Zhc Zpn),Zpo⟩) (ZcB:codeIn K Zhc "higher_pairs"=true) (Zbp:keepIn K (.ref Zes)=true)
  (Zfv:nsIn K mainGlobals "clashing"=some (some (.ref ZiH))) (Zfw:K.lookup ZiH=some ⟨ZtD,ZtE,.func (fnOf "clashing" "clashing" (defArgs Zby) (defBody Zby) (defScope Zby) .none ZtF ZtG ZtH ZtI ZlG ZtJ),ZtK⟩) (Zfx:codeIn K ZlG "clashing"=true) (ZdS:keepIn K (.ref ZiH)=true)
  (Zc6:nsIn K mainGlobals "lower_under"=some (some (.ref Ze7))) (Zc7:K.lookup Ze7=some ⟨Zq3,Zq4,.func (fnOf "lower_under" "lower_under" (defArgs Zat) (defBody Zat) (defScope Zat) .none Zq5 Zq6 Zq7 Zq8 ZiI Zq9),Zra⟩) (Zc8:codeIn K ZiI "lower_under"=true) (ZbJ:keepIn K (.ref Ze7)=true)
  (ZcI:nsIn K mainGlobals "chains_by"=some (some (.ref Zet))) (ZcJ:K.lookup Zet=some ⟨ZsF,ZsG,.func (fnOf "chains_by" "chains_by" (defArgs Za9) (defBody Za9) (defScope Za9) .none ZsH ZsI ZsJ ZsK Zf2 ZsL),ZsM⟩) (Zeu:codeIn K Zf2 "chains_by"=true) (ZcK:keepIn K (.ref Zet)=true)
  (ZdT:Zf2=.ref Zce) (ZdU:K.lookup Zce=some ⟨ZsN,ZsO,.fields Zkp,ZsP⟩) (ZdV:Zkp[11]?=some (.ref Zcf)) (Zcg:PySem.W.codeHdIn K Zce Zcf=true) (ZdW:K.lookup Zcf=none) (ZdX:Zcf∈ts)
  (Zkq:nsIn K mainGlobals "stays"=some (some (.ref ZnM))) (Zkr:K.lookup ZnM=some ⟨ZuL,ZuM,.func (fnOf "stays" "stays" (defArgs ZeX) (defBody ZeX) (defScope ZeX) .none ZuN ZuO ZuP ZuQ Zrb ZuR),ZuS⟩) (Zks:codeIn K Zrb "stays"=true) (Zhq:keepIn K (.ref ZnM)=true)
  (Zev:nsIn K mainGlobals "most_stay"=some (some (.ref ZgU))) (Zew:K.lookup ZgU=some ⟨ZsQ,ZsR,.func (fnOf "most_stay" "most_stay" (defArgs Zba) (defBody Zba) (defScope Zba) .none ZsS ZsT ZsU ZsV Zkt ZsW),ZsX⟩) (Zex:codeIn K Zkt "most_stay"=true) (ZcL:keepIn K (.ref ZgU)=true)
  (ZiJ:nsIn K mainGlobals "fitted"=some (some (.ref ZlH))) (ZiK:K.lookup ZlH=some ⟨ZuD,ZuE,.func (fnOf "fitted" "fitted" (defArgs Zdq) (defBody Zdq) (defScope Zdq) .none ZuF ZuG ZuH ZuI ZoY ZuJ),ZuK⟩) (ZiL:codeIn K ZoY "fitted"=true) (Zf3:keepIn K (.ref ZlH)=true)
  (Zey:nsIn K mainGlobals "_law_pool"=some (some (.ref ZgV))) (Zez:K.lookup ZgV=some ⟨ZsY,ZsZ,.func (fnOf "_law_pool" "_law_pool" (defArgs Zbb) (defBody Zbb) (defScope Zbb) .none Zs0 Zs1 Zs2 Zs3 Zku Zs4),Zs5⟩) (ZeA:codeIn K Zku "_law_pool"=true) (ZcM:keepIn K (.ref ZgV)=true)
  (ZeB:nsIn K mainGlobals "_law_pick"=some (some (.ref ZgW))) (ZeC:K.lookup ZgW=some ⟨Zs6,Zs7,.func (fnOf "_law_pick" "_law_pick" (defArgs Zbc) (defBody Zbc) (defScope Zbc) .none Zs8 Zs9 Zta Ztb Zkv Ztc),Ztd⟩) (ZeD:codeIn K Zkv "_law_pick"=true) (ZcN:keepIn K (.ref ZgW)=true)
  (ZdY:nsIn K mainGlobals "_law_drops"=some (some (.ref Zf4))) (ZdZ:K.lookup Zf4=some ⟨ZrN,ZrO,.func (fnOf "_law_drops" "_law_drops" (defArgs ZaP) (defBody ZaP) (defScope ZaP) .none ZrP ZrQ ZrR ZrS Zi6 ZrT),ZrU⟩) (Zd0:codeIn K Zi6 "_law_drops"=true) (Zch:keepIn K (.ref Zf4)=true)
  (ZeE:nsIn K mainGlobals "_law_hung"=some (some (.ref ZgX))) (ZeF:K.lookup ZgX=some ⟨Zte,Ztf,.func (fnOf "_law_hung" "_law_hung" (defArgs Zbd) (defBody Zbd) (defScope Zbd) .none Ztg Zth Zti Ztj Zkw Ztk),Ztl⟩) (ZeG:codeIn K Zkw "_law_hung"=true) (ZcO:keepIn K (.ref ZgX)=true)
  (ZeH:nsIn K mainGlobals "_law_over"=some (some (.ref ZgY))) (ZeI:K.lookup ZgY=some ⟨Ztm,Ztn,.func (fnOf "_law_over" "_law_over" (defArgs Zbe) (defBody Zbe) (defScope Zbe) .none Zto Ztp Ztq Ztr Zkx Zts),Ztt⟩) (ZeJ:codeIn K Zkx "_law_over"=true) (ZcP:keepIn K (.ref ZgY)=true)
  (ZcC:nsIn K mainGlobals "_law_kin_row"=some (some (.ref ZeK))) (ZcD:K.lookup ZeK=some ⟨Zpp,Zpq,.func (fnOf "_law_kin_row" "_law_kin_row" (defArgs Zak) (defBody Zak) (defScope Zak) .none Zpr Zps Zpt Zpu Zhd Zpv),Zpw⟩) (ZcE:codeIn K Zhd "_law_kin_row"=true) (Zbq:keepIn K (.ref ZeK)=true)
  (Zb0:nsIn K mainGlobals "_law_near_row"=some (some (.ref Zd3))) (Zb1:K.lookup Zd3=some ⟨ZoZ,Zo0,.func (fnOf "_law_near_row" "_law_near_row" (defArgs Z4) (defBody Z4) (defScope Z4) .none Zo1 Zo2 Zo3 Zo4 ZgI Zo5),Zo6⟩) (Zb2:codeIn K ZgI "_law_near_row"=true) (Za1:keepIn K (.ref Zd3)=true)
  (Zc9:nsIn K mainGlobals "_law_fitted"=some (some (.ref Ze8))) (Zda:K.lookup Ze8=some ⟨Zrc,Zrd,.func (fnOf "_law_fitted" "_law_fitted" (defArgs Zau) (defBody Zau) (defScope Zau) .none Zre Zrf Zrg Zrh ZiM Zri),Zrj⟩) (Zdb:codeIn K ZiM "_law_fitted"=true) (ZbK:keepIn K (.ref Ze8)=true)
  (Zb3:nsIn K mainGlobals "_law_row_told"=some (some (.ref Zd4))) (Zb4:K.lookup Zd4=some ⟨Zo7,Zo8,.func (fnOf "_law_row_told" "_law_row_told" (defArgs Z5) (defBody Z5) (defScope Z5) .none Zo9 Zpa Zpb Zpc ZgJ Zpd),Zpe⟩) (Zb5:codeIn K ZgJ "_law_row_told"=true) (Za2:keepIn K (.ref Zd4)=true)
  (Zbr:nsIn K mainGlobals "_law_clash_told"=some (some (.ref ZcQ))) (Zbs:K.lookup ZcQ=some ⟨ZmW,ZmX,.func (fnOf "_law_clash_told" "_law_clash_told" (defArgs ZY) (defBody ZY) (defScope ZY) .none ZmY ZmZ Zm0 Zm1 Zfy Zm2),Zm3⟩) (Zbt:codeIn K Zfy "_law_clash_told"=true) (ZaC:keepIn K (.ref ZcQ)=true)
  (Zrk:nsIn K mainGlobals "law"=some (some (.ref ZtL))) (Zrl:K.lookup ZtL=some ⟨ZuU,ZuV,.func (fnOf "law" "law" (defArgs ZfU) (defBody ZfU) (defScope ZfU) .none Zt2 Zt3 Zt4 Zt5 Zrm Zt6),ZuW⟩) (Zrn:codeIn K Zrm "law"=true) (Zro:keepIn K (.ref ZtL)=true)
  {C_DipError:Addr} (n_DipError:nsIn K mainGlobals "DipError"=some (some (.ref C_DipError))) (x_DipError:PySem.W.excIn K C_DipError bmV newV=true) (d_DipError:PySem.W.hasDictIn K C_DipError=true) (y_DipError:PySem.W.typeIn K (.ref C_DipError)=some (.type "type"))
  {C_Unlike:Addr} (n_Unlike:nsIn K mainGlobals "Unlike"=some (some (.ref C_Unlike))) (x_Unlike:PySem.W.excIn K C_Unlike bmV newV=true) (d_Unlike:PySem.W.hasDictIn K C_Unlike=true) (y_Unlike:PySem.W.typeIn K (.ref C_Unlike)=some (.type "type"))
  {C_NoTree:Addr} (n_NoTree:nsIn K mainGlobals "NoTree"=some (some (.ref C_NoTree))) (x_NoTree:PySem.W.excIn K C_NoTree bmV newV=true) (d_NoTree:PySem.W.hasDictIn K C_NoTree=true) (y_NoTree:PySem.W.typeIn K (.ref C_NoTree)=some (.type "type"))
  (b_abs:nsIn K mainGlobals "abs"=some none)
  (b_all:nsIn K mainGlobals "all"=some none)
  (b_any:nsIn K mainGlobals "any"=some none)
  (b_enumerate:nsIn K mainGlobals "enumerate"=some none)
  (b_int:nsIn K mainGlobals "int"=some none)
  (b_isinstance:nsIn K mainGlobals "isinstance"=some none)
  (b_len:nsIn K mainGlobals "len"=some none)
  (b_list:nsIn K mainGlobals "list"=some none)
  (b_max:nsIn K mainGlobals "max"=some none)
  (b_min:nsIn K mainGlobals "min"=some none)
  (b_range:nsIn K mainGlobals "range"=some none)
  (b_sorted:nsIn K mainGlobals "sorted"=some none)
  (b_tuple:nsIn K mainGlobals "tuple"=some none)
  (b_zip:nsIn K mainGlobals "zip"=some none)
  {t_MOST_PLACES:Tok} (m_MOST_PLACES:nsIn K mainGlobals "MOST_PLACES"=some (some (.int 40 t_MOST_PLACES)))
  (nd:[ZbG,Zcf].Nodup)
  : ∃fd:FuncData,(∀(s:Shared) (v:Value),BindsTo s fd ⟨[v],[]⟩ [("script",v)])/\(∀p∈Ze4 K mg,p.1∈ts/\K.lookup p.1=none/\∃c,PySem.W.codeHdIn K c p.1=true)/\((Ze4 K mg).map (·.1)).Nodup/\∀base:Heap,K.In base->base.Ns mainGlobals mg->BM mg base->FnOk l.prog w K mg base (CXE l.prog w) 10 fa fd ["script"] (ZnH K mg):=by
 have e:=hfa.symm.trans (mg_of X G Zrk)
 cases e
 have q_DipError:clsAt mg "DipError"=C_DipError:=by unfold clsAt;rw[mg_of X G n_DipError]
 have q_Unlike:clsAt mg "Unlike"=C_Unlike:=by unfold clsAt;rw[mg_of X G n_Unlike]
 have q_NoTree:clsAt mg "NoTree"=C_NoTree:=by unfold clsAt;rw[mg_of X G n_NoTree]
 have q_MOST_PLACES:tokAt mg "MOST_PLACES"=t_MOST_PLACES:=by unfold tokAt;rw[mg_of X G m_MOST_PLACES]
 have T:Txt K mg:={
  b_abs:=mg_none_of X G b_abs
  b_all:=mg_none_of X G b_all
  b_any:=mg_none_of X G b_any
  b_enumerate:=mg_none_of X G b_enumerate
  b_int:=mg_none_of X G b_int
  b_isinstance:=mg_none_of X G b_isinstance
  b_len:=mg_none_of X G b_len
  b_list:=mg_none_of X G b_list
  b_max:=mg_none_of X G b_max
  b_min:=mg_none_of X G b_min
  b_range:=mg_none_of X G b_range
  b_sorted:=mg_none_of X G b_sorted
  b_tuple:=mg_none_of X G b_tuple
  b_zip:=mg_none_of X G b_zip
  c_DipError:=by rw[q_DipError];exact mg_of X G n_DipError
  x_DipError:=by rw[q_DipError];exact x_DipError
  c_Unlike:=by rw[q_Unlike];exact mg_of X G n_Unlike
  x_Unlike:=by rw[q_Unlike];exact x_Unlike
  c_NoTree:=by rw[q_NoTree];exact mg_of X G n_NoTree
  x_NoTree:=by rw[q_NoTree];exact x_NoTree
  m_MOST_PLACES:=by rw[q_MOST_PLACES];exact mg_of X G m_MOST_PLACES
 }
 subst ZcY
 have Zax:=Znz (mg_of X G Zca) Zcb rfl ZcZ Zc0
 have Zky:LamD K mg "from_below" ZdM:=⟨ZbF,Zax.2,by rw[Zax.1];exact ZbH⟩
 subst ZdT
 have ZaU:=Znz (mg_of X G ZcI) ZcJ rfl ZdU ZdV
 have ZlI:LamD K mg "chains_by" Zet:=⟨Zce,ZaU.2,by rw[ZaU.1];exact Zcg⟩
 have ZlJ:=ZO (st:=Zdm) Ziu Ziv ZfX
 have Zrp:=ZlJ.binds (ps:=["elders","spine","place","keep"]) λ_ _ _ _ _ _ us hl=>by obtain⟨x0,u0,rfl,h0⟩:=le1 hl;obtain⟨x1,u1,rfl,h1⟩:=le1 h0;obtain⟨x2,u2,rfl,h2⟩:=le1 h1;obtain⟨x3,u3,rfl,h3⟩:=le1 h2;obtain rfl:=le0 h3;exact rfl
 have ZjC:=ZO (st:=Zcl) ZgD ZgE ZeZ
 have Zpf:=ZjC.binds (ps:=["row"]) λ_ _ _ _ _ _ us hl=>by obtain⟨x0,u0,rfl,h0⟩:=le1 hl;obtain rfl:=le0 h0;exact rfl
 have ZlK:=ZO (st:=Zdn) Zix Ziy ZfY
 have Zrq:=ZlK.binds (ps:=["tree","place"]) λ_ _ _ _ _ _ us hl=>by obtain⟨x0,u0,rfl,h0⟩:=le1 hl;obtain⟨x1,u1,rfl,h1⟩:=le1 h0;obtain rfl:=le0 h1;exact rfl
 have ZjD:=ZO (st:=Zcm) ZgG ZgH Ze0
 have Zpg:=ZjD.binds (ps:=["tree"]) λ_ _ _ _ _ _ us hl=>by obtain⟨x0,u0,rfl,h0⟩:=le1 hl;obtain rfl:=le0 h0;exact rfl
 have ZgZ:=ZO (st:=Za8) Zeq Zer ZcH
 have ZlL:=ZgZ.binds (ps:=["tree"]) λ_ _ _ _ _ _ us hl=>by obtain⟨x0,u0,rfl,h0⟩:=le1 hl;obtain rfl:=le0 h0;exact rfl
 have Zf5:=ZO (st:=ZaN) Zcb ZdN Zcc
 have Zkz:=Zf5.binds (ps:=["tree"]) λ_ _ _ _ _ _ us hl=>by obtain⟨x0,u0,rfl,h0⟩:=le1 hl;obtain rfl:=le0 h0;exact rfl
 have Ze9:=ZO (st:=Zas) Zc4 Zc5 ZbI
 have Zi7:=Ze9.binds (ps:=["tree","place"]) λ_ _ _ _ _ _ us hl=>by obtain⟨x0,u0,rfl,h0⟩:=le1 hl;obtain⟨x1,u1,rfl,h1⟩:=le1 h0;obtain rfl:=le0 h1;exact rfl
 have ZiN:=ZO (st:=Zbx) Zft Zfu ZdO
 have Zm4:=ZiN.binds (ps:=["tree"]) λ_ _ _ _ _ _ us hl=>by obtain⟨x0,u0,rfl,h0⟩:=le1 hl;obtain rfl:=le0 h0;exact rfl
 have Zf6:=ZO (st:=ZaO) ZdQ ZdR Zcd
 have ZkA:=Zf6.binds (ps:=["flat","row"]) λ_ _ _ _ _ _ us hl=>by obtain⟨x0,u0,rfl,h0⟩:=le1 hl;obtain⟨x1,u1,rfl,h1⟩:=le1 h0;obtain rfl:=le0 h1;exact rfl
 have ZlM:=ZO (st:=Zdo) ZiC ZiD Zf0
 have Zrr:=ZlM.binds (ps:=["flat","heights"]) λ_ _ _ _ _ _ us hl=>by obtain⟨x0,u0,rfl,h0⟩:=le1 hl;obtain⟨x1,u1,rfl,h1⟩:=le1 h0;obtain rfl:=le0 h1;exact rfl
 have ZlN:=ZO (st:=Zdp) ZiF ZiG Zf1
 have Zrs:=ZlN.binds (ps:=["tree","heights"]) λ_ _ _ _ _ _ us hl=>by obtain⟨x0,u0,rfl,h0⟩:=le1 hl;obtain⟨x1,u1,rfl,h1⟩:=le1 h0;obtain rfl:=le0 h1;exact rfl
 have ZeL:=ZO (st:=Zaj) ZcA ZcB Zbp
 have ZiO:=ZeL.binds (ps:=["tree","heights"]) λ_ _ _ _ _ _ us hl=>by obtain⟨x0,u0,rfl,h0⟩:=le1 hl;obtain⟨x1,u1,rfl,h1⟩:=le1 h0;obtain rfl:=le0 h1;exact rfl
 have ZiP:=ZO (st:=Zby) Zfw Zfx ZdS
 have Zm5:=ZiP.binds (ps:=["tree","row"]) λ_ _ _ _ _ _ us hl=>by obtain⟨x0,u0,rfl,h0⟩:=le1 hl;obtain⟨x1,u1,rfl,h1⟩:=le1 h0;obtain rfl:=le0 h1;exact rfl
 have Zfa:=ZO (st:=Zat) Zc7 Zc8 ZbJ
 have Zi8:=Zfa.binds (ps:=["tree","heights"]) λ_ _ _ _ _ _ us hl=>by obtain⟨x0,u0,rfl,h0⟩:=le1 hl;obtain⟨x1,u1,rfl,h1⟩:=le1 h0;obtain rfl:=le0 h1;exact rfl
 have Zg0:=ZO (st:=Za9) ZcJ Zeu ZcK
 have ZlO:=Zg0.binds (ps:=["order","lower","heights"]) λ_ _ _ _ _ _ us hl=>by obtain⟨x0,u0,rfl,h0⟩:=le1 hl;obtain⟨x1,u1,rfl,h1⟩:=le1 h0;obtain⟨x2,u2,rfl,h2⟩:=le1 h1;obtain rfl:=le0 h2;exact rfl
 have ZnN:=ZO (st:=ZeX) Zkr Zks Zhq
 have Ztu:=ZnN.binds (ps:=["height","bar","under"]) λ_ _ _ _ _ _ us hl=>by obtain⟨x0,u0,rfl,h0⟩:=le1 hl;obtain⟨x1,u1,rfl,h1⟩:=le1 h0;obtain⟨x2,u2,rfl,h2⟩:=le1 h1;obtain rfl:=le0 h2;exact rfl
 have Zg1:=ZO (st:=Zba) Zew Zex ZcL
 have ZlP:=Zg1.binds (ps:=["tree","row"]) λ_ _ _ _ _ _ us hl=>by obtain⟨x0,u0,rfl,h0⟩:=le1 hl;obtain⟨x1,u1,rfl,h1⟩:=le1 h0;obtain rfl:=le0 h1;exact rfl
 have ZlQ:=ZO (st:=Zdq) ZiK ZiL Zf3
 have Zrt:=ZlQ.binds (ps:=["tree","least","greatest"]) λ_ _ _ _ _ _ us hl=>by obtain⟨x0,u0,rfl,h0⟩:=le1 hl;obtain⟨x1,u1,rfl,h1⟩:=le1 h0;obtain⟨x2,u2,rfl,h2⟩:=le1 h1;obtain rfl:=le0 h2;exact rfl
 have Zg2:=ZO (st:=Zbb) Zez ZeA ZcM
 have ZlR:=Zg2.binds (ps:=["script","k"]) λ_ _ _ _ _ _ us hl=>by obtain⟨x0,u0,rfl,h0⟩:=le1 hl;obtain⟨x1,u1,rfl,h1⟩:=le1 h0;obtain rfl:=le0 h1;exact rfl
 have Zg3:=ZO (st:=Zbc) ZeC ZeD ZcN
 have ZlS:=Zg3.binds (ps:=["pool","many"]) λ_ _ _ _ _ _ us hl=>by obtain⟨x0,u0,rfl,h0⟩:=le1 hl;obtain⟨x1,u1,rfl,h1⟩:=le1 h0;obtain rfl:=le0 h1;exact rfl
 have Zf7:=ZO (st:=ZaP) ZdZ Zd0 Zch
 have ZkB:=Zf7.binds (ps:=["pool","many"]) λ_ _ _ _ _ _ us hl=>by obtain⟨x0,u0,rfl,h0⟩:=le1 hl;obtain⟨x1,u1,rfl,h1⟩:=le1 h0;obtain rfl:=le0 h1;exact rfl
 have Zg4:=ZO (st:=Zbd) ZeF ZeG ZcO
 have ZlT:=Zg4.binds (ps:=["drops"]) λ_ _ _ _ _ _ us hl=>by obtain⟨x0,u0,rfl,h0⟩:=le1 hl;obtain rfl:=le0 h0;exact rfl
 have Zg5:=ZO (st:=Zbe) ZeI ZeJ ZcP
 have ZlU:=Zg5.binds (ps:=["tree","place"]) λ_ _ _ _ _ _ us hl=>by obtain⟨x0,u0,rfl,h0⟩:=le1 hl;obtain⟨x1,u1,rfl,h1⟩:=le1 h0;obtain rfl:=le0 h1;exact rfl
 have ZeM:=ZO (st:=Zak) ZcD ZcE Zbq
 have ZiQ:=ZeM.binds (ps:=["pool","tree"]) λ_ _ _ _ _ _ us hl=>by obtain⟨x0,u0,rfl,h0⟩:=le1 hl;obtain⟨x1,u1,rfl,h1⟩:=le1 h0;obtain rfl:=le0 h1;exact rfl
 have Zd5:=ZO (st:=Z4) Zb1 Zb2 Za1
 have Zhe:=Zd5.binds (ps:=["pool","tree"]) λ_ _ _ _ _ _ us hl=>by obtain⟨x0,u0,rfl,h0⟩:=le1 hl;obtain⟨x1,u1,rfl,h1⟩:=le1 h0;obtain rfl:=le0 h1;exact rfl
 have Zfb:=ZO (st:=Zau) Zda Zdb ZbK
 have Zi9:=Zfb.binds (ps:=["tree","row","kept"]) λ_ _ _ _ _ _ us hl=>by obtain⟨x0,u0,rfl,h0⟩:=le1 hl;obtain⟨x1,u1,rfl,h1⟩:=le1 h0;obtain⟨x2,u2,rfl,h2⟩:=le1 h1;obtain rfl:=le0 h2;exact rfl
 have Zd6:=ZO (st:=Z5) Zb4 Zb5 Za2
 have Zhf:=Zd6.binds (ps:=["tree","row","kept"]) λ_ _ _ _ _ _ us hl=>by obtain⟨x0,u0,rfl,h0⟩:=le1 hl;obtain⟨x1,u1,rfl,h1⟩:=le1 h0;obtain⟨x2,u2,rfl,h2⟩:=le1 h1;obtain rfl:=le0 h2;exact rfl
 have ZcR:=ZO (st:=ZY) Zbs Zbt ZaC
 have Zf8:=ZcR.binds (ps:=["tree","row","kept","pairs"]) λ_ _ _ _ _ _ us hl=>by obtain⟨x0,u0,rfl,h0⟩:=le1 hl;obtain⟨x1,u1,rfl,h1⟩:=le1 h0;obtain⟨x2,u2,rfl,h2⟩:=le1 h1;obtain⟨x3,u3,rfl,h3⟩:=le1 h2;obtain rfl:=le0 h3;exact rfl
 have ZuT:=ZO (st:=ZfU) Zrl Zrn Zro
 refine⟨fnOf "law" "law" (defArgs ZfU) (defBody ZfU) (defScope ZfU) .none Zt2 Zt3 Zt4 Zt5 Zrm Zt6,λs v=>.of_eq rfl,?tb,?nd,λbase _ _ B=>?_⟩
 case tb =>
  intro p hp
  unfold Ze4 at hp
  simp only[Ym,List.not_mem_nil,or_false]at hp
  rcases hp with rfl|rfl
  ·exact⟨by rw[Zax.1];exact Zc2,by rw[Zax.1];exact Zc1,ZbF,by rw[Zax.1];exact ZbH⟩
  ·exact⟨by rw[ZaU.1];exact ZdX,by rw[ZaU.1];exact ZdW,Zce,by rw[ZaU.1];exact Zcg⟩
 case nd =>
  unfold Ze4
  simp only[YH,List.map_nil]
  rw[Zax.1,ZaU.1]
  exact nd
 have Ziq:Callee l.prog w K mg base "settle" 1 ["elders","spine","place","keep"] (Zgo K mg):=⟨_,_,mg_of X G Zit,ZfX,Zrp,ZoH ZlJ T⟩
 have ZgA:Callee l.prog w K mg base "tree_of" 2 ["row"] (Zfm K mg):=⟨_,_,mg_of X G ZgC,ZeZ,Zpf,ZmN ZjC Ziq T⟩
 have Z2:Callee l.prog w K mg base "way_up" 1 ["tree","place"] (Zbz K mg):=⟨_,_,mg_of X G Ziw,ZfY,Zrq,ZoI ZlK T⟩
 have ZgB:Callee l.prog w K mg base "is_tree" 3 ["tree"] (Zfn K mg):=⟨_,_,mg_of X G ZgF,Ze0,Zpg,ZmO ZjD ZgA Z2 T⟩
 have Zej:Callee l.prog w K mg base "need_tree" 4 ["tree"] (ZdE K mg):=⟨_,_,mg_of X G Zep,ZcH,ZlL,Zkg ZgZ ZgB T⟩
 have ZcW:Callee l.prog w K mg base "flat_number" 2 ["tree","place"] (Zcv K mg):=⟨_,_,mg_of X G Zc3,ZbI,Zi7,Zib Ze9 Z2 T⟩
 have Zan:Callee l.prog w K mg base "flattest" 5 ["tree"] (ZbR K mg):=⟨_,_,mg_of X G Zfs,ZdO,Zm4,Zlo ZiN Zej ZcW T⟩
 have ZW:Callee l.prog w K mg base "heights_of" 1 ["flat","row"] (ZaX K mg):=⟨_,_,mg_of X G ZdP,Zcd,ZkA,Zi2 Zf6 T⟩
 have Zal:Callee l.prog w K mg base "higher_pairs" 2 ["tree","heights"] (ZaZ K mg):=⟨_,_,mg_of X G Zcz,Zbp,ZiO,Zhb ZeL Z2 T⟩
 have Zfr:Callee l.prog w K mg base "clashing" 6 ["tree","row"] (Zeh K mg):=⟨_,_,mg_of X G Zfv,ZdS,Zm5,ZlA ZiP Zan ZW Zal T⟩
 have ZaT:Callee l.prog w K mg base "from_below" 5 ["tree"] (ZbE K mg):=⟨_,_,mg_of X G Zca,Zcc,Zkz,Zi3 Zf5 Z2 Zky B T⟩
 have Zdt:Callee l.prog w K mg base "row_by" 1 ["flat","heights"] (Zdr K mg):=⟨_,_,mg_of X G ZiB,Zf0,Zrr,ZoP ZlM T⟩
 have ZcX:Callee l.prog w K mg base "lower_under" 3 ["tree","heights"] (Zcw K mg):=⟨_,_,mg_of X G Zc6,ZbJ,Zi8,Zio Zfa Zal T⟩
 have Zel:Callee l.prog w K mg base "chains_by" 1 ["order","lower","heights"] (ZdH K mg):=⟨_,_,mg_of X G ZcI,ZcK,ZlO,Zkl Zg0 ZlI B T⟩
 have Zkn:Callee l.prog w K mg base "stays" 1 ["height","bar","under"] (Zh7 K mg):=⟨_,_,mg_of X G Zkq,Zhq,Ztu,ZqS ZnN T⟩
 have Zem:Callee l.prog w K mg base "most_stay" 6 ["tree","row"] (ZdI K mg):=⟨_,_,mg_of X G Zev,ZcL,ZlP,Zkm Zg1 ZaT Zan ZW Zdt ZcX Zel Zkn T⟩
 have Zen:Callee l.prog w K mg base "_law_pool" 1 ["script","k"] (ZdD K mg):=⟨_,_,mg_of X G Zey,ZcM,ZlR,Zke Zg2 T⟩
 have Zl:Callee l.prog w K mg base "_law_pick" 1 ["pool","many"] (ZaQ K mg):=⟨_,_,mg_of X G ZeB,ZcN,ZlS,Zkf Zg3 T⟩
 have ZdL:Callee l.prog w K mg base "_law_drops" 2 ["pool","many"] (ZcU K mg):=⟨_,_,mg_of X G ZdY,Zch,ZkB,Zi1 Zf7 Zl T⟩
 have Zeo:Callee l.prog w K mg base "_law_hung" 1 ["drops"] (ZdG K mg):=⟨_,_,mg_of X G ZeE,ZcO,ZlT,Zki Zg4 T⟩
 have Zek:Callee l.prog w K mg base "_law_over" 1 ["tree","place"] (ZdF K mg):=⟨_,_,mg_of X G ZeH,ZcP,ZlU,Zkh Zg5 T⟩
 have Zcy:Callee l.prog w K mg base "_law_kin_row" 2 ["pool","tree"] (ZbX K mg):=⟨_,_,mg_of X G ZcC,Zbq,ZiQ,Zha ZeM Zl Zek T⟩
 have ZbZ:Callee l.prog w K mg base "_law_near_row" 3 ["pool","tree"] (ZbB K mg):=⟨_,_,mg_of X G Zb0,Za1,Zhe,Zgx Zd5 Zl Zcy T⟩
 have Zir:Callee l.prog w K mg base "lifted" 6 ["tree","heights"] (Zgp K mg):=⟨_,_,mg_of X G ZiE,Zf1,Zrs,ZoQ ZlN ZaT T⟩
 have Zis:Callee l.prog w K mg base "fitted" 7 ["tree","least","greatest"] (Zgq K mg):=⟨_,_,mg_of X G ZiJ,Zf3,Zrt,ZoR ZlQ Z2 Zan ZW Zdt Zir T⟩
 have Zaw:Callee l.prog w K mg base "_law_fitted" 8 ["tree","row","kept"] (Zbl K mg):=⟨_,_,mg_of X G Zc9,ZbK,Zi9,Zin Zfb Zis T⟩
 have Za0:Callee l.prog w K mg base "_law_row_told" 9 ["tree","row","kept"] (ZbA K mg):=⟨_,_,mg_of X G Zb3,Za2,Zhf,Zgz Zd6 Zaw T⟩
 have ZaB:Callee l.prog w K mg base "_law_clash_told" 9 ["tree","row","kept","pairs"] (Za4 K mg):=⟨_,_,mg_of X G Zbr,ZaC,Zf8,Zfq ZcR Zaw T⟩
 exact ok_law ZuT Zfr Zem Zen Zl ZdL Zeo ZbZ Za0 ZaB T
theorem walk {l:PySem.W.OpenLaw}{q:Program}{loose:List Str}{XP:(Str->Option Value)->Heap->Prop}{YP:World->Heap->Prop}{d:DefRec}{K:Params->PySem.W.Frag}{ts:List Addr} (hn:l.most=some 63) (hdf:d.params.defaults=[])
  (hY:∀(w:World) (h:Heap),YP w h->(K w.params).In h) (hY2:∀(w:World) (h:Heap),YP w h->∀P∈ts,h.get? P=some (PySem.W.tabObj #[]))
  (F:∀(w:World) (mg:Str->Option Value) (fa:Addr) (h:Heap),(K w.params).In h->h.Ns mainGlobals mg->mg d.name=some (.ref fa) ->
   ∃fd:FuncData,(∀(s:Shared) (u:Value),BindsTo s fd ⟨[u],[]⟩ [("script",u)])/\(∀p∈Ze4 (K w.params) mg,p.1∈ts/\(K w.params).lookup p.1=none/\∃c,PySem.W.codeHdIn (K w.params) c p.1=true)/\((Ze4 (K w.params) mg).map (·.1)).Nodup/\∀base:Heap,(K w.params).In base->base.Ns mainGlobals mg->BM mg base->FnOk l.prog w (K w.params) mg base (CXE l.prog w) 10 fa fd ["script"] (ZnH (K w.params) mg)) :
  PySem.W.WalkO q loose XP YP l.row.toRowW d [] (λf vs=>PySem.call f vs) :=
 L2.Zqw (n:=63) (k:=10) (x:="script") (ts:=ts) (tabs:=Ze4) (CX:=λw=>CXE l.prog w) (sp:=λw mg=>ZnH (K w.params) mg) hn (by decide) hdf ⟨rfl,by decide,by decide⟩ hY hY2 F (λ_ _ _ a ns hl hS hT=>⟨a,ns,rfl,hS,hl,hT,λ_=>rfl⟩) λ_ _ _ _ _ ⟨_,_,_,_,_,_,_,z⟩=>z
end K70
def PySem.W.Fast.tw5468009660733615675:Unit:=()
def PySem.W.Fast.tw368728756590277150:Unit:=()
def PySem.W.Fast.tw9639324772482036635:Unit:=()
def PySem.W.Fast.tw17978487827997920253:Unit:=()
def PySem.W.Fast.tw16198593803548063680:Unit:=()
def PySem.W.Fast.tw13293066380411415835:Unit:=()
def PySem.W.Fast.tw18032133114644048278:Unit:=()
def PySem.W.Fast.tw15164832533491451593:Unit:=()
def PySem.W.Fast.tw7637905692626978992:Unit:=()
def PySem.W.Fast.tw12758355069538940798:Unit:=()
def PySem.W.Fast.tw7623486204412660966:Unit:=()
def PySem.W.Fast.tw410524272442014396:Unit:=()
def PySem.W.Fast.tw15630868472261318758:Unit:=()
def PySem.W.Fast.tw13247586387509938348:Unit:=()
def PySem.W.Fast.tw10677889394201155036:Unit:=()
def PySem.W.Fast.tw49584541951964318:Unit:=()
def PySem.W.Fast.tw2907114470515466513:Unit:=()
def PySem.W.Fast.tw2826103085032477634:Unit:=()
def PySem.W.Fast.tw14278235616633721773:Unit:=()
def PySem.W.Fast.tw13091143391364040232:Unit:=()
def PySem.W.Fast.tw16789647866857801480:Unit:=()
def PySem.W.Fast.tw3231013899618885057:Unit:=()
def PySem.W.Fast.tw8689441493198104085:Unit:=()
def PySem.W.Fast.tw2021403314453759974:Unit:=()
def PySem.W.Fast.tw5765647336520165265:Unit:=()
def PySem.W.Fast.tw16322096073854342729:Unit:=()
def PySem.W.Fast.tw6652050246007638391:Unit:=()
def PySem.W.Fast.tw6949555360764540383:Unit:=()
def PySem.W.Fast.tw3058730498505647987:Unit:=()
def PySem.W.Fast.tw12168657999591547331:Unit:=()
def PySem.W.Fast.tw3947734811661332429:Unit:=()
def PySem.W.Fast.tw14458334841143754393:Unit:=()
def PySem.W.Fast.tw7142540755936091568:Unit:=()
def PySem.W.Fast.tw10050336299440807446:Unit:=()
def PySem.W.Fast.tw651890871240270206:Unit:=()
def PySem.W.Fast.tw13294453134401210065:Unit:=()
def PySem.W.Fast.tw12048096003089715535:Unit:=()
def PySem.W.Fast.tw8268555475045570454:Unit:=()
def PySem.W.Fast.tw15703348354438976495:Unit:=()
def PySem.W.Fast.tw4795729065876443483:Unit:=()
def PySem.W.Fast.tw8526607212530297242:Unit:=()
def PySem.W.Fast.tw584445612864817187:Unit:=()
def PySem.W.Fast.tw13232532636272554631:Unit:=()
def PySem.W.Fast.tw7268963765834420514:Unit:=()
def PySem.W.Fast.tw11442815268817325087:Unit:=()
def PySem.W.Fast.tw14899163614418950486:Unit:=()
def PySem.W.Fast.tw718856421873485534:Unit:=()
def PySem.W.Fast.tw9598691292393128781:Unit:=()
def PySem.W.Fast.tw1397777442440961976:Unit:=()
def PySem.W.Fast.tw17204298817893145809:Unit:=()
def PySem.W.Fast.tw12028330207887634395:Unit:=()
def PySem.W.Fast.tw9702094153017528712:Unit:=()
def PySem.W.Fast.tw7902330660744332507:Unit:=()
def PySem.W.Fast.tw10474113081485208828:Unit:=()
def PySem.W.Fast.tw8240939145464643072:Unit:=()
def PySem.W.Fast.tw11556106514339428813:Unit:=()
def PySem.W.Fast.tw7119570991106390898:Unit:=()
def PySem.W.Fast.tw5905211849567495964:Unit:=()
def PySem.W.Fast.tw2422667249690529139:Unit:=()
def PySem.W.Fast.tw12338091588109566365:Unit:=()
def PySem.W.Fast.tw9256965780971429651:Unit:=()
def PySem.W.Fast.tw347867600306223872:Unit:=()
def PySem.W.Fast.tw6609612350882161148:Unit:=()
def PySem.W.Fast.tw15549336636036034408:Unit:=()
def PySem.W.Fast.tw6630045637766918521:Unit:=()
def PySem.W.Fast.tw11066541062219972473:Unit:=()
def PySem.W.Fast.tw4053562705121154208:Unit:=()
def PySem.W.Fast.tw13550927017584172501:Unit:=()
def PySem.W.Fast.tw16814141106783870730:Unit:=()
def PySem.W.Fast.tw17135826428281383458:Unit:=()
def PySem.W.Fast.tw6762888149091722632:Unit:=()
def PySem.W.Fast.tw5540422948731610398:Unit:=()
def PySem.W.Fast.tw10945949548845191727:Unit:=()
def PySem.W.Fast.tw15235174856199514632:Unit:=()
def PySem.W.Fast.tw1504606951047107872:Unit:=()
def PySem.W.Fast.tw3065418313952126848:Unit:=()
def PySem.W.Fast.tw10019019472923499681:Unit:=()
def PySem.W.Fast.tw12003371174214491225:Unit:=()
def PySem.W.Fast.tw15516479486480678906:Unit:=()
open PySem PySem.W PyProof.Rows
set_option maxRecDepth 100000 in
set_option maxHeartbeats 0 in
theorem PySem.Challenge.cw_dipkin_k70_whole_stays_within_bounds_holds : PySem.Challenge.rw_dipkin_k70_whole_stays_within_bounds.Holds := by
 w_on;o_law;k_head;(case hw=>w_witness2)
 k_fill
 refine K70.walk (l:=PySem.Challenge.rw_dipkin_k70_whole_stays_within_bounds) rfl rfl (λw h Y=>PySem.W.km_in_of Y) (λw h Y=>PySem.W.km_tabs_of Y) ?F
 case F =>
  intro w mg fa h KX G hmg
  refine' K70.all_mk KX G hmg ?Zit ?Ziu ?Ziv ?ZfX ?ZgC ?ZgD ?ZgE ?ZeZ ?Ziw ?Zix ?Ziy ?ZfY ?ZgF ?ZgG ?ZgH ?Ze0 ?Zep ?Zeq ?Zer ?ZcH ?Zca ?Zcb ?ZdN ?Zcc ?ZcY ?ZcZ ?Zc0 ?ZbH ?Zc1 ?Zc2 ?Zc3 ?Zc4 ?Zc5 ?ZbI ?Zfs ?Zft ?Zfu ?ZdO ?ZdP ?ZdQ ?ZdR ?Zcd ?ZiB ?ZiC ?ZiD ?Zf0 ?ZiE ?ZiF ?ZiG ?Zf1 ?Zcz ?ZcA ?ZcB ?Zbp ?Zfv ?Zfw ?Zfx ?ZdS ?Zc6 ?Zc7 ?Zc8 ?ZbJ ?ZcI ?ZcJ ?Zeu ?ZcK ?ZdT ?ZdU ?ZdV ?Zcg ?ZdW ?ZdX ?Zkq ?Zkr ?Zks ?Zhq ?Zev ?Zew ?Zex ?ZcL ?ZiJ ?ZiK ?ZiL ?Zf3 ?Zey ?Zez ?ZeA ?ZcM ?ZeB ?ZeC ?ZeD ?ZcN ?ZdY ?ZdZ ?Zd0 ?Zch ?ZeE ?ZeF ?ZeG ?ZcO ?ZeH ?ZeI ?ZeJ ?ZcP ?ZcC ?ZcD ?ZcE ?Zbq ?Zb0 ?Zb1 ?Zb2 ?Za1 ?Zc9 ?Zda ?Zdb ?ZbK ?Zb3 ?Zb4 ?Zb5 ?Za2 ?Zbr ?Zbs ?Zbt ?ZaC ?Zrk ?Zrl ?Zrn ?Zro ?n_DipError ?x_DipError ?d_DipError ?y_DipError ?n_Unlike ?x_Unlike ?d_Unlike ?y_Unlike ?n_NoTree ?x_NoTree ?d_NoTree ?y_NoTree ?b_abs ?b_all ?b_any ?b_enumerate ?b_int ?b_isinstance ?b_len ?b_list ?b_max ?b_min ?b_range ?b_sorted ?b_tuple ?b_zip ?m_MOST_PLACES ?nd
  (case Zit|Ziu|Ziv|ZfX|ZgC|ZgD|ZgE|ZeZ|Ziw|Zix|Ziy|ZfY|ZgF|ZgG|ZgH|Ze0|Zep|Zeq|Zer|ZcH|Zca|Zcb|ZdN|Zcc=>k_is)
  (case ZcY=>exact rfl)
  (case ZcZ=>k_is)
  (case Zc0=>exact rfl)
  (case ZbH=>kernel_rfl)
  (case Zc1=>kernel_rfl)
  (case Zc2=>decide)
  (case Zc3|Zc4|Zc5|ZbI|Zfs|Zft|Zfu|ZdO|ZdP|ZdQ|ZdR|Zcd|ZiB|ZiC|ZiD|Zf0|ZiE|ZiF|ZiG|Zf1|Zcz|ZcA|ZcB|Zbp|Zfv|Zfw|Zfx|ZdS|Zc6|Zc7|Zc8|ZbJ|ZcI|ZcJ|Zeu|ZcK=>k_is)
  (case ZdT=>exact rfl)
  (case ZdU=>k_is)
  (case ZdV=>exact rfl)
  (case Zcg=>kernel_rfl)
  (case ZdW=>kernel_rfl)
  (case ZdX=>decide)
  (case Zkq|Zkr|Zks|Zhq|Zev|Zew|Zex|ZcL|ZiJ|ZiK|ZiL|Zf3|Zey|Zez|ZeA|ZcM|ZeB|ZeC|ZeD|ZcN|ZdY|ZdZ|Zd0|Zch|ZeE|ZeF|ZeG|ZcO|ZeH|ZeI|ZeJ|ZcP|ZcC|ZcD|ZcE|Zbq|Zb0|Zb1|Zb2|Za1|Zc9|Zda|Zdb|ZbK|Zb3|Zb4|Zb5|Za2|Zbr|Zbs|Zbt|ZaC|Zrk|Zrl|Zrn|Zro|n_DipError=>k_is)
  (case x_DipError=>k_exc)
  (case d_DipError|y_DipError|n_Unlike=>k_is)
  (case x_Unlike=>k_exc)
  (case d_Unlike|y_Unlike|n_NoTree=>k_is)
  (case x_NoTree=>k_exc)
  (case d_NoTree|y_NoTree|b_abs|b_all|b_any|b_enumerate|b_int|b_isinstance|b_len|b_list|b_max|b_min|b_range|b_sorted|b_tuple|b_zip|m_MOST_PLACES=>k_is)
  (case nd=>decide)
