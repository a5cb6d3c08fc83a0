import PyProof.Rows.All
import Wide.All
import OpenK.AllK
import Wide.FinOn
import Lean
import PyProof.EqAt
import PyProof.EqKinds
import PyProof.TupleCall
import PyProof.MeetsSeq
import PyProof.NeKinds
import PyProof.TupleOfSeq
import PyProof.ListRange
import PyProof.TupleOfGen
import PyProof.ZipIter
import KE.KRevIter
import PyProof.StrWalks
import PyProof.StrBlock2
import PyProof.MeetsStr
import PyProof.StrCalls2
import PyProof.StrLawsIn
import KE.KIntText
import PyProof.StrLawsTight
import PyProof.StrLawsChain
import PyProof.StrLawsAffix
import PyProof.Rows.StrItems
import PyProof.Rows.ReprOcc
import KE.KDictSum
import PyProof.Rows.SeqMore
import KE.KDictList
import PySem.Challenge.RW_dipkin_k87_whole_mended_rows_are_told_so
set_option Elab.async false
set_option linter.all false
set_option maxRecDepth 100000
set_option maxHeartbeats 4000000
set_option genSizeOfSpec false
local macro_rules | `(tactic| omega) => `(tactic| first | lia | omega (config := {}))
section
open PySem PySem.Spec PyProof.Rows
noncomputable abbrev Ya:=@wpAny_bind
noncomputable abbrev Yb:=@wpAny_pure
noncomputable abbrev Yc:=@if_neg
noncomputable abbrev Yd:=@if_pos
noncomputable abbrev Ye:=@Nat.le_refl
noncomputable abbrev Yf:=@List.length_map
noncomputable abbrev Yg:=@List.getElem?_eq_getElem
noncomputable abbrev Yh:=@Heap.get?_push_of_some
noncomputable abbrev Yi:=@List.mem_cons
noncomputable abbrev Yj:=@Heap.lt_size
noncomputable abbrev Yk:=@List.mem_append_right
noncomputable abbrev Yl:=@List.getD_eq_getElem?_getD
noncomputable abbrev Ym:=@Nat.le_trans
noncomputable abbrev Yn:=@Nat.ne_of_lt
noncomputable abbrev Yo:=@List.mem_map
noncomputable abbrev Yp:=@PySem.boot_len
noncomputable abbrev Yq:=@List.mem_append
noncomputable abbrev Yr:=@List.mem_cons_self
noncomputable abbrev Ys:=@Heap.get?_push_size
noncomputable abbrev Yt:=@Nat.zero_le
noncomputable abbrev Yu:=@List.size_toArray
noncomputable abbrev Yv:=@Nat.lt_of_le_of_lt
noncomputable abbrev Yw:=@List.mem_cons_of_mem
noncomputable abbrev Yx:=@List.mem_append_left
noncomputable abbrev Yy:=@decide_eq_true
noncomputable abbrev Yz:=@List.mem_range
noncomputable abbrev YA:=@List.getElem?_eq_some_iff
noncomputable abbrev YB:=@wpAny_mono
noncomputable abbrev YC:=@Nat.lt_of_lt_of_le
noncomputable abbrev YD:=@List.getElem_mem
noncomputable abbrev YE:=@Option.some.inj
noncomputable abbrev YF:=@List.mem_filter
noncomputable abbrev YG:=@List.getElem?_map
noncomputable abbrev YH:=@Int.toNat_natCast
noncomputable abbrev YI:=@Nat.lt_irrefl
noncomputable abbrev YJ:=@List.map_append
noncomputable abbrev YK:=@decide_eq_false
noncomputable abbrev YL:=@Bool.false_ne_true
noncomputable abbrev YM:=@List.map_cons
noncomputable abbrev YN:=@List.length_append
noncomputable abbrev YO:=@Nat.lt_succ_of_lt
noncomputable abbrev YQ:=@List.length_cons
noncomputable abbrev YR:=@Nat.le_succ
noncomputable abbrev YS:=@of_decide_eq_true
noncomputable abbrev YT:=@List.map_map
noncomputable abbrev YU:=@Int.eq_ofNat_of_zero_le
noncomputable abbrev YV:=@List.range_succ
noncomputable abbrev YW:=@Array.length_toList
noncomputable abbrev YX:=@List.length_take
noncomputable abbrev YY:=@List.getElem_of_mem
noncomputable abbrev YZ:=@Nat.le_of_lt
noncomputable abbrev Y0:=@List.length_range
noncomputable abbrev Y1:=@List.length_filter_le
noncomputable abbrev Y2:=@List.take_add_one
noncomputable abbrev Y3:=@List.append_assoc
noncomputable abbrev Y4:=@Nat.le_of_eq
noncomputable abbrev Y5:=@List.length_drop
noncomputable abbrev Y6:=@List.pairwise_cons
noncomputable abbrev Y7:=@List.mem_singleton
noncomputable abbrev Y8:=@List.getElem?_range
noncomputable abbrev Y9:=@List.getElem_append_left
noncomputable abbrev Ja:=@List.getElem?_append_right
noncomputable abbrev Jb:=@List.getElem_append_right
end
namespace L2
open PySem PySem.Spec PyProof.Rows
noncomputable abbrev Key:=Sum Int Str
noncomputable def Zlo:Key->Value->Bool
 |.inl k,v=>Value.isInt k v
 |.inr x,v=>Value.isStrOf x v
noncomputable def keyH (w:World):Key->Int
 |.inl k=>hashInt k
 |.inr x=>hashStr w x
theorem Zan:∀{k:Key}{v:Value},Zlo k v=true->(∃i t,k=Sum.inl i/\v=Value.int i t)\/(∃x t,k=Sum.inr x/\v=Value.str x t)
 |.inl i,v,h=>by
  obtain⟨t,e⟩:=Value.isInt_shape (k:=i) (v:=v) h
  exact .inl ⟨i,t,rfl,e⟩
 |.inr x,v,h=>by
  obtain⟨t,e⟩:=Value.isStrOf_shape (x:=x) (v:=v) h
  exact .inr ⟨x,t,rfl,e⟩
theorem ZqK (i:Int) (t:Tok):Zlo (.inl i) (.int i t)=true:=by simp[Zlo,Value.isInt]
theorem ZqL (x:Str) (t:Tok):Zlo (.inr x) (.str x t)=true:=by simp[Zlo,Value.isStrOf]
theorem key_ll (a b:Int):decide ((Sum.inl a:Key)=Sum.inl b)=(a==b):=by
 by_cases e:a=b
 ·subst e;simp
 ·have h:¬ (Sum.inl a:Key)=Sum.inl b:=λq=>e (Sum.inl.inj q)
  rw[YK h]
  exact(beq_eq_false_iff_ne.mpr e).symm
theorem key_rr (a b:Str):decide ((Sum.inr a:Key)=Sum.inr b)=decide (a=b):=by
 by_cases e:a=b
 ·subst e;simp
 ·have h:¬ (Sum.inr a:Key)=Sum.inr b:=λq=>e (Sum.inr.inj q)
  rw[YK h,YK e]
theorem key_lr (a:Int) (b:Str):decide ((Sum.inl a:Key)=Sum.inr b)=false:=YK (λq=>nomatch q)
theorem key_rl (a:Str) (b:Int):decide ((Sum.inr a:Key)=Sum.inl b)=false:=YK (λq=>nomatch q)
noncomputable def Zao (prog:Program) (w:World):PySem.KeyKind prog w Key where
 is:=Zlo
 hash:=keyH w
 inj:=λv a b ha hb=>by
  rcases Zan ha with⟨i,t,rfl,rfl⟩|⟨x,t,rfl,rfl⟩
  ·rcases Zan hb with⟨j,u,rfl,e⟩|⟨y,u,rfl,e⟩
   ·injection e with e1 _;rw[e1]
   ·exact nomatch e
  ·rcases Zan hb with⟨j,u,rfl,e⟩|⟨y,u,rfl,e⟩
   ·exact nomatch e
   ·injection e with e1 _;rw[e1]
 byValue:=λk v h=>by
  rcases Zan h with⟨i,t,rfl,rfl⟩|⟨x,t,rfl,rfl⟩<;>rfl
 pyHash:=λhv h=>by
  rcases Zan hv with⟨i,t,rfl,rfl⟩|⟨x,t,rfl,rfl⟩
  ·exact wpAny_pyHash_int h
  ·exact wpAny_pyHash_str h
 eqBool:=λhu hv h=>by
  rcases Zan hu with⟨i,t,rfl,rfl⟩|⟨x,t,rfl,rfl⟩
  ·rcases Zan hv with⟨j,u,rfl,rfl⟩|⟨y,u,rfl,rfl⟩
   ·rw[key_ll]at h;exact wpAny_eqBool_int h
   ·rw[key_lr]at h;exact SeqAt.EqAt.int_str i t y u _ _ _ _ h
  ·rcases Zan hv with⟨j,u,rfl,rfl⟩|⟨y,u,rfl,rfl⟩
   ·rw[key_rl]at h;exact SeqAt.EqAt.str_int x t j u _ _ _ _ h
   ·rw[key_rr]at h;exact wpAny_eqBool_str h
 «strs»:=λk x t v h=>by
  rcases Zan h with⟨i,u,rfl,e⟩|⟨y,u,rfl,e⟩
  ·exact nomatch e
  ·injection e with e1 _
   subst e1
   cases v<;>rfl
theorem Zni (prog:Program) (w:World) (i:Int) (t:Tok):(Zao prog w).is (.inl i) (.int i t)=true:=ZqK i t
theorem Znj (prog:Program) (w:World) (x:Str) (t:Tok):(Zao prog w).is (.inr x) (.str x t)=true:=ZqL x t
inductive V where
 |non|bl (b:Bool)|int (i:Int)|str (x:Str)|byt (b:Array UInt8)|flt (b:UInt64)|ref (a:Addr)|ty (n:String)
 deriving DecidableEq
noncomputable def RelV:V->Value->Prop
 |.non,u=>u=Value.none
 |.bl b,u=>u=Value.bool b
 |.int i,u=>∃t,u=Value.int i t
 |.str x,u=>∃t,u=Value.str x t
 |.byt b,u=>∃t,u=Value.bytes b t
 |.flt b,u=>∃t,u=Value.float b t
 |.ref a,u=>u=Value.ref a
 |.ty n,u=>u=Value.type n
noncomputable abbrev Vals:List V->List Value->Prop:=Paired RelV
theorem Vals.length {xs:List V}{us:List Value} (r:Vals xs us):xs.length=us.length:=Paired.length r
theorem Vals.get:∀{xs:List V}{us:List Value}{i:Nat}{x:V},Vals xs us->xs[i]?=some x->∃u,us[i]?=some u/\RelV x u
 |_,_,_,_,.nil,e=>by simp at e
 |_,_,0,_,.cons r _,e=>by simp at e;subst e;exact⟨_,rfl,r⟩
 |_,_,i+1,x,.cons _ t,e=>by
  obtain⟨u,h1,h2⟩:=Vals.get (i:=i) (x:=x) t (by simpa using e)
  exact⟨u,by simpa using h1,h2⟩
theorem Vals.set {x:V}{u:Value} (r:RelV x u):∀{xs:List V}{us:List Value} (i:Nat),Vals xs us->Vals (xs.set i x) (us.set i u)
 |_,_,_,.nil=>.nil
 |_,_,0,.cons _ t=>.cons r t
 |_,_,i+1,.cons q t=>.cons q (Vals.set r i t)
theorem Vals.append:∀{xs ys:List V}{us ws:List Value},Vals xs us->Vals ys ws->Vals (xs++ys) (us++ws)
 |_,_,_,_,.nil,s=>s
 |_,_,_,_,.cons r t,s=>.cons r (Vals.append t s)
theorem Vals.take:∀{xs:List V}{us:List Value} (n:Nat),Vals xs us->Vals (xs.take n) (us.take n)
 |_,_,0,_=>.nil
 |_,_,_+1,.nil=>.nil
 |_,_,n+1,.cons r t=>.cons r (Vals.take n t)
theorem Vals.drop:∀{xs:List V}{us:List Value} (n:Nat),Vals xs us->Vals (xs.drop n) (us.drop n)
 |_,_,0,r=>r
 |_,_,_+1,.nil=>.nil
 |_,_,n+1,.cons _ t=>Vals.drop n t
noncomputable def Zi7:Option V->Option Value->Prop
 |some v,some u=>RelV v u
 |none,none=>True
 |_,_=>False
noncomputable def KV {κ:Type}:List (κ×V)->List (κ×Value)->Prop:=Paired λ(p:κ×V) (q:κ×Value)=>p.1=q.1/\RelV p.2 q.2
noncomputable def kV:Key->V
 |.inl i=>.int i
 |.inr x=>.str x
inductive HO where
 |lst (xs:List V)
 |tup (xs:List V)
 |dK (kvs:List (Key×V))|dT (kvs:List (List Key×V))
 |set (S:Int->Bool) (n:Nat)
 |ins (C dx:Addr) (fs:List (Str×V))
 |own (x:Addr)
 |xd (fs:List (Str×V))
 |met (f x:Addr)
 |rng (lo hi:Int)
 |frz (o:Obj) (u:HO)
 |tbl (ps:Array Value)
 |ext (φ:Heap->Prop)
noncomputable abbrev Hp:=Addr->Option HO
noncomputable def upd (H:Hp) (a:Addr) (o:HO):Hp:=λb=>if b=a then some o else H b
theorem Zc {H:Hp}{a:Addr}{o:HO}:upd H a o a=some o:=by unfold upd;rw[Yd rfl]
theorem Zl {H:Hp}{a b:Addr}{o:HO} (h:b≠a):upd H a o b=H b:=by unfold upd;rw[Yc h]
theorem Zvu {H:Hp}{a:Addr}{o u:HO}:upd (upd H a o) a u=upd H a u:=by
 funext b;unfold upd;split<;>rfl
theorem ne_of {H:Hp}{a b:Addr}{o u:HO} (h:H a=some o) (h':H b=some u) (d:o≠u):a≠b:=by
 intro e;subst e;rw[h]at h';exact d (YE h')
theorem ZH {H:Hp}{a b:Addr}{o:HO} (h:H a=some o) (h':H b=none):a≠b:=by
 intro e;subst e;rw[h]at h';cases h'
section
variable (P:Program) (w:World)
noncomputable def Zaa (H:Hp) (h:Heap) (a:Addr):HO->Prop
 |.lst xs=>xs.length<=sizeLine/\∃(its:List Value) (n:Nat),Vals xs its/\h.get? a=some {cls:=.type "list",data:=.seq its.toArray n}
 |.tup xs=>xs.length<=sizeLine/\∃its:List Value,Vals xs its/\IsTup h a its.toArray
 |.dK kvs=>kvs.length<=sizeLine/\(a==sysModules)=false/\∃vs,KV kvs vs/\h.DictOf (Zao P w) a vs
 |.dT kvs=>kvs.length<=sizeLine/\(a==sysModules)=false/\∃xs:List (List Key×Addr×Value),
   Paired (λ(p:List Key×V) (q:List Key×Addr×Value)=>p.1=q.1/\H q.2.1=some (.tup (p.1.map kV))/\RelV p.2 q.2.2) kvs xs /\
   ∃o es ep,h.get? a=some o/\o.ExactDict/\o.data=.dict es ep/\es.toList=xs.map (entryOfKey (tupleKind (Zao P w)))/\(xs.map (·.1)).Nodup
 |.set S n=>h.SetOf (intKind P w) a S n
 |.ins C dx fs=>H dx=some (.own a)/\fs.length<=1000/\dx≠a/\h.get? a=some (PySem.W.instObj C dx) /\
   ∃mA,h.Ns1 dx mA/\(∀f,Zi7 (fs.lookup f) (mA f))/\PySem.Within mA (fs.map (·.1))
 |.own _=>∃o,h.get? a=some o
 |.xd fs=>∃mA,h.Ns1 a mA/\∀f,Zi7 (fs.lookup f) (mA f)
 |.rng lo hi=>∃t u v,h.get? a=some {cls:=.type "range",data:=.fields #[.int lo t,.int hi u,.int 1 v]}
 |.frz o u=>h.get? a=some o/\Zaa H h a u
 |.tbl ps=>∃ts:Array Value,h.get? a=some {cls:=.none,data:=.fields ts}/\TriplesOk ts.toList/\∀pos cv,codeAmong pos ts.toList=some cv->∃c oc vs q t t',cv=.ref c/\H c=some (.frz oc (.own a))/\oc.data=.fields vs/\ps[0]?=some (.str q t)/\vs[1]?=some (.str q t')
 |.met f x=>h.get? a=some (PySem.W.methodObj (.ref f) (.ref x))
 |.ext φ=>φ h/\(∃o,h.get? a=some o)/\∀h1 h2:Heap,φ h1->(∀o,h1.get? a=some o->h2.get? a=some o)->φ h2
def HOk (H:Hp) (h:Heap):Prop:=∀a o,H a=some o->Zaa P w H h a o
end
section
variable {P:Program}{w:World}{H H':Hp}{h h':Heap}{a:Addr}{o:HO}
theorem Zaa.lt (x:Zaa P w H h a o):a<h.objs.size:=by
 cases o with
 |lst xs=>obtain⟨_,_,_,_,e⟩:=x;exact Yj e
 |tup xs=>obtain⟨_,_,_,p⟩:=x;exact p.lt
 |dK kvs=>obtain⟨_,_,_,_,o,_,_,e,_⟩:=x;exact Yj e
 |dT kvs=>obtain⟨_,_,_,_,o,_,_,e,_⟩:=x;exact Yj e
 |set S n=>obtain⟨o,_,_,_,e,_⟩:=x;exact Yj e
 |ins C dx fs=>obtain⟨_,_,_,e,_⟩:=x;exact Yj e
 |own y=>obtain⟨_,e⟩:=x;exact Yj e
 |xd fs=>obtain⟨_,⟨_,_,_,e,_⟩,_⟩:=x;exact Yj e
 |rng lo hi=>obtain⟨_,_,_,e⟩:=x;exact Yj e
 |frz ob u=>obtain⟨e,_⟩:=x;exact Yj e
 |tbl ps=>obtain⟨_,e,_⟩:=x;exact Yj e
 |met f y=>exact Yj (show h.get? a=some _ from x)
 |ext φ=>obtain⟨_,⟨_,e⟩,_⟩:=x;exact Yj e
theorem Paired.mapP {α β:Type}{F G:α->β->Prop}:∀{l₁:List α}{l₂:List β},Paired F l₁ l₂->(∀a b,F a b->G a b)->Paired G l₁ l₂
 |_,_,.nil,_=>.nil
 |_,_,.cons r t,f=>.cons (f _ _ r) (Paired.mapP t f)
theorem Zaa.Zhb (x:Zaa P w H h a o) (k:∀b u,(b=a\/H b=some (.own a))->h.get? b=some u->h'.get? b=some u)
  (ho:∀b,H b=some (.own a)->H' b=some (.own a)) (ht:∀b xs,H b=some (.tup xs)->H' b=some (.tup xs)) (hz:∀b o u,H b=some (.frz o u)->H' b=some (.frz o u)):Zaa P w H' h' a o:=by
 induction o with
 |lst xs=>obtain⟨z,its,n,r,e⟩:=x;exact⟨z,its,n,r,k _ _ (.inl rfl) e⟩
 |tup xs=>obtain⟨z,its,r,ob,e,c⟩:=x;exact⟨z,its,r,ob,k _ _ (.inl rfl) e,c⟩
 |dK kvs=>obtain⟨z,y,vs,r,ob,es,ep,e,c⟩:=x;exact⟨z,y,vs,r,ob,es,ep,k _ _ (.inl rfl) e,c⟩
 |dT kvs =>
  obtain⟨z,y,xs,r,ob,es,ep,e,c⟩:=x
  exact⟨z,y,xs,Paired.mapP r λp q z=>⟨z.1,ht _ _ z.2.1,z.2.2⟩,ob,es,ep,k _ _ (.inl rfl) e,c⟩
 |set S n=>obtain⟨ob,es,ep,t,e,c⟩:=x;exact⟨ob,es,ep,t,k _ _ (.inl rfl) e,c⟩
 |ins C dx fs =>
  obtain⟨d,z,ne,e,mA,⟨od,es,ep,e2,c⟩,r⟩:=x
  exact⟨ho _ d,z,ne,k _ _ (.inl rfl) e,mA,⟨od,es,ep,k _ _ (.inr d) e2,c⟩,r⟩
 |own y=>obtain⟨ob,e⟩:=x;exact⟨ob,k _ _ (.inl rfl) e⟩
 |xd fs=>obtain⟨mA,⟨od,es,ep,e,c⟩,r⟩:=x;exact⟨mA,⟨od,es,ep,k _ _ (.inl rfl) e,c⟩,r⟩
 |rng lo hi=>obtain⟨t,u,v,e⟩:=x;exact⟨t,u,v,k _ _ (.inl rfl) e⟩
 |frz ob u ih=>obtain⟨e,q⟩:=x;exact⟨k _ _ (.inl rfl) e,ih q⟩
 |tbl ps =>
  obtain⟨ts,e,t3,z⟩:=x
  refine⟨ts,k a _ (.inl rfl) e,t3,λpos cv hc=>?_⟩
  obtain⟨c,oc,vs,q,t,t',e1,e2,r⟩:=z pos cv hc
  exact⟨c,oc,vs,q,t,t',e1,hz _ _ _ e2,r⟩
 |met f y =>
  have e:h.get? a=some (PySem.W.methodObj (.ref f) (.ref y)):=x
  show h'.get? a=some (PySem.W.methodObj (.ref f) (.ref y))
  exact k a _ (.inl rfl) e
 |ext φ=>obtain⟨p,⟨o,e⟩,st⟩:=x;exact⟨st _ _ p λo q=>k _ _ (.inl rfl) q,⟨o,k _ _ (.inl rfl) e⟩,st⟩
theorem HOk.lt (x:HOk P w H h) (e:H a=some o):a<h.objs.size:=(x a o e).lt
theorem HOk.fresh (x:HOk P w H h) (e:h.objs.size<=a):H a=none:=by
 cases q:H a with
 |none=>rfl
 |some u=>exact absurd (YC (x.lt q) e) (YI _)
theorem HOk.kept (x:HOk P w H h) (k:∀b u,h.get? b=some u->h'.get? b=some u):HOk P w H h':=λa o e =>
 (x a o e).Zhb (λb u _ q=>k b u q) (λ_ q=>q) (λ_ _ q=>q) λ_ _ _ q=>q
theorem HOk.laid (x:HOk P w H h) (k:∀b u,h.get? b=some u->h'.get? b=some u) (hp:h.objs.size<=a) (new:Zaa P w (upd H a o) h' a o):HOk P w (upd H a o) h':=λb u e=>by
 have hn:=x.fresh hp
 by_cases hb:b=a
 ·subst hb;rw[Zc]at e;cases e;exact new
 ·rw[Zl hb]at e
  exact(x b u e).Zhb (λc v _ q=>k c v q) (λc q=>by rw[Zl (ZH q hn)];exact q) (λc xs q=>by rw[Zl (ZH q hn)];exact q) λc o u q=>by rw[Zl (ZH q hn)];exact q
end
def Rd (H:Hp) (a:Addr) (u:HO):Prop:=H a=some u\/∃o,H a=some (.frz o u)
theorem Rd.ok {P:Program}{w:World}{H:Hp}{h:Heap}{a:Addr}{u:HO} (r:Rd H a u) (x:HOk P w H h):Zaa P w H h a u:=by
 rcases r with r|⟨o,r⟩
 ·exact x a u r
 ·obtain⟨_,q⟩:=x a _ r
  exact q
noncomputable def Mut:Option HO->Prop
 |some (.lst _)=>True
 |some (.dK _)=>True
 |some (.dT _)=>True
 |some (.set _ _)=>True
 |some (.ins _ _ _)=>True
 |some (.ext _)=>True
 |_=>False
section
variable {P:Program}{w:World}{H:Hp}{h h':Heap}{x e:Addr}{o':HO}
theorem HOk.write (ok:HOk P w H h) (mu:Mut (H x)) (he:e=x\/H e=some (.own x)) (k:∀b u,b≠e->h.get? b=some u->h'.get? b=some u) (heo:∃u,h'.get? e=some u)
  (new:Zaa P w (upd H x o') h' x o'):HOk P w (upd H x o') h':=λb u q=>by
 have nown:∀c y,H c=some (.own y)->c≠x:=λc y r z=>by subst z;rw[r]at mu;exact mu
 have ntup:∀c xs,H c=some (.tup xs)->c≠x:=λc xs r z=>by subst z;rw[r]at mu;exact mu
 have nfrz:∀c o u,H c=some (.frz o u)->c≠x:=λc o u r z=>by subst z;rw[r]at mu;exact mu
 by_cases hb:b=x
 ·subst hb;rw[Zc]at q;cases q;exact new
 ·rw[Zl hb]at q
  by_cases hbe:b=e
  ·have q':H b=some (.own x):=by
    rcases he with z|z
    ·exact absurd (hbe.trans z) hb
    ·rw[hbe];exact z
   rw[q]at q';cases q'
   obtain⟨v,hv⟩:=heo
   exact⟨v,by rw[hbe];exact hv⟩
  ·refine(ok b u q).Zhb (λc v hc r=>k c v ?_ r) (λc r=>by rw[Zl (nown c b r)];exact r) (λc xs r=>by rw[Zl (ntup c xs r)];exact r) λc o u r=>by rw[Zl (nfrz c o u r)];exact r
   rcases hc with rfl|hc
   ·exact hbe
   ·rintro rfl
    rcases he with z|z
    ·exact nown c b hc z
    ·rw[hc]at z;cases z;exact hb rfl
end
structure Un (fs ex:List Addr) (H H':Hp) (h h':Heap):Prop where
 keep:∀b o,h.get? b=some o->H b=none->b∉fs->b∉ex->h'.get? b=some o
 slot:∀b o,h.get? b=some o->H b=none->b∈fs->b∉ex->∃sl,h'.get? b=some {o with slots:=sl}
 free:∀b o,h.get? b=some o->H b=none->b∉ex->H' b=none
 there:∀b o,h.get? b=some o->b∉ex->∃o',h'.get? b=some o'
 tups:∀b xs,H b=some (.tup xs)->H' b=some (.tup xs)
 frzs:∀b o u,H b=some (.frz o u)->H' b=some (.frz o u)
 tbls:∀b ps,H b=some (.tbl ps)->∃more,H' b=some (.tbl (ps++more))
section
variable {fs fs' ex ex':List Addr}{H H1 H2:Hp}{h h1 h2 h':Heap}{a x e:Addr}{o:HO}
theorem Un.any (u:Un fs ex H H1 h h1) {b:Addr}{ob:Obj} (q:h.get? b=some ob) (n:H b=none) (hx:b∉ex):∃sl,h1.get? b=some {ob with slots:=sl}:=by
 by_cases hb:b∈fs
 ·exact u.slot b ob q n hb hx
 ·exact⟨ob.slots,u.keep b ob q n hb hx⟩
theorem Un.kept (k:∀b u,h.get? b=some u->h'.get? b=some u):Un fs ex H H h h' :=
 ⟨λb ob q _ _ _=>k b ob q,λb ob q _ _ _=>⟨ob.slots,k b ob q⟩,λ_ _ _ n _=>n,λb ob q _=>⟨ob,k b ob q⟩,λ_ _ q=>q,λ_ _ _ q=>q,λ_ ps q=>⟨#[],by rw[q];simp⟩⟩
theorem Un.refl:Un fs ex H H h h:=Un.kept λ_ _ q=>q
theorem Un.laid (k:∀b u,h.get? b=some u->h'.get? b=some u) (hp:h.objs.size<=a) (hn:H a=none):Un fs ex H (upd H a o) h h' where
 keep:=λb u q _ _ _=>k b u q
 slot:=λb u q _ _ _=>⟨u.slots,k b u q⟩
 free:=λb u q n _=>by rw[Zl (Yn (YC (Yj q) hp))];exact n
 there:=λb u q _=>⟨u,k b u q⟩
 tups:=λb xs q=>by rw[Zl (ZH q hn)];exact q
 frzs:=λb u xs q=>by rw[Zl (ZH q hn)];exact q
 tbls:=λb ps q=>⟨#[],by rw[Zl (ZH q hn),q];simp⟩
theorem Un.write (mu:Mut (H x)) (he:e=x\/H e=some (.own x)) (k:∀b u,b≠e->h.get? b=some u->h'.get? b=some u) (heo:∃u,h'.get? e=some u):Un fs ex H (upd H x o) h h':=by
 have hx:∀b,H b=none->b≠x:=λb n z=>by subst z;rw[n]at mu;exact mu
 have hb:∀b,H b=none->b≠e:=λb n z=>by
  subst z
  rcases he with r|r
  ·exact hx b n r
  ·rw[n]at r;cases r
 have hm:∀b u,H b=some u->¬ Mut (some u)->b≠x:=λb u q nm z=>by subst z;rw[q]at mu;exact nm mu
 refine⟨λb u q n _ _=>k b u (hb b n) q,λb u q n _ _=>⟨u.slots,k b u (hb b n) q⟩,λb u q n _=>by rw[Zl (hx b n)];exact n,λb u q _=>?_,
  λb xs q=>by rw[Zl (hm b _ q λz=>z)];exact q,λb u xs q=>by rw[Zl (hm b _ q λz=>z)];exact q,λb ps q=>⟨#[],by rw[Zl (hm b _ q λz=>z),q];simp⟩⟩
 by_cases hbe:b=e
 ·subst hbe;exact heo
 ·exact⟨u,k b u hbe q⟩
end
noncomputable def trk (h:Heap) (H:Hp):List Addr:=(List.range h.objs.size).filter λa=>(H a).isSome
noncomputable def Zk1 (h:Heap) (H:Hp):Heap:=PySem.W.hideAll h (trk h H)
theorem ZqM (h:Heap) (H:Hp):(Zk1 h H).objs.size=h.objs.size:=PySem.W.hideAll_size _ _
theorem ZsE {h:Heap}{H:Hp}{b:Addr}{o:Obj} (e:h.get? b=some o) (n:H b=none):(Zk1 h H).get? b=some o :=
 PySem.W.hideAll_get _ e λhm=>by
  have q:(H b).isSome=true:=(YF.mp hm).2
  rw[n]at q;simp at q
theorem Zvv {h:Heap}{H:Hp}{b:Addr}{o:Obj} (e:(Zk1 h H).get? b=some o):h.get? b=some o/\H b=none:=by
 have e':h.get? b=some o:=PySem.W.of_hideAll (trk h H) e
 refine⟨e',?_⟩
 cases q:H b with
 |none=>rfl
 |some x =>
  have hm:b∈trk h H:=YF.mpr ⟨Yz.mpr (Yj e'),by simp[q]⟩
  have z:(Zk1 h H).get? b=none:=PySem.W.hideAll_none (trk h H) hm
  rw[z]at e;cases e
noncomputable def Zvw (g h:Heap) (L:Addr):List (Addr×Obj):=(List.range h.objs.size).filterMap λa=>if a=L\/(g.get? a).isSome=true then none else (h.get? a).map λo=>(a,o)
noncomputable def rest (g h:Heap) (L d:Addr):List (Addr×Obj):=(Zvw g h L).filter λp=>decide (p.1≠d)
structure Mod (K:PySem.W.Frag) (mg:Str->Option Value) (base:Heap):Prop where
 kin:K.In base
 glob:base.Ns mainGlobals mg
 blt:∃mb,base.Ns builtinsNs mb/\∀x:Str,x≠"__name__"->mb x=bootBuiltins x
 nolimit:base.NoLimit
structure Cx where
 prog:Program
 w:World
 K:PySem.W.Frag
 mg:Str->Option Value
 base:Heap
 A:Around
 N:List Str
 s₀:Shared
 H₀:Hp
 env:Env
 outer:List Env
 stack:List Env
 ex:List Addr
 fn:Str->Bool
 calm:Bool
 pn:List (Addr×Obj)
 xe:Value->Shared->Prop
noncomputable def frs (l:List Env):List Addr:=l.filterMap (·.frame)
noncomputable abbrev Cx.fs (X:Cx):List Addr:=frs X.outer
def Vis (sc:Scope) (x:Str):Prop:=sc.names.lookup x=some .local\/sc.names.lookup x=some .cell\/sc.names.lookup x=some .free
def Loc (sc:Scope) (x:Str):Prop:=sc.names.lookup x=some .local\/sc.names.lookup x=some .cell
noncomputable def Look (env:Env) (h:Heap) (m:Str->Option Value) (x:Str) (u:Value):Prop :=
 (env.kindOf x=some .local/\m x=some u)\/((env.kindOf x=some .cell\/env.kindOf x=some .free)/\∃c,env.cells.lookup x=some c/\h.IsCell c (some u))
structure Cx.Ok (X:Cx):Prop where
 mod:Mod X.K X.mg X.base
 kind:X.env.scope.kind=.function
 glob:X.env.globals=mainGlobals
 blt:X.env.builtins=builtinsNs
 above:X.s₀.heap.objs.size<=X.env.locals
 inj:∀x y c,X.env.cells.lookup x=some c->X.env.cells.lookup y=some c->x=y
 has:∀x,(X.env.kindOf x=some .cell\/X.env.kindOf x=some .free)->∃c,X.env.cells.lookup x=some c
 cab:∀x c,X.fn x=true->X.env.cells.lookup x=some c->X.s₀.heap.objs.size<=c
 hd:X.calm=true->X.A.handled=none
 frames:X.A.frames=some X.stack
 stk:X.stack=X.outer\/(X.stack=X.env::X.outer/\X.env.frame=some X.env.locals)
 exf:∀b∈X.ex,b≠X.env.locals/\∀x c,X.env.cells.lookup x=some c->c≠b
 bs:∀b o,X.base.get? b=some o->X.s₀.heap.get? b=some o/\X.H₀ b=none
 bsz:X.base.objs.size<=X.s₀.heap.objs.size
 noex:∀b o,X.base.get? b=some o->b∉X.ex
 exfs:∀b∈X.ex,b∉X.fs
 funs:X.s₀.heap.FunFrames X.base X.outer
 frf:∀b∈X.fs,X.H₀ b=none
structure Inv (X:Cx) (pins:List (Addr×Obj)) (σ:List (Option V)) (H:Hp) (s:Shared):Prop where
 ok:X.Ok
 os:s.os=X.s₀.os
 bare:AllBare s.gens
 base:Un X.fs X.ex X.H₀ H X.s₀.heap s.heap
 loc:∃m,s.heap.Ns X.env.locals m/\∀(i:Nat) (x:Str) (v:V),X.N[i]?=some x->σ[i]?=some (some v)->Vis X.env.scope x->∃u,RelV v u/\Look X.env s.heap m x u
 cell:∀x c,X.env.cells.lookup x=some c->∃v,s.heap.IsCell c v
 free:H X.env.locals=none
 freeC:∀x c,X.env.cells.lookup x=some c->H c=none
 pin:∀p∈X.pn++pins,s.heap.get? p.1=some p.2/\H p.1=none/\p.1≠X.env.locals/\p.1∉X.fs/\∀v,p.2.data≠.cell v
 hok:HOk X.prog X.w H s.heap
 len:σ.length=X.N.length
section
variable {X:Cx}{pins:List (Addr×Obj)}{σ:List (Option V)}{H H':Hp}{s:Shared}{h':Heap}
theorem Cx.Ok.nofr (ok:X.Ok) {b:Addr}{o:Obj} (e:X.base.get? b=some o):b∉X.fs:=λhb=>by
 have:=(ok.funs.mem hb).1
 rw[e]at this;cases this
theorem Inv.bs (I:Inv X pins σ H s):∀b o,X.base.get? b=some o->s.heap.get? b=some o/\H b=none:=λb o e =>
 ⟨I.base.keep b o (I.ok.bs b o e).1 (I.ok.bs b o e).2 (I.ok.nofr e) (I.ok.noex b o e),I.base.free b o (I.ok.bs b o e).1 (I.ok.bs b o e).2 (I.ok.noex b o e)⟩
theorem Inv.bk (I:Inv X pins σ H s):∀b o,X.base.get? b=some o->s.heap.get? b=some o:=λb o e=>(I.bs b o e).1
theorem Inv.mod (I:Inv X pins σ H s):Mod X.K X.mg X.base:=I.ok.mod
theorem Inv.kIn (I:Inv X pins σ H s):X.K.In s.heap:=I.ok.mod.kin.keeps I.bk
theorem Inv.nolimit (I:Inv X pins σ H s):s.heap.NoLimit:=I.ok.mod.nolimit.keeps I.bk
theorem Inv.lt (I:Inv X pins σ H s):X.env.locals<s.heap.objs.size:=let ⟨_,hn,_⟩:=I.loc;hn.lt
theorem Inv.sz (I:Inv X pins σ H s):X.s₀.heap.objs.size<=s.heap.objs.size:=Ym I.ok.above (YZ I.lt)
theorem Inv.Zl5 (I:Inv X pins σ H s) {a:Addr} (h:s.heap.objs.size<=a):a∉X.fs:=λhb=>by
 obtain⟨_,o,ho,_⟩:=I.ok.funs.mem hb
 exact absurd (YC (Yj ho) (Ym I.sz h)) (YI _)
theorem Inv.cne (I:Inv X pins σ H s):∀x c,X.env.cells.lookup x=some c->c≠X.env.locals:=λx c e z=>by
 obtain⟨v,o,ho,hd⟩:=I.cell x c e
 obtain⟨m,⟨o',es,ep,ho',hd',_⟩,_⟩:=I.loc
 rw[z,ho']at ho;cases ho;rw[hd']at hd;cases hd
theorem Inv.funs (I:Inv X pins σ H s):s.heap.FunFrames X.base X.outer:=by
 have all:∀(l:List Env),(∀b∈frs l,b∈X.fs)->X.s₀.heap.FunFrames X.base l->s.heap.FunFrames X.base l:=by
  intro l
  induction l with
  |nil=>intro _ _;trivial
  |cons env r ih =>
   intro hs hl
   obtain⟨hk,⟨L,o,hf,hn,ho,hd⟩,hr⟩:=hl
   have hL:L∈X.fs:=hs L (by unfold frs;rw[List.filterMap_cons,hf];exact Yr)
   obtain⟨sl,e⟩:=I.base.slot L o ho (I.ok.frf L hL) hL λz=>I.ok.exfs L z hL
   exact⟨hk,⟨L,_,hf,hn,e,hd⟩,ih (λb hb=>hs b (by unfold frs;rw[List.filterMap_cons,hf];exact Yw _ hb)) hr⟩
 exact all X.outer (λ_ hb=>hb) I.ok.funs
theorem Inv.stack (I:Inv X pins σ H s):s.heap.FunFrames X.base X.stack:=by
 rcases I.ok.stk with e|⟨e,hf⟩
 ·rw[e];exact I.funs
 ·rw[e]
  obtain⟨m,hn,_⟩:=I.loc
  refine .cons (by rw[I.ok.kind];decide) hf hn ?_ I.funs
  exact Heap.get?_none_of_le (Ym I.ok.bsz I.ok.above)
theorem Inv.Zfm (I:Inv X pins σ H s):∀b∈frs X.stack,b∈X.env.locals::X.fs:=λb hb=>by
 rcases I.ok.stk with e|⟨e,hf⟩
 ·rw[e]at hb;exact Yw _ hb
 ·rw[e]at hb
  unfold frs at hb
  rw[List.filterMap_cons,hf]at hb
  exact hb
theorem Inv.Zhc (I:Inv X pins σ H s):∀b∈frs X.stack,H b=none:=λb hb=>by
 rcases Yi.mp (I.Zfm b hb)with e|hb
 ·rw[e];exact I.free
 ·obtain⟨_,o,ho,_⟩:=I.ok.funs.mem hb
  exact I.base.free b o ho (I.ok.frf b hb) λz=>I.ok.exfs b z hb
theorem Inv.step {g':Array GenState}{t':Nat}{d':Drawn}{ch:List Addr} (I:Inv X pins σ H s)
  (hch:∀b∈ch,(b∈X.ex\/X.s₀.heap.objs.size<=b)/\b≠X.env.locals/\(∀x c,X.env.cells.lookup x=some c->c≠b)/\∀p∈X.pn++pins,p.1≠b)
  (keep:∀b o,b≠X.env.locals->b∉X.fs->b∉ch->s.heap.get? b=some o->H b=none->h'.get? b=some o)
  (slot:∀b o,b≠X.env.locals->b∈X.fs->b∉ch->s.heap.get? b=some o->H b=none->∃sl,h'.get? b=some {o with slots:=sl}) (free:∀b o,b∉ch->s.heap.get? b=some o->H b=none->H' b=none)
  (there:∀b o,b∉ch->s.heap.get? b=some o->∃o',h'.get? b=some o')
  (tups:∀b xs,H b=some (.tup xs)->H' b=some (.tup xs)) (frzs:∀b o u,H b=some (.frz o u)->H' b=some (.frz o u)) (tbls:∀b ps,H b=some (.tbl ps)->∃more,H' b=some (.tbl (ps++more)))
  (ns:∀m,s.heap.Ns X.env.locals m->h'.Ns X.env.locals m) (hok:HOk X.prog X.w H' h') (hg:AllBare g') :
  Inv X pins σ H' {s with heap:=h',gens:=g',drawn:=d',toks:=t'}:=by
 have neL:∀b o,X.s₀.heap.get? b=some o->b≠X.env.locals:=λb o e=>Yn (YC (Yj e) I.ok.above)
 have neC:∀b o,X.s₀.heap.get? b=some o->b∉X.ex->b∉ch:=λb o e hx hb=>by
  rcases(hch b hb).1 with z|z
  ·exact hx z
  ·exact absurd (YC (Yj e) z) (YI _)
 have cellK:∀x c,X.env.cells.lookup x=some c->∀v,s.heap.IsCell c v->h'.IsCell c v:=λx c e v ⟨o,ho,hd⟩=>by
  have nch:c∉ch:=λz=>(hch c z).2.2.1 x c e rfl
  by_cases hc:c∈X.fs
  ·obtain⟨sl,q⟩:=slot c o (I.cne x c e) hc nch ho (I.freeC x c e)
   exact⟨_,q,hd⟩
  ·exact⟨o,keep c o (I.cne x c e) hc nch ho (I.freeC x c e),hd⟩
 refine⟨I.ok,I.os,hg,⟨λb o e n hb hx=>?_,λb o e n hb hx=>?_,λb o e n hx=>?_,λb o e hx=>?_,λb xs e=>tups b xs (I.base.tups b xs e),λb o xs e=>frzs b o xs (I.base.frzs b o xs e),λb ps e=>?_⟩,?_,λx c e=>?_,?_,λx c e=>?_,λp hp=>?_,hok,I.len⟩
 ·exact keep b o (neL b o e) hb (neC b o e hx) (I.base.keep b o e n hb hx) (I.base.free b o e n hx)
 ·obtain⟨sl,e1⟩:=I.base.slot b o e n hb hx
  obtain⟨sl',e2⟩:=slot b _ (neL b o e) hb (neC b o e hx) e1 (I.base.free b o e n hx)
  exact⟨sl',e2⟩
 ·obtain⟨o',e1⟩:=I.base.there b o e hx
  exact free b o' (neC b o e hx) e1 (I.base.free b o e n hx)
 ·obtain⟨o',e1⟩:=I.base.there b o e hx
  exact there b o' (neC b o e hx) e1
 ·obtain⟨m1,e1⟩:=I.base.tbls b ps e
  obtain⟨m2,e2⟩:=tbls b _ e1
  exact⟨m1++m2,by rw[e2,Array.append_assoc]⟩
 ·obtain⟨m,hn,hl⟩:=I.loc
  refine⟨m,ns m hn,λi x v e1 e2 e3=>?_⟩
  obtain⟨u,r,l⟩:=hl i x v e1 e2 e3
  refine⟨u,r,?_⟩
  rcases l with l|⟨k,c,e,z⟩
  ·exact .inl l
  ·exact .inr ⟨k,c,e,cellK x c e _ z⟩
 ·obtain⟨v,z⟩:=I.cell x c e
  exact⟨v,cellK x c e v z⟩
 ·obtain⟨m,⟨o,_,_,ho,_⟩,_⟩:=I.loc
  exact free _ o (λz=>(hch _ z).2.1 rfl) ho I.free
 ·obtain⟨v,o,ho,hd⟩:=I.cell x c e
  exact free c o (λz=>(hch c z).2.2.1 x c e rfl) ho (I.freeC x c e)
 ·obtain⟨e,n,ne,nf,d⟩:=I.pin p hp
  have nch:p.1∉ch:=λz=>(hch p.1 z).2.2.2 p hp rfl
  exact⟨keep p.1 p.2 ne nf nch e n,free p.1 p.2 nch e n,ne,nf,d⟩
theorem Inv.un {t':Nat} (I:Inv X pins σ H s) (u:Un X.fs [] H H' s.heap h') (hok:HOk X.prog X.w H' h'):Inv X pins σ H' {s with heap:=h',toks:=t'}:=by
 obtain⟨m,⟨o,es,ep,ho,r⟩,_⟩:=id I.loc
 obtain⟨sl,hL⟩:=u.any ho I.free (by simp)
 exact I.step (g':=s.gens) (d':=s.drawn) (ch:=[]) (λ_ z=>nomatch z) (λb o _ hb _ e n=>u.keep b o e n hb (by simp)) (λb o _ hb _ e n=>u.slot b o e n hb (by simp)) (λb o _ e n=>u.free b o e n (by simp)) (λb o _ e=>u.there b o e (by simp)) u.tups u.frzs u.tbls (λm' hm=>by
  obtain⟨o',es',ep',ho',r'⟩:=hm
  rw[ho]at ho';cases ho'
  exact⟨_,es',ep',hL,r'⟩) hok I.bare
theorem Inv.call {g':Array GenState}{t':Nat}{d':Drawn}{ch:List Addr} (I:Inv X pins σ H s) (u:Un (frs X.stack) ch H H' s.heap h') (hok:HOk X.prog X.w H' h') (hg:AllBare g')
  (hch:∀b∈ch,(b∈X.ex\/X.s₀.heap.objs.size<=b)/\b≠X.env.locals/\(∀x c,X.env.cells.lookup x=some c->c≠b)/\∀p∈X.pn++pins,p.1≠b) :
  Inv X pins σ H' {s with heap:=h',gens:=g',drawn:=d',toks:=t'}:=by
 obtain⟨m,⟨o,es,ep,ho,r⟩,_⟩:=id I.loc
 obtain⟨sl,hL⟩:=u.any ho I.free λz=>(hch _ z).2.1 rfl
 exact I.step (ch:=ch) hch (λb o hL hb hc e n=>u.keep b o e n (λz=>(Yi.mp (I.Zfm b z)).elim hL hb) hc) (λb o _ _ hc e n=>u.any e n hc) (λb o hc e n=>u.free b o e n hc) (λb o hc e=>u.there b o e hc) u.tups u.frzs u.tbls (λm' hm=>by
  obtain⟨o',es',ep',ho',r'⟩:=hm
  rw[ho]at ho';cases ho'
  exact⟨_,es',ep',hL,r'⟩) hok hg
theorem Inv.turned {t':Nat}{it:Addr} (I:Inv X pins σ H s) (k:∀b o,b≠it->s.heap.get? b=some o->h'.get? b=some o) (hn:H it=none) (hL:it≠X.env.locals)
  (h1:it∈X.ex\/X.s₀.heap.objs.size<=it) (h2:∀x c,X.env.cells.lookup x=some c->c≠it) (h3:∀p∈X.pn++pins,p.1≠it):Inv X pins σ H {s with heap:=h',toks:=t'}:=by
 have nit:∀b u,H b=some u->b≠it:=λb u e z=>by rw[z,hn]at e;cases e
 refine I.step (g':=s.gens) (d':=s.drawn) (ch:=[it]) (λb hb=>?_) (λb o _ _ hc e _=>k b o (λz=>hc (by simp[z])) e) (λb o _ _ hc e _=>⟨o.slots,k b o (λz=>hc (by simp[z])) e⟩) (λ_ _ _ _ n=>n)
  (λb o hc e=>⟨o,k b o (λz=>hc (by simp[z])) e⟩) (λ_ _ e=>e) (λ_ _ _ e=>e) (λb ps e=>⟨#[],by rw[e];simp⟩) (λm hm=>?_) (λb u e=>?_) I.bare
 ·have e:b=it:=by simpa using hb
  subst e
  exact⟨h1,hL,h2,h3⟩
 ·obtain⟨o,es,ep,ho,r⟩:=hm
  exact⟨o,es,ep,k _ o (Ne.symm hL) ho,r⟩
 ·refine(I.hok b u e).Zhb (λc v hc q=>k c v ?_ q) (λ_ q=>q) (λ_ _ q=>q) λ_ _ _ q=>q
  rcases hc with z|z
  ·rw[z];exact nit b u e
  ·exact nit c _ z
theorem Inv.tok (I:Inv X pins σ H s) (t:Nat):Inv X pins σ H {s with toks:=t}:=I.un (h':=s.heap) (t':=t) Un.refl I.hok
theorem Inv.kept {t':Nat} (I:Inv X pins σ H s) (k:∀b u,s.heap.get? b=some u->h'.get? b=some u):Inv X pins σ H {s with heap:=h',toks:=t'}:=I.un (Un.kept k) (I.hok.kept k)
theorem Inv.laid {a:Addr}{o:HO}{t':Nat} (I:Inv X pins σ H s) (k:∀b u,s.heap.get? b=some u->h'.get? b=some u) (hp:s.heap.objs.size<=a) (new:Zaa X.prog X.w (upd H a o) h' a o) :
  Inv X pins σ (upd H a o) {s with heap:=h',toks:=t'}:=I.un (Un.laid k hp (I.hok.fresh hp)) (I.hok.laid k hp new)
theorem Inv.write {x e:Addr}{o:HO}{t':Nat} (I:Inv X pins σ H s) (mu:Mut (H x)) (he:e=x\/H e=some (.own x)) (k:∀b u,b≠e->s.heap.get? b=some u->h'.get? b=some u) (heo:∃u,h'.get? e=some u)
  (new:Zaa X.prog X.w (upd H x o) h' x o):Inv X pins σ (upd H x o) {s with heap:=h',toks:=t'}:=I.un (Un.write mu he k heo) (I.hok.write mu he k heo new)
theorem Inv.weak {σ':List (Option V)} (I:Inv X pins σ H s) (hl:σ'.length=σ.length) (w:∀(i:Nat) v,σ'[i]?=some (some v)->σ[i]?=some (some v)):Inv X pins σ' H s :=
 ⟨I.ok,I.os,I.bare,I.base,let ⟨m,hn,hl'⟩:=I.loc;⟨m,hn,λi x v e1 e2 e3=>hl' i x v e1 (w i v e2) e3⟩,I.cell,I.free,I.freeC,I.pin,I.hok,hl.trans I.len⟩
theorem Inv.ZO {pins':List (Addr×Obj)} (I:Inv X pins σ H s) (h:∀p∈pins',s.heap.get? p.1=some p.2/\H p.1=none/\p.1≠X.env.locals/\p.1∉X.fs/\∀v,p.2.data≠.cell v):Inv X pins' σ H s :=
 ⟨I.ok,I.os,I.bare,I.base,I.loc,I.cell,I.free,I.freeC,λp hp=>(Yq.mp hp).elim (λz=>I.pin p (Yx _ z)) (h p),I.hok,I.len⟩
theorem Znk {N:List Str} (hN:N.Nodup) {i j:Nat}{x:Str} (a:N[i]?=some x) (b:N[j]?=some x):i=j:=by
 obtain⟨h1,e1⟩:=YA.mp a
 obtain⟨h2,e2⟩:=YA.mp b
 exact(List.getElem_inj hN).mp (e1.trans e2.symm)
theorem ZqN {M:Model}{A:Around}{E:Value->Shared->Prop}{i:Nat}{x:Str}{v:V}{u:Value}{Q:Unit->Shared->Prop} (I:Inv X pins σ H s) (hN:X.N.Nodup) (hi:X.N[i]?=some x) (hx:Loc X.env.scope x) (r:RelV v u)
  (h:∀s',Inv X pins (σ.set i (some v)) H s'->(∃a,Heap.SameBut a s.heap s'.heap/\(a=X.env.locals\/X.env.cells.lookup x=some a))->Q () s') (hf:X.fn x=true\/X.env.scope.names.lookup x=some .local:=by first|exact .inl rfl|exact .inr rfl|assumption):wpAny M A (storeName X.env x u) Q E s:=by
 obtain⟨m,hn,hl⟩:=id I.loc
 have hcls:(X.env.scope.kind==.class||(X.env.scope.kind==.module&&X.env.locals != X.env.globals))=false:=by rw[I.ok.kind];rfl
 have hiσ:i < σ.length:=by rw[I.len];exact(YA.mp hi).1
 have cne:=I.cne
 have tracked:∀{a:Addr}{h':Heap},(∃o,s.heap.get? a=some o/\H a=none)->Heap.SameBut a s.heap h'->HOk X.prog X.w H h':=λ{a h'} ha hs b ob e=>by
  obtain⟨_,_,hfree⟩:=ha
  refine(I.hok b ob e).Zhb (λc w' hc q=>(hs.2 c ?_).trans q) (λ_ q=>q) (λ_ _ q=>q) λ_ _ _ q=>q
  rintro rfl
  rcases hc with rfl|hc
  ·rw[hfree]at e;cases e
  ·rw[hfree]at hc;cases hc
 rcases hx with hk|hk
 ·refine wpAny_storeName_local hk hn (λh' hn' hs=>?_) hcls
  obtain⟨oL,_,_,hoL,_⟩:=id hn
  refine h _ ⟨I.ok,I.os,I.bare,⟨λb o e n hb hx=>?_,λb o e n hb hx=>?_,I.base.free,λb o e hx=>?_,I.base.tups,I.base.frzs,I.base.tbls⟩,⟨_,hn',λj y v' e1 e2 e3=>?_⟩,λy c e=>?_,I.free,I.freeC,λp hp=>?_,tracked ⟨oL,hoL,I.free⟩ hs,by simpa using I.len⟩ ⟨_,hs,.inl rfl⟩
  ·exact(hs.2 b (Yn (YC (Yj e) I.ok.above))).trans (I.base.keep b o e n hb hx)
  ·obtain⟨sl,e1⟩:=I.base.slot b o e n hb hx
   exact⟨sl,(hs.2 b (Yn (YC (Yj e) I.ok.above))).trans e1⟩
  ·obtain⟨o',e1⟩:=I.base.there b o e hx
   exact⟨o',(hs.2 b (Yn (YC (Yj e) I.ok.above))).trans e1⟩
  ·by_cases hj:j=i
   ·subst hj
    rw[hi]at e1;cases e1
    rw[List.getElem?_set_self hiσ]at e2
    cases e2
    exact⟨u,r,.inl ⟨hk,by simp⟩⟩
   ·rw[List.getElem?_set_ne (Ne.symm hj)]at e2
    obtain⟨u',r',q⟩:=hl j y v' e1 e2 e3
    refine⟨u',r',?_⟩
    rcases q with⟨k,e⟩|⟨k,c,e,z⟩
    ·refine .inl ⟨k,?_⟩
     have:y≠x:=λe=>hj (Znk hN e1 (e▸hi))
     simp[this,e]
    ·exact .inr ⟨k,c,e,z.sameBut hs (cne y c e)⟩
  ·obtain⟨w',z⟩:=I.cell y c e
   exact⟨w',z.sameBut hs (cne y c e)⟩
  ·obtain⟨e,n,ne,nf,d⟩:=I.pin p hp
   exact⟨(hs.2 p.1 ne).trans e,n,ne,nf,d⟩
 ·have hfn:X.fn x=true:=by
   rcases hf with z|z
   ·exact z
   ·rw[z]at hk;cases hk
  obtain⟨c,hc⟩:=I.ok.has x (.inl hk)
  obtain⟨w',z⟩:=I.cell x c hc
  refine wpAny_storeName_cell I.ok.kind hk hc z (λh' hc' hs=>?_)
  obtain⟨oc,hoc,hocd⟩:=id z
  refine h {s with heap:=h'} ⟨I.ok,I.os,I.bare,⟨λb o e n hb hx=>?_,λb o e n hb hx=>?_,I.base.free,λb o e hx=>?_,I.base.tups,I.base.frzs,I.base.tbls⟩,⟨m,hn.sameBut hs (Ne.symm (cne x c hc)),λj y v' e1 e2 e3=>?_⟩,λy c' e=>?_,I.free,I.freeC,λp hp=>?_,tracked ⟨oc,hoc,I.freeC x c hc⟩ hs,by simpa using I.len⟩ ⟨c,hs,.inr hc⟩
  ·exact(hs.2 b (Yn (YC (Yj e) (I.ok.cab x c hfn hc)))).trans (I.base.keep b o e n hb hx)
  ·obtain⟨sl,e1⟩:=I.base.slot b o e n hb hx
   exact⟨sl,(hs.2 b (Yn (YC (Yj e) (I.ok.cab x c hfn hc)))).trans e1⟩
  ·obtain⟨o',e1⟩:=I.base.there b o e hx
   exact⟨o',(hs.2 b (Yn (YC (Yj e) (I.ok.cab x c hfn hc)))).trans e1⟩
  ·by_cases hj:j=i
   ·subst hj
    rw[hi]at e1;cases e1
    rw[List.getElem?_set_self hiσ]at e2
    cases e2
    exact⟨u,r,.inr ⟨.inl hk,c,hc,hc'⟩⟩
   ·rw[List.getElem?_set_ne (Ne.symm hj)]at e2
    obtain⟨u',r',q⟩:=hl j y v' e1 e2 e3
    refine⟨u',r',?_⟩
    rcases q with q|⟨k,c',e,z'⟩
    ·exact .inl q
    ·refine .inr ⟨k,c',e,z'.sameBut hs ?_⟩
     rintro rfl
     exact hj (Znk hN e1 (I.ok.inj _ _ _ e hc▸hi))
  ·by_cases hcc:c'=c
   ·subst hcc;exact⟨_,hc'⟩
   ·obtain⟨w2,z2⟩:=I.cell y c' e
    exact⟨w2,z2.sameBut hs hcc⟩
  ·obtain⟨e,n,ne,nf,d⟩:=I.pin p hp
   refine⟨(hs.2 p.1 ?_).trans e,n,ne,nf,d⟩
   intro q
   rw[q,hoc]at e
   have q':oc=p.2:=YE e
   exact d w' (by rw[<-q'];exact hocd)
theorem Zfn {M:Model}{A:Around}{E:Value->Shared->Prop}{i:Nat}{x:Str}{v:V}{u:Value}{Q:Unit->Shared->Prop} (I:Inv X pins σ H s) (hN:X.N.Nodup) (hi:X.N[i]?=some x) (hx:Loc X.env.scope x) (r:RelV v u)
  (h:∀s',Inv X pins (σ.set i (some v)) H s'->Q () s') (hf:X.fn x=true\/X.env.scope.names.lookup x=some .local:=by first|exact .inl rfl|exact .inr rfl|assumption):wpAny M A (storeName X.env x u) Q E s :=
 ZqN I hN hi hx r (λs' I' _=>h s' I') hf
theorem Inv.ZsF {s':Shared}{ch:List Addr} (I:Inv X pins σ H s) (ho:s'.os=s.os) (u:Un (frs X.stack) ch H H' s.heap s'.heap) (hok:HOk X.prog X.w H' s'.heap) (hg:AllBare s'.gens)
  (hch:∀b∈ch,(b∈X.ex\/X.s₀.heap.objs.size<=b)/\b≠X.env.locals/\(∀x c,X.env.cells.lookup x=some c->c≠b)/\∀p∈X.pn++pins,p.1≠b):Inv X pins σ H' s':=by
 obtain⟨h',g',d',t',o'⟩:=s'
 have e:o'=s.os:=ho
 subst e
 exact I.call (g':=g') (t':=t') (d':=d') u hok hg hch
end
noncomputable abbrev XK:=Value->Option Addr->Hp->Prop
noncomputable abbrev St:=List (Option V)
noncomputable abbrev VK:=V->Hp->Prop
noncomputable abbrev TE:=St->Hp->VK->Prop
noncomputable abbrev TT:=St->Hp->(Bool->Hp->Prop)->Prop
noncomputable abbrev TA:=St->Hp->(List V->Hp->Prop)->Prop
structure Ends where
 nx:St->Hp->Prop
 rt:VK
 bk:St->Hp->Prop:=λ_ _=>False
 ct:St->Hp->Prop:=λ_ _=>False
noncomputable abbrev TS:=Ends->St->Hp->Prop
def EP (X:Cx) (pins:List (Addr×Obj)) (σ:St) (Q:VK) (u:Value) (s':Shared):Prop:=∃v H',Inv X pins σ H' s'/\RelV v u/\Q v H'
def TP (X:Cx) (pins:List (Addr×Obj)) (σ:St) (Q:Bool->Hp->Prop) (b:Bool) (s':Shared):Prop:=∃H',Inv X pins σ H' s'/\Q b H'
noncomputable def AP (X:Cx) (pins:List (Addr×Obj)) (σ:St) (Q:List V->Hp->Prop) (us:List Value) (s':Shared):Prop:=∃vs H',Inv X pins σ H' s'/\Vals vs us/\Q vs H'
noncomputable def SP (X:Cx) (pins:List (Addr×Obj)) (D:Ends) (f:Flow) (s':Shared):Prop :=
 match f with
 |.next=>∃σ' H',Inv X pins σ' H' s'/\D.nx σ' H'
 |.brk=>∃σ' H',Inv X pins σ' H' s'/\D.bk σ' H'
 |.cont=>∃σ' H',Inv X pins σ' H' s'/\D.ct σ' H'
 |.ret u=>∃v σ' H',Inv X pins σ' H' s'/\RelV v u/\D.rt v H'
noncomputable def PE (X:Cx) (e:Expr) (t:TE):Prop :=
 ∀(pins:List (Addr×Obj)) (s:Shared) (σ:St) (H:Hp) (Q:VK),Inv X pins σ H s->t σ H Q->wpAny (model X.prog X.w) X.A (eval e X.env) (EP X pins σ Q) X.xe s
noncomputable def PT (X:Cx) (e:Expr) (t:TT):Prop :=
 ∀(pins:List (Addr×Obj)) (s:Shared) (σ:St) (H:Hp) (Q:Bool->Hp->Prop),Inv X pins σ H s->t σ H Q->wpAny (model X.prog X.w) X.A (isTrue e X.env (eval e X.env)) (TP X pins σ Q) X.xe s
noncomputable def PW (X:Cx) (e:Expr) (t:TT):Prop :=
 ∀(whole:Sem Value) (pins:List (Addr×Obj)) (s:Shared) (σ:St) (H:Hp) (Q:Bool->Hp->Prop),Inv X pins σ H s->t σ H Q->wpAny (model X.prog X.w) X.A (isTrue e X.env whole) (TP X pins σ Q) X.xe s
theorem PW.pt {X:Cx}{e:Expr}{t:TT} (h:PW X e t):PT X e t:=h _
noncomputable def PA (X:Cx) (es:List Expr) (t:TA):Prop :=
 ∀(pos:Pos) (pins:List (Addr×Obj)) (s:Shared) (σ:St) (H:Hp) (Q:List V->Hp->Prop),Inv X pins σ H s->t σ H Q->wpAny (model X.prog X.w) X.A (spliced (backTo pos (starEach es X.env))) (AP X pins σ Q) X.xe s
noncomputable def PS (X:Cx) (st:Stmt) (t:TS):Prop :=
 ∀(pins:List (Addr×Obj)) (s:Shared) (σ:St) (H:Hp) (D:Ends),Inv X pins σ H s->t D σ H->wpAny (model X.prog X.w) X.A (exec st X.env) (SP X pins D) X.xe s
noncomputable def PSs (X:Cx) (st:List Stmt) (t:TS):Prop :=
 ∀(pins:List (Addr×Obj)) (s:Shared) (σ:St) (H:Hp) (D:Ends),Inv X pins σ H s->t D σ H->wpAny (model X.prog X.w) X.A (execs st X.env) (SP X pins D) X.xe s
theorem thn {α:Type}{t:Sem α}{Q Q':α->Shared->Prop}{M:Model}{A:Around}{E:Value->Shared->Prop}{s:Shared} (h:wpAny M A t Q E s) (hQ:∀a s,Q a s->Q' a s):wpAny M A t Q' E s:=YB h hQ λ_ _ x=>x
section
variable {X:Cx}
noncomputable def Zl6 (i:Nat):TE:=fun σ H Q=>∃v,σ[i]?=some (some v)/\Q v H
noncomputable def tC (v:V):TE:=λ_ H Q=>Q v H
theorem pe_var {i:Nat}{x:Str}{pos:Pos} (hN:X.N[i]?=some x) (hv:Vis X.env.scope x) (hd:(x==("__debug__":Str))=false:=by decide) (hcd:(x==("__classdict__":Str))=false:=by decide):PE X (.Name x pos) (Zl6 i):=by
 intro pins s σ H Q I h
 obtain⟨v,e,h⟩:=h
 obtain⟨m,hn,hl⟩:=I.loc
 obtain⟨u,r,l⟩:=hl i x v hN e hv
 have fin:EP X pins σ Q u s:=⟨v,H,I,r,h⟩
 rcases l with⟨hk,hm⟩|⟨hk,c,hc,hcell⟩
 ·exact wpAny_Name (wpAny_loadName_local I.ok.kind hk hn hm fin) hd
 ·rcases hk with hk|hk
  ·exact wpAny_Name (wpAny_loadName_cell I.ok.kind hk hc hcell fin) hd
  ·exact wpAny_Name (wpAny_loadName_free I.ok.kind hk hc hcell fin hcd) hd
theorem Zh {i j pos}:PE X (.Constant (.int i) j pos) (tC (.int i)):=λ_ _ _ H _ I h=>wpAny_Constant_int ⟨.int i,H,I.tok _,⟨_,rfl⟩,h⟩
theorem Zbv {b j pos}:PE X (.Constant (.bool b) j pos) (tC (.bl b)):=λ_ _ _ H _ I h=>Constant_bool ⟨.bl b,H,I,rfl,h⟩
theorem ZdM {j pos}:PE X (.Constant .none j pos) (tC .non):=λ_ _ _ H _ I h=>Constant_none ⟨.non,H,I,rfl,h⟩
theorem ZhY {x j pos}:PE X (.Constant (.str x) j pos) (tC (.str x)):=λ_ _ _ H _ I h=>Calls.Constant_str ⟨.str x,H,I.tok _,⟨_,rfl⟩,h⟩
noncomputable def Gl (X:Cx) (x:Str):Prop:=X.env.kindOf x=some .globalImplicit
theorem Zl7 {E:Value->Shared->Prop}{pins:List (Addr×Obj)}{s:Shared}{σ:St}{H:Hp}{x:Str}{u:Value}{pos:Pos}{Q:Value->Shared->Prop} (I:Inv X pins σ H s) (hg:Gl X x) (hm:X.mg x=some u) (h:Q u s)
  (hd:(x==("__debug__":Str))=false:=by decide):wpAny (model X.prog X.w) X.A (eval (.Name x pos) X.env) Q E s :=
 Calls.Name_function_global I.ok.kind hg (Calls.loadGlobal_global (by rw[I.ok.glob];exact I.mod.glob.keeps I.bk) hm h) hd
theorem Zbm {E:Value->Shared->Prop}{pins:List (Addr×Obj)}{s:Shared}{σ:St}{H:Hp}{x:Str}{u:Value}{pos:Pos}{Q:Value->Shared->Prop} (I:Inv X pins σ H s) (hg:Gl X x) (hm:X.mg x=none) (hv:bootBuiltins x=some u) (h:Q u s)
  (hn:x≠"__name__":=by decide) (hd:(x==("__debug__":Str))=false:=by decide):wpAny (model X.prog X.w) X.A (eval (.Name x pos) X.env) Q E s:=by
 obtain⟨mb,h1,h2⟩:=I.mod.blt
 exact Calls.Name_function_global I.ok.kind hg (Calls.loadGlobal_builtin (by rw[I.ok.glob];exact I.mod.glob.keeps I.bk) hm (by rw[I.ok.blt];exact h1.keeps I.bk) ((h2 x hn).trans hv) h) hd
theorem Zvx {x:Str}{v:V}{u:Value}{pos:Pos} (hg:Gl X x) (hm:X.mg x=some u) (r:RelV v u) (hd:(x==("__debug__":Str))=false:=by decide):PE X (.Name x pos) (tC v) :=
 λ_ _ _ H _ I h=>Zl7 I hg hm ⟨v,H,I,r,h⟩ hd
theorem Zhd {x:Str}{v:V}{u:Value}{pos:Pos} (hg:Gl X x) (hm:X.mg x=none) (hv:bootBuiltins x=some u) (r:RelV v u) (hn:x≠"__name__":=by decide) (hd:(x==("__debug__":Str))=false:=by decide):PE X (.Name x pos) (tC v) :=
 λ_ _ _ H _ I h=>Zbm I hg hm hv ⟨v,H,I,r,h⟩ hn hd
variable {a b:Expr}{ta tb:TE}{pos:Pos}
noncomputable def PC (X:Cx) (op:CmpOp) (a b:Expr) (t:TE):Prop :=
 ∀(pins:List (Addr×Obj)) (s:Shared) (σ:St) (H:Hp) (Q:VK),Inv X pins σ H s->t σ H Q ->
  wpAny (model X.prog X.w) X.A (eval a X.env) (λv s₁=>wpAny (model X.prog X.w) X.A (eval b X.env) (λu s₂=>wpAny (model X.prog X.w) X.A (compareOp op v u) (EP X pins σ Q) X.xe s₂) X.xe s₁) X.xe s
theorem ZsG (b:Expr) {op:CmpOp} (h:op≠.In) (h2:op≠.NotIn):behindInMarks op b=false:=by
 have e1:(op==CmpOp.In)=false:=by cases op<;>first|rfl|exact absurd rfl h
 have e2:(op==CmpOp.NotIn)=false:=by cases op<;>first|rfl|exact absurd rfl h2
 cases b<;>simp[behindInMarks,e1,e2]
noncomputable def tB (t:TE):TT:=fun σ H Q=>t σ H λx H1=>∃c,x=.bl c/\Q c H1
theorem pt_cmp {op:CmpOp}{t:TE} (h:PC X op a b t) (h1:behindInMarks op b=false:=by first|exact ZsG _ (by decide) (by decide)|rfl):PT X (.Compare a [op] [b] pos) (tB t):=by
 intro pins s σ H Q I hw
 refine wpAny_isTrue_Compare1 (thn (h pins s σ H _ I hw) λv s1 h1=>thn h1 λu s2 h2=>thn h2 λc s3 ⟨x,H1,I1,r1,q1⟩=>?_) h1
 obtain⟨d,rfl,q⟩:=q1
 cases r1
 exact wpAny_truthy_bool ⟨H1,I1,q⟩
theorem Zbn {e:Expr}{t:TE} (h:PE X e t) (he:∀whole,isTrue e X.env whole=(do let v <-whole;standAt e.pos;holding [v] (truthy v)):=by intro _;rfl):PT X e (tB t):=by
 intro pins s σ H Q I hw
 refine isTrue_plain (thn (h pins s σ H _ I hw) λv s1 ⟨x,H1,I1,r1,q1⟩=>?_) (he _)
 obtain⟨d,rfl,q⟩:=q1
 cases r1
 exact wpAny_truthy_bool ⟨H1,I1,q⟩
variable {tA tB':TT}{rest:List Expr}
noncomputable def tAnd (t u:TT):TT:=fun σ H Q=>t σ H λc H1=>if c=true then u σ H1 Q else Q false H1
noncomputable def tOr (t u:TT):TT:=fun σ H Q=>t σ H λc H1=>if c=true then Q true H1 else u σ H1 Q
noncomputable def tNot (t:TT):TT:=fun σ H Q=>t σ H λc H1=>Q (!c) H1
theorem Zji (ha:PT X a tA):PW X (.BoolOp .And [a] pos) tA:=by
 intro wh pins s σ H Q I h
 refine isTrue_and (thn (ha pins s σ H Q I h) λc s1 e=>?_)
 cases c with
 |true=>exact isTrue_and_nil e
 |false=>exact e
theorem ZbY (ha:PT X a tA):PW X (.BoolOp .Or [a] pos) tA:=by
 intro wh pins s σ H Q I h
 refine isTrue_or (thn (ha pins s σ H Q I h) λc s1 e=>?_)
 cases c with
 |false=>exact isTrue_or_nil e
 |true=>exact e
theorem Zl8 (ha:PT X a tA) (hb:PW X (.BoolOp .And (b::rest) pos) tB'):PW X (.BoolOp .And (a::b::rest) pos) (tAnd tA tB'):=by
 intro wh pins s σ H Q I h
 refine isTrue_and (thn (ha pins s σ H _ I h) λc s1 ⟨H1,I1,q1⟩=>?_)
 cases c with
 |true=>exact hb wh pins s1 σ H1 Q I1 q1
 |false=>exact⟨H1,I1,q1⟩
theorem ZcI (ha:PT X a tA) (hb:PW X (.BoolOp .Or (b::rest) pos) tB'):PW X (.BoolOp .Or (a::b::rest) pos) (tOr tA tB'):=by
 intro wh pins s σ H Q I h
 refine isTrue_or (thn (ha pins s σ H _ I h) λc s1 ⟨H1,I1,q1⟩=>?_)
 cases c with
 |true=>exact⟨H1,I1,q1⟩
 |false=>exact hb wh pins s1 σ H1 Q I1 q1
theorem Zcw (ha:PT X a tA):PT X (.UnaryOp .Not a pos) (tNot tA):=by
 intro pins s σ H Q I h
 exact isTrue_not (ha pins s σ H (λc H1=>Q (!c) H1) I h)
noncomputable def ZsH (ta tb:TE):TE:=fun σ H Q=>ta σ H λx H1=>∃c,x=.bl c/\if c=true then tb σ H1 Q else Q (.bl false) H1
noncomputable def tOrV (ta tb:TE):TE:=fun σ H Q=>ta σ H λx H1=>∃c,x=.bl c/\if c=true then Q (.bl true) H1 else tb σ H1 Q
noncomputable def ZsI (ta:TE):TE:=fun σ H Q=>ta σ H λx H1=>∃c,x=.bl c/\Q (.bl (!c)) H1
theorem Zbo {op}{t:TE} (h:PE X a t):PE X (.BoolOp op [a] pos) t:=λpins s σ H Q I hw=>BoolOp_one (h pins s σ H Q I hw)
theorem ZbG (ha:PE X a ta) (hb:PE X (.BoolOp .And (b::rest) pos) tb):PE X (.BoolOp .And (a::b::rest) pos) (ZsH ta tb):=by
 intro pins s σ H Q I h
 refine BoolOp_and (thn (ha pins s σ H _ I h) λv s1 ⟨x,H1,I1,r1,q1⟩=>?_)
 obtain⟨c,rfl,q1⟩:=q1
 cases r1
 refine wpAny_truthy_bool ?_
 cases c with
 |true=>exact hb pins s1 σ H1 Q I1 q1
 |false=>exact⟨.bl false,H1,I1,rfl,q1⟩
theorem pe_or (ha:PE X a ta) (hb:PE X (.BoolOp .Or (b::rest) pos) tb):PE X (.BoolOp .Or (a::b::rest) pos) (tOrV ta tb):=by
 intro pins s σ H Q I h
 refine BoolOp_or (thn (ha pins s σ H _ I h) λv s1 ⟨x,H1,I1,r1,q1⟩=>?_)
 obtain⟨c,rfl,q1⟩:=q1
 cases r1
 refine wpAny_truthy_bool ?_
 cases c with
 |false=>exact hb pins s1 σ H1 Q I1 q1
 |true=>exact⟨.bl true,H1,I1,rfl,q1⟩
theorem pe_not (ha:PE X a ta):PE X (.UnaryOp .Not a pos) (ZsI ta):=by
 intro pins s σ H Q I h
 refine UnaryOp_ (thn (ha pins s σ H _ I h) λv s1 ⟨x,H1,I1,r1,q1⟩=>?_)
 obtain⟨c,rfl,q1⟩:=q1
 cases r1
 exact not_of (wpAny_truthy_bool ⟨.bl (!c),H1,I1,rfl,q1⟩)
noncomputable def tIf (t:TT) (ta tb:TE):TE:=fun σ H Q=>t σ H λc H1=>if c=true then ta σ H1 Q else tb σ H1 Q
theorem Zhe {c:Expr} (hc:PT X c tA) (ha:PE X a ta) (hb:PE X b tb):PE X (.IfExp c a b pos) (tIf tA ta tb):=by
 intro pins s σ H Q I h
 refine wpAny_IfExp (thn (hc pins s σ H _ I h) λd s1 ⟨H1,I1,q1⟩=>?_)
 cases d with
 |true=>exact ha pins s1 σ H1 Q I1 q1
 |false=>exact hb pins s1 σ H1 Q I1 q1
end
noncomputable def SqL (K:PySem.W.Frag) (H:Hp) (a:Addr) (xs:List V):Prop :=
 Rd H a (.lst xs) \/
  ∃(o:Obj) (its:Array Value) (n:Nat),K.lookup a=some o/\o.cls=.type "list"/\o.dict=none/\o.data=.seq its n/\its.size<=sizeLine/\Vals xs its.toList
noncomputable def SqT (K:PySem.W.Frag) (H:Hp) (a:Addr) (xs:List V):Prop :=
 Rd H a (.tup xs) \/
  ∃(o:Obj) (its:Array Value) (n:Nat),K.lookup a=some o/\o.cls=.type "tuple"/\o.data=.seq its n/\its.size<=sizeLine/\Vals xs its.toList
noncomputable def absV:Value->Option V
 |.none=>some .non
 |.bool b=>some (.bl b)
 |.int i _=>some (.int i)
 |.str x _=>some (.str x)
 |.bytes b _=>some (.byt b)
 |.float b _=>some (.flt b)
 |.ref a=>some (.ref a)
 |.type n=>some (.ty n)
 |_=>none
theorem RelV.abs {x:V}{u:Value} (r:RelV x u):absV u=some x:=by
 cases x with
 |non=>cases r;rfl
 |bl _=>cases r;rfl
 |int _=>obtain⟨t,rfl⟩:=r;rfl
 |str _=>obtain⟨t,rfl⟩:=r;rfl
 |byt _=>obtain⟨t,rfl⟩:=r;rfl
 |flt _=>obtain⟨t,rfl⟩:=r;rfl
 |ref _=>cases r;rfl
 |ty _=>cases r;rfl
theorem RelV.inj {x y:V}{u:Value} (r:RelV x u) (q:RelV y u):x=y:=YE (r.abs.symm.trans q.abs)
theorem Vals.inj:∀{xs ys:List V}{us:List Value},Vals xs us->Vals ys us->xs=ys
 |_,_,_,.nil,.nil=>rfl
 |_,_,_,.cons r t,.cons r' t'=>by rw[r.inj r',Vals.inj t t']
section
variable {X:Cx}{pins:List (Addr×Obj)}{σ:St}{H:Hp}{s:Shared}{a:Addr}{xs ys:List V}
theorem SqL.of {K:PySem.W.Frag} (h:H a=some (.lst xs)):SqL K H a xs:=.inl (.inl h)
theorem SqT.of {K:PySem.W.Frag} (h:H a=some (.tup xs)):SqT K H a xs:=.inl (.inl h)
theorem Inv.list (I:Inv X pins σ H s) (h:SqL X.K H a xs):∃its:List Value,Vals xs its/\PlainL s.heap a its.toArray/\xs.length<=sizeLine:=by
 rcases h with h|⟨o,its,n,hk,hc,hd,hs,hz,r⟩
 ·obtain⟨z,its,n,r,e⟩:=h.ok I.hok
  exact⟨its,r,⟨_,n,e,rfl,rfl,rfl⟩,z⟩
 ·refine⟨its.toList,r,⟨o,n,I.kIn a o hk,hc,hd,by simpa using hs⟩,?_⟩
  have e:=r.length
  simp only[YW]at e
  omega
theorem Inv.tuple (I:Inv X pins σ H s) (h:SqT X.K H a xs):∃its:List Value,Vals xs its/\IsTup s.heap a its.toArray/\xs.length<=sizeLine:=by
 rcases h with h|⟨o,its,n,hk,hc,hs,hz,r⟩
 ·obtain⟨z,its,r,p⟩:=h.ok I.hok
  exact⟨its,r,p,z⟩
 ·refine⟨its.toList,r,⟨o,I.kIn a o hk,hc,n,by simpa using hs⟩,?_⟩
  have e:=r.length
  simp only[YW]at e
  omega
theorem Inv.Zcq (I:Inv X pins σ H s) (h:SqL X.K H a xs) (h':SqL X.K H a ys):xs=ys:=by
 obtain⟨its,r,⟨o,n,e,_,_,d⟩,_⟩:=I.list h
 obtain⟨its',r',⟨o',n',e',_,_,d'⟩,_⟩:=I.list h'
 rw[e]at e';cases e'
 rw[d]at d'
 injection d' with d1 _
 have:its=its':=by simpa using congrArg Array.toList d1
 subst this
 exact r.inj r'
theorem Inv.ZhZ (I:Inv X pins σ H s) (h:SqT X.K H a xs) (h':SqT X.K H a ys):xs=ys:=by
 obtain⟨its,r,⟨o,e,_,n,d⟩,_⟩:=I.tuple h
 obtain⟨its',r',⟨o',e',_,n',d'⟩,_⟩:=I.tuple h'
 rw[e]at e';cases e'
 rw[d]at d'
 injection d' with d1 _
 have:its=its':=by simpa using congrArg Array.toList d1
 subst this
 exact r.inj r'
end
noncomputable abbrev Cx.Zk2 (X:Cx) (E:Value->Shared->Prop):Cx:={X with xe:=E}
noncomputable abbrev Cx.nox (X:Cx):Cx:=X.Zk2 λ_ _=>False
theorem Cx.Ok.Zk2 {X:Cx} (ok:X.Ok) (E:Value->Shared->Prop):(X.Zk2 E).Ok :=
 ⟨ok.mod,ok.kind,ok.glob,ok.blt,ok.above,ok.inj,ok.has,ok.cab,ok.hd,ok.frames,ok.stk,ok.exf,ok.bs,ok.bsz,ok.noex,ok.exfs,ok.funs,ok.frf⟩
theorem Cx.Ok.Zfo {X:Cx}{E:Value->Shared->Prop} (ok:(X.Zk2 E).Ok):X.Ok :=
 ⟨ok.mod,ok.kind,ok.glob,ok.blt,ok.above,ok.inj,ok.has,ok.cab,ok.hd,ok.frames,ok.stk,ok.exf,ok.bs,ok.bsz,ok.noex,ok.exfs,ok.funs,ok.frf⟩
section
variable {X:Cx}{pins:List (Addr×Obj)}{σ:St}{H:Hp}{s:Shared}{E:Value->Shared->Prop}
theorem Inv.Zk2 (I:Inv X pins σ H s) (E:Value->Shared->Prop):Inv (X.Zk2 E) pins σ H s:=⟨I.ok.Zk2 E,I.os,I.bare,I.base,I.loc,I.cell,I.free,I.freeC,I.pin,I.hok,I.len⟩
theorem Inv.Zfo (I:Inv (X.Zk2 E) pins σ H s):Inv X pins σ H s:=⟨I.ok.Zfo,I.os,I.bare,I.base,I.loc,I.cell,I.free,I.freeC,I.pin,I.hok,I.len⟩
theorem SP.Zfo {D:Ends}{f:Flow}{s':Shared} (h:SP (X.Zk2 E) pins D f s'):SP X pins D f s':=by
 cases f with
 |next=>obtain⟨σ',H',I,q⟩:=h;exact⟨σ',H',I.Zfo,q⟩
 |brk=>obtain⟨σ',H',I,q⟩:=h;exact⟨σ',H',I.Zfo,q⟩
 |cont=>obtain⟨σ',H',I,q⟩:=h;exact⟨σ',H',I.Zfo,q⟩
 |ret u=>obtain⟨v,σ',H',I,r,q⟩:=h;exact⟨v,σ',H',I.Zfo,r,q⟩
end
section
variable {X:Cx}{st:Stmt}{rest:List Stmt}{t u:TS}{e:Expr}{te:TE}{pos:Pos}
noncomputable def ZsJ:TS:=λD σ H=>D.nx σ H
noncomputable def tSeq (t u:TS):TS:=λD σ H=>t {D with nx:=u D} σ H
theorem ZD:PSs X [] ZsJ:=λ_ _ σ H _ I h=>wpAny_execs_nil ⟨σ,H,I,h⟩
theorem Zd (h1:PS X st t) (h2:PSs X rest u):PSs X (st::rest) (tSeq t u):=by
 intro pins s σ H D I h
 refine wpAny_execs_cons (thn (h1 pins s σ H {D with nx:=u D} I h) λf s1 q=>?_)
 cases f with
 |next =>
  obtain⟨σ',H',I',q⟩:=q
  exact h2 pins s1 σ' H' D I' q
 |ret v=>exact q
 |brk=>exact q
 |cont=>exact q
theorem Zi (h1:PS X st t):PSs X [st] t:=by
 intro pins s σ H D I h
 refine wpAny_execs_cons (thn (h1 pins s σ H D I h) λf s1 q=>?_)
 cases f with
 |next=>exact wpAny_execs_nil q
 |ret v=>exact q
 |brk=>exact q
 |cont=>exact q
theorem Inv.quiet {pins:List (Addr×Obj)}{σ:St}{H:Hp}{s:Shared} (I:Inv X pins σ H s):interactive X.env=false:=by simp[interactive,I.ok.kind]
noncomputable def ZsK (te:TE):TS:=λD σ H=>te σ H λ_ H1=>D.nx σ H1
theorem Zbg (he:PE X e te) (hs:swapsWith e none pos.line X.env=pure false:=by rfl):PS X (.Expr e pos) (ZsK te):=by
 intro pins s σ H D I h
 exact wpAny_Expr_any (thn (he pins s σ H _ I h) λv s1 ⟨x,H1,I1,r1,q1⟩=>⟨σ,H1,I1,q1⟩) I.quiet hs
noncomputable def tRet (te:TE):TS:=λD σ H=>te σ H D.rt
theorem Zt (he:PE X e te):PS X (.Return (some e) pos) (tRet te):=by
 intro pins s σ H D I h
 exact wpAny_Return_some (thn (he pins s σ H _ I h) λv s1 ⟨x,H1,I1,r1,q1⟩=>⟨x,σ,H1,I1,r1,q1⟩)
noncomputable def tIfS (c:TT) (t u:TS):TS:=λD σ H=>c σ H λb H1=>if b=true then t D σ H1 else u D σ H1
theorem Z0 {c:Expr}{a b:List Stmt}{tc:TT} (hc:PT X c tc) (ha:PSs X a t) (hb:PSs X b u):PS X (.If c a b pos) (tIfS tc t u):=by
 intro pins s σ H D I h
 refine wpAny_If (thn (hc pins s σ H _ I h) λd s1 ⟨H1,I1,q1⟩=>?_)
 cases d with
 |true=>exact ha pins s1 σ H1 D I1 q1
 |false=>exact hb pins s1 σ H1 D I1 q1
end
noncomputable abbrev TG:=V->St->Hp->(St->Hp->Prop)->Prop
noncomputable abbrev TGs:=List V->St->Hp->(St->Hp->Prop)->Prop
noncomputable def PG (X:Cx) (target:Expr) (t:TG):Prop :=
 ∀(pins:List (Addr×Obj)) (s:Shared) (σ:St) (H:Hp) (v:V) (u:Value) (Q:St->Hp->Prop),Inv X pins σ H s->RelV v u->t v σ H Q ->
  wpAny (model X.prog X.w) X.A (assign target X.env u) (λ_ s'=>∃σ' H',Inv X pins σ' H' s'/\Q σ' H') X.xe s
noncomputable def PGs (X:Cx) (ts:List Expr) (t:TGs):Prop :=
 ∀(pins:List (Addr×Obj)) (s:Shared) (σ:St) (H:Hp) (vs:List V) (us:List Value) (Q:St->Hp->Prop),Inv X pins σ H s->Vals vs us->t vs σ H Q ->
  wpAny (model X.prog X.w) X.A (assignInOrder ((assignEach ts X.env).map (·.2)) us) (λ_ s'=>∃σ' H',Inv X pins σ' H' s'/\Q σ' H') X.xe s
noncomputable abbrev TSet:=V->V->V->Hp->(Hp->Prop)->Prop
noncomputable def PSet (X:Cx) (t:TSet):Prop :=
 ∀(pins:List (Addr×Obj)) (s:Shared) (σ:St) (H:Hp) (o i v:V) (ov iv u:Value) (Q:Hp->Prop),Inv X pins σ H s->RelV o ov->RelV i iv->RelV v u->t o i v H Q ->
  wpAny (model X.prog X.w) X.A (setItem ov iv u) (λ_ s'=>∃H',Inv X pins σ H' s'/\Q H') X.xe s
noncomputable abbrev TIp:=V->V->Hp->VK->Prop
noncomputable def PIp (X:Cx) (op:Operator) (t:TIp):Prop :=
 ∀(pins:List (Addr×Obj)) (s:Shared) (σ:St) (H:Hp) (x y:V) (v u:Value) (Q:VK),Inv X pins σ H s->RelV x v->RelV y u->t x y H Q ->
  wpAny (model X.prog X.w) X.A (inplaceOp op v u) (EP X pins σ Q) X.xe s
section
variable {X:Cx}{pos:Pos}
noncomputable def Zfe (i:Nat):TG:=λv σ H Q=>Q (σ.set i (some v)) H
theorem Zm {i:Nat}{x:Str} (hN:X.N.Nodup) (hi:X.N[i]?=some x) (hx:Loc X.env.scope x) (hf:X.fn x=true\/X.env.scope.names.lookup x=some .local:=by first|exact .inl rfl|exact .inr rfl|assumption):PG X (.Name x pos) (Zfe i):=by
 intro pins s σ H v u Q I r h
 exact wpAny_assign_Name (Zfn I hN hi hx r (λs' I'=>⟨_,H,I',h⟩) hf)
noncomputable def gNil:TGs:=λvs σ H Q=>vs=[]/\Q σ H
noncomputable def Zp3 (t:TG) (u:TGs):TGs:=λvs σ H Q=>∃v r,vs=v::r/\t v σ H fun σ' H'=>u r σ' H' Q
theorem Zav:PGs X [] gNil:=by
 intro pins s σ H vs us Q I r h
 obtain⟨e,h⟩:=h
 subst e
 cases r
 exact assignInOrder_nil ⟨σ,H,I,h⟩
theorem Zw {e:Expr}{es:List Expr}{t:TG}{u:TGs} (h1:PG X e t) (h2:PGs X es u)
  (hs:(assignEach (e::es) X.env).map (·.2)=assign e X.env::(assignEach es X.env).map (·.2):=by rfl):PGs X (e::es) (Zp3 t u):=by
 intro pins s σ H vs us Q I r h
 obtain⟨v,vr,e1,h⟩:=h
 subst e1
 cases r with
 |cons r rr =>
  rw[hs]
  refine assignInOrder_cons (thn (h1 pins s σ H _ _ _ I r h) λ_ s1 ⟨σ1,H1,I1,q1⟩=>?_)
  exact h2 pins s1 σ1 H1 _ _ Q I1 rr q1
noncomputable def gTup (K:PySem.W.Frag) (n:Nat) (t:TGs):TG:=λv σ H Q=>∃a xs,v=.ref a/\SqT K H a xs/\xs.length=n/\t xs σ H Q
theorem Zes {es:List Expr}{k:Nat}{t:TGs}{n:Nat} (hc:X.calm=true) (h:PGs X es t)
  (hn:(assignEach es X.env).length=n:=by rfl) (hst:(assignEach es X.env).findIdx? (·.1)=none:=by rfl):PG X (.Tuple es k pos) (gTup X.K n t):=by
 intro pins s σ H v u Q I r hw
 obtain⟨a,xs,e1,hq,hl,hw⟩:=hw
 subst e1
 cases r
 obtain⟨its,rv,ht,hz⟩:=I.tuple hq
 refine assign_Tuple_tuple (I.ok.hd hc) ht (by simp[hn,<-hl,rv.length]) hst λh' hx=>?_
 have I1:Inv X pins σ H {s with heap:=h'}:=I.kept (t':=s.toks) λb o e=>hx b o (Yn (Yj e)) e
 exact h pins _ σ H xs _ Q I1 (by simpa using rv) hw
noncomputable def gSub (to ti:TE) (t:TSet):TG:=λv σ H Q=>to σ H λo H1=>ti σ H1 λi H2=>t o i v H2 λH3=>Q σ H3
theorem Zh0 {o i:Expr}{to ti:TE}{t:TSet} (ho:PE X o to) (hi:PE X i ti) (hs:PSet X t)
  (ha:∀v,assign (.Subscript o i pos) X.env v=(do
   let ov <-holding [v] (eval o X.env)
   let iv <-holding [v,ov] (eval i X.env)
   standAt pos
   holding [v,ov,iv] (setItem ov iv v)
   release [v,ov,iv] []):=by intro _;rfl):PG X (.Subscript o i pos) (gSub to ti t):=by
 intro pins s σ H v u Q I r h
 rw[ha]
 refine Ya (wpAny_holding (thn (ho pins s σ H _ I h) λov s1 ⟨x,H1,I1,r1,q1⟩=>?_))
 refine Ya (wpAny_holding (thn (hi pins s1 σ H1 _ I1 q1) λiv s2 ⟨y,H2,I2,r2,q2⟩=>?_))
 refine Ya (wpAny_standAt (Ya (wpAny_holding (thn (hs pins s2 σ H2 x y v ov iv u _ I2 r1 r2 r q2) λ_ s3 ⟨H3,I3,q3⟩=>?_))))
 exact wpAny_release ⟨σ,H3,I3,q3⟩
noncomputable def ZqO (te:TE) (g:TG):TS:=λD σ H=>te σ H λx H1=>g x σ H1 D.nx
theorem Zc3 {tg e:Expr}{te:TE}{g:TG} (he:PE X e te) (hg:PG X tg g) (hs:swapsWithSole [tg] e pos.line X.env=pure false:=by rfl) (hw:swappedStores [tg] e X.env=pure none:=by rfl)
  (h1:(assignEach [tg] X.env).map (·.2)=[assign tg X.env]:=by rfl):PS X (.Assign [tg] e pos) (ZqO te g):=by
 intro pins s σ H D I h
 refine wpAny_Assign_stores (thn (he pins s σ H _ I h) λv s1 ⟨x,H1,I1,r1,q1⟩=>?_) hs hw
 rw[h1]
 exact thn (hg pins s1 σ H1 x v _ I1 r1 q1) λ_ s2 q=>q
theorem Zo {i:Nat}{x:Str}{e:Expr}{te:TE}{pos':Pos} (hN:X.N.Nodup) (hi:X.N[i]?=some x) (hx:Loc X.env.scope x) (he:PE X e te) (hs:swapsWith e (some (.Name x pos')) pos.line X.env=pure false:=by rfl) (hf:X.fn x=true\/X.env.scope.names.lookup x=some .local:=by first|exact .inl rfl|exact .inr rfl|assumption) :
  PS X (.Assign [.Name x pos'] e pos) (ZqO te (Zfe i)):=by
 intro pins s σ H D I h
 refine wpAny_Assign_Name (thn (he pins s σ H _ I h) λv s1 ⟨y,H1,I1,r1,q1⟩=>?_) hs
 exact Zfn I1 hN hi hx r1 (λs2 I2=>⟨_,H1,I2,q1⟩) hf
noncomputable def tPar (i j:Nat) (ta:TA):TS:=λD σ H=>ta σ H λvs H1=>∃v w,vs=[v,w]/\D.nx ((σ.set i (some v)).set j (some w)) H1
theorem ps_par {i j:Nat}{x y:Str}{a b:Expr}{ta:TA}{px py pt:Pos} {kt k2 pt2} (hc:X.calm=true) (hN:X.N.Nodup) (hi:X.N[i]?=some x) (hj:X.N[j]?=some y) (hij:i≠j)
  (hx:X.env.scope.names.lookup x=some .local) (hy:X.env.scope.names.lookup y=some .local) (ha:PA X [a,b] ta)
  (hw:swappedStores [.Tuple [.Name x px,.Name y py] kt pt] (.Tuple [a,b] k2 pt2) X.env=pure (some [x,y]))
  (hs:swapsWithSole [.Tuple [.Name x px,.Name y py] kt pt] (.Tuple [a,b] k2 pt2) pos.line X.env=pure false:=by rfl) :
  PS X (.Assign [.Tuple [.Name x px,.Name y py] kt pt] (.Tuple [a,b] k2 pt2) pos) (tPar i j ta):=by
 intro pins s σ H D I h
 rw[exec_Assign_arm]
 refine Ya (wpAny_standAt ?_)
 rw[hs]
 refine Ya (Yb ?_)
 rw[Yc (by decide)]
 refine Ya (Tuple_ (thn (ha _ pins s σ H _ I h) λus s1 ⟨vs,H1,I1,r1,q1⟩=>?_))
 obtain⟨v,w,e1,q1⟩:=q1
 subst e1
 obtain⟨u1,u2,rfl,rv,rw'⟩:∃u1 u2,us=[u1,u2]/\RelV v u1/\RelV w u2:=by
  cases r1 with
  |cons p q =>
   cases q with
   |cons p' q' =>
    cases q'
    exact⟨_,_,rfl,p,p'⟩
 refine wpAny_newObj_type ?_ (by show 2<=sizeLine;decide)
 have I2:Inv X pins σ H1 {s1 with heap:=s1.heap.push {cls:=.type "tuple",data:=.seq [u1,u2].toArray}}:=I1.kept (t':=s1.toks) λb o e=>Yh _ e
 rw[hw]
 refine Ya (Yb ?_)
 show wpAny (model X.prog X.w) X.A (do rule "assign.swapped-stores";let items <-unpackItems (.ref s1.heap.objs.size) 2 none;assignInOrder [λv=>bindName X.env y v,λv=>bindName X.env x v] items.reverse;pure Flow.next) _ _ _
 refine Ya (wpAny_rule (Ya (unpackItems_tuple (items:=#[u1,u2]) (I.ok.hd hc) (IsTup.new s1.heap _) λh' hx'=>?_)))
 have I3:=I2.kept (h':=h') (t':=s1.toks) λb o e=>hx' b o (Yn (Yj e)) e
 show wpAny _ _ (assignInOrder [λv=>bindName X.env y v,λv=>bindName X.env x v] [u2,u1] >>= λ_=>pure Flow.next) _ _ _
 refine Ya (assignInOrder_cons (wpAny_bindName (Zfn I3 hN hj (.inl hy) rw' (λs2 I4=>?_) (.inr hy))))
 refine assignInOrder_cons (wpAny_bindName (Zfn I4 hN hi (.inl hx) rv (λs3 I5=>assignInOrder_nil (Yb ?_)) (.inr hx)))
 rw[List.set_comm _ _ (Ne.symm hij)]at I5
 exact⟨_,H1,I5,q1⟩
noncomputable def tAug (i:Nat) (te:TE) (ti:TIp):TS:=λD σ H=>∃x,σ[i]?=some (some x)/\te σ H λy H1=>ti x y H1 λz H2=>D.nx (σ.set i (some z)) H2
theorem ps_aug {i:Nat}{x:Str}{e:Expr}{te:TE}{op:Operator}{ti:TIp}{pos':Pos} (hN:X.N.Nodup) (hi:X.N[i]?=some x) (hx:Loc X.env.scope x) (he:PE X e te) (ho:PIp X op ti) (hf:X.fn x=true\/X.env.scope.names.lookup x=some .local:=by first|exact .inl rfl|exact .inr rfl|assumption) :
  PS X (.AugAssign (.Name x pos') op e pos) (tAug i te ti):=by
 intro pins s σ H D I h
 obtain⟨v,e1,h⟩:=h
 obtain⟨m,hn,hl⟩:=I.loc
 have vis:Vis X.env.scope x:=by rcases hx with k|k;exact .inl k;exact .inr (.inl k)
 obtain⟨u,r,l⟩:=hl i x v hi e1 vis
 refine wpAny_AugAssign_Name ?_
 have go:wpAny (model X.prog X.w) X.A (eval e X.env) (λw s₂=>wpAny (model X.prog X.w) X.A (inplaceOp op u w) (λr s₃=>wpAny (model X.prog X.w) X.A (storeName X.env x r) (λ_=>SP X pins D .next) X.xe s₃) X.xe s₂) X.xe s:=by
  refine thn (he pins s σ H _ I h) λw s1 ⟨y,H1,I1,r1,q1⟩=>?_
  refine thn (ho pins s1 σ H1 v y u w _ I1 r r1 q1) λz s2 ⟨zv,H2,I2,r2,q2⟩=>?_
  exact Zfn I2 hN hi hx r2 (λs3 I3=>⟨_,H2,I3,q2⟩) hf
 rcases l with⟨hk,hm⟩|⟨hk,c,hc,hcell⟩
 ·exact wpAny_loadName_local I.ok.kind hk hn hm go
 ·rcases hk with hk|hk
  ·exact wpAny_loadName_cell I.ok.kind hk hc hcell go
  ·rcases hx with k|k
   ·have:X.env.scope.names.lookup x=some .free:=hk
    rw[k]at this;cases this
   ·have:X.env.scope.names.lookup x=some .free:=hk
    rw[k]at this;cases this
noncomputable def ipI (f:Int->Int->Int):TIp:=λx y H Q=>∃i j,x=.int i/\y=.int j/\Q (.int (f i j)) H
theorem ip_sub:PIp X .Sub (ipI λi j=>i-j):=by
 intro pins s σ H x y v u Q I r1 r2 h
 obtain⟨i,j,e1,e2,q⟩:=h
 subst e1;subst e2
 obtain⟨t,rfl⟩:=r1
 obtain⟨t',rfl⟩:=r2
 exact isub_int ⟨.int _,H,I.tok _,⟨_,rfl⟩,q⟩
end
section
variable {X:Cx}{pos:Pos}
noncomputable def Zoy (c:TT) (tb:TS):TS:=λD σ H=>∃W:Nat->St->Hp->Prop,(∃m,W m σ H)/\∀m σ H,W m σ H ->
 c σ H λb H1=>if b=true then ∃N:St->Hp->Prop,(∀σ' H',N σ' H'->∃m',m'<m/\W m' σ' H')/\tb {D with nx:=N,ct:=N,bk:=D.nx} σ H1 else D.nx σ H1
theorem Znl {c:Expr}{body:List Stmt}{tc:TT}{tb:TS} (hp:PassesOwn (model X.prog X.w) X.A X.env X.xe) (hc:PT X c tc) (hb:PSs X body tb):PS X (.While c body [] pos) (Zoy tc tb):=by
 intro pins s σ H D I h
 obtain⟨W,⟨m0,w0⟩,turn⟩:=h
 refine wpAny_While (codeAny_whileLoop (λn s'=>∃σ' H',Inv X pins σ' H' s'/\W n σ' H') ?_ m0 ⟨σ,H,I,w0⟩)
 rintro n s1 ⟨σ1,H1,I1,w1⟩
 refine wpAny_passesOwn hp (thn (hc pins s1 σ1 H1 _ I1 (turn n σ1 H1 w1)) λb s2 ⟨H2,I2,q2⟩=>?_)
 cases b with
 |true =>
  obtain⟨N,hN,q2⟩:=q2
  rw[Yd rfl]
  refine wpAny_passesOwn hp (thn (hb pins s2 σ1 H2 _ I2 q2) λf s3 q3=>?_)
  cases f with
  |next =>
   obtain⟨σ3,H3,I3,n3⟩:=q3
   obtain⟨m',hm,w3⟩:=hN σ3 H3 n3
   exact⟨m',hm,σ3,H3,I3,w3⟩
  |cont =>
   obtain⟨σ3,H3,I3,n3⟩:=q3
   obtain⟨m',hm,w3⟩:=hN σ3 H3 n3
   exact⟨m',hm,σ3,H3,I3,w3⟩
  |brk=>exact q3
  |ret v=>exact q3
 |false =>
  rw[Yc YL]
  exact wpAny_execs_nil ⟨σ1,H2,I2,q2⟩
end
structure It where
 go:Nat->Hp->Prop
 yld:Nat->Hp->V->Hp->Prop
 stop:Nat->Hp->Prop
noncomputable def FpOk (X:Cx) (pins:List (Addr×Obj)) (H:Hp) (b:Addr):Prop :=
 H b=none/\b≠X.env.locals/\b∉X.fs/\(b∈X.ex\/X.s₀.heap.objs.size<=b)/\(∀x c,X.env.cells.lookup x=some c->c≠b)/\∀p∈X.pn++pins,p.1≠b
theorem Inv.ZqP {X:Cx}{pins:List (Addr×Obj)}{σ:St}{H H':Hp}{s:Shared}{b:Addr} (I:Inv X pins σ H s) (hb:s.heap.objs.size<=b) (hn:H' b=none):FpOk X pins H' b:=by
 refine⟨hn,Nat.ne_of_gt (YC I.lt hb),I.Zl5 hb,.inr (Ym I.sz hb),λx c e z=>?_,λp hp z=>?_⟩
 ·obtain⟨v,q⟩:=I.cell x c e
  exact absurd (YC q.lt (by rw[z];exact hb)) (YI _)
 ·exact absurd (YC (Yj (I.pin p hp).1) (by rw[z];exact hb)) (YI _)
structure Turn (P:Program) (w:World) (K:PySem.W.Frag) (tg:Expr) (J:It) (fp:List Addr) (it:Addr) (tn:Nat->Heap->Prop):Prop where
 mem:it∈fp
 obj:∀i h,tn i h->∀b∈fp,∃o,h.get? b=some o/\∀v,o.data≠.cell v
 keep:∀i h h',tn i h->(∀b∈fp,∀o,h.get? b=some o->h'.get? b=some o)->tn i h'
 item:∀(X:Cx),X.prog=P->X.w=w->X.K=K->X.calm=true->∀(i:Nat) (pins:List (Addr×Obj)) (s:Shared) (σ:St) (H:Hp) (E:Value->Shared->Prop),Inv X pins σ H s->(∀b∈fp,FpOk X pins H b)->tn i s.heap->J.go i H ->
  wpAny (model P w) X.A (pyNext (.ref it)) (λr s1=>∃u,r=some u /\
   wpAny (model P w) X.A (letOwnedTupleGo tg (.ref it) u) (λ_ s2=>∃x H',Inv X pins σ H' s2/\RelV x u/\J.yld i H x H'/\tn (i+1) s2.heap/\∀b∈fp,H' b=none) E s1) E s
 done:∀(X:Cx),X.prog=P->X.w=w->X.K=K->X.calm=true->∀(i:Nat) (pins:List (Addr×Obj)) (s:Shared) (σ:St) (H:Hp) (E:Value->Shared->Prop),Inv X pins σ H s->(∀b∈fp,FpOk X pins H b)->tn i s.heap->J.stop i H ->
  wpAny (model P w) X.A (pyNext (.ref it)) (λr s1=>r=none/\Inv X pins σ H s1) E s
 self:∀(A:Around) (i:Nat) (s:Shared) (Q:Value->Shared->Prop) (E:Value->Shared->Prop),tn i s.heap->Q (.ref it) s->wpAny (model P w) A (pyIter (.ref it)) Q E s
noncomputable abbrev TI:=St->Hp->(It->Hp->Prop)->Prop
noncomputable def PIE (X:Cx) (pins:List (Addr×Obj)) (σ:St) (tg:Expr) (R:It->Hp->Prop) (itv:Value) (s2:Shared):Prop :=
 ∃(it:Addr) (fp:List Addr) (tn:Nat->Heap->Prop) (J:It) (H':Hp),itv=.ref it/\Inv X pins σ H' s2/\Turn X.prog X.w X.K tg J fp it tn/\tn 0 s2.heap/\(∀b∈fp,FpOk X pins H' b)/\R J H'
noncomputable def PI (X:Cx) (tg iter:Expr) (wi:TI):Prop :=
 ∀(pins:List (Addr×Obj)) (s:Shared) (σ:St) (H:Hp) (R:It->Hp->Prop),Inv X pins σ H s->wi σ H R ->
  wpAny (model X.prog X.w) X.A (eval iter X.env) (λv s1=>wpAny (model X.prog X.w) X.A (pyIter v) (PIE X pins σ tg R) X.xe s1) X.xe s
theorem ZsL {M : Model} {A : Around} {E : Value → Shared → Prop} {s : Shared} {tg : Expr} {it : Addr} {u : Value} {o : Obj} {n : String} {vs : Array Value} {Q : Unit → Shared → Prop} (ho : s.heap.get? it = some o) (hc : o.cls = .type n) (hd : o.data = .fields vs)
    (hn : ["enumerate", "zip", "dict_itemiterator", "dict_reverseitemiterator", "odict_iterator", "itertools.zip_longest", "itertools.pairwise"].contains n = false) (hQ : Q () s) : wpAny M A (letOwnedTupleGo tg (.ref it) u) Q E s := by
  unfold letOwnedTupleGo
  cases tg <;> first
    | exact Yb hQ
    | (cases u <;> first
        | exact Yb hQ
        | (refine Ya (wpAny_load ho ?_)
           rw [hc, hd]
           show wpAny M A (if (["enumerate", "zip", "dict_itemiterator", "dict_reverseitemiterator", "odict_iterator", "itertools.zip_longest", "itertools.pairwise"].contains n && vs[0]? == some (rawInt _)) = true then _ else _) Q E s
           rw [Yc (by intro h; rw [hn, Bool.false_and] at h; cases h)]
           exact Yb hQ))
noncomputable def Itl (K:PySem.W.Frag) (a:Addr):It :=
 ⟨λi H=>∃xs x,SqL K H a xs/\xs[i]?=some x,λi H x H'=>H'=H/\∀xs,SqL K H a xs->xs[i]?=some x,λi H=>∃xs,SqL K H a xs/\xs.length<=i⟩
noncomputable def Itt (K:PySem.W.Frag) (a:Addr):It :=
 ⟨λi H=>∃xs x,SqT K H a xs/\xs[i]?=some x,λi H x H'=>H'=H/\∀xs,SqT K H a xs->xs[i]?=some x,λi H=>∃xs,SqT K H a xs/\xs.length<=i⟩
noncomputable def Itr (lo:Int) (n:Nat):It:=⟨λi _=>i<n,λi H x H'=>H'=H/\x=.int (lo+i),λi _=>n<=i⟩
theorem ZqQ {P:Program}{w:World}{K:PySem.W.Frag}{tg:Expr} (a it:Addr):Turn P w K tg (Itl K a) [it] it (λi h=>h.IsListIter it a i) where
 mem:=by simp
 obj:=λi h st b hb=>by
  have e:b=it:=by simpa using hb
  subst e
  obtain⟨o,e,c,d⟩:=st
  exact⟨o,e,λv z=>by rw[d]at z;cases z⟩
 keep:=λi h h' st k=>st.at λo e=>k it (by simp) o e
 item:=by
  intro X hP hw hK hc i pins s σ H E I hf st hg
  subst hP hw hK
  obtain⟨xs,x,hq,hx⟩:=hg
  obtain⟨its,rv,p,hz⟩:=I.list hq
  obtain⟨u,hu,ru⟩:=rv.get hx
  obtain⟨f0,f1,f2,f3,f4,f5⟩:=hf it (by simp)
  refine wpAny_pyNext_list_item st p.isList (x:=u) (by simpa using hu) λh' st' sb=>?_
  have I1:Inv X pins σ H {s with heap:=h'}:=I.turned (t':=s.toks) (λb o hb e=>(sb.2 b hb).trans e) f0 f1 f3 f4 f5
  obtain⟨o,e,c,d⟩:=id st'
  exact⟨u,rfl,ZsL (s:={s with heap:=h'}) e c d (by decide) ⟨x,H,I1,ru,⟨rfl,λys hy=>by rw[I.Zcq hy hq];exact hx⟩,st',λb hb=>(hf b hb).1⟩⟩
 done:=by
  intro X hP hw hK hc i pins s σ H E I hf st hg
  subst hP hw hK
  obtain⟨xs,hq,hx⟩:=hg
  obtain⟨its,rv,p,hz⟩:=I.list hq
  obtain⟨f0,f1,f2,f3,f4,f5⟩:=hf it (by simp)
  have hl:=rv.length
  exact wpAny_pyNext_list_end (I.ok.hd hc) st p.isList (by simp;omega) λh' eb=>⟨rfl,I.turned (t':=s.toks) (λb o hb e=>eb b o hb e) f0 f1 f3 f4 f5⟩
 self:=λ_ _ _ _ _ st h=>wpAny_pyIter_listiter st h
theorem Zoz {P:Program}{w:World}{K:PySem.W.Frag}{tg:Expr} (a it:Addr):Turn P w K tg (Itt K a) [it] it (λi h=>h.IsTupleIter it a i) where
 mem:=by simp
 obj:=λi h st b hb=>by
  have e:b=it:=by simpa using hb
  subst e
  obtain⟨o,e,c,d⟩:=st
  exact⟨o,e,λv z=>by rw[d]at z;cases z⟩
 keep:=λi h h' st k=>st.at λo e=>k it (by simp) o e
 item:=by
  intro X hP hw hK hc i pins s σ H E I hf st hg
  subst hP hw hK
  obtain⟨xs,x,hq,hx⟩:=hg
  obtain⟨its,rv,p,hz⟩:=I.tuple hq
  obtain⟨u,hu,ru⟩:=rv.get hx
  obtain⟨f0,f1,f2,f3,f4,f5⟩:=hf it (by simp)
  refine wpAny_pyNext_tuple_item st (show s.heap.IsTuple a its.toArray from p) (x:=u) (by simpa using hu) λh' st' sb=>?_
  have I1:Inv X pins σ H {s with heap:=h'}:=I.turned (t':=s.toks) (λb o hb e=>(sb.2 b hb).trans e) f0 f1 f3 f4 f5
  obtain⟨o,e,c,d⟩:=id st'
  exact⟨u,rfl,ZsL (s:={s with heap:=h'}) e c d (by decide) ⟨x,H,I1,ru,⟨rfl,λys hy=>by rw[I.ZhZ hy hq];exact hx⟩,st',λb hb=>(hf b hb).1⟩⟩
 done:=by
  intro X hP hw hK hc i pins s σ H E I hf st hg
  subst hP hw hK
  obtain⟨xs,hq,hx⟩:=hg
  obtain⟨its,rv,p,hz⟩:=I.tuple hq
  obtain⟨f0,f1,f2,f3,f4,f5⟩:=hf it (by simp)
  have hl:=rv.length
  exact wpAny_pyNext_tuple_end (I.ok.hd hc) st (show s.heap.IsTuple a its.toArray from p) (by simp;omega) λh' eb=>⟨rfl,I.turned (t':=s.toks) (λb o hb e=>eb b o hb e) f0 f1 f3 f4 f5⟩
 self:=λ_ _ _ _ _ st h=>wpAny_pyIter_tupleiter st h
theorem ZoA {P:Program}{w:World}{K:PySem.W.Frag}{tg:Expr} (it:Addr) (lo:Int) (n:Nat):Turn P w K tg (Itr lo n) [it] it (λi h=>IsRangeIter h it (lo+(i:Nat)*1) ((n:Int)-(i:Nat)) 1) where
 mem:=by simp
 obj:=λi h st b hb=>by
  have e:b=it:=by simpa using hb
  subst e
  exact⟨_,st,λv z=>by
   have z':Data.fields _=Data.cell v:=z
   cases z'⟩
 keep:=λi h h' st k=>k it (by simp) _ st
 item:=by
  intro X hP hw hK hc i pins s σ H E I hf st hg
  subst hP hw hK
  obtain⟨f0,f1,f2,f3,f4,f5⟩:=hf it (by simp)
  have W:=Walks.range (prog:=X.prog) (w:=X.w) (I.ok.hd hc) it lo 1 n
  refine W.item i s _ _ hg st λv h' tk hv st' kk=>?_
  obtain⟨t,rfl⟩:=hv
  have I1:Inv X pins σ H {s with heap:=h',toks:=tk}:=I.turned (λb o hb e=>kk b o (by simpa using hb) e) f0 f1 f3 f4 f5
  refine⟨_,rfl,ZsL (s:={s with heap:=h',toks:=tk}) (n:="range_iterator") st' rfl rfl (by decide) ⟨.int (lo+i),H,I1,⟨t,?_⟩,⟨rfl,rfl⟩,st',λb hb=>(hf b hb).1⟩⟩
  rw[Int.mul_one]
 done:=by
  intro X hP hw hK hc i pins s σ H E I hf st hg
  subst hP hw hK
  obtain⟨f0,f1,f2,f3,f4,f5⟩:=hf it (by simp)
  exact wpAny_pyNext_range_end (I.ok.hd hc) st (by have:n<=i:=hg;omega) λh' eb=>⟨rfl,I.turned (t':=s.toks) (λb o hb e=>eb b o hb e) f0 f1 f3 f4 f5⟩
 self:=λ_ _ _ _ _ st h=>wpAny_pyIter_rangeiter st h
section
variable {X:Cx}{tg:Expr}
noncomputable def Zp4 (K:PySem.W.Frag) (tl:TE):TI:=fun σ H R=>tl σ H λx H1=>∃a,x=.ref a/\(∃xs,SqL K H1 a xs)/\R (Itl K a) H1
noncomputable def iTup (K:PySem.W.Frag) (tl:TE):TI:=fun σ H R=>tl σ H λx H1=>∃a,x=.ref a/\(∃xs,SqT K H1 a xs)/\R (Itt K a) H1
theorem Zag {l:Expr}{tl:TE} (hl:PE X l tl):PI X tg l (Zp4 X.K tl):=by
 intro pins s σ H R I h
 refine thn (hl pins s σ H _ I h) λv s1 ⟨x,H1,I1,r1,q1⟩=>?_
 obtain⟨a,e,⟨xs,hq⟩,q⟩:=q1
 subst e
 cases r1
 obtain⟨its,rv,p,hz⟩:=I1.list hq
 refine wpAny_pyIter_list p.isList ?_
 refine⟨s1.heap.objs.size,[s1.heap.objs.size],_,_,H1,rfl,I1.kept (t':=s1.toks) λb o e=>Yh _ e,ZqQ a _,⟨_,Ys _ rfl,rfl,rfl⟩,λb hb=>?_,q⟩
 have e:b=s1.heap.objs.size:=by simpa using hb
 subst e
 exact I1.ZqP (Ye _) (I1.hok.fresh (Ye _))
theorem Zl9 {l:Expr}{tl:TE} (hl:PE X l tl):PI X tg l (iTup X.K tl):=by
 intro pins s σ H R I h
 refine thn (hl pins s σ H _ I h) λv s1 ⟨x,H1,I1,r1,q1⟩=>?_
 obtain⟨a,e,⟨xs,hq⟩,q⟩:=q1
 subst e
 cases r1
 obtain⟨its,rv,p,hz⟩:=I1.tuple hq
 refine wpAny_pyIter_tuple (show s1.heap.IsTuple a its.toArray from p) ?_
 refine⟨s1.heap.objs.size,[s1.heap.objs.size],_,_,H1,rfl,I1.kept (t':=s1.toks) λb o e=>Yh _ e,Zoz a _,⟨_,Ys _ rfl,rfl,rfl⟩,λb hb=>?_,q⟩
 have e:b=s1.heap.objs.size:=by simpa using hb
 subst e
 exact I1.ZqP (Ye _) (I1.hok.fresh (Ye _))
theorem Znm {pins:List (Addr×Obj)}{σ:St}{H:Hp}{s:Shared}{R:It->Hp->Prop}{E:Value->Shared->Prop}{lo hi:Int}{t u v:Tok}{tk:Nat} (I:Inv X pins σ H s) (h1:-(2 ^ 62)<=lo) (h2:lo<2 ^ 62) (h3:-(2 ^ 62)<=hi) (h4:hi<2 ^ 62)
  (q:R (Itr lo (hi-lo).toNat) H):wpAny (model X.prog X.w) X.A (pyIter (.ref s.heap.objs.size)) (PIE X pins σ tg R) E {s with heap:=s.heap.push {cls:=.type "range",data:=.fields #[.int lo t,.int hi u,.int 1 v]},toks:=tk}:=by
 refine wpAny_pyIter_range (IsRange.new ..) (small_one h1 h2 h3 h4) ?_
 have I1:Inv X pins σ H {s with heap:=s.heap.push {cls:=.type "range",data:=.fields #[.int lo t,.int hi u,.int 1 v]},toks:=tk}:=I.kept λb o e=>Yh _ e
 refine⟨(s.heap.push {cls:=.type "range",data:=.fields #[.int lo t,.int hi u,.int 1 v]}).objs.size,[(s.heap.push {cls:=.type "range",data:=.fields #[.int lo t,.int hi u,.int 1 v]}).objs.size],_,_,H,rfl,
  I1.kept (t':=tk) λb o e=>Yh _ e,ZoA _ lo (hi-lo).toNat,?_,λb hb=>?_,q⟩
 ·have e1:lo+((0:Nat):Int)*1=lo:=by simp
  have e2:(((hi-lo).toNat:Nat):Int)-((0:Nat):Int)=Builtin.Range.rangeSize lo hi 1:=by rw[rangeSize_one];split<;>omega
  show IsRangeIter _ _ (lo+((0:Nat):Int)*1) ((((hi-lo).toNat:Nat):Int)-((0:Nat):Int)) 1
  rw[e1,e2]
  exact Ys _ rfl
 ·have e:b=(s.heap.push {cls:=.type "range",data:=.fields #[.int lo t,.int hi u,.int 1 v]}).objs.size:=by simpa using hb
  subst e
  exact I1.ZqP (Ye _) (I1.hok.fresh (Ye _))
noncomputable def ZsM (ta:TA):TI:=fun σ H R=>ta σ H λvs H1=>∃j:Int,vs=[.int j]/\-(2 ^ 62)<=j/\j<2 ^ 62/\R (Itr 0 j.toNat) H1
noncomputable def ZsN (ta:TA):TI:=fun σ H R=>ta σ H λvs H1=>∃i j:Int,vs=[.int i,.int j]/\(-(2 ^ 62)<=i/\i<2 ^ 62/\-(2 ^ 62)<=j/\j<2 ^ 62)/\R (Itr i (j-i).toNat) H1
theorem Zax {a:Expr}{ta:TA}{p pos:Pos} (hg:Gl X "range") (hm:X.mg "range"=none) (ha:PA X [a] ta) (hs:starEach [a] X.env=[(false,eval a X.env)]:=by rfl):PI X tg (.Call (.Name "range" p) [a] [] pos) (ZsM ta):=by
 intro pins s σ H R I h
 refine Call_ (Zbm I hg hm boot_range (PyProof.Rows.callWith_type1 (thn (ha pos pins s σ H _ I h) λus s1 ⟨vs,H1,I1,r1,q1⟩=>?_) hs rfl))
 obtain⟨j,e,q1,q2,q⟩:=q1
 subst e
 cases r1 with
 |cons r rr =>
  cases rr
  obtain⟨t,rfl⟩:=r
  exact call_range_1 (Znm I1 (by omega) (by omega) q1 q2 (by simpa using q))
theorem Zlp {a b:Expr}{ta:TA}{p pos:Pos} (hg:Gl X "range") (hm:X.mg "range"=none) (ha:PA X [a,b] ta) (hs:starEach [a,b] X.env=[(false,eval a X.env),(false,eval b X.env)]:=by rfl) (hs2:starEach [b] X.env=[(false,eval b X.env)]:=by rfl) :
  PI X tg (.Call (.Name "range" p) [a,b] [] pos) (ZsN ta):=by
 intro pins s σ H R I h
 refine Call_ (Zbm I hg hm boot_range (PyProof.Rows.callWith_type1 (thn (ha pos pins s σ H _ I h) λus s1 ⟨vs,H1,I1,r1,q1⟩=>?_) (by rw[hs,hs2]) (by rw[hs2];rfl)))
 obtain⟨i,j,e,⟨q1,q2,q3,q4⟩,q⟩:=q1
 subst e
 cases r1 with
 |cons r rr =>
  cases rr with
  |cons r' rr =>
   cases rr
   obtain⟨t,rfl⟩:=r
   obtain⟨t',rfl⟩:=r'
   exact call_range_2 (Znm I1 q1 q2 q3 q4 q)
noncomputable def tFor (wi:TI) (g:TG) (tb:TS):TS:=λD σ H=>wi σ H λJ H1=>∃W:Nat->Nat->St->Hp->Prop,(∃m,W 0 m σ H1)/\∀i m σ H,W i m σ H ->
 (J.stop i H/\D.nx σ H)\/(J.go i H/\∃N:St->Hp->Prop,(∀σ' H',N σ' H'->∃m',m'<m/\W (i+1) m' σ' H')/\∀x H',J.yld i H x H'->g x σ H' fun σ2 H2=>tb {D with nx:=N,ct:=N,bk:=D.nx} σ2 H2)
noncomputable def Zay (fp:List Addr) (h:Heap):List (Addr×Obj):=fp.filterMap λb=>(h.get? b).map λo=>(b,o)
theorem ZaR {fp:List Addr}{h:Heap}{b:Addr}{o:Obj} (hb:b∈fp) (e:h.get? b=some o):(b,o)∈Zay fp h:=List.mem_filterMap.mpr ⟨b,hb,by rw[e];rfl⟩
theorem Zf5 {fp:List Addr}{h:Heap}{p:Addr×Obj} (hp:p∈Zay fp h):p.1∈fp/\h.get? p.1=some p.2:=by
 obtain⟨b,hb,e⟩:=List.mem_filterMap.mp hp
 cases q:h.get? b with
 |none=>rw[q]at e;cases e
 |some o =>
  rw[q]at e
  have e':(b,o)=p:=YE e
  subst e'
  exact⟨hb,q⟩
theorem Inv.pinned {pins:List (Addr×Obj)}{σ:St}{H:Hp}{s:Shared}{fp:List Addr} (I:Inv X pins σ H s) (hf:∀b∈fp,FpOk X pins H b) (ho:∀b∈fp,∃o,s.heap.get? b=some o/\∀v,o.data≠.cell v):Inv X (pins++Zay fp s.heap) σ H s :=
 I.ZO λp hp=>(Yq.mp hp).elim (λz=>I.pin p (Yk _ z)) λz=>by
  obtain⟨hb,e⟩:=Zf5 z
  obtain⟨f0,f1,f2,_⟩:=hf p.1 hb
  obtain⟨o,e',d⟩:=ho p.1 hb
  rw[e]at e';cases e'
  exact⟨e,f0,f1,f2,d⟩
theorem Inv.Zcr {pins pl:List (Addr×Obj)}{σ:St}{H:Hp}{s:Shared} (I:Inv X (pins++pl) σ H s):Inv X pins σ H s:=I.ZO λp hp=>I.pin p (Yk _ (Yx _ hp))
theorem ZbZ {iter:Expr}{body:List Stmt}{wi:TI}{g:TG}{tb:TS}{pos:Pos} (hp:PassesOwn (model X.prog X.w) X.A X.env X.xe) (hc:X.calm=true) (hi:PI X tg iter wi) (hg:PG X tg g) (hb:PSs X body tb)
  (hs:∀x,foldedSetIterable iter X.env x=pure x:=by intro _;rfl):PS X (.For tg iter body [] pos) (tFor wi g tb):=by
 intro pins s σ H D I h
 refine wpAny_For (thn (hi pins s σ H _ I h) λv s1 h1=>thn h1 λitv s2 h2=>?_) hs
 obtain⟨it,fp,tn,J,H2,e,I2,T,st2,f2,W,⟨m0,w0⟩,turn⟩:=h2
 subst e
 -- what stays true of the iterator's objects through the loop
 have stat:∀{H':Hp},(∀b∈fp,H' b=none)->∀b∈fp,FpOk X pins H' b:=λhn b hb=>⟨hn b hb,(f2 b hb).2⟩
 refine codeAny_forLoop_any (λn s'=>∃i σ' H',Inv X pins σ' H' s'/\tn i s'.heap/\(∀b∈fp,H' b=none)/\W i n σ' H') ?_ m0 ⟨0,σ,H2,I2,st2,λb hb=>(f2 b hb).1,w0⟩
 rintro n s3 ⟨i,σ3,H3,I3,st3,fr3,w3⟩
 rcases turn i n σ3 H3 w3 with⟨stop,qn⟩|⟨go,N,hN,step⟩
 ·refine wpAny_passesOwn hp (thn (T.done X rfl rfl rfl hc i pins s3 σ3 H3 X.xe I3 (stat fr3) st3 stop) λr s4 ⟨hr,I4⟩=>?_)
  subst hr
  exact wpAny_execs_nil ⟨σ3,H3,I4,qn⟩
 ·refine wpAny_passesOwn hp (thn (T.item X rfl rfl rfl hc i pins s3 σ3 H3 X.xe I3 (stat fr3) st3 go) λr s4 ⟨u,hr,h4⟩=>?_)
  subst hr
  refine wpAny_passesOwn hp (thn h4 λ_ s5 ⟨x,H5,I5,r5,y5,st5,fr5⟩=>?_)
  have I5':=I5.pinned (stat fr5) (T.obj _ _ st5)
  refine wpAny_passesOwn hp (thn (hg _ s5 σ3 H5 x u _ I5' r5 (step x H5 y5)) λ_ s6 ⟨σ6,H6,I6,q6⟩=>?_)
  refine wpAny_passesOwn hp (thn (hb _ s6 σ6 H6 _ I6 q6) λf s7 q7=>?_)
  have again:∀{σ7:St}{H7:Hp},Inv X (pins++Zay fp s5.heap) σ7 H7 s7->N σ7 H7->∃m,m<n/\∃i σ' H',Inv X pins σ' H' s7/\tn i s7.heap/\(∀b∈fp,H' b=none)/\W i m σ' H':=λ{σ7 H7} I7 n7=>by
   obtain⟨m',hm,w7⟩:=hN σ7 H7 n7
   refine⟨m',hm,i+1,σ7,H7,I7.Zcr,T.keep _ _ _ st5 λb hb o e=>(I7.pin (b,o) (Yk _ (Yk _ (ZaR hb e)))).1,λb hb=>?_,w7⟩
   obtain⟨o,e,d⟩:=T.obj _ _ st5 b hb
   exact(I7.pin (b,o) (Yk _ (Yk _ (ZaR hb e)))).2.1
  cases f with
  |next=>obtain⟨σ7,H7,I7,n7⟩:=q7;exact again I7 n7
  |cont=>obtain⟨σ7,H7,I7,n7⟩:=q7;exact again I7 n7
  |brk=>obtain⟨σ7,H7,I7,q7⟩:=q7;exact⟨σ7,H7,I7.Zcr,q7⟩
  |ret v=>obtain⟨x7,σ7,H7,I7,r7,q7⟩:=q7;exact⟨x7,σ7,H7,I7.Zcr,r7,q7⟩
end
theorem Zjt {K:PySem.W.Frag}{a:Addr}{xs:List V}{g:TG}{tb:TS}{D:Ends}{σ:St}{H:Hp} (Pv:Nat->St->Hp->Prop) (h0:Pv 0 σ H) (hl:∀i σ H,i<=xs.length->Pv i σ H->SqL K H a xs)
  (hs:∀i x σ H,xs[i]?=some x->Pv i σ H->g x σ H fun σ2 H2=>tb {D with nx:=Pv (i+1),ct:=Pv (i+1),bk:=D.nx} σ2 H2) (hd:∀σ H,Pv xs.length σ H->D.nx σ H) :
  ∃W:Nat->Nat->St->Hp->Prop,(∃m,W 0 m σ H)/\∀i m σ H,W i m σ H ->
   ((Itl K a).stop i H/\D.nx σ H)\/((Itl K a).go i H/\∃N:St->Hp->Prop,(∀σ' H',N σ' H'->∃m',m'<m/\W (i+1) m' σ' H')/\∀x H',(Itl K a).yld i H x H'->g x σ H' fun σ2 H2=>tb {D with nx:=N,ct:=N,bk:=D.nx} σ2 H2):=by
 refine⟨λi m σ H=>m=xs.length-i/\i<=xs.length/\Pv i σ H,⟨xs.length,by simp,Yt _,h0⟩,?_⟩
 rintro i m σ H ⟨rfl,hi,p⟩
 have q:=hl i σ H hi p
 by_cases hlt:i<xs.length
 ·refine .inr ⟨⟨xs,xs[i],q,by simp[hlt]⟩,Pv (i+1),fun σ' H' p'=>⟨xs.length-(i+1),by omega,rfl,hlt,p'⟩,λx H' y=>?_⟩
  obtain⟨e,y⟩:=y
  subst e
  exact hs i x σ _ (y xs q) p
 ·have e:i=xs.length:=by omega
  subst e
  exact .inl ⟨⟨xs,q,Ye _⟩,hd σ H p⟩
theorem Zbw {lo:Int}{n:Nat}{g:TG}{tb:TS}{D:Ends}{σ:St}{H:Hp} (Pv:Nat->St->Hp->Prop) (h0:Pv 0 σ H)
  (hs:∀i σ H,i<n->Pv i σ H->g (.int (lo+i)) σ H fun σ2 H2=>tb {D with nx:=Pv (i+1),ct:=Pv (i+1),bk:=D.nx} σ2 H2) (hd:∀σ H,Pv n σ H->D.nx σ H) :
  ∃W:Nat->Nat->St->Hp->Prop,(∃m,W 0 m σ H)/\∀i m σ H,W i m σ H ->
   ((Itr lo n).stop i H/\D.nx σ H)\/((Itr lo n).go i H/\∃N:St->Hp->Prop,(∀σ' H',N σ' H'->∃m',m'<m/\W (i+1) m' σ' H')/\∀x H',(Itr lo n).yld i H x H'->g x σ H' fun σ2 H2=>tb {D with nx:=N,ct:=N,bk:=D.nx} σ2 H2):=by
 refine⟨λi m σ H=>m=n-i/\i<=n/\Pv i σ H,⟨n,by simp,Yt _,h0⟩,?_⟩
 rintro i m σ H ⟨rfl,hi,p⟩
 by_cases hlt:i<n
 ·refine .inr ⟨hlt,Pv (i+1),fun σ' H' p'=>⟨n-(i+1),by omega,rfl,hlt,p'⟩,λx H' y=>?_⟩
  obtain⟨e,y⟩:=y
  subst e y
  exact hs i σ _ hlt p
 ·have e:i=n:=by omega
  subst e
  exact .inl ⟨Ye _,hd σ H p⟩
noncomputable abbrev R2:=V->V->Hp->VK->Prop
noncomputable def OpR (X:Cx) (f:Value->Value->Sem Value) (r:R2):Prop :=
 ∀(pins:List (Addr×Obj)) (s:Shared) (σ:St) (H:Hp) (x y:V) (v u:Value) (Q:VK),Inv X pins σ H s->RelV x v->RelV y u->r x y H Q ->
  wpAny (model X.prog X.w) X.A (f v u) (EP X pins σ Q) X.xe s
noncomputable def UnR (X:Cx) (f:Value->Sem Value) (r:V->Hp->VK->Prop):Prop :=
 ∀(pins:List (Addr×Obj)) (s:Shared) (σ:St) (H:Hp) (x:V) (v:Value) (Q:VK),Inv X pins σ H s->RelV x v->r x H Q ->
  wpAny (model X.prog X.w) X.A (f v) (EP X pins σ Q) X.xe s
noncomputable def Zbc (X:Cx) (f:Value) (r:List V->Hp->VK->Prop):Prop :=
 ∀(pins:List (Addr×Obj)) (s:Shared) (σ:St) (H:Hp) (xs:List V) (us:List Value) (Q:VK),Inv X pins σ H s->Vals xs us->r xs H Q ->
  wpAny (model X.prog X.w) X.A (call f us) (EP X pins σ Q) X.xe s
noncomputable def tOp (r:R2) (ta tb:TE):TE:=fun σ H Q=>ta σ H λx H1=>tb σ H1 λy H2=>r x y H2 Q
noncomputable def tUn (r:V->Hp->VK->Prop) (ta:TE):TE:=fun σ H Q=>ta σ H λx H1=>r x H1 Q
noncomputable def rI (C:Int->Int->Prop) (g:Int->Int->V):R2:=λx y H Q=>∃i j,x=.int i/\y=.int j/\C i j/\Q (g i j) H
noncomputable def rI0 (g:Int->Int->V):R2:=λx y H Q=>∃i j,x=.int i/\y=.int j/\Q (g i j) H
noncomputable def rU (g:Int->V):V->Hp->VK->Prop:=λx H Q=>∃i,x=.int i/\Q (g i) H
section
variable {X:Cx}{a b c:Expr}{ta tb tc:TE}{pos:Pos}
theorem binT (ha:PE X a ta) (hb:PE X b tb) {pins:List (Addr×Obj)}{s:Shared}{σ:St}{H:Hp}{R:V->V->Hp->Prop} (I:Inv X pins σ H s)
  (h:ta σ H λx H1=>tb σ H1 λy H2=>R x y H2) {Q:Value->Shared->Prop}{f:Value->Value->Sem Value}
  (hf:∀v u s2 x y H2,Inv X pins σ H2 s2->RelV x v->RelV y u->R x y H2->wpAny (model X.prog X.w) X.A (f v u) Q X.xe s2) :
  wpAny (model X.prog X.w) X.A (eval a X.env) (λv s₁=>wpAny (model X.prog X.w) X.A (eval b X.env) (λu s₂=>wpAny (model X.prog X.w) X.A (f v u) Q X.xe s₂) X.xe s₁) X.xe s:=by
 refine thn (ha pins s σ H _ I h) λv s1 ⟨x,H1,I1,r1,q1⟩=>?_
 refine thn (hb pins s1 σ H1 _ I1 q1) λu s2 ⟨y,H2,I2,r2,q2⟩=>?_
 exact hf v u s2 x y H2 I2 r1 r2 q2
theorem Zr {op:Operator}{r:R2} (ho:OpR X (binaryOp op) r) (ha:PE X a ta) (hb:PE X b tb):PE X (.BinOp a op b pos) (tOp r ta tb):=by
 intro pins s σ H Q I h
 exact wpAny_BinOp (binT ha hb I h λv u s2 x y H2 I2 rx ry q=>ho pins s2 σ H2 x y v u Q I2 rx ry q)
theorem Zlq {op:UnaryOp}{r:V->Hp->VK->Prop} (ho:UnR X (unaryOp op) r) (ha:PE X a ta):PE X (.UnaryOp op a pos) (tUn r ta):=by
 intro pins s σ H Q I h
 exact UnaryOp_ (thn (ha pins s σ H _ I h) λv s1 ⟨x,H1,I1,r1,q1⟩=>ho pins s1 σ H1 x v Q I1 r1 q1)
theorem opI {f:Value->Value->Sem Value}{C:Int->Int->Prop}{g:Int->Int->Int}
  (rule:∀(i j:Int) (t u:Tok) (s:Shared) (Q:Value->Shared->Prop) (E:Value->Shared->Prop),C i j->Q (.int (g i j) s.toks) {s with toks:=s.toks+1}->wpAny (model X.prog X.w) X.A (f (.int i t) (.int j u)) Q E s) :
  OpR X f (rI C λi j=>.int (g i j)):=by
 intro pins s σ H x y v u Q I rx ry h
 obtain⟨i,j,rfl,rfl,hc,q⟩:=h
 obtain⟨t,rfl⟩:=rx
 obtain⟨t',rfl⟩:=ry
 exact rule i j t t' s _ _ hc ⟨.int (g i j),H,I.tok _,⟨_,rfl⟩,q⟩
theorem opI0 {f:Value->Value->Sem Value}{g:Int->Int->Int}
  (rule:∀(i j:Int) (t u:Tok) (s:Shared) (Q:Value->Shared->Prop) (E:Value->Shared->Prop),Q (.int (g i j) s.toks) {s with toks:=s.toks+1}->wpAny (model X.prog X.w) X.A (f (.int i t) (.int j u)) Q E s) :
  OpR X f (rI0 λi j=>.int (g i j)):=by
 intro pins s σ H x y v u Q I rx ry h
 obtain⟨i,j,rfl,rfl,q⟩:=h
 obtain⟨t,rfl⟩:=rx
 obtain⟨t',rfl⟩:=ry
 exact rule i j t t' s _ _ ⟨.int (g i j),H,I.tok _,⟨_,rfl⟩,q⟩
theorem opB0 {f:Value->Value->Sem Value}{g:Int->Int->Bool}
  (rule:∀(i j:Int) (t u:Tok) (s:Shared) (Q:Value->Shared->Prop) (E:Value->Shared->Prop),Q (.bool (g i j)) s->wpAny (model X.prog X.w) X.A (f (.int i t) (.int j u)) Q E s) :
  OpR X f (rI0 λi j=>.bl (g i j)):=by
 intro pins s σ H x y v u Q I rx ry h
 obtain⟨i,j,rfl,rfl,q⟩:=h
 obtain⟨t,rfl⟩:=rx
 obtain⟨t',rfl⟩:=ry
 exact rule i j t t' s _ _ ⟨.bl (g i j),H,I,rfl,q⟩
noncomputable def Zma (i j:Int):Prop:=0<=j/\j<=1000000/\i.natAbs<2 ^ 64
theorem Z9:OpR X (binaryOp .Add) (rI0 λi j=>.int (i+j)):=opI0 λ_ _ _ _ _ _ _ q=>add_int q
theorem Zae:OpR X (binaryOp .Sub) (rI0 λi j=>.int (i-j)):=opI0 λ_ _ _ _ _ _ _ q=>sub_int q
theorem Zh1:OpR X (binaryOp .Mod) (rI (λ_ j=>0<j) λi j=>.int (i % j)):=opI λi j _ _ _ _ _ hc q=>by
 have h1:(0:Int)<j:=hc
 exact mod_int' (by omega) (by rw[Int.fmod_eq_emod_of_nonneg i (by omega)];exact q)
theorem Zfp:OpR X (binaryOp .Pow) (rI Zma λi j=>.int (i ^ j.toNat)):=opI λ_ _ _ _ _ _ _ hc q=>pow_int_small hc.1 hc.2.1 hc.2.2 q
theorem unI {f:Value->Sem Value}{g:Int->Int}
  (rule:∀(i:Int) (t:Tok) (s:Shared) (Q:Value->Shared->Prop) (E:Value->Shared->Prop),Q (.int (g i) s.toks) {s with toks:=s.toks+1}->wpAny (model X.prog X.w) X.A (f (.int i t)) Q E s) :
  UnR X f (rU λi=>.int (g i)):=by
 intro pins s σ H x v Q I rx h
 obtain⟨i,rfl,q⟩:=h
 obtain⟨t,rfl⟩:=rx
 exact rule i t s _ _ ⟨.int (g i),H,I.tok _,⟨_,rfl⟩,q⟩
theorem Zh2:UnR X (unaryOp .USub) (rU λi=>.int (-i)):=unI λ_ _ _ _ _ q=>neg_int q
end
noncomputable def Znn:V->V->Bool
 |.non,.non=>true|.non,.int _=>true|.int _,.non=>true|.non,.bl _=>true|.bl _,.non=>true|.non,.str _=>true|.str _,.non=>true
 |.int _,.int _=>true|.bl _,.bl _=>true|.str _,.str _=>true|.byt _,.byt _=>true
 |.int _,.str _=>true|.str _,.int _=>true|.bl _,.str _=>true|.str _,.bl _=>true
 |_,_=>false
noncomputable def rEq:R2:=λx y H Q=>Znn x y=true/\Q (.bl (decide (x=y))) H
noncomputable def rNe:R2:=λx y H Q=>Znn x y=true/\Q (.bl (!decide (x=y))) H
theorem Zp5 {i j:Int}:decide (V.int i=V.int j)=(i==j):=by
 rw[Bool.eq_iff_iff]
 simp
theorem ZsO {i j:Bool}:decide (V.bl i=V.bl j)=(i==j):=by
 rw[Bool.eq_iff_iff]
 simp
theorem Zp6 {i j:Str}:decide (V.str i=V.str j)=(i==j):=by
 rw[Bool.eq_iff_iff]
 simp
theorem Zp7 {i j:Array UInt8}:decide (V.byt i=V.byt j)=(i.toList==j.toList):=by
 rw[Bool.eq_iff_iff]
 cases i
 cases j
 simp
section
variable {X:Cx}{a b c:Expr}{ta tb tc:TE}{pos:Pos}
theorem ZT {pins:List (Addr×Obj)}{σ:St}{H:Hp}{s:Shared}{Q:VK}{k k':Bool} (I:Inv X pins σ H s) (q:Q (.bl k) H) (e:k=k'):EP X pins σ Q (.bool k') s:=by
 subst e
 exact⟨.bl k,H,I,rfl,q⟩
theorem Zbd:OpR X (compareOp .Eq) rEq:=by
 intro pins s σ H x y v u Q I rx ry h
 obtain⟨hs,q⟩:=h
 cases x with
 |non =>
  cases rx
  cases y with
  |non=>cases ry;exact PySem.EqNone.eq_none_none (ZT I q (by simp))
  |bl j=>cases ry;exact PySem.EqNone.eq_none_bool (ZT I q (by simp))
  |int j=>obtain⟨t',rfl⟩:=ry;exact PySem.EqNone.eq_none_int (ZT I q (by simp))
  |str j=>obtain⟨t',rfl⟩:=ry;exact PySem.EqNone.eq_none_str (ZT I q (by simp))
  |_=>exact absurd (show false=true from hs) YL
 |bl i =>
  cases rx
  cases y with
  |non=>cases ry;exact PySem.EqNone.eq_bool_none (ZT I q (by simp))
  |bl j=>cases ry;exact eq_bool (ZT I q ZsO)
  |str j=>obtain⟨t',rfl⟩:=ry;exact PySem.EqMixed.eq_bool_str (ZT I q (by simp))
  |_=>exact absurd (show false=true from hs) YL
 |int i =>
  obtain⟨t,rfl⟩:=rx
  cases y with
  |non=>cases ry;exact PySem.EqNone.eq_int_none (ZT I q (by simp))
  |int j=>obtain⟨t',rfl⟩:=ry;exact eq_int (ZT I q Zp5)
  |str j=>obtain⟨t',rfl⟩:=ry;exact PySem.EqMixed.eq_int_str (ZT I q (by simp))
  |_=>exact absurd (show false=true from hs) YL
 |str i =>
  obtain⟨t,rfl⟩:=rx
  cases y with
  |non=>cases ry;exact PySem.EqNone.eq_str_none (ZT I q (by simp))
  |bl j=>cases ry;exact PySem.EqMixed.eq_str_bool (ZT I q (by simp))
  |int j=>obtain⟨t',rfl⟩:=ry;exact PySem.EqMixed.eq_str_int (ZT I q (by simp))
  |str j=>obtain⟨t',rfl⟩:=ry;exact eq_str (ZT I q Zp6)
  |_=>exact absurd (show false=true from hs) YL
 |byt i =>
  obtain⟨t,rfl⟩:=rx
  cases y with
  |byt j=>obtain⟨t',rfl⟩:=ry;exact PySem.W.eq_bytes (ZT I q Zp7)
  |_=>exact absurd (show false=true from hs) YL
 |_=>cases y<;>exact absurd (show false=true from hs) YL
theorem Zc4:OpR X (compareOp .NotEq) rNe:=by
 intro pins s σ H x y v u Q I rx ry h
 obtain⟨hs,q⟩:=h
 cases x with
 |non =>
  cases rx
  cases y with
  |non=>cases ry;exact PySem.EqNone.ne_none_none (ZT I q (by simp))
  |bl j=>cases ry;exact PySem.EqNone.ne_none_bool (ZT I q (by simp))
  |int j=>obtain⟨t',rfl⟩:=ry;exact PySem.EqNone.ne_none_int (ZT I q (by simp))
  |str j=>obtain⟨t',rfl⟩:=ry;exact PySem.EqNone.ne_none_str (ZT I q (by simp))
  |_=>exact absurd (show false=true from hs) YL
 |bl i =>
  cases rx
  cases y with
  |non=>cases ry;exact PySem.EqNone.ne_bool_none (ZT I q (by simp))
  |bl j=>cases ry;exact ne_bool (ZT I q (congrArg not ZsO))
  |str j=>obtain⟨t',rfl⟩:=ry;exact PySem.EqMixed.ne_bool_str (ZT I q (by simp))
  |_=>exact absurd (show false=true from hs) YL
 |int i =>
  obtain⟨t,rfl⟩:=rx
  cases y with
  |non=>cases ry;exact PySem.EqNone.ne_int_none (ZT I q (by simp))
  |int j=>obtain⟨t',rfl⟩:=ry;exact ne_int (ZT I q (congrArg not Zp5))
  |str j=>obtain⟨t',rfl⟩:=ry;exact PySem.EqMixed.ne_int_str (ZT I q (by simp))
  |_=>exact absurd (show false=true from hs) YL
 |str i =>
  obtain⟨t,rfl⟩:=rx
  cases y with
  |non=>cases ry;exact PySem.EqNone.ne_str_none (ZT I q (by simp))
  |bl j=>cases ry;exact PySem.EqMixed.ne_str_bool (ZT I q (by simp))
  |int j=>obtain⟨t',rfl⟩:=ry;exact PySem.EqMixed.ne_str_int (ZT I q (by simp))
  |str j=>obtain⟨t',rfl⟩:=ry;exact ne_str (ZT I q (congrArg not Zp6))
  |_=>exact absurd (show false=true from hs) YL
 |byt i =>
  obtain⟨t,rfl⟩:=rx
  cases y with
  |byt j=>obtain⟨t',rfl⟩:=ry;exact PySem.W.ne_bytes (ZT I q (congrArg not Zp7))
  |_=>exact absurd (show false=true from hs) YL
 |_=>cases y<;>exact absurd (show false=true from hs) YL
theorem Zhf:OpR X (compareOp .Lt) (rI0 λi j=>.bl (decide (i<j))):=opB0 λ_ _ _ _ _ _ _ q=>lt_int q
theorem Zp8:OpR X (compareOp .LtE) (rI0 λi j=>.bl (decide (i<=j))):=opB0 λ_ _ _ _ _ _ _ q=>le_int q
theorem Zff:OpR X (compareOp .Gt) (rI0 λi j=>.bl (decide (j<i))):=opB0 λ_ _ _ _ _ _ _ q=>gt_int q
theorem ZsP:OpR X (compareOp .GtE) (rI0 λi j=>.bl (decide (j<=i))):=opB0 λ_ _ _ _ _ _ _ q=>ge_int q
theorem Zju:OpR X (compareOp .Is) (λx y H Q=>y=.non/\Q (.bl (decide (x=.non))) H):=by
 intro pins s σ H x y v u Q I rx ry h
 obtain⟨rfl,q⟩:=h
 cases ry
 refine is_none_gen (ZT I q ?_)
 cases x<;>first
  |(cases rx;rfl)
  |(obtain⟨t,rfl⟩:=rx;rfl)
theorem Zvy:OpR X (compareOp .IsNot) (λx y H Q=>y=.non/\Q (.bl (!decide (x=.non))) H):=by
 intro pins s σ H x y v u Q I rx ry h
 obtain⟨rfl,q⟩:=h
 cases ry
 refine isnot_none_gen (ZT I q ?_)
 cases x<;>first
  |(cases rx;rfl)
  |(obtain⟨t,rfl⟩:=rx;rfl)
theorem Zn (b:Expr) {op:CmpOp} (h:op≠.In:=by decide) (h2:op≠.NotIn:=by decide):behindInMarks op b=false:=by
 have e1:(op==CmpOp.In)=false:=by cases op<;>first|rfl|exact absurd rfl h
 have e2:(op==CmpOp.NotIn)=false:=by cases op<;>first|rfl|exact absurd rfl h2
 cases b<;>simp[behindInMarks,e1,e2]
theorem ZI {op:CmpOp}{r:R2} (ho:OpR X (compareOp op) r) (ha:PE X a ta) (hb:PE X b tb) (hm:behindInMarks op b=false):PE X (.Compare a [op] [b] pos) (tOp r ta tb):=by
 intro pins s σ H Q I h
 exact wpAny_Compare1 (binT ha hb I h λv u s2 x y H2 I2 rx ry q=>ho pins s2 σ H2 x y v u Q I2 rx ry q) hm
noncomputable def Zno (t:TE):TT:=fun σ H Q=>t σ H λx H'=>∃k,x=.bl k/\Q k H'
theorem Zq {op:CmpOp}{r:R2} (ho:OpR X (compareOp op) r) (ha:PE X a ta) (hb:PE X b tb) (hm:behindInMarks op b=false):PT X (.Compare a [op] [b] pos) (Zno (tOp r ta tb)):=by
 intro pins s σ H Q I h
 refine wpAny_isTrue_Compare1 (thn (ha pins s σ H _ I h) λv s1 ⟨x,H1,I1,r1,q1⟩=>thn (hb pins s1 σ H1 _ I1 q1) λu s2 ⟨y,H2,I2,r2,q2⟩ =>
  thn (ho pins s2 σ H2 x y v u _ I2 r1 r2 q2) λc s3 ⟨z,H3,I3,r3,k,e,q3⟩=>?_) hm
 subst e
 cases r3
 exact wpAny_truthy_bool ⟨H3,I3,q3⟩
noncomputable def Zmb (r r':R2) (ta tb tc:TE):TE:=fun σ H Q=>ta σ H λx H1=>tb σ H1 λy H2=>r x y H2 λz H3=>∃k,z=.bl k /\
 (if k=true then tc σ H3 λw' H4=>r' y w' H4 Q else Q (.bl false) H3)
theorem Znp {op op':CmpOp}{r r':R2} (ho:OpR X (compareOp op) r) (ho':OpR X (compareOp op') r') (ha:PE X a ta) (hb:PE X b tb) (hc:PE X c tc)
  (hm:lastMarks [op,op'] [b,c]=false:=by with_unfolding_all rfl):PE X (.Compare a [op,op'] [b,c] pos) (Zmb r r' ta tb tc):=by
 intro pins s σ H Q I h
 refine Compare_chain (thn (ha pins s σ H _ I h) λv s1 ⟨x,H1,I1,r1,q1⟩=>chain_link (thn (hb pins s1 σ H1 _ I1 q1) λu s2 ⟨y,H2,I2,r2,q2⟩ =>
  thn (ho pins s2 σ H2 x y v u _ I2 r1 r2 q2) λd s3 ⟨z,H3,I3,r3,k,e,q3⟩=>?_)) hm
 subst e
 cases r3
 refine wpAny_truthy_bool ?_
 cases k with
 |false=>exact ite_ff ⟨.bl false,H3,I3,rfl,q3⟩
 |true=>exact ite_tt (chain_last (thn (hc pins s3 σ H3 _ I3 q3) λw' s4 ⟨z',H4,I4,r4,q4⟩=>ho' pins s4 σ H4 y z' u w' Q I4 r2 r4 q4))
theorem ZsQ {op op':CmpOp}{r r':R2} (ho:OpR X (compareOp op) r) (ho':OpR X (compareOp op') r') (ha:PE X a ta) (hb:PE X b tb) (hc:PE X c tc)
  (hm:lastMarks [op,op'] [b,c]=false:=by with_unfolding_all rfl):PT X (.Compare a [op,op'] [b,c] pos) (Zno (Zmb r r' ta tb tc)):=by
 intro pins s σ H Q I h
 refine isTrue_chain (thn (ha pins s σ H _ I h) λv s1 ⟨x,H1,I1,r1,q1⟩=>test_link (thn (hb pins s1 σ H1 _ I1 q1) λu s2 ⟨y,H2,I2,r2,q2⟩ =>
  thn (ho pins s2 σ H2 x y v u _ I2 r1 r2 q2) λd s3 ⟨z,H3,I3,r3,k,e,q3⟩=>?_)) hm
 subst e
 cases r3
 refine wpAny_truthy_bool ?_
 cases k with
 |false =>
  obtain⟨k',e',q'⟩:=q3
  cases e'
  exact ite_ff ⟨H3,I3,q'⟩
 |true =>
  refine ite_tt (test_last (thn (hc pins s3 σ H3 _ I3 q3) λw' s4 ⟨z',H4,I4,r4,q4⟩=>thn (ho' pins s4 σ H4 y z' u w' _ I4 r2 r4 q4) λd' s5 ⟨z2,H5,I5,r5,k2,e2,q5⟩=>?_))
  subst e2
  cases r5
  exact wpAny_truthy_bool ⟨H5,I5,q5⟩
theorem Zmc:(sizeLine:Nat)<2 ^ 63:=by rw[sizeLine_eq];decide
theorem vals1 {x:V}{us:List Value} (r:Vals [x] us):∃u,us=[u]/\RelV x u:=by
 cases r with
 |cons r1 r2=>cases r2;exact⟨_,rfl,r1⟩
theorem vals2 {x y:V}{us:List Value} (r:Vals [x,y] us):∃u w',us=[u,w']/\RelV x u/\RelV y w':=by
 cases r with
 |cons r1 r2 =>
  cases r2 with
  |cons r3 r4=>cases r4;exact⟨_,_,rfl,r1,r3⟩
theorem ZsR:Zbc X (.builtin "abs") (λxs H Q=>∃i,xs=[.int i]/\Q (.int (if i<0 then -i else i)) H):=by
 intro pins s σ H xs us Q I r h
 obtain⟨i,rfl,q⟩:=h
 obtain⟨u,rfl,t,rfl⟩:=vals1 r
 exact call_abs_int λu tk=>⟨.int (if i<0 then -i else i),H,I.tok _,⟨_,rfl⟩,q⟩
theorem Zh3 (hc:X.calm=true):Zbc X (.builtin "max") (λxs H Q=>∃i j,xs=[.int i,.int j]/\Q (.int (if j>i then j else i)) H):=by
 intro pins s σ H xs us Q I r h
 obtain⟨i,j,rfl,q⟩:=h
 obtain⟨u,w',rfl,⟨t,rfl⟩,⟨t',rfl⟩⟩:=vals2 r
 refine max_two_ints (I.ok.hd hc) λh' tk k=>⟨_,H,I.kept k,?_,q⟩
 by_cases hj:j>i
 ·rw[Yd hj,Yd hj];exact⟨_,rfl⟩
 ·rw[Yc hj,Yc hj];exact⟨_,rfl⟩
theorem ZqR (hc:X.calm=true):Zbc X (.builtin "min") (λxs H Q=>∃i j,xs=[.int i,.int j]/\Q (.int (if j<i then j else i)) H):=by
 intro pins s σ H xs us Q I r h
 obtain⟨i,j,rfl,q⟩:=h
 obtain⟨u,w',rfl,⟨t,rfl⟩,⟨t',rfl⟩⟩:=vals2 r
 refine min_two_ints (I.ok.hd hc) λh' tk k=>⟨_,H,I.kept k,?_,q⟩
 by_cases hj:j<i
 ·rw[Yd hj,Yd hj];exact⟨_,rfl⟩
 ·rw[Yc hj,Yc hj];exact⟨_,rfl⟩
theorem ZqS:Zbc X (.type "int") (λxs H Q=>(∃i,xs=[.int i]/\Q (.int i) H)\/∃k,xs=[.bl k]/\Q (.int (if k then 1 else 0)) H):=by
 intro pins s σ H xs us Q I r h
 rcases h with⟨i,rfl,q⟩|⟨k,rfl,q⟩
 ·obtain⟨u,rfl,t,rfl⟩:=vals1 r
  exact call_int_int ⟨.int i,H,I,⟨_,rfl⟩,q⟩
 ·obtain⟨u,rfl,r1⟩:=vals1 r
  cases r1
  exact call_int_bool ⟨.int (if k then 1 else 0),H,I.tok _,⟨_,rfl⟩,q⟩
end
structure ObjM (h:Heap) (x dx C:Addr) (mA:Str->Option Value):Prop where
 obj:h.get? x=some (PySem.W.instObj C dx)
 ns:h.Ns1 dx mA
 ne:dx≠x
theorem ZqT {h:Heap}{dx:Addr}{mA:Str->Option Value} (n:h.Ns1 dx mA):∃od,h.get? dx=some od/\∀name,PySem.W.lookIn name od=some (mA name):=by
 obtain⟨o,es,ep,ho,hd,hk,_,hm⟩:=n
 refine⟨o,ho,λname=>?_⟩
 have e:=hm name
 unfold nsFind findBy at e
 rw[<-Array.find?_toList]at e
 unfold PySem.W.lookIn
 rw[hd]
 dsimp only
 split
 ·rename_i y q
  rw[q]at e
  exact congrArg some e
 ·rename_i q
  rw[q]at e
  have a:es.toList.any (·.refKey)=false:=by
   rw[List.any_eq_false]
   intro y hy
   obtain⟨z,t,hkey⟩:=hk y (Array.mem_toList_iff.mp hy)
   simp[DictEntry.refKey,hkey]
  have a':¬ es.toList.any (·.refKey)=true:=by rw[a];exact YL
  rw[Yc a']
  exact congrArg some e
theorem ObjM.look {h:Heap}{x dx C:Addr}{mA:Str->Option Value} (I:ObjM h x dx C mA):∃od,PySem.W.InstAt h x (PySem.W.instObj C dx) C (some od)/\∀name,PySem.W.lookIn name od=some (mA name) :=
 let ⟨od,ho,hl⟩:=ZqT I.ns
 ⟨od,⟨I.obj,rfl,rfl,ho⟩,hl⟩
noncomputable def putF (f:Str) (v:V):List (Str×V)->List (Str×V)
 |[]=>[(f,v)]
 |(g,x)::r=>if g=f then (g,v)::r else (g,x)::putF f v r
theorem Zi7.some_of {v:V}{o:Option Value} (r:Zi7 (some v) o):∃u,o=some u/\RelV v u:=by
 cases o with
 |none=>exact(show False from r).elim
 |some u=>exact⟨u,rfl,r⟩
section
variable {P:Program}{w:World}{H H':Hp}{h h':Heap}{a C dx:Addr}{fs fs':List (Str×V)}
theorem Zvz (hok:HOk P w H h) (e:H a=some (.ins C dx fs)):∃mA,ObjM h a dx C mA/\(∀f,Zi7 (fs.lookup f) (mA f))/\PySem.Within mA (fs.map (·.1))/\fs.length<=1000/\H dx=some (.own a):=by
 obtain⟨d,z,ne,ob,mA,n,r,q⟩:=(show Zaa P w H h a (.ins C dx fs)from hok a _ e)
 exact⟨mA,⟨ob,n,ne⟩,r,q,z,d⟩
end
structure Cls (K:PySem.W.Frag) (C:Addr):Prop where
 pg:PySem.W.plainGet K C Str.empty=true
 hd:PySem.W.hasDictIn K C=true
 po:PySem.W.plainOver K C=true
 sa:PySem.W.findIn K (.ref C) "__setattr__"=some (some (.builtin "object.__setattr__"))
theorem Cls.get {K:PySem.W.Frag}{C:Addr} (c:Cls K C) (f:Str):PySem.W.plainGet K C f=true:=c.pg
section
variable {X:Cx}{pins:List (Addr×Obj)}{σ:St}{H:Hp}{s:Shared}{A:Around}{E:Value->Shared->Prop}{Q:Value->Shared->Prop}{c:Value}{b:Bool}
inductive TyOf (K:PySem.W.Frag) (H:Hp):V->Value->Prop where
 |non:TyOf K H .non (.type "NoneType")
 |bl (x:Bool):TyOf K H (.bl x) (.type "bool")
 |int (i:Int):TyOf K H (.int i) (.type "int")
 |str (x:Str):TyOf K H (.str x) (.type "str")
 |flt (x:UInt64):TyOf K H (.flt x) (.type "float")
 |lst {a:Addr}{xs:List V} (e:H a=some (.lst xs)):TyOf K H (.ref a) (.type "list")
 |frz {a:Addr}{o:Obj}{xs:List V} (e:H a=some (.frz o (.lst xs))):TyOf K H (.ref a) (.type "list")
 |tup {a:Addr}{xs:List V} (e:H a=some (.tup xs)):TyOf K H (.ref a) (.type "tuple")
 |dK {a:Addr}{kvs:List (Key×V)} (e:H a=some (.dK kvs)):TyOf K H (.ref a) (.type "dict")
 |dT {a:Addr}{kvs:List (List Key×V)} (e:H a=some (.dT kvs)):TyOf K H (.ref a) (.type "dict")
 |ins {a C dx:Addr}{fs:List (Str×V)} (e:H a=some (.ins C dx fs)) (cl:Cls K C) (ha:PySem.W.findIn K (.ref C) "__class__"=some (some (.builtin "object.__class__")))
   (hn:PySem.W.specialIn K (.builtin "object.__class__") "__get__"=some (some (.builtin "getset_descriptor.__get__"))) (htk:PySem.W.takesIn K (.builtin "object.__class__")=some true)
   (hm:PySem.W.mroIn K C (.type "object")=some true):TyOf K H (.ref a) (.ref C)
theorem ZqU {x:V}{u t:Value} (I:Inv X pins σ H s) (rx:RelV x u) (ty:TyOf X.K H x t) (e:PySem.W.kitOne X.K t c=some b) (h:∀tk,Q (.bool b) {s with toks:=tk}) :
  wpAny (model X.prog X.w) A (call (.builtin "isinstance") [u,c]) Q E s:=by
 cases ty with
 |non=>cases(show u=Value.none from rx);exact PySem.W.kia_one PySem.W.kitx_none I.kIn True.intro e (λz=>nomatch z) h
 |bl y=>cases(show u=Value.bool y from rx);exact PySem.W.kia_one PySem.W.kitx_bool I.kIn True.intro e (λz=>nomatch z) h
 |int i=>obtain⟨t,q⟩:=(show ∃t,u=Value.int i t from rx);cases q;exact PySem.W.kia_one PySem.W.kitx_int I.kIn True.intro e (λz=>nomatch z) h
 |str y=>obtain⟨t,q⟩:=(show ∃t,u=Value.str y t from rx);cases q;exact PySem.W.kia_one PySem.W.kitx_str I.kIn True.intro e (λz=>nomatch z) h
 |flt y=>obtain⟨t,q⟩:=(show ∃t,u=Value.float y t from rx);cases q;exact PySem.W.kia_one PySem.W.kitx_float I.kIn True.intro e (λz=>nomatch z) h
 |@lst a xs ea =>
  cases(show u=Value.ref a from rx)
  obtain⟨_,_,n,_,h1⟩:=(show Zaa X.prog X.w H s.heap a (.lst xs)from I.hok a _ ea)
  exact PySem.W.kia_one PySem.W.kitx_list I.kIn ⟨_,h1,rfl⟩ e (λz=>nomatch z) h
 |@frz a ob xs ea =>
  cases(show u=Value.ref a from rx)
  obtain⟨_,_,_,n,_,h1⟩:=(show Zaa X.prog X.w H s.heap a (.frz ob (.lst xs))from I.hok a _ ea)
  exact PySem.W.kia_one PySem.W.kitx_list I.kIn ⟨_,h1,rfl⟩ e (λz=>nomatch z) h
 |@tup a xs ea =>
  cases(show u=Value.ref a from rx)
  obtain⟨_,_,_,p⟩:=(show Zaa X.prog X.w H s.heap a (.tup xs)from I.hok a _ ea)
  obtain⟨o,h1,h2,_⟩:=p
  exact PySem.W.kia_one PySem.W.kitx_tuple I.kIn ⟨o,h1,h2⟩ e (λz=>nomatch z) h
 |@dK a kvs ea =>
  cases(show u=Value.ref a from rx)
  obtain⟨_,_,vs,_,p⟩:=(show Zaa X.prog X.w H s.heap a (.dK kvs)from I.hok a _ ea)
  obtain⟨o,es,ep,h1,h2,_⟩:=p
  exact PySem.W.kia_one PySem.W.kitx_dict I.kIn ⟨o,h1,h2.1⟩ e (λz=>nomatch z) h
 |@dT a kvs ea =>
  cases(show u=Value.ref a from rx)
  obtain⟨_,_,xs,_,o,es,ep,h1,h2,_⟩:=(show Zaa X.prog X.w H s.heap a (.dT kvs)from I.hok a _ ea)
  exact PySem.W.kia_one PySem.W.kitx_dict I.kIn ⟨o,h1,h2.1⟩ e (λz=>nomatch z) h
 |@ins a C dx fs ea cl ha hn htk hm =>
  cases(show u=Value.ref a from rx)
  obtain⟨mA,O,_⟩:=Zvz I.hok ea
  obtain⟨od,J,_⟩:=O.look
  exact PySem.W.kia_one (PySem.W.kitx_own (cl.get _) cl.hd ha hn htk hm) I.kIn J e (λz=>nomatch z) h
end
structure Room (k:Nat) (A:Around):Prop where
 hd:A.handled=none
 dp:A.depth+3*k+5<recursionLimit
 un:A.units+16*k+200<cLine
theorem Room.mono {j k:Nat}{A:Around} (r:Room k A) (h:j<=k):Room j A:=⟨r.hd,by have:=r.dp;omega,by have:=r.un;omega⟩
theorem Room.deeper {k:Nat}{A:Around} (r:Room (k+1) A) (env:Env):Room k (A.deeper env) :=
 ⟨r.hd,by have:=r.dp;show A.depth+1+3*k+5 < _;omega,by have:=r.un;show A.units+3+16*k+200 < _;omega⟩
theorem Room.in1 {k:Nat}{A:Around} (r:Room (k+1) A):Room k A.in1 :=
 ⟨r.hd,by have:=r.dp;show A.depth+3*k+5 < _;omega,by have:=r.un;show A.units+1+16*k+200 < _;omega⟩
theorem Room.depth {k:Nat}{A:Around} (r:Room k A):A.depth<recursionLimit:=by have:=r.dp;omega
theorem Room.units {k:Nat}{A:Around} (r:Room k A):A.units+64<cLine:=by have:=r.un;omega
noncomputable def tNil:TA:=λ_ H Q=>Q [] H
noncomputable def Zp9 (ta:TE) (tr:TA):TA:=fun σ H Q=>ta σ H λx H1=>tr σ H1 λxs H2=>Q (x::xs) H2
section
variable {X:Cx}{e:Expr}{es:List Expr}{te:TE}{t:TA}{pos:Pos}
theorem Zb:PA X [] tNil:=λ_ _ _ _ H Q I h=>Calls.spliced_nil ⟨[],H,I,.nil,h⟩
theorem Za (ha:PE X e te) (hr:PA X es t) (hs:starEach (e::es) X.env=(false,eval e X.env)::starEach es X.env:=by rfl):PA X (e::es) (Zp9 te t):=by
 intro pos pins s σ H Q I h
 rw[hs]
 show wpAny _ _ (spliced ((false,eval e X.env)::backTo pos (starEach es X.env))) _ _ s
 refine Calls.spliced_cons (thn (ha pins s σ H _ I h) λu s1 ⟨x,H1,I1,r1,q1⟩=>?_)
 exact thn (hr pos pins s1 σ H1 _ I1 q1) λus s2 ⟨xs,H2,I2,r2,q2⟩=>⟨x::xs,H2,I2,.cons r1 r2,q2⟩
noncomputable def tTup (t:TA):TE:=fun σ H Q=>t σ H λxs H1=>xs.length<=sizeLine/\∀p,H1 p=none->Q (.ref p) (upd H1 p (.tup xs))
noncomputable def tLst (t:TA):TE:=fun σ H Q=>t σ H λxs H1=>xs.length<=sizeLine/\∀p,H1 p=none->Q (.ref p) (upd H1 p (.lst xs))
theorem ZbH {x1} (h:PA X es t):PE X (.Tuple es x1 pos) (tTup t):=by
 intro pins s σ H Q I hq
 refine wpAny_Tuple_spliced (thn (h pos pins s σ H _ I hq) λus s1 ⟨xs,H1,I1,r,z,q⟩=>⟨by rw[<-r.length];exact z,?_⟩)
 have hf:H1 s1.heap.objs.size=none:=I1.hok.fresh (Ye _)
 refine⟨.ref s1.heap.objs.size,upd H1 s1.heap.objs.size (.tup xs),I1.laid (t':=s1.toks) (λb u e=>Yh _ e) (Ye _) ?_,rfl,q _ hf⟩
 exact⟨z,us,r,⟨_,Ys _ rfl,rfl,_,rfl⟩⟩
theorem Zb0 (h:PA X es t):PE X (.List es pos) (tLst t):=by
 intro pins s σ H Q I hq
 refine wpAny_List_spliced (thn (h pos pins s σ H _ I hq) λus s1 ⟨xs,H1,I1,r,z,q⟩=>⟨by rw[<-r.length];exact z,?_⟩)
 have hf:H1 s1.heap.objs.size=none:=I1.hok.fresh (Ye _)
 refine⟨.ref s1.heap.objs.size,upd H1 s1.heap.objs.size (.lst xs),I1.laid (t':=s1.toks) (λb u e=>Yh _ e) (Ye _) ?_,rfl,q _ hf⟩
 exact⟨z,us,0,r,Ys _ rfl⟩
end
noncomputable abbrev Sp:=List V->Hp->VK->XK->Prop
noncomputable abbrev CXT:=List Env->Hp->Shared->XK->Value->Shared->Prop
structure Env0 (P:Program) (w:World) (K:PySem.W.Frag) (mg:Str->Option Value) (base:Heap) (A:Around) (outer:List Env) (s:Shared) (H:Hp):Prop where
 frames:A.frames=some outer
 mod:Mod K mg base
 bs:∀b o,base.get? b=some o->s.heap.get? b=some o/\H b=none
 bsz:base.objs.size<=s.heap.objs.size
 funs:s.heap.FunFrames base outer
 frf:∀b∈frs outer,H b=none
 hok:HOk P w H s.heap
 bare:AllBare s.gens
noncomputable def CE (outer:List Env) (P:Program) (w:World) (H:Hp) (s:Shared) (Q:VK) (u:Value) (s':Shared):Prop :=
 ∃v H',s'.os=s.os/\AllBare s'.gens/\Un (frs outer) [] H H' s.heap s'.heap/\HOk P w H' s'.heap/\RelV v u/\Q v H'
noncomputable def CR (CX:CXT) (outer:List Env) (P:Program) (w:World) (H:Hp) (s:Shared) (Q:VK) (E:XK) (r:Result) (s':Shared):Prop :=
 match r with
 |.ok (.ret u)=>CE outer P w H s Q u s'
 |.ok _=>False
 |.error e=>CX outer H s E e s'
structure FnOk (P:Program) (w:World) (K:PySem.W.Frag) (mg:Str->Option Value) (base:Heap) (CX:CXT) (k:Nat) (f:Addr) (fd:FuncData) (ps:List Str) (sp:Sp):Prop where
 len:∀vs H Q E,sp vs H Q E->vs.length=ps.length
 run:∀(A:Around) (outer:List Env) (s:Shared) (H:Hp) (args:Args) (us:List Value) (vs:List V) (Q:VK) (E:XK),Room k A->Env0 P w K mg base A outer s H->BindsTo s fd args (ps.zip us)->Vals vs us->sp vs H Q E ->
  codeAny (model P w) A (.call (.ref f) args) (CR CX outer P w H s Q E) s
section
variable {X:Cx}{pins:List (Addr×Obj)}{σ:St}{H:Hp}{s s':Shared}
theorem Inv.env0 (I:Inv X pins σ H s):Env0 X.prog X.w X.K X.mg X.base X.A X.stack s H :=
 ⟨I.ok.frames,I.ok.mod,I.bs,Ym I.ok.bsz I.sz,I.stack,I.Zhc,I.hok,I.bare⟩
theorem Inv.after {Q:VK}{u:Value} (I:Inv X pins σ H s) (h:CE X.stack X.prog X.w H s Q u s'):EP X pins σ Q u s':=by
 obtain⟨v,H',os,bare,un,hok,r,q⟩:=h
 obtain⟨hh,g,d,t,os'⟩:=s'
 obtain rfl:os'=s.os:=os
 exact⟨v,H',I.call (h':=hh) (g':=g) (d':=d) (t':=t) (ch:=[]) un hok bare (λb z=>absurd z (by simp)),r,q⟩
end
noncomputable def Zqa (sp:Sp) (dvs:List V) (E:XK) (t:TA):TE:=fun σ H Q=>t σ H λvs H1=>sp (vs++dvs) H1 Q E
noncomputable def Binds (K:PySem.W.Frag) (fd:FuncData) (ps:List Str) (ds:List Value):Prop :=
 ∀(s:Shared) (us:List Value),K.In s.heap->(us++ds).length=ps.length->BindsTo s fd ⟨us,[]⟩ (ps.zip (us++ds))
theorem Binds.all {K:PySem.W.Frag}{fd:FuncData}{ps:List Str} (h:∀us:List Value,us.length=ps.length->bindArgs fd ⟨us,[]⟩=pure (ps.zip us)):Binds K fd ps []:=λs us _ hl=>by
 rw[List.append_nil]at hl⊢
 exact .of_eq (h us hl)
noncomputable def Passes (CX:CXT) (X:Cx) (E:XK):Prop:=∀(pins:List (Addr×Obj)) (σ:St) (H:Hp) (s:Shared) (e:Value) (s':Shared),Inv X pins σ H s->CX X.stack H s E e s'->X.xe e s'
section
variable {X:Cx}{CX:CXT}{k:Nat}{f C:Addr}{fd:FuncData}{ps:List Str}{sp:Sp}{dvs:List V}{ds:List Value}{E:XK}{x m:Str}{p pos apos:Pos}{e o:Expr}{es:List Expr}{ta:TE}{t:TA}
theorem run_fn {pins:List (Addr×Obj)}{σ:St}{H:Hp}{s:Shared}{Q:VK}{us:List Value}{vs:List V} (F:FnOk X.prog X.w X.K X.mg X.base CX k f fd ps sp) (hr:Room k X.A) (hb:Binds X.K fd ps ds) (hd:Vals dvs ds) (hx:Passes CX X E)
  (I:Inv X pins σ H s) (r:Vals vs us) (h:sp (vs++dvs) H Q E):wpAny (model X.prog X.w) X.A (call (.ref f) us) (EP X pins σ Q) X.xe s:=by
 have r2:Vals (vs++dvs) (us++ds):=r.append hd
 have hl:(us++ds).length=ps.length:=by rw[<-r2.length];exact F.len _ _ _ _ h
 refine wpAny_call (codeAny_mono (F.run X.A X.stack s H ⟨us,[]⟩ (us++ds) (vs++dvs) Q E hr I.env0 (hb s us I.kIn hl) r2 h) λr s' hq=>?_)
 cases r with
 |error e=>exact hx pins σ H s e s' I hq
 |ok fl =>
  cases fl with
  |ret u=>exact I.after hq
  |next=>exact False.elim hq
  |brk=>exact False.elim hq
  |cont=>exact False.elim hq
theorem ZvA (F:FnOk X.prog X.w X.K X.mg X.base CX k f fd ps sp) (hr:Room k X.A) (hg:Gl X x) (hm:X.mg x=some (.ref f)) (hk:PySem.W.keepIn X.K (.ref f)=true) (hb:Binds X.K fd ps ds) (hd:Vals dvs ds) (hx:Passes CX X E)
  (ha:PA X (e::es) t) (hdb:(x==("__debug__":Str))=false:=by decide) (he:starEach (e::es) X.env=(false,eval e X.env)::starEach es X.env:=by rfl) (hpl:(backTo pos (starEach es X.env)).any (·.1)=false:=by rfl) :
  PE X (.Call (.Name x p) (e::es) [] pos) (Zqa sp dvs E t):=by
 intro pins s σ H Q I h
 refine wpAny_Call_Name_kw (Zl7 I hg hm ?_ hdb)
 refine PySem.W.callWith_K (h₀:=X.base) I.ok.mod.kin hk (thn (ha pos pins s σ H _ I h) λus s1 ⟨vs,H1,I1,r,q⟩=>⟨I1.kIn,?_⟩) he hpl
 exact run_fn F hr hb hd hx I1 r q
end
noncomputable def PK (X:Cx) (kws:List Keyword) (t:TA):Prop :=
 ∀(pos:Pos) (pins:List (Addr×Obj)) (s:Shared) (σ:St) (H:Hp) (Q:List V->Hp->Prop),Inv X pins σ H s->t σ H Q->wpAny (model X.prog X.w) X.A (evalAll ((backToKw pos (keywordEach kws X.env)).map (·.2))) (AP X pins σ Q) X.xe s
section
variable {X:Cx}{CX:CXT}{k:Nat}{f C:Addr}{fd:FuncData}{ps ks:List Str}{sp:Sp}{E:XK}{x m:Str}{p pos apos kpos:Pos}{e o:Expr}{es:List Expr}{kws:List Keyword}{te ta:TE}{t tk:TA}{nm:Option Str}
theorem Zmd:PK X [] tNil:=λ_ _ _ _ H Q I h=>wpAny_evalAll_nil ⟨[],H,I,.nil,h⟩
theorem Zet (ha:PE X e te) (hr:PK X kws t):PK X (⟨nm,e,kpos⟩::kws) (Zp9 te t):=by
 intro pos pins s σ H Q I h
 show wpAny _ _ (evalAll ((do let v <-eval e X.env;standAt pos;pure v)::(backToKw pos (keywordEach kws X.env)).map (·.2))) _ _ s
 refine wpAny_evalAll_cons (Ya (thn (ha pins s σ H _ I h) λu s1 ⟨x,H1,I1,r1,q1⟩=>Ya (wpAny_standAt (Yb ?_))))
 exact thn (hr pos pins s1 σ H1 _ I1 q1) λus s2 ⟨xs,H2,I2,r2,q2⟩=>⟨x::xs,H2,I2,.cons r1 r2,q2⟩
variable {g:List Value->List Value->List Value}{gV:List V->List V->List V}
end
structure FnScope (N P:List Str) (sc:Scope):Prop where
 kind:sc.kind=.function
 co:sc.isCoroutine=false
 gen:sc.isGenerator=false
 nd:N.Nodup
 pre:N.take P.length=P
 par:∀x∈P,sc.names.lookup x=some .local\/sc.names.lookup x=some .cell
 nofree:∀y∈sc.names,y.2≠.free
theorem Zlr {kindOf:Str->Option NameKind}{x:Str}:∀{binds:List (Str×Value)}{m:Str->Option Value},(∀v,(x,v)∉binds)->bindL kindOf binds m x=m x
 |[],_,_=>rfl
 |(n,v)::r,m,h=>by
  unfold bindL
  rw[Zlr λw hw=>h w (Yw _ hw)]
  split
  ·have:x≠n:=by rintro rfl;exact h v Yr
   simp[this]
  ·rfl
theorem Zls {kindOf:Str->Option NameKind}{x:Str}:∀{binds:List (Str×Value)}{m:Str->Option Value},(∀v,(x,v)∉binds)->bindC kindOf binds m x=m x
 |[],_,_=>rfl
 |(n,v)::r,m,h=>by
  unfold bindC
  rw[Zls λw hw=>h w (Yw _ hw)]
  split
  ·rfl
  ·have:x≠n:=by rintro rfl;exact h v Yr
   simp[this]
theorem Zlt {kindOf:Str->Option NameKind}{x:Str}{v:Value}:∀{P:List Str}{vs:List Value}{i:Nat}{m:Str->Option Value},P.Nodup->P[i]?=some x->vs[i]?=some v->kindOf x=some .local ->
  bindL kindOf (P.zip vs) m x=some v
 |[],_,_,_,_,h,_,_=>by simp at h
 |_::_,[],_,_,_,_,h,_=>by simp at h
 |p::P,w::vs,0,m,nd,h1,h2,hk=>by
  simp at h1 h2;subst h1;subst h2
  show bindL kindOf ((p,w)::P.zip vs) m p=_
  unfold bindL
  rw[Zlr λv hv=>(List.nodup_cons.mp nd).1 (List.of_mem_zip hv).1,Yd hk]
  simp
 |p::P,w::vs,i+1,m,nd,h1,h2,hk=>by
  show bindL kindOf ((p,w)::P.zip vs) m x=_
  unfold bindL
  exact Zlt (i:=i) (List.nodup_cons.mp nd).2 (by simpa using h1) (by simpa using h2) hk
theorem Zlu {kindOf:Str->Option NameKind}{x:Str}{v:Value}:∀{P:List Str}{vs:List Value}{i:Nat}{m:Str->Option Value},P.Nodup->P[i]?=some x->vs[i]?=some v->kindOf x≠some .local ->
  bindC kindOf (P.zip vs) m x=some v
 |[],_,_,_,_,h,_,_=>by simp at h
 |_::_,[],_,_,_,_,h,_=>by simp at h
 |p::P,w::vs,0,m,nd,h1,h2,hk=>by
  simp at h1 h2;subst h1;subst h2
  show bindC kindOf ((p,w)::P.zip vs) m p=_
  unfold bindC
  rw[Zls λv hv=>(List.nodup_cons.mp nd).1 (List.of_mem_zip hv).1,Yc hk]
  simp
 |p::P,w::vs,i+1,m,nd,h1,h2,hk=>by
  show bindC kindOf ((p,w)::P.zip vs) m x=_
  unfold bindC
  exact Zlu (i:=i) (List.nodup_cons.mp nd).2 (by simpa using h1) (by simpa using h2) hk
noncomputable def start (N:List Str) (vs:List V):St:=vs.map some++List.replicate (N.length-vs.length) none
noncomputable def Zhg (CX:CXT) (P:Program) (w:World) (K:PySem.W.Frag) (mg:Str->Option Value) (base:Heap) (N:List Str) (qual:Str) (scope:Scope) (f:Addr) (cd:Value) (A:Around) (outer:List Env) (s:Shared) (H:Hp) (E:XK):Cx where
 prog:=P
 w:=w
 K:=K
 mg:=mg
 base:=base
 A:=A.deeper (envOfC qual scope s.heap.objs.size f cd)
 N:=N
 s₀:=s
 H₀:=H
 env:=envOfC qual scope s.heap.objs.size f cd
 outer:=outer
 stack:=envOfC qual scope s.heap.objs.size f cd::outer
 ex:=[]
 calm:=true
 fn:=λ_=>true
 pn:=[]
 xe:=λe s'=>wpAny (model P w) (A.deeper (envOfC qual scope s.heap.objs.size f cd)) (leaving (envOfC qual scope s.heap.objs.size f cd) e) (λ_ s''=>CX outer H s E e s'') (λe' s''=>CX outer H s E e' s'') s'
theorem Znq {sc:Scope}{n:Nat}{x:Str} (h:sc.names.lookup x=some .cell):∃c,(cellsFrom n sc.names []).lookup x=some c:=by
 have q:=PySem.W.cellsFrom_some sc.names n [] (.inl h)
 exact Option.isSome_iff_exists.mp q
theorem ZqV {CX:CXT}{P:Program}{w:World}{K:PySem.W.Frag}{mg:Str->Option Value}{base:Heap}{N ps:List Str}{qual:Str}{scope:Scope}{f:Addr}{cd:Value}{A:Around}{outer:List Env}{s s1:Shared}{H:Hp}{E:XK}{us:List Value}{vs:List V}
  (S:FnScope N ps scope) (hd:A.handled=none) (e0:Env0 P w K mg base A outer s H) (hl:vs.length=ps.length) (r:Vals vs us)
  (x:InCallC s s.heap.objs.size (bindL (envOfC qual scope s.heap.objs.size f cd).kindOf (ps.zip us) λ_=>none) (cellsFrom (s.heap.objs.size+1) scope.names []) (bindC (envOfC qual scope s.heap.objs.size f cd).kindOf (ps.zip us) λ_=>none) s1) :
  Inv (Zhg CX P w K mg base N qual scope f cd A outer s H E) [] (start N vs) H s1:=by
 have hpl:ps.length<=N.length:=by have:=congrArg List.length S.pre;rw[YX]at this;omega
 obtain⟨h1,tk,rfl,hk⟩:=x.done
 have noA:∀b:Addr,b∉(Zhg CX P w K mg base N qual scope f cd A outer s H E).ex:=λb z=>absurd (show b∈([]:List Addr)from z) (by simp)
 refine⟨⟨e0.mod,S.kind,rfl,rfl,Ye _,λy z c h1 h2=>?_,λy hy=>?_,λy c _ h=>?_,λ_=>hd,Around.frames_deeper e0.frames,.inr ⟨rfl,rfl⟩,λb z=>absurd z (noA b),e0.bs,e0.bsz,λb _ _=>noA b,λb z=>absurd z (noA b),e0.funs,e0.frf⟩,
  rfl,e0.bare,Un.kept hk,⟨_,x.toInCall.ns,λi y v h1 h2 h3=>?_⟩,λy c h=>⟨_,x.cell y c h⟩,e0.hok.fresh (Ye _),λy c h=>?_,λp hp=>absurd (show p∈([]:List (Addr×Obj))from hp) (by simp),e0.hok.kept hk,?_⟩
 ·exact name_of_addr x.apart (PySem.mem_of_lookup h1) (PySem.mem_of_lookup h2)
 ·have hy:scope.names.lookup y=some .cell\/scope.names.lookup y=some .free:=hy
  rcases hy with hy|hy
  ·exact Znq hy
  ·exact absurd rfl (S.nofree _ (PySem.mem_of_lookup hy))
 ·exact YZ (x.above y c (PySem.mem_of_lookup h))
 ·have hi:i<vs.length:=by
   unfold start at h2
   by_cases hi:i<vs.length
   ·exact hi
   ·rw[Ja (by simpa using hi)]at h2
    rw[List.getElem?_replicate]at h2
    split at h2<;>cases h2
  have ha:vs[i]?=some v:=by
   unfold start at h2
   rw[List.getElem?_append_left (by simpa using hi),YG]at h2
   cases e:vs[i]? with
   |none=>rw[e]at h2;cases h2
   |some a=>rw[e]at h2;cases h2;rfl
  obtain⟨u,hu,rv⟩:=r.get ha
  have hp:ps[i]?=some y:=by
   rw[<-S.pre,List.getElem?_take_of_lt (by omega)];exact h1
  have ndP:ps.Nodup:=by rw[<-S.pre];exact S.nd.sublist (List.take_sublist _ _)
  refine⟨u,rv,?_⟩
  rcases S.par y (List.mem_of_getElem? hp)with k|k
  ·exact .inl ⟨k,Zlt ndP hp hu k⟩
  ·obtain⟨c,e⟩:=Znq (n:=s.heap.objs.size+1) k
   refine .inr ⟨.inl k,c,e,?_⟩
   have q:=x.cell y c e
   rw[Zlu ndP hp hu (by show scope.names.lookup y≠_;rw[k];decide)]at q
   exact q
 ·exact e0.hok.fresh (YZ (x.above y c (PySem.mem_of_lookup h)))
 ·unfold start
  show _=N.length
  rw[YN,Yf,List.length_replicate]
  omega
theorem fn_of {CX:CXT}{P:Program}{w:World}{K:PySem.W.Frag}{mg:Str->Option Value}{base:Heap}{k:Nat}{f:Addr}{name qual:Str}{params:Arguments}{body:List Stmt}{scope:Scope}{dV kV doc pm cdv ct oc:Value}{an od:Option Addr}
  {osl:Array (Option Value)}{N ps:List Str}{sp:Sp} (lk:K.lookup f=some ⟨oc,od,.func (PySem.W.fnOf name qual params body scope dV kV doc pm an cdv ct),osl⟩) (hcd:PySem.W.codeIn K cdv qual=true) (S:FnScope N ps scope)
  (len:∀vs H Q E,sp vs H Q E->vs.length=ps.length)
  (hbody:∀(A:Around) (outer:List Env) (s:Shared) (H:Hp) (vs:List V) (Q:VK) (E:XK),Room k (A.deeper (envOfC qual scope s.heap.objs.size f cdv))->sp vs H Q E ->
   ∃t,PSs (Zhg CX P w K mg base N qual scope f cdv A outer s H E) body t/\t {nx:=λ_ H'=>Q .non H',rt:=Q} (start N vs) H) :
  FnOk P w K mg base CX (k+1) f (PySem.W.fnOf name qual params body scope dV kV doc pm an cdv ct) ps sp:=by
 refine⟨len,λA outer s H args us vs Q E hr e0 hb r hsp=>?_⟩
 have hl:=len _ _ _ _ hsp
 have KX:K.In s.heap:=e0.mod.kin.keeps λb o e=>(e0.bs b o e).1
 have lim:s.heap.NoLimit:=e0.mod.nolimit.keeps λb o e=>(e0.bs b o e).1
 have hkind:∀y∈ps.zip us,scope.names.lookup y.1=some .local\/(scope.names.lookup y.1=some .cell/\((cellsFrom (s.heap.objs.size+1) scope.names []).lookup y.1).isSome=true):=λ⟨n,v⟩ hy=>by
  rcases S.par n (List.of_mem_zip hy).1 with q|q
  ·exact .inl q
  ·exact .inr ⟨q,PySem.W.cellsFrom_some _ _ _ (.inl q)⟩
 refine codeAny_call_function hr.depth (KX _ _ lk) rfl S.co S.gen rfl (PySem.W.codeRec_of KX hcd) (hb _ _ _ _ ?_)
 refine wpAny_newFunctionEnv_cells S.kind hkind λenv he s1 x=>?_
 subst he
 refine⟨lim.keeps x.toInCall.keep,codeAny_func ?_⟩
 obtain⟨t,ht,hq⟩:=hbody A outer s H vs Q E (hr.deeper _) hsp
 have I:Inv (Zhg CX P w K mg base N qual scope f cdv A outer s H E) [] (start N vs) H s1:=ZqV S hr.hd e0 hl r x
 refine YB (ht [] s1 (start N vs) H _ I hq) (λfl s' hs=>?_) λe s' hs=>hs
 have fin:∀{σ':St}{H':Hp}{v:V}{u:Value},Inv (Zhg CX P w K mg base N qual scope f cdv A outer s H E) [] σ' H' s'->RelV v u->Q v H'->CE outer P w H s Q u s' :=
  λ{σ' H' v u} J rv q=>⟨v,H',J.os,J.bare,J.base,J.hok,rv,q⟩
 cases fl with
 |ret u =>
  obtain⟨v,σ',H',J,rv,q⟩:=hs
  exact fin J rv q
 |next =>
  obtain⟨σ',H',J,q⟩:=hs
  exact fin (v:=V.non) (u:=Value.none) J rfl q
 |brk =>
  obtain⟨_,_,_,q⟩:=hs
  exact False.elim q
 |cont =>
  obtain⟨_,_,_,q⟩:=hs
  exact False.elim q
section
variable {X:Cx}{x:Str}{p pos:Pos}{e:Expr}{es:List Expr}{t:TA}{id T:String}{r:List V->Hp->VK->Prop}
noncomputable def tCB (r:List V->Hp->VK->Prop) (t:TA):TE:=fun σ H Q=>t σ H λvs H1=>r vs H1 Q
theorem Zj (hc:Zbc X (.builtin id) r) (hg:Gl X x) (hm:X.mg x=none) (hv:bootBuiltins x=some (.builtin id)) (ha:PA X (e::es) t) (hn:x≠"__name__":=by decide) (hdb:(x==("__debug__":Str))=false:=by decide)
  (he:starEach (e::es) X.env=(false,eval e X.env)::starEach es X.env:=by rfl) (hpl:(backTo pos (starEach es X.env)).any (·.1)=false:=by rfl):PE X (.Call (.Name x p) (e::es) [] pos) (tCB r t):=by
 intro pins s σ H Q I h
 refine wpAny_Call_Name_kw (Zbm I hg hm hv ?_ hn hdb)
 exact PyProof.Rows.callWith_builtin1 (thn (ha pos pins s σ H _ I h) λus s1 ⟨vs,H1,I1,r1,q1⟩=>hc pins s1 σ H1 vs us Q I1 r1 q1) he hpl
theorem Zak (hc:Zbc X (.type T) r) (hg:Gl X x) (hm:X.mg x=none) (hv:bootBuiltins x=some (.type T)) (ha:PA X (e::es) t) (hn:x≠"__name__":=by decide) (hdb:(x==("__debug__":Str))=false:=by decide)
  (he:starEach (e::es) X.env=(false,eval e X.env)::starEach es X.env:=by rfl) (hpl:(backTo pos (starEach es X.env)).any (·.1)=false:=by rfl):PE X (.Call (.Name x p) (e::es) [] pos) (tCB r t):=by
 intro pins s σ H Q I h
 refine wpAny_Call_Name_kw (Zbm I hg hm hv ?_ hn hdb)
 exact PyProof.Rows.callWith_type1 (thn (ha pos pins s σ H _ I h) λus s1 ⟨vs,H1,I1,r1,q1⟩=>hc pins s1 σ H1 vs us Q I1 r1 q1) he hpl
end
end L2
namespace HT
open PySem PyProof.Rows
section
open PySem.SeqAt
open PySem.AutoSeq1 (wpAny_loadPart')
open PySem.MeetsSeq PySem.MeetsSeq2 PySem.MeetsSeq3
end
section
variable {prog:Program}{w:World}{A:Around}{E:Value->Shared->Prop}{s:Shared}
theorem ZvB {t b:Addr}{vs ws:List Value}{Q:Value->Shared->Prop} (ht:IsTup s.heap t vs.toArray) (hb:IsTup s.heap b ws.toArray) (hv:vs≠[])
  (h1:ws=[]->Q (.ref t) s) (h2:ws≠[]->Q (.ref s.heap.objs.size) {s with heap:=s.heap.push {cls:=.type "tuple",data:=.seq (vs++ws).toArray}})
  (hsz:vs.length+ws.length<=sizeLine):wpAny (model prog w) A (binaryOp .Add (.ref t) (.ref b)) Q E s:=by
 obtain⟨⟨cls,dd,data,sl⟩,ho,hc,n,hd⟩:=id ht
 obtain⟨⟨cls2,dd2,data2,sl2⟩,ho2,hc2,n2,hd2⟩:=id hb
 simp only at hc hd hc2 hd2
 subst hc hd hc2 hd2
 have e:vs.toArray++ws.toArray=(vs++ws).toArray:=by simp
 by_cases hw:ws=[]
 ·exact concat_meets ⟨_,ho,rfl⟩ ⟨_,ho2,rfl⟩ noFill_tuple_add seq_tuple_add PySem.F.slot_tuple_add PySem.F.entry_tuple_add (PySem.F.args_tuple_add_2 _ _)
   (tuple_addW1 t b vs.toArray ws.toArray n n2 dd dd2 sl sl2 (by simpa using hv) (by simp[hw])) ⟨ho,ho2,h1 hw⟩
 ·refine concat_meets ⟨_,ho,rfl⟩ ⟨_,ho2,rfl⟩ noFill_tuple_add seq_tuple_add PySem.F.slot_tuple_add PySem.F.entry_tuple_add (PySem.F.args_tuple_add_2 _ _)
   (tuple_addW2 t b vs.toArray ws.toArray n n2 dd dd2 sl sl2 (by simpa using hv) (by simpa using hw) (by rw[Yu,Yu];exact hsz)) ⟨ho,ho2,?_⟩
  rw[e]
  exact h2 hw
noncomputable def sIx (n d:Nat):Option Int->Nat
 |none=>d
 |some v=>if v<0 then (v+(n:Int)).toNat else min v.toNat n
theorem sIx_le (n d:Nat) (hd:d<=n) (o:Option Int):sIx n d o<=n:=by
 cases o with
 |none=>exact hd
 |some v =>
  show(if v<0 then (v+(n:Int)).toNat else min v.toNat n)<=n
  by_cases hv:v<0
  ·rw[Yd hv];omega
  ·rw[Yc hv];exact Nat.min_le_right _ _
theorem Zqb (v:Int) (n d:Nat):(if v<0 then max (v+(n:Int)) 0 else min v (n:Int))=((sIx n d (some v):Nat):Int):=by
 show(if v<0 then max (v+(n:Int)) 0 else min v (n:Int))=(((if v<0 then (v+(n:Int)).toNat else min v.toNat n):Nat):Int)
 by_cases hv:v<0
 ·simp only[Yd hv];omega
 ·simp only[Yc hv];omega
theorem ZoB (lo hi:Option Int) (n:Nat):Builtin.Slice.sliceAdjust lo hi 1 (n:Int)=(((sIx n 0 lo:Nat):Int),((sIx n n hi:Nat):Int)):=by
 have h1:¬ ((1:Int)<0):=by omega
 unfold Builtin.Slice.sliceAdjust
 simp only[h1,if_false]
 refine Prod.ext ?_ ?_
 ·cases lo with
  |none=>rfl
  |some v=>exact Zqb v n 0
 ·cases hi with
  |none=>rfl
  |some v=>exact Zqb v n n
theorem ZoC (i j:Nat):Builtin.Slice.slicePlaces (i:Int) (j:Int) 1=j-i:=by
 unfold Builtin.Slice.slicePlaces
 have h1:(1:Int)>0:=by omega
 simp only[h1,if_true,Int.ediv_one]
 split<;>omega
theorem Zjv {v:Value}{o:Option Int}{Q:Option Int->Shared->Prop} (p:IsPart v o) (h:Q o s):wpAny (model prog w) A (Builtin.Slice.slicePartIndex v) Q E s:=by
 cases p with
 |none=>exact slicePart_none h
 |int i t=>exact slicePart_int h
theorem Zea {sl:Addr}{vl vu:Value}{lo hi:Option Int}{n:Nat}{Q:Int×Int×Nat->Shared->Prop} (hs:s.heap.IsSliceOf sl vl vu .none) (pl:IsPart vl lo) (pu:IsPart vu hi)
  (h:Q (((sIx n 0 lo:Nat):Int),1,sIx n n hi-sIx n 0 lo) s):wpAny (model prog w) A (Builtin.Slice.sliceApplied (.ref sl) (pure (n:Int))) Q E s:=by
 obtain⟨os,hos,hcs,hds⟩:=id hs
 unfold Builtin.Slice.sliceApplied Builtin.Slice.sliceFields
 refine Ya (Ya (wpAny_field hos hds (x:=vl) rfl (Ya (wpAny_field hos hds (x:=vu) rfl (Ya (wpAny_field hos hds (x:=.none) rfl (Yb ?_)))))))
 refine Ya (slicePart_none ?_)
 show wpAny _ _ (if ((1:Int)==0)=true then _ else _) _ _ s
 rw[Yc (by decide)]
 refine Ya (Zjv pl (Ya (Zjv pu (Ya (Yb ?_)))))
 show wpAny _ _ (match Builtin.Slice.sliceAdjust lo hi 1 (n:Int)with|(lo,hi)=>pure (lo,(1:Int),Builtin.Slice.slicePlaces lo hi 1)) _ _ s
 rw[ZoB lo hi n]
 show wpAny _ _ (pure (((sIx n 0 lo:Nat):Int),(1:Int),Builtin.Slice.slicePlaces ((sIx n 0 lo:Nat):Int) ((sIx n n hi:Nat):Int) 1)) _ _ s
 rw[ZoC]
 exact Yb h
theorem ZsS (xs:Array Value) (i k:Nat):((List.range k).filterMap λ(m:Nat)=>xs[((i:Int)+(m:Int)*1).toNat]?).toArray=((xs.toList.drop i).take k).toArray:=by
 have e:(λ(m:Nat)=>xs[((i:Int)+(m:Int)*1).toNat]?)=λm=>xs[i+m]?:=by
  funext m
  have:((i:Int)+(m:Int)*1).toNat=i+m:=by omega
  rw[this]
 rw[e]
 have:=pick_run xs i k
 rw[List.filterMap_map]at this
 have e2:((λx=>xs[x]?) ∘ λx=>i+x)=λm=>xs[i+m]?:=rfl
 rw[e2]at this
 rw[this]
theorem Zhh {t sl:Addr}{items:Array Value}{vl vu:Value}{lo hi:Option Int}{Q:Value->Shared->Prop} (ht:IsTup s.heap t items) (hs:s.heap.IsSliceOf sl vl vu .none) (pl:IsPart vl lo) (pu:IsPart vu hi)
  (hw:¬ (sIx items.size 0 lo=0/\sIx items.size items.size hi=items.size))
  (h:Q (.ref s.heap.objs.size) {s with heap:=s.heap.push {cls:=.type "tuple",data:=.seq ((items.toList.drop (sIx items.size 0 lo)).take (sIx items.size items.size hi-sIx items.size 0 lo)).toArray}})
  (hsz:items.size<=sizeLine):wpAny (model prog w) A (getItem (.ref t) (.ref sl)) Q E s:=by
 have htake:sizeOk (.seq ((items.toList.drop (sIx items.size 0 lo)).take (sIx items.size items.size hi-sIx items.size 0 lo)).toArray):=by
  show((items.toList.drop (sIx items.size 0 lo)).take (sIx items.size items.size hi-sIx items.size 0 lo)).toArray.size<=sizeLine
  rw[Yu,YX,Y5,YW]
  omega
 have hj:sIx items.size items.size hi<=items.size:=sIx_le _ _ (Ye _) hi
 obtain⟨os,hos,hcs,hds⟩:=id hs
 have hTs:s.TypeIs (.ref sl) "slice":=⟨os,hos,hcs⟩
 unfold getItem
 try with_reducible refine wpAny_holding ?_
 first|refine Ya (Yb ?_)|skip
 refine Ya (wpAny_sequenceKey ht.typeIs (by decide) ?_)
 refine Ya (wpAny_callSpecial?_slot (name:=Str.ofString "__getitem__") ht.typeIs PyProof.Rows.slot_tuple_getitem
  (wpAny_call_entry PyProof.Rows.slot_tuple_getitem ht.typeIs entry_tuple_getitem ?_ (args_tuple_getitem _ _)))
 show wpAny _ _ (Builtin.Tuple.tupleItemsOf (.ref t) >>= _) _ _ s
 refine Ya (tupleItemsOf_ ht ?_)
 refine Ya (wpAny_typeOf hTs ?_)
 rw[Yd (by decide)]
 refine Ya (Zea hs pl pu ?_)
 have hno:¬ ((((sIx items.size 0 lo:Nat):Int)==0&&(1:Int)==1&&(sIx items.size items.size hi-sIx items.size 0 lo)==items.size)=true):=by
  intro q
  rw[Bool.and_eq_true,Bool.and_eq_true]at q
  have q1:((sIx items.size 0 lo:Nat):Int)=0:=eq_of_beq q.1.1
  have q2:sIx items.size items.size hi-sIx items.size 0 lo=items.size:=eq_of_beq q.2
  exact hw ⟨by omega,by omega⟩
 show wpAny _ _ (if (((sIx items.size 0 lo:Nat):Int)==0&&(1:Int)==1&&(sIx items.size items.size hi-sIx items.size 0 lo)==items.size)=true then _ else _) _ _ s
 rw[Yc hno,ZsS]
 first
  |exact Ya (m:=Builtin.Tuple.tupleExact _) (wpAny_newObj_type (Yb ⟨_,rfl,Yb h⟩) htake)
  |exact Ya (m:=Builtin.Tuple.tupleExact _) (wpAny_newObj_type (Ya (Yb (Yb ⟨_,rfl,Yb h⟩))) htake)
  |exact Ya (Ya (m:=Builtin.Tuple.tupleExact _) (wpAny_newObj_type (Yb (Yb ⟨_,rfl,Yb h⟩)) htake))
  |exact Ya (Ya (m:=Builtin.Tuple.tupleExact _) (wpAny_newObj_type (Yb ⟨_,rfl,Yb h⟩) htake))
end
end HT
namespace L2
open PySem PySem.Spec PyProof.Rows
noncomputable abbrev TO:=St->Hp->(Option Int->Hp->Prop)->Prop
noncomputable def PO (X:Cx) (e:Option Expr) (t:TO):Prop :=
 ∀(pins:List (Addr×Obj)) (s:Shared) (σ:St) (H:Hp) (Q:Option Int->Hp->Prop),Inv X pins σ H s->t σ H Q ->
  wpAny (model X.prog X.w) X.A (evalPart e X.env) (λu s'=>∃o H',Inv X pins σ H' s'/\IsPart u o/\Q o H') X.xe s
noncomputable def Zme:TO:=λ_ H Q=>Q none H
noncomputable def ZsT (t:TE):TO:=fun σ H Q=>t σ H λx H1=>∃i,x=.int i/\Q (some i) H1
theorem intsAre_of {ns:List Int}:∀{us:List Value},Vals (ns.map V.int) us->IntsAre us ns:=by
 induction ns with
 |nil=>intro us r;rw[List.map_nil]at r;cases r;exact .nil
 |cons n ns ih =>
  intro us r
  rw[YM]at r
  cases r with
  |cons r1 r2 =>
   obtain⟨t,e⟩:=r1
   subst e
   exact .cons n t (ih r2)
section
variable {X:Cx}{e:Expr}{te:TE}{lo hi:Option Expr}{tl th:TO}{pos p2:Pos}
theorem Zmf:PO X none Zme:=by
 intro pins s σ H Q I h
 rw[evalPart_none]
 exact Yb ⟨none,H,I,.none,h⟩
theorem Zeu (h:PE X e te):PO X (some e) (ZsT te):=by
 intro pins s σ H Q I hw
 rw[evalPart_some]
 refine thn (h pins s σ H _ I hw) λu s1 ⟨x,H1,I1,r1,q1⟩=>?_
 obtain⟨i,rfl,q⟩:=q1
 obtain⟨t,rfl⟩:=r1
 exact⟨some i,H1,I1,.int i t,q⟩
noncomputable def SlR (X:Cx) (r:V->Option Int->Option Int->Hp->VK->Prop):Prop :=
 ∀(pins:List (Addr×Obj)) (s:Shared) (σ:St) (H:Hp) (x:V) (v vl vu:Value) (lo hi:Option Int) (sl:Addr) (Q:VK),Inv X pins σ H s->RelV x v->s.heap.IsSliceOf sl vl vu .none->IsPart vl lo->IsPart vu hi->r x lo hi H Q ->
  ∃T id,typeLookup (.type T) "__getitem__"=pure (some (.builtin id))/\s.TypeIs v T/\wpAny (model X.prog X.w) X.A (getItem v (.ref sl)) (EP X pins σ Q) X.xe s
noncomputable def tSl (r:V->Option Int->Option Int->Hp->VK->Prop) (te:TE) (tl th:TO):TE:=fun σ H Q=>te σ H λx H1=>tl σ H1 λl H2=>th σ H2 λu H3=>r x l u H3 Q
theorem Zfq {r:V->Option Int->Option Int->Hp->VK->Prop} (hr:SlR X r) (he:PE X e te) (hl:PO X lo tl) (hu:PO X hi th):PE X (.Subscript e (.Slice lo hi none p2) pos) (tSl r te tl th):=by
 intro pins s σ H Q I h
 refine Subscript_ (thn (he pins s σ H _ I h) λv s1 ⟨x,H1,I1,r1,q1⟩=>?_)
 refine wpAny_Slice (thn (hl pins s1 σ H1 _ I1 q1) λvl s2 ⟨l,H2,I2,pl,q2⟩=>thn (hu pins s2 σ H2 _ I2 q2) λvu s3 ⟨u,H3,I3,pu,q3⟩=>?_)
 rw[evalPart_none]
 refine Yb ?_
 have I4:Inv X pins σ H3 {s3 with heap:=s3.heap.push {cls:=.type "slice",data:=.fields #[vl,vu,.none]}}:=I3.kept (t':=s3.toks) λb ob q=>Yh _ q
 obtain⟨T,id,hT,ht,hg⟩:=hr pins {s3 with heap:=s3.heap.push {cls:=.type "slice",data:=.fields #[vl,vu,.none]}} σ H3 x v vl vu l u s3.heap.objs.size Q I4 r1 (Heap.IsSliceOf.new ..) pl pu q3
 show wpAny (model X.prog X.w) X.A (subscriptTail e (.Slice lo hi none p2) v (.ref s3.heap.objs.size)) (EP X pins σ Q) X.xe {s3 with heap:=s3.heap.push {cls:=.type "slice",data:=.fields #[vl,vu,.none]}}
 exact tail_any (ops:=[.ref s3.heap.objs.size,v]) ht hT hg (by with_unfolding_all rfl)
noncomputable def Zfr (xs:List V) (lo hi:Option Int):List V:=(xs.drop (HT.sIx xs.length 0 lo)).take (HT.sIx xs.length xs.length hi-HT.sIx xs.length 0 lo)
theorem ZiO (xs:List V) (lo hi:Option Int):(Zfr xs lo hi).length<=xs.length:=by
 unfold Zfr
 rw[YX,Y5]
 omega
noncomputable def rSlT (K:PySem.W.Frag):V->Option Int->Option Int->Hp->VK->Prop:=λx lo hi H Q=>∃a xs,x=.ref a/\SqT K H a xs /\
 ¬ (HT.sIx xs.length 0 lo=0/\HT.sIx xs.length xs.length hi=xs.length)/\∀p,H p=none->Q (.ref p) (upd H p (.tup (Zfr xs lo hi)))
theorem ZsU:SlR X (rSlT X.K):=by
 intro pins s σ H x v vl vu lo hi sl Q I rx hs pl pu h
 obtain⟨a,xs,rfl,hx,hw,q⟩:=h
 cases rx
 obtain⟨its,r,ht,hz⟩:=I.tuple hx
 have hlen:its.toArray.size=xs.length:=by rw[Yu];exact r.length.symm
 refine⟨"tuple",_,PyProof.Rows.slot_tuple_getitem.lookup,ht.typeIs,?_⟩
 refine HT.Zhh ht hs pl pu (by rw[hlen];exact hw) ?_ (by rw[hlen];exact hz)
 rw[hlen]
 refine⟨.ref s.heap.objs.size,_,I.laid (t':=s.toks) (o:=.tup (Zfr xs lo hi)) (λb ob q=>Yh _ q) (Ye _) ?_,rfl,q _ (I.hok.fresh (Ye _))⟩
 exact⟨Ym (ZiO xs lo hi) hz,_,(r.drop (HT.sIx xs.length 0 lo)).take (HT.sIx xs.length xs.length hi-HT.sIx xs.length 0 lo),IsTup.new _ _⟩
noncomputable def rCatT (K:PySem.W.Frag):R2:=λx y H Q=>∃a b xs ys,x=.ref a/\y=.ref b/\SqT K H a xs/\SqT K H b ys/\xs≠[]/\xs.length+ys.length<=sizeLine /\
 (ys=[]->Q (.ref a) H)/\(ys≠[]->∀p,H p=none->Q (.ref p) (upd H p (.tup (xs++ys))))
theorem Vals.Zmg {xs:List V}{us:List Value} (r:Vals xs us):us=[]↔xs=[]:=by
 cases r with
 |nil=>simp
 |cons _ _=>simp
theorem ZvC:OpR X (binaryOp .Add) (rCatT X.K):=by
 intro pins s σ H x y v u Q I rx ry h
 obtain⟨a,b,xs,ys,rfl,rfl,ha,hb,hx,hz,q1,q2⟩:=h
 cases rx
 cases ry
 obtain⟨its,r1,p1,_⟩:=I.tuple ha
 obtain⟨its2,r2,p2,_⟩:=I.tuple hb
 refine HT.ZvB p1 p2 (λz=>hx (r1.Zmg.mp z)) (λz=>⟨.ref a,H,I,rfl,q1 (r2.Zmg.mp z)⟩) (λz=>?_) (by rw[<-r1.length,<-r2.length];exact hz)
 refine⟨.ref s.heap.objs.size,_,I.laid (t':=s.toks) (o:=.tup (xs++ys)) (λb ob q=>Yh _ q) (Ye _) ?_,rfl,q2 (λw=>z (r2.Zmg.mpr w)) _ (I.hok.fresh (Ye _))⟩
 exact⟨by rw[YN];exact hz,_,r1.append r2,IsTup.new _ _⟩
end
noncomputable def ixN (n:Nat) (i:Int):Option Nat:=if 0<=i then (if i<n then some i.toNat else none)else if -(n:Int)<=i then some (i+n).toNat else none
noncomputable def atI {α:Type} (xs:List α) (i:Int):Option α:=(ixN xs.length i).bind λj=>xs[j]?
theorem Zqc {n:Nat}{i:Int}{j:Nat} (h:ixN n i=some j):seqIndex? i n=some j/\j<n/\-(n:Int)<=i/\i<n:=by
 unfold ixN at h
 by_cases h0:0<=i
 ·rw[Yd h0]at h
  by_cases h1:i<n
  ·rw[Yd h1]at h
   have e:i.toNat=j:=YE h
   exact⟨by rw[seqIndex_of h0 h1,e],by omega,by omega,h1⟩
  ·rw[Yc h1]at h;cases h
 ·rw[Yc h0]at h
  by_cases h1:-(n:Int)<=i
  ·rw[Yd h1]at h
   have e:(i+n).toNat=j:=YE h
   exact⟨by rw[seqIndex_neg (by omega) h1,e],by omega,h1,by omega⟩
  ·rw[Yc h1]at h;cases h
theorem Zqd {α:Type}{xs:List α}{i:Int}{v:α} (h:atI xs i=some v):∃j,seqIndex? i xs.length=some j/\xs[j]?=some v/\j<xs.length/\-(xs.length:Int)<=i/\i<xs.length:=by
 unfold atI at h
 cases e:ixN xs.length i with
 |none=>rw[e]at h;cases h
 |some j =>
  rw[e]at h
  obtain⟨h1,h2,h3,h4⟩:=Zqc e
  exact⟨j,h1,h,h2,h3,h4⟩
theorem Zbh {α:Type}{xs:List α}{j:Nat}{v:α} (h:xs[j]?=some v):atI xs (j:Int)=some v:=by
 have hj:j<xs.length:=(YA.mp h).1
 have e:ixN xs.length (j:Int)=some j:=by
  unfold ixN
  rw[Yd (by omega),Yd (by omega)];simp
 unfold atI;rw[e];exact h
noncomputable def ZvD (b:Expr):Prop:=∀o i,subscripted b false o i=operate [o,i] (getItem o i)
noncomputable def IxR (X:Cx) (r:R2):Prop :=
 ∀(value slice:Expr) (pins:List (Addr×Obj)) (s:Shared) (σ:St) (H:Hp) (x y:V) (v u:Value) (Q:VK),Inv X pins σ H s->RelV x v->RelV y u->r x y H Q ->
  subscripted slice false v u=operate [v,u] (getItem v u)->wpAny (model X.prog X.w) X.A (subscriptTail value slice v u) (EP X pins σ Q) X.xe s
noncomputable def MtR (X:Cx) (id:String) (r:V->List V->Hp->VK->Prop):Prop :=
 ∀(pins:List (Addr×Obj)) (s:Shared) (σ:St) (H:Hp) (x:V) (xs:List V) (v:Value) (us:List Value) (Q:VK),Inv X pins σ H s->RelV x v->Vals xs us->r x xs H Q ->
  wpAny (model X.prog X.w) X.A (call (.builtin id) (v::us)) (EP X pins σ Q) X.xe s
section
variable {X:Cx}{a b:Expr}{ta tb:TE}{pos:Pos}
theorem IxR.or {r r':R2} (h:IxR X r) (h':IxR X r'):IxR X (λx y H Q=>r x y H Q\/r' x y H Q):=by
 intro value slice pins s σ H x y v u Q I rx ry q hs
 rcases q with q|q
 ·exact h value slice pins s σ H x y v u Q I rx ry q hs
 ·exact h' value slice pins s σ H x y v u Q I rx ry q hs
theorem Zy {r:R2} (hr:IxR X r) (ha:PE X a ta) (hb:PE X b tb) (hs:ZvD b):PE X (.Subscript a b pos) (tOp r ta tb):=by
 intro pins s σ H Q I h
 exact Subscript_ (binT ha hb I h λv u s2 x y H2 I2 rx ry q=>hr a b pins s2 σ H2 x y v u Q I2 rx ry q (hs _ _))
noncomputable def Zh4 (K:PySem.W.Frag):R2:=λx y H Q=>∃p xs i v,x=.ref p/\y=.int i/\SqL K H p xs/\atI xs i=some v/\Q v H
noncomputable def ZqW (K:PySem.W.Frag):R2:=λx y H Q=>∃p xs i v,x=.ref p/\y=.int i/\SqT K H p xs/\atI xs i=some v/\Q v H
theorem Zx:IxR X (Zh4 X.K):=by
 intro value slice pins s σ H x y v u Q I rx ry h hs
 obtain⟨p,xs,i,z,rfl,rfl,hq,he,q⟩:=h
 cases rx
 obtain⟨t,rfl⟩:=ry
 obtain⟨its,r,pl,hz⟩:=I.list hq
 obtain⟨j,h1,h2,h3,h4,h5⟩:=Zqd he
 obtain⟨w,ew,rw'⟩:=r.get h2
 have hl:=r.length
 have hn:=Zmc
 have fin:EP X pins σ Q w s:=⟨z,H,I,rw',q⟩
 by_cases h0:0<=i
 ·have hj:i.toNat=j:=by
   rw[seqIndex_of h0 h5]at h1
   exact YE h1
  exact item_listR pl.isList h0 (by omega) (by rw[hj];simpa using ew) fin hs
 ·have hj:(i+(its.toArray.size:Int)).toNat=j:=by
   rw[seqIndex_neg (by omega) h4]at h1
   rw[Yu,<-hl]
   exact YE h1
  exact subscriptTail_builtinR (x:=w) pl.isList.typeIs slot_list_getitem.lookup
   (wpAny_getItem_list_neg (Q:=λr s'=>r=w/\EP X pins σ Q r s') pl.isList (by omega) (by rw[Yu]<;>omega) (by omega) (by rw[hj];simpa using ew) ⟨rfl,fin⟩) hs
theorem Zaq:IxR X (ZqW X.K):=by
 intro value slice pins s σ H x y v u Q I rx ry h hs
 obtain⟨p,xs,i,z,rfl,rfl,hq,he,q⟩:=h
 cases rx
 obtain⟨t,rfl⟩:=ry
 obtain⟨its,r,pl,hz⟩:=I.tuple hq
 obtain⟨j,h1,h2,h3,h4,h5⟩:=Zqd he
 obtain⟨w,ew,rw'⟩:=r.get h2
 have hl:=r.length
 have hn:=Zmc
 have fin:EP X pins σ Q w s:=⟨z,H,I,rw',q⟩
 exact subscriptTail_builtinR (x:=w) pl.typeIs slot_tuple_getitem.lookup
  (getItem_tuple (j:=j) (Q:=λr s'=>r=w/\EP X pins σ Q r s') pl (by omega) (by omega) (by rw[Yu,<-hl];exact h1) (by simpa using ew) ⟨rfl,fin⟩) hs
theorem ZoD (its:List Value) (n j:Nat) (u:Value):Obj.mapSeq (·.setIfInBounds j u) {cls:=.type "list",data:=.seq its.toArray n}={cls:=.type "list",data:=.seq (its.set j u).toArray n}:=by
 simp[Obj.mapSeq]
theorem Inv.lst {pins:List (Addr×Obj)}{σ:St}{H:Hp}{s:Shared}{p:Addr}{xs:List V} (I:Inv X pins σ H s) (h:H p=some (.lst xs)) :
  ∃(its:List Value) (n:Nat),Vals xs its/\s.heap.get? p=some {cls:=.type "list",data:=.seq its.toArray n}/\xs.length<=sizeLine:=by
 obtain⟨z,its,n,r,e⟩:=I.hok p _ h
 exact⟨its,n,r,e,z⟩
theorem Inv.lstUpd {pins:List (Addr×Obj)}{σ:St}{H:Hp}{s:Shared}{p:Addr}{xs ys:List V}{its its':List Value}{n n':Nat}{f:Obj->Obj} (I:Inv X pins σ H s) (h:H p=some (.lst xs))
  (ho:s.heap.get? p=some {cls:=.type "list",data:=.seq its.toArray n}) (hf:f {cls:=.type "list",data:=.seq its.toArray n}={cls:=.type "list",data:=.seq its'.toArray n'}) (r:Vals ys its') (hz:ys.length<=sizeLine) (t:Nat) :
  Inv X pins σ (upd H p (.lst ys)) {s with heap:=s.heap.update p f,toks:=t}:=by
 have e:(s.heap.update p f).get? p=some {cls:=.type "list",data:=.seq its'.toArray n'}:=by
  rw[Heap.get?_update_self f ho (by rw[hf]<;>rfl),hf]
 refine I.write (x:=p) (e:=p) (by rw[h];trivial) (.inl rfl) (λb u hb q=>(Heap.get?_update_other _ _ (Ne.symm hb)).trans q) ⟨_,e⟩ ?_
 exact⟨hz,its',n',r,e⟩
noncomputable def ZsV:V->V->V->Hp->(Hp->Prop)->Prop:=λo i v H Q=>∃p xs k j,o=.ref p/\i=.int k/\H p=some (.lst xs)/\ixN xs.length k=some j/\Q (upd H p (.lst (xs.set j v)))
theorem set_list:PSet X ZsV:=by
 intro pins s σ H o i v ov iv u Q I ro ri rv h
 obtain⟨p,xs,k,j,rfl,rfl,hp,hj,q⟩:=h
 cases ro
 obtain⟨t,rfl⟩:=ri
 obtain⟨its,n,r,ho,hz⟩:=I.lst hp
 obtain⟨h1,h2,h3,h4⟩:=Zqc hj
 have hl:=r.length
 have hn:=Zmc
 have I':Inv X pins σ (upd H p (.lst (xs.set j v))) {s with heap:=s.heap.update p (Obj.mapSeq (·.setIfInBounds j u))} :=
  I.lstUpd hp ho (ZoD its n j u) (r.set rv j) (by rw[List.length_set];exact hz) s.toks
 by_cases h0:0<=k
 ·have hk:k.toNat=j:=by
   rw[seqIndex_of h0 h4]at h1
   exact YE h1
  exact PySem.W.ki_setAt ho h0 (by omega) (by rw[Yu,<-hl];exact h4) (by rw[hk];exact⟨_,I',q⟩)
 ·have hk:(k+(its.toArray.size:Int)).toNat=j:=by
   rw[seqIndex_neg (by omega) h3]at h1
   rw[Yu,<-hl]
   exact YE h1
  exact PySem.W.ki_setBack ho (by omega) (by rw[Yu,<-hl];exact h3) (by omega) (by rw[hk];exact⟨_,I',q⟩)
theorem Zmh (lo hi:Option Int) (n:Nat):(sliceBounds lo hi none n).1=((HT.sIx n 0 lo:Nat):Int)/\(sliceBounds lo hi none n).2.1=((HT.sIx n n hi:Nat):Int)/\(sliceBounds lo hi none n).2.2=1:=by
 refine⟨?_,?_,rfl⟩
 ·cases lo with
  |none=>simp[sliceBounds,HT.sIx]
  |some i =>
   simp only[sliceBounds,HT.sIx,Option.getD_none,show(1:Int)>0 by decide,if_true]
   by_cases h:i<0
   ·simp only[h,if_true]<;>omega
   ·simp only[h,if_false]<;>omega
 ·cases hi with
  |none=>simp[sliceBounds,HT.sIx]
  |some i =>
   simp only[sliceBounds,HT.sIx,Option.getD_none,show(1:Int)>0 by decide,if_true]
   by_cases h:i<0
   ·simp only[h,if_true]<;>omega
   ·simp only[h,if_false]<;>omega
theorem Zk3 (its:List Value) (lo hi:Option Int):slicePick its.toArray lo hi none=((its.drop (HT.sIx its.length 0 lo)).take (HT.sIx its.length its.length hi-HT.sIx its.length 0 lo)).toArray:=by
 obtain⟨h1,h2,h3⟩:=Zmh lo hi its.toArray.size
 unfold slicePick
 rw[h1,h2,h3]
 simp only[sliceRange_one,pick_run,Yu]<;>rfl
noncomputable def rSlL (K:PySem.W.Frag):V->Option Int->Option Int->Hp->VK->Prop:=λx lo hi H Q=>∃a xs,x=.ref a/\SqL K H a xs/\∀p,H p=none->Q (.ref p) (upd H p (.lst (Zfr xs lo hi)))
theorem Zmi:SlR X (rSlL X.K):=by
 intro pins s σ H x v vl vu lo hi sl Q I rx hs pl pu h
 obtain⟨a,xs,rfl,hx,q⟩:=h
 cases rx
 obtain⟨its,r,ht,hz⟩:=I.list hx
 have hlen:=r.length
 refine⟨"list",_,slot_list_getitem.lookup,ht.isList.typeIs,?_⟩
 refine wpAny_getItem_list_slice ht.isList hs pl pu .none (by simp) ?_ (by rw[Yu]<;>omega)
 rw[Zk3,<-hlen]
 refine⟨.ref s.heap.objs.size,_,I.laid (t':=s.toks) (o:=.lst (Zfr xs lo hi)) (λb ob q=>Yh _ q) (Ye _) ?_,rfl,q _ (I.hok.fresh (Ye _))⟩
 exact⟨Ym (ZiO xs lo hi) hz,_,0,(r.drop (HT.sIx xs.length 0 lo)).take (HT.sIx xs.length xs.length hi-HT.sIx xs.length 0 lo),Ys _ rfl⟩
noncomputable def flatV:V->Bool
 |.non=>true
 |.bl _=>true
 |.int _=>true
 |.str _=>true
 |_=>false
noncomputable def eqV:V->V->Bool
 |.non,.non=>true
 |.bl a,.bl b=>a==b
 |.bl a,.int b=>(if a then 1 else 0)==b
 |.int a,.bl b=>a==(if b then 1 else 0)
 |.int a,.int b=>a==b
 |.str a,.str b=>a==b
 |_,_=>false
theorem ZsW {A:Around}{s:Shared}{y x:V}{u v:Value} (ry:RelV y u) (rx:RelV x v) (fy:flatV y=true) (fx:flatV x=true):SeqAt.EqAt A s u v (eqV y x):=by
 cases y with
 |non =>
  cases ry
  cases x with
  |non=>cases rx;exact SeqAt.EqAt.same _
  |bl b=>cases rx;exact SeqAt.EqAt.none_bool b
  |int b=>obtain⟨t,rfl⟩:=rx;exact SeqAt.EqAt.none_int b t
  |str b=>obtain⟨t,rfl⟩:=rx;exact SeqAt.EqAt.none_str b t
  |_=>exact absurd (show false=true from fx) YL
 |bl a =>
  cases ry
  cases x with
  |non=>cases rx;exact SeqAt.EqAt.bool_none a
  |bl b=>cases rx;exact SeqAt.EqAt.bool_bool a b
  |int b=>obtain⟨t,rfl⟩:=rx;exact SeqAt.EqAt.bool_int a b t
  |str b=>obtain⟨t,rfl⟩:=rx;exact SeqAt.EqAt.bool_str a b t
  |_=>exact absurd (show false=true from fx) YL
 |int a =>
  obtain⟨t',rfl⟩:=ry
  cases x with
  |non=>cases rx;exact SeqAt.EqAt.int_none a t'
  |bl b=>cases rx;exact SeqAt.EqAt.int_bool a t' b
  |int b=>obtain⟨t,rfl⟩:=rx;exact SeqAt.EqAt.int_int a t' b t
  |str b=>obtain⟨t,rfl⟩:=rx;exact SeqAt.EqAt.int_str a t' b t
  |_=>exact absurd (show false=true from fx) YL
 |str a =>
  obtain⟨t',rfl⟩:=ry
  cases x with
  |non=>cases rx;exact SeqAt.EqAt.str_none a t'
  |bl b=>cases rx;exact SeqAt.EqAt.str_bool a t' b
  |int b=>obtain⟨t,rfl⟩:=rx;exact SeqAt.EqAt.str_int a t' b t
  |str b=>obtain⟨t,rfl⟩:=rx;exact SeqAt.EqAt.str_str a t' b t
  |_=>exact absurd (show false=true from fx) YL
 |_=>exact absurd (show false=true from fy) YL
noncomputable def eqU (x:V) (u:Value):Bool:=match u with
 |.none=>eqV .non x
 |.bool b=>eqV (.bl b) x
 |.int i _=>eqV (.int i) x
 |.str z _=>eqV (.str z) x
 |_=>false
theorem ZoE {x y:V}{u:Value} (r:RelV y u) (f:flatV y=true):eqU x u=eqV y x:=by
 cases y with
 |non=>cases r;rfl
 |bl b=>cases r;rfl
 |int i=>obtain⟨t,rfl⟩:=r;rfl
 |str z=>obtain⟨t,rfl⟩:=r;rfl
 |_=>exact absurd (show false=true from f) YL
theorem Zmj {x:V}:∀{xs:List V}{us:List Value},Vals xs us->xs.all flatV=true->us.any (eqU x)=xs.any λy=>eqV y x
 |_,_,.nil,_=>rfl
 |y::xs,u::us,.cons r t,f=>by
  rw[List.all_cons,Bool.and_eq_true]at f
  rw[List.any_cons,List.any_cons,ZoE r f.1,Zmj t f.2]
theorem Zhi {A:Around}{s:Shared}{x:V}{v:Value} (rx:RelV x v) (fx:flatV x=true):∀{xs:List V}{us:List Value},Vals xs us->xs.all flatV=true->∀u∈us,SeqAt.EqAt A s u v (eqU x u)
 |_,_,.nil,_=>λu hu=>by cases hu
 |y::xs,u::us,.cons r t,f=>λu' hu=>by
  rw[List.all_cons,Bool.and_eq_true]at f
  rcases Yi.mp hu with rfl|hu
  ·rw[ZoE r f.1];exact ZsW r rx f.1 fx
  ·exact Zhi rx fx t f.2 u' hu
noncomputable def inV (x:V) (xs:List V):Bool:=xs.any λy=>eqV y x
noncomputable def rIn (K:PySem.W.Frag) (neg:Bool):R2:=λx y H Q=>∃p xs,y=.ref p/\(SqL K H p xs\/SqT K H p xs)/\flatV x=true/\xs.all flatV=true/\Q (.bl (if neg then !inV x xs else inV x xs)) H
theorem ZqX:OpR X (compareOp .In) (rIn X.K false):=by
 intro pins s σ H x y v u Q I rx ry h
 obtain⟨p,xs,rfl,hq,fx,fs,q⟩:=h
 cases ry
 rcases hq with hq|hq
 ·obtain⟨its,r,pl,hz⟩:=I.list hq
  refine SeqAt.in_listAt (eqU x) pl.isList (λw hw=>Zhi rx fx r fs w (by simpa using hw)) ⟨.bl _,H,I,rfl,?_⟩
  rw[show its.toArray.any (eqU x)=its.any (eqU x) by simp,Zmj r fs]
  exact q
 ·obtain⟨its,r,pl,hz⟩:=I.tuple hq
  refine SeqAt.in_tupleAt (eqU x) pl (λw hw=>Zhi rx fx r fs w (by simpa using hw)) ⟨.bl _,H,I,rfl,?_⟩
  rw[show its.toArray.any (eqU x)=its.any (eqU x) by simp,Zmj r fs]
  exact q
theorem Zmk:Zbc X (.builtin "len") (λxs H Q=>∃p ys,xs=[.ref p]/\(SqL X.K H p ys\/SqT X.K H p ys)/\Q (.int ys.length) H):=by
 intro pins s σ H xs us Q I r h
 obtain⟨p,ys,rfl,hq,q⟩:=h
 obtain⟨u,rfl,rx⟩:=vals1 r
 cases rx
 have hn:=Zmc
 rcases hq with hq|hq
 ·obtain⟨its,r',pl,hz⟩:=I.list hq
  have hlen:=r'.length
  exact Calls.call_len_list pl.isList (by simp only[Yu]<;>omega) ⟨.int ys.length,H,I.tok _,⟨s.toks+1,by rw[Yu,hlen]⟩,q⟩
 ·obtain⟨its,r',pl,hz⟩:=I.tuple hq
  have hlen:=r'.length
  exact len_tuple pl (by simp only[Yu]<;>omega) ⟨.int ys.length,H,I.tok _,⟨s.toks+1,by rw[Yu,hlen]⟩,q⟩
theorem Zml:Zbc X (.type "list") (λxs H Q=>∃p ys,xs=[.ref p]/\(SqL X.K H p ys\/SqT X.K H p ys)/\∀l,H l=none->Q (.ref l) (upd H l (.lst ys))):=by
 intro pins s σ H xs us Q I r h
 obtain⟨p,ys,rfl,hq,q⟩:=h
 obtain⟨u,rfl,rx⟩:=vals1 r
 cases rx
 have fin:∀(its:List Value),Vals ys its->ys.length<=sizeLine->∀(h':Heap) (c':Nat),(∀b o',s.heap.get? b=some o'->h'.get? b=some o') ->
   h'.get? s.heap.objs.size=some {cls:=.type "list",dict:=none,data:=.seq its.toArray c',slots:=#[]}->EP X pins σ Q (.ref s.heap.objs.size) {s with heap:=h'}:=λits r' hz h' c' kp e =>
  ⟨.ref s.heap.objs.size,_,I.laid (t':=s.toks) kp (Ye _) (show Zaa X.prog X.w _ h' _ (.lst ys)from⟨hz,its,c',r',e⟩),rfl,q _ (I.hok.fresh (Ye _))⟩
 rcases hq with hq|hq
 ·obtain⟨its,r',pl,hz⟩:=I.list hq
  have hlen:=r'.length
  obtain⟨o,ho,hc,n,hd⟩:=pl.isList
  exact call_list_seq p (.inl rfl) ho hc hd (λh' c' kp e=>fin its r' hz h' c' kp e) (by simp only[Yu]<;>omega)
 ·obtain⟨its,r',pl,hz⟩:=I.tuple hq
  have hlen:=r'.length
  obtain⟨o,ho,hc,n,hd⟩:=pl
  exact call_list_seq p (.inr rfl) ho hc hd (λh' c' kp e=>fin its r' hz h' c' kp e) (by simp only[Yu]<;>omega)
theorem Zk4:Zbc X (.type "tuple") (λxs H Q=>∃p ys,xs=[.ref p]/\((SqL X.K H p ys/\∀l,H l=none->Q (.ref l) (upd H l (.tup ys)))\/(SqT X.K H p ys/\Q (.ref p) H))):=by
 intro pins s σ H xs us Q I r h
 obtain⟨p,ys,rfl,h⟩:=h
 obtain⟨u,rfl,rx⟩:=vals1 r
 cases rx
 rcases h with⟨hq,q⟩|⟨hq,q⟩
 ·obtain⟨its,r',pl,hz⟩:=I.list hq
  have hlen:=r'.length
  refine call_tuple_list pl.isList (λh' kp=>?_) (by simp only[Yu]<;>omega)
  have I1:Inv X pins σ H {s with heap:=h'}:=I.kept (t':=s.toks) kp
  have I2:Inv X pins σ (upd H h'.objs.size (.tup ys)) {s with heap:=h'.push {cls:=.type "tuple",data:=.seq its.toArray}} :=
   I1.laid (t':=s.toks) (λb o e=>Yh _ e) (Ye _) (show Zaa X.prog X.w _ _ _ (.tup ys)from⟨hz,its,r',IsTup.new _ _⟩)
  exact⟨.ref h'.objs.size,_,I2,rfl,q _ (I1.hok.fresh (Ye _))⟩
 ·obtain⟨its,r',pl,hz⟩:=I.tuple hq
  exact call_tuple_same pl ⟨.ref p,H,I,rfl,q⟩
noncomputable def tyV (K:PySem.W.Frag) (T:String) (x:V) (H:Hp):Prop:=match x with
 |.str _=>T="str"
 |.int _=>T="int"
 |.ref p=>(T="list"/\∃xs,SqL K H p xs)\/(T="tuple"/\∃o,K.lookup p=some o/\o.cls=.type "tuple"/\o.dict=none) \/
   (T="dict"/\((∃kvs,H p=some (.dK kvs))\/∃kvs,H p=some (.dT kvs)))\/(T="set"/\∃S n,H p=some (.set S n))
 |_=>False
theorem tyV_is {pins:List (Addr×Obj)}{σ:St}{H:Hp}{s:Shared}{T:String}{x:V}{v:Value} (I:Inv X pins σ H s) (r:RelV x v) (ty:tyV X.K T x H) :
  s.TypeIs v T/\∀a,v=.ref a->∃ob,s.heap.get? a=some ob/\ob.dict=none:=by
 cases x with
 |str z =>
  obtain⟨t,rfl⟩:=r
  cases(show T="str" from ty)
  exact⟨typeIs_str s z t,λ_ e=>nomatch e⟩
 |int i =>
  obtain⟨t,rfl⟩:=r
  cases(show T="int" from ty)
  exact⟨typeIs_int s i t,λ_ e=>nomatch e⟩
 |ref p =>
  cases r
  rcases ty with⟨rfl,xs,hq⟩|⟨rfl,o,hk,hc,hd⟩|⟨rfl,hk⟩|⟨rfl,S,n,hk⟩
  ·obtain⟨its,_,pl,_⟩:=I.list hq
   refine⟨pl.isList.typeIs,λa e=>?_⟩
   cases e
   obtain⟨o,n,e,c,hd,_⟩:=pl
   exact⟨o,e,hd⟩
  ·refine⟨⟨o,I.kIn p o hk,hc⟩,λa e=>?_⟩
   cases e
   exact⟨o,I.kIn _ o hk,hd⟩
  ·have z:∃o,s.heap.get? p=some o/\o.ExactDict:=by
    rcases hk with⟨kvs,hk⟩|⟨kvs,hk⟩
    ·obtain⟨_,_,_,_,o,_,_,e,ex,_⟩:=I.hok p _ hk
     exact⟨o,e,ex⟩
    ·obtain⟨_,_,_,_,o,_,_,e,ex,_⟩:=I.hok p _ hk
     exact⟨o,e,ex⟩
   obtain⟨o,e,ex⟩:=z
   refine⟨⟨o,e,ex.1⟩,λa e2=>?_⟩
   cases e2
   exact⟨o,e,ex.2.1⟩
  ·obtain⟨o,_,_,_,e,ex,_⟩:=I.hok p _ hk
   refine⟨⟨o,e,ex.1⟩,λa e2=>?_⟩
   cases e2
   exact⟨o,e,ex.2.1⟩
 |_=>exact False.elim ty
noncomputable def tBM (K:PySem.W.Frag) (T:String) (r:V->List V->Hp->VK->Prop) (to:TE) (t:TA):TE:=fun σ H Q=>to σ H λx H1=>tyV K T x H1/\t σ H1 λxs H2=>r x xs H2 Q
variable {o e:Expr}{es:List Expr}{to:TE}{t:TA}{name:Str}{apos cpos:Pos}{T id:String}{r:V->List V->Hp->VK->Prop}
theorem Zfs (pa:PlainAttrs T) (slot:Slot T name id) (hty:typeOf (.builtin id)=pure (.type "method_descriptor")) (hm:MtR X id r) (ho:PE X o to) (ha:PA X (e::es) t)
  (hbase:attributeBase o name X.env (eval o X.env)=eval o X.env:=by rfl)
  (hfew:((backTo cpos (starEach (e::es) X.env)).all (λx=>!x.1)&&(backToKw cpos (keywordEach [] X.env)).all (λx=>x.1.isSome)
   && decide ((e::es).length+([]:List Keyword).length+(if ([]:List Keyword).isEmpty then 0 else 1)<30))=true:=by rfl)
  (hline:(apos.endLine==cpos.line)=true:=by rfl) (hs:starEach (e::es) X.env=(false,eval e X.env)::starEach es X.env:=by rfl) (hplain:(backTo cpos (starEach es X.env)).any (·.1)=false:=by rfl) :
  PE X (.Call (.Attribute o name apos) (e::es) [] cpos) (tBM X.K T r to t):=by
 intro pins s σ H Q I h
 refine wpAny_Call_method_late hbase hfew hline rfl (thn (ho pins s σ H _ I h) λv s1 ⟨x,H1,I1,r1,ty,q1⟩=>?_)
 obtain⟨h1,h2⟩:=tyV_is I1 r1 ty
 refine⟨T,id,pa,slot,hty,h1,h2,?_⟩
 have hA:=ha cpos pins s1 σ H1 _ I1 q1
 rw[hs]at hA⊢
 refine Calls.callWith_builtin (by show(false||(backTo cpos (starEach es X.env)).any (·.1))=false;rw[hplain]<;>rfl) (Calls.evalArgs_plain ?_)
 exact thn hA λus s2 ⟨vs,H2,I2,r2,q2⟩=>hm pins s2 σ H2 x vs v us Q I2 r1 r2 q2
end
noncomputable def MtM (X:Cx) (id:String) (r:V->List V->Hp->VK->Prop):Prop :=
 ∀(pins:List (Addr×Obj)) (s:Shared) (σ:St) (H:Hp) (x:V) (xs:List V) (v:Value) (us:List Value) (Q:VK),Inv X pins σ H s->RelV x v->Vals xs us->r x xs H Q ->
  wpAny (model X.prog X.w) X.A (call (.builtin id) (v::us)) (EP X pins σ Q) X.xe s
theorem Vals.one:∀{x:V}{us:List Value},Vals [x] us->∃u,us=[u]/\RelV x u
 |_,_,.cons r .nil=>⟨_,rfl,r⟩
theorem Vals.two:∀{x y:V}{us:List Value},Vals [x,y] us->∃u v,us=[u,v]/\RelV x u/\RelV y v
 |_,_,_,.cons r (.cons q .nil)=>⟨_,_,rfl,r,q⟩
theorem Vals.rep {xs:List V}{us:List Value} (h:Vals xs us):∀k:Nat,Vals (List.replicate k xs).flatten (List.replicate k us).flatten
 |0=>.nil
 |k+1=>by
  rw[List.replicate_succ,List.replicate_succ,List.flatten_cons,List.flatten_cons]
  exact Vals.append h (Vals.rep h k)
theorem foldl_rep (its:List Value):∀(k:Nat) (acc:List Value),
  List.foldl (λx1 x2=>x1++x2) acc.toArray (List.replicate k its.toArray)=(acc++(List.replicate k its).flatten).toArray
 |0,acc=>by simp
 |k+1,acc=>by
  have e:acc.toArray++its.toArray=(acc++its).toArray:=by simp
  have e2:(acc++its)++(List.replicate k its).flatten=acc++(List.replicate (k+1) its).flatten:=by
   rw[List.replicate_succ,List.flatten_cons,Y3]
  rw[<-e2,<-foldl_rep its k (acc++its),<-e,List.replicate_succ,List.foldl_cons]
section
variable {X:Cx}{pins:List (Addr×Obj)}{σ:St}{H:Hp}{s:Shared}{l b:Addr}{xs ys zs:List V}
theorem Inv.lset {its its':List Value}{n:Nat}{f:Array Value->Array Value}{t':Nat} (I:Inv X pins σ H s) (hH:H l=some (.lst xs))
  (e:s.heap.get? l=some {cls:=.type "list",data:=.seq its.toArray n}) (hf:f its.toArray=its'.toArray) (hv:Vals ys its') (hz:ys.length<=sizeLine) :
  Inv X pins σ (upd H l (.lst ys)) {s with heap:=s.heap.update l (Obj.mapSeq f),toks:=t'}:=by
 have q:=PySem.IsL.update e f
 rw[hf]at q
 refine I.write (x:=l) (e:=l) (by rw[hH];exact trivial) (.inl rfl) (λb' u hb hu=>(Heap.get?_update_other s.heap (Obj.mapSeq f) (Ne.symm hb)).trans hu) ⟨_,q⟩ ?_
 exact⟨hz,its',_,hv,q⟩
theorem Inv.lnew {its:List Value}{t':Nat} (I:Inv X pins σ H s) (hv:Vals ys its) (hz:ys.length<=sizeLine) :
  Inv X pins σ (upd H s.heap.objs.size (.lst ys)) {s with heap:=s.heap.push {cls:=.type "list",data:=.seq its.toArray},toks:=t'} :=
 I.laid (λ_ _ q=>Yh _ q) (Ye _) ⟨hz,its,0,hv,Ys _ rfl⟩
theorem Inv.fresh (I:Inv X pins σ H s):H s.heap.objs.size=none:=I.hok.fresh (Ye _)
theorem Inv.lstM (I:Inv X pins σ H s) (hH:H l=some (.lst xs)):xs.length<=sizeLine/\∃(its:List Value) (n:Nat),Vals xs its/\xs.length=its.length/\s.heap.get? l=some {cls:=.type "list",data:=.seq its.toArray n}:=by
 obtain⟨z,its,n,r,e⟩:=I.hok l _ hH
 exact⟨z,its,n,r,r.length,e⟩
theorem ZsX {n:Nat} (h:n<=sizeLine):Builtin.List.listTooLong n=false:=by
 unfold Builtin.List.listTooLong
 exact YK (by omega)
end
section
variable {X:Cx}
noncomputable def Zmm:V->List V->Hp->VK->Prop:=λx vs H Q=>∃l xs y,x=.ref l/\vs=[y]/\H l=some (.lst xs)/\xs.length<sizeLine/\Q .non (upd H l (.lst (xs++[y])))
theorem ZaW:MtM X "list.append" Zmm:=by
 intro pins s σ H x vs v us Q I rx rv h
 obtain⟨l,xs,y,rfl,rfl,hH,hz,q⟩:=h
 cases rx
 obtain⟨u,rfl,ru⟩:=rv.one
 obtain⟨z,its,n,r,hl,e⟩:=I.lstM hH
 refine call_meets F.slot_list_append ⟨_,e,rfl⟩ F.entry_list_append (F.args_list_append_2 _ _) (PySem.list_append l its.toArray n u (by rw[Yu];omega)) ⟨e,?_⟩
 refine⟨.non,_,I.lset (its':=its++[u]) hH e (by simp) (r.append (.cons ru .nil)) ?_,rfl,q⟩
 rw[YN,List.length_singleton]
 omega
noncomputable def rRep:R2:=λx y H Q=>∃l k xs,x=.ref l/\y=.int k/\H l=some (.lst xs)/\-(2 ^ 63)<=k/\k<2 ^ 63/\xs.length*k.toNat<=sizeLine /\
 ∀p,H p=none->Q (.ref p) (upd H p (.lst (List.replicate k.toNat xs).flatten))
theorem len_rep {α:Type} (xs:List α) (k:Nat):(List.replicate k xs).flatten.length=k*xs.length:=by
 induction k with
 |zero=>simp
 |succ k ih=>rw[List.replicate_succ,List.flatten_cons,YN,ih,Nat.succ_mul,Nat.add_comm]
theorem op_rep:OpR X (binaryOp .Mult) rRep:=by
 intro pins s σ H x y v u Q I rx ry h
 obtain⟨l,k,xs,rfl,rfl,hH,h1,h2,hz,q⟩:=h
 cases rx
 obtain⟨t,rfl⟩:=ry
 obtain⟨z,its,n,r,hl,e⟩:=I.lstM hH
 have hlen:its.toArray.size*k.toNat<=sizeLine:=by rw[Yu,<-hl];exact hz
 have hcap:¬ its.toArray.size*k.toNat>(2 ^ 63-1) / 8:=by
  have:(sizeLine:Nat)<=(2 ^ 63-1) / 8:=by decide
  omega
 have hfit:¬ (!Builtin.List.listFitsIndex k)=true:=by
  rw[fitsIndex_both h1 h2]
  exact YL
 have hlong:¬ Builtin.List.listTooLong (its.toArray.size*k.toNat)=true:=by
  rw[ZsX hlen]
  exact YL
 have hnew:List.foldl (λx1 x2=>x1++x2) #[] (List.replicate (if its.toArray.isEmpty=true then 0 else k.toNat) its.toArray)=(List.replicate k.toNat its).flatten.toArray:=by
  have f0:∀m:Nat,List.foldl (λx1 x2=>x1++x2) #[] (List.replicate m its.toArray)=(List.replicate m its).flatten.toArray:=λm=>by
   have:=foldl_rep its m []
   rw[List.nil_append]at this
   exact this
  rw[f0]
  cases its with
  |nil=>simp
  |cons a r'=>rw[Yc (by simp)]
 refine wpAny_binaryOp_repeat_ref (T:="list") (U:="int") (by decide) ⟨_,e,rfl⟩ (λs'=>typeIs_int s' k t) noFill_list_mul F.fills_int_mul F.slot_int_rmul repeat_list F.slot_int_index.lookup
  (call_meets F.slot_int_rmul (typeIs_int s k t) F.entry_int_rmul (F.args_int_rmul_2 _ _) (int___rmul___int_list k t l its.toArray n)
   ⟨e,rfl,⟨_,e,rfl⟩,call_meets F.slot_list_mul ⟨_,e,rfl⟩ F.entry_list_mul (F.args_list_mul_2 _ _) (AutoListH.list___mul___list_int_3 l its.toArray n k t hfit hcap hlong) ⟨e,?_⟩⟩)
 rw[hnew]
 exact⟨.ref _,_,I.lnew (t':=s.toks) (r.rep k.toNat) (by rw[len_rep,Nat.mul_comm];exact hz),rfl,q _ I.fresh⟩
end
end L2
namespace Att
open PySem PySem.W PySem.Calls PyProof.Rows
theorem Zi8 {P:Params}{h:Heap}:∀(ns:List Int) (vs:List Value),WellAll P h vs (ns.map WData.int)->IntsAre vs ns:=by
 intro ns
 induction ns with
 |nil =>
  intro vs w
  rw[List.map_nil]at w
  cases w
  exact .nil
 |cons n ns ih =>
  intro vs w
  rw[YM]at w
  cases w with
  |cons a b =>
   cases a
   exact .cons _ _ (ih _ b)
theorem ZqY {l:OpenLaw}{n:Nat} (hn:l.most=some n) {P:Params}{h:Heap}{args:List WData}{vals:List Value}
  (hpre:l.row.toRowW.claim.pre args=true) (hwl:WellAll P h vals args) :
  ∃a vs ns,vals=[Value.ref a]/\args=[WData.list (ns.map WData.int)]/\h.get? a=some {cls:=.type "list",data:=.seq vs.toArray}/\IntsAre vs ns/\ns.length<=n:=by
 have hsh:WShape.hasAll [] args [.list .int]=true:=(pre_splitW hpre).1
 have hc:l.pre.holds [] {args:=args}=true:=(pre_splitW hpre).2
 obtain⟨d,r,rfl,h1,h2⟩:=hasAllW_cons hsh
 obtain rfl:=hasAllW_nil h2
 obtain⟨xs,rfl,h3⟩:=hasW_list h1
 obtain⟨ns,rfl⟩:=items_int h3
 have hlen:ns.length<=n:=by
  unfold OpenLaw.pre at hc
  have h4:(WTm.not (.lt (.lit (.int (n:Int))) (.len (.arg 0)))).holds [] {args:=[.list (ns.map .int)]}=true:=by
   have h4:=(holds_andW hc).1
   rw[hn]at h4
   exact h4
  have h5:=condW_of h4 (w_not (w_lt w_lit (w_len_list (w_arg rfl))))
  rw[Yf]at h5
  refine Nat.le_of_not_lt λq=>?_
  have q':(n:Int)<((ns.length:Nat):Int):=by omega
  first
   |(rw[Yy q']at h5;exact absurd h5 (by decide))
   |(simp at h5;omega)
 cases hwl with
 |cons w1 w2 =>
  cases w2
  cases w1 with
  |list ho hall=>exact⟨_,_,ns,rfl,rfl,ho,Zi8 ns _ hall,hlen⟩
theorem ZqZ (l:OpenLaw) (args:List WData):l.row.toRowW.claim.post args (.bool true) args=true :=
 postW_of (r:=l.row.toRowW) (X:=(true==true))
  (show WShape.has [] (.bool true) .bool=true by first|rfl|decide|simp[WShape.has,WShape.arms,WShape.armsAll])
  (show(WTm.eq .res (.lit (.bool true))).value [] {args:=args,res:=some (.bool true),after:=args}=some (.bool (true==true))from w_eq_bool (w_res rfl) w_lit) rfl
theorem Znr {l:OpenLaw}{n:Nat}{q:Program}{loose:List Str}{XP:(Str->Option Value)->Heap->Prop}{YP:World->Heap->Prop}{d:DefRec}
  (hn:l.most=some n) (hdf:d.params.defaults=[])
  (call:∀(w:World) (s₀ s₁:Shared) (mg mb:Str->Option Value) (fa:Addr) (o:Obj) (pm cd doc:Value) (a:Addr) (vs:List Value) (ns:List Int),
   Ground q loose [] XP w s₀ mg mb s₁.heap->YP w s₁.heap ->
   s₁.heap.get? fa=some o->o.data=.func (docDef d.name d.params d.body d.scope pm cd doc)->s₁.heap.CodeRec cd d.name->mg d.name=some (.ref fa) ->
   s₁.heap.get? a=some {cls:=.type "list",data:=.seq vs.toArray}->IntsAre vs ns->ns.length<=n->s₁.gens=#[] ->
   codeAny (model l.prog w) callerA (.call (.ref fa) ⟨[.ref a],[]⟩) (λr s'=>r=.ok (.ret (.bool true))/\OldK s₁.heap s'.heap/\s'.os=s₁.os/\AllBare s'.gens) s₁) :
  WalkO q loose XP YP l.row.toRowW d [] (λf vs=>PySem.call f vs):=by
 intro w s₀ s₁ mg mb G Y fa o pm cd doc dV kV ho hd hcd hD hmg hg args vals as hpre hlay hrd hwl hlo
 obtain rfl:dV=.none:=Dflts.none hD hdf
 obtain rfl:kV=.none:=Dflts.noKw hD
 obtain⟨a,vs,ns,rfl,rfl,hobj,hints,hlen⟩:=ZqY hn hpre hwl
 refine enter_call (codeAny_mono (call w s₀ s₁ mg mb fa o pm cd doc a vs ns G Y ho (fd_plain hd) hcd hmg hobj hints hlen hg) λr s' hq=>?_)
 obtain⟨rfl,h2,h3,h4⟩:=hq
 exact⟨.inl ⟨.bool true,.bool true,[],rfl,λ_=>rfl,.bool true,ZqZ l _,λ_=>⟨List.Pairwise.nil,λ_ hm=>(nomatch hm)⟩⟩,h2,h3,h4⟩
end Att
namespace L2
open PySem PySem.Spec PyProof.Rows
theorem Zf6:∀{vs:List Value}{ns:List Int},IntsAre vs ns->Vals (ns.map V.int) vs
 |_,_,.nil=>.nil
 |_,_,.cons n t h=>.cons ⟨t,rfl⟩ (Zf6 h)
noncomputable def defArgs (s:Stmt):Arguments:=match s with
 |.FunctionDef _ a _ _ _ _ _ _ _ _=>a
 |_=>{posonlyargs:=[],args:=[],vararg:=none,kwonlyargs:=[],kw_defaults:=[],kwarg:=none,defaults:=[]}
noncomputable def defBody (s:Stmt):List Stmt:=match s with
 |.FunctionDef _ _ b _ _ _ _ _ _ _=>b
 |_=>[]
noncomputable def defScope (s:Stmt):Scope:=match s with
 |.FunctionDef _ _ _ _ _ _ sc _ _ _=>sc
 |_=>{kind:=.function,names:=[],isGenerator:=false,isCoroutine:=false}
noncomputable abbrev E0:XK:=λ_ _ _=>False
structure Fun (K:PySem.W.Frag) (x qual:Str) (st:Stmt) (f:Addr) (fd:FuncData):Prop where
 ex:∃(oc:Value) (od:Option Addr) (kV doc pm:Value) (an:Option Addr) (cdv ct:Value) (osl:Array (Option Value)),
  fd=PySem.W.fnOf x qual (defArgs st) (defBody st) (defScope st) .none kV doc pm an cdv ct/\K.lookup f=some ⟨oc,od,.func fd,osl⟩/\PySem.W.codeIn K cdv qual=true
 kp:PySem.W.keepIn K (.ref f)=true
section
variable {P:Program}{w:World}{K:PySem.W.Frag}{mg:Str->Option Value}{base:Heap}
theorem Fun.binds {x qual:Str}{st:Stmt}{f:Addr}{fd:FuncData}{ps:List Str} (F:Fun K x qual st f fd)
  (h:∀(kV doc pm:Value) (an:Option Addr) (cdv ct:Value) (us:List Value),us.length=ps.length->bindArgs (PySem.W.fnOf x qual (defArgs st) (defBody st) (defScope st) .none kV doc pm an cdv ct) ⟨us,[]⟩=pure (ps.zip us)):Binds K fd ps []:=by
 obtain⟨oc,od,kV,doc,pm,an,cdv,ct,osl,rfl,lk,hcd⟩:=F.ex
 exact .all (h kV doc pm an cdv ct)
theorem ZF {x qual:Str}{st:Stmt}{f:Addr}{oc:Value}{od an:Option Addr}{osl:Array (Option Value)}{kV doc pm cdv ct:Value} (l:K.lookup f=some ⟨oc,od,.func (PySem.W.fnOf x qual (defArgs st) (defBody st) (defScope st) .none kV doc pm an cdv ct),osl⟩)
  (c:PySem.W.codeIn K cdv qual=true) (k:PySem.W.keepIn K (.ref f)=true):Fun K x qual st f (PySem.W.fnOf x qual (defArgs st) (defBody st) (defScope st) .none kV doc pm an cdv ct):=⟨⟨oc,od,kV,doc,pm,an,cdv,ct,osl,rfl,l,c⟩,k⟩
end
theorem Zhj {A:Around}{k:Nat} (hr:Room k A):A.units+1<cLine:=Yv (Nat.add_le_add_left (by decide:1<=64) _) hr.units
section
variable {X:Cx}
theorem pv (i:Nat) {x:Str}{pos:Pos} (hN:X.N[i]?=some x:=by rfl) (hv:Vis X.env.scope x:=by first|exact Or.inl rfl|exact Or.inr (Or.inl rfl)|exact Or.inr (Or.inr rfl)) (hd:(x==("__debug__":Str))=false:=by decide)
  (hcd:(x==("__classdict__":Str))=false:=by decide):PE X (.Name x pos) (Zl6 i):=pe_var hN hv hd hcd
end
theorem ZC {c A B:Prop} [Decidable c] (h1:c->A) (h2:¬ c->B):if c then A else B:=by
 by_cases h:c
 ·rw[Yd h]
  exact h1 h
 ·rw[Yc h]
  exact h2 h
noncomputable def Ze (H H':Hp):Prop:=∀b o,H b=some o->H' b=some o
theorem Ze.refl (H:Hp):Ze H H:=λ_ _ h=>h
theorem Ze.trans {H H1 H2:Hp} (a:Ze H H1) (b:Ze H1 H2):Ze H H2:=λc o h=>b c o (a c o h)
theorem Ze.free {H H':Hp} (e:Ze H H') {l:Addr} (h:H' l=Option.none):H l=Option.none:=by
 cases q:H l with
 |none=>rfl
 |some o =>
  rw[e l o q]at h
  cases h
theorem Ze.seq {K:PySem.W.Frag}{H H':Hp}{a:Addr}{xs:List V} (e:Ze H H') (h:SqL K H a xs):SqL K H' a xs:=by
 rcases h with(h|⟨o,h⟩)|h
 ·exact .inl (.inl (e _ _ h))
 ·exact .inl (.inr ⟨o,e _ _ h⟩)
 ·exact .inr h
theorem Zev {env:Env}:∀(names:List (Str×NameKind)) (cs0:List (Str×Addr)),(∀y∈names,y.2=.free->∃c,env.cells.lookup y.1=some c) ->
  ∃cl,(forIn names cs0 (λ(x:Str×NameKind) r=>(do
   match x with
   |(name,kind)=>if (kind==NameKind.free)=true then do let a <-cellOf env name;pure (ForInStep.yield ((name,a)::r))else pure (ForInStep.yield r)):_->_->Sem (ForInStep (List (Str×Addr)))))=pure cl /\
   (∀p∈cl,p∈cs0\/env.cells.lookup p.1=some p.2)/\(∀p∈cs0,p∈cl)/\(∀y∈names,y.2=.free->∃c,(y.1,c)∈cl)
 |[],cs0,_=>⟨cs0,rfl,λp h=>.inl h,λp h=>h,λy h=>by cases h⟩
 |(n,k)::r,cs0,h=>by
  by_cases hk:k=.free
  ·subst hk
   obtain⟨c,hc⟩:=h (n,.free) (.head _) rfl
   obtain⟨cl,e,h1,h2,h3⟩:=Zev r ((n,c)::cs0) λy hy=>h y (.tail _ hy)
   refine⟨cl,?_,λp hp=>?_,λp hp=>h2 p (.tail _ hp),λy hy hf=>?_⟩
   ·rw[List.forIn_cons]
    have e1:cellOf env n=pure c:=by unfold cellOf;rw[hc]
    simp only[beq_self_eq_true,if_true,e1,pure_bind]
    exact e
   ·rcases h1 p hp with q|q
    ·rcases Yi.mp q with q|q
     ·subst q;exact .inr hc
     ·exact .inl q
    ·exact .inr q
   ·rcases Yi.mp hy with q|q
    ·subst q;exact⟨c,h2 _ (.head _)⟩
    ·exact h3 y q hf
  ·obtain⟨cl,e,h1,h2,h3⟩:=Zev r cs0 λy hy=>h y (.tail _ hy)
   refine⟨cl,?_,h1,h2,λy hy hf=>?_⟩
   ·rw[List.forIn_cons]
    have e1:(k==NameKind.free)=false:=by cases k<;>first|rfl|exact absurd rfl hk
    simp only[e1,Bool.false_eq_true,if_false,pure_bind]
    exact e
   ·rcases Yi.mp hy with q|q
    ·subst q;exact absurd hf hk
    ·exact h3 y q hf
theorem Zjw {env:Env}{scope:Scope} (h:∀y∈scope.names,y.2=.free->∃c,env.cells.lookup y.1=some c) :
  ∃cl,closureFor scope env=pure cl/\(∀x c,cl.lookup x=some c->env.cells.lookup x=some c)/\(∀y∈scope.names,y.2=.free->∃c,cl.lookup y.1=some c/\env.cells.lookup y.1=some c):=by
 obtain⟨cl,e,h1,h2,h3⟩:=Zev (env:=env) scope.names [] h
 have up:∀x c,cl.lookup x=some c->env.cells.lookup x=some c:=λx c q=>by
  rcases h1 _ (PySem.mem_of_lookup q)with z|z
  ·cases z
  ·exact z
 refine⟨cl,?_,up,λy hy hf=>?_⟩
 ·unfold closureFor
  simp only[bind_pure_comp]at e⊢
  rw[e]
  exact pure_bind _ _
 ·obtain⟨c,hc⟩:=h3 y hy hf
  cases q:cl.lookup y.1 with
  |none=>exact absurd (List.lookup_eq_none_iff.mp q _ hc) (by simp)
  |some c'=>exact⟨c',rfl,up _ _ q⟩
noncomputable def compOk (around scope:Scope):Bool :=
 scope.kind==.function&&around.kind==.function&&scope.names.all λy=>match y.2 with
  |.local=>scope.names.lookup y.1==some .local
  |.cell=>false
  |.free=>(scope.names.lookup y.1==some .free)&&(around.names.lookup y.1==some .cell||around.names.lookup y.1==some .free)
  |_=>true
theorem Zdq {a s:Scope} (h:compOk a s=true):s.kind=.function:=by
 simp only[compOk,Bool.and_eq_true,beq_iff_eq]at h;exact h.1.1
theorem Zh5 {a s:Scope} (h:compOk a s=true) {y:Str×NameKind} (hy:y∈s.names):(match y.2 with
  |.local=>s.names.lookup y.1==some .local
  |.cell=>false
  |.free=>(s.names.lookup y.1==some .free)&&(a.names.lookup y.1==some .cell||a.names.lookup y.1==some .free)
  |_=>true)=true:=by
 simp only[compOk,Bool.and_eq_true]at h
 exact List.all_eq_true.mp h.2 y hy
theorem Zmn {a s:Scope} (h:compOk a s=true):∀y∈s.names,y.2=.local->s.names.lookup y.1=some .local:=λy hy e=>by
 have q:=Zh5 h hy
 rw[e]at q
 exact beq_iff_eq.mp q
theorem Zdr {a s:Scope} (h:compOk a s=true):∀y∈s.names,y.2≠.cell:=λy hy e=>by
 have q:=Zh5 h hy
 rw[e]at q
 cases q
theorem Zds {a s:Scope} (h:compOk a s=true):∀y∈s.names,y.2=.free->a.names.lookup y.1=some .cell\/a.names.lookup y.1=some .free:=λy hy e=>by
 have q:=Zh5 h hy
 rw[e]at q
 simp only[Bool.and_eq_true,Bool.or_eq_true,beq_iff_eq]at q
 exact q.2
theorem Zaf {env:Env}:∀{names:List (Str×NameKind)}{x:Str}{k:NameKind},(names.map λ(n,k)=>if (k==NameKind.free&&env.scope.kind==.function&&env.kindOf n==some .cell)then (n,NameKind.cell)else (n,k)).lookup x=some k ->
  ∃k',names.lookup x=some k'/\(k=k'\/(k'=.free/\k=.cell))
 |[],_,_,h=>by simp at h
 |(n,k0)::r,x,k,h=>by
  by_cases hx:x=n
  ·subst hx
   refine⟨k0,by simp,?_⟩
   simp only[YM]at h
   split at h
   ·rename_i hc
    simp only[Bool.and_eq_true,beq_iff_eq]at hc
    simp only[List.lookup_cons_self,Option.some.injEq]at h
    exact .inr ⟨hc.1.1,h.symm⟩
   ·simp only[List.lookup_cons_self,Option.some.injEq]at h
    exact .inl h.symm
  ·have hb:(x==n)=false:=by simpa using hx
   simp only[YM]at h
   have e2:∀k1,((n,k1)::r).lookup x=r.lookup x:=λk1=>by simp[List.lookup_cons,hb]
   split at h<;>(simp only[List.lookup_cons,hb]at h;obtain⟨k',h1,h2⟩:=Zaf h;exact⟨k',by rw[e2];exact h1,h2⟩)
noncomputable def ZaO (X:Cx) (Nc:List Str) (scope:Scope) (cl:List (Str×Addr)) (C:Addr) (s2:Shared) (H2:Hp) (fp:List Addr):Cx where
 prog:=X.prog
 w:=X.w
 K:=X.K
 mg:=X.mg
 base:=X.base
 A:=X.A
 N:=Nc
 s₀:=s2
 H₀:=H2
 env:=compEnvC scope cl C X.env
 outer:=X.stack
 stack:=X.stack
 ex:=fp
 fn:=λ_=>false
 calm:=X.calm
 pn:=[]
 xe:=λ_ _=>False
noncomputable def Z6 (js:List (Option Nat)) (σ:St):St:=js.map λj=>match j with
 |none=>none
 |some i=>(σ[i]?).join
noncomputable def takesC (N Nc:List Str) (scope:Scope):List (Option Nat)->Nat->Bool
 |[],i=>i==Nc.length
 |none::r,i=>takesC N Nc scope r (i+1)
 |some j::r,i=>(match Nc[i]?,N[j]? with
  |some x,some y=>x==y&&scope.names.lookup x==some .free
  |_,_=>false)&&takesC N Nc scope r (i+1)
theorem Zc5 {N Nc:List Str}{scope:Scope}:∀{js:List (Option Nat)}{i:Nat},takesC N Nc scope js i=true->i+js.length=Nc.length
 |[],i,h=>by simpa[takesC]using h
 |none::r,i,h=>by
  have:=Zc5 (js:=r) (i:=i+1) (by simpa[takesC]using h)
  simp only[YQ];omega
 |some j::r,i,h=>by
  simp only[takesC,Bool.and_eq_true]at h
  have:=Zc5 (js:=r) (i:=i+1) h.2
  simp only[YQ];omega
theorem Zeb {N Nc:List Str}{scope:Scope}:∀{js:List (Option Nat)}{i k j:Nat},takesC N Nc scope js i=true->js[k]?=some (some j)->∃x,Nc[i+k]?=some x/\N[j]?=some x/\scope.names.lookup x=some .free
 |[],i,k,j,h,e=>by simp at e
 |none::r,i,0,j,h,e=>by simp at e
 |none::r,i,k+1,j,h,e=>by
  obtain⟨x,h1,h2,h3⟩:=Zeb (js:=r) (i:=i+1) (k:=k) (j:=j) (by simpa[takesC]using h) (by simpa using e)
  exact⟨x,by rw[<-h1];congr 1;omega,h2,h3⟩
 |some j0::r,i,0,j,h,e=>by
  simp only[takesC,Bool.and_eq_true]at h
  simp only[List.getElem?_cons_zero,Option.some.injEq]at e
  subst e
  cases e1:Nc[i]? with
  |none=>rw[e1]at h;simp at h
  |some x =>
   cases e2:N[j0]? with
   |none=>rw[e1,e2]at h;simp at h
   |some y =>
    rw[e1,e2]at h
    simp only[Bool.and_eq_true,beq_iff_eq]at h
    exact⟨x,by simpa using e1,by rw[h.1.1],h.1.2⟩
 |some j0::r,i,k+1,j,h,e=>by
  simp only[takesC,Bool.and_eq_true]at h
  obtain⟨x,h1,h2,h3⟩:=Zeb (js:=r) (i:=i+1) (k:=k) (j:=j) h.2 (by simpa using e)
  exact⟨x,by rw[<-h1];congr 1;omega,h2,h3⟩
section
variable {X:Cx}
theorem lookup_mem {names:List (Str×NameKind)}{x:Str}{k:NameKind} (h:names.lookup x=some k):(x,k)∈names:=PySem.mem_of_lookup h
theorem ZoF {pins:List (Addr×Obj)}{σ:St}{H2:Hp}{s2:Shared}{Nc:List Str}{js:List (Option Nat)}{scope:Scope}{cl:List (Str×Addr)}{fp:List Addr}{h1:Heap}{tk:Nat}{D C:Addr}{oD:Obj}{m:Str->Option Value}
  (I:Inv X pins σ H2 s2) (hok:compOk X.env.scope scope=true) (htk:takesC X.N Nc scope js 0=true) (up:∀x c,cl.lookup x=some c->X.env.cells.lookup x=some c) (hfr:∀y∈scope.names,y.2=.free->∃c,cl.lookup y.1=some c/\X.env.cells.lookup y.1=some c)
  (hfp:∀b∈fp,FpOk X pins H2 b) (hfl:∀b∈fp,b<s2.heap.objs.size) (hD:D=s2.heap.objs.size) (hC:C=s2.heap.objs.size+1) (old:∀b o,s2.heap.get? b=some o->h1.get? b=some o) (hns:h1.Ns C m) (hoD:h1.get? D=some oD) (hdD:∀v,oD.data≠.cell v) :
  Inv (ZaO X Nc scope cl C s2 H2 fp) [(D,oD)] (Z6 js σ) H2 {s2 with heap:=h1,toks:=tk}:=by
 have leC:s2.heap.objs.size<=C:=by rw[hC];exact YR _
 have leD:s2.heap.objs.size<=D:=Y4 hD.symm
 have kf:∀x,((compEnvC scope cl C X.env).kindOf x=some .cell\/(compEnvC scope cl C X.env).kindOf x=some .free)->∃c,cl.lookup x=some c/\X.env.cells.lookup x=some c:=λx hx=>by
  have:∃k,(compEnvC scope cl C X.env).kindOf x=some k/\(k=.cell\/k=.free):=hx.elim (λq=>⟨_,q,.inl rfl⟩) λq=>⟨_,q,.inr rfl⟩
  obtain⟨k,e,hk⟩:=this
  obtain⟨k',h1,h2⟩:=Zaf (show(scope.names.map _).lookup x=some k from e)
  have hm:=lookup_mem h1
  have:k'=.free:=by
   rcases h2 with q|q
   ·subst q
    rcases hk with q|q
    ·subst q;exact absurd rfl (Zdr hok _ hm)
    ·exact q
   ·exact q.1
  subst this
  exact hfr _ hm rfl
 have nC:∀c x,X.env.cells.lookup x=some c->c<s2.heap.objs.size:=λc x e=>by
  obtain⟨v,q⟩:=I.cell x c e
  exact q.lt
 have noB:∀b,b∈fp->b∉frs X.stack:=λb hb q=>by
  rcases Yi.mp (I.Zfm b q)with z|z
  ·exact(hfp b hb).2.1 z
  ·exact(hfp b hb).2.2.1 z
 have okX:(ZaO X Nc scope cl C s2 H2 fp).Ok:=by
  refine⟨I.ok.mod,(show scope.kind=.function from Zdq hok),I.ok.glob,I.ok.blt,?_,λx y c e1 e2=>I.ok.inj x y c (up _ _ e1) (up _ _ e2),λx hx=>?_,(λx c e=>nomatch e),I.ok.hd,I.ok.frames,.inl rfl,λb hb=>⟨?_,λx c e=>(hfp b hb).2.2.2.2.1 x c (up _ _ e)⟩,I.bs,Ym I.ok.bsz I.sz,λb o e hb=>?_,λb hb=>noB b hb,I.stack,I.Zhc⟩
  ·show s2.heap.objs.size<=C;exact leC
  ·obtain⟨c,q,_⟩:=kf x hx;exact⟨c,q⟩
  ·exact Yn (YC (hfl b hb) leC)
  ·rcases(hfp b hb).2.2.2.1 with q|q
   ·exact I.ok.noex b o e q
   ·exact absurd (YC (Yj e) (Ym I.ok.bsz q)) (YI _)
 refine⟨okX,rfl,I.bare,Un.kept old,⟨m,hns,λi x v e1 e2 e3=>?_⟩,λx c e=>?_,I.hok.fresh leC,λx c e=>I.freeC x c (up _ _ e),λp hp=>?_,I.hok.kept old,?_⟩
 ·have e2':(Z6 js σ)[i]?=some (some v):=e2
  unfold Z6 at e2'
  rw[YG]at e2'
  cases q:js[i]? with
  |none=>rw[q]at e2';cases e2'
  |some j0 =>
   cases j0 with
   |none=>rw[q]at e2';cases e2'
   |some j =>
    rw[q]at e2'
    simp only[Option.map_some,Option.some.injEq]at e2'
    have e4:σ[j]?=some (some v):=by
     cases z:σ[j]? with
     |none=>rw[z]at e2';cases e2'
     |some o=>rw[z]at e2';simp only[Option.join_some]at e2';rw[e2']
    obtain⟨y,y1,y2,y3⟩:=Zeb htk q
    rw[Nat.zero_add]at y1
    have:x=y:=YE ((show Nc[i]?=some x from e1).symm.trans y1)
    subst this
    have hm:=lookup_mem y3
    obtain⟨c,c1,c2⟩:=hfr _ hm rfl
    have hk:=Zds hok _ hm rfl
    obtain⟨m0,hn0,hl0⟩:=I.loc
    obtain⟨u,r,l⟩:=hl0 j x v y2 e4 (hk.elim (λz=>.inr (.inl z)) λz=>.inr (.inr z))
    refine⟨u,r,.inr ⟨?_,c,c1,?_⟩⟩
    ·rcases e3 with z|z|z
     ·obtain⟨k',w1,w2⟩:=Zaf (show(scope.names.map _).lookup x=some NameKind.local from z)
      rw[y3]at w1;cases w1
      rcases w2 with w|w
      ·cases w
      ·cases w.2
     ·exact .inl z
     ·exact .inr z
    ·rcases l with⟨lk,_⟩|⟨_,c',c3,c4⟩
     ·rcases hk with z|z
      ·rw[show X.env.kindOf x=some .cell from z]at lk;cases lk
      ·rw[show X.env.kindOf x=some .free from z]at lk;cases lk
     ·rw[c2]at c3;cases c3
      obtain⟨oc,w1,w2⟩:=c4
      exact⟨oc,old _ _ w1,w2⟩
 ·obtain⟨v,oc,w1,w2⟩:=I.cell x c (up _ _ e)
  exact⟨v,oc,old _ _ w1,w2⟩
 ·have:p=(D,oD):=by
   have hp':p∈([]++[(D,oD)]:List (Addr×Obj)):=hp
   simpa using hp'
  subst this
  refine⟨hoD,I.hok.fresh leD,(by show D≠C;rw[hD,hC];exact Yn (Nat.lt_succ_self _)),λhb=>?_,hdD⟩
  have hb':D∈frs X.stack:=hb
  obtain⟨_,o,ho,_⟩:=I.stack.mem hb'
  exact absurd (YC (Yj ho) leD) (YI _)
 ·have:=Zc5 htk
  show(Z6 js σ).length=Nc.length
  unfold Z6;rw[Yf];omega
theorem Zft {prog:Program}{w:World}{A:Around}{R:Result->Shared->Prop}{s:Shared}{elt target iter:Expr}{ifs:List Expr}{scope:Scope}{pos:Pos}{it acc:Value}{env:Env} (I:Nat->Shared->Prop)
  (turn:∀n s,I n s->wpAny (model prog w) A (pyNext it) (λr s₁=>match r with
   |none=>R (.ok .next) s₁
   |some v=>wpAny (model prog w) A (letOwnedTupleGo target it v) (λ_ s₁=>wpAny (model prog w) A (assign target env v) (λ_ s₂ =>
     wpAny (model prog w) A (forIn ifs true λc r=>if r=true then do let ok <-isTrue c env (eval c env);pure (ForInStep.yield ok)else pure (ForInStep.yield r)) (λok s₃ =>
      if ok=true then wpAny (model prog w) A (eval elt env) (λx s₄ =>
       wpAny (model prog w) A (call (.builtin "list.append") [acc,x]) (λ_ s₅=>∃m,m<n/\I m s₅) (λ_ _=>False) s₄) (λ_ _=>False) s₃
      else ∃m,m<n/\I m s₃) (λ_ _=>False) s₂) (λ_ _=>False) s₁) (λ_ _=>False) s₁) (λ_ _=>False) s)
  (n:Nat) (h:I n s) :
  codeAny (model prog w) A (.compLoop (.ListComp elt [⟨target,iter,ifs,0⟩] scope pos) 0 it acc env) R s:=by
 refine codeAny_loop rfl I (λn s hI=>?_) n h
 show wpAny _ A ((compTurn (.ListComp elt [⟨target,iter,ifs,0⟩] scope pos) 0 it acc env).onRaise (λx=>do noteFrame x env;theTreesLotGoes x)) _ _ s
 refine wpAny_noted ?_
 rw[compTurn_list]
 refine Ya (wpAny_standAt (Ya (YB (turn n s hI) (λr s₁ h₁=>?_) λ_ _ h'=>h'.elim)))
 cases r with
 |none=>exact Yb h₁
 |some v =>
  refine Ya (YB h₁ (λ_ s₁' h₁=>?_) λ_ _ h'=>h'.elim)
  refine Ya (YB h₁ (λ_ s₂ h₂=>Ya (YB h₂ (λok s₃ h₃=>?_) λ_ _ h'=>h'.elim)) λ_ _ h'=>h'.elim)
  cases ok with
  |false=>exact Yb ⟨rfl,h₃⟩
  |true =>
   exact Ya (Ya (YB h₃ (λx s₄ h₄=>Ya (YB h₄ (λ_ s₅ h₅=>Yb (Yb ⟨rfl,h₅⟩)) λ_ _ h'=>h'.elim)) λ_ _ h'=>h'.elim))
noncomputable def Zi9 (X:Cx) (ifs:List Expr) (t:TT):Prop :=
 ∀(pins:List (Addr×Obj)) (s:Shared) (σ:St) (H:Hp) (Q:Bool->Hp->Prop),Inv X pins σ H s->t σ H Q ->
  wpAny (model X.prog X.w) X.A (forIn ifs true λc r=>if r=true then do let ok <-isTrue c X.env (eval c X.env);pure (ForInStep.yield ok)else pure (ForInStep.yield r)) (TP X pins σ Q) X.xe s
noncomputable def tYes:TT:=λ_ H Q=>Q true H
theorem ZG:Zi9 X [] tYes:=λpins s σ H Q I h=>wpAny_tests_nil ⟨H,I,h⟩
theorem Zfu {c:Expr}{t:TT} (h:PT X c t):Zi9 X [c] t:=λpins s σ H Q I hq=>wpAny_tests_one (h pins s σ H Q I hq)
noncomputable def Zcx (L:List Nat) (σ σ':St):Prop:=σ'.length=σ.length/\∀k,k∉L->σ'[k]?=σ[k]?
noncomputable def Zgp (g:TG) (L:List Nat):Prop:=∀v σ H (Q Q':St->Hp->Prop),(∀σ' H',Zcx L σ σ'->Q σ' H'->Q' σ' H')->g v σ H Q->g v σ H Q'
noncomputable def Zmo (g:TGs) (L:List Nat):Prop:=∀v σ H (Q Q':St->Hp->Prop),(∀σ' H',Zcx L σ σ'->Q σ' H'->Q' σ' H')->g v σ H Q->g v σ H Q'
theorem Zcx.refl {L:List Nat}{σ:St}:Zcx L σ σ:=⟨rfl,λ_ _=>rfl⟩
theorem Zcx.trans {L L':List Nat}{a b c:St} (x:Zcx L a b) (y:Zcx L' b c):Zcx (L++L') a c :=
 ⟨y.1.trans x.1,λk hk=>(y.2 k λz=>hk (Yk _ z)).trans (x.2 k λz=>hk (Yx _ z))⟩
theorem Zp {i:Nat}:Zgp (Zfe i) [i]:=λv σ H Q Q' hq h=>hq _ _ ⟨by simp,λk hk=>by
 rw[List.getElem?_set_ne]
 intro z;subst z;exact hk (by simp)⟩ h
theorem Zcs:Zmo gNil []:=λv σ H Q Q' hq h=>⟨h.1,hq _ _ Zcx.refl h.2⟩
theorem ZZ {t:TG}{u:TGs}{L L':List Nat} (h1:Zgp t L) (h2:Zmo u L'):Zmo (Zp3 t u) (L++L'):=λv σ H Q Q' hq h=>by
 obtain⟨x,r,e,h⟩:=h
 exact⟨x,r,e,h1 _ _ _ _ _ (fun σ' H' k1 q=>h2 _ _ _ _ _ (fun σ2 H2 k2 q2=>hq _ _ (k1.trans k2) q2) q) h⟩
theorem Zct {K:PySem.W.Frag}{n:Nat}{t:TGs}{L:List Nat} (h:Zmo t L):Zgp (gTup K n t) L:=λv σ H Q Q' hq q=>by
 obtain⟨a,xs,e1,e2,e3,q⟩:=q
 exact⟨a,xs,e1,e2,e3,h _ _ _ _ _ hq q⟩
noncomputable def Zqe (wi:TI) (g:TG) (tt:TT) (te:TE) (js:List (Option Nat)):TE:=fun σ H Q=>wi σ H λJ H1=>∃W:Nat->Nat->List V->Hp->Prop,(∃m,W 0 m [] H1)/\∀i m acc H,W i m acc H ->
 (J.stop i H/\acc.length<=sizeLine/\∀p,H p=none->Q (.ref p) (upd H p (.lst acc))) \/
 (J.go i H/\acc.length<sizeLine/\∀x H',J.yld i H x H'->g x (Z6 js σ) H' fun σ2 H2=>tt σ2 H2 λb H3=>if b=true then te σ2 H3 λv H4=>∃m',m'<m/\W (i+1) m' (acc++[v]) H4 else ∃m',m'<m/\W (i+1) m' acc H3)
theorem Zhk {C:Addr}{h:Heap}:Heap.SameBut C h h:=by
 first|exact Heap.SameBut.refl|exact⟨rfl,λ_ _=>rfl⟩
end
end L2
namespace L2
open PySem PySem.Spec PyProof.Rows PySem.W PySem.Builtin.ObjectAttr PySem.Builtin.Getset_descriptor
noncomputable def Zns (x C:Addr) (h:Heap):Prop:=∃o,h.get? x=some o/\o.cls=.ref C
structure ExK (K:Frag) (C:Addr):Prop where
 dk:hasDictIn K C=true
 ga:findIn K (.ref C) "__getattribute__"=some (some (.builtin "BaseException.__getattribute__"))
 gt:findIn K (.ref C) "__getattr__"=some none
 cl:findIn K (.ref C) "__class__"=some (some (.builtin "object.__class__"))
 gg:specialIn K (.builtin "object.__class__") "__get__"=some (some (.builtin "getset_descriptor.__get__"))
 tk:takesIn K (.builtin "object.__class__")=some true
 mo:mroIn K C (.type "object")=some true
 mb:mroIn K C (.type "BaseException")=some true
section
variable {K:Frag}{x C:Addr}
theorem Zns.type {M:Model}{h:Heap} (I:Zns x C h):Looks M h (typeOf (.ref x)) (.ref C):=by
 obtain⟨o,e,c⟩:=I
 exact c▸(Looks.ld e).andThen .now
theorem ZsY {M:Model}{h:Heap} (X:K.In h) (Z:ExK K C):Looks M h (find (.ref x) (.ref C) "__class__") (.bind (.builtin "getset_descriptor.__get__") (.builtin "object.__class__")):=by
 have L3:=looks_takesIn (M:=M) X Z.tk
 exact(looks_findIn (M:=M) X Z.cl).andThen ((looks_specialIn X Z.gg).andThen
  ((show Looks M h (dataDescriptor? (some (.builtin "object.__class__")) (some (.builtin "getset_descriptor.__get__"))) (some (.builtin "getset_descriptor.__get__",.builtin "object.__class__"))from L3.andThen .now).andThen (Looks.tag .now)))
theorem ZvE {prog:Program}{w:World}{A:Around}{R:Result->Shared->Prop}{s:Shared}{tp:Value} (X:K.In s.heap) (I:Zns x C s.heap) (Z:ExK K C) (hR:R (.ok (.ret (.ref C))) s) :
  codeAny (model prog w) A (.call (.builtin "getset_descriptor.__get__") ⟨[.builtin "object.__class__",.ref x,tp],[]⟩) R s:=by
 obtain⟨hp,gn,dw,tk,os⟩:=s
 have L0:=I.type (M:=model prog w)
 have L1:=looks_mroIn (M:=model prog w) X Z.mo
 refine codeAny_call_builtin KF.slot_gs.plain KF.entry_gs (KF.slot_gs.check _ _ _ _ _ _ _ _ KF.type_class (KF.args_gs _ _ _) ?_)
 unfold Builtin.«getset_descriptor.__get__» descrGet;rw[dga_obj];refine Ya (Yb ?_)
 unfold descrGetter descrCheckInstance descrNameAndClass isInstance;simp only[KF.owner_class]
 repeat lk
 refine⟨Code.quiet_builtin _ (by decide +kernel),codeAny_builtin KF.entry_class ?_⟩;unfold Builtin.«object.__class__» shownTypeOf
 repeat lk
 exact hR
theorem Zq0 {prog:Program}{w:World}{A:Around}{E:Value->Shared->Prop}{s:Shared}{tk:Tok}{Q:Fin->Shared->Prop} (X:K.In s.heap) (I:Zns x C s.heap) (Z:ExK K C) (hQ:Q (.done (.ret (.ref C))) s) :
  wpAny (model prog w) A (Builtin.«object.__getattribute__» ⟨[.ref x,.str "__class__" tk],[]⟩) Q E s:=by
 obtain⟨hp,gn,dw,t,os⟩:=s
 have L0:=I.type (M:=model prog w)
 have L2:=ZsY (M:=model prog w) (x:=x) X Z
 unfold Builtin.«object.__getattribute__»
 refine Ya (Yb (Ya (Yb (Ya (L0.at (Ya (L2.at ?_)))))))
 show wpAny _ _ (holding _ (call _ _) >>= ret) _ _ _
 exact Ya (wpAny_holding (wpAny_call (ZvE (s:=⟨hp,gn,dw,t,os⟩) X I Z (Yb hQ))))
theorem Zq1 {M:Model}{A:Around}{E:Value->Shared->Prop}{s:Shared}{nameV:Value}{Q:Unit->Shared->Prop} (X:K.In s.heap) (I:Zns x C s.heap) (Z:ExK K C) (hq:Q () s) :
  wpAny M A (checkBuiltinCall "BaseException.__getattribute__" ⟨[.ref x,nameV],[]⟩) Q E s:=by
 obtain⟨hp,gn,dw,t,os⟩:=s
 have hk:builtinKind "BaseException.__getattribute__"=some .slot:=by decide +kernel
 have hsplit:splitId "BaseException.__getattribute__"=some ("BaseException","__getattribute__"):=by decide +kernel
 have L0:=I.type (M:=M)
 have L1:=looks_mroIn (M:=M) X Z.mb
 have ha:=F.args_bexc_ga (.ref x) nameV
 simp only[checkBuiltinCall,hk,hsplit]
 refine Ya ?_
 unfold isInstance
 refine Ya (L0.at (L1.at ?_))
 repeat (first|assumption|wp_step)
theorem Zq2 {prog:Program}{w:World}{A:Around}{E:Value->Shared->Prop}{s:Shared}{Q:Option Value->Shared->Prop} (X:K.In s.heap) (I:Zns x C s.heap) (Z:ExK K C) (hQ:Q (some (.ref C)) {s with toks:=s.toks+1}) :
  wpAny (model prog w) A (getAttr? (.ref x) "__class__") Q E s:=by
 obtain⟨hp,gn,dw,tk,os⟩:=s
 have L0:=I.type (M:=model prog w)
 have L1:=looks_findIn (M:=model prog w) X Z.ga
 have L3:=looks_findIn (M:=model prog w) X Z.gt
 have hb:=(F.attrBase_ValueError.ga).bind (.ref x)
 unfold getAttr? getAttrBy? getAttrBy;refine Ya (wpAny_mkText (Ya (wpAny_attempt (wpAny_holding (Ya (L0.at (Ya (L1.at ?_))))))))
 show wpAny _ _ (getAttrByItsOwn _ _ _ _ _ _) _ _ _
 unfold getAttrByItsOwn hookBefore
 refine Ya (L3.at ?_)
 refine Ya (wpAny_attempt (wpAny_holding ?_))
 unfold callGetattribute
 show wpAny _ _ (boundAndCalled _ _ _) _ _ _
 unfold boundAndCalled
 rw[hb]
 refine Ya (Yb ?_)
 refine wpAny_call ?_
 refine codeAny_call_builtin F.attrBase_ValueError.ga.plain F.entry_bexc_ga (Zq1 (s:=⟨hp,gn,dw,tk+1,os⟩) X I Z (Zq0 (s:=⟨hp,gn,dw,tk+1,os⟩) X I Z ?_))
 exact handed_on rfl (Yb hQ)
theorem ZvF (Z:ExK K C):KitX K (.ref x) (.ref C) (Zns x C) where
 ty:=λ_ _ _ I=>I.type
 it:=λ_ _ X _=>by
  obtain⟨cdD,hcD,_⟩:=any_some Z.dk
  unfold clsIn at hcD
  split at hcD
  ·rename_i c' d' cd' sl' ho
   intro A' Q' E' s' k q
   unfold isType loadHead;exact Ya (wpAny_loadPart (k _ _ (X _ _ ho)) (Yb q))
  ·cases hcD
 ne:=λh tp dd its n sl X htp=>by
  obtain⟨cdD,hcD,_⟩:=any_some Z.dk
  refine Bool.eq_false_iff.mpr λq=>?_
  have e:C=tp:=Value.ref.inj (beq_iff_eq.mp q);subst e
  unfold clsIn at hcD
  split at hcD
  ·rename_i c' d' cd' sl' ho
   have z:=(X _ _ ho).symm.trans htp;cases z
  ·cases hcD
 ca:=λX I k=>Zq2 X I Z k
end
noncomputable def ExcO (e C:Addr):HO:=.ext (Zns e C)
noncomputable def tyIs (K:Frag) (H:Hp) (x:V) (c:Value) (b:Bool):Prop :=
 (∃t,TyOf K H x t/\kitOne K t c=some b)\/∃e C,x=.ref e/\H e=some (ExcO e C)/\ExK K C/\kitOne K (.ref C) c=some b
noncomputable def cOf:V->Option Value
 |.ref a=>some (.ref a)
 |.ty n=>some (.type n)
 |_=>none
section
variable {X:Cx}
noncomputable def rIsi (K:Frag):List V->Hp->VK->Prop:=λxs H Q=>∃x v c b,xs=[x,v]/\cOf v=some c/\tyIs K H x c b/\Q (.bl b) H
theorem ZsZ:Zbc X (.builtin "isinstance") (rIsi X.K):=by
 intro pins s σ H xs us Q I r h
 obtain⟨x,v,c,b,rfl,hc,ht,q⟩:=h
 obtain⟨u,u2,rfl,ru,ru2⟩:=r.two
 have e2:u2=c:=by
  cases v with
  |ref a=>have:=(show u2=Value.ref a from ru2);cases hc;exact this
  |ty n=>have:=(show u2=Value.type n from ru2);cases hc;exact this
  |_=>cases hc
 subst e2
 have fin:∀tk,EP X pins σ Q (.bool b) {s with toks:=tk}:=λtk=>⟨.bl b,H,I.tok tk,rfl,q⟩
 rcases ht with⟨t,ty,e⟩|⟨e,C,rfl,hH,Z,e1⟩
 ·exact ZqU I ru ty e fin
 ·cases(show u=Value.ref e from ru)
  obtain⟨p,_,_⟩:=(show Zaa X.prog X.w H s.heap e (ExcO e C)from I.hok e _ hH)
  exact kia_one (ZvF Z) I.kIn p e1 (λz=>nomatch z) fin
end
end L2
namespace L2
open PySem PySem.Spec PyProof.Rows
structure Fly (P:Program) (w:World) (outer:List Env) (H:Hp) (s:Shared) (H':Hp) (B:Heap) (e:Addr) (C a0:Value) (s':Shared):Prop where
 os:s'.os=s.os
 bare:AllBare s'.gens
 fly:Heap.FlyingW B outer e C a0 s'.heap
 hok:HOk P w H' B
 keep:∀b o,s.heap.get? b=some o->H b=none->b∉frs outer->B.get? b=some o
 slot:∀b o,s.heap.get? b=some o->b∈frs outer->(∀vs,o.data≠.fields vs)->∃sl,s'.heap.get? b=some {o with slots:=sl}
 free:∀b o,s.heap.get? b=some o->H b=none->H' b=none
 there:∀b o,s.heap.get? b=some o->b∉frs outer->∃o',B.get? b=some o'
 tups:∀b xs,H b=some (.tup xs)->H' b=some (.tup xs)
 frzs:∀b o u,H b=some (.frz o u)->H' b=some (.frz o u)
 tbls:∀b ps,H b=some (.tbl ps)->∃more,H' b=some (.tbl (ps++more))
noncomputable def CXE (P:Program) (w:World):CXT:=λouter H s E ev s'=>∃e C a0 H' B,ev=.ref e/\Fly P w outer H s H' B e C a0 s'/\E C none H'
theorem Zv {P:Program}{w:World}{X:Cx}:Passes (CXE P w) X E0:=λ_ _ _ _ _ _ _ ⟨_,_,_,_,_,_,_,z⟩=>z.elim
section
variable {P:Program}{w:World}{K:PySem.W.Frag}{mg:Str->Option Value}{base:Heap}{N:List Str}{qual:Str}{scope:Scope}{f:Addr}{cd:Value}{A:Around}{outer:List Env}{s:Shared}{H:Hp}{E:XK}
theorem Zmp {pins:List (Addr×Obj)}{σ:St}{H1:Hp}{s1:Shared}{h':Heap}{e:Addr}{C:Value}{vs:List Value} (I:Inv (Zhg (CXE P w) P w K mg base N qual scope f cd A outer s H E) pins σ H1 s1)
  (hx:Heap.MadeExcOf s1.heap h' e C vs) (hE:E C none H1):(Zhg (CXE P w) P w K mg base N qual scope f cd A outer s H E).xe (.ref e) {s1 with heap:=h'}:=by
 let env:=envOfC qual scope s.heap.objs.size f cd
 let B:=PySem.W.hideAll s1.heap (frs (env::outer))
 have hin:∀en∈(env::outer),∀b,en.frame=some b->b∈frs (env::outer):=λen he b hb=>List.mem_filterMap.mpr ⟨en,he,hb⟩
 have st:s1.heap.FunFrames base (env::outer):=I.stack
 have loc:∀b,b∈frs (env::outer)->b=s.heap.objs.size\/b∈frs outer:=λb hb=>Yi.mp (I.Zfm b hb)
 have old:∀b o,s.heap.get? b=some o->b∉frs outer->b∉frs (env::outer):=λb o q nb hb=>by
  rcases loc b hb with z|z
  ·exact absurd (Yj q) (by rw[z];exact YI _)
  ·exact nb z
 have un:Un (frs outer) [] H H1 s.heap s1.heap:=I.base
 have hokB:HOk P w H1 B:=λa o q=>by
  have nf:∀b o,H1 b=some o->b∉frs (env::outer):=λb o z hb=>by
   have:=I.Zhc b hb
   rw[this]at z;cases z
  refine(I.hok a o q).Zhb (λb u hb z=>?_) (λ_ z=>z) (λ_ _ z=>z) λ_ _ _ z=>z
  rcases hb with hb|hb
  ·rw[hb]at z⊢;exact PySem.W.hideAll_get _ z (nf a o q)
  ·exact PySem.W.hideAll_get _ z (nf b _ hb)
 refine wpAny_leaves_madeW (base:=B) (h:=s1.heap) (env:=env) (outer:=outer) (L:=s.heap.objs.size) I.ok.frames rfl (λb o q=>PySem.W.of_hideAll _ q) (PySem.W.funFrames_hide st hin) hx λh2 t x1 x2 x3 x4=>?_
 refine⟨e,C,.ref t,H1,B,rfl,⟨I.os,I.bare,x1,hokB,λb o q n nb=>?_,λb o q hb hd=>?_,λb o q n=>un.free b o q n (by simp),λb o q nb=>?_,un.tups,un.frzs,un.tbls⟩,hE⟩
 ·exact PySem.W.hideAll_get _ (un.keep b o q n nb (by simp)) (old b o q nb)
 ·obtain⟨sl,z⟩:=un.slot b o q (I.ok.frf b hb) hb (by simp)
  obtain⟨sl2,z2⟩:=x4 b _ (hx.keeps _ _ z) hd
  exact⟨sl2,z2⟩
 ·obtain⟨o',z⟩:=un.there b o q (by simp)
  exact⟨o',PySem.W.hideAll_get _ z (old b o q nb)⟩
theorem ZK:Passes (CXE P w) (Zhg (CXE P w) P w K mg base N qual scope f cd A outer s H E) E:=by
 intro pins σ H1 s1 ev s2 I h
 obtain⟨e,C,a0,H',B,rfl,F,hE⟩:=h
 let env:=envOfC qual scope s.heap.objs.size f cd
 have un:Un (frs outer) [] H H1 s.heap s1.heap:=I.base
 have loc:∀b,b∈frs (env::outer)->b=s.heap.objs.size\/b∈frs outer:=λb hb=>Yi.mp (I.Zfm b hb)
 have old:∀b o,s.heap.get? b=some o->b∉frs outer->b∉frs (env::outer):=λb o q nb hb=>by
  rcases loc b hb with z|z
  ·exact absurd (Yj q) (by rw[z];exact YI _)
  ·exact nb z
 refine wpAny_leaves_onW (env:=env) (outer:=outer) (L:=s.heap.objs.size) I.ok.frames rfl F.fly λh2 x1 x2=>?_
 refine⟨e,C,a0,H',B,rfl,⟨F.os.trans I.os,F.bare,x1,F.hok,λb o q n nb=>F.keep b o (un.keep b o q n nb (by simp)) (un.free b o q n (by simp)) (old b o q nb),λb o q hb hd=>?_,λb o q n=>?_,λb o q nb=>?_,λb xs z=>F.tups b xs (un.tups b xs z),λb o u z=>F.frzs b o u (un.frzs b o u z),λb ps z=>?_⟩,hE⟩
 ·obtain⟨sl,z⟩:=un.slot b o q (I.ok.frf b hb) hb (by simp)
  obtain⟨en,he,hf⟩:=List.mem_filterMap.mp hb
  obtain⟨sl2,z2⟩:=F.slot b _ z (List.mem_filterMap.mpr ⟨en,.tail _ he,hf⟩) hd
  obtain⟨sl3,z3⟩:=x2 b _ z2 hd
  exact⟨sl3,z3⟩
 ·by_cases hb:b∈frs outer
  ·have h1:H1 b=none:=un.free b o q n (by simp)
   obtain⟨sl,z⟩:=un.slot b o q n hb (by simp)
   exact F.free b _ z h1
  ·exact F.free b o (un.keep b o q n hb (by simp)) (un.free b o q n (by simp))
 ·obtain⟨o',z⟩:=un.there b o q (by simp)
  exact F.there b o' z (old b o q nb)
 ·obtain⟨m1,z1⟩:=un.tbls b ps z
  obtain⟨m2,z2⟩:=F.tbls b _ z1
  exact⟨m1++m2,by rw[<-Array.append_assoc];exact z2⟩
end
abbrev bmV:List Value:=[.type "ValueError",.type "Exception",.type "BaseException",.type "object"]
abbrev newV:String:="ValueError.__new__"
theorem own_mk {K:PySem.W.Frag}{h:Heap}{mg:Str->Option Value}{x:Str}{C:Addr} (X:K.In h) (hm:mg x=some (.ref C)) (q:PySem.W.excIn K C bmV newV=true):OwnCls x C bmV newV mg h:=by
 refine⟨hm,?_⟩
 unfold PySem.W.excIn at q;split at q
 ·rename_i dd cd sl ho
  split at q
  ·rename_i C' bm k0 k1 k2 k3 n k5 hmm hs
   simp only[Bool.and_eq_true,beq_iff_eq,Bool.not_eq_true']at q;obtain⟨⟨⟨⟨⟨rfl,rfl⟩,hdel⟩,ht⟩,hok⟩,hni⟩:=q
   obtain⟨nm,bs,mro,ns,qn,hd,sn,sub,ab,col,del⟩:=cd;dsimp only at hmm hdel hok hni;subst hmm hdel
   have hsl:sl=#[k0,k1,k2,k3,some (.builtin newV),k5]:=by obtain⟨l⟩:=sl;simp only at hs;rw[hs]
   subst hsl;exact⟨bm,ns,nm,qn,bs,hd,sn,sub,ab,col,dd,k0,k1,k2,k3,k5,_,X _ _ ho,.of_isNs (PySem.W.isNs_of_in X hok),PySem.W.nsMap_none_of_in X hok hni,PySem.W.tail_of_in X ht⟩
  ·cases q
 ·cases q
section
variable {X:Cx}
noncomputable def ZoG (C:Addr) (E:XK) (t:TA):TS:=λ_ σ H=>t σ H λvs H1=>vs.length<=sizeLine/\E (.ref C) none H1
theorem Zjx {x:Str}{C:Addr}{np cpos pos:Pos}{e0:Expr}{es:List Expr}{t:TA}{E:XK} (hc:X.calm=true) (hg:Gl X x) (hm:X.mg x=some (.ref C)) (q:PySem.W.excIn X.K C bmV newV=true) (ha:PA X (e0::es) t)
  (hx:∀pins σ H s h' e vs,Inv X pins σ H s->Heap.MadeExcOf s.heap h' e (.ref C) vs->E (.ref C) none H->X.xe (.ref e) {s with heap:=h'})
  (he:starEach (e0::es) X.env=(false,eval e0 X.env)::starEach es X.env:=by rfl) (hpl:(backTo cpos (starEach es X.env)).any (·.1)=false:=by rfl) (hd:(x==("__debug__":Str))=false:=by decide) :
  PS X (.Raise (some (.Call (.Name x np) (e0::es) [] cpos)) none pos) (ZoG C E t):=by
 intro pins s σ H D I h
 obtain⟨tl,Nn,nm,qn,bs,hdct,sn,sub,ab,col,dd,k0,k1,k2,k3,k5,mN,hC,hN,hni,T⟩:=(own_mk (x:=x) I.mod.kin hm q).obj
 refine wpAny_Raise_call_subT (C:=C) (nm:=nm) (q:=qn) (N:=Nn) (bs:=bs) (bm:=tl) (hdct:=hdct) (sn:=sn) (sub:=sub) (ab:=ab) (col:=col) (dd:=dd) (k0:=k0) (k1:=k1) (k2:=k2) (k3:=k3) (k5:=k5)
  PySem.F.excBase_ValueError (mN:=mN) (T.hasType PySem.F.excBase_ValueError.hasBase) (I.ok.hd hc) (by rw[he];show(false||(backTo cpos (starEach es X.env)).any (·.1))=false;rw[hpl];rfl) hni (Zl7 I hg hm ⟨rfl,?_⟩ hd)
 have h2:=ha cpos pins s σ H _ I h
 rw[he]at h2⊢
 exact Calls.evalArgs_plain (thn h2 λus s2 ⟨vs,H2,I2,r,z,q2⟩=>⟨rfl,by rw[<-r.length];exact z,I2.bk _ _ hC,hN.keeps I2.bk,T.keeps I2.bk,λh' e hm'=>hx pins σ H2 s2 h' e us I2 hm' q2⟩)
end
section
variable {P:Program}{w:World}{K:PySem.W.Frag}{mg:Str->Option Value}{base:Heap}
theorem Fun.okX {x qual:Str}{st:Stmt}{f:Addr}{fd:FuncData}{N ps:List Str}{k:Nat}{sp:Sp} (F:Fun K x qual st f fd) (S:FnScope N ps (defScope st)) (len:∀vs H Q E,sp vs H Q E->vs.length=ps.length)
  (hbody:∀(cdv:Value) (A:Around) (outer:List Env) (s:Shared) (H:Hp) (vs:List V) (Q:VK) (E:XK),Room k (A.deeper (envOfC qual (defScope st) s.heap.objs.size f cdv))->sp vs H Q E ->
   ∃t,PSs (Zhg (CXE P w) P w K mg base N qual (defScope st) f cdv A outer s H E) (defBody st) t/\t {nx:=λ_ H'=>Q .non H',rt:=Q} (start N vs) H):FnOk P w K mg base (CXE P w) (k+1) f fd ps sp:=by
 obtain⟨oc,od,kV,doc,pm,an,cdv,ct,osl,rfl,lk,hcd⟩:=F.ex
 exact fn_of lk hcd S len λA outer s H vs Q E hr hsp=>hbody cdv A outer s H vs Q E hr hsp
end
end L2
namespace L2
open PySem PySem.Spec PyProof.Rows PySem.W
theorem Zqf:∀{ns:List Int}{us:List Value},Vals (ns.map V.int) us->∃xs:Array (Int×Tok),us.toArray=intItems xs/\xs.toList.map (·.1)=ns
 |[],_,.nil=>⟨#[],by simp[intItems],rfl⟩
 |n::ns,_,.cons (b:=u) r t=>by
  obtain⟨tk,rfl⟩:=(show ∃t,u=Value.int n t from r)
  obtain⟨xs,e1,e2⟩:=Zqf t
  refine⟨#[(n,tk)]++xs,?_,by simp[e2]⟩
  have:∀(l:List Value),(Value.int n tk::l).toArray=#[Value.int n tk]++l.toArray:=λl=>by simp
  rw[this,e1]
  simp[intItems]
section
variable {X:Cx}
theorem Zaw:OpR X (binaryOp .Mult) (rI IntMulOk λi j=>.int (i*j)):=opI λ_ _ _ _ _ _ _ hc q=>mul_int q hc
noncomputable def PJ (X:Cx) (es:List (Sem Value)) (t:St->Hp->(Hp->Prop)->Prop):Prop :=
 ∀(out:Str) (pins:List (Addr×Obj)) (s:Shared) (σ:St) (H:Hp) (Q:Hp->Prop),out.length+2000*es.length<=100000->Inv X pins σ H s->t σ H Q ->
  wpAny (model X.prog X.w) X.A (joinParts out es) (λu s'=>∃y tk H',u=.str y tk/\Inv X pins σ H' s'/\Q H') X.xe s
theorem ZoH:PJ X [] (λ_ H Q=>Q H):=λout pins s σ H Q hl I h =>
 joinParts_nil ⟨out,_,H,rfl,I.tok _,h⟩ (by simp at hl;exact Ym hl (by decide))
theorem Zew {x:Str}{j:Nat}{pos:Pos}{es:List (Sem Value)}{t:St->Hp->(Hp->Prop)->Prop} (hx:x.length<=2000) (h:PJ X es t):PJ X (eval (.Constant (.str x) j pos) X.env::es) t:=by
 intro out pins s σ H Q hl I hq
 have hl':(out++x).length+2000*es.length<=100000:=by rw[PySem.strLen_append];simp at hl;omega
 refine joinParts_cons (Calls.Constant_str ⟨Ym (Ym (Nat.le_add_right _ _) hl') (by decide),?_⟩)
 exact h _ pins _ σ H Q hl' (I.tok _) hq
theorem Zq3 {i:Int} (h0:0<=i) (h1:i<10 ^ 18):i.natAbs.log2<1920:=by
 by_cases hz:i.natAbs=0
 ·rw[hz];decide
 ·have h3:i.natAbs<2 ^ 60:=by
   have:(2:Nat) ^ 60=1152921504606846976:=by decide
   have h2:(10:Int) ^ 18=1000000000000000000:=by decide
   omega
  exact YC ((Nat.log2_lt hz).mpr h3) (by decide)
theorem Zjy {e:Expr}{pos:Pos}{es:List (Sem Value)}{te:TE}{t:St->Hp->(Hp->Prop)->Prop} (he:PE X e te) (h:PJ X es t):PJ X (eval (.FormattedValue e (-1) none pos) X.env::es) (fun σ H Q=>te σ H λx H1=>∃i:Int,x=.int i/\(0<=i/\i<10 ^ 18)/\t σ H1 Q):=by
 intro out pins s σ H Q hl I hq
 refine joinParts_cons (FormattedValue_plain (thn (he pins s σ H _ I hq) λu s1 ⟨x,H1,I1,r1,i,ex,⟨h0,h1⟩,q⟩=>?_))
 subst ex
 obtain⟨tk,rfl⟩:=(show ∃t,u=Value.int i t from r1)
 refine wpAny_formatField_int (Zq3 h0 h1) ?_
 have hx:(Str.ofString (toString i)).length<=18:=toString_length_le h0 (by decide) h1
 have hl':(out++Str.ofString (toString i)).length+2000*es.length<=100000:=by rw[PySem.strLen_append];simp at hl;omega
 refine⟨Ym (Ym (Nat.le_add_right _ _) hl') (by decide),?_⟩
 exact h _ pins _ σ H1 Q hl' (I1.tok _) q
theorem Znt (env:Env):∀l:List Expr,(evalEach l env).length=l.length
 |[]=>rfl
 |e::r=>by
  have:evalEach (e::r) env=eval e env::evalEach r env:=rfl
  rw[this,YQ,YQ,Znt env r]
theorem Zh6 {e1 e2:Expr}{rest:List Expr}{pos:Pos}{t:St->Hp->(Hp->Prop)->Prop} (h:PJ X (eval e1 X.env::eval e2 X.env::evalEach rest X.env) t) (hn:rest.length<=20:=by decide) :
  PE X (.JoinedStr (e1::e2::rest) pos) (fun σ H Q=>t σ H λH1=>∀y,Q (.str y) H1):=by
 intro pins s σ H Q I hq
 have hle:=Znt X.env rest
 refine JoinedStr_many (thn (h Str.empty pins s σ H _ (by simp only[YQ,hle];show 0+_<=_;omega) I hq) λu s' ⟨y,tk,H',e,I',q⟩=>?_)
 subst e
 exact⟨.str y,H',I',⟨tk,rfl⟩,q y⟩
end
noncomputable def clsAt (mg:Str->Option Value) (x:Str):Addr:=match mg x with
 |some (.ref C)=>C
 |_=>0
noncomputable def tokAt (mg:Str->Option Value) (x:Str):Tok:=match mg x with
 |some (.int _ t)=>t
 |_=>default
noncomputable def Callee (P:Program) (w:World) (K:Frag) (mg:Str->Option Value) (base:Heap) (x:Str) (k:Nat) (ps:List Str) (sp:Sp):Prop :=
 ∃f fd,mg x=some (.ref f)/\keepIn K (.ref f)=true/\Binds K fd ps []/\FnOk P w K mg base (CXE P w) k f fd ps sp
section
variable {X:Cx}
theorem Zbp {st:Stmt}{t:TS} (h:PS X.nox st t):PS X st t:=λpins s σ H D I hw =>
 YB (h pins s σ H D (I.Zk2 _) hw) (λ_ _ q=>q.Zfo) λ_ _ z=>False.elim z
theorem Zf {x:Str}{k:Nat}{ps:List Str}{sp:Sp}{E:XK}{e:Expr}{es:List Expr}{t:TA}{p pos:Pos} (C:Callee X.prog X.w X.K X.mg X.base x k ps sp) (hr:Room k X.A) (hg:Gl X x) (hx:Passes (CXE X.prog X.w) X E)
  (ha:PA X (e::es) t) (hdb:(x==("__debug__":Str))=false:=by decide) (he:starEach (e::es) X.env=(false,eval e X.env)::starEach es X.env:=by rfl) (hpl:(backTo pos (starEach es X.env)).any (·.1)=false:=by rfl) :
  PE X (.Call (.Name x p) (e::es) [] pos) (Zqa sp [] E t):=by
 obtain⟨f,fd,hm,hk,hb,F⟩:=C
 exact ZvA F hr hg hm hk hb .nil hx ha hdb he hpl
theorem Zmq {P:Program}{w:World}{K:Frag}{mg:Str->Option Value}{base:Heap}{N:List Str}{qual:Str}{scope:Scope}{f:Addr}{cd:Value}{A:Around}{outer:List Env}{s0:Shared}{H0:Hp}{E:XK}{C:Addr} :
  ∀pins σ H s h' e vs,Inv (Zhg (CXE P w) P w K mg base N qual scope f cd A outer s0 H0 E) pins σ H s->Heap.MadeExcOf s.heap h' e (.ref C) vs->E (.ref C) none H->(Zhg (CXE P w) P w K mg base N qual scope f cd A outer s0 H0 E).xe (.ref e) {s with heap:=h'} :=
 λ_ _ _ _ _ _ _ I hx hE=>Zmp I hx hE
end
theorem Zjz:bootBuiltins "max"=some (.builtin "max"):=by decide +kernel
theorem Zs0:bootBuiltins "min"=some (.builtin "min"):=by decide +kernel
theorem Zbe:bootBuiltins "isinstance"=some (.builtin "isinstance"):=by decide +kernel
theorem Zf7:bootBuiltins "list"=some (.type "list"):=by decide +kernel
theorem ZbI:bootBuiltins "tuple"=some (.type "tuple"):=by decide +kernel
theorem ZoI:bootBuiltins "int"=some (.type "int"):=by decide +kernel
section
variable {X:Cx}{pins:List (Addr×Obj)}{σ:St}{H:Hp}{s:Shared}{h':Heap}
theorem Inv.Zhl {t':Nat}{fp:List Addr} (I:Inv X pins σ H s) (k:∀b o,b∉fp->s.heap.get? b=some o->h'.get? b=some o) (hf:∀b∈fp,FpOk X pins H b):Inv X pins σ H {s with heap:=h',toks:=t'}:=by
 have nit:∀b u,H b=some u->b∉fp:=λb u e z=>by rw[(hf b z).1]at e;cases e
 refine I.step (g':=s.gens) (d':=s.drawn) (ch:=fp) (λb hb=>?_) (λb o _ _ hc e _=>k b o hc e) (λb o _ _ hc e _=>⟨o.slots,k b o hc e⟩) (λ_ _ _ _ n=>n)
  (λb o hc e=>⟨o,k b o hc e⟩) (λ_ _ e=>e) (λ_ _ _ e=>e) (λb ps e=>⟨#[],by rw[e];simp⟩) (λm hm=>?_) (λb u e=>?_) I.bare
 ·obtain⟨_,f1,_,f3,f4,f5⟩:=hf b hb
  exact⟨f3,f1,f4,f5⟩
 ·obtain⟨o,es,ep,ho,r⟩:=hm
  exact⟨o,es,ep,k _ o (λz=>(hf _ z).2.1 rfl) ho,r⟩
 ·refine(I.hok b u e).Zhb (λc v hc q=>k c v ?_ q) (λ_ q=>q) (λ_ _ q=>q) λ_ _ _ q=>q
  rcases hc with z|z
  ·rw[z];exact nit b u e
  ·exact nit c _ z
noncomputable def Itz (K : Frag) (a b : Addr) : It :=
  ⟨fun i H => ∃ xs ys x y, SqL K H a xs ∧ SqL K H b ys ∧ xs[i]? = some x ∧ ys[i]? = some y,
   fun i H v H' => ∃ p x y, H p = none ∧ v = .ref p ∧ H' = upd H p (.tup [x, y]) ∧ (∀ xs, SqL K H a xs → xs[i]? = some x) ∧ ∀ ys, SqL K H b ys → ys[i]? = some y,
   fun i H => ∃ xs ys, SqL K H a xs ∧ SqL K H b ys ∧ (xs.length ≤ i ∨ ys.length ≤ i)⟩
theorem Zs1 {P:Program}{w:World}{K:Frag}{elts:List Expr} {x1}{pos:Pos}{a b z TI TO i1 i2:Addr} (D:ZipApart z TI TO i1 i2 a b) :
  Turn P w K (.Tuple elts x1 pos) (Itz K a b) [z,TI,TO,i1,i2] z (λi h=>IsZip h z TI TO .none/\IsPair h TI (.ref i1) (.ref i2)/\(∃u v,IsPair h TO u v)/\h.IsListIter i1 a i/\h.IsListIter i2 b i) where
 mem:=by simp
 obj:=λi h st c hc=>by
  obtain⟨q1,q2,⟨u,v,q3⟩,⟨o4,q4,_,d4⟩,⟨o5,q5,_,d5⟩⟩:=st
  simp at hc
  rcases hc with rfl|rfl|rfl|rfl|rfl
  ·exact⟨_,q1,λv z=>by cases z⟩
  ·exact⟨_,q2,λv z=>by cases z⟩
  ·exact⟨_,q3,λv z=>by cases z⟩
  ·exact⟨_,q4,λv z=>by rw[d4]at z;cases z⟩
  ·exact⟨_,q5,λv z=>by rw[d5]at z;cases z⟩
 keep:=λi h h' st k=>by
  obtain⟨q1,q2,⟨u,v,q3⟩,q4,q5⟩:=st
  exact⟨k z (by simp) _ q1,k TI (by simp) _ q2,⟨u,v,k TO (by simp) _ q3⟩,q4.at λo e=>k i1 (by simp) o e,q5.at λo e=>k i2 (by simp) o e⟩
 item:=by
  intro X hP hw hK hc i pins s σ H E I hf st hg
  subst hP hw hK
  obtain⟨xs,ys,x,y,qa,qb,hx,hy⟩:=hg
  obtain⟨q1,q2,⟨u0,v0,q3⟩,q4,q5⟩:=st
  obtain⟨is1,r1,p1,_⟩:=I.list qa
  obtain⟨is2,r2,p2,_⟩:=I.list qb
  obtain⟨u,hu,ru⟩:=r1.get hx
  obtain⟨v,hv,rv⟩:=r2.get hy
  refine wpAny_pyNext_zip_item D q1 q2 q3 q4 q5 p1.isList p2.isList (x:=u) (y:=v) (by simpa using hu) (by simpa using hv) λh' a1 a2 a3 a4 a5 a6 a7=>?_
  refine⟨_,rfl,?_⟩
  refine wpAny_letOwnedTupleGo_zip (s:={s with heap:=h'}) a1 λh2 b1 b2=>?_
  have hfr:H s.heap.objs.size=none:=I.hok.fresh (Ye _)
  have I1:Inv X pins σ (upd H s.heap.objs.size (.tup [x,y])) {s with heap:=s.heap.push {cls:=.type "tuple",data:=.seq #[u,v]}}:=by
   refine I.laid (t':=s.toks) (λb u e=>Yh _ e) (Ye _) ?_
   exact⟨by show 2<=sizeLine;decide,[u,v],.cons ru (.cons rv .nil),⟨_,Ys _ rfl,rfl,_,rfl⟩⟩
  have nz:∀c∈[z,TI,TO,i1,i2],c≠s.heap.objs.size:=λc hc e=>by
   have:∃o,s.heap.get? c=some o:=by
    simp at hc
    rcases hc with rfl|rfl|rfl|rfl|rfl
    ·exact⟨_,q1⟩
    ·exact⟨_,q2⟩
    ·exact⟨_,q3⟩
    ·obtain⟨o,q,_⟩:=q4;exact⟨o,q⟩
    ·obtain⟨o,q,_⟩:=q5;exact⟨o,q⟩
   obtain⟨o,q⟩:=this
   exact absurd (Yj q) (by rw[e];exact YI _)
  have hf1:∀c∈[z,TI,TO,i1,i2],FpOk X pins (upd H s.heap.objs.size (.tup [x,y])) c:=λc hc=>by
   obtain⟨f0,f1,f2,f3,f4,f5⟩:=hf c hc
   exact⟨by rw[Zl (nz c hc)];exact f0,f1,f2,f3,f4,f5⟩
  have I2:Inv X pins σ (upd H s.heap.objs.size (.tup [x,y])) {s with heap:=h2}:=by
   refine Inv.Zhl (s:={s with heap:=s.heap.push {cls:=.type "tuple",data:=.seq #[u,v]}}) (t':=s.toks) (fp:=[z,TI,TO,i1,i2]) I1 (λc o hc e=>?_) hf1
   simp only[Yi,List.not_mem_nil,or_false,not_or]at hc
   obtain⟨c1,c2,c3,c4,c5⟩:=hc
   refine b2.extBut _ _ c1 ?_
   by_cases hs:c=s.heap.objs.size
   ·subst hs
    have e':(s.heap.push {cls:=.type "tuple",data:=.seq #[u,v]}).get? s.heap.objs.size=some _:=Ys _ rfl
    have ee:o={cls:=.type "tuple",data:=.seq #[u,v]}:=by
     have:=e.symm.trans e'
     exact YE this
    rw[ee];exact a5
   ·have:s.heap.get? c=some o:=by
     rcases Heap.get?_push_cases e with⟨q,_⟩|q
     ·exact absurd q hs
     ·exact q
    exact a7 c o c1 c3 c4 c5 this
  refine⟨.ref s.heap.objs.size,_,I2,rfl,⟨_,x,y,hfr,rfl,rfl,λxs' q'=>?_,λys' q'=>?_⟩,⟨b1,?_,⟨u,v,?_⟩,?_,?_⟩,λc hc=>(hf1 c hc).1⟩
  ·rw[I.Zcq q' qa];exact hx
  ·rw[I.Zcq q' qb];exact hy
  ·exact b2.extBut _ _ D.TIz (a7 _ _ D.TIz D.TITO D.TIi1 D.TIi2 q2)
  ·exact b2.extBut _ _ D.TOz a2
  ·exact a3.extBut b2.extBut D.i1z
  ·exact a4.extBut b2.extBut D.i2z
 done:=by
  intro X hP hw hK hc i pins s σ H E I hf st hg
  subst hP hw hK
  obtain⟨xs,ys,qa,qb,hx⟩:=hg
  obtain⟨q1,q2,⟨u0,v0,q3⟩,q4,q5⟩:=st
  obtain⟨is1,r1,p1,_⟩:=I.list qa
  obtain⟨is2,r2,p2,_⟩:=I.list qb
  refine wpAny_pyNext_zip_end (I.ok.hd hc) D q1 q2 q3 q4 q5 p1.isList p2.isList ?_ λh' k=>⟨rfl,I.Zhl (t':=s.toks) (fp:=[z,TI,TO,i1,i2]) (λc o hc e=>?_) hf⟩
  ·rcases hx with hx|hx
   ·left;simp;rw[<-r1.length];exact hx
   ·right;simp;rw[<-r2.length];exact hx
  ·simp only[Yi,List.not_mem_nil,or_false,not_or]at hc
   obtain⟨c1,c2,c3,c4,c5⟩:=hc
   exact k c o c1 c3 c4 c5 e
 self:=λ_ _ _ _ _ st h=>wpAny_pyIter_zip st.1 h
theorem Zs2 (n a b:Nat) (h1:a<n) (h2:b<n):ZipApart (n+4) (n+2) (n+3) n (n+1) a b:=by
 constructor<;>(show ¬ ((_:Nat)=_);omega)
noncomputable def iZip (K:Frag) (ta:TA):TI:=fun σ H R=>ta σ H λvs H1=>∃a b xs ys,vs=[.ref a,.ref b]/\SqL K H1 a xs/\SqL K H1 b ys/\R (Itz K a b) H1
theorem Zlv:bootBuiltins "zip"=some (.type "zip"):=by decide +kernel
theorem pi_zip {elts:List Expr} {x1}{tp:Pos}{e1 e2:Expr}{ta:TA}{p pos:Pos} (hg:Gl X "zip") (hm:X.mg "zip"=none) (ha:PA X [e1,e2] ta) (he:starEach [e1,e2] X.env=(false,eval e1 X.env)::starEach [e2] X.env:=by rfl) (hpl:(backTo pos (starEach [e2] X.env)).any (·.1)=false:=by rfl) :
  PI X (.Tuple elts x1 tp) (.Call (.Name "zip" p) [e1,e2] [] pos) (iZip X.K ta):=by
 intro pins s σ H R I h
 refine wpAny_Call_Name_kw (Zbm I hg hm Zlv ?_)
 refine PyProof.Rows.callWith_type1 (thn (ha pos pins s σ H _ I h) λus s1 ⟨vs,H1,I1,r1,a,b,xs,ys,e1,qa,qb,q⟩=>?_) he hpl
 subst e1
 obtain⟨u,v,rfl,ru,rv⟩:=r1.two
 cases(show u=Value.ref a from ru)
 cases(show v=Value.ref b from rv)
 obtain⟨is1,rr1,p1,_⟩:=I1.list qa
 obtain⟨is2,rr2,p2,_⟩:=I1.list qb
 refine call_zip_2 p1.isList p2.isList λh' c1 c2 c3 c4 c5 c6 c7=>?_
 refine wpAny_pyIter_zip c1 ?_
 have l1:a<s1.heap.objs.size:=by obtain⟨o,e,_⟩:=p1.isList;exact Yj e
 have l2:b<s1.heap.objs.size:=by obtain⟨o,e,_⟩:=p2.isList;exact Yj e
 have sm:∀b,s1.heap.objs.size<=b->FpOk X pins H1 b:=λb hb=>I1.ZqP hb (I1.hok.fresh hb)
 refine⟨_,[s1.heap.objs.size+4,s1.heap.objs.size+2,s1.heap.objs.size+3,s1.heap.objs.size,s1.heap.objs.size+1],_,_,H1,rfl,I1.kept (t':=s1.toks) c7,Zs1 (a:=a) (b:=b) ?_,⟨c1,c2,⟨_,_,c3⟩,c4,c5⟩,λc hc=>?_,q⟩
 ·exact Zs2 _ _ _ l1 l2
 ·simp at hc
  rcases hc with rfl|rfl|rfl|rfl|rfl<;>exact sm _ (by omega)
end
theorem cxK {CX:CXT}{P:Program}{w:World}{K:Frag}{mg:Str->Option Value}{base:Heap}{N:List Str}{qual:Str}{scope:Scope}{f:Addr}{cd:Value}{A:Around}{outer:List Env}{s:Shared}{H:Hp}{E:XK} :
  (Zhg CX P w K mg base N qual scope f cd A outer s H E).K=K:=rfl
theorem Ze.upd {H H1:Hp}{p:Addr}{o:HO} (h:H p=none) (e:Ze H H1):Ze H (upd H1 p o):=λb u z=>by
 rw[Zl (ZH z h)];exact e b u z
theorem Ze.ZP {H H1:Hp}{p:Addr}{o:HO} (e:Ze H H1) (h:H1 p=none):Ze H (L2.upd H1 p o):=e.upd (e.free h)
theorem Zdt {X:Cx}{K:Frag}{es:List Expr}{pos:Pos}{k:Nat}{t:TGs}{n:Nat} (hK:X.K=K) (hc:X.calm=true) (h:PGs X es t)
  (hn:(assignEach es X.env).length=n:=by rfl) (hst:(assignEach es X.env).findIdx? (·.1)=none:=by rfl):PG X (.Tuple es k pos) (gTup K n t):=hK▸Zes hc h hn hst
noncomputable def LoopR (J:It) (g:TG) (tb:TS) (D:Ends) (σ:St) (H1:Hp):Prop:=∃W:Nat->Nat->St->Hp->Prop,(∃m,W 0 m σ H1)/\∀i m σ H,W i m σ H ->
 (J.stop i H/\D.nx σ H)\/(J.go i H/\∃N:St->Hp->Prop,(∀σ' H',N σ' H'->∃m',m'<m/\W (i+1) m' σ' H')/\∀x H',J.yld i H x H'->g x σ H' fun σ2 H2=>tb {D with nx:=N,ct:=N,bk:=D.nx} σ2 H2)
theorem Zqg {wi:TI}{g:TG}{tb:TS}{D:Ends}{σ:St}{H:Hp}:tFor wi g tb D σ H=wi σ H λJ H1=>LoopR J g tb D σ H1:=rfl
noncomputable def Zs3 (c:TT) (tb:TS) (D:Ends) (σ:St) (H:Hp):Prop:=Zoy c tb D σ H
theorem Zlw {c:TT}{tb:TS}{D:Ends}{σ:St}{H:Hp}:Zoy c tb D σ H=Zs3 c tb D σ H:=rfl
noncomputable def Znu (J:It) (g:TG) (tt:TT) (te:TE) (σ0:St) (Q:VK) (H1:Hp):Prop:=∃W:Nat->Nat->List V->Hp->Prop,(∃m,W 0 m [] H1)/\∀i m acc H,W i m acc H ->
 (J.stop i H/\acc.length<=sizeLine/\∀p,H p=none->Q (.ref p) (upd H p (.lst acc))) \/
 (J.go i H/\acc.length<sizeLine/\∀x H',J.yld i H x H'->g x σ0 H' fun σ2 H2=>tt σ2 H2 λb H3=>if b=true then te σ2 H3 λv H4=>∃m',m'<m/\W (i+1) m' (acc++[v]) H4 else ∃m',m'<m/\W (i+1) m' acc H3)
theorem Znv {wi:TI}{g:TG}{tt:TT}{te:TE}{js:List (Option Nat)}{σ:St}{H:Hp}{Q:VK}:Zqe wi g tt te js σ H Q=wi σ H λJ H1=>Znu J g tt te (Z6 js σ) Q H1:=rfl
noncomputable def CW (n:Nat) (vals:Nat->V) (H1:Hp) (i m:Nat) (acc:List V) (H:Hp):Prop:=m=n-i/\i<=n/\acc=(List.range i).map vals/\Ze H1 H
theorem CW.next {n:Nat}{vals:Nat->V}{H1 H:Hp}{i:Nat}{v:V} (hi:i<n) (hv:v=vals i) (s:Ze H1 H):∃m',m'<n-i/\CW n vals H1 (i+1) m' ((List.range i).map vals++[v]) H :=
 ⟨n-(i+1),by omega,rfl,hi,by rw[YV,YJ,hv];rfl,s⟩
theorem comp_map {J:It}{n:Nat}{H1:Hp}{g:TG}{tt:TT}{te:TE}{σ0:St}{Q:VK} (vals:Nat->V) (hn:n<sizeLine) (hgo:∀i H,Ze H1 H->i<n->J.go i H) (hstop:∀H,Ze H1 H->J.stop n H)
  (hb:∀i x H H',i<n->Ze H1 H->J.yld i H x H'->g x σ0 H' fun σ2 H2=>tt σ2 H2 λb H3=>if b=true then te σ2 H3 λv H4=>∃m',m'<n-i/\CW n vals H1 (i+1) m' ((List.range i).map vals++[v]) H4 else ∃m',m'<n-i/\CW n vals H1 (i+1) m' ((List.range i).map vals) H3)
  (hk:∀l H',Ze H1 H'->H' l=none->Q (.ref l) (upd H' l (.lst ((List.range n).map vals)))) :
  Znu J g tt te σ0 Q H1:=by
 refine⟨CW n vals H1,⟨n,rfl,Yt _,rfl,Ze.refl _⟩,?_⟩
 rintro i m acc H ⟨rfl,hi,rfl,s⟩
 by_cases h:i<n
 ·refine .inr ⟨hgo i H s h,by simpa using Nat.lt_trans h hn,λx H' y=>hb i x H H' h s y⟩
 ·have e:i=n:=by omega
  subst e
  exact .inl ⟨hstop H s,by simpa using YZ hn,λp hp=>hk p H s hp⟩
theorem Zh7 {α:Type}{xs:List α}{i:Int}{j:Nat} (h:i=(j:Int)) (hj:j<xs.length):atI xs i=some xs[j]:=by
 subst h
 unfold atI ixN
 rw[Yd (by omega),Yd (by omega)]
 simp
theorem Zqh {α:Type}{xs:List α}{i:Int} (C:α->Prop) (h0:0<=i) (h1:i<xs.length) (h:∀x∈xs,C x):∃v,atI xs i=some v/\C v:=by
 obtain⟨j,rfl⟩:=YU h0
 have hj:j<xs.length:=by omega
 exact⟨xs[j],Zh7 rfl hj,h _ (YD hj)⟩
theorem mul_r {a b:Int} (h1:-(2 ^ 64)<b) (h2:b<2 ^ 64):IntMulOk a b:=IntMulOk.of_right (intBits_le_64 h1 h2)
theorem Zec {a b:Int} (h1:-(2 ^ 64)<a) (h2:a<2 ^ 64):IntMulOk a b:=IntMulOk.of_left (intBits_le_64 h1 h2)
theorem Zmr {a b:Int} (ha:Builtin.Int.intBits a<=2 ^ 20) (hb:Builtin.Int.intBits b<=2 ^ 20):IntMulOk a b:=IntMulOk.of_bits ha hb
theorem cp18:Zma 10 18:=by unfold Zma;decide
theorem cp9:Zma 10 9:=by unfold Zma;decide
theorem cp59:Zma 10 59:=by unfold Zma;decide
noncomputable def Exc (p:Addr) (H H':Hp):Prop:=∀b o,b≠p->H b=some o->H' b=some o
theorem Ze.exc {H H1 H2:Hp}{p:Addr} (s:Ze H H1) (h:H p=none) (e:Exc p H1 H2):Ze H H2:=λb o z=>e b o (ZH z h) (s b o z)
theorem Ze.toExc {H H':Hp}{p:Addr} (s:Ze H H'):Exc p H H':=λb o _ z=>s b o z
theorem Exc.upd {H:Hp}{p:Addr}{o:HO}:Exc p H (L2.upd H p o):=λb u n z=>by rw[Zl n];exact z
theorem range_getD {α β:Type} (xs:List α) (d:α) (f:α->β) (n:Nat) (h:n=xs.length):(List.range n).map (λj=>f (xs.getD j d))=xs.map f:=by
 subst h
 refine List.ext_getElem (by simp) λj h1 h2=>?_
 have hj:j<xs.length:=by simpa using h1
 simp[Yl,hj]
theorem ZaG {K:Frag}{H:Hp}{p:Addr}{xs:List V} (h:H p=some (.lst xs)):tyV K "list" (.ref p) H:=.inl ⟨rfl,_,SqL.of h⟩
theorem Zqi {i j:Int}:Znn (.int i) (.int j)=true:=rfl
theorem Zqj {i j:Bool}:Znn (.bl i) (.bl j)=true:=rfl
theorem Zqk {i j:Str}:Znn (.str i) (.str j)=true:=rfl
theorem Zql:Znn .non .non=true:=rfl
theorem Zqm {i:Int}:Znn .non (.int i)=true:=rfl
theorem Zqn {i:Int}:Znn (.int i) .non=true:=rfl
section
variable {X:Cx}
noncomputable def rLen (K:Frag):List V->Hp->VK->Prop:=λxs H Q=>∃p ys,xs=[.ref p]/\(SqL K H p ys\/SqT K H p ys)/\Q (.int ys.length) H
theorem Zk {K:Frag} (hK:X.K=K):Zbc X (.builtin "len") (rLen K):=by subst hK;exact Zmk
noncomputable def rLof (K:Frag):List V->Hp->VK->Prop:=λxs H Q=>∃p ys,xs=[.ref p]/\(SqL K H p ys\/SqT K H p ys)/\∀l,H l=none->Q (.ref l) (upd H l (.lst ys))
theorem ZjA {K:Frag} (hK:X.K=K):Zbc X (.type "list") (rLof K):=by subst hK;exact Zml
noncomputable def rTof (K:Frag):List V->Hp->VK->Prop:=λxs H Q=>∃p ys,xs=[.ref p]/\((SqL K H p ys/\∀l,H l=none->Q (.ref l) (upd H l (.tup ys)))\/(SqT K H p ys/\Q (.ref p) H))
theorem Zf8 {K:Frag} (hK:X.K=K):Zbc X (.type "tuple") (rTof K):=by subst hK;exact Zk4
theorem Zed {K:Frag} (hK:X.K=K):Zbc X (.builtin "isinstance") (rIsi K):=by subst hK;exact ZsZ
end
theorem Zqo {a:Addr}{x:Value}:(cOf (.ref a)=some x)=(.ref a=x):=by simp[cOf]
theorem Zs4 {n:String}{x:Value}:(cOf (.ty n)=some x)=(.type n=x):=by simp[cOf]
theorem Zs5 {α:Type}{f:Nat->Option α}{g:Nat->α}:∀{l:List Nat},(∀k∈l,f k=some (g k))->l.filterMap f=l.map g
 |[],_=>rfl
 |k::r,h=>by
  rw[List.filterMap_cons,h k (Yr ..),YM,Zs5 λj hj=>h j (Yw _ hj)]
theorem Zs6 (its:List Value):slicePick its.toArray none none (some (-1))=its.reverse.toArray:=by
 have e:=PyProof.Rows.picked_rev its.length
 unfold Builtin.Str.strSliceIndices at e
 have e2:sliceRange ((its.length:Int)-1) (-1) (-1)=(List.range its.length).map λk=>its.length-1-k:=by
  rw[<-e];rfl
 unfold slicePick
 congr 1
 show((sliceRange ((its.toArray.size:Int)-1) (-1) (-1)).filterMap (its.toArray[·]?))=_
 rw[Yu,e2,List.filterMap_map,Zs5 (g:=λk=>(its.reverse[k]?).getD .none)]
 ·refine List.ext_getElem (by simp) λj h1 h2=>?_
  have hj:j<its.length:=by simpa using h1
  simp[hj]
 ·intro k hk
  have hk':k<its.length:=Yz.mp hk
  have h3:its.length-1-k<its.length:=by omega
  simp[hk',h3]
section
variable {X:Cx}{e st:Expr}{te ts:TE}{pos p2:Pos}
noncomputable def tRev (K:Frag) (te ts:TE):TE:=fun σ H Q=>te σ H λx H1=>ts σ H1 λz H2=>∃a xs,x=.ref a/\z=.int (-1)/\SqL K H2 a xs/\∀p,H2 p=none->Q (.ref p) (upd H2 p (.lst xs.reverse))
theorem Vals.rev:∀{xs:List V}{us:List Value},Vals xs us->Vals xs.reverse us.reverse:=by
 intro xs us h
 induction h with
 |nil=>exact .nil
 |cons r _ ih=>rw[List.reverse_cons,List.reverse_cons];exact ih.append (.cons r .nil)
theorem Zlx {K:Frag} (hK:X.K=K) (he:PE X e te) (hs:PE X st ts):PE X (.Subscript e (.Slice none none (some st) p2) pos) (tRev K te ts):=by
 subst hK
 intro pins s σ H Q I h
 refine Subscript_ (thn (he pins s σ H _ I h) λv s1 ⟨x,H1,I1,r1,q1⟩=>?_)
 refine wpAny_Slice ?_
 rw[evalPart_none]
 refine Yb ?_
 refine Yb ?_
 rw[evalPart_some]
 refine thn (hs pins s1 σ H1 _ I1 q1) λvs s2 ⟨z,H2,I2,r2,a,xs,e1,e2,hx,q⟩=>?_
 subst e1 e2
 obtain⟨tk,rfl⟩:=r2
 cases r1
 have I4:Inv X pins σ H2 {s2 with heap:=s2.heap.push {cls:=.type "slice",data:=.fields #[.none,.none,.int (-1) tk]}}:=I2.kept (t':=s2.toks) λb ob q=>Yh _ q
 show wpAny (model X.prog X.w) X.A (subscriptTail e (.Slice none none (some st) p2) (.ref a) (.ref s2.heap.objs.size)) (EP X pins σ Q) X.xe {s2 with heap:=s2.heap.push {cls:=.type "slice",data:=.fields #[.none,.none,.int (-1) tk]}}
 obtain⟨its,r,ht,hz⟩:=I4.list hx
 have hlen:=r.length
 refine tail_any (ops:=[.ref a,.ref s2.heap.objs.size]) ht.isList.typeIs slot_list_getitem.lookup ?_ (by with_unfolding_all rfl)
 refine wpAny_getItem_list_slice (s:={s2 with heap:=s2.heap.push {cls:=.type "slice",data:=.fields #[.none,.none,.int (-1) tk]}}) ht.isList (Heap.IsSliceOf.new ..) .none .none (.int (-1) tk) (by simp) ?_ (by rw[Yu]<;>omega)
 rw[Zs6]
 refine⟨.ref _,_,I4.laid (t':=s2.toks) (o:=.lst xs.reverse) (λb ob q=>Yh _ q) (Ye _) ?_,rfl,q _ (I4.hok.fresh (Ye _))⟩
 exact⟨by rw[List.length_reverse];exact hz,_,0,r.rev,Ys _ rfl⟩
end
noncomputable def Rows (H:Hp) (l:Addr) (rs:List (List Int)):Prop:=∃as:List Addr,H l=some (.lst (as.map V.ref))/\l∉as/\as.length=rs.length/\∀i (h1:i<as.length) (h2:i<rs.length),H as[i]=some (.lst (rs[i].map V.int))
theorem Rows.same {H H':Hp}{l:Addr}{rs:List (List Int)} (R:Rows H l rs) (s:Ze H H'):Rows H' l rs:=by
 obtain⟨as,e,n,hl,h⟩:=R
 exact⟨as,s _ _ e,n,hl,λi h1 h2=>s _ _ (h i h1 h2)⟩
theorem Rows.at {K:Frag}{H:Hp}{l:Addr}{rs:List (List Int)} (R:Rows H l rs) {i:Nat} (h:i<rs.length):∃xs a,SqL K H l xs/\atI xs (i:Int)=some (.ref a)/\H a=some (.lst (rs[i].map V.int)):=by
 obtain⟨as,e,n,hl,hh⟩:=R
 have hi:i<as.length:=by omega
 refine⟨_,as[i],SqL.of e,?_,hh i hi h⟩
 rw[Zh7 rfl (by simpa using hi)];simp
theorem Rows.push {H:Hp}{l p:Addr}{rs:List (List Int)}{r:List Int}{as:List Addr} (e:H l=some (.lst (as.map V.ref))) (n:l∉as) (hl:as.length=rs.length) (h:∀i (h1:i<as.length) (h2:i<rs.length),H as[i]=some (.lst (rs[i].map V.int)))
  (hp:H p=some (.lst (r.map V.int))) (np:p≠l):Rows (upd H l (.lst (as.map V.ref++[.ref p]))) l (rs++[r]):=by
 refine⟨as++[p],by rw[Zc];simp,?_,by simp[hl],λi h1 h2=>?_⟩
 ·simp only[Yq,Y7,not_or]
  exact⟨n,λz=>np z.symm⟩
 ·by_cases hi:i<as.length
  ·have e1:(as++[p])[i]=as[i]:=Y9 hi
   have e2:(rs++[r])[i]=rs[i]'(by omega):=Y9 (by omega)
   rw[e1,e2,Zl]
   ·exact h i hi (by omega)
   ·intro z;exact n (z▸YD hi)
  ·have e1:(as++[p])[i]=p:=by rw[Jb (by omega)];simp
   have e2:(rs++[r])[i]=r:=by rw[Jb (by omega)];simp
   rw[e1,e2,Zl np];exact hp
inductive EqD (K:Frag) (H:Hp):Nat->V->V->Bool->Prop
 |flat {n:Nat}{x y:V} (fx:flatV x=true) (fy:flatV y=true):EqD K H n x y (eqV x y)
 |lst {n:Nat}{a b:Addr}{xs ys:List V} (e:Nat->Bool) (hx:SqL K H a xs) (hy:SqL K H b ys) (hl:xs.length=ys.length) (h:∀j x y,xs[j]?=some x->ys[j]?=some y->EqD K H n x y (e j)):EqD K H (n+1) (.ref a) (.ref b) ((List.range xs.length).all e)
 |len {n:Nat}{a b:Addr}{xs ys:List V} (hx:SqL K H a xs) (hy:SqL K H b ys) (hl:xs.length≠ys.length):EqD K H (n+1) (.ref a) (.ref b) false
 |tup {n:Nat}{a b:Addr}{xs ys:List V} (e:Nat->Bool) (hx:SqT K H a xs) (hy:SqT K H b ys) (h:∀j x y,xs[j]?=some x->ys[j]?=some y->EqD K H n x y (e j)):EqD K H (n+1) (.ref a) (.ref b) ((List.range (min xs.length ys.length)).all e&&xs.length==ys.length)
theorem Zs7 {x:V} (h:flatV x=true):eqV x x=true:=by
 cases x<;>first
  |rfl
  |(simp[eqV];done)
  |cases h
section
variable {X:Cx}{pins:List (Addr×Obj)}{σ:St}{H:Hp}{s:Shared}
theorem Znw (I:Inv X pins σ H s) {n:Nat}{x y:V}{b:Bool} (h:EqD X.K H n x y b):x=y->b=true:=by
 induction h with
 |flat fx fy=>rintro rfl;exact Zs7 fx
 |lst e hx hy hl h ih =>
  intro z
  cases z
  have:=I.Zcq hx hy
  subst this
  refine List.all_eq_true.mpr λj hj=>?_
  have hj':=Yz.mp hj
  exact ih j _ _ (Yg hj') (Yg hj') rfl
 |len hx hy hl =>
  intro z
  cases z
  have:=I.Zcq hx hy
  subst this
  exact absurd rfl hl
 |tup e hx hy h ih =>
  intro z
  cases z
  have:=I.ZhZ hx hy
  subst this
  rw[Nat.min_self]
  have:(List.range _).all e=true:=List.all_eq_true.mpr λj hj=>by
   have hj':=Yz.mp hj
   exact ih j _ _ (Yg hj') (Yg hj') rfl
  rw[this];simp
theorem ZjB (I:Inv X pins σ H s) {n:Nat}{x y:V}{b:Bool} (h:EqD X.K H n x y b):∀(A:Around) (u v:Value),A.units+n<cLine->RelV x u->RelV y v->SeqAt.EqAt A s u v b:=by
 induction h with
 |flat fx fy=>intro A u v _ ru rv;exact ZsW ru rv fx fy
 |@lst n a b xs ys e hx hy hl h ih =>
  intro A u v hu ru rv
  have hb:=Znw I (.lst e hx hy hl h)
  cases ru
  cases rv
  by_cases hab:a=b
  ·subst hab
   rw[hb rfl];exact SeqAt.EqAt.same _
  ·obtain⟨is1,r1,p1,_⟩:=I.list hx
   obtain⟨is2,r2,p2,_⟩:=I.list hy
   have e1:=r1.length
   have e2:=r2.length
   have key:=SeqAt.RcAt.lists (A:=A) (s:=s) (e:=e) p1.isList p2.isList (by simp;omega) (by omega) λj h1 h2=>by
    have h1':j<xs.length:=by simpa[e1]using h1
    have h2':j<ys.length:=by simpa[e2]using h2
    obtain⟨u,hu1,ru⟩:=r1.get (Yg h1')
    obtain⟨v,hv1,rv⟩:=r2.get (Yg h2')
    have eu:is1.toArray[j]=u:=by simpa using(YA.mp hu1).2
    have ev:is2.toArray[j]=v:=by simpa using(YA.mp hv1).2
    rw[eu,ev]
    exact ih j _ _ (Yg h1') (Yg h2') A.in1 u v (by show A.units+1+n<cLine;omega) ru rv
   have e3:is1.toArray.size=xs.length:=by simp[e1]
   rw[e3]at key
   exact SeqAt.EqAt.of_refs hab key
 |@len n a b xs ys hx hy hl =>
  intro A u v hu ru rv
  cases ru
  cases rv
  have hab:a≠b:=λz=>by subst z;exact hl (congrArg List.length (I.Zcq hx hy))
  obtain⟨is1,r1,p1,_⟩:=I.list hx
  obtain⟨is2,r2,p2,_⟩:=I.list hy
  have e1:=r1.length
  have e2:=r2.length
  exact SeqAt.EqAt.of_refs hab (SeqAt.RcAt.lists_lengths p1.isList p2.isList (by simp;omega) (by omega))
 |@tup n a b xs ys e hx hy h ih =>
  intro A u v hu ru rv
  have hb:=Znw I (.tup e hx hy h)
  cases ru
  cases rv
  by_cases hab:a=b
  ·subst hab
   rw[hb rfl];exact SeqAt.EqAt.same _
  ·obtain⟨is1,r1,p1,_⟩:=I.tuple hx
   obtain⟨is2,r2,p2,_⟩:=I.tuple hy
   have e1:=r1.length
   have e2:=r2.length
   have key:=SeqAt.RcAt.tuples (A:=A) (s:=s) (e:=e) p1 p2 (by omega) λj h1 h2=>by
    have h1':j<xs.length:=by simpa[e1]using h1
    have h2':j<ys.length:=by simpa[e2]using h2
    obtain⟨u,hu1,ru⟩:=r1.get (Yg h1')
    obtain⟨v,hv1,rv⟩:=r2.get (Yg h2')
    have eu:is1.toArray[j]=u:=by simpa using(YA.mp hu1).2
    have ev:is2.toArray[j]=v:=by simpa using(YA.mp hv1).2
    rw[eu,ev]
    exact ih j _ _ (Yg h1') (Yg h2') A.in1 u v (by show A.units+1+n<cLine;omega) ru rv
   have e3:is1.toArray.size=xs.length:=by simp[e1]
   have e4:is2.toArray.size=ys.length:=by simp[e2]
   rw[e3,e4]at key
   exact SeqAt.EqAt.of_refs hab key
end
noncomputable def rEqD (K:Frag) (neg:Bool):R2:=λx y H Q=>∃a b k,x=.ref a/\y=.ref b/\EqD K H 3 x y k/\Q (.bl (if neg then !k else k)) H
section
variable {X:Cx}
theorem ZjC {K:Frag} (hK:X.K=K) {k:Nat} (hr:Room k X.A):OpR X (compareOp .Eq) (rEqD K false):=by
 subst hK
 have hu0:=hr.un
 intro pins s σ H x y v u Q I rx ry h
 obtain⟨a,b,k,rfl,rfl,h,q⟩:=h
 cases rx
 cases ry
 cases h with
 |flat fx fy=>cases fx
 |@lst n _ _ xs ys e hx hy hl h =>
  obtain⟨is1,r1,p1,_⟩:=I.list hx
  obtain⟨is2,r2,p2,_⟩:=I.list hy
  have e1:=r1.length
  have e2:=r2.length
  have e3:is1.toArray.size=xs.length:=by simp[e1]
  refine SeqAt.eq_listAt (e:=e) p1.isList p2.isList (by simp;omega) (by omega) (λj h1 h2=>?_) ⟨.bl _,H,I,rfl,by rw[e3];exact q⟩
  have h1':j<xs.length:=by simpa[e1]using h1
  have h2':j<ys.length:=by simpa[e2]using h2
  obtain⟨u,hu1,ru⟩:=r1.get (Yg h1')
  obtain⟨v,hv1,rv⟩:=r2.get (Yg h2')
  have eu:is1.toArray[j]=u:=by simpa using(YA.mp hu1).2
  have ev:is2.toArray[j]=v:=by simpa using(YA.mp hv1).2
  rw[eu,ev]
  exact ZjB I (h j _ _ (Yg h1') (Yg h2')) X.A.in1 u v (by show X.A.units+1+2<cLine;omega) ru rv
 |@len n _ _ xs ys hx hy hl =>
  obtain⟨is1,r1,p1,_⟩:=I.list hx
  obtain⟨is2,r2,p2,_⟩:=I.list hy
  have e1:=r1.length
  have e2:=r2.length
  exact SeqAt.eq_list_lengthsAt p1.isList p2.isList (by simp;omega) (by omega) ⟨.bl _,H,I,rfl,q⟩
 |@tup n _ _ xs ys e hx hy h =>
  obtain⟨is1,r1,p1,_⟩:=I.tuple hx
  obtain⟨is2,r2,p2,_⟩:=I.tuple hy
  have e1:=r1.length
  have e2:=r2.length
  have e3:is1.toArray.size=xs.length:=by simp[e1]
  have e4:is2.toArray.size=ys.length:=by simp[e2]
  refine SeqAt.eq_tupleAt (e:=e) p1 p2 (by omega) (λj h1 h2=>?_) ⟨.bl _,H,I,rfl,by rw[e3,e4];exact q⟩
  have h1':j<xs.length:=by simpa[e1]using h1
  have h2':j<ys.length:=by simpa[e2]using h2
  obtain⟨u,hu1,ru⟩:=r1.get (Yg h1')
  obtain⟨v,hv1,rv⟩:=r2.get (Yg h2')
  have eu:is1.toArray[j]=u:=by simpa using(YA.mp hu1).2
  have ev:is2.toArray[j]=v:=by simpa using(YA.mp hv1).2
  rw[eu,ev]
  exact ZjB I (h j _ _ (Yg h1') (Yg h2')) X.A.in1 u v (by show X.A.units+1+2<cLine;omega) ru rv
theorem Zgy {K:Frag} (hK:X.K=K) {k:Nat} (hr:Room k X.A):OpR X (compareOp .NotEq) (rEqD K true):=by
 subst hK
 have hu0:=hr.un
 intro pins s σ H x y v u Q I rx ry h
 obtain⟨a,b,k,rfl,rfl,h,q⟩:=h
 cases rx
 cases ry
 cases h with
 |flat fx fy=>cases fx
 |@lst n _ _ xs ys e hx hy hl h =>
  obtain⟨is1,r1,p1,_⟩:=I.list hx
  obtain⟨is2,r2,p2,_⟩:=I.list hy
  have e1:=r1.length
  have e2:=r2.length
  have e3:is1.toArray.size=xs.length:=by simp[e1]
  refine SeqAt.RcNeAt.lists (e:=e) p1.isList p2.isList (by simp;omega) (by omega) (λj h1 h2=>?_) _ _ _ _ ⟨.bl _,H,I,rfl,by rw[e3];exact q⟩
  have h1':j<xs.length:=by simpa[e1]using h1
  have h2':j<ys.length:=by simpa[e2]using h2
  obtain⟨u,hu1,ru⟩:=r1.get (Yg h1')
  obtain⟨v,hv1,rv⟩:=r2.get (Yg h2')
  have eu:is1.toArray[j]=u:=by simpa using(YA.mp hu1).2
  have ev:is2.toArray[j]=v:=by simpa using(YA.mp hv1).2
  rw[eu,ev]
  exact ZjB I (h j _ _ (Yg h1') (Yg h2')) X.A.in1 u v (by show X.A.units+1+2<cLine;omega) ru rv
 |@len n _ _ xs ys hx hy hl =>
  obtain⟨is1,r1,p1,_⟩:=I.list hx
  obtain⟨is2,r2,p2,_⟩:=I.list hy
  have e1:=r1.length
  have e2:=r2.length
  exact SeqAt.RcNeAt.lists_lengths p1.isList p2.isList (by simp;omega) (by omega) _ _ _ _ ⟨.bl _,H,I,rfl,q⟩
 |@tup n _ _ xs ys e hx hy h =>
  obtain⟨is1,r1,p1,_⟩:=I.tuple hx
  obtain⟨is2,r2,p2,_⟩:=I.tuple hy
  have e1:=r1.length
  have e2:=r2.length
  have e3:is1.toArray.size=xs.length:=by simp[e1]
  have e4:is2.toArray.size=ys.length:=by simp[e2]
  refine SeqAt.RcNeAt.tuples (e:=e) p1 p2 (by omega) (λj h1 h2=>?_) _ _ _ _ ⟨.bl _,H,I,rfl,by rw[e3,e4];exact q⟩
  have h1':j<xs.length:=by simpa[e1]using h1
  have h2':j<ys.length:=by simpa[e2]using h2
  obtain⟨u,hu1,ru⟩:=r1.get (Yg h1')
  obtain⟨v,hv1,rv⟩:=r2.get (Yg h2')
  have eu:is1.toArray[j]=u:=by simpa using(YA.mp hu1).2
  have ev:is2.toArray[j]=v:=by simpa using(YA.mp hv1).2
  rw[eu,ev]
  exact ZjB I (h j _ _ (Yg h1') (Yg h2')) X.A.in1 u v (by show X.A.units+1+2<cLine;omega) ru rv
end
noncomputable def IsI (v:V) (i:Int):Prop:=v=.int i
noncomputable def IsL (K:Frag) (H:Hp) {α:Type} (P:V->α->Prop) (v:V) (as:List α):Prop:=∃a xs,v=.ref a/\SqL K H a xs/\xs.length=as.length/\∀(j:Nat) (x:V) (y:α),xs[j]?=some x->as[j]?=some y->P x y
noncomputable def IsT (K:Frag) (H:Hp) {α:Type} (P:V->α->Prop) (v:V) (as:List α):Prop:=∃a xs,v=.ref a/\SqT K H a xs/\xs.length=as.length/\∀(j:Nat) (x:V) (y:α),xs[j]?=some x->as[j]?=some y->P x y
noncomputable def EqP (K:Frag) (H:Hp) (n:Nat) {α:Type} [DecidableEq α] (P:V->α->Prop):Prop:=∀x y a b,P x a->P y b->EqD K H n x y (decide (a=b))
theorem Zcj {K:Frag}{H:Hp}{n:Nat}:EqP K H n IsI:=by
 rintro x y a b rfl rfl
 have:=EqD.flat (K:=K) (H:=H) (n:=n) (x:=.int a) (y:=.int b) rfl rfl
 have e:eqV (.int a) (.int b)=decide (a=b):=by simp[eqV,Bool.beq_eq_decide_eq]
 rw[<-e];exact this
theorem all_eq {α:Type} [DecidableEq α] (as bs:List α) (h:as.length=bs.length):(List.range as.length).all (λj=>decide (as[j]?=bs[j]?))=decide (as=bs):=by
 rw[Bool.eq_iff_iff,List.all_eq_true,decide_eq_true_iff]
 constructor
 ·intro q
  refine List.ext_getElem? λj=>?_
  by_cases hj:j<as.length
  ·simpa using q j (Yz.mpr hj)
  ·rw[List.getElem?_eq_none (by omega),List.getElem?_eq_none (by omega)]
 ·rintro rfl j _;simp
theorem Zjj {K:Frag}{H:Hp}{n:Nat}{α:Type} [DecidableEq α] {P:V->α->Prop} (h:EqP K H n P):EqP K H (n+1) (IsL K H P):=by
 rintro x y as bs ⟨a,xs,rfl,hx,lx,px⟩ ⟨b,ys,rfl,hy,ly,py⟩
 by_cases hl:as.length=bs.length
 ·rw[<-all_eq as bs hl,<-lx]
  refine .lst _ hx hy (by omega) λj x y h1 h2=>?_
  have j1:=(YA.mp h1).1
  have j2:=(YA.mp h2).1
  have ha:as[j]?=some as[j]:=Yg (by omega)
  have hb:bs[j]?=some bs[j]:=Yg (by omega)
  have:=h x y _ _ (px j _ _ h1 ha) (py j _ _ h2 hb)
  rw[ha,hb]
  simpa using this
 ·have e:decide (as=bs)=false:=by simp;intro z;exact hl (congrArg List.length z)
  rw[e]
  exact .len hx hy (by omega)
theorem Zf9 {K:Frag}{H:Hp}{n:Nat}{α:Type} [DecidableEq α] {P:V->α->Prop} (h:EqP K H n P):EqP K H (n+1) (IsT K H P):=by
 rintro x y as bs ⟨a,xs,rfl,hx,lx,px⟩ ⟨b,ys,rfl,hy,ly,py⟩
 have key:=EqD.tup (K:=K) (H:=H) (n:=n) (λj=>decide (as[j]?=bs[j]?)) hx hy λj x y h1 h2=>by
  have j1:=(YA.mp h1).1
  have j2:=(YA.mp h2).1
  have ha:as[j]?=some as[j]:=Yg (by omega)
  have hb:bs[j]?=some bs[j]:=Yg (by omega)
  have:=h x y _ _ (px j _ _ h1 ha) (py j _ _ h2 hb)
  rw[ha,hb]
  simpa using this
 have e:((List.range (min xs.length ys.length)).all (λj=>decide (as[j]?=bs[j]?))&&xs.length==ys.length)=decide (as=bs):=by
  rw[lx,ly]
  by_cases hl:as.length=bs.length
  ·rw[<-hl,Nat.min_self,all_eq as bs hl];simp
  ·have e:decide (as=bs)=false:=by simp;intro z;exact hl (congrArg List.length z)
   rw[e]
   simp[hl]
 rw[e]at key
 exact key
theorem Zcu {K:Frag}{H:Hp}{a:Addr}{ns:List Int} (h:SqL K H a (ns.map V.int)):IsL K H IsI (.ref a) ns:=⟨a,_,rfl,h,by simp,λj x y h1 h2=>by
 rw[YG,h2]at h1
 exact(YE h1).symm⟩
theorem ZaH {K:Frag}{H:Hp}{a:Addr}{ns:List Int} (h:SqT K H a (ns.map V.int)):IsT K H IsI (.ref a) ns:=⟨a,_,rfl,h,by simp,λj x y h1 h2=>by
 rw[YG,h2]at h1
 exact(YE h1).symm⟩
section
variable {X:Cx}
noncomputable def Zs8 (ta:TA):TE:=fun σ H Q=>ta σ H λvs H1=>∃j:Int,vs=[.int j]/\-(2 ^ 62)<=j/\j<2 ^ 62/\∀p,H1 p=none->Q (.ref p) (upd H1 p (.rng 0 j))
theorem Zh8 {a:Expr}{ta:TA}{p pos:Pos} (hg:Gl X "range") (hm:X.mg "range"=none) (ha:PA X [a] ta) (hs:starEach [a] X.env=[(false,eval a X.env)]:=by rfl):PE X (.Call (.Name "range" p) [a] [] pos) (Zs8 ta):=by
 intro pins s σ H Q I h
 refine wpAny_Call_Name_kw (Zbm I hg hm boot_range (PyProof.Rows.callWith_type1 (thn (ha pos pins s σ H _ I h) λus s1 ⟨vs,H1,I1,r1,q1⟩=>?_) hs rfl))
 obtain⟨j,e,q1,q2,q⟩:=q1
 subst e
 obtain⟨u,rfl,ru⟩:=r1.one
 obtain⟨t,rfl⟩:=ru
 refine call_range_1 ⟨.ref s1.heap.objs.size,_,I1.laid (λb o e=>Yh _ e) (Ye _) ?_,rfl,q _ (I1.hok.fresh (Ye _))⟩
 exact⟨_,_,_,Ys _ rfl⟩
noncomputable def Zs9:List V->Hp->VK->Prop:=λxs H Q=>∃p j,xs=[.ref p]/\H p=some (.rng 0 j)/\0<=j/\j<=1000/\∀l,H l=none->Q (.ref l) (upd H l (.lst ((List.range j.toNat).map λ(i:Nat)=>V.int (i:Int))))
theorem Zqp {g:Nat->V}{P:Nat->Value->Prop} (hP:∀i v,P i v->RelV (g i) v):∀(n:Nat) (us:List Value),us.length=n->(∀(j:Nat) (v:Value),us[j]?=some v->P j v)->Vals ((List.range n).map g) us:=by
 intro n
 induction n with
 |zero =>
  intro us hl _
  cases us with
  |nil=>exact .nil
  |cons _ _=>cases hl
 |succ n ih =>
  intro us hl h
  have hne:us≠[]:=λz=>by rw[z]at hl;cases hl
  rw[YV,YJ,<-List.dropLast_concat_getLast hne]
  have hl2:us.dropLast.length=n:=by rw[List.length_dropLast,hl];rfl
  refine(ih us.dropLast hl2 λj v hj=>?_).append (.cons ?_ .nil)
  ·have hj2:=(YA.mp hj).1
   refine h j v ?_
   rw[List.getElem?_dropLast]at hj
   split at hj
   ·exact hj
   ·cases hj
  ·refine hP n _ (h n _ ?_)
   rw[List.getLast_eq_getElem]
   rw[YA]
   refine⟨by omega,?_⟩
   congr 1
   omega
theorem Zgq (hc:X.calm=true):Zbc X (.type "list") Zs9:=by
 intro pins s σ H xs us Q I r h
 obtain⟨p,j,rfl,hp,h0,h1,q⟩:=h
 obtain⟨u,rfl,ru⟩:=r.one
 cases(show u=Value.ref p from ru)
 obtain⟨t,u,v,hob⟩:=(show ∃t u v,s.heap.get? p=some {cls:=.type "range",data:=.fields #[.int 0 t,.int j u,.int 1 v]}from I.hok p _ hp)
 refine call_list_range (n:=j.toNat) (I.ok.hd hc) hob (small_one (by omega) (by omega) (by omega) (by omega)) (by rw[rangeSize_one];split<;>omega) (by omega) λh' tk acc' c' kp hn hacc=>?_
 have hv:Vals ((List.range j.toNat).map λ(i:Nat)=>V.int (i:Int)) acc'.toList:=by
  exact Zqp (g:=λ(i:Nat)=>V.int (i:Int)) (P:=λ(i:Nat) v=>∃t,v=.int (0+(i:Int)*1) t) (λi v h=>by obtain⟨t,e⟩:=h;exact⟨t,by rw[e];simp⟩) _ _ (by rw[YW];exact hacc.1) λk v hk=>hacc.2 k v (by simpa using hk)
 refine⟨.ref s.heap.objs.size,_,I.laid kp (Ye _) ?_,rfl,q _ (I.hok.fresh (Ye _))⟩
 exact⟨by rw[Yf,Y0];exact Ym (show j.toNat<=1000 by omega) (by decide),_,c',hv,hn⟩
noncomputable def rAll (K:Frag):List V->Hp->VK->Prop:=λxs H Q=>∃(p:Addr) (bs:List Bool),xs=[.ref p]/\SqL K H p (bs.map V.bl)/\Q (.bl (bs.all id)) H
noncomputable def rAny (K:Frag):List V->Hp->VK->Prop:=λxs H Q=>∃(p:Addr) (bs:List Bool),xs=[.ref p]/\SqL K H p (bs.map V.bl)/\Q (.bl (bs.any id)) H
theorem all_ix (bs:List Bool):(List.range bs.length).all (λi=>bs.getD i false)=bs.all id:=by
 rw[Bool.eq_iff_iff,List.all_eq_true,List.all_eq_true]
 constructor
 ·intro h x hx
  obtain⟨j,hj,rfl⟩:=YY hx
  have:=h j (Yz.mpr hj)
  simpa[Yl,hj]using this
 ·intro h j hj
  have hj':=Yz.mp hj
  have:=h _ (YD hj')
  simpa[Yl,hj']using this
theorem any_ix (bs:List Bool):(List.range bs.length).any (λi=>bs.getD i false)=bs.any id:=by
 rw[Bool.eq_iff_iff,List.any_eq_true,List.any_eq_true]
 constructor
 ·rintro⟨j,hj,e⟩
  have hj':=Yz.mp hj
  exact⟨_,YD hj',by simpa[Yl,hj']using e⟩
 ·rintro⟨x,hx,e⟩
  obtain⟨j,hj,rfl⟩:=YY hx
  exact⟨j,Yz.mpr hj,by simpa[Yl,hj]using e⟩
theorem ZiP {prog:Program}{w:World}{A:Around}{bs:List Bool}{its:List Value} (r:Vals (bs.map V.bl) its):TruthOf prog w A (λi v=>its.toArray[i]?=some v) (λi=>bs.getD i false):=by
 intro i v s Q E hv hq
 have hv':its[i]?=some v:=by simpa using hv
 have hl:=r.length
 have hi:i<bs.length:=by
  have:=(YA.mp hv').1
  rw[Yf]at hl;omega
 obtain⟨u,hu,ru⟩:=r.get (i:=i) (x:=V.bl bs[i]) (by rw[YG,Yg hi];rfl)
 rw[hv']at hu
 cases hu
 cases ru
 refine wpAny_truthy_bool ?_
 simpa[Yl,hi]using hq
theorem Zfv {K:Frag} (hK:X.K=K) (hc:X.calm=true):Zbc X (.builtin "all") (rAll K):=by
 subst hK
 intro pins s σ H xs us Q I r h
 obtain⟨p,bs,rfl,hp,q⟩:=h
 obtain⟨u,rfl,ru⟩:=r.one
 cases(show u=Value.ref p from ru)
 obtain⟨its,r',pl,hz⟩:=I.list hp
 have hl:=r'.length
 refine call_all_walk (wpAny_pyIter_list pl.isList ?_)
 have hne:p≠s.heap.objs.size:=by obtain⟨o,e,_⟩:=pl.isList;exact Yn (Yj e)
 refine⟨s.heap.objs.size,_,_,_,_,_,λi=>bs.getD i false,rfl,Walks.list (A:=X.A.in1) (show X.A.in1.handled=none from I.ok.hd hc) _ p hne its.toArray,⟨⟨_,Ys _ rfl,rfl,rfl⟩,pl.isList.push _⟩,ZiP r',λh' tk kp=>?_⟩
 have e1:its.toArray.size=bs.length:=by rw[Yu];rw[Yf]at hl;omega
 rw[e1,all_ix]
 exact⟨.bl _,H,I.kept (t':=tk) λb o e=>kp b o (by simp;exact Yn (Yj e)) (Yh _ e),rfl,q⟩
theorem ZjD {K:Frag} (hK:X.K=K) (hc:X.calm=true):Zbc X (.builtin "any") (rAny K):=by
 subst hK
 intro pins s σ H xs us Q I r h
 obtain⟨p,bs,rfl,hp,q⟩:=h
 obtain⟨u,rfl,ru⟩:=r.one
 cases(show u=Value.ref p from ru)
 obtain⟨its,r',pl,hz⟩:=I.list hp
 have hl:=r'.length
 refine call_any_walk (wpAny_pyIter_list pl.isList ?_)
 have hne:p≠s.heap.objs.size:=by obtain⟨o,e,_⟩:=pl.isList;exact Yn (Yj e)
 refine⟨s.heap.objs.size,_,_,_,_,_,λi=>bs.getD i false,rfl,Walks.list (A:=X.A.in1) (show X.A.in1.handled=none from I.ok.hd hc) _ p hne its.toArray,⟨⟨_,Ys _ rfl,rfl,rfl⟩,pl.isList.push _⟩,ZiP r',λh' tk kp=>?_⟩
 have e1:its.toArray.size=bs.length:=by rw[Yu];rw[Yf]at hl;omega
 rw[e1,any_ix]
 exact⟨.bl _,H,I.kept (t':=tk) λb o e=>kp b o (by simp;exact Yn (Yj e)) (Yh _ e),rfl,q⟩
noncomputable def rIxQ (K:Frag):R2:=λx y H Q=>∃p xs i v,x=.ref p/\y=.int i/\(SqL K H p xs\/SqT K H p xs)/\atI xs i=some v/\Q v H
theorem Znx {K:Frag} (hK:X.K=K):IxR X (rIxQ K):=by
 subst hK
 intro value slice pins s σ H x y v u Q I rx ry h hs
 refine(Zx.or Zaq) (value:=value) (slice:=slice) pins s σ H x y v u Q I rx ry ?_ hs
 obtain⟨p,xs,i,v,rfl,rfl,hq,ha,q⟩:=h
 rcases hq with hq|hq
 ·exact .inl ⟨p,xs,i,v,rfl,rfl,hq,ha,q⟩
 ·exact .inr ⟨p,xs,i,v,rfl,rfl,hq,ha,q⟩
theorem ZjE:bootBuiltins "all"=some (.builtin "all"):=by decide +kernel
theorem ZoJ:bootBuiltins "any"=some (.builtin "any"):=by decide +kernel
end
noncomputable def Zdu (f:Nat->Int) (a b p:Nat):Prop:=a<=p/\p<=b/\(∀q,a<=q->q<p->f p<f q)/\∀q,p<q->q<=b->f p<=f q
theorem Zdu.unique {f:Nat->Int}{a b p q:Nat} (h:Zdu f a b p) (k:Zdu f a b q):p=q:=by
 obtain⟨h1,h2,h3,h4⟩:=h
 obtain⟨k1,k2,k3,k4⟩:=k
 rcases Nat.lt_trichotomy p q with z|z|z
 ·have:=k3 p h1 z
  have:=h4 q z k2
  omega
 ·exact z
 ·have:=h3 q k1 z
  have:=k4 p z h2
  omega
theorem Zdu.join {f:Nat->Int}{a m a' b p q:Nat} (h:Zdu f a m p) (k:Zdu f a' b q) (h1:a<=a') (h2:a'<=m+1) (h3:m<=b):Zdu f a b (if f q<f p then q else p):=by
 obtain⟨p1,p2,p3,p4⟩:=h
 obtain⟨q1,q2,q3,q4⟩:=k
 have pm:∀r,a<=r->r<=m->f p<=f r:=λr r1 r2=>by
  rcases Nat.lt_trichotomy r p with z|z|z
  ·exact Int.le_of_lt (p3 r r1 z)
  ·rw[z];exact Int.le_refl _
  ·exact p4 r z r2
 have qm:∀r,a'<=r->r<=b->f q<=f r:=λr r1 r2=>by
  rcases Nat.lt_trichotomy r q with z|z|z
  ·exact Int.le_of_lt (q3 r r1 z)
  ·rw[z];exact Int.le_refl _
  ·exact q4 r z r2
 split
 ·rename_i hlt
  refine⟨by omega,q2,λr r1 r2=>?_,λr r1 r2=>qm r (by omega) r2⟩
  by_cases z:a'<=r
  ·exact q3 r z r2
  ·have:=pm r r1 (by omega);omega
 ·rename_i hle
  refine⟨p1,by omega,p3,λr r1 r2=>?_⟩
  by_cases z:r<=m
  ·exact p4 r r1 z
  ·have:=qm r (by omega) r2;omega
noncomputable def Zau (f:Nat->Int) (a:Nat):Nat->Nat
 |0=>a
 |c+1=>if f (a+c+1)<f (Zau f a c)then a+c+1 else Zau f a c
theorem Zly (f:Nat->Int) (a:Nat):Zdu f a a a:=⟨Ye _,Ye _,λq h1 h2=>by omega,λq h1 h2=>by omega⟩
theorem Zdv (f:Nat->Int) (a c:Nat):Zdu f a (a+c) (Zau f a c):=by
 induction c with
 |zero=>exact Zly f a
 |succ c ih =>
  rw[Zau]
  exact ih.join (Zly f (a+c+1)) (by omega) (by omega) (by omega)
noncomputable def nth (ns:List Int) (i:Nat):Int:=ns.getD i 0
theorem ZN {ns:List Int}{i:Nat} (h:i<ns.length):atI (ns.map V.int) (i:Int)=some (V.int (nth ns i)):=by
 rw[Zh7 rfl (by simpa using h)]
 simp[nth,Yl,h]
theorem Zqq (f:Nat->Int) (a c:Nat):a<=Zau f a c/\Zau f a c<=a+c:=⟨(Zdv f a c).1,(Zdv f a c).2.1⟩
noncomputable def WI (N:Nat) (Pv:Nat->St->Hp->Prop) (m:Nat) (σ:St) (H:Hp):Prop:=∃i,m=N-i/\i<=N/\Pv i σ H
theorem WI.next {N:Nat}{Pv:Nat->St->Hp->Prop}{i:Nat}:∀σ' H',(i+1<=N/\Pv (i+1) σ' H')->∃m',m'<N-i/\WI N Pv m' σ' H':=fun σ' H' h=>⟨N-(i+1),by omega,i+1,rfl,h.1,h.2⟩
theorem Zqr {c:TT}{tb:TS}{D:Ends}{σ:St}{H:Hp} (N:Nat) (Pv:Nat->St->Hp->Prop) (h0:Pv 0 σ H)
  (hs:∀i σ H,i<=N->Pv i σ H->c σ H λb H1=>if b=true then ∃Nx:St->Hp->Prop,(∀σ' H',Nx σ' H'->∃m',m'<N-i/\WI N Pv m' σ' H')/\tb {D with nx:=Nx,ct:=Nx,bk:=D.nx} σ H1 else D.nx σ H1):Zs3 c tb D σ H:=by
 refine⟨WI N Pv,⟨N,0,rfl,Yt _,h0⟩,?_⟩
 rintro m σ H ⟨i,rfl,hi,p⟩
 exact hs i σ H hi p
theorem Ze.seqT {K:Frag}{H H':Hp}{a:Addr}{xs:List V} (e:Ze H H') (h:SqT K H a xs):SqT K H' a xs:=by
 rcases h with(h|⟨o,h⟩)|h
 ·exact .inl (.inl (e _ _ h))
 ·exact .inl (.inr ⟨o,e _ _ h⟩)
 ·exact .inr h
theorem Ze.q {K:Frag}{H H':Hp}{a:Addr}{xs:List V} (e:Ze H H') (h:SqL K H a xs\/SqT K H a xs):SqL K H' a xs\/SqT K H' a xs:=h.imp e.seq e.seqT
theorem Exc.trans {p:Addr}{H H1 H2:Hp} (a:Exc p H H1) (b:Exc p H1 H2):Exc p H H2:=λc o n z=>b c o n (a c o n z)
theorem Exc.free {p q:Addr}{H H':Hp} (e:Exc p H H') (n:q≠p) (h:H' q=none):H q=none:=by
 cases z:H q with
 |none=>rfl
 |some o=>rw[e q o n z]at h;cases h
theorem Exc.Zms {p q:Addr}{H H':Hp}{o:HO} (e:Exc p H H') (h:H q=none):Exc p H (L2.upd H' q o):=λb u n z=>by
 rw[Zl (ZH z h)];exact e b u n z
theorem Exc.same {p:Addr}{H H1 H2:Hp} (a:Exc p H H1) (s:Ze H1 H2):Exc p H H2:=a.trans s.toExc
noncomputable def Zdw (H0 H:Hp) (l:Addr) (rs:List (List Int)):Prop:=∃as:List Addr,H l=some (.lst (as.map V.ref))/\l∉as/\as.length=rs.length/\(∀i (h1:i<as.length) (h2:i<rs.length),H as[i]=some (.lst (rs[i].map V.int)))/\H0 l=none/\∀a∈as,H0 a=none
theorem Zdw.rows {H0 H:Hp}{l:Addr}{rs:List (List Int)} (R:Zdw H0 H l rs):Rows H l rs:=by
 obtain⟨as,h1,h2,h3,h4,_⟩:=R
 exact⟨as,h1,h2,h3,h4⟩
theorem Zdw.same {H0 H H':Hp}{l:Addr}{rs:List (List Int)} (R:Zdw H0 H l rs) (s:Ze H H'):Zdw H0 H' l rs:=by
 obtain⟨as,e,n,hl,h,z⟩:=R
 exact⟨as,s _ _ e,n,hl,λi h1 h2=>s _ _ (h i h1 h2),z⟩
theorem Zdw.push {H0 H:Hp}{l p:Addr}{rs:List (List Int)}{r:List Int}{as:List Addr} (e:H l=some (.lst (as.map V.ref))) (n:l∉as) (hl:as.length=rs.length) (h:∀i (h1:i<as.length) (h2:i<rs.length),H as[i]=some (.lst (rs[i].map V.int)))
  (z1:H0 l=none) (z2:∀a∈as,H0 a=none) (hp:H p=some (.lst (r.map V.int))) (np:p≠l) (zp:H0 p=none):Zdw H0 (upd H l (.lst (as.map V.ref++[.ref p]))) l (rs++[r]):=by
 obtain⟨bs,q1,q2,q3,q4⟩:=Rows.push e n hl h hp np
 rw[Zc]at q1
 have e2:bs=as++[p]:=by
  have q1':(as++[p]).map V.ref=bs.map V.ref:=by
   have:=HO.lst.inj (YE q1)
   simpa using this
  have inj:∀(u v:List Addr),u.map V.ref=v.map V.ref->u=v:=by
   intro u
   induction u with
   |nil=>intro v hv;cases v with|nil=>rfl|cons _ _=>cases hv
   |cons x u ih =>
    intro v hv
    cases v with
    |nil=>cases hv
    |cons y v =>
     rw[YM,YM]at hv
     injection hv with h1 h2
     injection h1 with h1
     rw[h1,ih v h2]
  exact(inj _ _ q1').symm
 subst e2
 refine⟨as++[p],Zc.trans (by simp),q2,q3,q4,z1,λa ha=>?_⟩
 rcases Yq.mp ha with ha|ha
 ·exact z2 a ha
 ·have:a=p:=by simpa using ha
  rw[this];exact zp
theorem Zdw.nil {H:Hp}{p:Addr} (hp:H p=none):Zdw H (upd H p (.lst [])) p []:=⟨[],Zc,by simp,rfl,λi h1 h2=>absurd h1 (by simp),hp,λa ha=>nomatch ha⟩
noncomputable def CA (n:Nat) (Pv:Nat->List V->Hp->Prop) (i m:Nat) (acc:List V) (H:Hp):Prop:=m=n-i/\i<=n/\acc.length<=i/\Pv i acc H
theorem CA.take {n:Nat}{Pv:Nat->List V->Hp->Prop}{i:Nat}{acc:List V}{v:V}{H:Hp} (hi:i<n) (hl:acc.length<=i) (h:Pv (i+1) (acc++[v]) H):∃m',m'<n-i/\CA n Pv (i+1) m' (acc++[v]) H:=⟨n-(i+1),by omega,rfl,hi,by simp;omega,h⟩
theorem ZjF {J:It}{n:Nat}{H1:Hp}{g:TG}{tt:TT}{te:TE}{σ0:St}{Q:VK} (Pv:Nat->List V->Hp->Prop) (hn:n<sizeLine) (h0:Pv 0 [] H1) (hgo:∀i acc H,Pv i acc H->i<n->J.go i H) (hstop:∀acc H,Pv n acc H->J.stop n H)
  (hb:∀i x acc H H',i<n->acc.length<=i->Pv i acc H->J.yld i H x H'->g x σ0 H' fun σ2 H2=>tt σ2 H2 λb H3=>if b=true then te σ2 H3 λv H4=>∃m',m'<n-i/\CA n Pv (i+1) m' (acc++[v]) H4 else ∃m',m'<n-i/\CA n Pv (i+1) m' acc H3)
  (hk:∀l acc H',Pv n acc H'->acc.length<=n->H' l=none->Q (.ref l) (upd H' l (.lst acc))):Znu J g tt te σ0 Q H1:=by
 refine⟨CA n Pv,⟨n,rfl,Yt _,Ye _,h0⟩,?_⟩
 rintro i m acc H ⟨rfl,hi,hl,p⟩
 by_cases h:i<n
 ·exact .inr ⟨hgo i acc H p h,by omega,λx H' y=>hb i x acc H H' h hl p y⟩
 ·have e:i=n:=by omega
  subst e
  exact .inl ⟨hstop acc H p,by omega,λq hq=>hk q acc H p hl hq⟩
section
variable {X:Cx}
noncomputable def Zmt:V->List V->Hp->VK->Prop:=λx vs H Q=>∃l xs i y,x=.ref l/\vs=[.int i,y]/\H l=some (.lst xs)/\0<=i/\i<2 ^ 62/\xs.length<sizeLine/\Q .non (upd H l (.lst (xs.take i.toNat++y::xs.drop i.toNat)))
theorem Vals.Zta:∀{xs:List V}{us:List Value} (k:Nat),Vals xs us->Vals (xs.take k) (us.take k)
 |_,_,0,_=>by simp;exact .nil
 |_,_,_+1,.nil=>.nil
 |_,_,k+1,.cons r h=>.cons r (Vals.Zta k h)
theorem Vals.dropN:∀{xs:List V}{us:List Value} (k:Nat),Vals xs us->Vals (xs.drop k) (us.drop k)
 |_,_,0,h=>by simpa using h
 |_,_,_+1,.nil=>.nil
 |_,_,k+1,.cons _ h=>Vals.dropN k h
theorem Zq4:MtM X "list.insert" Zmt:=by
 intro pins s σ H x vs v us Q I rx rv h
 obtain⟨l,xs,i,y,rfl,rfl,hH,h1,h2,hz,q⟩:=h
 cases rx
 obtain⟨u,u2,rfl,ru,ru2⟩:=rv.two
 obtain⟨t,rfl⟩:=ru
 obtain⟨z,its,n,r,hl,e⟩:=I.lstM hH
 have hf:¬ (!Builtin.List.listFitsIndex i)=true:=by
  unfold Builtin.List.listFitsIndex
  have a1:decide (-(2 ^ 63:Int)<=i)=true:=Yy (by omega)
  have a2:decide (i<(2 ^ 63:Int))=true:=Yy (by omega)
  rw[a1,a2];decide
 refine call_meets F.slot_list_insert ⟨_,e,rfl⟩ F.entry_list_insert (F.args_list_insert_3 _ _ _) (AutoListH.list_insert_list_int_val_1 l its.toArray n i t u2 hf (by rw[Yu];omega)) ⟨e,?_⟩
 refine⟨.non,_,I.lset (its':=its.take i.toNat++u2::its.drop i.toNat) (ys:=xs.take i.toNat++y::xs.drop i.toNat) hH e ?_ ((r.Zta _).append (.cons ru2 (r.dropN _))) ?_,rfl,q⟩
 ·show((its.toArray.extract 0 (if i<0 then (i+((its.toArray.size:Nat):Int)).toNat else min i.toNat its.toArray.size)).push u2++its.toArray.extract (if i<0 then (i+((its.toArray.size:Nat):Int)).toNat else min i.toNat its.toArray.size))=_
  rw[Yc (by omega)]
  have e1:its.take (min i.toNat its.length)=its.take i.toNat:=by
   by_cases hh:i.toNat<=its.length
   ·rw[Nat.min_eq_left hh]
   ·rw[Nat.min_eq_right (by omega),List.take_of_length_le (by omega),List.take_of_length_le (by omega)]
  have e2:its.drop (min i.toNat its.length)=its.drop i.toNat:=by
   by_cases hh:i.toNat<=its.length
   ·rw[Nat.min_eq_left hh]
   ·rw[Nat.min_eq_right (by omega),List.drop_of_length_le (by omega),List.drop_of_length_le (by omega)]
  apply Array.ext'
  simp[e1,e2]
  exact List.take_of_length_le (by rw[Y5];omega)
 ·rw[YN,YQ,YX,Y5];omega
end
noncomputable def Ztb:List V->Hp->VK->Prop:=λxs H Q=>∃k,xs=[.bl k]/\Q (.int (if k=true then 1 else 0)) H
theorem Zh9 {X:Cx}:Zbc X (.type "int") Ztb:=λpins s σ H xs us Q I r h=>ZqS pins s σ H xs us Q I r (.inr h)
theorem ZvG (xs:List V) (a b:Nat) (h1:a<=b) (h2:b<=xs.length):Zfr xs (some (a:Int)) (some (b:Int))=(xs.drop a).take (b-a):=by
 unfold Zfr HT.sIx
 have e1:min a xs.length=a:=Nat.min_eq_left (by omega)
 have e2:min b xs.length=b:=Nat.min_eq_left h2
 simp[e1,e2]
 rw[Yc (by omega),Yc (by omega)]
noncomputable def Zab (H:Hp) (p:Addr):Prop:=∃x:Int,H p=some (.lst [.int x])/\0<=x
theorem Zab.ne {H:Hp}{p q:Addr} (P:Zab H p) (h:H q=none):q≠p:=by
 obtain⟨x,e,_⟩:=P
 exact(ZH e h).symm
theorem Zab.same {H H':Hp}{p:Addr} (P:Zab H p) (s:Ze H H'):Zab H' p:=by
 obtain⟨x,e,r⟩:=P
 exact⟨x,s _ _ e,r⟩
theorem Zab.upd {H:Hp}{p q:Addr}{o:HO} (P:Zab H p) (h:H q=none):Zab (L2.upd H q o) p:=P.same ((Ze.refl H).upd h)
theorem Zab.Zms {H:Hp}{p q:Addr}{o:HO} (P:Zab H p) (h:q≠p):Zab (L2.upd H q o) p:=by
 obtain⟨x,e,r⟩:=P
 exact⟨x,by rw[Zl h.symm];exact e,r⟩
theorem cp60:Zma 10 60:=by unfold Zma;decide
theorem qm1:IntMulOk (10 ^ Int.toNat 60) (10 ^ Int.toNat 60):=Zmr (by decide +kernel) (by decide +kernel)
theorem qm2:IntMulOk (10 ^ Int.toNat 60*10 ^ Int.toNat 60) (10 ^ Int.toNat 60):=Zmr (by decide +kernel) (by decide +kernel)
theorem qm3:IntMulOk (10 ^ Int.toNat 60*10 ^ Int.toNat 60*10 ^ Int.toNat 60) (10 ^ Int.toNat 60):=Zmr (by decide +kernel) (by decide +kernel)
theorem qm4:(0:Int)<10 ^ Int.toNat 60*10 ^ Int.toNat 60*10 ^ Int.toNat 60*10 ^ Int.toNat 60:=by decide +kernel
end L2
namespace L2
noncomputable def Zbq (f:Nat->Int) (p q:Nat):Prop:=q<p/\f q<=f p/\∀r,q<r->r<p->f p<f r
noncomputable def Zba (f:Nat->Int) (n p r:Nat):Prop:=p<r/\r<n/\f r<f p/\∀s,p<s->s<r->f p<=f s
noncomputable def Zfw (f:Nat->Int) (p:Nat):Prop:=∀q,q<p->f p<f q
noncomputable def ZdN (f:Nat->Int) (n p:Nat):Prop:=∀r,p<r->r<n->f p<=f r
noncomputable def Z2 (f:Nat->Int) (n p:Nat) (e:Int):Prop :=
 (Zfw f p/\ZdN f n p/\e=-1)\/(∃q,Zbq f p q/\ZdN f n p/\e=q)\/(∃r,Zfw f p/\Zba f n p r/\e=r) \/
 ∃q r,Zbq f p q/\Zba f n p r/\e=if f q<=f r then (r:Int)else q
theorem Zny {P:Nat->Prop} [DecidablePred P] (i:Nat):∀d r,r+d=i->P r->∃t,r<=t/\t<=i/\P t/\∀s,t<s->s<=i->¬ P s:=by
 intro d
 induction d with
 |zero=>intro r e h;exact⟨r,Ye _,by omega,h,λs h1 h2=>by omega⟩
 |succ d ih =>
  intro r e h
  by_cases hx:∃t,r<t/\t<=i/\P t
  ·obtain⟨t,h1,h2,h3⟩:=hx
   -- step to r+1 by cases
   by_cases h4:P (r+1)
   ·obtain⟨u,u1,u2,u3,u4⟩:=ih (r+1) (by omega) h4
    exact⟨u,by omega,u2,u3,u4⟩
   ·-- go on from the next one
    have gen:∀k t,t+k=i->r<t->P t->∃u,r<=u/\u<=i/\P u/\∀s,u<s->s<=i->¬ P s:=by
     intro k
     induction k with
     |zero=>intro t e h1 h3;exact⟨t,by omega,by omega,h3,λs h1 h2=>by omega⟩
     |succ k ihk =>
      intro t e h1 h3
      by_cases hy:∃s,t<s/\s<=i/\P s
      ·-- the last one of the rest
       have key:∀m,m<=i->(∃s,t<s/\s<=m/\P s)->∃u,t<u/\u<=m/\P u/\∀s,u<s->s<=m->¬ P s:=by
        intro m
        induction m with
        |zero=>rintro _ ⟨s,h5,h6,_⟩;omega
        |succ m ihm =>
         rintro hm ⟨s,h5,h6,h7⟩
         by_cases hp:P (m+1)
         ·exact⟨m+1,by omega,Ye _,hp,λs h1 h2=>by omega⟩
         ·have hs:s<=m:=by
           rcases Nat.lt_or_ge m s with z|z
           ·have:s=m+1:=by omega
            rw[this]at h7;exact absurd h7 hp
           ·exact z
          obtain⟨u,u1,u2,u3,u4⟩:=ihm (by omega) ⟨s,h5,hs,h7⟩
          refine⟨u,u1,by omega,u3,λs' h1 h2=>?_⟩
          by_cases e:s'=m+1
          ·rw[e];exact hp
          ·exact u4 s' h1 (by omega)
       obtain⟨u,u1,u2,u3,u4⟩:=key i (Ye _) hy
       exact⟨u,by omega,u2,u3,u4⟩
      ·exact⟨t,by omega,by omega,h3,λs h1 h2 h5=>hy ⟨s,h1,h2,h5⟩⟩
    exact gen (i-t) t (by omega) h1 h3
  ·exact⟨r,Ye _,by omega,h,λs h1 h2 h3=>hx ⟨s,h1,h2,h3⟩⟩
theorem ZoK {P:Nat->Prop} [DecidablePred P] {n r:Nat} (hr:r<n) (h:P r):∃t,r<=t/\t<n/\P t/\∀s,t<s->s<n->¬ P s:=by
 obtain⟨t,h1,h2,h3,h4⟩:=Zny (P:=P) (n-1) (n-1-r) r (by omega) h
 exact⟨t,h1,by omega,h3,λs a b=>h4 s a (by omega)⟩
noncomputable def Ztc (f:Nat->Int) (i:Nat) (sp:List Nat):Prop:=sp.Pairwise (· < ·)/\∀q,q∈sp↔q<i/\∀r,q<r->r<i->f q<=f r
theorem Zqs (f:Nat->Int) (p:Nat):Zfw f p\/∃q,Zbq f p q:=by
 by_cases h:∃q,q<p/\f q<=f p
 ·obtain⟨q,h1,h2⟩:=h
  obtain⟨t,_,t2,t3,t4⟩:=ZoK (P:=λq=>f q<=f p) h1 h2
  exact .inr ⟨t,t2,t3,λr a b=>by have:=t4 r a b;omega⟩
 ·exact .inl λq hq=>by
   have:¬ (f q<=f p):=λz=>h ⟨q,hq,z⟩
   omega
theorem Zq5 {f:Nat->Int}{i p q:Nat} (hp:p<i) (ho:∀r,p<r->r<i->f p<=f r) (h:Zbq f p q):(∀r,q<r->r<i->f q<=f r)/\∀s,q<s->s<p->¬ ∀r,s<r->r<i->f s<=f r:=by
 obtain⟨h1,h2,h3⟩:=h
 refine⟨λr a b=>?_,λs a b z=>?_⟩
 ·rcases Nat.lt_trichotomy r p with c|c|c
  ·have:=h3 r a c;omega
  ·rw[c];exact h2
  ·have:=ho r c b;omega
 ·have:=z p b hp
  have:=h3 s a b
  omega
theorem ZoL {f:Nat->Int}{i:Nat}{A B:List Nat} (hs:Ztc f i (A++B)) (hA:∀q∈A,f q<=f i) (hB:∀q∈B,f i<f q) :
  Ztc f (i+1) (A++[i])/\Z2 f (i+1) i (match A.getLast? with|some q=>(q:Int)|none=>-1)/\∀p e,p<i->Z2 f i p e->Z2 f (i+1) p (if B.head?=some p then (i:Int)else e):=by
 obtain⟨hso,hm⟩:=hs
 have hAB:=List.pairwise_append.mp hso
 have noNx:ZdN f (i+1) i:=λr a b=>by omega
 refine⟨⟨?_,λq=>?_⟩,?_,λp e hp he=>?_⟩
 ·refine List.pairwise_append.mpr ⟨hAB.1,List.pairwise_singleton _ _,λa ha b hb=>?_⟩
  have:b=i:=by simpa using hb
  rw[this]
  exact((hm a).mp (Yx _ ha)).1
 ·rw[Yq,Y7]
  constructor
  ·rintro(h|h)
   ·obtain⟨h1,h2⟩:=(hm q).mp (Yx _ h)
    refine⟨by omega,λr a b=>?_⟩
    by_cases e:r=i
    ·rw[e];exact hA q h
    ·exact h2 r a (by omega)
   ·subst h;exact⟨by omega,λr a b=>by omega⟩
  ·rintro⟨h1,h2⟩
   by_cases e:q=i
   ·exact .inr e
   ·have hq:q∈A++B:=(hm q).mpr ⟨by omega,λr a b=>h2 r a (by omega)⟩
    rcases Yq.mp hq with h|h
    ·exact .inl h
    ·have:=hB q h
     have:=h2 i (by omega) (by omega)
     omega
 ·-- the elder of i
  rcases Zqs f i with h|⟨q,h⟩
  ·have hA0:A=[]:=by
    cases A with
    |nil=>rfl
    |cons a r =>
     have h1:=((hm a).mp (by simp)).1
     have:=hA a (by simp)
     have:=h a h1
     omega
   rw[hA0]
   exact .inl ⟨h,noNx,rfl⟩
  ·have ho:∀r,q<r->r<i->f q<=f r:=λr a b=>by have:=h.2.2 r a b;have:=h.2.1;omega
   have hqA:q∈A:=by
    rcases Yq.mp ((hm q).mpr ⟨h.1,ho⟩)with z|z
    ·exact z
    ·have:=hB q z;have:=h.2.1;omega
   have hlast:A.getLast?=some q:=by
    have hne:A≠[]:=λz=>by rw[z]at hqA;cases hqA
    rw[List.getLast?_eq_some_getLast hne]
    congr 1
    have hl:A.getLast hne∈A:=List.getLast_mem hne
    -- q<=last,and last is not past q
    by_cases e:A.getLast hne=q
    ·exact e
    ·exfalso
     have hlt:q<A.getLast hne:=by
      have hd:=List.dropLast_concat_getLast hne
      have hq2:q∈A.dropLast:=by
       rw[<-hd]at hqA
       rcases Yq.mp hqA with z|z
       ·exact z
       ·exact absurd (by simpa using z) (Ne.symm e)
      have hp2:=hAB.1
      rw[<-hd]at hp2
      exact(List.pairwise_append.mp hp2).2.2 q hq2 _ (by simp)
     have h1:=((hm (A.getLast hne)).mp (Yx _ hl)).1
     have:=h.2.2 _ hlt h1
     have:=hA _ hl
     omega
   rw[hlast]
   exact .inr (.inl ⟨q,h,noNx,rfl⟩)
 ·-- the elder of an earlier place
  have nxt:∀r,Zba f i p r->Zba f (i+1) p r:=λr ⟨a,b,c,d⟩=>⟨a,by omega,c,d⟩
  by_cases hop:ZdN f i p
  ·have hmem:p∈A++B:=(hm p).mpr ⟨hp,hop⟩
   by_cases hlt:f i<f p
   ·have hnx:Zba f (i+1) p i:=⟨hp,by omega,hlt,λs a b=>hop s a b⟩
    have hpB:p∈B:=by
     rcases Yq.mp hmem with z|z
     ·have:=hA p z;omega
     ·exact z
    obtain⟨b0,Br,rfl⟩:∃b0 Br,B=b0::Br:=by
     cases B with
     |nil=>cases hpB
     |cons b0 Br=>exact⟨b0,Br,rfl⟩
    have hhead:(b0::Br).head?=some b0:=rfl
    rw[hhead]
    rcases Zqs f p with hn|⟨q,hq⟩
    ·-- nothing ahead: p is the first of all
     have e0:b0=p:=by
      by_cases z:b0=p
      ·exact z
      ·exfalso
       have hpr:p∈Br:=by
        rcases Yi.mp hpB with y|y
        ·exact absurd y.symm z
        ·exact y
       have hlt2:b0<p:=(Y6.mp hAB.2.1).1 p hpr
       have:=((hm b0).mp (by simp)).2 p hlt2 hp
       have:=hn b0 hlt2
       omega
     rw[Yd (by rw[e0])]
     exact .inr (.inr (.inl ⟨i,hn,hnx,rfl⟩))
    ·obtain⟨hq1,hq2⟩:=Zq5 hp hop hq
     have hqm:q∈A++b0::Br:=(hm q).mpr ⟨Nat.lt_trans hq.1 hp,hq1⟩
     by_cases hqi:f q<=f i
     ·-- q is kept: p is the first of B
      have e0:b0=p:=by
       by_cases z:b0=p
       ·exact z
       ·exfalso
        have hpr:p∈Br:=by
         rcases Yi.mp hpB with y|y
         ·exact absurd y.symm z
         ·exact y
        have hlt2:b0<p:=(Y6.mp hAB.2.1).1 p hpr
        have hb0:=(hm b0).mp (by simp)
        have hqA:q∈A:=by
         rcases Yq.mp hqm with y|y
         ·exact y
         ·have:=hB q y;omega
        have hqb:q<b0:=hAB.2.2 q hqA b0 (by simp)
        exact hq2 b0 hqb hlt2 hb0.2
      rw[Yd (by rw[e0])]
      refine .inr (.inr (.inr ⟨q,i,hq,hnx,?_⟩))
      rw[Yd hqi]
     ·-- q goes,too: the elder stays
      have hqB:q∈b0::Br:=by
       rcases Yq.mp hqm with y|y
       ·exact absurd (hA q y) hqi
       ·exact y
      have hne:b0≠p:=by
       intro z
       subst z
       rcases Yi.mp hqB with y|y
       ·have:=hq.1;omega
       ·have:=(Y6.mp hAB.2.1).1 q y
        have:=hq.1;omega
      rw[Yc (by intro z;exact hne (YE z))]
      have ee:e=q:=by
       rcases he with⟨h1,_,_⟩|⟨q',h1,_,h3⟩|⟨r,h1,_,_⟩|⟨q',r,_,h2,_⟩
       ·have:=h1 q hq.1;have:=hq.2.1;omega
       ·have:q'=q:=by
         rcases Nat.lt_trichotomy q' q with y|y|y
         ·have:=h1.2.2 q y hq.1;have:=hq.2.1;omega
         ·exact y
         ·have:=hq.2.2 q' y h1.1;have:=h1.2.1;omega
        rw[h3,this]
       ·have:=h1 q hq.1;have:=hq.2.1;omega
       ·have:=hop r h2.1 h2.2.1;have:=h2.2.2.1;omega
      refine .inr (.inr (.inr ⟨q,i,hq,hnx,?_⟩))
      rw[Yc hqi,ee]
   ·-- still open: not of B
    have hnn:ZdN f (i+1) p:=λr a b=>by
     by_cases z:r=i
     ·rw[z];omega
     ·exact hop r a (by omega)
    have hne:B.head?≠some p:=λz=>by
     have:p∈B:=List.mem_of_head? z
     have:=hB p this
     omega
    rw[Yc hne]
    rcases he with⟨h1,_,h3⟩|⟨q,h1,_,h3⟩|⟨r,_,h2,_⟩|⟨q,r,_,h2,_⟩
    ·exact .inl ⟨h1,hnn,h3⟩
    ·exact .inr (.inl ⟨q,h1,hnn,h3⟩)
    ·have:=hop r h2.1 h2.2.1;have:=h2.2.2.1;omega
    ·have:=hop r h2.1 h2.2.1;have:=h2.2.2.1;omega
  ·-- shut already
   have hne:B.head?≠some p:=λz=>hop ((hm p).mp (Yk _ (List.mem_of_head? z))).2
   rw[Yc hne]
   rcases he with⟨_,h2,_⟩|⟨q,_,h2,_⟩|⟨r,h1,h2,h3⟩|⟨q,r,h1,h2,h3⟩
   ·exact absurd h2 hop
   ·exact absurd h2 hop
   ·exact .inr (.inr (.inl ⟨r,h1,nxt r h2,h3⟩))
   ·exact .inr (.inr (.inr ⟨q,r,h1,nxt r h2,h3⟩))
end L2
namespace L2
open PySem PySem.Spec PyProof.Rows PySem.W
theorem ZjG {α β:Type}{f g:α->Option β}:∀{l:List α},(∀x∈l,f x=g x)->l.filterMap f=l.filterMap g
 |[],_=>rfl
 |x::r,h=>by rw[List.filterMap_cons,List.filterMap_cons,h x (Yr ..),ZjG λy hy=>h y (Yw _ hy)]
theorem Zq6 (its:List Value) (k:Nat) (hk:k<=its.length) (start:Nat):(its.zipIdx start).filterMap (λxk=>if (decide (((start+k:Nat):Int)<=(xk.2:Int))&&decide ((xk.2:Int)<((start+its.length:Nat):Int))&&(((xk.2:Int)-((start+k:Nat):Int)) % 1==0))=true then none else some xk.1)=its.take k:=by
 induction its generalizing k start with
 |nil=>simp
 |cons x r ih =>
  rw[List.zipIdx_cons,List.filterMap_cons]
  cases k with
  |zero =>
   have h1:(decide (((start+0:Nat):Int)<=(start:Int))&&decide ((start:Int)<((start+(x::r).length:Nat):Int))&&(((start:Int)-((start+0:Nat):Int)) % 1==0))=true:=by
    simp;omega
   simp only[h1,if_true]
   have:=ih 0 (by omega) (start+1)
   rw[List.take_zero]at this⊢
   rw[<-this]
   refine ZjG λxk hxk=>?_
   have hm:=List.mem_zipIdx hxk
   have e1:(decide (((start+0:Nat):Int)<=(xk.2:Int)))=(decide (((start+1+0:Nat):Int)<=(xk.2:Int))):=by
    rw[decide_eq_decide];omega
   have e2:((start+(x::r).length:Nat):Int)=((start+1+r.length:Nat):Int):=by simp;omega
   have e3:(((xk.2:Int)-((start+0:Nat):Int)) % 1==0)=(((xk.2:Int)-((start+1+0:Nat):Int)) % 1==0):=by simp[Int.emod_one]
   rw[e1,e2,e3]
  |succ k =>
   have h1:(decide (((start+(k+1):Nat):Int)<=(start:Int))&&decide ((start:Int)<((start+(x::r).length:Nat):Int))&&(((start:Int)-((start+(k+1):Nat):Int)) % 1==0))=false:=by
    have:decide (((start+(k+1):Nat):Int)<=(start:Int))=false:=YK (by omega)
    rw[this];rfl
   simp only[h1,Bool.false_eq_true,if_false]
   rw[List.take_succ_cons]
   congr 1
   have:=ih k (by simpa using hk) (start+1)
   rw[<-this]
   refine ZjG λxk hxk=>?_
   have e1:((start+(k+1):Nat):Int)=((start+1+k:Nat):Int):=by omega
   have e2:((start+(x::r).length:Nat):Int)=((start+1+r.length:Nat):Int):=by simp;omega
   rw[e1,e2]
section
variable {X:Cx}{e st:Expr}{te ts:TE}{pos pos1 p2:Pos}
noncomputable def Ztd (te ts:TE):TS:=λD σ H=>te σ H λx H1=>ts σ H1 λz H2=>∃(l:Addr) (xs:List V) (k:Nat),x=.ref l/\z=.int k/\H2 l=some (.lst xs)/\k<=xs.length/\D.nx σ (upd H2 l (.lst (xs.take k)))
theorem ZoM (he:PE X e te) (hs:PE X st ts):PS X (.Delete [.Subscript e (.Slice (some st) none none p2) pos1] pos) (Ztd te ts):=by
 intro pins s σ H D I h
 refine wpAny_Delete (wpAny_deleteEach_cons ?_)
 show wpAny _ _ (eval e X.env >>= λov=>holding [ov] (eval (.Slice (some st) none none p2) X.env) >>= λiv=>(do standAt pos1;holding [ov,iv] (delItem ov iv);release [ov,iv] [])) _ _ _
 refine Ya (thn (he pins s σ H _ I h) λv s1 ⟨x,H1,I1,r1,q1⟩=>?_)
 refine Ya (wpAny_holding ?_)
 refine wpAny_Slice ?_
 rw[evalPart_some]
 refine thn (hs pins s1 σ H1 _ I1 q1) λvs s2 ⟨z,H2,I2,r2,l,xs,k,e1,e2,hx,hk,q⟩=>?_
 subst e1 e2
 obtain⟨tk,rfl⟩:=r2
 cases r1
 rw[evalPart_none]
 refine Yb ?_
 refine Yb ?_
 have I4:Inv X pins σ H2 {s2 with heap:=s2.heap.push {cls:=.type "slice",data:=.fields #[.int k tk,.none,.none]}}:=I2.kept (t':=s2.toks) λb ob q=>Yh _ q
 have hsl:({s2 with heap:=s2.heap.push {cls:=.type "slice",data:=.fields #[.int k tk,.none,.none]}}:Shared).heap.get? s2.heap.objs.size=some {cls:=.type "slice",data:=.fields #[.int k tk,.none,.none]}:=Ys _ rfl
 obtain⟨z,its,n,r,hlen,hob⟩:=I4.lstM hx
 generalize ({s2 with heap:=s2.heap.push {cls:=.type "slice",data:=.fields #[.int k tk,.none,.none]}}:Shared)=s4 at I4 hsl hob⊢
 have hT:s4.TypeIs (.ref l) "list":=⟨_,hob,rfl⟩
 have hTs:s4.TypeIs (.ref s2.heap.objs.size) "slice":=⟨_,hsl,rfl⟩
 refine Ya (wpAny_standAt (Ya (wpAny_holding ?_)))
 refine wpAny_delItem_slot hT (by decide) F.slot_list_delitem (wpAny_call_entry F.slot_list_delitem hT F.entry_list_delitem ?_ (F.args_list_delitem_2 _ _))
 show wpAny _ _ (Builtin.List.listSubscript? (.ref s2.heap.objs.size) >>= _) _ _ s4
 refine Ya ?_;unfold Builtin.List.listSubscript?;refine Ya (wpAny_specialOf hTs slice_no_index ?_)
 simp only[Option.isNone_none,if_true];refine Yb ?_
 show wpAny _ _ (typeOf (.ref s2.heap.objs.size) >>= _) _ _ s4
 refine Ya (wpAny_typeOf hTs ?_);rw[Yc (by decide),listSliceParts_eq]
 refine Ya (Ya (wpAny_field hsl rfl (x:=.none) rfl (Ya (wpAny_listPart (k:=none) .none ?_))));rw[Yc (show ¬ ((rawPart none==rawInt 0)=true)from YL)]
 refine Ya (wpAny_field hsl rfl (x:=.int k tk) rfl (Ya (wpAny_listPart (.int (k:Int) tk) ?_)))
 refine Ya (wpAny_field hsl rfl (x:=.none) rfl (Ya (wpAny_listPart (k:=none) .none (Yb ?_))))
 refine Ya (m:=Builtin.List.listItems (.ref l)) ?_;unfold Builtin.List.listItems
 refine Ya (wpAny_seqItems hob rfl (Yb ?_));refine Ya (wpAny_of_eq (sliceIndices_raw (some (k:Int)) none none its.toArray.size (by simp)) (Ya (wpAny_rule ?_)))
 have hb:sliceBounds (some (k:Int)) none none its.toArray.size=((k:Int),((its.length:Nat):Int),1):=by
  unfold sliceBounds
  simp
  omega
 rw[hb]
 have hf:∀f:Array Value->Array Value,(∀ys:Array Value,f ys=(ys.toList.zipIdx.filterMap λxk=>if (decide ((k:Int)<=(xk.2:Int))&&decide ((xk.2:Int)<((its.length:Nat):Int))&&(((xk.2:Int)-(k:Int)) % 1==0))=true then none else some xk.1).toArray)->f its.toArray=(its.take k).toArray:=λf h=>by
  rw[h]
  congr 1
  have:=Zq6 its k (by omega) 0
  simpa using this
 refine Ya (m:=updateSeq l _) ?_
 refine wpAny_updateSeq (n:=n) hob rfl ?_ (by rw[Yu];omega) ?_
 ·refine Ya (wpAny_letGo (Yb ⟨_,rfl,?_⟩))
  refine wpAny_release (wpAny_deleteEach_nil ⟨σ,_,I4.lset hx hob (hf _ λys=>rfl) (r.Zta k) ?_,q⟩)
  rw[YX];omega
 ·rw[Yu]
  refine Ym (List.length_filterMap_le _ _) ?_
  rw[List.length_zipIdx]
  show its.length<=sizeLine+1
  omega
end
theorem Zbq.unique {f:Nat->Int}{p q q':Nat} (h:Zbq f p q) (k:Zbq f p q'):q=q':=by
 rcases Nat.lt_trichotomy q q' with z|z|z
 ·have:=h.2.2 q' z k.1;have:=k.2.1;omega
 ·exact z
 ·have:=k.2.2 q z h.1;have:=h.2.1;omega
theorem Zba.unique {f:Nat->Int}{n p r r':Nat} (h:Zba f n p r) (k:Zba f n p r'):r=r':=by
 rcases Nat.lt_trichotomy r r' with z|z|z
 ·have:=k.2.2.2 r h.1 z;have:=h.2.2.1;omega
 ·exact z
 ·have:=h.2.2.2 r' k.1 z;have:=k.2.2.1;omega
theorem Zbq.no {f:Nat->Int}{p q:Nat} (h:Zbq f p q) (k:Zfw f p):False:=by have:=k q h.1;have:=h.2.1;omega
theorem Zba.no {f:Nat->Int}{n p r:Nat} (h:Zba f n p r) (k:ZdN f n p):False:=by have:=k r h.1 h.2.1;have:=h.2.2.1;omega
theorem Z2.unique {f:Nat->Int}{n p:Nat}{e e':Int} (h:Z2 f n p e) (k:Z2 f n p e'):e=e':=by
 rcases h with⟨h1,h2,h3⟩|⟨q,h1,h2,h3⟩|⟨r,h1,h2,h3⟩|⟨q,r,h1,h2,h3⟩ <;>
 rcases k with⟨k1,k2,k3⟩|⟨q',k1,k2,k3⟩|⟨r',k1,k2,k3⟩|⟨q',r',k1,k2,k3⟩
 ·rw[h3,k3]
 ·exact(k1.no h1).elim
 ·exact(k2.no h2).elim
 ·exact(k1.no h1).elim
 ·exact(h1.no k1).elim
 ·rw[h3,k3,h1.unique k1]
 ·exact(h1.no k1).elim
 ·exact(k2.no h2).elim
 ·exact(h2.no k2).elim
 ·exact(k1.no h1).elim
 ·rw[h3,k3,h2.unique k2]
 ·exact(k1.no h1).elim
 ·exact(h1.no k1).elim
 ·exact(h2.no k2).elim
 ·exact(h1.no k1).elim
 ·rw[h3,k3,h1.unique k1,h2.unique k2]
noncomputable def Zu (ns:List Int) (es:List Int):Prop:=es.length=ns.length/\∀p,p<ns.length->Z2 (nth ns) ns.length p (es.getD p 0)
theorem Zu.unique {ns es es':List Int} (h:Zu ns es) (k:Zu ns es'):es=es':=by
 refine List.ext_getElem (by rw[h.1,k.1]) λj h1 h2=>?_
 have hj:j<ns.length:=by rw[<-h.1];exact h1
 have:=(h.2 j hj).unique (k.2 j hj)
 simpa[Yl,h1,h2]using this
end L2
namespace L2
noncomputable def Over (f:Nat->Int) (o p:Nat):Prop:=(o<p/\∀r,o<r->r<=p->f o<=f r)\/(p<o/\∀r,p<=r->r<o->f o<f r)
theorem Over.irrefl {f:Nat->Int}{p:Nat}:¬ Over f p p:=by rintro(⟨h,_⟩|⟨h,_⟩)<;>omega
theorem Over.ne {f:Nat->Int}{o p:Nat} (h:Over f o p):o≠p:=λz=>Over.irrefl (z▸h)
theorem Over.trans {f:Nat->Int}{o e p:Nat} (h:Over f o e) (k:Over f e p):Over f o p:=by
 rcases h with⟨h1,h2⟩|⟨h1,h2⟩<;>rcases k with⟨k1,k2⟩|⟨k1,k2⟩
 ·refine .inl ⟨by omega,λr r1 r2=>?_⟩
  by_cases z:r<=e
  ·exact h2 r r1 z
  ·have:=k2 r (by omega) r2;have:=h2 e h1 (Ye _);omega
 ·have he:=h2 e h1 (Ye _)
  rcases Nat.lt_trichotomy o p with z|z|z
  ·exact .inl ⟨z,λr r1 r2=>h2 r r1 (by omega)⟩
  ·have:=k2 p (Ye _) k1;subst z;omega
  ·exact .inr ⟨z,λr r1 r2=>by have:=k2 r r1 (by omega);omega⟩
 ·have he:=h2 e (Ye _) h1
  rcases Nat.lt_trichotomy o p with z|z|z
  ·exact .inl ⟨z,λr r1 r2=>by have:=k2 r (by omega) r2;omega⟩
  ·have:=k2 p k1 (Ye _);subst z;omega
  ·exact .inr ⟨z,λr r1 r2=>h2 r (by omega) r2⟩
 ·refine .inr ⟨by omega,λr r1 r2=>?_⟩
  by_cases z:r<e
  ·have:=k2 r r1 z;have:=h2 e (Ye _) h1;omega
  ·exact h2 r (by omega) r2
theorem Zc6 {f:Nat->Int}{n p:Nat}{e:Int} (hp:p<n) (h:Z2 f n p e):e=-1\/∃q:Nat,e=q/\q<n/\Over f q p:=by
 have pv:∀q,Zbq f p q->Over f q p:=λq h=>.inl ⟨h.1,λr r1 r2=>by
  by_cases z:r=p
  ·rw[z];exact h.2.1
  ·have:=h.2.2 r r1 (by omega);have:=h.2.1;omega⟩
 have nx:∀q,Zba f n p q->Over f q p:=λq h=>.inr ⟨h.1,λr r1 r2=>by
  by_cases z:r=p
  ·rw[z];exact h.2.2.1
  ·have:=h.2.2.2 r (by omega) r2;have:=h.2.2.1;omega⟩
 rcases h with⟨_,_,h⟩|⟨q,h1,_,h⟩|⟨r,_,h1,h⟩|⟨q,r,h1,h2,h⟩
 ·exact .inl h
 ·exact .inr ⟨q,h,by have:=h1.1;omega,pv q h1⟩
 ·exact .inr ⟨r,h,h1.2.1,nx r h1⟩
 ·by_cases z:f q<=f r
  ·rw[Yd z]at h;exact .inr ⟨r,h,h2.2.1,nx r h2⟩
  ·rw[Yc z]at h;exact .inr ⟨q,h,by have:=h1.1;omega,pv q h1⟩
theorem Zlz {f:Nat->Int}{n p o:Nat}{e:Int} (hp:p<n) (ho:o<n) (h:Z2 f n p e) (hO:Over f o p):∃q:Nat,e=q/\q<n/\(o=q\/Over f o q):=by
 rcases hO with⟨o1,o2⟩|⟨o1,o2⟩
 ·have op:=o2 p o1 (Ye _)
  have pv:∀q,Zbq f p q->o=q\/(o<q/\Over f o q/\f o<=f q):=λq h=>by
   rcases Nat.lt_trichotomy o q with z|z|z
   ·have:=h.1;exact .inr ⟨z,.inl ⟨z,λr r1 r2=>o2 r r1 (by omega)⟩,o2 q z (by omega)⟩
   ·exact .inl z
   ·have:=h.2.2 o z o1;omega
  rcases h with⟨h1,_,h⟩|⟨q,h1,_,h⟩|⟨r,h1,_,h⟩|⟨q,r,h1,h2,h⟩
  ·have:=h1 o o1;omega
  ·refine⟨q,h,by have:=h1.1;omega,?_⟩
   rcases pv q h1 with z|z
   ·exact .inl z
   ·exact .inr z.2.1
  ·have:=h1 o o1;omega
  ·by_cases z:f q<=f r
   ·rw[Yd z]at h
    refine⟨r,h,h2.2.1,.inr (.inl ⟨by have:=h2.1;omega,λs s1 s2=>?_⟩)⟩
    by_cases sp:s<=p
    ·exact o2 s s1 sp
    ·by_cases sr:s=r
     ·rw[sr]
      rcases pv q h1 with y|y
      ·rw[y];exact z
      ·have:=y.2.2;omega
     ·have:=h2.2.2.2 s (by omega) (by omega);omega
   ·rw[Yc z]at h
    refine⟨q,h,by have:=h1.1;omega,?_⟩
    rcases pv q h1 with z|z
    ·exact .inl z
    ·exact .inr z.2.1
 ·have op:=o2 p (Ye _) o1
  have nx:∀r,Zba f n p r->o=r\/(r<o/\Over f o r/\f o<f r):=λr h=>by
   rcases Nat.lt_trichotomy o r with z|z|z
   ·have:=h.2.2.2 o o1 z;omega
   ·exact .inl z
   ·have:=h.1;exact .inr ⟨z,.inr ⟨z,λs s1 s2=>o2 s (by omega) s2⟩,o2 r (by omega) z⟩
  rcases h with⟨_,h1,h⟩|⟨q,_,h1,h⟩|⟨r,_,h1,h⟩|⟨q,r,h1,h2,h⟩
  ·have:=h1 o o1 ho;omega
  ·have:=h1 o o1 ho;omega
  ·refine⟨r,h,h1.2.1,?_⟩
   rcases nx r h1 with z|z
   ·exact .inl z
   ·exact .inr z.2.1
  ·by_cases z:f q<=f r
   ·rw[Yd z]at h
    refine⟨r,h,h2.2.1,?_⟩
    rcases nx r h2 with z|z
    ·exact .inl z
    ·exact .inr z.2.1
   ·rw[Yc z]at h
    refine⟨q,h,by have:=h1.1;omega,.inr (.inr ⟨by have:=h1.1;omega,λs s1 s2=>?_⟩)⟩
    by_cases sp:p<=s
    ·exact o2 s sp s2
    ·by_cases sq:s=q
     ·rw[sq]
      rcases nx r h2 with y|y
      ·rw[y];omega
      ·have:=y.2.2;omega
     ·have:=h1.2.2 s (by omega) (by omega);omega
theorem ZjH {f:Nat->Int}{n p o q:Nat} (hp:p<n) (ho:o<n) (h:Z2 f n p (q:Int)):Over f o p↔o=q\/Over f o q:=by
 refine⟨λk=>?_,λk=>?_⟩
 ·obtain⟨q',e,_,z⟩:=Zlz hp ho h k
  have:q'=q:=by omega
  rw[this]at z;exact z
 ·rcases Zc6 hp h with z|⟨q',e,_,z⟩
  ·omega
  ·have:q'=q:=by omega
   rw[this]at z
   rcases k with k|k
   ·rw[k];exact z
   ·exact k.trans z
theorem Zga {f:Nat->Int}{n p o:Nat} (hp:p<n) (ho:o<n) (h:Z2 f n p (-1)):¬ Over f o p:=λk=>by
 obtain⟨q',e,_,z⟩:=Zlz hp ho h k
 omega
theorem ZjI {P Q:Nat->Bool}:∀n,(∀o,o<n->P o=Q o)->(List.range n).countP P=(List.range n).countP Q
 |0,_=>rfl
 |n+1,h=>by
  rw[YV,List.countP_append,List.countP_append,ZjI n (λo ho=>h o (by omega))]
  simp[List.countP_cons,h n (by omega)]
theorem Zex {P Q:Nat->Bool}{e:Nat}:∀n,e<n->(∀o,o<n->(P o=true↔o=e\/Q o=true))->Q e=false->(List.range n).countP P=(List.range n).countP Q+1
 |0,h,_,_=>by omega
 |n+1,h,hi,hq=>by
  rw[YV,List.countP_append,List.countP_append]
  by_cases z:e=n
  ·have e1:(List.range n).countP P=(List.range n).countP Q:=ZjI n λo ho=>by
    have:=hi o (by omega)
    cases hP:P o<;>cases hQ:Q o<;>simp[hP,hQ]at this<;>first|rfl|omega
   have hPn:P n=true:=(hi n (by omega)).mpr (.inl z.symm)
   rw[z]at hq
   rw[e1];simp[List.countP_cons,hPn,hq]
  ·rw[Zex n (by omega) (λo ho=>hi o (by omega)) hq]
   have:=hi n (by omega)
   have hn:P n=Q n:=by
    cases hP:P n<;>cases hQ:Q n<;>simp[hP,hQ]at this<;>first|rfl|omega
   simp[List.countP_cons,hn];omega
theorem Zte {P:Nat->Bool}{e n:Nat} (he:e<n) (h:P e=false):(List.range n).countP P<n:=by
 have h1:=Zex (P:=λo=>decide (o=e)||P o) (Q:=P) n he (λo _=>by simp) h
 have h2:=List.countP_le_length (p:=λo=>decide (o=e)||P o) (l:=List.range n)
 rw[h1,Y0]at h2
 omega
noncomputable def Zar (T:List Int):Nat->Int->List Nat
 |0,_=>[]
 |k+1,at_=>if 0<=at_/\at_<T.length then at_.toNat::Zar T k (nth T at_.toNat)else []
open Classical in
noncomputable def dep (f:Nat->Int) (n p:Nat):Nat:=(List.range n).countP λo=>decide (Over f o p)
theorem ZoN {f:Nat->Int}{n p:Nat} (hp:p<n):dep f n p<n:=by
 classical
 exact Zte hp (by simpa using Over.irrefl)
theorem Zia {f:Nat->Int}{n p q:Nat} (hp:p<n) (h:Z2 f n p (q:Int)):dep f n p=dep f n q+1:=by
 classical
 have hq:q<n:=by
  rcases Zc6 hp h with z|⟨q',e,z,_⟩<;>omega
 exact Zex n hq (λo ho=>by simpa using ZjH hp ho h) (by simpa using Over.irrefl)
theorem ZvH {f:Nat->Int}{n p:Nat} (hp:p<n) (h:Z2 f n p (-1)):dep f n p=0:=by
 classical
 unfold dep
 rw[List.countP_eq_zero]
 intro o ho
 simpa using Zga hp (by simpa using ho) h
theorem ZjJ {P Q:Nat->Bool}:∀n,(∀o,o<n->P o=true->Q o=true)->(List.range n).countP P<=(List.range n).countP Q
 |0,_=>Ye _
 |n+1,h=>by
  rw[YV,List.countP_append,List.countP_append]
  have:=ZjJ n (λo ho=>h o (by omega))
  have hn:=h n (by omega)
  cases hP:P n<;>cases hQ:Q n<;>simp[List.countP_cons,hP,hQ]at hn⊢<;>omega
theorem Ztf {f:Nat->Int}{n p q:Nat} (hp:p<n) (hq:q<n) (h:Over f q p):dep f n q<dep f n p:=by
 classical
 have h1:=Zex (P:=λo=>decide (o=q)||decide (Over f o q)) (Q:=λo=>decide (Over f o q)) (e:=q) n hq (λo _=>by simp) (by simpa using Over.irrefl)
 have h2:=ZjJ (P:=λo=>decide (o=q)||decide (Over f o q)) (Q:=λo=>decide (Over f o p)) n (λo _ ho=>by
  simp at ho⊢
  rcases ho with z|z
  ·rw[z];exact h
  ·exact z.trans h)
 rw[h1]at h2
 exact h2
theorem Zhm {ns T:List Int} (hT:Zu ns T):∀k p,p<ns.length->dep (nth ns) ns.length p<=k->(∀o,o∈Zar T k (nth T p)↔o<ns.length/\Over (nth ns) o p)/\(Zar T k (nth T p)).length=dep (nth ns) ns.length p
 |k,p,hp,hk=>by
  have hE:Z2 (nth ns) ns.length p (nth T p):=hT.2 p hp
  rcases Zc6 hp hE with z|⟨q,e,hq,hO⟩
  ·have e0:Zar T k (nth T p)=[]:=by
    cases k with
    |zero=>rfl
    |succ k=>rw[Zar,Yc (by omega)]
   rw[e0]
   rw[z]at hE
   exact⟨λo=>⟨λh=>by simp at h,λh=>absurd h.2 (Zga hp h.1 hE)⟩,by rw[ZvH hp hE];rfl⟩
  ·rw[e]at hE
   have hd:=Zia hp hE
   obtain⟨k',rfl⟩:∃k',k=k'+1:=⟨k-1,by omega⟩
   have ih:=Zhm hT k' q hq (by omega)
   have eT:((q:Nat):Int).toNat=q:=by omega
   rw[Zar,e,Yd ⟨by omega,by rw[hT.1];omega⟩,eT]
   refine⟨λo=>?_,by simp[ih.2,hd]⟩
   rw[Yi,ih.1 o]
   refine⟨λh=>?_,λh=>?_⟩
   ·rcases h with h|h
    ·rw[h];exact⟨hq,hO⟩
    ·exact⟨h.1,h.2.trans hO⟩
   ·rcases(ZjH hp h.1 hE).mp h.2 with z|z
    ·exact .inl z
    ·exact .inr ⟨h.1,z⟩
noncomputable def Zgz (T:List Int):List Int:=(List.range T.length).map λp=>((Zar T T.length (nth T p)).length:Int)
theorem Zhn (T:List Int):(Zgz T).length=T.length:=by simp[Zgz]
theorem Znz {T:List Int}{p:Nat} (h:p<T.length):nth (Zgz T) p=(Zar T T.length (nth T p)).length:=by
 simp[nth,Zgz,Yl,h]
theorem Zq7 {ns T:List Int} (hT:Zu ns T):Zu (Zgz T) T:=by
 have eL:T.length=ns.length:=hT.1
 have hd:∀p,p<ns.length->nth (Zgz T) p=(dep (nth ns) ns.length p:Int):=λp hp=>by
  rw[Znz (by omega),eL,(Zhm hT ns.length p hp (YZ (ZoN hp))).2]
 refine⟨(Zhn T).symm,λp hp=>?_⟩
 rw[Zhn,eL]at hp⊢
 have lt:∀q p,q<ns.length->p<ns.length->Over (nth ns) q p->nth (Zgz T) q<nth (Zgz T) p:=λq p hq hp h=>by
  rw[hd q hq,hd p hp]
  have:=Ztf hp hq h;omega
 generalize nth (Zgz T)=g at lt
 clear hd
 have pv:∀q,Zbq (nth ns) p q->Zbq g p q:=λq h=>by
  refine⟨h.1,Int.le_of_lt (lt q p (by have:=h.1;omega) hp (.inl ⟨h.1,λr r1 r2=>?_⟩)),λr r1 r2=>lt p r hp (by omega) (.inr ⟨r2,λs s1 s2=>h.2.2 s (by omega) s2⟩)⟩
  by_cases z:r=p
  ·rw[z];exact h.2.1
  ·have:=h.2.2 r r1 (by omega);have:=h.2.1;omega
 have nx:∀r,Zba (nth ns) ns.length p r->Zba g ns.length p r:=λq h=>by
  refine⟨h.1,h.2.1,lt q p h.2.1 hp (.inr ⟨h.1,λr r1 r2=>?_⟩),λs s1 s2=>Int.le_of_lt (lt p s hp (by have:=h.2.1;omega) (.inl ⟨s1,λr r1 r2=>h.2.2.2 r r1 (by omega)⟩))⟩
  by_cases z:r=p
  ·rw[z];exact h.2.2.1
  ·have:=h.2.2.2 r (by omega) r2;have:=h.2.2.1;omega
 have np:Zfw (nth ns) p->Zfw g p:=λh q hq=>lt p q hp (by omega) (.inr ⟨hq,λr r1 r2=>h r r2⟩)
 have nn:ZdN (nth ns) ns.length p->ZdN g ns.length p:=λh r r1 r2=>Int.le_of_lt (lt p r hp r2 (.inl ⟨r1,λs s1 s2=>h s s1 (by omega)⟩))
 have hE:Z2 (nth ns) ns.length p (T.getD p 0):=hT.2 p hp
 rcases hE with⟨h1,h2,h⟩|⟨q,h1,h2,h⟩|⟨r,h1,h2,h⟩|⟨q,r,h1,h2,h⟩
 ·exact .inl ⟨np h1,nn h2,h⟩
 ·exact .inr (.inl ⟨q,pv q h1,nn h2,h⟩)
 ·exact .inr (.inr (.inl ⟨r,np h1,nx r h2,h⟩))
 ·refine .inr (.inr (.inr ⟨q,r,pv q h1,nx r h2,?_⟩))
  rw[h]
  have hq:q<ns.length:=by have:=h1.1;omega
  by_cases z:nth ns q<=nth ns r
  ·have:=lt q r hq h2.2.1 (.inl ⟨by have:=h1.1;have:=h2.1;omega,λs s1 s2=>by
    by_cases y:s=r
    ·rw[y];exact z
    ·by_cases y2:s=p
     ·rw[y2];exact h1.2.1
     ·have:=h1.2.1
      by_cases y3:s<p
      ·have:=h1.2.2 s s1 y3;omega
      ·have:=h2.2.2.2 s (by omega) (by omega);omega⟩)
   rw[Yd z,Yd (by omega)]
  ·have:=lt r q h2.2.1 hq (.inr ⟨by have:=h1.1;have:=h2.1;omega,λs s1 s2=>by
    have:=h1.2.1;have:=h2.2.2.1
    by_cases y:s=q
    ·rw[y];omega
    ·by_cases y2:s=p
     ·rw[y2];omega
     ·by_cases y3:s<p
      ·have:=h1.2.2 s (by omega) y3;omega
      ·have:=h2.2.2.2 s (by omega) (by omega);omega⟩)
   rw[Yc z,Yc (by omega)]
theorem Zq8 (T:List Int):(∃ns,Zu ns T)↔Zu (Zgz T) T:=⟨λ⟨_,h⟩=>Zq7 h,λh=>⟨_,h⟩⟩
end L2
namespace L2
open PySem PySem.Spec PyProof.Rows PySem.W
noncomputable def Zja (es:List Int) (A B:List Nat) (i:Nat):List Int:=match A.getLast? with
 |some q=>(match B.head? with|some b=>es.set b i|none=>es).set i (q:Int)
 |none=>match B.head? with|some b=>es.set b i|none=>es
noncomputable def ZaB (l:List Nat):List V:=l.map λq=>V.int (q:Nat)
theorem Zho (l:List Int) (a p:Nat) (v:Int) (h:p<l.length):(l.set a v).getD p 0=if a=p then v else l.getD p 0:=by
 rw[Yl,Yl]
 by_cases e:a=p
 ·subst e;rw[Yd rfl,List.getElem?_set_self h];rfl
 ·rw[Yc e,List.getElem?_set_ne e]
theorem Ztg (es:List Int) (A B:List Nat) (i:Nat):(Zja es A B i).length=es.length:=by
 unfold Zja
 cases A.getLast?<;>cases B.head?<;>simp
theorem Zqt (es:List Int) (A B:List Nat) (i p:Nat) (hp:p<es.length) (hb:∀b,B.head?=some b->b≠i):(Zja es A B i).getD p 0=if p=i then (match A.getLast? with|some q=>(q:Int)|none=>es.getD i 0)else if B.head?=some p then (i:Int)else es.getD p 0:=by
 unfold Zja
 cases hA:A.getLast? with
 |none =>
  cases hB:B.head? with
  |none =>
   by_cases e:p=i
   ·rw[Yd e,e]
   ·rw[Yc e,Yc (by simp)]
  |some b =>
   show(es.set b i).getD p 0=_
   rw[Zho _ _ _ _ hp]
   by_cases e:p=i
   ·rw[Yd e,Yc (by rw[e];exact hb b hB),e]
   ·rw[Yc e]
    by_cases e2:b=p
    ·rw[Yd e2,Yd (by rw[e2])]
    ·rw[Yc e2,Yc (by intro z;exact e2 (YE z))]
 |some q =>
  cases hB:B.head? with
  |none =>
   show(es.set i q).getD p 0=_
   rw[Zho _ _ _ _ hp]
   by_cases e:p=i
   ·rw[Yd e,Yd e.symm]
   ·rw[Yc e,Yc (λz=>e z.symm),Yc (by simp)]
  |some b =>
   show((es.set b i).set i q).getD p 0=_
   rw[Zho _ _ _ _ (by simpa using hp),Zho _ _ _ _ hp]
   by_cases e:p=i
   ·rw[Yd e,Yd e.symm]
   ·rw[Yc e,Yc (λz=>e z.symm)]
    by_cases e2:b=p
    ·rw[Yd e2,Yd (by rw[e2])]
    ·rw[Yc e2,Yc (by intro z;exact e2 (YE z))]
theorem Zth:∀(l:List Nat) (i lo:Nat),l.Pairwise (· < ·)->(∀q∈l,lo<=q/\q<i)->l.length+lo<=i\/l=[]
 |[],_,_,_,_=>.inr rfl
 |q::r,i,lo,h,hq=>by
  have h1:=hq q (by simp)
  have hr:=Y6.mp h
  rcases Zth r i (q+1) hr.2 (λx hx=>⟨hr.1 x hx,(hq x (by simp[hx])).2⟩)with z|z
  ·left;simp;omega
  ·left;rw[z];simp;omega
theorem Zb1 (l:List Nat):(ZaB l).length=l.length:=by simp[ZaB]
theorem Zib (a b:List Nat):ZaB (a++b)=ZaB a++ZaB b:=by simp[ZaB]
theorem ZjK {l:List Nat}{j q:Nat} (h:l[j]?=some q):atI (ZaB l) (j:Int)=some (V.int (q:Nat)):=by
 have hj:=(YA.mp h).1
 have e:=(YA.mp h).2
 rw[Zh7 rfl (by rw[Zb1];exact hj)]
 simp[ZaB,e]
theorem Zhp {n j:Nat} (h:j<n):ixN n (j:Int)=some j:=by
 unfold ixN
 rw[Yd (by omega),Yd (by omega)];simp
noncomputable def Zai (T:List Int) (p:Nat):List Int:=(Zar T T.length (nth T p)).map λq=>((q:Nat):Int)
noncomputable def ZJ (T:List Int):Prop:=T.length<=40/\∃ns,Zu ns T
theorem Zfx (T:List Int):∀k a,(Zar T k a).length<=k
 |0,_=>by simp[Zar]
 |k+1,a=>by
  rw[Zar]
  split
  ·have:=Zfx T k (nth T a.toNat);simp;omega
  ·simp
noncomputable def Za8 (T:List Int):Nat->Int->Int
 |0,a=>a
 |j+1,a=>if 0<=a/\a<T.length then Za8 T j (nth T a.toNat)else a
theorem ZlA (T:List Int):∀j a,0<=Za8 T j a->Za8 T j a<T.length->(Zar T j a).length=j->Zar T (j+1) a=Zar T j a++[(Za8 T j a).toNat]/\Za8 T (j+1) a=nth T (Za8 T j a).toNat
 |0,a,h0,h1,_=>by
  have h0':0<=a:=h0
  have h1':a<T.length:=h1
  constructor
  ·simp[Zar,Za8,h0',h1']
  ·simp[Za8,h0',h1']
 |j+1,a,h0,h1,hl=>by
  rw[Zar]at hl
  by_cases z:0<=a/\a<T.length
  ·rw[Yd z]at hl
   have e1:Za8 T (j+1) a=Za8 T j (nth T a.toNat):=by rw[Za8,Yd z]
   rw[e1]at h0 h1
   have ih:=ZlA T j (nth T a.toNat) h0 h1 (by simpa using hl)
   constructor
   ·rw[Zar,Yd z,ih.1,Zar.eq_def T (j+1) a]
    simp only[Yd z,e1];simp
   ·rw[Za8,Yd z,ih.2,e1]
  ·rw[Yc z]at hl;simp at hl
theorem ZlB (T:List Int):∀j k a,j<=k->(Zar T j a).length=j->¬ (0<=Za8 T j a/\Za8 T j a<T.length)->Zar T k a=Zar T j a
 |0,k,a,_,_,h=>by
  have h':¬ (0<=a/\a<T.length):=h
  cases k with
  |zero=>rfl
  |succ k=>rw[show Zar T 0 a=[]from rfl,Zar,Yc h']
 |j+1,k,a,hk,hl,h=>by
  rw[Zar]at hl
  by_cases z:0<=a/\a<T.length
  ·rw[Yd z]at hl
   rw[Za8,Yd z]at h
   obtain⟨k',rfl⟩:∃k',k=k'+1:=⟨k-1,by omega⟩
   rw[Zar,Yd z,ZlB T j k' _ (by omega) (by simpa using hl) h,Zar,Yd z]
  ·rw[Yc z]at hl;simp at hl
section
variable {X:Cx}
theorem ZjL {K:Frag} (hK:X.K=K):OpR X (compareOp .In) (rIn K false):=hK▸ZqX
end
theorem ZlC (xs:List Int):(xs.map V.int).all flatV=true:=by
 induction xs with
 |nil=>rfl
 |cons x r ih=>rw[YM,List.all_cons,ih];rfl
theorem Zhq (x:Int) (xs:List Int):inV (.int x) (xs.map V.int)=decide (x∈xs):=by
 induction xs with
 |nil=>rfl
 |cons y r ih =>
  have:inV (.int x) ((y::r).map V.int)=(decide (y=x)||inV (.int x) (r.map V.int)):=rfl
  rw[this,ih]
  by_cases z:y=x
  ·simp[z]
  ·have:¬ x=y:=λh=>z h.symm
   simp[z,this]
theorem Zah {a b:TS}{D:Ends}{σ:St}{H:Hp} (Mid:St->Hp->Prop) (h1:∀R:St->Hp->Prop,(∀σ' H',Mid σ' H'->R σ' H')->a {D with nx:=R} σ H) (h2:∀σ' H',Mid σ' H'->b D σ' H'):tSeq a b D σ H:=h1 _ h2
theorem Zq9 (xs:List V) (j:Nat):Zfr xs (some (j:Int)) none=xs.drop j:=by
 have h:¬ ((j:Int)<0):=by omega
 unfold Zfr HT.sIx
 simp only[Yc h,YH]
 by_cases z:j<=xs.length
 ·rw[Nat.min_eq_left z]
  exact List.take_of_length_le (by rw[Y5];omega)
 ·rw[Nat.min_eq_right (by omega),Nat.sub_self,List.take_zero,List.drop_eq_nil_of_le (show xs.length<=j by omega)]
end L2
namespace L2
open PySem PySem.Spec PyProof.Rows
structure CellsOf (cl:List (Str×Addr)) (n0:Nat) (cs:List (Str×Addr)) (h0 h:Heap) (done:List (Str×NameKind)):Prop where
 old:∀b o,h0.get? b=some o->h.get? b=some o
 sz:n0<=h.objs.size
 mem:∀p∈cs,p∈cl\/(n0<=p.2/\p.2<h.objs.size/\h.IsCell p.2 none)
 inj:∀p∈cs,∀q∈cs,n0<=p.2->p.2=q.2->p.1=q.1
 own:∀y∈done,y.2=.cell->∃c,cs.lookup y.1=some c/\n0<=c
 oth:∀x,(∀y∈done,y.2=.cell->y.1≠x)->cs.lookup x=cl.lookup x
theorem Zic {M:Model}{A:Around}{E:Value->Shared->Prop}{cl:List (Str×Addr)}{n0:Nat}{h0:Heap} (hcl:∀p∈cl,p.2<n0):∀(names:List (Str×NameKind)) (cs:List (Str×Addr)) (done:List (Str×NameKind)) (s:Shared),CellsOf cl n0 cs h0 s.heap done ->
  wpAny M A (forIn names cs λ(x:Str×NameKind) (r:List (Str×Addr))=>(match x with
   |(name,kind)=>if (kind==NameKind.cell)=true then do
     let a <-alloc {cls:=.type "cell",data:=.cell none}
     pure (ForInStep.yield ((name,a)::r))
    else pure (ForInStep.yield r):Sem (ForInStep (List (Str×Addr))))) (λcs' s'=>∃h',s'={s with heap:=h'}/\CellsOf cl n0 cs' h0 h' (done++names)) E s
 |[],cs,done,s,I=>by
  rw[List.forIn_nil,List.append_nil]
  exact Yb ⟨s.heap,rfl,I⟩
 |(n,k)::r,cs,done,s,I=>by
  rw[List.forIn_cons]
  by_cases hk:k=.cell
  ·subst hk
   simp only[beq_self_eq_true,if_true]
   refine Ya (Ya (wpAny_alloc (Yb ?_)))
   have hget:(s.heap.push {cls:=.type "cell",data:=.cell none}).get? s.heap.objs.size=some {cls:=.type "cell",data:=.cell none}:=Ys _ rfl
   have I':CellsOf cl n0 ((n,s.heap.objs.size)::cs) h0 (s.heap.push {cls:=.type "cell",data:=.cell none}) (done++[(n,.cell)]):=by
    refine⟨λb o e=>Yh _ (I.old b o e),by rw[Heap.size_push];exact Nat.le_succ_of_le I.sz,λp hp=>?_,λp hp q hq hn e=>?_,λy hy hc=>?_,λx hx=>?_⟩
    ·rcases Yi.mp hp with z|z
     ·subst z
      exact .inr ⟨I.sz,by rw[Heap.size_push];exact Nat.lt_succ_self _,_,hget,rfl⟩
     ·rcases I.mem p z with w|⟨w1,w2,o,w3,w4⟩
      ·exact .inl w
      ·exact .inr ⟨w1,by rw[Heap.size_push];exact YO w2,o,Yh _ w3,w4⟩
    ·have lt:∀p∈cs,p.2<s.heap.objs.size:=λp hp=>by
      rcases I.mem p hp with w|w
      ·exact YC (hcl p w) I.sz
      ·exact w.2.1
     rcases Yi.mp hp with z|z<;>rcases Yi.mp hq with z'|z'
     ·rw[z,z']
     ·subst z;exact absurd (show s.heap.objs.size<s.heap.objs.size from(show s.heap.objs.size=q.2 from e)▸lt q z') (YI _)
     ·subst z';exact absurd (show s.heap.objs.size<s.heap.objs.size from(show p.2=s.heap.objs.size from e)▸lt p z) (YI _)
     ·exact I.inj p z q z' hn e
    ·rcases Yq.mp hy with z|z
     ·obtain⟨c,e1,e2⟩:=I.own y z hc
      by_cases hx:y.1=n
      ·exact⟨s.heap.objs.size,by rw[hx];simp,I.sz⟩
      ·have hb:(y.1==n)=false:=by simpa using hx
       exact⟨c,by simp only[List.lookup_cons,hb];exact e1,e2⟩
     ·have:y=(n,.cell):=by simpa using z
      subst this
      exact⟨s.heap.objs.size,by simp,I.sz⟩
    ·have hxn:n≠x:=hx (n,.cell) (by simp) rfl
     have hb:(x==n)=false:=by simpa using hxn.symm
     simp only[List.lookup_cons,hb]
     exact I.oth x λy hy=>hx y (Yx _ hy)
   refine thn (Zic hcl r _ _ {s with heap:=s.heap.push {cls:=.type "cell",data:=.cell none}} I') λcs' s' ⟨h',e1,e2⟩=>⟨h',e1,?_⟩
   rw[Y3]at e2
   exact e2
  ·have e1:(k==NameKind.cell)=false:=by cases k<;>first|rfl|exact absurd rfl hk
   simp only[e1,Bool.false_eq_true,if_false]
   refine Ya (Yb ?_)
   have I':CellsOf cl n0 cs h0 s.heap (done++[(n,k)]):=by
    refine⟨I.old,I.sz,I.mem,I.inj,λy hy hc=>?_,λx hx=>I.oth x λy hy=>hx y (Yx _ hy)⟩
    rcases Yq.mp hy with z|z
    ·exact I.own y z hc
    ·have:y=(n,k):=by simpa using z
     subst this
     exact absurd hc hk
   refine thn (Zic hcl r _ _ s I') λcs' s' ⟨h',e1,e2⟩=>⟨h',e1,?_⟩
   rw[Y3]at e2
   exact e2
theorem ZoO {M:Model}{A:Around}{E:Value->Shared->Prop}{s:Shared}{scope:Scope}{globals:Addr}{cl:List (Str×Addr)}{qual:Str}{around:Env}{Q:Env->Shared->Prop} (hcl:∀p∈cl,p.2<s.heap.objs.size)
  (h:∀cs h',CellsOf cl (s.heap.objs.size+1) cs (s.heap.push {cls:=.type "dict",data:=.dict #[]}) h' scope.names->Q {scope:=scope,locals:=s.heap.objs.size,globals:=globals,cells:=cs,qual:=qual,func:=none,code:=around.code,frame:=around.frame,builtins:=around.builtins} {s with heap:=h'}) :
  wpAny M A (newFunctionEnv scope globals cl [] qual none .none (some around)) Q E s:=by
 unfold newFunctionEnv
 refine Ya (wpAny_alloc ?_)
 refine Ya (thn (Zic (cl:=cl) (n0:=s.heap.objs.size+1) (h0:=s.heap.push {cls:=.type "dict",data:=.dict #[]}) (λp hp=>YO (hcl p hp)) scope.names cl [] {s with heap:=s.heap.push {cls:=.type "dict",data:=.dict #[]}} ⟨λb o e=>e,by rw[Heap.size_push];exact Ye _,λp hp=>.inl hp,λp hp q hq hn e=>absurd (hcl p hp) (Nat.not_lt_of_le (Nat.le_of_succ_le hn)),λy hy=>(nomatch hy),λx hx=>rfl⟩) λcs s' ⟨h',e1,e2⟩=>?_)
 subst e1
 rw[List.nil_append]at e2
 exact Ya (Yb (Yb (h cs h' e2)))
noncomputable def ZbJ (around scope:Scope):Bool :=
 scope.kind==.function&&around.kind==.function&&scope.names.all λy=>match y.2 with
  |.local=>scope.names.lookup y.1==some .local
  |.cell=>scope.names.lookup y.1==some .cell
  |.free=>(scope.names.lookup y.1==some .free)&&(around.names.lookup y.1==some .cell||around.names.lookup y.1==some .free)
  |_=>true
theorem Zhr {a s:Scope} (h:ZbJ a s=true):s.kind=.function:=by
 simp only[ZbJ,Bool.and_eq_true,beq_iff_eq]at h;exact h.1.1
theorem ZgA {a s:Scope} (h:ZbJ a s=true) {y:Str×NameKind} (hy:y∈s.names):(match y.2 with
  |.local=>s.names.lookup y.1==some .local
  |.cell=>s.names.lookup y.1==some .cell
  |.free=>(s.names.lookup y.1==some .free)&&(a.names.lookup y.1==some .cell||a.names.lookup y.1==some .free)
  |_=>true)=true:=by
 simp only[ZbJ,Bool.and_eq_true]at h
 exact List.all_eq_true.mp h.2 y hy
theorem Zk5 {a s:Scope} (h:ZbJ a s=true):∀y∈s.names,y.2=.local->s.names.lookup y.1=some .local:=λy hy e=>by
 have q:=ZgA h hy
 rw[e]at q
 exact beq_iff_eq.mp q
theorem Zmu {a s:Scope} (h:ZbJ a s=true):∀y∈s.names,y.2=.cell->s.names.lookup y.1=some .cell:=λy hy e=>by
 have q:=ZgA h hy
 rw[e]at q
 exact beq_iff_eq.mp q
theorem Zey {a s:Scope} (h:ZbJ a s=true):∀y∈s.names,y.2=.free->s.names.lookup y.1=some .free/\(a.names.lookup y.1=some .cell\/a.names.lookup y.1=some .free):=λy hy e=>by
 have q:=ZgA h hy
 rw[e]at q
 simp only[Bool.and_eq_true,Bool.or_eq_true,beq_iff_eq]at q
 exact q
noncomputable def ZaX (X:Cx) (Nc:List Str) (scope:Scope) (cs:List (Str×Addr)) (C:Addr) (s2:Shared) (H2:Hp) (fp:List Addr):Cx :=
 {ZaO X Nc scope cs C s2 H2 fp with fn:=λx=>scope.names.lookup x==some .cell}
theorem ZnA {env:Env}{scope:Scope} (h:∀y∈scope.names,y.2=.free->∃c,env.cells.lookup y.1=some c) :
  ∃cl,closureFor scope env=pure cl/\(∀p∈cl,env.cells.lookup p.1=some p.2)/\(∀y∈scope.names,y.2=.free->∃c,cl.lookup y.1=some c/\env.cells.lookup y.1=some c):=by
 obtain⟨cl,e,h1,h2,h3⟩:=Zev (env:=env) scope.names [] h
 have up:∀p∈cl,env.cells.lookup p.1=some p.2:=λp q=>by
  rcases h1 _ q with z|z
  ·cases z
  ·exact z
 refine⟨cl,?_,up,λy hy hf=>?_⟩
 ·unfold closureFor
  simp only[bind_pure_comp]at e⊢
  rw[e]
  exact pure_bind _ _
 ·obtain⟨c,hc⟩:=h3 y hy hf
  cases q:cl.lookup y.1 with
  |none=>exact absurd (List.lookup_eq_none_iff.mp q _ hc) (by simp)
  |some c'=>exact⟨c',rfl,up _ (PySem.mem_of_lookup q)⟩
section
variable {X:Cx}
theorem ZnB {pins:List (Addr×Obj)}{σ:St}{H2:Hp}{s2:Shared}{Nc:List Str}{js:List (Option Nat)}{scope:Scope}{cs:List (Str×Addr)}{fp:List Addr}{h1:Heap}{tk:Nat}{D C:Addr}{oD:Obj}{m:Str->Option Value}
  (I:Inv X pins σ H2 s2) (hok:ZbJ X.env.scope scope=true) (htk:takesC X.N Nc scope js 0=true) (up:∀x c,cs.lookup x=some c->X.env.cells.lookup x=some c\/(C<c/\h1.IsCell c none)) (hinj:∀x y c,cs.lookup x=some c->cs.lookup y=some c->x=y) (hown:∀y∈scope.names,y.2=.cell->∃c,cs.lookup y.1=some c/\C<c) (hfr:∀y∈scope.names,y.2=.free->∃c,cs.lookup y.1=some c/\X.env.cells.lookup y.1=some c)
  (hfp:∀b∈fp,FpOk X pins H2 b) (hfl:∀b∈fp,b<s2.heap.objs.size) (hD:D=s2.heap.objs.size) (hC:C=s2.heap.objs.size+1) (old:∀b o,s2.heap.get? b=some o->h1.get? b=some o) (hns:h1.Ns C m) (hoD:h1.get? D=some oD) (hdD:∀v,oD.data≠.cell v) :
  Inv (ZaX X Nc scope cs C s2 H2 fp) [(D,oD)] (Z6 js σ) H2 {s2 with heap:=h1,toks:=tk}:=by
 have leC:s2.heap.objs.size<=C:=by rw[hC];exact YR _
 have leD:s2.heap.objs.size<=D:=Y4 hD.symm
 have kf:∀x,((compEnvC scope cs C X.env).kindOf x=some .cell\/(compEnvC scope cs C X.env).kindOf x=some .free)->∃c,cs.lookup x=some c:=λx hx=>by
  have:∃k,(compEnvC scope cs C X.env).kindOf x=some k/\(k=.cell\/k=.free):=hx.elim (λq=>⟨_,q,.inl rfl⟩) λq=>⟨_,q,.inr rfl⟩
  obtain⟨k,e,hk⟩:=this
  obtain⟨k',h1,h2⟩:=Zaf (show(scope.names.map _).lookup x=some k from e)
  have hm:=lookup_mem h1
  have:k'=.free\/k'=.cell:=by
   rcases h2 with q|q
   ·subst q
    exact hk.symm
   ·exact .inl q.1
  rcases this with z|z
  ·subst z
   obtain⟨c,q,_⟩:=hfr _ hm rfl
   exact⟨c,q⟩
  ·subst z
   obtain⟨c,q,_⟩:=hown _ hm rfl
   exact⟨c,q⟩
 have nC:∀c x,X.env.cells.lookup x=some c->c<s2.heap.objs.size:=λc x e=>by
  obtain⟨v,q⟩:=I.cell x c e
  exact q.lt
 have noB:∀b,b∈fp->b∉frs X.stack:=λb hb q=>by
  rcases Yi.mp (I.Zfm b q)with z|z
  ·exact(hfp b hb).2.1 z
  ·exact(hfp b hb).2.2.1 z
 have okX:(ZaX X Nc scope cs C s2 H2 fp).Ok:=by
  refine⟨I.ok.mod,(show scope.kind=.function from Zhr hok),I.ok.glob,I.ok.blt,?_,λx y c e1 e2=>hinj x y c e1 e2,λx hx=>?_,(λx c e1 e2=>?_),I.ok.hd,I.ok.frames,.inl rfl,λb hb=>⟨?_,λx c e=>(up _ _ e).elim (λz=>(hfp b hb).2.2.2.2.1 x c z) λz=>Nat.ne_of_gt (Nat.lt_trans (YC (hfl b hb) leC) z.1)⟩,I.bs,Ym I.ok.bsz I.sz,λb o e hb=>?_,λb hb=>noB b hb,I.stack,I.Zhc⟩
  ·show s2.heap.objs.size<=C;exact leC
  ·exact kf x hx
  ·have hm:=lookup_mem (beq_iff_eq.mp (show(scope.names.lookup x==some NameKind.cell)=true from e1))
   obtain⟨c',q1,q2⟩:=hown _ hm rfl
   have:c=c':=YE ((show cs.lookup x=some c from e2).symm.trans q1)
   rw[this]
   exact Ym leC (YZ q2)
  ·exact Yn (YC (hfl b hb) leC)
  ·rcases(hfp b hb).2.2.2.1 with q|q
   ·exact I.ok.noex b o e q
   ·exact absurd (YC (Yj e) (Ym I.ok.bsz q)) (YI _)
 refine⟨okX,rfl,I.bare,Un.kept old,⟨m,hns,λi x v e1 e2 e3=>?_⟩,λx c e=>?_,I.hok.fresh leC,λx c e=>(up _ _ e).elim (λz=>I.freeC x c z) λz=>I.hok.fresh (Ym leC (YZ z.1)),λp hp=>?_,I.hok.kept old,?_⟩
 ·have e2':(Z6 js σ)[i]?=some (some v):=e2
  unfold Z6 at e2'
  rw[YG]at e2'
  cases q:js[i]? with
  |none=>rw[q]at e2';cases e2'
  |some j0 =>
   cases j0 with
   |none=>rw[q]at e2';cases e2'
   |some j =>
    rw[q]at e2'
    simp only[Option.map_some,Option.some.injEq]at e2'
    have e4:σ[j]?=some (some v):=by
     cases z:σ[j]? with
     |none=>rw[z]at e2';cases e2'
     |some o=>rw[z]at e2';simp only[Option.join_some]at e2';rw[e2']
    obtain⟨y,y1,y2,y3⟩:=Zeb htk q
    rw[Nat.zero_add]at y1
    have:x=y:=YE ((show Nc[i]?=some x from e1).symm.trans y1)
    subst this
    have hm:=lookup_mem y3
    obtain⟨c,c1,c2⟩:=hfr _ hm rfl
    have hk:=(Zey hok _ hm rfl).2
    obtain⟨m0,hn0,hl0⟩:=I.loc
    obtain⟨u,r,l⟩:=hl0 j x v y2 e4 (hk.elim (λz=>.inr (.inl z)) λz=>.inr (.inr z))
    refine⟨u,r,.inr ⟨?_,c,c1,?_⟩⟩
    ·rcases e3 with z|z|z
     ·obtain⟨k',w1,w2⟩:=Zaf (show(scope.names.map _).lookup x=some NameKind.local from z)
      rw[y3]at w1;cases w1
      rcases w2 with w|w
      ·cases w
      ·cases w.2
     ·exact .inl z
     ·exact .inr z
    ·rcases l with⟨lk,_⟩|⟨_,c',c3,c4⟩
     ·rcases hk with z|z
      ·rw[show X.env.kindOf x=some .cell from z]at lk;cases lk
      ·rw[show X.env.kindOf x=some .free from z]at lk;cases lk
     ·rw[c2]at c3;cases c3
      obtain⟨oc,w1,w2⟩:=c4
      exact⟨oc,old _ _ w1,w2⟩
 ·rcases up _ _ e with z|z
  ·obtain⟨v,oc,w1,w2⟩:=I.cell x c z
   exact⟨v,oc,old _ _ w1,w2⟩
  ·exact⟨_,z.2⟩
 ·have:p=(D,oD):=by
   have hp':p∈([]++[(D,oD)]:List (Addr×Obj)):=hp
   simpa using hp'
  subst this
  refine⟨hoD,I.hok.fresh leD,(by show D≠C;rw[hD,hC];exact Yn (Nat.lt_succ_self _)),λhb=>?_,hdD⟩
  have hb':D∈frs X.stack:=hb
  obtain⟨_,o,ho,_⟩:=I.stack.mem hb'
  exact absurd (YC (Yj ho) leD) (YI _)
 ·have:=Zc5 htk
  show(Z6 js σ).length=Nc.length
  unfold Z6;rw[Yf];omega
theorem ZlD {pins:List (Addr×Obj)}{σ:St}{H:Hp}{s:Shared}{tg elt iter:Expr}{ifs:List Expr}{scope:Scope}{pos:Pos}{wi:TI}{g:TG}{tt:TT}{te:TE}{Nc:List Str}{js:List (Option Nat)}{use:Option (Value->Sem Unit)}{Q:VK}{QQ:Value->Shared->Prop}
  (hc:X.calm=true) (hok:ZbJ X.env.scope scope=true) (htk:takesC X.N Nc scope js 0=true) (hi:PI X tg iter wi)
  (hg:∀cl C s2 H2 fp,PG (ZaX X Nc scope cl C s2 H2 fp) tg g) (ht:∀cl C s2 H2 fp,Zi9 (ZaX X Nc scope cl C s2 H2 fp) ifs tt) (he:∀cl C s2 H2 fp,PE (ZaX X Nc scope cl C s2 H2 fp) elt te)
  (hs:∀x,foldedSetIterable iter X.env x=pure x) {L:List Nat} (ho:Zgp g L) (hL:(L.all λk=>js[k]?==some none)=true) (I:Inv X pins σ H s) (h:Zqe wi g tt te js σ H Q)
  (fin:∀(D C:Addr) (H' H2:Hp) (s2 s':Shared) (xs:List V) (m:Str->Option Value),Inv X pins σ H2 s2->H' C=none->C=D+1->D=s2.heap.objs.size->s'.heap.Ns C m->(∀h',Heap.SameBut C s'.heap h'->Inv X pins σ (upd H' D (.lst xs)) {s' with heap:=h'})->Q (.ref D) (upd H' D (.lst xs)) ->
   compPost (model X.prog X.w) X.A X.xe use QQ (.ref D) C (.ok .next) s') :
  wpAny (model X.prog X.w) X.A (comprehension (.ListComp elt [⟨tg,iter,ifs,0⟩] scope pos) scope X.env (firstIterPos [⟨tg,iter,ifs,0⟩] pos) (newList []) false (eval iter X.env) use) QQ X.xe s:=by
 have hcells:∀y∈scope.names,y.2=.free->∃c,X.env.cells.lookup y.1=some c:=λy hy hf=>I.ok.has y.1 (Zey hok y hy hf).2
 obtain⟨cl,hcl,upM,hfr0⟩:=ZnA hcells
 have hk:=Zhr hok
 refine wpAny_comprehension_free (use:=use) rfl hs hcl hk (Zk5 hok) (thn (hi pins s σ H _ I h) λv s1 h1=>thn h1 λitv s2 h2=>?_)
 obtain⟨it,fp,tn,J,H2,e,I2,T,st2,f2,W,⟨m0,w0⟩,turn⟩:=h2
 subst e
 have clt:∀p∈cl,p.2<s2.heap.objs.size:=λp hp=>by
  obtain⟨v,q⟩:=I2.cell p.1 p.2 (upM p hp)
  exact q.lt
 refine wpAny_newObj_type (ZoO (λp hp=>?_) λcs h₁ CO=>?_)
 ·show p.2<(s2.heap.push _).objs.size
  rw[Heap.size_push];exact YO (clt p hp)
 dsimp only at CO⊢
 generalize hH2:s2.heap.push {cls:=.type "list",dict:=none,data:=.seq ([]:List Value).toArray}=HH at CO⊢
 have hC:HH.objs.size=s2.heap.objs.size+1:=by rw[<-hH2,Heap.size_push]
 have hcl':∀p∈cl,p.2<HH.objs.size:=λp hp=>by rw[hC];exact YO (clt p hp)
 have hns₁:h₁.Ns HH.objs.size (λ_=>none):=⟨_,#[],_,CO.old _ _ (Ys _ rfl),rfl,λe he=>absurd he (by simp),λn=>rfl⟩
 have up:∀x c,cs.lookup x=some c->X.env.cells.lookup x=some c\/(HH.objs.size<c/\h₁.IsCell c none):=λx c e=>by
  rcases CO.mem _ (PySem.mem_of_lookup e)with z|z
  ·exact .inl (upM _ z)
  ·exact .inr ⟨z.1,z.2.2⟩
 have hinj:∀x y c,cs.lookup x=some c->cs.lookup y=some c->x=y:=λx y c e1 e2=>by
  have m1:=PySem.mem_of_lookup e1
  have m2:=PySem.mem_of_lookup e2
  rcases CO.mem _ m1 with z|z
  ·rcases CO.mem _ m2 with z'|z'
   ·exact I2.ok.inj x y c (upM _ z) (upM _ z')
   ·exact absurd (hcl' _ z) (Nat.not_lt_of_le (Nat.le_of_succ_le z'.1))
  ·exact CO.inj _ m1 _ m2 z.1 rfl
 have hfr:∀y∈scope.names,y.2=.free->∃c,cs.lookup y.1=some c/\X.env.cells.lookup y.1=some c:=λy hy hf=>by
  obtain⟨c,q1,q2⟩:=hfr0 y hy hf
  refine⟨c,?_,q2⟩
  rw[CO.oth y.1 λy' hy' hc' z=>?_]
  ·exact q1
  ·have w1:=Zmu hok y' hy' hc'
   have w2:=(Zey hok y hy hf).1
   rw[z,w2]at w1;cases w1
 have hfl:∀b∈fp,b<s2.heap.objs.size:=λb hb=>by
  obtain⟨o,ho,_⟩:=T.obj 0 _ st2 b hb
  exact Yj ho
 have hDC:s2.heap.objs.size≠HH.objs.size:=by rw[hC];exact Yn (Nat.lt_succ_self _)
 have old:∀b o,s2.heap.get? b=some o->h₁.get? b=some o:=λb o e=>CO.old b o (Yh _ (hH2▸Yh _ e))
 have hacc:h₁.get? s2.heap.objs.size=some {cls:=.type "list",dict:=none,data:=.seq ([]:List Value).toArray}:=CO.old _ _ (Yh _ (hH2▸Ys _ rfl))
 have I4:=ZnB (Nc:=Nc) (js:=js) (tk:=s2.toks) I2 hok htk up hinj (λy hy hc=>CO.own y hy hc) hfr f2 hfl rfl hC old hns₁ hacc (by intro v z;cases z)
 have st4:tn 0 h₁:=T.keep _ _ _ st2 λb _ o e=>old b o e
 generalize hXc:ZaX X Nc scope cs HH.objs.size s2 H2 fp=Xc at I4
 have hXA:Xc.A=X.A:=by rw[<-hXc];rfl
 have hXe:Xc.env=compEnvC scope cs HH.objs.size X.env:=by rw[<-hXc];rfl
 have hXp:Xc.prog=X.prog:=by rw[<-hXc];rfl
 have hXw:Xc.w=X.w:=by rw[<-hXc];rfl
 have hXx:Xc.xe=λ_ _=>False:=by rw[<-hXc];rfl
 have hXk:Xc.K=X.K:=by rw[<-hXc];rfl
 have hXcalm:Xc.calm=true:=by rw[<-hXc];exact hc
 have fpok:∀{pl:List (Addr×Obj)}{H':Hp},(∀p∈pl,s2.heap.objs.size<=p.1)->(∀b∈fp,H' b=none)->∀b∈fp,FpOk Xc pl H' b:=λ{pl H'} hpl hn b hb=>by
  have k1:b≠HH.objs.size:=Yn (by rw[hC];exact YO (hfl b hb))
  have k2:b∉frs X.stack:=λq=>by
   rcases Yi.mp (I2.Zfm b q)with z|z
   ·exact(f2 b hb).2.1 z
   ·exact(f2 b hb).2.2.1 z
  rw[<-hXc]
  refine⟨hn b hb,k1,k2,.inl hb,λx c e=>(up _ _ e).elim (λz=>(f2 b hb).2.2.2.2.1 x c z) λz=>Nat.ne_of_gt (Nat.lt_trans (by rw[hC];exact YO (hfl b hb)) z.1),λp hp=>?_⟩
  have hp':p∈pl:=by simpa[ZaX,ZaO]using hp
  exact Nat.ne_of_gt (YC (hfl b hb) (hpl p hp'))
 have gX:PG Xc tg g:=hXc▸hg cs HH.objs.size s2 H2 fp
 have tX:Zi9 Xc ifs tt:=hXc▸ht cs HH.objs.size s2 H2 fp
 have eX:PE Xc elt te:=hXc▸he cs HH.objs.size s2 H2 fp
 have hs0:Xc.s₀=s2:=by rw[<-hXc];rfl
 have hh0:Xc.H₀=H2:=by rw[<-hXc];rfl
 have hfs:Xc.fs=frs X.stack:=by rw[<-hXc];rfl
 have hex:Xc.ex=fp:=by rw[<-hXc];rfl
 have loop:codeAny (model X.prog X.w) X.A (.compLoop (.ListComp elt [⟨tg,iter,ifs,0⟩] scope pos) 0 (.ref it) (.ref s2.heap.objs.size) (compEnvC scope cs HH.objs.size X.env)) (compPost (model X.prog X.w) X.A X.xe use QQ (.ref s2.heap.objs.size) HH.objs.size)
   {s2 with heap:=h₁,toks:=s2.toks}:=by
  refine Zft (λn s'=>∃i acc its nn H',Inv Xc [(s2.heap.objs.size,{cls:=.type "list",dict:=none,data:=.seq (its:List Value).toArray nn})] (Z6 js σ) H' s'/\Vals acc its/\acc.length<=sizeLine/\tn i s'.heap/\(∀b∈fp,H' b=none)/\W i n acc H') ?_ m0
   ⟨0,[],[],0,H2,I4,.nil,Yt _,st4,λb hb=>(f2 b hb).1,w0⟩
  rintro n s3 ⟨i,acc,its,nn,H3,I3,va,hlen,st3,fr3,w3⟩
  have pg:∀p∈([(s2.heap.objs.size,{cls:=.type "list",dict:=none,data:=.seq its.toArray nn})]:List (Addr×Obj)),s2.heap.objs.size<=p.1:=λp hp=>by
   simp only[Yi,List.not_mem_nil,or_false]at hp
   subst hp;exact Ye _
  rcases turn i n acc H3 w3 with⟨stop,hl,qn⟩|⟨go,hl,step⟩
  ·have q:=T.done Xc hXp hXw hXk hXcalm i _ s3 (Z6 js σ) H3 (λ_ _=>False) I3 (fpok pg fr3) st3 stop
   rw[hXA]at q
   refine thn q λr s4 ⟨hr,I5⟩=>?_
   subst hr
   have hpin:=I5.pin _ (Yk _ (.head _))
   obtain⟨m5,hn5,_⟩:=I5.loc
   rw[hXe]at hn5
   refine fin _ _ H3 H2 s2 s4 acc m5 I2 (by have:=I5.free;rw[hXe]at this;exact this) hC rfl hn5 (λh' hsb=>?_) (qn _ hpin.2.1)
   have same:∀b o,b≠HH.objs.size->s4.heap.get? b=some o->h'.get? b=some o:=λb o hb e=>hsb.extBut b o hb e
   have un:=I5.base
   rw[hfs,hex,hh0,hs0]at un
   have lt:∀b o,s2.heap.get? b=some o->b<s2.heap.objs.size:=λb o e=>Yj e
   have neC:∀b o,s2.heap.get? b=some o->b≠HH.objs.size:=λb o e=>Yn (by rw[hC];exact YO (lt b o e))
   have neD:∀b o,s2.heap.get? b=some o->b≠s2.heap.objs.size:=λb o e=>Yn (lt b o e)
   have trkC:∀b o,H3 b=some o->b≠HH.objs.size:=λb o e z=>by
    have:=I5.free;rw[hXe]at this;rw[z,show H3 HH.objs.size=none from this]at e;cases e
   refine I2.ZsF (s':={s4 with heap:=h'}) (ch:=fp) (I5.os.trans (by rw[hs0])) ⟨λb o e n hb hx=>same _ _ (neC b o e) (un.keep b o e n hb hx),λb o e n hb hx=>?_,λb o e n hx=>by rw[Zl (neD b o e)];exact un.free b o e n hx,λb o e hx=>?_,λb xs e=>?_,λb o u e=>?_,λb ps e=>?_⟩ (λa o e=>?_) I5.bare λb hb=>⟨(f2 b hb).2.2.2.1,(f2 b hb).2.1,(f2 b hb).2.2.2.2.1,(f2 b hb).2.2.2.2.2⟩
   ·obtain⟨sl,z⟩:=un.slot b o e n hb hx
    exact⟨sl,same _ _ (neC b o e) z⟩
   ·obtain⟨o',z⟩:=un.there b o e hx
    exact⟨o',same _ _ (neC b o e) z⟩
   ·rw[Zl (Yn (I2.hok.lt e))];exact un.tups b xs e
   ·rw[Zl (Yn (I2.hok.lt e))];exact un.frzs b o u e
   ·obtain⟨more,z⟩:=un.tbls b ps e
    exact⟨more,by rw[Zl (Yn (I2.hok.lt e))];exact z⟩
   ·by_cases ha:a=s2.heap.objs.size
    ·subst ha
     rw[Zc]at e;cases e
     exact⟨hl,its,nn,va,same _ _ hDC hpin.1⟩
    ·rw[Zl ha]at e
     have q:=I5.hok a o e
     rw[hXp,hXw]at q
     refine q.Zhb (λb u hb z=>same b u ?_ z) (λb z=>by rw[Zl];exact z;intro y;subst y;rw[hpin.2.1]at z;cases z) (λb xs z=>by rw[Zl];exact z;intro y;subst y;rw[hpin.2.1]at z;cases z) λb o u z=>by rw[Zl];exact z;intro y;subst y;rw[hpin.2.1]at z;cases z
     rcases hb with hb|hb
     ·subst hb;exact trkC _ _ e
     ·exact trkC _ _ hb
  ·have q:=T.item Xc hXp hXw hXk hXcalm i _ s3 (Z6 js σ) H3 (λ_ _=>False) I3 (fpok pg fr3) st3 go
   rw[hXA]at q
   refine thn q λr s4 ⟨u,hr,h4⟩=>?_
   subst hr
   refine thn h4 λ_ s5 ⟨x,H5,I5,r5,y5,st5,fr5⟩=>?_
   have I5':=I5.pinned (fpok pg fr5) (T.obj _ _ st5)
   have again:∀{σ7:St}{H7:Hp}{s7:Shared}{acc7:List V}{its7:List Value}{n7:Nat}{m:Nat},Inv Xc ([(s2.heap.objs.size,{cls:=.type "list",dict:=none,data:=.seq its7.toArray n7})]++Zay fp s5.heap) σ7 H7 s7->Vals acc7 its7->acc7.length<=sizeLine->W (i+1) m acc7 H7->σ7.length=(Z6 js σ).length->(∀(k:Nat) v,(Z6 js σ)[k]?=some (some v)->σ7[k]?=some (some v)) ->
     ∃i acc its nn H',Inv Xc [(s2.heap.objs.size,{cls:=.type "list",dict:=none,data:=.seq (its:List Value).toArray nn})] (Z6 js σ) H' s7/\Vals acc its/\acc.length<=sizeLine/\tn i s7.heap/\(∀b∈fp,H' b=none)/\W i m acc H':=λ{σ7 H7 s7 acc7 its7 n7 m} I7 v7 l7 w7 hl7 hw7=>by
    refine⟨i+1,acc7,its7,n7,H7,(I7.weak hl7.symm hw7).Zcr,v7,l7,T.keep _ _ _ st5 λb hb o e=>(I7.pin (b,o) (Yk _ (Yk _ (ZaR hb e)))).1,λb hb=>?_,w7⟩
    obtain⟨o,e,d⟩:=T.obj _ _ st5 b hb
    exact(I7.pin (b,o) (Yk _ (Yk _ (ZaR hb e)))).2.1
   have keep:∀{σ6:St},Zcx L (Z6 js σ) σ6->σ6.length=(Z6 js σ).length/\∀(k:Nat) v,(Z6 js σ)[k]?=some (some v)->σ6[k]?=some (some v):=λ{σ6} hk=>⟨hk.1,λk v e=>by
    rw[hk.2 k]
    ·exact e
    ·intro z
     have q:=List.all_eq_true.mp hL k z
     simp only[beq_iff_eq]at q
     unfold Z6 at e
     rw[YG,q]at e
     cases e⟩
   have q6:=gX _ s5 (Z6 js σ) H5 x u _ I5' r5 (ho _ _ _ _ _ (fun σ' H' kk z=>And.intro kk z) (step x H5 y5))
   rw[hXe,hXA,hXp,hXw,hXx]at q6
   refine thn q6 λ_ s6 ⟨σ6,H6,I6,k6,q6⟩=>?_
   obtain⟨kl,kv⟩:=keep k6
   have q7:=tX _ s6 σ6 H6 _ I6 q6
   rw[hXe,hXA,hXp,hXw,hXx]at q7
   refine thn q7 λb s7 ⟨H7,I7,q7⟩=>?_
   cases b with
   |false =>
    obtain⟨m',hm,w7⟩:=q7
    exact⟨m',hm,again I7 va hlen w7 kl kv⟩
   |true =>
    have q8:=eX _ s7 σ6 H7 _ I7 q7
    rw[hXe,hXA,hXp,hXw,hXx]at q8
    refine thn q8 λy s8 ⟨v8,H8,I8,r8,m',hm,w8⟩=>?_
    have pinD:=I8.pin _ (Yk _ (Yx _ (.head _)))
    have hnf:∀p∈Zay fp s5.heap,p.1≠s2.heap.objs.size:=λp hp=>by
     obtain⟨z,_⟩:=Zf5 hp
     exact Yn (hfl _ z)
    have va':=va.length
    refine call_meets F.slot_list_append ⟨_,pinD.1,rfl⟩ F.entry_list_append (F.args_list_append_2 _ _) (PySem.list_append s2.heap.objs.size its.toArray nn y (by rw[Yu];omega)) ⟨pinD.1,?_⟩
    have e9:=PySem.IsL.update pinD.1 (λa=>a.push y)
    have e9':its.toArray.push y=(its++[y]).toArray:=by simp
    dsimp only at e9
    rw[e9']at e9
    have I8':Inv Xc (Zay fp s5.heap) σ6 H8 s8:=I8.ZO λp hp=>I8.pin p (Yk _ (Yk _ hp))
    have hXpn:Xc.pn=[]:=by rw[<-hXc];rfl
    have hXs:s2.heap.objs.size∉frs X.stack:=by rw[<-hfs];exact pinD.2.2.2.1
    have I9:=I8'.turned (t':=s8.toks) (it:=s2.heap.objs.size) (h':=s8.heap.update s2.heap.objs.size (Obj.mapSeq λa=>a.push y)) (λb o hb e=>(Heap.get?_update_other s8.heap _ (Ne.symm hb)).trans e) pinD.2.1 pinD.2.2.1
     (.inr (by rw[hs0];exact Ye _)) (λx c e=>by
      rw[hXe]at e
      intro z
      rcases up _ _ e with y|y
      ·obtain⟨v,q⟩:=I2.cell x c y
       exact absurd q.lt (by rw[z];exact YI _)
      ·have:=y.1
       rw[z,hC]at this
       exact absurd this (Nat.not_lt_of_le (YR _))) (λp hp=>by rw[hXpn,List.nil_append]at hp;exact hnf p hp)
    have I10:=I9.ZO (pins':=[(s2.heap.objs.size,{cls:=.type "list",dict:=none,data:=.seq (its++[y]).toArray _})]++Zay fp s5.heap) λp hp=>by
     rcases Yq.mp hp with z|z
     ·simp only[Yi,List.not_mem_nil,or_false]at z
      subst z
      exact⟨e9,pinD.2.1,pinD.2.2.1,pinD.2.2.2.1,by intro v z;cases z⟩
     ·exact I9.pin p (Yk _ z)
    exact⟨m',hm,again I10 (va.append (.cons r8 .nil)) (by rw[YN,List.length_singleton];omega) w8 kl kv⟩
 exact codeAny_compStart_list loop (T.self _ 0 _ _ _ st4 loop)
theorem ZV {tg elt iter:Expr}{ifs:List Expr}{scope:Scope}{pos:Pos}{wi:TI}{g:TG}{tt:TT}{te:TE} (Nc:List Str) (js:List (Option Nat)) {L:List Nat}
  (hc:X.calm=true) (hok:ZbJ X.env.scope scope=true) (htk:takesC X.N Nc scope js 0=true) (hi:PI X tg iter wi)
  (hg:∀cl C s2 H2 fp,PG (ZaX X Nc scope cl C s2 H2 fp) tg g) (ht:∀cl C s2 H2 fp,Zi9 (ZaX X Nc scope cl C s2 H2 fp) ifs tt) (he:∀cl C s2 H2 fp,PE (ZaX X Nc scope cl C s2 H2 fp) elt te)
  (ho:Zgp g L) (hL:(L.all λk=>js[k]?==some none)=true:=by rfl) (hs:∀x,foldedSetIterable iter X.env x=pure x:=by intro _;rfl):PE X (.ListComp elt [⟨tg,iter,ifs,0⟩] scope pos) (Zqe wi g tt te js):=by
 intro pins s σ H Q I h
 rw[eval_ListComp]
 exact ZlD (use:=none) hc hok htk hi hg ht he hs ho hL I h λD C H' H2 s2 s' xs m I2 hHC e1 e2 hn hI q=>⟨m,hn,λh' hsb=>⟨.ref D,_,hI h' hsb,rfl,q⟩⟩
theorem Zc7 {i:Nat}{x:Str}{pos' spos:Pos}{tg elt iter:Expr}{ifs:List Expr}{scope:Scope}{pos:Pos}{wi:TI}{g:TG}{tt:TT}{te:TE} (Nc:List Str) (js:List (Option Nat)) {L:List Nat}
  (hN:X.N.Nodup) (hxi:X.N[i]?=some x) (hx:Loc X.env.scope x)
  (hc:X.calm=true) (hok:ZbJ X.env.scope scope=true) (htk:takesC X.N Nc scope js 0=true) (hi:PI X tg iter wi)
  (hg:∀cl C s2 H2 fp,PG (ZaX X Nc scope cl C s2 H2 fp) tg g) (ht:∀cl C s2 H2 fp,Zi9 (ZaX X Nc scope cl C s2 H2 fp) ifs tt) (he:∀cl C s2 H2 fp,PE (ZaX X Nc scope cl C s2 H2 fp) elt te)
  (ho:Zgp g L) (hL:(L.all λk=>js[k]?==some none)=true:=by rfl) (hs:∀x,foldedSetIterable iter X.env x=pure x:=by intro _;rfl)
  (hsw:swapsWith (.ListComp elt [⟨tg,iter,ifs,0⟩] scope pos) (some (.Name x pos')) spos.line X.env=pure true:=by rfl)
  (hf:X.fn x=true\/X.env.scope.names.lookup x=some .local:=by first|exact .inl rfl|exact .inr rfl|assumption) :
  PS X (.Assign [.Name x pos'] (.ListComp elt [⟨tg,iter,ifs,0⟩] scope pos) spos) (ZqO (Zqe wi g tt te js) (Zfe i)):=by
 intro pins s σ H D I h
 rw[exec_Assign_Name_used _ _ _ _ hsw]
 refine Ya (wpAny_standAt (Ya ?_))
 show wpAny _ _ (comprehension _ _ _ _ _ _ _ _ >>= _) _ _ _
 refine Ya (thn (Q:=λ_ s'=>∃σ' H',Inv X pins σ' H' s'/\D.nx σ' H') (ZlD (Q:=λv H1=>Zfe i v σ H1 D.nx) (use:=some (assign (.Name x pos') X.env)) hc hok htk hi hg ht he hs ho hL I h ?_) λ_ s' ⟨σ',H',I',q⟩=>Yb (Yb ⟨σ',H',I',q⟩))
 intro D' C H' H2 s2 s' xs m I2 hHC e1 e2 hn hI q
 obtain⟨oC,es,ep,hoC,hdC,hrest⟩:=id hn
 have leC:s2.heap.objs.size<=C:=by rw[e1,e2];exact YR _
 have ltC:s2.heap.objs.size<C:=by rw[e1,e2];exact Nat.lt_succ_self _
 have neDC:C≠D':=by rw[e2];exact Nat.ne_of_gt ltC
 have fresh:s2.heap.get? C=none:=by
  cases e:s2.heap.get? C with
  |none=>rfl
  |some o=>exact absurd (YC (Yj e) leC) (YI _)
 have neL:C≠X.env.locals:=Nat.ne_of_gt (YC I2.lt leC)
 have nfs:C∉X.fs:=I2.Zl5 leC
 have ncl:∀x c,X.env.cells.lookup x=some c->c≠C:=λx c e z=>by
  obtain⟨v,q⟩:=I2.cell x c e
  exact absurd (YC q.lt leC) (by rw[z];exact YI _)
 have npn:∀p∈X.pn++pins,p.1≠C:=λp hp z=>by
  have:=(I2.pin p hp).1
  rw[z,fresh]at this;cases this
 have hH:(upd H' D' (HO.lst xs)) C=none:=by rw[Zl neDC];exact hHC
 have I0:=hI s'.heap Zhk
 have I1:Inv X (pins++[(C,oC)]) σ (upd H' D' (.lst xs)) s':=I0.ZO λp hp=>by
  rcases Yq.mp hp with z|z
  ·exact I0.pin p (Yk _ z)
  ·simp only[Yi,List.not_mem_nil,or_false]at z
   subst z
   exact⟨hoC,hH,neL,nfs,λv z=>by rw[hdC]at z;cases z⟩
 show wpAny _ _ _ _ _ _
 refine thn (Zm (X:=X) (i:=i) hN hxi hx hf (pins++[(C,oC)]) s' σ _ (.ref D') (.ref D') _ I1 rfl q) λ_ s3 ⟨σ3,H3,I3,q3⟩=>?_
 have pC:=I3.pin (C,oC) (Yk _ (Yk _ (.head _)))
 refine⟨m,⟨oC,es,ep,pC.1,hdC,hrest⟩,λh' hsb=>⟨σ3,H3,?_,q3⟩⟩
 exact I3.Zcr.turned (t':=s3.toks) (it:=C) (λb o hb e=>hsb.extBut b o hb e) pC.2.1 neL (.inr (Ym I2.sz leC)) ncl npn
end
end L2
namespace L2
open PySem PySem.Spec PyProof.Rows PySem.W
noncomputable def CF (n:Nat) (P:Nat->Bool) (vals:Nat->V) (H1:Hp) (i m:Nat) (acc:List V) (H:Hp):Prop:=m=n-i/\i<=n/\acc=((List.range i).filter P).map vals/\Ze H1 H
theorem CF.take {n:Nat}{P:Nat->Bool}{vals:Nat->V}{H1 H:Hp}{i:Nat}{v:V} (hi:i<n) (hP:P i=true) (hv:v=vals i) (s:Ze H1 H):∃m',m'<n-i/\CF n P vals H1 (i+1) m' (((List.range i).filter P).map vals++[v]) H :=
 ⟨n-(i+1),by omega,rfl,hi,by rw[YV,List.filter_append,YJ,hv];simp[hP],s⟩
theorem CF.skip {n:Nat}{P:Nat->Bool}{vals:Nat->V}{H1 H:Hp}{i:Nat} (hi:i<n) (hP:P i=false) (s:Ze H1 H):∃m',m'<n-i/\CF n P vals H1 (i+1) m' (((List.range i).filter P).map vals) H :=
 ⟨n-(i+1),by omega,rfl,hi,by rw[YV,List.filter_append,YJ];simp[hP],s⟩
theorem Zgb {J:It}{n:Nat}{H1:Hp}{g:TG}{tt:TT}{te:TE}{σ0:St}{Q:VK} (P:Nat->Bool) (vals:Nat->V) (hn:n<sizeLine) (hgo:∀i H,Ze H1 H->i<n->J.go i H) (hstop:∀H,Ze H1 H->J.stop n H)
  (hb:∀i x H H',i<n->Ze H1 H->J.yld i H x H'->g x σ0 H' fun σ2 H2=>tt σ2 H2 λb H3=>if b=true then te σ2 H3 λv H4=>∃m',m'<n-i/\CF n P vals H1 (i+1) m' (((List.range i).filter P).map vals++[v]) H4 else ∃m',m'<n-i/\CF n P vals H1 (i+1) m' (((List.range i).filter P).map vals) H3)
  (hk:∀l H',Ze H1 H'->H' l=none->Q (.ref l) (upd H' l (.lst (((List.range n).filter P).map vals)))) :
  Znu J g tt te σ0 Q H1:=by
 refine⟨CF n P vals H1,⟨n,rfl,Yt _,rfl,Ze.refl _⟩,?_⟩
 rintro i m acc H ⟨rfl,hi,rfl,s⟩
 have hlen:(((List.range i).filter P).map vals).length<=n:=by
  rw[Yf]
  have:=Y1 P (List.range i)
  rw[Y0]at this
  omega
 by_cases h:i<n
 ·exact .inr ⟨hgo i H s h,by omega,λx H' y=>hb i x H H' h s y⟩
 ·have:i=n:=by omega
  subst this
  exact .inl ⟨hstop H s,by omega,λp hp=>hk p H s hp⟩
theorem Zdu.over {f:Nat->Int}{a b lo p:Nat} (h:Zdu f a b lo) (h1:a<=p) (h2:p<=b) (hne:p≠lo):Over f lo p:=by
 obtain⟨l1,l2,l3,l4⟩:=h
 rcases Nat.lt_or_gt_of_ne hne with z|z
 ·exact .inr ⟨z,λr r1 r2=>l3 r (by omega) r2⟩
 ·exact .inl ⟨z,λr r1 r2=>l4 r r1 (by omega)⟩
theorem ZjM {ns T:List Int}{g:Nat->Int} (hT:Zu ns T) (hg:∀q p,q<ns.length->p<ns.length->Over (nth ns) q p->(q<p->g q<=g p)/\(p<q->g q<g p)):∀p,p<ns.length->Z2 g ns.length p (T.getD p 0):=by
 intro p hp
 have pv:∀q,Zbq (nth ns) p q->Zbq g p q:=λq h=>by
  refine⟨h.1,(hg q p (by have:=h.1;omega) hp (.inl ⟨h.1,λr r1 r2=>?_⟩)).1 h.1,λr r1 r2=>(hg p r hp (by omega) (.inr ⟨r2,λs s1 s2=>h.2.2 s (by omega) s2⟩)).2 r2⟩
  by_cases z:r=p
  ·rw[z];exact h.2.1
  ·have:=h.2.2 r r1 (by omega);have:=h.2.1;omega
 have nx:∀r,Zba (nth ns) ns.length p r->Zba g ns.length p r:=λq h=>by
  refine⟨h.1,h.2.1,(hg q p h.2.1 hp (.inr ⟨h.1,λr r1 r2=>?_⟩)).2 h.1,λs s1 s2=>(hg p s hp (by have:=h.2.1;omega) (.inl ⟨s1,λr r1 r2=>h.2.2.2 r r1 (by omega)⟩)).1 s1⟩
  by_cases z:r=p
  ·rw[z];exact h.2.2.1
  ·have:=h.2.2.2 r (by omega) r2;have:=h.2.2.1;omega
 have np:Zfw (nth ns) p->Zfw g p:=λh q hq=>(hg p q hp (by omega) (.inr ⟨hq,λr r1 r2=>h r r2⟩)).2 hq
 have nn:ZdN (nth ns) ns.length p->ZdN g ns.length p:=λh r r1 r2=>(hg p r hp r2 (.inl ⟨r1,λs s1 s2=>h s s1 (by omega)⟩)).1 r1
 have hE:Z2 (nth ns) ns.length p (T.getD p 0):=hT.2 p hp
 rcases hE with⟨h1,h2,h⟩|⟨q,h1,h2,h⟩|⟨r,h1,h2,h⟩|⟨q,r,h1,h2,h⟩
 ·exact .inl ⟨np h1,nn h2,h⟩
 ·exact .inr (.inl ⟨q,pv q h1,nn h2,h⟩)
 ·exact .inr (.inr (.inl ⟨r,np h1,nx r h2,h⟩))
 ·refine .inr (.inr (.inr ⟨q,r,pv q h1,nx r h2,?_⟩))
  rw[h]
  have hq:q<ns.length:=by have:=h1.1;omega
  have hqr:q<r:=by have:=h1.1;have:=h2.1;omega
  by_cases z:nth ns q<=nth ns r
  ·have:=(hg q r hq h2.2.1 (.inl ⟨hqr,λs s1 s2=>by
    by_cases y:s=r
    ·rw[y];exact z
    ·by_cases y2:s=p
     ·rw[y2];exact h1.2.1
     ·have:=h1.2.1
      by_cases y3:s<p
      ·have:=h1.2.2 s s1 y3;omega
      ·have:=h2.2.2.2 s (by omega) (by omega);omega⟩)).1 hqr
   rw[Yd z,Yd (by omega)]
  ·have:=(hg r q h2.2.1 hq (.inr ⟨hqr,λs s1 s2=>by
    have:=h1.2.1;have:=h2.2.2.1
    by_cases y:s=q
    ·rw[y];omega
    ·by_cases y2:s=p
     ·rw[y2];omega
     ·by_cases y3:s<p
      ·have:=h1.2.2 s (by omega) y3;omega
      ·have:=h2.2.2.2 s (by omega) (by omega);omega⟩)).2 hqr
   rw[Yc z,Yc (by omega)]
end L2
namespace HT
open PySem PyProof.Rows
section
open PySem.SeqAt
open PySem.AutoSeq1 (wpAny_loadPart')
open PySem.MeetsSeq PySem.MeetsSeq2 PySem.MeetsSeq3
variable {prog:Program}{w:World}{A:Around}{E:Value->Shared->Prop}{s:Shared}
theorem Zhs {t sl:Addr}{items:Array Value}{vl vu:Value}{lo hi:Option Int}{Q:Value->Shared->Prop} (ht:IsTup s.heap t items) (hs:s.heap.IsSliceOf sl vl vu .none) (pl:IsPart vl lo) (pu:IsPart vu hi)
  (hw:sIx items.size 0 lo=0/\sIx items.size items.size hi=items.size) (h:Q (.ref t) s):wpAny (model prog w) A (getItem (.ref t) (.ref sl)) Q E s:=by
 obtain⟨os,hos,hcs,hds⟩:=id hs
 have hTs:s.TypeIs (.ref sl) "slice":=⟨os,hos,hcs⟩
 unfold getItem
 try with_reducible refine wpAny_holding ?_
 first|refine Ya (Yb ?_)|skip
 refine Ya (wpAny_sequenceKey ht.typeIs (by decide) ?_)
 refine Ya (wpAny_callSpecial?_slot (name:=Str.ofString "__getitem__") ht.typeIs PyProof.Rows.slot_tuple_getitem
  (wpAny_call_entry PyProof.Rows.slot_tuple_getitem ht.typeIs entry_tuple_getitem ?_ (args_tuple_getitem _ _)))
 show wpAny _ _ (Builtin.Tuple.tupleItemsOf (.ref t) >>= _) _ _ s
 refine Ya (tupleItemsOf_ ht ?_)
 refine Ya (wpAny_typeOf hTs ?_)
 rw[Yd (by decide)]
 refine Ya (Zea hs pl pu ?_)
 have hyes:(((sIx items.size 0 lo:Nat):Int)==0&&(1:Int)==1&&(sIx items.size items.size hi-sIx items.size 0 lo)==items.size)=true:=by
  rw[hw.1,hw.2];simp
 show wpAny _ _ (if (((sIx items.size 0 lo:Nat):Int)==0&&(1:Int)==1&&(sIx items.size items.size hi-sIx items.size 0 lo)==items.size)=true then _ else _) _ _ s
 rw[Yd hyes]
 refine Ya ?_
 unfold Builtin.Tuple.tupleIsExact
 refine Ya (wpAny_typeOf ht.typeIs (Yb ?_))
 rw[Yd (by decide)]
 refine Ya (wpAny_rule ?_)
 first
  |exact Yb ⟨_,rfl,Yb h⟩
  |exact Ya (Yb (Yb ⟨_,rfl,Yb h⟩))
  |exact Ya (Yb ⟨_,rfl,Yb h⟩)
end
end HT
namespace L2
open PySem PySem.Spec PyProof.Rows PySem.W
section
variable {X:Cx}
noncomputable def rSlQ (K:Frag):V->Option Int->Option Int->Hp->VK->Prop:=λx lo hi H Q=>∃a xs,x=.ref a/\((SqL K H a xs/\∀p,H p=none->Q (.ref p) (upd H p (.lst (Zfr xs lo hi)))) \/
 (SqT K H a xs/\(HT.sIx xs.length 0 lo=0/\HT.sIx xs.length xs.length hi=xs.length->Q (.ref a) H)/\(¬ (HT.sIx xs.length 0 lo=0/\HT.sIx xs.length xs.length hi=xs.length)->∀p,H p=none->Q (.ref p) (upd H p (.tup (Zfr xs lo hi))))))
theorem sl_q {K:Frag} (hK:X.K=K):SlR X (rSlQ K):=by
 subst hK
 intro pins s σ H x v vl vu lo hi sl Q I rx hs pl pu h
 obtain⟨a,xs,rfl,h|⟨hx,h1,h2⟩⟩:=h
 ·exact Zmi pins s σ H _ v vl vu lo hi sl Q I rx hs pl pu ⟨a,xs,rfl,h⟩
 ·by_cases hw:HT.sIx xs.length 0 lo=0/\HT.sIx xs.length xs.length hi=xs.length
  ·cases rx
   obtain⟨its,r,ht,hz⟩:=I.tuple hx
   have hlen:its.toArray.size=xs.length:=by rw[Yu];exact r.length.symm
   refine⟨"tuple",_,PyProof.Rows.slot_tuple_getitem.lookup,ht.typeIs,?_⟩
   exact HT.Zhs ht hs pl pu (by rw[hlen];exact hw) ⟨.ref a,H,I,rfl,h1 hw⟩
  ·exact ZsU pins s σ H _ v vl vu lo hi sl Q I rx hs pl pu ⟨a,xs,rfl,hx,hw,h2 hw⟩
end
section
variable {X:Cx}{tg l:Expr}{tl:TE}
theorem Zti {K:Frag} (hK:X.K=K) (hl:PE X l tl):PI X tg l (Zp4 K tl):=hK▸Zag hl
theorem ZvI {K:Frag} (hK:X.K=K) (hl:PE X l tl):PI X tg l (iTup K tl):=hK▸Zl9 hl
end
theorem Zra {xs:List V}{lo hi:Option Int} (h:HT.sIx xs.length 0 lo=0/\HT.sIx xs.length xs.length hi=xs.length):Zfr xs lo hi=xs:=by
 unfold Zfr
 rw[h.1,h.2];simp
theorem ZnC (T:List Int):∀k a,(Zar T k a).length<k->Zar T (k+1) a=Zar T k a
 |0,_,h=>by omega
 |k+1,a,h=>by
  rw[Zar]at h⊢
  by_cases z:0<=a/\a<T.length
  ·rw[Yd z]at h⊢
   rw[ZnC T k _ (by simpa using h),Zar,Yd z]
  ·rw[Yc z]at h⊢
   rw[Zar,Yc z]
noncomputable def way (T:List Int) (p:Nat):List Nat:=Zar T T.length (nth T p)
theorem Zjk {T:List Int}{p:Nat} (h:nth T p=-1):way T p=[]:=by
 unfold way
 rw[h]
 cases T.length with
 |zero=>rfl
 |succ k=>rw[Zar,Yc (by omega)]
theorem Zfy {ns T:List Int} (hT:Zu ns T) {p q:Nat} (hp:p<ns.length) (h:nth T p=q):way T p=q::way T q:=by
 have hE:Z2 (nth ns) ns.length p (q:Int):=h▸hT.2 p hp
 have hq:q<ns.length:=by
  rcases Zc6 hp hE with z|⟨q',e,z,_⟩<;>omega
 have hd:=Zia hp hE
 have hl:=ZoN (f:=nth ns) hp
 unfold way
 rw[h,hT.1]
 obtain⟨k,hk⟩:∃k,ns.length=k+1:=⟨ns.length-1,by omega⟩
 rw[hk,Zar,Yd ⟨by omega,by rw[hT.1];omega⟩,show((q:Nat):Int).toNat=q by omega]
 rw[ZnC T k (nth T q)]
 rw[(Zhm hT k q hq (by omega)).2]
 omega
theorem Z4 (T:List Int) (p:Nat):Zai T p=(way T p).map λq=>((q:Nat):Int):=rfl
theorem ZW {ns T:List Int} (hT:Zu ns T) {p:Nat} (hp:p<ns.length):nth T p=-1\/∃q:Nat,nth T p=q/\q<ns.length/\Over (nth ns) q p/\dep (nth ns) ns.length p=dep (nth ns) ns.length q+1:=by
 rcases Zc6 hp (hT.2 p hp)with z|⟨q,e,hq,hO⟩
 ·exact .inl z
 ·have e':nth T p=(q:Int):=e
  have hE:Z2 (nth ns) ns.length p (q:Int):=e'▸hT.2 p hp
  exact .inr ⟨q,e,hq,hO,Zia hp hE⟩
noncomputable def Za9 (T:List Int) (p:Nat):Nat:=((way T p).filter λo=>decide (p<o)).length
noncomputable def Zg (T:List Int):List Int:=(List.range T.length).map λp=>(Za9 T p:Int)
theorem ZQ (T:List Int):(Zg T).length=T.length:=by simp[Zg]
theorem ZaJ {T:List Int}{p:Nat} (h:p<T.length):nth (Zg T) p=Za9 T p:=by simp[nth,Zg,Yl,h]
theorem Zee {P Q:Nat->Bool}{l:List Nat} (h:∀x∈l,P x=Q x):(l.filter P).length=(l.filter Q).length:=by
 rw[List.filter_congr h]
theorem Zap {ns T:List Int} (hT:Zu ns T) {p o:Nat} (hp:p<ns.length):o∈way T p↔o<ns.length/\Over (nth ns) o p:=by
 unfold way
 rw[hT.1]
 exact(Zhm hT ns.length p hp (YZ (ZoN hp))).1 o
theorem Zrb {f:Nat->Int}{o q p:Nat} (h:Over f o q) (k:Over f q p):(p<q->p<o->q<o)/\(q<p->q<o->p<o):=by
 refine⟨λh1 h2=>Nat.lt_of_not_le λz=>?_,λh1 h2=>Nat.lt_of_not_le λz=>?_⟩
 ·rcases h with⟨a,b⟩|⟨a,b⟩
  ·rcases k with⟨c,d⟩|⟨c,d⟩
   ·omega
   ·have:=d o (by omega) a;have:=b q a (Ye _);omega
  ·omega
 ·rcases h with⟨a,b⟩|⟨a,b⟩
  ·omega
  ·rcases k with⟨c,d⟩|⟨c,d⟩
   ·have:=d o h2 z;have:=b q (Ye _) a;omega
   ·omega
theorem ZlE {ns T:List Int} (hT:Zu ns T) {p q:Nat} (hp:p<ns.length) (hq:q<ns.length) (h:nth T p=q) (hO:Over (nth ns) q p):Za9 T p=Za9 T q+if p<q then 1 else 0:=by
 unfold Za9
 rw[Zfy hT hp h,List.filter_cons]
 have e:((way T q).filter λo=>decide (p<o)).length=((way T q).filter λo=>decide (q<o)).length:=by
  refine Zee λo ho=>?_
  have ho':=((Zap hT hq).mp ho).2
  have hs:=Zrb ho' hO
  have hne:=hO.ne
  have hne2:=ho'.ne
  rw[Bool.eq_iff_iff,decide_eq_true_eq,decide_eq_true_eq]
  rcases Nat.lt_or_gt_of_ne hne with z|z
  ·exact⟨λy=>by omega,λy=>hs.2 z y⟩
  ·exact⟨λy=>hs.1 z y,λy=>by omega⟩
 by_cases z:p<q
 ·rw[Yd (by simpa using z),Yd z,YQ,e]
 ·rw[Yc (by simpa using z),Yc z,e,Nat.add_zero]
theorem ZjN {ns T:List Int} (hT:Zu ns T) {R:Nat->Nat->Prop} (h1:∀p q,p<ns.length->q<ns.length->nth T p=q->Over (nth ns) q p->R q p) (h2:∀o q p,Over (nth ns) o q->Over (nth ns) q p->R o q->R q p->R o p) :
  ∀d p o,p<ns.length->o<ns.length->dep (nth ns) ns.length p=d->Over (nth ns) o p->R o p:=by
 intro d
 induction d with
 |zero =>
  intro p o hp ho hd hO
  rcases ZW hT hp with z|⟨q,e,hq,hOq,hdq⟩
  ·exact absurd hO (Zga hp ho (z▸hT.2 p hp))
  ·omega
 |succ d ih =>
  intro p o hp ho hd hO
  rcases ZW hT hp with z|⟨q,e,hq,hOq,hdq⟩
  ·exact absurd hO (Zga hp ho (z▸hT.2 p hp))
  ·rcases(ZjH hp ho (show Z2 (nth ns) ns.length p (q:Int)from(show T.getD p 0=(q:Int)from e)▸hT.2 p hp)).mp hO with y|y
   ·rw[y];exact h1 p q hp hq e hOq
   ·exact h2 o q p y hOq (ih q o hq ho (by omega) y) (h1 p q hp hq e hOq)
theorem ZlF {ns T:List Int} (hT:Zu ns T) {p o:Nat} (hp:p<ns.length) (ho:o<ns.length) (hO:Over (nth ns) o p):Za9 T o<=Za9 T p/\(p<o->Za9 T o<Za9 T p):=by
 refine ZjN hT (R:=λo p=>Za9 T o<=Za9 T p/\(p<o->Za9 T o<Za9 T p)) (λp q hp hq e hO=>?_) (λo q p h1 h2 r1 r2=>?_) _ p o hp ho rfl hO
 ·have:=ZlE hT hp hq e hO
  refine⟨by omega,λz=>?_⟩
  rw[Yd z]at this;omega
 ·refine⟨Ym r1.1 r2.1,λz=>?_⟩
  by_cases y:p<q
  ·have:=r2.2 y;have:=r1.1;omega
  ·have hne:=h2.ne
   have:=r1.2 (by omega);have:=r2.1;omega
theorem Zrc {ns T:List Int} (hT:Zu ns T):Zu (Zg T) T:=by
 have eT:T.length=ns.length:=hT.1
 refine⟨by rw[ZQ],λp hp=>?_⟩
 rw[ZQ,eT]at hp⊢
 refine ZjM hT (λq p hq hp hO=>?_) p hp
 have:=ZlF hT hp hq hO
 rw[ZaJ (by omega),ZaJ (by omega)]
 exact⟨λ_=>by omega,λz=>by have:=this.2 z;omega⟩
section
variable {X:Cx}{pins:List (Addr×Obj)}{σ:St}{H:Hp}{s:Shared}{h':Heap}
theorem Inv.ZvJ {t':Nat}{fp:List Addr}{T:Addr}{o:HO} (I:Inv X pins σ H s) (k:∀b u,b∉fp->s.heap.get? b=some u->h'.get? b=some u) (hf:∀b∈fp,FpOk X pins H b) (hT:s.heap.objs.size<=T) (new:Zaa X.prog X.w (upd H T o) h' T o) :
  Inv X pins σ (upd H T o) {s with heap:=h',toks:=t'}:=by
 have nit:∀b u,H b=some u->b∉fp:=λb u e z=>by rw[(hf b z).1]at e;cases e
 have hfr:H T=none:=I.hok.fresh hT
 have neT:∀b u,s.heap.get? b=some u->b≠T:=λb u e z=>absurd (Yj e) (by rw[z];exact Nat.not_lt_of_le hT)
 have neH:∀b u,H b=some u->b≠T:=λb u e z=>by rw[z,hfr]at e;cases e
 refine I.step (g':=s.gens) (d':=s.drawn) (ch:=fp) (λb hb=>?_) (λb o _ _ hc e _=>k b o hc e) (λb o _ _ hc e _=>⟨o.slots,k b o hc e⟩) (λb u _ e n=>by rw[Zl (neT b u e)];exact n)
  (λb o hc e=>⟨o,k b o hc e⟩) (λb xs e=>by rw[Zl (neH b _ e)];exact e) (λb o u e=>by rw[Zl (neH b _ e)];exact e) (λb ps e=>⟨#[],by rw[Zl (neH b _ e),e];simp⟩) (λm hm=>?_) (λb u e=>?_) I.bare
 ·obtain⟨_,f1,_,f3,f4,f5⟩:=hf b hb
  exact⟨f3,f1,f4,f5⟩
 ·obtain⟨o,es,ep,ho,r⟩:=hm
  exact⟨o,es,ep,k _ o (λz=>(hf _ z).2.1 rfl) ho,r⟩
 ·by_cases z:b=T
  ·subst z
   rw[Zc]at e;cases e
   exact new
  ·rw[Zl z]at e
   refine(I.hok b u e).Zhb (λc v hc q=>k c v ?_ q) (λc q=>?_) (λc xs q=>?_) λc o u q=>?_
   ·rcases hc with y|y
    ·rw[y];exact nit b u e
    ·exact nit c _ y
   ·rw[Zl (neH _ _ q)];exact q
   ·rw[Zl (neH _ _ q)];exact q
   ·rw[Zl (neH _ _ q)];exact q
noncomputable def Ite (K : Frag) (a : Addr) : It :=
  ⟨fun i H => ∃ xs x, SqL K H a xs ∧ xs[i]? = some x,
   fun i H v H' => ∃ p x, H p = none ∧ v = .ref p ∧ H' = upd H p (.tup [.int (i : Int), x]) ∧ ∀ xs, SqL K H a xs → xs[i]? = some x,
   fun i H => ∃ xs, SqL K H a xs ∧ xs.length = i⟩
theorem Zrd {P:Program}{w:World}{K:Frag}{elts:List Expr} {x1}{pos:Pos}{a e it:Addr} (h1:e≠it) (h2:a≠e) (h3:a≠it) :
  Turn P w K (.Tuple elts x1 pos) (Ite K a) [e,it] e (λi h=>(∃old,IsEnum h e it (i:Int) old)/\h.IsListIter it a i) where
 mem:=by simp
 obj:=λi h st c hc=>by
  obtain⟨⟨old,q1⟩,⟨o4,q4,_,d4⟩⟩:=st
  simp at hc
  rcases hc with rfl|rfl
  ·exact⟨_,q1,λv z=>by cases z⟩
  ·exact⟨_,q4,λv z=>by rw[d4]at z;cases z⟩
 keep:=λi h h' st k=>by
  obtain⟨⟨old,q1⟩,q4⟩:=st
  exact⟨⟨old,k e (by simp) _ q1⟩,q4.at λo z=>k it (by simp) o z⟩
 item:=by
  intro X hP hw hK hc i pins s σ H E I hf st hg
  subst hP hw hK
  obtain⟨xs,x,qa,hx⟩:=hg
  obtain⟨is1,r1,p1,hz1⟩:=I.list qa
  obtain⟨u,hu,ru⟩:=r1.get hx
  have W:=WalksT.enumerate (prog:=X.prog) (w:=X.w) (I.ok.hd hc) e it a h1 h2 h3 is1.toArray
  have hi:i<is1.toArray.size:=by
   have:=(YA.mp hu).1
   simpa using this
  refine W.item i s _ E hi ⟨st.1,st.2,p1.isList⟩ λT vals h' tk Pt hT hTup Mid keep=>⟨_,rfl,W.go elts x1 pos i T _ _ E Mid λh2' St2 keep2=>?_⟩
  obtain⟨t,y,hy,rfl⟩:=Pt
  have hyu:y=u:=by
   have:is1[i]?=some y:=by simpa using hy
   rw[hu]at this;exact(YE this).symm
  subst hyu
  have nT:=W.apart i T h' Mid
  have hfr:H T=none:=I.hok.fresh hT
  have kk:∀b o,b∉[e,it]->s.heap.get? b=some o->h2'.get? b=some o:=λb o hb q=>keep2 b o hb (keep b o hb q)
  have nTe:∀c∈[e,it],c≠T:=λc hc z=>nT (z▸hc)
  refine⟨.ref T,_,Inv.ZvJ (s:=s) (t':=tk) (o:=.tup [.int (i:Int),x]) I kk hf hT ?_,rfl,⟨T,x,hfr,rfl,rfl,λxs' q'=>?_⟩,⟨?_,St2.2.1⟩,λc hc=>?_⟩
  ·obtain⟨oT,q1,q2,n,q3⟩:=hTup
   exact⟨by show 2<=sizeLine;decide,[.int (i:Int) t,y],.cons ⟨t,rfl⟩ (.cons ru .nil),⟨oT,keep2 T oT nT q1,q2,n,q3⟩⟩
  ·rw[I.Zcq q' qa];exact hx
  ·obtain⟨old,q⟩:=St2.1
   exact⟨old,by rw[show(((i+1:Nat)):Int)=(i:Int)+1 by omega]at *;exact q⟩
  ·rw[Zl (nTe c hc)];exact(hf c hc).1
 done:=by
  intro X hP hw hK hc i pins s σ H E I hf st hg
  subst hP hw hK
  obtain⟨xs,qa,hx⟩:=hg
  obtain⟨is1,r1,p1,_⟩:=I.list qa
  have W:=WalksT.enumerate (prog:=X.prog) (w:=X.w) (I.ok.hd hc) e it a h1 h2 h3 is1.toArray
  have hi:i=is1.toArray.size:=by
   have:=r1.length
   simp;omega
  refine W.done s _ E ?_ λh' tk keep=>⟨rfl,I.Zhl (t':=tk) (fp:=[e,it]) (λc o hc q=>keep c o hc q) hf⟩
  rw[<-hi]
  exact⟨st.1,st.2,p1.isList⟩
 self:=λA i s Q E st h=>by
  obtain⟨⟨old,q⟩,_⟩:=st
  exact wpAny_pyIter_enum q h
noncomputable def Ztj (K:Frag) (ta:TA):TI:=fun σ H R=>ta σ H λvs H1=>∃a xs,vs=[.ref a]/\SqL K H1 a xs/\R (Ite K a) H1
theorem ZoP:bootBuiltins "enumerate"=some (.type "enumerate"):=by decide +kernel
theorem Zmv {K:Frag}{elts:List Expr} {x1}{tp:Pos}{e1:Expr}{ta:TA}{p pos:Pos} (hK:X.K=K) (hg:Gl X "enumerate") (hm:X.mg "enumerate"=none) (ha:PA X [e1] ta) (hs:starEach [e1] X.env=[(false,eval e1 X.env)]:=by rfl) :
  PI X (.Tuple elts x1 tp) (.Call (.Name "enumerate" p) [e1] [] pos) (Ztj K ta):=by
 subst hK
 intro pins s σ H R I h
 refine wpAny_Call_Name_kw (Zbm I hg hm ZoP ?_)
 refine PyProof.Rows.callWith_type1 (thn (ha pos pins s σ H _ I h) λus s1 ⟨vs,H1,I1,r1,a,xs,e1,qa,q⟩=>?_) hs rfl
 subst e1
 obtain⟨u,rfl,ru⟩:=r1.one
 cases(show u=Value.ref a from ru)
 obtain⟨is1,rr1,p1,_⟩:=I1.list qa
 refine call_enumerate_list p1.isList λh' c1 c2 c3 c4=>?_
 have l1:a<s1.heap.objs.size:=by obtain⟨o,e,_⟩:=p1.isList;exact Yj e
 have sm:∀b,s1.heap.objs.size<=b->FpOk X pins H1 b:=λb hb=>I1.ZqP hb (I1.hok.fresh hb)
 have n1:s1.heap.objs.size+1≠s1.heap.objs.size:=by show ¬ ((_:Nat)=_);omega
 have n2:a≠s1.heap.objs.size+1:=Yn (YO l1)
 have n3:a≠s1.heap.objs.size:=Yn l1
 have T:=Zrd (P:=X.prog) (w:=X.w) (K:=X.K) (elts:=elts) (x1:=x1) (pos:=tp) n1 n2 n3
 refine T.self _ 0 _ _ _ ⟨⟨_,c1⟩,c2⟩ ?_
 refine⟨_,[s1.heap.objs.size+1,s1.heap.objs.size],_,_,H1,rfl,I1.kept (t':=s1.toks) c4,T,⟨⟨_,c1⟩,c2⟩,λc hc=>?_,q⟩
 simp at hc
 rcases hc with rfl|rfl<;>exact sm _ (by omega)
end
theorem Zre {prog:Program}{w:World}{A:Around}{R:Result->Shared->Prop}{I:Addr}{fp wr:List Addr}{n:Nat}{P:Nat->Value->Prop}{St:Nat->Heap->Prop} (W:Walks prog w A.in1 I fp wr n P St) (bt:Nat->Nat->Bool) (hc:CmpOf prog w A.in1 .Lt P bt)
  (S:Addr) (hS:S∉fp) (dk:Str) (d:Value) (h0:Heap) (s0:Shared)
  (hR0:n=0->∀h' tk,(∀b o,b∉wr->b≠S->h0.get? b=some o->h'.get? b=some o)->R (.ok (.ret d)) {s0 with heap:=h',toks:=tk})
  (hR:0<n->∀v h' tk,P (argBest bt (n-1)) v->(∀b o,b∉wr->b≠S->h0.get? b=some o->h'.get? b=some o)->R (.ok (.ret v)) {s0 with heap:=h',toks:=tk}) :
  ∀(k j:Nat) (h:Heap) (tk:Nat),n-j=k->j<=n->St j h->(∀b o,b∉wr->b≠S->h0.get? b=some o->h.get? b=some o) ->
   ((j=0/\∃c,h.get? S=some {cls:=.type "list",data:=.seq #[] c})\/(0<j/\∃vb c,P (argBest bt (j-1)) vb/\h.get? S=some {cls:=.type "list",data:=.seq #[vb,vb] c})) ->
   codeAny (model prog w) A (.builtin "min.loop" {pos:=[.ref I,.none,.ref S],kw:=[(dk,d)]}) R {s0 with heap:=h,toks:=tk}:=by
 intro k
 induction k with
 |zero =>
  intro j h tk hk hj hst keep hb
  refine codeAny_builtin F.entry_min_loop ?_
  have hjn:j=n:=by omega
  subst hjn
  rcases hb with⟨hj0,c,hb⟩|⟨hj0,vb,c,hvb,hb⟩
  ·show wpAny _ _ (_ >>= _) _ _ _
   refine Ya (wpAny_seqItems hb rfl ?_)
   refine Ya (wpAny_tryCatch (W.done _ _ _ hst λh' tk' kp=>?_))
   refine Ya (wpAny_rule (Yb ?_))
   exact hR0 hj0 h' tk' λb o hb1 hb2 e=>kp b o hb1 (keep b o hb1 hb2 e)
  ·show wpAny _ _ (_ >>= _) _ _ _
   refine Ya (wpAny_seqItems hb rfl ?_)
   refine Ya (wpAny_tryCatch (W.done _ _ _ hst λh' tk' kp=>?_))
   have hS':S∉wr:=λz=>hS (W.sub S z)
   have hb':=kp S _ hS' hb
   refine Ya (wpAny_updateSeq hb' rfl ?_ (show 2<=sizeLine by decide) (Yt _))
   refine Ya (wpAny_letGo (Yb ?_))
   refine hR hj0 vb _ tk' hvb λb o hb1 hb2 e=>?_
   exact(Heap.get?_update_other _ _ (Ne.symm hb2)).trans (kp b o hb1 (keep b o hb1 hb2 e))
 |succ k ih =>
  intro j h tk hk hj hst keep hb
  refine codeAny_builtin F.entry_min_loop ?_
  have hjn:j<n:=by omega
  have hS':S∉wr:=λz=>hS (W.sub S z)
  rcases hb with⟨hj0,c,hb⟩|⟨hj0,vb,c,hvb,hb⟩
  ·show wpAny _ _ (_ >>= _) _ _ _
   refine Ya (wpAny_seqItems hb rfl ?_)
   refine Ya (wpAny_tryCatch (W.item j _ _ _ hjn hst λv h' tk' hv hst' kp=>?_))
   have hb':=kp S _ hS' hb
   refine Ya (Yb ?_)
   refine Ya (wpAny_updateSeq hb' rfl ?_ (Yt _) (show 2<=sizeLine+1 by decide))
   refine Yb ⟨rfl,?_⟩
   have e9:=PySem.IsL.update hb' (λ_=>#[v,v])
   refine ih (j+1) _ tk' (by omega) (by omega) (W.frame _ _ _ hst' λb hb1 o e=>?_) (λb o hb1 hb2 e=>?_) (.inr ⟨by omega,v,_,?_,e9⟩)
   ·exact(Heap.get?_update_other _ _ (show S≠b from λz=>hS (by rw[z];exact hb1))).trans e
   ·exact(Heap.get?_update_other _ _ (Ne.symm hb2)).trans (kp b o hb1 (keep b o hb1 hb2 e))
   ·rw[hj0];rw[hj0]at hv;exact hv
  ·show wpAny _ _ (_ >>= _) _ _ _
   refine Ya (wpAny_seqItems hb rfl ?_)
   refine Ya (wpAny_tryCatch (W.item j _ _ _ hjn hst λv h' tk' hv hst' kp=>?_))
   have hb':=kp S _ hS' hb
   obtain⟨j',rfl⟩:∃j',j=j'+1:=⟨j-1,by omega⟩
   have hvb':P (argBest bt j') vb:=hvb
   have eA:argBest bt (j'+1)=if bt (j'+1) (argBest bt j')=true then j'+1 else argBest bt j':=rfl
   refine Ya (Yb ?_)
   refine Ya (wpAny_tryCatch (wpAny_holding (Ya (hc (j'+1) (argBest bt j') v vb _ _ _ hv hvb' (Ya (wpAny_holding (wpAny_truthy_bool (Ya (wpAny_letGo (Yb ?_))))))))))
   by_cases z:bt (j'+1) (argBest bt j')=true
   ·rw[Yd z]
    refine Ya (wpAny_updateSeq hb' rfl ?_ (show 2<=sizeLine by decide) (show 2<=sizeLine+1 by decide))
    refine Ya (wpAny_letGo (Yb ⟨rfl,?_⟩))
    have e9:=PySem.IsL.update hb' (λ_=>#[v,v])
    refine ih (j'+1+1) _ tk' (by omega) (by omega) (W.frame _ _ _ hst' λb hb1 o e=>?_) (λb o hb1 hb2 e=>?_) (.inr ⟨by omega,v,_,?_,e9⟩)
    ·exact(Heap.get?_update_other _ _ (show S≠b from λz=>hS (by rw[z];exact hb1))).trans e
    ·exact(Heap.get?_update_other _ _ (Ne.symm hb2)).trans (kp b o hb1 (keep b o hb1 hb2 e))
    ·show P (argBest bt (j'+1)) v
     rw[eA,Yd z];exact hv
   ·rw[Yc z]
    refine Ya (wpAny_letGo (Yb ⟨rfl,?_⟩))
    refine ih (j'+1+1) _ tk' (by omega) (by omega) hst' (λb o hb1 hb2 e=>kp b o hb1 (keep b o hb1 hb2 e)) (.inr ⟨by omega,vb,_,?_,hb'⟩)
    show P (argBest bt (j'+1)) vb
    rw[eA,Yc z];exact hvb'
theorem Zrf (a d:Value):argsOk "min" {pos:=[a],kw:=[("default",d)]}:=by first|rfl|decide
theorem Zrg {prog:Program}{w:World}{A:Around}{E Q:Value->Shared->Prop}{s:Shared}{l:Addr}{xs:Array (Int×Tok)}{d:Value} (hA:A.handled=none) (hl:s.heap.IsList l (intItems xs))
  (q0:xs.size=0->∀h' tk,(∀b o,s.heap.get? b=some o->h'.get? b=some o)->Q d {s with heap:=h',toks:=tk})
  (q1:0<xs.size->∀v h' tk,(intItems xs)[argBest (λi j=>decide (numAt xs i<numAt xs j)) (xs.size-1)]?=some v->(∀b o,s.heap.get? b=some o->h'.get? b=some o)->Q v {s with heap:=h',toks:=tk}) :
  wpAny (model prog w) A (call (.builtin "min") [.ref l] [("default",d)]) Q E s:=by
 refine wpAny_call (codeAny_call_builtin_code rfl ?_)
 have hck:checkBuiltinCall "min" {pos:=[.ref l],kw:=[("default",d)]}=pure ():=by
  unfold checkBuiltinCall
  rw[F.kind_min]
  exact Zrf (.ref l) d
 rw[hck]
 refine Yb (codeAny_builtin F.entry_min ?_)
 show wpAny _ _ (_ >>= _) _ _ _
 have hbp:Builtin.Builtins.bindParams "min" ["key","default"] 0 {kw:=[("default",d)]}=pure [none,some d]:=by
  first|rfl|with_unfolding_all rfl|(simp[Builtin.Builtins.bindParams];done)
 refine Ya (wpAny_of_eq hbp (Ya (Yb (Ya (wpAny_pyIter_list hl ?_)))))
 refine Ya (wpAny_newObj_type ?_)
 refine Yb ⟨rfl,?_⟩
 have hlt:l<s.heap.objs.size:=by obtain⟨o,e,_⟩:=hl;exact Yj e
 have n1:l≠s.heap.objs.size:=Yn hlt
 have esz:(s.heap.push {cls:=.type "list_iterator",data:=.fields #[.ref l,.int 0 0]}).objs.size=s.heap.objs.size+1:=Heap.size_push _ _
 have old:∀b o,s.heap.get? b=some o->((s.heap.push {cls:=.type "list_iterator",data:=.fields #[.ref l,.int 0 0]}).push {cls:=.type "list",data:=.seq #[]}).get? b=some o:=λb o e=>Yh _ (Yh _ e)
 have ne:∀b o,s.heap.get? b=some o->b∉[s.heap.objs.size]/\b≠(s.heap.push {cls:=.type "list_iterator",data:=.fields #[.ref l,.int 0 0]}).objs.size:=λb o e=>by
  have:=Yj e
  refine⟨λz=>?_,λz=>?_⟩
  ·have:b=s.heap.objs.size:=by simpa using z
   exact absurd (Yj e) (by rw[this];exact YI _)
  ·rw[z,esz]at this
   exact absurd this (Nat.not_lt_of_le (YR _))
 have W:=Walks.list (prog:=prog) (w:=w) (A:=A.in1) hA s.heap.objs.size l n1 (intItems xs)
 have hitm:(intItems xs).size=xs.size:=by simp[intItems]
 refine Zre W (λi j=>decide (numAt xs i<numAt xs j)) (CmpOf.ints_lt (numAt xs) λi v h=>intItems_at h) _ ?_ "default" d _ s (λz h' tk kp=>?_) (λz v h' tk hv kp=>?_) (intItems xs).size 0 _ _ rfl (Yt _) ⟨?_,?_⟩ (λb o _ _ e=>e) (.inl ⟨rfl,_,Ys _ rfl⟩)
 ·rw[esz]
  simp only[Yi,List.not_mem_nil,or_false,not_or]
  exact⟨Nat.ne_of_gt (Nat.lt_succ_self _),Nat.ne_of_gt (YO hlt)⟩
 ·exact q0 (by omega) h' tk λb o e=>kp b o (ne b o e).1 (ne b o e).2 (old b o e)
 ·exact q1 (by omega) v h' tk (by rw[<-hitm];exact hv) λb o e=>kp b o (ne b o e).1 (ne b o e).2 (old b o e)
 ·exact⟨_,Yh _ (Ys _ rfl),rfl,rfl⟩
 ·obtain⟨o,e,r⟩:=hl
  exact⟨o,old _ _ e,r⟩
section
variable {X:Cx}
noncomputable def Ztk (K:Frag) (ta td:TA):TE:=fun σ H Q=>ta σ H λvs H1=>td σ H1 λzs H2=>∃(p:Addr) (ns:List Int) (d:Int),vs=[.ref p]/\zs=[.int d]/\SqL K H2 p (ns.map V.int)/\(ns=[]->Q (.int d) H2)/\(ns≠[]->∀m,m∈ns->(∀a∈ns,m<=a)->Q (.int m) H2)
theorem ZvK {K:Frag}{e:Expr}{kws:List Keyword}{ta td:TA}{p pos:Pos} (hK:X.K=K) (hc:X.calm=true) (hg:Gl X "min") (hm:X.mg "min"=none) (ha:PA X [e] ta) (hd:PK X kws td)
  (he:starEach [e] X.env=(false,eval e X.env)::starEach [] X.env:=by rfl) (hpl:(backTo pos (starEach [e] X.env)).any (·.1)=false:=by rfl) (hall:(backToKw pos (keywordEach kws X.env)).all (·.1.isSome)=true:=by rfl)
  (hnn:(backToKw pos (keywordEach kws X.env)).any (·.1.isNone)=false:=by rfl) (hks:(backToKw pos (keywordEach kws X.env)).filterMap (·.1)=[(("default":String):Str)]:=by rfl) (hb:backTo pos (starEach [e] X.env)=(false,eval e X.env)::backTo pos (starEach [] X.env):=by rfl) :
  PE X (.Call (.Name "min" p) [e] kws pos) (Ztk K ta td):=by
 subst hK
 intro pins s σ H Q I h
 refine wpAny_Call_Name_kw (Zbm I hg hm Zs0 ?_)
 refine PyProof.Rows.callWith_kw (thn (ha pos pins s σ H _ I h) λus s1 ⟨vs,H1,I1,r1,q1⟩=>?_) hb hpl hall hnn
 refine thn (hd pos pins s1 σ H1 _ I1 q1) λws s2 ⟨zs,H2,I2,r2,pp,ns,d,e1,e2,hp,q0,qm⟩=>?_
 subst e1 e2
 obtain⟨u,rfl,ru⟩:=r1.one
 obtain⟨v,rfl,rv⟩:=r2.one
 cases(show u=Value.ref pp from ru)
 rw[hks]
 obtain⟨its,rr,pl,hz⟩:=I2.list hp
 obtain⟨ys,e1,e2⟩:=Zqf rr
 have hsz:ys.size=ns.length:=by
  have:=congrArg List.length e2
  rw[Yf,YW]at this
  exact this
 refine Zrg (xs:=ys) (I2.ok.hd hc) (e1▸pl.isList) (λz h' tk k=>?_) (λz v' h' tk hv k=>?_)
 ·exact⟨.int d,H2,I2.kept k,rv,q0 (List.length_eq_zero_iff.mp (by omega))⟩
 ·obtain⟨t,rfl⟩:=intItems_at hv
  obtain⟨h1,h2⟩:=argBest_lt (numAt ys) (ys.size-1)
  refine⟨.int _,H2,I2.kept k,⟨t,rfl⟩,qm (λy=>by have h3:ys.size=0:=(by rw[hsz,y];rfl);omega) _ ?_ λa ha=>?_⟩
  ·rw[numAt_eq,e2];exact getD_mem (by omega)
  ·obtain⟨j,hj,rfl⟩:=mem_getD ha
   rw[<-e2,<-numAt_eq];exact h2 j (by omega)
end
section
variable {X:Cx}
noncomputable def Zmw (K:Frag):V->List V->Hp->VK->Prop:=λx vs H Q=>∃(l:Addr) (xs:List V) (y:V) (j:Nat),x=.ref l/\vs=[y]/\SqL K H l xs/\xs.length<=100000/\xs.all flatV=true/\flatV y=true/\(∃z,xs[j]?=some z/\eqV z y=true)/\(∀(i:Nat) (z:V),i<j->xs[i]?=some z->eqV z y=false)/\Q (.int (j:Nat)) H
theorem Zrh {K:Frag} (hK:X.K=K):MtM X "list.index" (Zmw K):=by
 subst hK
 intro pins s σ H x vs v us Q I rx rv h
 obtain⟨l,xs,y,j,rfl,rfl,hH,hz,hf,hy,⟨z,hz1,hz2⟩,hb,q⟩:=h
 cases rx
 obtain⟨u,rfl,ru⟩:=rv.one
 obtain⟨its,r,pl,_⟩:=I.list hH
 have hlen:=r.length
 obtain⟨⟨cls,dd,data,sl⟩,ho,hc,n,hd⟩:=pl.isList
 simp only at hc hd
 subst hc hd
 have hj:j<xs.length:=(YA.mp hz1).1
 have at_:∀(i:Nat) (hi:i<its.length) (w:V),xs[i]?=some w->eqU y its[i]=eqV w y:=λi hi w hw=>by
  obtain⟨u',hu',r'⟩:=r.get hw
  have e:its[i]=u':=by
   rw[Yg hi]at hu';exact YE hu'
  rw[e]
  exact ZoE r' (List.all_eq_true.mp hf w (List.mem_of_getElem? hw))
 refine call_meets F.slot_list_index ⟨_,ho,rfl⟩ F.entry_list_index (F.args_list_index_2 _ _)
  (SeqAt.list_indexAt l its.toArray n dd sl u (eqU y) j (by rw[Yu];omega) (by omega) ?_ ?_) ⟨ho,λw hw=>Zhi ru hy r hf w (by simpa using hw),⟨.int _,H,I.tok _,⟨_,rfl⟩,q⟩⟩
 ·show eqU y its[j]=true
  rw[at_ j (by omega) z hz1];exact hz2
 ·intro i his hlt
  show eqU y its[i]=false
  have hi:i<its.length:=by simpa using his
  rw[at_ i hi xs[i] (Yg (by omega))]
  exact hb i _ hlt (Yg (by omega))
end
noncomputable def ZbK (f g:Nat->Int) (n:Nat):Prop:=∀a c,a+c<n->Zau f a c=Zau g a c
theorem ZbK.symm {f g:Nat->Int}{n:Nat} (h:ZbK f g n):ZbK g f n:=λa c k=>(h a c k).symm
theorem ZbK.over {f g:Nat->Int}{n o p:Nat} (h:ZbK f g n) (ho:o<n) (hp:p<n) (k:Over f o p):Over g o p:=by
 rcases k with⟨z,k⟩|⟨z,k⟩
 ·have i1:Zdu f o (o+(p-o)) o:=⟨Ye _,by omega,λq q1 q2=>by omega,λq q1 q2=>k q q1 (by omega)⟩
  have e:=h o (p-o) (by omega)
  rw[(Zdv f o (p-o)).unique i1]at e
  have i2:=Zdv g o (p-o)
  rw[<-e]at i2
  exact .inl ⟨z,λr r1 r2=>i2.2.2.2 r r1 (by omega)⟩
 ·have i1:Zdu f p (p+(o-p)) o:=⟨by omega,by omega,λq q1 q2=>k q q1 q2,λq q1 q2=>by omega⟩
  have e:=h p (o-p) (by omega)
  rw[(Zdv f p (o-p)).unique i1]at e
  have i2:=Zdv g p (o-p)
  rw[<-e]at i2
  exact .inr ⟨z,λr r1 r2=>i2.2.2.1 r r1 (by omega)⟩
theorem ZbK.tree {ns ms T:List Int} (hT:Zu ns T) (hl:ms.length=ns.length) (h:ZbK (nth ns) (nth ms) ns.length):Zu ms T:=by
 refine⟨by rw[hl];exact hT.1,λp hp=>?_⟩
 rw[hl]at hp⊢
 refine ZjM hT (λq p hq hp hO=>?_) p hp
 rcases h.over hq hp hO with⟨z,k⟩|⟨z,k⟩
 ·exact⟨λ_=>k p z (Ye _),λy=>by omega⟩
 ·exact⟨λy=>by omega,λ_=>k p (Ye _) z⟩
theorem ZjO {ns ms T:List Int} (h1:Zu ns T) (h2:Zu ms T) {o p:Nat} (ho:o<ns.length) (hp:p<ns.length) (k:Over (nth ns) o p):Over (nth ms) o p:=by
 have hl:ms.length=ns.length:=h2.1.symm.trans h1.1
 exact((Zap h2 (by omega)).mp ((Zap h1 hp).mpr ⟨ho,k⟩)).2
theorem ZoQ {ns ms T:List Int} (h1:Zu ns T) (h2:Zu ms T):ZbK (nth ns) (nth ms) ns.length:=by
 intro a c hac
 have hl:=Zdv (nth ns) a c
 have hlt:=Zqq (nth ns) a c
 refine Zdu.unique (f:=nth ms) (a:=a) (b:=a+c) ⟨hl.1,hl.2.1,λq q1 q2=>?_,λq q1 q2=>?_⟩ (Zdv (nth ms) a c)
 ·have:=ZjO h1 h2 (by omega) (by omega) (hl.over (p:=q) (by omega) (by omega) (by omega))
  rcases this with⟨z,k⟩|⟨z,k⟩
  ·omega
  ·exact k q (Ye _) q2
 ·have:=ZjO h1 h2 (by omega) (by omega) (hl.over (p:=q) (by omega) (by omega) (by omega))
  rcases this with⟨z,k⟩|⟨z,k⟩
  ·exact k q q1 (Ye _)
  ·omega
theorem ZbK.mono {f g:Nat->Int}{n m:Nat} (h:ZbK f g n) (k:m<=n):ZbK f g m:=λa c z=>h a c (by omega)
noncomputable def ZaD (f:Nat->Int) (n s:Nat):List Int:=(List.range (n-s)).map λa=>(Zau f a s:Int)-(a:Int)
noncomputable def Zez (f:Nat->Int) (n:Nat):List (List Int):=(List.range n).map (ZaD f n)
noncomputable def Zcy (f:Nat->Int) (n s:Nat):List Int:=(List.range (n-s)).map λa=>(Zau f a s:Int)
theorem ZnD (f:Nat->Int) (n:Nat):Zcy f n 0=(List.range n).map λ(a:Nat)=>(a:Int):=by simp[Zcy,Zau]
theorem Zmx (f:Nat->Int) (n i:Nat):(List.range (i+1)).map (ZaD f n)=(List.range i).map (ZaD f n)++[ZaD f n i]:=by rw[YV,YJ];rfl
noncomputable def ZoR (f g:Nat->Int) (x y size a m:Nat):Prop:=a+m<size/\(Zau f (x+a) m:Int)-(x+a:Nat)≠(Zau g (y+a) m:Int)-(y+a:Nat)/\(∀m',m'<m->∀a',a'+m'<size->(Zau f (x+a') m':Int)-(x+a':Nat)=(Zau g (y+a') m':Int)-(y+a':Nat)) /\
 ∀a',a'<a->(Zau f (x+a') m:Int)-(x+a':Nat)=(Zau g (y+a') m:Int)-(y+a':Nat)
noncomputable def Ztl (f g:Nat->Int) (x y size:Nat):Prop:=∀m a,a+m<size->(Zau f (x+a) m:Int)-(x+a:Nat)=(Zau g (y+a) m:Int)-(y+a:Nat)
theorem ZnE {f g:Nat->Int}{n:Nat}:Ztl f g 0 0 n↔ZbK f g n:=by
 refine⟨λh a c k=>?_,λh m a k=>?_⟩
 ·have:=h c a k
  rw[Nat.zero_add]at this
  omega
 ·rw[Nat.zero_add,h a m k]
theorem bt_abs:bootBuiltins "abs"=some (.builtin "abs"):=by decide +kernel
theorem ZoS {f:Nat->Int}{n s a:Nat} (h:a<n-s):nth (Zcy f n s) a=Zau f a s:=by simp[nth,Zcy,Yl,h]
theorem Zc8 (f:Nat->Int) (n s:Nat):(Zcy f n s).length=n-s:=by simp[Zcy]
theorem ZoT (f:Nat->Int) (a i:Nat):(if f (a+i)<f (Zau f a (i-1))then a+i else Zau f a (i-1))=Zau f a i:=by
 cases i with
 |zero=>simp[Zau]
 |succ k=>simp[Zau,Nat.add_assoc]
theorem ZlG {P:Nat->Prop}:∀n,¬ (∀j,j<n->P j)->∃j,j<n/\¬ P j/\∀i,i<j->P i
 |0,h=>absurd (λj hj=>by omega) h
 |n+1,h=>by
  by_cases z:∀j,j<n->P j
  ·exact⟨n,by omega,λy=>h λj hj=>by
    by_cases e:j=n
    ·rw[e];exact y
    ·exact z j (by omega),z⟩
  ·obtain⟨j,h1,h2,h3⟩:=ZlG n z
   exact⟨j,by omega,h2,h3⟩
theorem ZjP {f:Nat->Int}{n i:Nat}{K:Frag}{H:Hp}{l:Addr} (R:Rows H l (Zez f n)) (h:i<n):∃xs a,SqL K H l xs/\atI xs (i:Int)=some (.ref a)/\H a=some (.lst ((ZaD f n i).map V.int)):=by
 have h':i<(Zez f n).length:=by simpa[Zez]using h
 obtain⟨xs,a,h1,h2,h3⟩:=R.at (K:=K) h'
 exact⟨xs,a,h1,h2,by rw[h3];simp[Zez]⟩
section
variable {X:Cx}
noncomputable def Zmy (K:Frag):List V->Hp->VK->Prop:=λxs H Q=>∃(p:Addr) (ns:List Int),xs=[.ref p]/\SqL K H p (ns.map V.int)/\ns.length<64/\∀(ns':List Int) (l:Addr),ns'.Perm ns->ns'.Pairwise (·<=·)->H l=none->Q (.ref l) (upd H l (.lst (ns'.map V.int)))
theorem ZiQ {K:Frag} (hK:X.K=K):Zbc X (.builtin "sorted") (Zmy K):=by
 subst hK
 intro pins s σ H xs us Q I r h
 obtain⟨p,ns,rfl,hp,hn,q⟩:=h
 obtain⟨u,rfl,ru⟩:=r.one
 cases(show u=Value.ref p from ru)
 obtain⟨its,rv,pl,hz⟩:=I.list hp
 have hi:IntsAre its ns:=intsAre_of rv
 have hl:its.length=ns.length:=by have:=rv.length;rw[Yf]at this;exact this.symm
 refine sorted_ints pl.isList hi (by omega) λout ns' ho hperm hpw=>?_
 have hlen:ns'.length=ns.length:=hperm.length_eq
 refine⟨.ref (s.heap.objs.size+1),_,I.laid (t':=s.toks) (a:=s.heap.objs.size+1) (o:=.lst (ns'.map V.int)) (λb o e=>?_) (YR _) ?_,rfl,q ns' _ hperm hpw (I.hok.fresh (YR _))⟩
 ·exact sortedAll_old e
 ·obtain⟨n,e⟩:=sortedAll_at s.heap its out
  have hv:Vals (ns'.map V.int) out.toList:=Zf6 ho
  exact⟨by rw[Yf];exact Ym (show ns'.length<=1000 by omega) (by decide),out.toList,n,hv,by rw[e]⟩
theorem Zgc:bootBuiltins "sorted"=some (.builtin "sorted"):=by decide +kernel
end
section
variable {prog:Program}{w:World}{A:Around}{E Q:Value->Shared->Prop}{s:Shared}{it t:Addr}{i:Nat}{items:Array Value}
theorem Zht {x:Value} (hi:s.heap.IsTupleIter it t i) (ht:s.heap.IsTuple t items) (hx:items[i]?=some x) (h:∀h',h'.IsTupleIter it t (i+1)->Heap.SameBut it s.heap h'->Q x {s with heap:=h'}):wpAny (model prog w) A (Builtin.SmallTypes.nextOf (.ref it)) Q E s:=by
 obtain⟨o,ho,hc,hd⟩:=id hi
 obtain⟨ot,hot,hct,n,hdt⟩:=id ht
 have hT:s.TypeIs (.ref it) "tuple_iterator":=⟨o,ho,hc⟩
 unfold Builtin.SmallTypes.nextOf
 refine Ya (wpAny_callSpecial?_slot hT F.slot_tuple_iterator_next (wpAny_call_entry F.slot_tuple_iterator_next hT F.entry_tuple_iterator_next ?_ (F.args_tuple_iterator_next_1 _)))
 show wpAny _ _ (_ >>= _) _ _ _
 refine Ya (wpAny_of_eq (show slotArgs "__next__" 0 {pos:=[.ref it]}=pure (.ref it,[])from rfl) ?_)
 refine Ya (wpAny_field ho hd (x:=.ref t) rfl ?_)
 rw[Yc (by simp)]
 refine Ya (wpAny_field ho hd (x:=.int (i:Int) 0) rfl ?_)
 refine Ya (wpAny_seqItems hot hdt ?_)
 dsimp only
 rw[YH,hx]
 refine Ya (wpAny_setField ho hd (by show 1<2;decide) (Yb ⟨x,rfl,?_⟩))
 refine Yb (h _ ?_ ⟨by simp,λb hb=>Heap.get?_update_other _ _ (Ne.symm hb)⟩)
 obtain⟨cls,dict,data,slots⟩:=o
 simp only at hc hd
 subst hc hd
 exact⟨_,Heap.get?_update_self _ ho rfl,rfl,rfl⟩
theorem Zid (hA:A.handled=none) (hi:s.heap.IsTupleIter it t i) (ht:s.heap.IsTuple t items) (hx:items[i]?=none) (h:∀h' e,Heap.ExtBut it s.heap h'->(∃o,h'.get? e=some o/\o.cls=.type "StopIteration")->E (.ref e) {s with heap:=h'}):wpAny (model prog w) A (Builtin.SmallTypes.nextOf (.ref it)) Q E s:=by
 obtain⟨o,ho,hc,hd⟩:=id hi
 obtain⟨ot,hot,hct,n,hdt⟩:=id ht
 have hT:s.TypeIs (.ref it) "tuple_iterator":=⟨o,ho,hc⟩
 unfold Builtin.SmallTypes.nextOf
 refine Ya (wpAny_callSpecial?_slot hT F.slot_tuple_iterator_next (wpAny_call_entry F.slot_tuple_iterator_next hT F.entry_tuple_iterator_next ?_ (F.args_tuple_iterator_next_1 _)))
 show wpAny _ _ (_ >>= _) _ _ _
 refine Ya (wpAny_of_eq (show slotArgs "__next__" 0 {pos:=[.ref it]}=pure (.ref it,[])from rfl) ?_)
 refine Ya (wpAny_field ho hd (x:=.ref t) rfl ?_)
 rw[Yc (by simp)]
 refine Ya (wpAny_field ho hd (x:=.int (i:Int) 0) rfl ?_)
 refine Ya (wpAny_seqItems hot hdt ?_)
 dsimp only
 rw[YH,hx]
 refine Ya (wpAny_rule (Ya (wpAny_setField ho hd (by show 0<2;decide) ?_)))
 unfold Builtin.SmallTypes.stopIteration
 refine Ya ?_
 unfold newExc
 refine Ya (wpAny_newTuple ?_ (Yt _))
 refine Ya (wpAny_of_eq (show firstArgMember (.type "StopIteration") []=pure .none by first|rfl|(unfold firstArgMember;rfl)) ?_)
 refine wpAny_newObj_type (wpAny_raiseNew_none hA (h _ _ (λb o' hb e=>?_) ⟨_,Ys _ rfl,rfl⟩))
 exact Yh _ (Yh _ ((Heap.get?_update_other _ _ (Ne.symm hb)).trans e))
end
theorem ZoU {J:It}{n:Nat}{g:TG}{tb:TS}{D:Ends}{σ:St}{H:Hp} (Pv:Nat->St->Hp->Prop) (h0:Pv 0 σ H) (hgo:∀i σ H,i<n->Pv i σ H->J.go i H) (hstop:∀σ H,Pv n σ H->J.stop n H)
  (hs:∀i x σ H H',i<n->Pv i σ H->J.yld i H x H'->g x σ H' fun σ2 H2=>tb {D with nx:=Pv (i+1),ct:=Pv (i+1),bk:=D.nx} σ2 H2) (hd:∀σ H,Pv n σ H->D.nx σ H):LoopR J g tb D σ H:=by
 refine⟨λi m σ H=>m=n-i/\i<=n/\Pv i σ H,⟨n,by simp,Yt _,h0⟩,?_⟩
 rintro i m σ H ⟨rfl,hi,p⟩
 by_cases hlt:i<n
 ·exact .inr ⟨hgo i σ H hlt p,Pv (i+1),fun σ' H' p'=>⟨n-(i+1),by omega,rfl,hlt,p'⟩,λx H' y=>hs i x σ H H' hlt p y⟩
 ·have:i=n:=by omega
  subst this
  exact .inl ⟨hstop σ H p,hd σ H p⟩
noncomputable def rInD (K:Frag):R2:=λx y H Q=>∃(q p:Addr) (as:List Addr) (e:Addr->Bool),x=.ref q/\y=.ref p/\SqL K H p (as.map V.ref)/\(∀a∈as,EqD K H 3 (.ref a) x (e a))/\Q (.bl (as.any e)) H
noncomputable def eU (e:Addr->Bool):Value->Bool
 |.ref a=>e a
 |_=>false
theorem ZlH:∀{as:List Addr}{us:List Value},Vals (as.map V.ref) us->us=as.map Value.ref
 |[],_,.nil=>rfl
 |a::as,u::us,.cons r t=>by
  have hr:u=Value.ref a:=r
  rw[hr,ZlH t];rfl
section
variable {X:Cx}
theorem op_inD {K:Frag} (hK:X.K=K) {k:Nat} (hr:Room k X.A):OpR X (compareOp .In) (rInD K):=by
 subst hK
 have hu0:=hr.un
 intro pins s σ H x y v u Q I rx ry h
 obtain⟨q,p,as,e,rfl,rfl,hp,he,hQ⟩:=h
 cases rx
 cases ry
 obtain⟨its,r,pl,hz⟩:=I.list hp
 have hi:=ZlH r
 subst hi
 refine SeqAt.in_listAt (eU e) pl.isList (λw hw=>?_) ⟨.bl _,H,I,rfl,?_⟩
 ·have hw':w∈as.map Value.ref:=by simpa using hw
  obtain⟨a,ha,rfl⟩:=Yo.mp hw'
  exact ZjB I (he a ha) X.A.in1 _ _ (by show X.A.units+1+3<cLine;omega) rfl rfl
 ·have:(as.map Value.ref).toArray.any (eU e)=as.any e:=by
   simp[List.any_map,Function.comp_def,eU]
  rw[this];exact hQ
end
theorem Zmz {ns T:List Int} (hT:Zu ns T) {p o:Nat} (hp:p<ns.length) (ho:o<ns.length) (hO:Over (nth ns) o p):(Za9 T p:Int)-Za9 T o<=nth ns p-nth ns o:=by
 refine ZjN hT (R:=λo p=>(Za9 T p:Int)-Za9 T o<=nth ns p-nth ns o) (λp q hp hq e hO=>?_) (λo q p h1 h2 r1 r2=>by omega) _ p o hp ho rfl hO
 have:=ZlE hT hp hq e hO
 rcases hO with⟨a,b⟩|⟨a,b⟩
 ·have:=b p a (Ye _)
  rw[Yc (by omega)]at *;omega
 ·have:=b p (Ye _) a
  rw[Yd a]at *;omega
end L2
namespace PySem
open Sem (wp)
end PySem
namespace L2
open PySem PySem.Spec PyProof.Rows PySem.W
noncomputable def QIt (h:Heap) (i l:Addr) (k:Nat) (xs:Array Value):Prop:=(h.IsListIter i l k/\h.IsList l xs)\/(h.IsTupleIter i l k/\h.IsTuple l xs)
theorem QIt.ext {h h':Heap}{i l b:Addr}{k:Nat}{xs:Array Value} (x:QIt h i l k xs) (hs:Heap.ExtBut b h h') (n1:i≠b) (n2:l≠b):QIt h' i l k xs:=by
 rcases x with⟨p,q⟩|⟨p,q⟩
 ·exact .inl ⟨p.extBut hs n1,q.extBut hs n2⟩
 ·obtain⟨o,ho,r⟩:=q
  exact .inr ⟨p.extBut hs n1,⟨o,hs _ _ n2 ho,r⟩⟩
theorem QIt.at {h h':Heap}{i l:Addr}{k:Nat}{xs:Array Value} (x:QIt h i l k xs) (e1:∀o,h.get? i=some o->h'.get? i=some o) (e2:∀o,h.get? l=some o->h'.get? l=some o):QIt h' i l k xs:=by
 rcases x with⟨p,⟨o,ho,r⟩⟩|⟨⟨o1,p1,r1⟩,⟨o,ho,r⟩⟩
 ·exact .inl ⟨p.at e1,⟨o,e2 o ho,r⟩⟩
 ·exact .inr ⟨⟨o1,e1 _ p1,r1⟩,⟨o,e2 o ho,r⟩⟩
section
variable {prog:Program}{w:World}{A:Around}{E Q:Value->Shared->Prop}{s:Shared}{it l:Addr}{k:Nat}{xs:Array Value}
theorem Zb2 {x:Value} (q:QIt s.heap it l k xs) (hn:l≠it) (hx:xs[k]?=some x) (h:∀h',QIt h' it l (k+1) xs->Heap.SameBut it s.heap h'->Q x {s with heap:=h'}):wpAny (model prog w) A (Builtin.SmallTypes.nextOf (.ref it)) Q E s:=by
 rcases q with⟨q1,q2⟩|⟨q1,q2⟩
 ·exact wpAny_nextOf_list_item q1 q2 hx λh' a b=>h h' (.inl ⟨a,q2.extBut b.extBut hn⟩) b
 ·refine Zht q1 q2 hx λh' a b=>h h' (.inr ⟨a,?_⟩) b
  obtain⟨o,ho,r⟩:=q2
  exact⟨o,b.extBut _ _ hn ho,r⟩
theorem Zgd (hA:A.handled=none) (q:QIt s.heap it l k xs) (hx:xs[k]?=none) (h:∀h' e,Heap.ExtBut it s.heap h'->(∃o,h'.get? e=some o/\o.cls=.type "StopIteration")->E (.ref e) {s with heap:=h'}):wpAny (model prog w) A (Builtin.SmallTypes.nextOf (.ref it)) Q E s:=by
 rcases q with⟨q1,q2⟩|⟨q1,q2⟩
 ·exact wpAny_nextOf_list_end hA q1 q2 hx h
 ·exact Zid hA q1 q2 hx h
end
section
variable {prog:Program}{w:World}{A:Around}{E:Value->Shared->Prop}{s:Shared}{z TI TO i1 i2 l1 l2:Addr}{k1 k2:Nat}{xs ys:Array Value}{a b:Value}
noncomputable def ZnF (z TO i1 i2:Addr) (h h':Heap):Prop:=∀c o,c≠z->c≠TO->c≠i1->c≠i2->h.get? c=some o->h'.get? c=some o
noncomputable def SqH (h:Heap) (l:Addr) (xs:Array Value):Prop:=h.IsList l xs\/h.IsTuple l xs
theorem SqH.push {h:Heap}{l:Addr}{xs:Array Value} (q:SqH h l xs) (o:Obj):SqH (h.push o) l xs:=by
 rcases q with q|⟨u,hu,r⟩
 ·exact .inl (q.push o)
 ·exact .inr ⟨u,Yh _ hu,r⟩
theorem SqH.obj {h:Heap}{l:Addr}{xs:Array Value} (q:SqH h l xs):∃o,h.get? l=some o:=by
 rcases q with⟨o,ho,_⟩|⟨o,ho,_⟩<;>exact⟨o,ho⟩
noncomputable def Zcz (h:Heap) (l:Addr):String:=match h.get? l with
 |some o=>if o.cls=.type "tuple" then "tuple_iterator" else "list_iterator"
 |none=>"list_iterator"
theorem iterQ {Q:Value->Shared->Prop} (q:SqH s.heap l1 xs) (h:Q (.ref s.heap.objs.size) {s with heap:=s.heap.push {cls:=.type (Zcz s.heap l1),data:=.fields #[.ref l1,.int 0 0]}}):wpAny (model prog w) A (pyIter (.ref l1)) Q E s:=by
 rcases q with q|q
 ·have e:Zcz s.heap l1="list_iterator":=by
   obtain⟨o,ho,hc,_⟩:=q
   unfold Zcz;rw[ho];dsimp only;rw[Yc (by rw[hc];intro z;injection z with z;exact absurd z (by decide))]
  rw[e]at h;exact wpAny_pyIter_list q h
 ·have e:Zcz s.heap l1="tuple_iterator":=by
   obtain⟨o,ho,hc,_⟩:=q
   unfold Zcz;rw[ho];dsimp only;rw[Yd hc]
  rw[e]at h;exact wpAny_pyIter_tuple q h
theorem itQ {h h':Heap}{i:Addr} (q:SqH h l1 xs) (ho:h'.get? i=some {cls:=.type (Zcz h l1),data:=.fields #[.ref l1,.int 0 0]}) (hl:∀o,h.get? l1=some o->h'.get? l1=some o):QIt h' i l1 0 xs:=by
 rcases q with q|q
 ·have e:Zcz h l1="list_iterator":=by
   obtain⟨o,ho,hc,_⟩:=q
   unfold Zcz;rw[ho];dsimp only;rw[Yc (by rw[hc];intro z;injection z with z;exact absurd z (by decide))]
  rw[e]at ho
  obtain⟨o,q1,r⟩:=q
  exact .inl ⟨⟨_,ho,rfl,rfl⟩,⟨o,hl _ q1,r⟩⟩
 ·have e:Zcz h l1="tuple_iterator":=by
   obtain⟨o,ho,hc,_⟩:=q
   unfold Zcz;rw[ho];dsimp only;rw[Yd hc]
  rw[e]at ho
  obtain⟨o,q1,r⟩:=q
  exact .inr ⟨⟨_,ho,rfl,rfl⟩,⟨o,hl _ q1,r⟩⟩
noncomputable abbrev zq1 (h:Heap) (l1:Addr):Heap:=h.push {cls:=.type (Zcz h l1),data:=.fields #[.ref l1,.int 0 0]}
noncomputable abbrev zq2 (h:Heap) (l1 l2:Addr):Heap:=(zq1 h l1).push {cls:=.type (Zcz (zq1 h l1) l2),data:=.fields #[.ref l2,.int 0 0]}
noncomputable abbrev zq3 (h:Heap) (l1 l2:Addr):Heap:=(zq2 h l1 l2).push {cls:=.type "tuple",data:=.seq #[.ref h.objs.size,.ref (zq1 h l1).objs.size]}
noncomputable abbrev zq4 (h:Heap) (l1 l2:Addr):Heap:=(zq3 h l1 l2).push {cls:=.type "tuple",data:=.seq #[.none,.none]}
noncomputable abbrev zq5 (h:Heap) (l1 l2:Addr):Heap:=(zq4 h l1 l2).push {cls:=.type "zip",data:=.fields #[.none,.bool false,.bool false,.ref (zq2 h l1 l2).objs.size,.ref (zq3 h l1 l2).objs.size]}
theorem ZoV (l1 l2:Addr) (xs ys:Array Value) :
  Meets (Builtin.«zip.__new__» ⟨[.type "zip",.ref l1,.ref l2],[]⟩) (λ_ R s=>SqH s.heap l1 xs/\SqH s.heap l2 ys/\R (.ok (.ret (.ref (zq4 s.heap l1 l2).objs.size))) {s with heap:=zq5 s.heap l1 l2}) :=
 .of_wp λprog w A R s h=>by
  obtain⟨hp,g,d,tk,os⟩:=s;obtain⟨b1,b2,h⟩:=h
  have hsub:=sub_zip
  have L1:SqH (Shared.heap ⟨hp,g,d,tk,os⟩) l1 xs:=b1
  have L2:SqH (Shared.heap ⟨zq1 hp l1,g,d,tk,os⟩) l2 ys:=SqH.push b2 _
  wp_walk using iterQ L1,iterQ L2
  exact⟨_,rfl,h⟩
theorem Zri {Q:Value->Shared->Prop} (b1:SqH s.heap l1 xs) (b2:SqH s.heap l2 ys)
  (h:∀h',IsZip h' (s.heap.objs.size+4) (s.heap.objs.size+2) (s.heap.objs.size+3) .none->IsPair h' (s.heap.objs.size+2) (.ref s.heap.objs.size) (.ref (s.heap.objs.size+1))->IsPair h' (s.heap.objs.size+3) .none .none ->
   QIt h' s.heap.objs.size l1 0 xs->QIt h' (s.heap.objs.size+1) l2 0 ys->(∀c o,s.heap.get? c=some o->h'.get? c=some o)->Q (.ref (s.heap.objs.size+4)) {s with heap:=h'}) :
  wpAny (model prog w) A (call (.type "zip") [.ref l1,.ref l2]) Q E s:=by
 refine callType_new F.called_zip (by decide) (F.typeCall_zip_2 _ _) (F.newCall_zip_2 _ _) (λobj=>F.args_object_init_3 obj _ _) F.entry_zip_new (ZoV l1 l2 xs ys) ⟨b1,b2,?_⟩
 have z1:(zq1 s.heap l1).objs.size=s.heap.objs.size+1:=Heap.size_push ..
 have z2:(zq2 s.heap l1 l2).objs.size=s.heap.objs.size+2:=by rw[Heap.size_push,z1]
 have z3:(zq3 s.heap l1 l2).objs.size=s.heap.objs.size+3:=by rw[Heap.size_push,z2]
 have z4:(zq4 s.heap l1 l2).objs.size=s.heap.objs.size+4:=by rw[Heap.size_push,z3]
 have g5:(zq5 s.heap l1 l2).get? (zq4 s.heap l1 l2).objs.size=some _:=Ys _ rfl
 have g4:(zq5 s.heap l1 l2).get? (zq3 s.heap l1 l2).objs.size=some _:=Yh _ (Ys _ rfl)
 have g3:(zq5 s.heap l1 l2).get? (zq2 s.heap l1 l2).objs.size=some _:=Yh _ (Yh _ (Ys _ rfl))
 have g2:(zq5 s.heap l1 l2).get? (zq1 s.heap l1).objs.size=some _:=Yh _ (Yh _ (Yh _ (Ys _ rfl)))
 have g1:(zq5 s.heap l1 l2).get? s.heap.objs.size=some _:=Yh _ (Yh _ (Yh _ (Yh _ (Ys _ rfl))))
 have up1:∀c o,(zq1 s.heap l1).get? c=some o->(zq5 s.heap l1 l2).get? c=some o:=λc o x=>Yh _ (Yh _ (Yh _ (Yh _ x)))
 have up:∀c o,s.heap.get? c=some o->(zq5 s.heap l1 l2).get? c=some o:=λc o x=>up1 c o (Yh _ x)
 have r1:=itQ b1 g1 λo e=>up _ o e
 have r2:=itQ (b2.push _) g2 λo e=>up1 _ o e
 show _/\_
 rw[z2,z3,z4]at g5
 rw[z1,z2]at g3
 rw[z3]at g4
 rw[z1]at r2
 rw[z4]
 exact⟨⟨_,g5,rfl⟩,h _ g5 g3 g4 r1 r2 up⟩
end
section
variable {X:Cx}{pins:List (Addr×Obj)}{σ:St}{H:Hp}{s:Shared}
noncomputable def SqB (K:Frag) (t:Bool) (H:Hp) (a:Addr) (xs:List V):Prop:=match t with
 |true=>SqT K H a xs
 |false=>SqL K H a xs
noncomputable def ItB (t:Bool) (h:Heap) (i a:Addr) (k:Nat):Prop:=match t with
 |true=>h.IsTupleIter i a k
 |false=>h.IsListIter i a k
theorem SqB.of {K:Frag}{H:Hp}{a:Addr}{xs:List V} (h:SqL K H a xs\/SqT K H a xs):∃t,SqB K t H a xs:=by
 rcases h with h|h
 ·exact⟨false,h⟩
 ·exact⟨true,h⟩
theorem Ze.ZbF {K:Frag}{t:Bool}{H H':Hp}{a:Addr}{xs:List V} (e:Ze H H') (h:SqB K t H a xs):SqB K t H' a xs:=by
 cases t
 ·exact e.seq h
 ·exact e.seqT h
theorem ItB.keep {t:Bool}{h h':Heap}{i a:Addr}{k:Nat} (q:ItB t h i a k) (e:∀o,h.get? i=some o->h'.get? i=some o):ItB t h' i a k:=by
 cases t
 ·obtain⟨o,ho,r⟩:=q;exact⟨o,e o ho,r⟩
 ·obtain⟨o,ho,r⟩:=q;exact⟨o,e o ho,r⟩
theorem ItB.obj {t:Bool}{h:Heap}{i a:Addr}{k:Nat} (q:ItB t h i a k):∃o,h.get? i=some o/\∃v,o.data=.fields v:=by
 cases t
 ·obtain⟨o,ho,_,d⟩:=q;exact⟨o,ho,_,d⟩
 ·obtain⟨o,ho,_,d⟩:=q;exact⟨o,ho,_,d⟩
theorem Inv.sqb (I:Inv X pins σ H s) {t:Bool}{a:Addr}{xs:List V} (q:SqB X.K t H a xs):∃its:List Value,Vals xs its/\SqH s.heap a its.toArray/\∀i k,ItB t s.heap i a k->QIt s.heap i a k its.toArray:=by
 cases t
 ·obtain⟨its,r,p,_⟩:=I.list q;exact⟨its,r,.inl p.isList,λi k h=>.inl ⟨h,p.isList⟩⟩
 ·obtain⟨its,r,p,_⟩:=I.tuple q;exact⟨its,r,.inr p,λi k h=>.inr ⟨h,p⟩⟩
theorem Inv.itb (I:Inv X pins σ H s) {t:Bool}{a i:Addr}{xs:List V}{h':Heap}{k:Nat}{us:Array Value} (q:SqB X.K t H a xs) (kp:∀o,s.heap.get? a=some o->h'.get? a=some o) (u:QIt h' i a k us):ItB t h' i a k:=by
 cases t
 ·obtain⟨its,r,p,_⟩:=I.list q
  obtain⟨o,ho,hc,_⟩:=p.isList
  rcases u with⟨u,_⟩|⟨_,⟨o',ho',hc',_⟩⟩
  ·exact u
  ·rw[kp o ho]at ho'
   cases ho'
   rw[hc]at hc';injection hc' with z;exact absurd z (by decide)
 ·obtain⟨its,r,p,_⟩:=I.tuple q
  obtain⟨o,ho,hc,_⟩:=p
  rcases u with⟨_,⟨o',ho',hc',_⟩⟩|⟨u,_⟩
  ·rw[kp o ho]at ho'
   cases ho'
   rw[hc]at hc';injection hc' with z;exact absurd z (by decide)
  ·exact u
theorem Inv.Zqu (I:Inv X pins σ H s) {t:Bool}{a:Addr}{xs ys:List V} (q:SqB X.K t H a xs) (r:SqB X.K t H a ys):xs=ys:=by
 cases t
 ·exact I.Zcq q r
 ·exact I.ZhZ q r
noncomputable def Itzq (K : Frag) (t u : Bool) (a b : Addr) : It :=
  ⟨fun i H => ∃ xs ys x y, SqB K t H a xs ∧ SqB K u H b ys ∧ xs[i]? = some x ∧ ys[i]? = some y,
   fun i H v H' => ∃ p x y, H p = none ∧ v = .ref p ∧ H' = upd H p (.tup [x, y]) ∧ (∀ xs, SqB K t H a xs → xs[i]? = some x) ∧ ∀ ys, SqB K u H b ys → ys[i]? = some y,
   fun i H => ∃ xs ys, SqB K t H a xs ∧ SqB K u H b ys ∧ (xs.length ≤ i ∨ ys.length ≤ i)⟩
noncomputable def Ztm (K:Frag) (ta:TA):TI:=fun σ H R=>ta σ H λvs H1=>∃a b t u xs ys,vs=[.ref a,.ref b]/\SqB K t H1 a xs/\SqB K u H1 b ys/\R (Itzq K t u a b) H1
end
noncomputable def CDivL (i j:Int):Prop:=0<j/\j<18446744073709551616
theorem ZjQ {X:Cx}:OpR X (binaryOp .FloorDiv) (rI CDivL λi j=>.int (i / j)):=opI λi j _ _ _ _ _ hc q=>by
 have h1:(0:Int)<j:=hc.1
 have h2:j<18446744073709551616:=hc.2
 refine floordiv_int (by omega) (by rw[Int.fdiv_eq_ediv_of_nonneg i (by omega)];exact q) (.inl (PyProof.noPylong_of_log2 ?_))
 have h3:j.natAbs<2 ^ 64:=by omega
 have:j.natAbs.log2<64:=(Nat.log2_lt (by omega)).mpr h3
 omega
end L2
namespace L2
open PySem PySem.Spec PyProof.Rows PySem.W
end L2
namespace L2
open PySem PySem.Spec PyProof.Rows PySem.W
noncomputable def ZaS (H:Hp) (l:Addr) (rs:List (List Int)):Prop:=∃as:List Addr,H l=some (.lst (as.map V.ref))/\as.length=rs.length/\∀i (h1:i<as.length) (h2:i<rs.length),H as[i]=some (.tup (rs[i].map V.int))
theorem ZaS.same {H H':Hp}{l:Addr}{rs:List (List Int)} (R:ZaS H l rs) (s:Ze H H'):ZaS H' l rs:=by
 obtain⟨as,h1,h2,h3⟩:=R
 exact⟨as,s _ _ h1,h2,λi i1 i2=>s _ _ (h3 i i1 i2)⟩
noncomputable def Once (k:Nat) (ss ls:List Int):Prop:=ss=((List.range k).map λ(j:Nat)=>(j:Int)).filter (λj=>decide (j∉ls))/\ls=((List.range k).map λ(j:Nat)=>(j:Int)).filter (λj=>decide (j∈ls))
noncomputable instance (k:Nat) (ss ls:List Int):Decidable (Once k ss ls):=inferInstanceAs (Decidable (_/\_))
theorem ZaS.walk {K:Frag}{H1:Hp}{d:Addr}{rs:List (List Int)} (R:ZaS H1 d rs):(∀i H,Ze H1 H->i<rs.length->(Itl K d).go i H)/\(∀H,Ze H1 H->(Itl K d).stop rs.length H) /\
  ∀i x H H' (h:i<rs.length),Ze H1 H->(Itl K d).yld i H x H'->H'=H/\∃a,x=.ref a/\H a=some (.tup (rs[i].map V.int)):=by
 obtain⟨as,e,hl,hh⟩:=R
 refine⟨λi H s hi=>⟨_,V.ref (as[i]'(by omega)),SqL.of (s _ _ e),by simp[show i<as.length by omega]⟩,λH s=>⟨_,SqL.of (s _ _ e),by simp[hl]⟩,λi x H H' hi s y=>?_⟩
 obtain⟨e1,y⟩:=y
 have h1:=y _ (SqL.of (s _ _ e))
 rw[YG,Yg (show i<as.length by omega)]at h1
 cases h1
 exact⟨e1,_,rfl,s _ _ (hh i (by omega) hi)⟩
theorem ZaS.sq {K:Frag}{H:Hp}{l:Addr}{rs:List (List Int)} (R:ZaS H l rs):∃xs,SqL K H l xs:=by
 obtain⟨as,e,_⟩:=R
 exact⟨_,SqL.of e⟩
theorem Zrj {K:Frag}{H:Hp}{n:Nat}{a c:Addr}{xs:List V} (h1:H a=some (.lst xs)) (h2:H c=some (.lst [])):EqD K H (n+1) (.ref a) (.ref c) (decide (xs=[])):=by
 cases xs with
 |nil =>
  have:=EqD.lst (K:=K) (H:=H) (n:=n) (λ_=>true) (SqL.of h1) (SqL.of h2) rfl λj x y e1 e2=>by simp at e1
  simpa using this
 |cons x xs =>
  have:=EqD.len (K:=K) (H:=H) (n:=n) (SqL.of h1) (SqL.of h2) (by simp)
  simpa using this
theorem ZiR {l m:List Int} (p:l.Perm m) (s:l.Pairwise (·<=·)) (t:m.Pairwise (·<=·)):l=m :=
 p.eq_of_pairwise (λa b _ _ h1 h2=>Int.le_antisymm h1 h2) s t
section
variable {N:Nat}{k:Nat->Int}{cmp:Nat->Nat->(Bool->Shared->Prop)->Shared->Prop}{s:Shared}{p:Array Nat}
noncomputable def kk (k:Nat->Int) (p:Array Nat) (i:Nat):Int:=k (p.getD i 0)
noncomputable def SoT (k:Nat->Int) (p:Array Nat) (m:Nat):Prop:=∀i j,i<=j->j<m->kk k p i<=kk k p j
noncomputable def DeT (k:Nat->Int) (p:Array Nat) (m:Nat):Prop:=∀i j,i<=j->j<m->kk k p j<=kk k p i
noncomputable def Bd (N:Nat) (p:Array Nat):Prop:=p.Perm (List.range N).toArray
theorem Zfz {p q:Array Nat}{i j:Nat} (h:p[i]?=q[j]?):kk k p i=kk k q j:=by
 unfold kk;rw[Array.getD_eq_getD_getElem?,Array.getD_eq_getD_getElem?,h]
theorem Bd.size (h:Bd N p):p.size=N:=by
 have:=(Array.perm_iff_toList_perm.mp h).length_eq
 simpa using this
theorem Bd.lt (h:Bd N p) (hN:0<N) (i:Nat):p.getD i 0<N:=by
 rw[Array.getD_eq_getD_getElem?]
 by_cases hi:i<p.size
 ·rw[getElem?_pos p i hi]
  have:=(Array.Perm.mem_iff h (a:=p[i])).mp (Array.getElem_mem hi)
  simpa using this
 ·rw[getElem?_neg p i hi];exact hN
theorem Bd.rev (h:Bd N p) (i j:Nat):Bd N (kas_rev p i j):=(mirror_perm p i j _).trans h
theorem Bd.bub (h:Bd N p) (i j:Nat):Bd N (bubble p i j):=(bubble_perm p i j).trans h
theorem ZoW {i j:Nat} (hj:j<=p.size) (x:Nat):kk k (kas_rev p i j) x=if i<=x/\x<j then kk k p (i+j-1-x)else kk k p x:=by
 have e:=getElem?_mirror_all (xs:=p) (i:=i) hj x
 by_cases h:i<=x/\x<j
 ·rw[Yd h]at e⊢;exact Zfz e
 ·rw[Yc h]at e⊢;exact Zfz e
theorem Zie {i j:Nat} (hj:j<=p.size) (heq:∀x,i<=x->x<j->kk k p x=kk k p (j-1)) (x:Nat):kk k (kas_rev p i j) x=kk k p x:=by
 rw[ZoW hj]
 split
 ·rw[heq _ (by omega) (by omega),heq x (by omega) (by omega)]
 ·rfl
theorem Ztn {src d:Nat} (hs:src<p.size) (hd:d<=src) (x:Nat):kk k (bubble p src d) x=if x=src-d then kk k p src else if src-d<x/\x<=src then kk k p (x-1)else kk k p x:=by
 have e:=getElem?_bubble hs d hd x
 by_cases h1:x=src-d
 ·rw[Yd h1]at e⊢;exact Zfz e
 ·rw[Yc h1]at e⊢
  by_cases h2:src-d<x/\x<=src
  ·rw[Yd h2]at e⊢;exact Zfz e
  ·rw[Yc h2]at e⊢;exact Zfz e
noncomputable def Zgr (N:Nat) (k:Nat->Int) (cmp:Nat->Nat->(Bool->Shared->Prop)->Shared->Prop) (s:Shared):Prop:=∀i j C,i<N->j<N->C (decide (k i<k j)) s->cmp i j C s
theorem SoT.next {m:Nat} (h:SoT k p m) (h1:1<=m) (h2:kk k p (m-1)<=kk k p m):SoT k p (m+1):=by
 intro i j hij hj
 by_cases e:j=m
 ·subst e
  by_cases e2:i=j
  ·rw[e2];exact Int.le_refl _
  ·exact Int.le_trans (h i (j-1) (by omega) (by omega)) h2
 ·exact h i j hij (by omega)
theorem DeT.next {m:Nat} (h:DeT k p m) (h1:1<=m) (h2:kk k p m<=kk k p (m-1)):DeT k p (m+1):=by
 intro i j hij hj
 by_cases e:j=m
 ·subst e
  by_cases e2:i=j
  ·rw[e2];exact Int.le_refl _
  ·exact Int.le_trans h2 (h i (j-1) (by omega) (by omega))
 ·exact h i j hij (by omega)
theorem ZoX (hc:Zgr N k cmp s) (hN:0<N) (hB:Bd N p) {Q:Nat->Shared->Prop}:∀f n,1<=n->SoT k p n->(∀m,n<=m->m<=n+f->SoT k p m->(m<n+f->kk k p m<kk k p (m-1))->Q m s)->(kas_asc p f n).kasWp cmp Q s
 |0,n,h1,hS,h=>h n (Ye _) (by omega) hS (λz=>by omega)
 |f+1,n,h1,hS,h=>by
  refine hc _ _ _ (hB.lt hN n) (hB.lt hN (n-1)) ?_
  by_cases z:kk k p n<kk k p (n-1)
  ·have:decide (k (p.getD n 0)<k (p.getD (n-1) 0))=true:=Yy z
   rw[this]
   exact h n (Ye _) (by omega) hS λ_=>z
  ·have:decide (k (p.getD n 0)<k (p.getD (n-1) 0))=false:=YK z
   rw[this]
   exact ZoX hc hN hB f (n+1) (by omega) (hS.next h1 (by omega)) λm m1 m2 hm hl=>h m (by omega) (by omega) hm λy=>hl (by omega)
theorem Zjl (hc:Zgr N k cmp s) (hN:0<N) {Q:Array Nat×Nat×Nat->Shared->Prop}:∀f (p:Array Nat) n q,Bd N p->1<=n->n+f<=N->q<n->DeT k p n->(∀x,n-(q+1)<=x->x<n->kk k p x=kk k p (n-1)) ->
  (∀p' n' q',Bd N p'->n<=n'->n'<=n+f->q'<n'->DeT k p' n'->(∀x,n'-(q'+1)<=x->x<n'->kk k p' x=kk k p' (n'-1))->Q (p',n',q') s)->(kas_desc f p n q).kasWp cmp Q s
 |0,p,n,q,hB,h1,hn,hq,hD,he,h=>h p n q hB (Ye _) (by omega) hq hD he
 |f+1,p,n,q,hB,h1,hn,hq,hD,he,h=>by
  refine hc _ _ _ (hB.lt hN n) (hB.lt hN (n-1)) ?_
  have hz:=hB.size
  by_cases z:kk k p n<kk k p (n-1)
  ·have:decide (k (p.getD n 0)<k (p.getD (n-1) 0))=true:=Yy z
   rw[this]
   show KasT.kasWp cmp (if q>0 then kas_desc f (kas_rev p (n-(q+1)) n) (n+1) 0 else kas_desc f p (n+1) 0) Q s
   by_cases y:q>0
   ·rw[Yd y]
    have ke:=Zie (k:=k) (p:=p) (i:=n-(q+1)) (j:=n) (by omega) he
    refine Zjl hc hN f _ (n+1) 0 (hB.rev _ _) (by omega) (by omega) (by omega) ?_ (λx x1 x2=>by rw[show x=n+1-1 by omega]) λp' n' q' b1 b2 b3=>h p' n' q' b1 (by omega) (by omega)
    refine DeT.next (λi j i1 j1=>by rw[ke,ke];exact hD i j i1 j1) h1 (by rw[ke,ke];omega)
   ·rw[Yc y]
    exact Zjl hc hN f p (n+1) 0 hB (by omega) (by omega) (by omega) (hD.next h1 (by omega)) (λx x1 x2=>by rw[show x=n+1-1 by omega]) λp' n' q' b1 b2 b3=>h p' n' q' b1 (by omega) (by omega)
  ·have:decide (k (p.getD n 0)<k (p.getD (n-1) 0))=false:=YK z
   rw[this]
   refine hc _ _ _ (hB.lt hN (n-1)) (hB.lt hN n) ?_
   by_cases y:kk k p (n-1)<kk k p n
   ·have:decide (k (p.getD (n-1) 0)<k (p.getD n 0))=true:=Yy y
    rw[this]
    exact h p n q hB (Ye _) (by omega) hq hD he
   ·have:decide (k (p.getD (n-1) 0)<k (p.getD n 0))=false:=YK y
    rw[this]
    have e:kk k p n=kk k p (n-1):=by omega
    refine Zjl hc hN f p (n+1) (q+1) hB (by omega) (by omega) (by omega) (hD.next h1 (by omega)) (λx x1 x2=>?_) λp' n' q' b1 b2 b3=>h p' n' q' b1 (by omega) (by omega)
    rw[Nat.add_sub_cancel]
    by_cases w:x=n
    ·rw[w]
    ·rw[e];exact he x (by omega) (by omega)
theorem ZnG (hc:Zgr N k cmp s) (hN:0<N) {Q:Nat×Array Nat->Shared->Prop}{n nrem:Nat} (hB:Bd N p) (h1:1<=n) (hn:n<=nrem) (hr:nrem<=N) (hD:DeT k p n)
  (h:∀m p',Bd N p'->n<=m->m<=nrem->SoT k p' m->Q (m,p') s):(kas_tail3 n nrem p).kasWp cmp Q s:=by
 unfold kas_tail3
 rw[KasT.kasWp_bind]
 have hz:=hB.size
 refine ZoX hc hN (hB.rev 0 n) _ n h1 (λi j hij hj=>?_) λm m1 m2 hS _=>h m _ (hB.rev 0 n) m1 (by omega) hS
 rw[ZoW (by omega),ZoW (by omega),Yd (by omega),Yd (by omega)]
 exact hD _ _ (by omega) (by omega)
theorem ZiS (hc:Zgr N k cmp s) (hN:0<N) {Q:Nat×Array Nat->Shared->Prop}{n nrem:Nat} (hB:Bd N p) (hn:n+1<=nrem) (hr:nrem<=N) (hD:DeT k p (n+1))
  (h:∀m p',Bd N p'->1<=m->m<=nrem->SoT k p' m->Q (m,p') s):(kas_descPart n nrem p).kasWp cmp Q s:=by
 unfold kas_descPart
 rw[KasT.kasWp_bind]
 refine Zjl hc hN _ p (n+1) 0 hB (by omega) (by omega) (by omega) hD (λx x1 x2=>by rw[show x=n+1-1 by omega]) λp' n' q' b1 b2 b3 b4 hD' he=>?_
 show KasT.kasWp cmp (if q'>0 then kas_tail3 n' nrem (kas_rev p' (n'-(q'+1)) n')else kas_tail3 n' nrem p') Q s
 have hz:=b1.size
 by_cases y:q'>0
 ·rw[Yd y]
  have ke:=Zie (k:=k) (p:=p') (i:=n'-(q'+1)) (j:=n') (by omega) he
  exact ZnG hc hN (b1.rev _ _) (by omega) (by omega) hr (λi j i1 j1=>by rw[ke,ke];exact hD' i j i1 j1) λm p2 c1 c2 c3=>h m p2 c1 (by omega) c3
 ·rw[Yc y]
  exact ZnG hc hN b1 (by omega) (by omega) hr hD' λm p2 c1 c2 c3=>h m p2 c1 (by omega) c3
theorem Zto (hc:Zgr N k cmp s) (hN:0<N) {Q:Nat×Array Nat->Shared->Prop}{nrem:Nat} (hB:Bd N p) (h0:1<=nrem) (hr:nrem<=N)
  (h:∀m p',Bd N p'->1<=m->m<=nrem->SoT k p' m->Q (m,p') s):(kas_count nrem p).kasWp cmp Q s:=by
 unfold kas_count
 rw[KasT.kasWp_bind]
 have hz:=hB.size
 refine ZoX hc hN hB _ 1 (Ye _) (λi j hij hj=>by rw[show i=j by omega];exact Int.le_refl _) λn n1 n2 hS hl=>?_
 by_cases e:(n==nrem)=true
 ·rw[Yd e]
  exact h n p hB n1 (by omega) hS
 ·rw[Yc e]
  have ne:n≠nrem:=λz=>e (by rw[z];exact beq_self_eq_true _)
  have hlt:=hl (by omega)
  by_cases y:n>1
  ·rw[Yd y]
   refine hc _ _ _ (hB.lt hN 0) (hB.lt hN (n-1)) ?_
   by_cases z:kk k p 0<kk k p (n-1)
   ·have:decide (k (p.getD 0 0)<k (p.getD (n-1) 0))=true:=Yy z
    rw[this]
    exact h n p hB n1 (by omega) hS
   ·have:decide (k (p.getD 0 0)<k (p.getD (n-1) 0))=false:=YK z
    rw[this]
    have alle:∀x,0<=x->x<n->kk k p x=kk k p (n-1):=λx _ hx=>by
     have a:=hS 0 x (by omega) hx
     have b:=hS x (n-1) (by omega) (by omega)
     omega
    have ke:=Zie (k:=k) (p:=p) (i:=0) (j:=n) (by omega) alle
    refine ZiS hc hN (hB.rev 0 n) (by omega) hr (DeT.next (λi j i1 j1=>?_) (by omega) (by rw[ke,ke];omega)) h
    rw[ke,ke,alle i (by omega) (by omega),alle j (by omega) (by omega)]
    exact Int.le_refl _
  ·rw[Yc y]
   have:n=1:=by omega
   subst this
   exact ZiS hc hN hB (by omega) hr (DeT.next (λi j i1 j1=>by rw[show i=j by omega];exact Int.le_refl _) (Ye _) (by omega)) h
theorem ZjR (hc:Zgr N k cmp s) (hN:0<N) (hB:Bd N p) {x:Nat}{Q:Nat->Shared->Prop} (hS:SoT k p x):∀f l r,l<=r->r<=x->r-l<=f->(∀i,i<l->kk k p i<=kk k p x)->(∀i,r<=i->i<x->kk k p x<kk k p i) ->
  (∀l,l<=x->(∀i,i<l->kk k p i<=kk k p x)->(∀i,l<=i->i<x->kk k p x<kk k p i)->Q l s)->(kas_place p x f l r).kasWp cmp Q s
 |0,l,r,h1,h2,h3,hlo,hhi,h=>h l (by omega) hlo (λi i1 i2=>hhi i (by omega) i2)
 |f+1,l,r,h1,h2,h3,hlo,hhi,h=>by
  show KasT.kasWp cmp (if l ≥ r then .ret l else .ask (p.getD x 0) (p.getD ((l+r) / 2) 0) λc=>if c=true then kas_place p x f l ((l+r) / 2)else kas_place p x f ((l+r) / 2+1) r) Q s
  by_cases y:l ≥ r
  ·rw[Yd y]
   exact h l (by omega) hlo (λi i1 i2=>hhi i (by omega) i2)
  ·rw[Yc y]
   refine hc _ _ _ (hB.lt hN x) (hB.lt hN _) ?_
   by_cases z:kk k p x<kk k p ((l+r) / 2)
   ·have:decide (k (p.getD x 0)<k (p.getD ((l+r) / 2) 0))=true:=Yy z
    rw[this]
    exact ZjR hc hN hB hS f l ((l+r) / 2) (by omega) (by omega) (by omega) hlo (λi i1 i2=>Int.lt_of_lt_of_le z (hS _ _ i1 i2)) h
   ·have:decide (k (p.getD x 0)<k (p.getD ((l+r) / 2) 0))=false:=YK z
    rw[this]
    exact ZjR hc hN hB hS f ((l+r) / 2+1) r (by omega) (by omega) (by omega) (λi i1=>Int.le_trans (hS i ((l+r) / 2) (by omega) (by omega)) (Int.not_lt.mp z)) hhi h
theorem Ztp (hc:Zgr N k cmp s) (hN:0<N) {Q:Array Nat->Shared->Prop}:∀f (p:Array Nat) x,Bd N p->x+f<=N->SoT k p x->(∀p',Bd N p'->SoT k p' (x+f)->Q p' s)->(kas_bin f p x).kasWp cmp Q s
 |0,p,x,hB,hx,hS,h=>h p hB hS
 |f+1,p,x,hB,hx,hS,h=>by
  show KasT.kasWp cmp ((kas_place p x x 0 x).bind λl=>kas_bin f (bubble p x (x-l)) (x+1)) Q s
  rw[KasT.kasWp_bind]
  have hz:=hB.size
  refine ZjR hc hN hB hS x 0 x (by omega) (Ye _) (by omega) (λi hi=>by omega) (λi i1 i2=>by omega) λl hl hlo hhi=>?_
  refine Ztp hc hN f _ (x+1) (hB.bub _ _) (by omega) (λi j hij hj=>?_) λp' b1 b2=>h p' b1 (by rw[show x+(f+1)=x+1+f by omega];exact b2)
  rw[Ztn (by omega) (by omega),Ztn (by omega) (by omega),show x-(x-l)=l by omega]
  repeat' split
  all_goals first
   |(exfalso;omega)
   |exact Int.le_refl _
   |exact hlo _ (by omega)
   |exact Int.le_of_lt (hhi _ (by omega) (by omega))
   |exact hS _ _ (by omega) (by omega)
theorem ZvL (hN:0<N) (hc:Zgr N k cmp s) {Q:Array Nat->Shared->Prop} (h:∀p,Bd N p->SoT k p N->Q p s):(kas_sort N).kasWp cmp Q s:=by
 unfold kas_sort
 rw[KasT.kasWp_bind]
 refine Zto hc hN (show Bd N (List.toArray (List.range N))from Array.Perm.refl _) (by omega) (Ye _) λm p' b1 b2 b3 b4=>?_
 show KasT.kasWp cmp (if m<N then kas_bin (N-max m 1) p' (max m 1)else .ret p') Q s
 by_cases y:m<N
 ·rw[Yd y]
  have e:max m 1=m:=by omega
  rw[e]
  exact Ztp hc hN _ p' m b1 (by omega) b4 λp2 c1 c2=>h p2 c1 (by rw[show m+(N-m)=N by omega]at c2;exact c2)
 ·rw[Yc y]
  have:m=N:=by omega
  subst this
  exact h p' b1 b4
end
section
variable {prog:Program}{w:World}{E:Value->Shared->Prop}{s:Shared}
noncomputable def ZiT (vs:List Value) (p:Array Nat):Array Value:=List.toArray (p.toList.map λi=>vs.getD i Value.none)
theorem ZoY {A:Around}{κ:SortKind}{key:Nat->Int}{a:Addr}{vs:List Value}{n:Nat}{P:PySem.Fin->Shared->Prop} (ho:s.heap.get? a=some (seqObj "list" vs.toArray n)) (h64:vs.length<64)
  (hk:∀s':Shared,(∀b o,b≠a->s.heap.get? b=some o->s'.heap.get? b=some o)->2<=vs.length->(∀Q:SortKind->Shared->Prop,Q κ s'->wpAny (model prog w) A (keyKind' vs.toArray) Q E s')/\Zgr vs.length key (kas_ask prog w A κ vs) s')
  (fin:∀p:Array Nat,Bd vs.length p->SoT key p vs.length->P (.done (.ret .none)) {s with heap:=sortedHeap s.heap a vs (ZiT vs p)}):wpAny (model prog w) A (Builtin.«list.sort» ⟨[.ref a],[]⟩) P E s:=by
 have lt:=Yj ho
 obtain⟨c1,oc1⟩:∃c1,(s.heap.update a (Obj.mapSeq λ_=>#[])).get? a=some (seqObj "list" #[] c1):=⟨_,get?_update_seq ho λ_=>#[]⟩
 have oc6:(((s.heap.update a (Obj.mapSeq λ_=>#[])).push (seqObj "tuple" vs.toArray 0)).push (seqObj "list" #[] 0)).get? a=some (seqObj "list" #[] c1):=Yh _ (Yh _ oc1)
 have kp:∀b o,b≠a->s.heap.get? b=some o->(((s.heap.update a (Obj.mapSeq λ_=>#[])).push (seqObj "tuple" vs.toArray 0)).push (seqObj "list" #[] 0)).get? b=some o:=λb o nb e =>
  Yh _ (Yh _ (by rw[Heap.get?_update_ne _ _ _ _ nb];exact e))
 have z1:vs.toArray.size=vs.length:=Yu ..
 have za:∀p:Array Nat,Bd vs.length p->(ZiT vs p).size<=sizeLine:=λp hp=>by
  have:=hp.size
  unfold ZiT
  rw[Yu,Yf,YW,this,sizeLine_eq];omega
 rw[list_sort_plain]
 have hob:=ho
 refine Ya (listItems_at hob rfl (Ya ?_))
 refine listUpdate_at hob rfl (Ya (seqEpoch_at oc1 rfl (Ya ?_))) (by rw[z1,sizeLine_eq];omega) (Yt _)
 refine wpAny_newTuple (Ya ?_) (Ym (show vs.length<=64 by omega) (by decide))
 refine wpAny_newList (wpAny_holding ?_) (Yt _)
 show wpAny (model prog w) A _ P E {s with heap:=(((s.heap.update a (Obj.mapSeq λ_=>#[])).push (seqObj "tuple" vs.toArray 0)).push (seqObj "list" #[] 0))}
 dsimp only
 by_cases h2:vs.toArray.size<2
 ·rw[Yd h2,Yd h2]
  refine Ya (Yb ?_)
  rw[StateT.run_pure]
  refine Ya (Yb ?_)
  have hB:Bd vs.length (List.range vs.length).toArray:=Array.Perm.refl _
  have e:=kas_range (vs.toArray.zip vs.toArray)
  rw[show(vs.toArray.zip vs.toArray).size=vs.length by simp]at e
  have eo:(arrOf (SortSt.mk' general' (vs.toArray.zip vs.toArray) #[] 7 none)).map (·.2)=ZiT vs (List.range vs.length).toArray:=kat_snds (ks:=vs) (vs:=vs) rfl e.symm
  dsimp only
  rw[eo]
  refine Ya (seqEpoch_at oc6 rfl (Ya (listUpdate_at oc6 rfl ?_ (Yt _) (Nat.le_succ_of_le (za _ hB)))))
  simp only[bne_self_eq_false,Bool.false_eq_true,if_false]
  exact Yb (fin _ hB λi j h1 hj=>by rw[show i=j by omega];exact Int.le_refl _)
 ·rw[Yc h2,Yc h2]
  have h2':2<=vs.length:=by omega
  obtain⟨hk1,hk2⟩:=hk {s with heap:=(((s.heap.update a (Obj.mapSeq λ_=>#[])).push (seqObj "tuple" vs.toArray 0)).push (seqObj "list" #[] 0))} kp h2'
  refine Ya (hk1 _ (Ya (YB (kat_run (ks:=vs) (vs:=vs) (Q:=λst s'=>∃p:Array Nat,Bd vs.length p/\SoT key p vs.length/\arrOf st=p.map (kas_item (vs.toArray.zip vs.toArray))/\failedOf st=none/\s'={s with heap:=(((s.heap.update a (Obj.mapSeq λ_=>#[])).push (seqObj "tuple" vs.toArray 0)).push (seqObj "list" #[] 0))})
   (G:=λp s'=>Bd vs.length p/\SoT key p vs.length/\s'={s with heap:=(((s.heap.update a (Obj.mapSeq λ_=>#[])).push (seqObj "tuple" vs.toArray 0)).push (seqObj "list" #[] 0))}) rfl h2' h64 (λp st s' _ a2 a3 a4=>⟨p,a4.1,a4.2.1,a2,a3,a4.2.2⟩) (ZvL (by omega) hk2 λp b1 b2=>⟨b1,b2,rfl⟩)) ?_ λ_ _ z=>z)))
  rintro⟨⟨⟩,st⟩ s' ⟨p,b1,b2,har,hf,rfl⟩
  have eo:(arrOf st).map (·.2)=ZiT vs p:=kat_snds (ks:=vs) (vs:=vs) rfl har
  dsimp only
  rw[eo]
  refine Ya (seqEpoch_at oc6 rfl (Ya (listUpdate_at oc6 rfl ?_ (Yt _) (Nat.le_succ_of_le (za _ b1)))))
  rw[hf]
  simp only[bne_self_eq_false,Bool.false_eq_true,if_false]
  exact Yb (fin p b1 b2)
theorem ZvM {A:Around}{κ:SortKind}{key:Nat->Int}{l:Addr}{vs:List Value}{Q:Value->Shared->Prop} (hl:s.heap.IsList l vs.toArray) (h64:vs.length<64)
  (hk:∀(A':Around) (E':Value->Shared->Prop) (s':Shared),(∀b o,s.heap.get? b=some o->s'.heap.get? b=some o)->2<=vs.length->(∀Q:SortKind->Shared->Prop,Q κ s'->wpAny (model prog w) A' (keyKind' vs.toArray) Q E' s')/\Zgr vs.length key (kas_ask prog w A' κ vs) s')
  (fin:∀p:Array Nat,Bd vs.length p->SoT key p vs.length->Q (.ref (s.heap.objs.size+1)) {s with heap:=sortedAll s.heap vs (ZiT vs p)}):wpAny (model prog w) A (call (.builtin "sorted") [.ref l]) Q E s:=by
 refine Calls.call_function_entry kind_sorted plain_sorted entry_sorted (args_sorted1 _) ?_
 unfold Builtin.«sorted»
 refine Ya (m:=checkCount "sorted" 1 1 _) (Yb (Ya (collect_list hl (Ya (wpAny_newList ?_ (by rw[sizeLine_eq];omega))) (by rw[sizeLine_eq];omega))))
 have z5:((s.heap.push (seqObj "list" #[] 0)).update s.heap.objs.size (Obj.mapSeq (·++vs.toArray))).objs.size=s.heap.objs.size+1:=(Heap.size_update ..).trans (size_push' ..)
 have o5:(((s.heap.push (seqObj "list" #[] 0)).update s.heap.objs.size (Obj.mapSeq (·++vs.toArray))).push (seqObj "list" vs.toArray 0)).get? (s.heap.objs.size+1)=some (seqObj "list" vs.toArray 0):=z5▸Ys _ rfl
 have kp:∀b o,s.heap.get? b=some o->(((s.heap.push (seqObj "list" #[] 0)).update s.heap.objs.size (Obj.mapSeq (·++vs.toArray))).push (seqObj "list" vs.toArray 0)).get? b=some o:=λb o e=>by
  have hlt:=Yj e
  refine Yh _ ?_
  rw[Heap.get?_update_ne _ _ _ _ (Yn hlt)]
  exact Yh _ e
 show wpAny _ _ _ _ _ {s with heap:=(((s.heap.push (seqObj "list" #[] 0)).update s.heap.objs.size (Obj.mapSeq (·++vs.toArray))).push (seqObj "list" vs.toArray 0))}
 rw[z5]
 refine Ya (wpAny_holding (wpAny_call_entry slot_list_sort ⟨_,o5,rfl⟩ entry_list_sort (ZoY (κ:=κ) (key:=key) o5 h64 (λs' k6 h2=>hk _ _ s' (λb o e=>k6 b o (Yn (YO (Yj e))) (kp b o e)) h2) λp b1 b2=>⟨_,rfl,?_⟩) (args_list_sort _)))
 exact Yb ⟨_,rfl,fin p b1 b2⟩
noncomputable def Pr (h:Heap) (v:Value) (x y:Int):Prop:=∃a o n t u,v=.ref a/\h.get? a=some o/\o.cls=.type "tuple"/\o.data=.seq #[.int x t,.int y u] n
theorem Pr.keep {h h':Heap}{v:Value}{x y:Int} (p:Pr h v x y) (k:∀b o,h.get? b=some o->h'.get? b=some o):Pr h' v x y:=by
 obtain⟨a,o,n,t,u,e,g,r⟩:=p
 exact⟨a,o,n,t,u,e,k _ _ g,r⟩
theorem Zqv {h:Heap}:∀{vs:List Value},(∀v∈vs,∃x y,Pr h v x y)->∃fs,KatTups h vs fs/\fs.length=vs.length/\∀f∈fs,∃x t,f=Value.int x t
 |[],_=>⟨[],trivial,rfl,λf hf=>by cases hf⟩
 |v::vs,hv=>by
  obtain⟨fs,h1,h2,h3⟩:=Zqv (λu hu=>hv u (Yw _ hu))
  obtain⟨x,y,a,o,n,t,u,rfl,e,c,d⟩:=hv v Yr
  refine⟨.int x t::fs,KatTups.cons e c d rfl h1,by simp[h2],λf hf=>?_⟩
  rcases Yi.mp hf with rfl|hf
  ·exact⟨x,t,rfl⟩
  ·exact h3 f hf
theorem ZoZ {A:Around}{vs:List Value}{Q:SortKind->Shared->Prop} (h2:2<=vs.length) (hv:∀v∈vs,∃x y,Pr s.heap v x y) (h:Q (tuples' true) s):wpAny (model prog w) A (keyKind' vs.toArray) Q E s:=by
 obtain⟨fs,h1,hl,h3⟩:=Zqv hv
 refine kat_kind h1 (by omega) (T:=.type "int") (λf hf=>?_) (by decide) ?_
 ·obtain⟨x,t,rfl⟩:=h3 f hf
  exact .now
 ·rw[show(Value.type "int" != Value.type "tuple")=true by decide];exact h
theorem Ztq {A:Around}{v v':Value}{x y x' y':Int}{C:Bool->Shared->Prop} (p:Pr s.heap v x y) (p':Pr s.heap v' x' y') (h:C (decide (x<x'\/(x=x'/\y<y'))) s):wpAny (model prog w) A (keyLt' (tuples' true) v v') C E s:=by
 obtain⟨a,o,n,t,u,rfl,e,c,d⟩:=p
 obtain⟨a',o',n',t',u',rfl,e',c',d'⟩:=p'
 refine kat_lt e d e' d' ?_
 show KatLex prog w A true _ C [(.int x t,.int x' t'),(.int y u,.int y' u')] 0 s
 refine kat_cons (wpAny_eqBool_int ?_)
 by_cases ex:x=x'
 ·rw[show(x==x')=true from beq_iff_eq.mpr ex]
  refine kat_yes (kat_cons (wpAny_eqBool_int ?_))
  by_cases ey:y=y'
  ·rw[show(y==y')=true from beq_iff_eq.mpr ey]
   refine kat_yes (kat_nil ?_)
   have:decide (x<x'\/(x=x'/\y<y'))=false:=YK (by omega)
   rw[this]at h
   exact h
  ·rw[show(y==y')=false from beq_eq_false_iff_ne.mpr ey]
   refine kat_no (kat_one _ _ (PyProof.Rows.lt_int (show C (decide (y<y')) s from ?_)))
   have:decide (x<x'\/(x=x'/\y<y'))=decide (y<y'):=decide_eq_decide.mpr (by omega)
   rw[this]at h
   exact h
 ·rw[show(x==x')=false from beq_eq_false_iff_ne.mpr ex]
  refine kat_no (oneLt_int ?_)
  have:decide (x<x'\/(x=x'/\y<y'))=decide (x<x'):=decide_eq_decide.mpr (by omega)
  rw[this]at h
  exact h
end
section
variable {X:Cx}
noncomputable def ZfA (r:List Int):Int:=r.getD 0 0*100000+r.getD 1 0
noncomputable def Zo0 (K:Frag):List V->Hp->VK->Prop:=λxs H Q=>∃(p:Addr) (rs:List (List Int)),xs=[.ref p]/\ZaS H p rs/\(∀r∈rs,∃x y,r=[x,y]/\0<=y/\y<100000)/\rs.length<64/\∀(rs':List (List Int)) (l:Addr) (H':Hp),rs'.Perm rs->rs'.Pairwise (λr r'=>ZfA r<=ZfA r')->H l=none->Ze H H'->ZaS H' l rs'->Q (.ref l) H'
theorem ZmA {K:Frag} (hK:X.K=K):Zbc X (.builtin "sorted") (Zo0 K):=by
 subst hK
 intro pins s σ H xs us Q I r h
 obtain⟨p,rs,rfl,⟨as,hp,hla,hT⟩,hR,hn,q⟩:=h
 obtain⟨u,rfl,ru⟩:=r.one
 cases(show u=Value.ref p from ru)
 obtain⟨its,rv,pl,hz⟩:=I.list (SqL.of hp)
 have hl:its.length=rs.length:=by have:=rv.length;rw[Yf]at this;omega
 have hits:∀i (h1:i<its.length) (h2:i<as.length),its[i]=Value.ref as[i]:=λi h1 h2=>by
  obtain⟨v,e1,e2⟩:=rv.get (i:=i) (x:=V.ref as[i]) (by rw[YG,Yg h2];rfl)
  rw[Yg h1]at e1
  cases e1
  exact e2
 have hPr:∀i (h1:i<its.length) (h2:i<rs.length),∃x y,rs[i]=[x,y]/\0<=y/\y<100000/\Pr s.heap its[i] x y:=λi h1 h2=>by
  obtain⟨x,y,e,y0,y1⟩:=hR _ (YD h2)
  obtain⟨_,tv,hv,o,g,c,n,d⟩:=I.hok _ _ (hT i (by omega) h2)
  rw[e]at hv
  obtain⟨v1,v2,rfl,⟨t1,rfl⟩,⟨t2,rfl⟩⟩:=hv.two
  exact⟨x,y,e,y0,y1,as[i]'(by omega),o,n,t1,t2,hits i h1 (by omega),g,c,d⟩
 have hPm:∀v∈its,∃x y,Pr s.heap v x y:=λv hv=>by
  obtain⟨i,h1,rfl⟩:=YY hv
  obtain⟨x,y,_,_,_,hp⟩:=hPr i h1 (by omega)
  exact⟨x,y,hp⟩
 refine ZvM (κ:=tuples' true) (key:=λi=>ZfA (rs.getD i [])) pl.isList (by omega) (λA' E' s' kp h2=>⟨λQ' hq=>ZoZ h2 (λv hv=>?_) hq,λi j C hi hj hC=>?_⟩) λp' hB hS=>?_
 ·obtain⟨x,y,hp⟩:=hPm v hv
  exact⟨x,y,hp.keep kp⟩
 ·obtain⟨x,y,e,y0,y1,hp1⟩:=hPr i hi (by omega)
  obtain⟨x',y',e',y0',y1',hp2⟩:=hPr j hj (by omega)
  unfold kas_ask
  rw[show its.getD i Value.none=its[i] by simp[hi],show its.getD j Value.none=its[j] by simp[hj]]
  refine Ztq (hp1.keep kp) (hp2.keep kp) ?_
  have ei:ZfA (rs.getD i [])=x*100000+y:=by simp[ZfA,Yl,show i<rs.length by omega,e]
  have ej:ZfA (rs.getD j [])=x'*100000+y':=by simp[ZfA,Yl,show j<rs.length by omega,e']
  have:decide (ZfA (rs.getD i [])<ZfA (rs.getD j []))=decide (x<x'\/(x=x'/\y<y')):=by rw[ei,ej];exact decide_eq_decide.mpr (by omega)
  rw[<-this];exact hC
 ·have hsz:p'.size=rs.length:=hB.size.trans hl
  have hlt:∀i∈p'.toList,i<rs.length:=λi hi=>by
   have:=(Array.perm_iff_toList_perm.mp hB).mem_iff.mp hi
   simpa[hl]using this
  have sm:Ze H (upd H (s.heap.objs.size+1) (.lst ((p'.toList.map λi=>as.getD i 0).map V.ref))):=(Ze.refl H).upd (I.hok.fresh (YR _))
  refine⟨.ref (s.heap.objs.size+1),_,I.laid (t':=s.toks) (a:=s.heap.objs.size+1) (o:=.lst ((p'.toList.map λi=>as.getD i 0).map V.ref)) (λb o e=>sortedAll_old e) (YR _) ?_,rfl,q (p'.toList.map λi=>rs.getD i []) _ _ ?_ ?_ (I.hok.fresh (YR _)) sm ⟨_,Zc,by simp,λi i1 i2=>sm _ _ ?_⟩⟩
  ·obtain⟨n,e⟩:=sortedAll_at s.heap its (ZiT its p')
   refine⟨Ym (show _<=1000 by simp;omega) (by decide),(ZiT its p').toList,n,?_,by rw[e]⟩
   have key:∀(l:List Nat),(∀i∈l,i<rs.length)->Vals ((l.map λi=>as.getD i 0).map V.ref) (l.map λi=>its.getD i Value.none):=by
    intro l
    induction l with
    |nil=>intro _;exact .nil
    |cons a l ih =>
     intro hl'
     refine .cons ?_ (ih λi hi=>hl' i (Yw _ hi))
     have ha:=hl' a Yr
     have h1:a<its.length:=by omega
     have h2:a<as.length:=by omega
     show its.getD a Value.none=Value.ref (as.getD a 0)
     rw[show its.getD a Value.none=its[a] by simp[h1],show as.getD a 0=as[a] by simp[h2]]
     exact hits a h1 h2
   exact key _ hlt
  ·have:=(Array.perm_iff_toList_perm.mp hB).map λi=>rs.getD i []
   refine this.trans ?_
   have e:((List.range its.length).toArray.toList.map λi=>rs.getD i [])=rs:=by
    rw[hl]
    refine List.ext_getElem (by simp) λi i1 i2=>?_
    have:i<rs.length:=i2
    simp[Yl,this]
   rw[e]
  ·rw[List.pairwise_iff_getElem]
   intro i j i1 j1 hij
   have i2:i<p'.size:=by simpa using i1
   have j2:j<p'.size:=by simpa using j1
   have:=hS i j (by omega) (by omega)
   unfold kk at this
   rw[Array.getD_eq_getD_getElem?,Array.getD_eq_getD_getElem?,getElem?_pos p' i i2,getElem?_pos p' j j2]at this
   simpa using this
  ·have i3:i<p'.toList.length:=by simpa using i1
   have hi:=hlt _ (YD i3)
   have h2:p'.toList[i]<as.length:=by omega
   have:=hT _ h2 hi
   have e1:(p'.toList.map λi=>as.getD i 0)[i]'(by simpa using i1)=as[p'.toList[i]]:=by rw[List.getElem_map,Yl,Yg h2];rfl
   have e2:(p'.toList.map λi=>rs.getD i [])[i]'(by simpa using i2)=rs[p'.toList[i]]:=by rw[List.getElem_map,Yl,Yg hi];rfl
   rw[e1,e2];exact this
end
theorem Zrk {B:List Nat}{n:Nat} (hB:B.Nodup) (hlt:∀q∈B,q<n):(List.range n).countP (λp=>decide (p∈B))=B.length:=by
 rw[List.countP_eq_length_filter]
 refine List.Perm.length_eq ((List.perm_ext_iff_of_nodup (List.nodup_range.filter _) hB).mpr λa=>?_)
 rw[YF,Yz,decide_eq_true_iff]
 exact⟨λh=>h.2,λh=>⟨hlt a h,h⟩⟩
noncomputable def goN:Nat->Nat->Int
 |0,_=>1
 |r+1,j=>((List.range (j+1)).map λi=>goN r (i+1)).sum
noncomputable def fewer (r st d:Nat):Int:=((List.range d).map λf=>goN r (st+1-f)).sum
end L2
namespace L2
open PySem PySem.Spec PyProof.Rows PySem.W
end L2
namespace L2
noncomputable def rk:Nat->List Nat->Int
 |_,[]=>0
 |st,d::ds=>fewer ds.length st d+rk (st-d+1) ds
noncomputable def Ok:Nat->List Nat->Prop
 |_,[]=>True
 |st,d::ds=>d<=st/\Ok (st-d+1) ds
end L2
namespace L2
open PySem PySem.Spec PyProof.Rows PySem.W
end L2
namespace L2
open PySem PySem.Spec PyProof.Rows PySem.W
end L2
namespace L2
open PySem PySem.Spec PyProof.Rows
section
variable {κ:Type} [DecidableEq κ]
noncomputable def ZdO (kvs:List (κ×V)) (k:κ):Option V:=(kvs.find? λkv=>decide (kv.1=k)).map (·.2)
noncomputable def putK (kvs:List (κ×V)) (k:κ) (v:V):List (κ×V) :=
 if (kvs.any λkv=>decide (kv.1=k))=true then kvs.map (λkv=>if kv.1=k then (kv.1,v)else kv)else kvs++[(k,v)]
noncomputable def ZjS (kvs:List (κ×V)) (k:κ):List (κ×V):=kvs.filter λkv=>decide (kv.1≠k)
theorem Zhu {p:κ×V}{r:List (κ×V)}{k:κ} (e:p.1=k):ZdO (p::r) k=some p.2:=by simp[ZdO,List.find?_cons,e]
theorem Zhv {p:κ×V}{r:List (κ×V)}{k:κ} (e:¬ p.1=k):ZdO (p::r) k=ZdO r k:=by simp[ZdO,List.find?_cons,e]
theorem ZjT (k:κ):∀kvs:List (κ×V),(kvs.any λkv=>decide (kv.1=k))=(ZdO kvs k).isSome
 |[]=>rfl
 |p::r=>by
  rw[List.any_cons]
  by_cases e:p.1=k
  ·simp only[Zhu e,Yy e,Bool.true_or,Option.isSome_some]
  ·rw[Zhv e,YK e,Bool.false_or];exact ZjT k r
theorem ZfB (kvs:List (κ×V)) (k:κ) (v:V):(putK kvs k v).length<=kvs.length+1:=by
 unfold putK
 split
 ·rw[Yf];omega
 ·rw[YN,YQ,List.length_nil];omega
theorem ZjU {kvs:List (κ×V)}{k:κ} (v:V) (h:ZdO kvs k=none):putK kvs k v=kvs++[(k,v)]:=by
 unfold putK
 rw[ZjT,h]
 exact Yc (by decide)
theorem Zi7.Zif {o:Option V}{u:Option Value} (r:Zi7 o u):o.isSome=u.isSome:=by
 cases o with
 |none=>cases u with
  |none=>rfl
  |some _=>exact(show False from r).elim
 |some _=>cases u with
  |none=>exact(show False from r).elim
  |some _=>rfl
theorem KV.val {kvs:List (κ×V)}{vs:List (κ×Value)} (r:KV kvs vs) (k:κ):Zi7 (ZdO kvs k) (valueAt vs k):=by
 unfold KV at r
 induction r with
 |nil=>exact True.intro
 |@cons p q ps qs h t ih =>
  obtain⟨h1,h2⟩:=h
  by_cases e:p.1=k
  ·have e':q.1=k:=h1.symm.trans e
   have b:valueAt (q::qs) k=some q.2:=by simp[valueAt,List.find?_cons,e']
   rw[Zhu e,b];exact h2
  ·have e':¬ q.1=k:=λz=>e (h1.trans z)
   have b:valueAt (q::qs) k=valueAt qs k:=by simp[valueAt,List.find?_cons,e']
   rw[Zhv e,b];exact ih
theorem KV.any {kvs:List (κ×V)}{vs:List (κ×Value)} (r:KV kvs vs) (k:κ):(kvs.any λkv=>decide (kv.1=k))=vs.any λkv=>decide (kv.1=k):=by
 unfold KV at r
 induction r with
 |nil=>rfl
 |cons h t ih=>rw[List.any_cons,List.any_cons,ih,h.1]
theorem KV.repl {kvs:List (κ×V)}{vs:List (κ×Value)} (r:KV kvs vs) (k:κ) {y:V}{u:Value} (ry:RelV y u) :
  KV (kvs.map λkv=>if kv.1=k then (kv.1,y)else kv) (vs.map λkv=>if kv.1=k then (kv.1,u)else kv):=by
 unfold KV at r⊢
 induction r with
 |nil=>exact .nil
 |@cons p q ps qs h t ih =>
  rw[YM,YM]
  refine .cons ?_ ih
  obtain⟨h1,h2⟩:=h
  by_cases e:p.1=k
  ·rw[Yd e,Yd (h1.symm.trans e)];exact⟨h1,ry⟩
  ·rw[Yc e,Yc (λz=>e (h1.trans z))];exact⟨h1,h2⟩
theorem KV.put {kvs:List (κ×V)}{vs:List (κ×Value)} (r:KV kvs vs) (k:κ) {y:V}{u:Value} (ry:RelV y u):KV (putK kvs k y) (stored vs k u):=by
 unfold putK stored
 rw[r.any k]
 by_cases e:(vs.any λkv=>decide (kv.1=k))=true
 ·rw[Yd e,Yd e];exact r.repl k ry
 ·rw[Yc e,Yc e];exact Paired.snoc r ⟨rfl,ry⟩
theorem KV.drop {kvs:List (κ×V)}{vs:List (κ×Value)} (r:KV kvs vs) (k:κ):KV (ZjS kvs k) (without vs k):=by
 unfold KV at r⊢
 unfold ZjS without
 induction r with
 |nil=>exact .nil
 |@cons p q ps qs h t ih =>
  obtain⟨h1,h2⟩:=h
  rw[List.filter_cons,List.filter_cons]
  by_cases e:p.1=k
  ·have a:¬ decide (p.1≠k)=true:=by simp[e]
   have b:¬ decide (q.1≠k)=true:=by simp[h1.symm.trans e]
   rw[Yc a,Yc b];exact ih
  ·have e':¬ q.1=k:=λz=>e (h1.trans z)
   have a:decide (p.1≠k)=true:=by simp[e]
   have b:decide (q.1≠k)=true:=by simp[e']
   rw[Yd a,Yd b];exact .cons ⟨h1,h2⟩ ih
theorem KV.length {kvs:List (κ×V)}{vs:List (κ×Value)} (r:KV kvs vs):kvs.length=vs.length:=Paired.length r
theorem Ztr (kvs:List (κ×V)) (k:κ):(ZjS kvs k).length<=kvs.length:=Y1 _ _
end
theorem ZlI {P:Program}{w:World}{k:Key}{u:Value} (r:RelV (kV k) u):(Zao P w).is k u=true:=by
 cases k with
 |inl i=>obtain⟨t,e⟩:=(show ∃t,u=Value.int i t from r);subst e;exact Zni P w i t
 |inr x=>obtain⟨t,e⟩:=(show ∃t,u=Value.str x t from r);subst e;exact Znj P w x t
theorem ZlJ {P:Program}{w:World}:∀{ks:List Key}{us:List Value},Vals (ks.map kV) us->ItemsAre (Zao P w) ks us
 |[],_,r=>by rw[List.map_nil]at r;cases r;exact .nil
 |k::ks,_,r=>by
  rw[YM]at r
  cases r with
  |cons h t=>exact .cons (ZlI h) (ZlJ t)
noncomputable abbrev KT (H:Hp):List (List Key×V)->List (List Key×Addr×Value)->Prop:=Paired λp q=>p.1=q.1/\H q.2.1=some (.tup (p.1.map kV))/\RelV p.2 q.2.2
theorem KT.val {H:Hp}{kvs:List (List Key×V)}{xs:List (List Key×Addr×Value)} (r:KT H kvs xs) (k:List Key):Zi7 (ZdO kvs k) ((atKey xs k).map (·.2)):=by
 induction r with
 |nil=>exact True.intro
 |@cons p q ps qs h t ih =>
  obtain⟨h1,_,h2⟩:=h
  by_cases e:p.1=k
  ·have e':q.1=k:=h1.symm.trans e
   have b:atKey (q::qs) k=some q.2:=by simp[atKey,List.find?_cons,e']
   rw[Zhu e,b];exact h2
  ·have e':¬ q.1=k:=λz=>e (h1.trans z)
   have b:atKey (q::qs) k=atKey qs k:=by simp[atKey,List.find?_cons,e']
   rw[Zhv e,b];exact ih
theorem KT.repl {H:Hp}{kvs:List (List Key×V)}{xs:List (List Key×Addr×Value)} (r:KT H kvs xs) (k:List Key) {y:V}{u:Value} (ry:RelV y u) :
  KT H (kvs.map λkv=>if kv.1=k then (kv.1,y)else kv) (xs.map (putAt k u)):=by
 induction r with
 |nil=>exact .nil
 |@cons p q ps qs h t ih =>
  rw[YM,YM]
  refine .cons ?_ ih
  obtain⟨h1,h2,h3⟩:=h
  unfold putAt
  by_cases e:p.1=k
  ·rw[Yd e,Yd (h1.symm.trans e)];exact⟨h1,h2,ry⟩
  ·rw[Yc e,Yc (λz=>e (h1.trans z))];exact⟨h1,h2,h3⟩
theorem KT.put {H:Hp}{kvs:List (List Key×V)}{xs:List (List Key×Addr×Value)} (r:KT H kvs xs) (k:List Key) {b:Addr}{y:V}{u:Value} (hb:H b=some (.tup (k.map kV))) (ry:RelV y u) :
  KT H (putK kvs k y) (storedH xs k b u):=by
 have e:(kvs.any λkv=>decide (kv.1=k))=(atKey xs k).isSome:=by
  rw[ZjT,(r.val k).Zif,Option.isSome_map]
 unfold putK storedH
 rw[e]
 by_cases q:(atKey xs k).isSome=true
 ·rw[Yd q,Yd q];exact r.repl k ry
 ·rw[Yc q,Yc q];exact Paired.snoc r ⟨rfl,hb,ry⟩
theorem KT.keeps {H H':Hp}{kvs:List (List Key×V)}{xs:List (List Key×Addr×Value)} (r:KT H kvs xs) (ht:∀b ys,H b=some (.tup ys)->H' b=some (.tup ys)):KT H' kvs xs :=
 Paired.mapP r λ_ _ z=>⟨z.1,ht _ _ z.2.1,z.2.2⟩
section
variable {P:Program}{w:World}{H:Hp}{h:Heap}{a:Addr}
theorem rd_of {u:HO} (ok:HOk P w H h) (e:Rd H a u):Zaa P w H h a u:=e.ok ok
theorem ZnH {kvs:List (Key×V)} (ok:HOk P w H h) (e:Rd H a (.dK kvs)):kvs.length<=sizeLine/\(a==sysModules)=false/\∃vs,KV kvs vs/\h.DictOf (Zao P w) a vs :=
 show Zaa P w H h a (.dK kvs)from rd_of ok e
theorem Zqw {kvs:List (Key×V)} (ok:HOk P w H h) (e:H a=some (.dK kvs)):kvs.length<=sizeLine/\(a==sysModules)=false/\∃vs,KV kvs vs/\h.DictOf (Zao P w) a vs:=ZnH ok (.inl e)
theorem ZmB {ks:List Key} (ok:HOk P w H h) (e:H a=some (.tup (ks.map kV))):(tupleKind (Zao P w)).is h ks a:=by
 obtain⟨_,its,r,o,h1,h2,n,h3⟩:=(show Zaa P w H h a (.tup (ks.map kV))from ok a _ e)
 exact⟨o,its.toArray,n,h1,h2,h3,by simpa using ZlJ r⟩
theorem ZnI {kvs:List (List Key×V)} (ok:HOk P w H h) (e:Rd H a (.dT kvs)):kvs.length<=sizeLine/\(a==sysModules)=false /\
  ∃xs,KT H kvs xs/\h.DictOfH (tupleKind (Zao P w)) a xs:=by
 obtain⟨z,y,xs,r,o,es,ep,h1,h2,h3,h4,h5⟩:=(show Zaa P w H h a (.dT kvs)from rd_of ok e)
 refine⟨z,y,xs,r,o,es,ep,h1,h2,h3,h4,λx hx=>?_,h5⟩
 have all:∀{l:List (List Key×V)}{m:List (List Key×Addr×Value)},KT H l m->∀x∈m,(tupleKind (Zao P w)).is h x.1 x.2.1:=by
  intro l m q
  induction q with
  |nil=>intro x hx;exact nomatch hx
  |@cons p q ps qs hq t ih =>
   intro x hx
   rcases Yi.mp hx with e|hx
   ·subst e
    exact ZmB ok (by rw[<-hq.1];exact hq.2.1)
   ·exact ih x hx
 exact all r x hx
theorem dt_of {kvs:List (List Key×V)} (ok:HOk P w H h) (e:H a=some (.dT kvs)):kvs.length<=sizeLine/\(a==sysModules)=false /\
  ∃xs,KT H kvs xs/\h.DictOfH (tupleKind (Zao P w)) a xs:=ZnI ok (.inl e)
end
noncomputable def ZgB (H:Hp) (a:Addr) (y:V) (r:Option V):Prop :=
 (∃kvs k,Rd H a (.dK kvs)/\y=kV k/\r=ZdO kvs k)\/∃kvs k b,Rd H a (.dT kvs)/\y=.ref b/\H b=some (.tup (k.map kV))/\r=ZdO kvs k
noncomputable def ZjV (H:Hp) (a:Addr) (y v:V) (H':Hp):Prop :=
 (∃kvs k,H a=some (.dK kvs)/\y=kV k/\kvs.length<sizeLine/\H'=upd H a (.dK (putK kvs k v))) \/
 ∃kvs k b,H a=some (.dT kvs)/\y=.ref b/\H b=some (.tup (k.map kV))/\kvs.length<sizeLine/\H'=upd H a (.dT (putK kvs k v))
theorem ZgB.k {H:Hp}{a:Addr}{kvs:List (Key×V)}{k:Key} (e:H a=some (.dK kvs)):ZgB H a (kV k) (ZdO kvs k):=.inl ⟨kvs,k,.inl e,rfl,rfl⟩
theorem ZjV.k {H:Hp}{a:Addr}{kvs:List (Key×V)}{k:Key}{v:V} (e:H a=some (.dK kvs)) (hl:kvs.length<sizeLine):ZjV H a (kV k) v (upd H a (.dK (putK kvs k v))):=.inl ⟨kvs,k,e,rfl,hl,rfl⟩
section
variable {X:Cx}{pins:List (Addr×Obj)}{σ:St}{H:Hp}{s:Shared}{a:Addr}{y v:V}{u r:Value}{o:Option V}{A:Around}{E:Value->Shared->Prop}
theorem Inv.big (I:Inv X pins σ H s):sysModules<s.heap.objs.size:=by
 have h:mainGlobals<s.heap.objs.size:=(I.mod.glob.keeps I.bk).lt
 exact Nat.lt_trans (by decide) h
theorem Zrl {Q:Value->Shared->Prop} (hu:A.units+1<cLine) (I:Inv X pins σ H s) (g:ZgB H a y (some v)) (ry:RelV y u) (h:∀w' s',Inv X pins σ H s'->RelV v w'->Q w' s') :
  wpAny (model X.prog X.w) A (getItem (.ref a) u) Q E s:=by
 rcases g with⟨kvs,k,e,ey,l⟩|⟨kvs,k,b,e,ey,eb,l⟩
 ·subst ey
  obtain⟨z,hd,vs,rel,dd⟩:=ZnH I.hok e
  obtain⟨w',hw,rw'⟩:=Zi7.some_of (v:=v) (o:=valueAt vs k) (by rw[l];exact rel.val k)
  exact wpAny_getItem_of (ZlI ry) dd.mapOf hw (h w' _ (I.tok _) rw')
 ·subst ey
  cases(show u=Value.ref b from ry)
  obtain⟨z,hd,xs,rel,dd⟩:=ZnI I.hok e
  obtain⟨w',hw,rw'⟩:=Zi7.some_of (v:=v) (o:=(atKey xs k).map (·.2)) (by rw[l];exact rel.val k)
  obtain⟨p,hp,hp2⟩:=Option.map_eq_some_iff.mp hw
  refine wpAny_getItem_heap (tupleKind_room_in1 hu) (ZmB I.hok eb) dd hp ?_
  rw[hp2]
  exact h w' _ (I.tok _) rw'
theorem d_in {Q:Value->Shared->Prop} (hu:A.units+1<cLine) (I:Inv X pins σ H s) (g:ZgB H a y o) (ry:RelV y u) (h:∀s',Inv X pins σ H s'->Q (.bool o.isSome) s') :
  wpAny (model X.prog X.w) A (compareOp .In u (.ref a)) Q E s:=by
 rcases g with⟨kvs,k,e,ey,l⟩|⟨kvs,k,b,e,ey,eb,l⟩
 ·subst ey
  obtain⟨z,hd,vs,rel,dd⟩:=ZnH I.hok e
  refine wpAny_in_of (ZlI ry) hd dd.mapOf ?_
  rw[<-(rel.val k).Zif,<-l]
  exact h _ (I.tok _)
 ·subst ey
  cases(show u=Value.ref b from ry)
  obtain⟨z,hd,xs,rel,dd⟩:=ZnI I.hok e
  refine wpAny_in_heap (tupleKind_room_in1 hu) (ZmB I.hok eb) hd dd ?_
  have q:=(rel.val k).Zif
  rw[Option.isSome_map]at q
  rw[<-q,<-l]
  exact h _ (I.tok _)
theorem Zjm {h':Heap}{t':Nat}{ob:HO} (I:Inv X pins σ H s) (mu:Mut (H a)) (hs:Heap.SameBut a s.heap h') (he:∃q,h'.get? a=some q) (new:Zaa X.prog X.w (upd H a ob) h' a ob) :
  Inv X pins σ (upd H a ob) {s with heap:=h',toks:=t'} :=
 I.write (x:=a) (e:=a) mu (.inl rfl) (λb q hb z=>(hs.2 b hb).trans z) he new
theorem Zo1 {P:Program}{w:World}{H':Hp}{h':Heap}{kvs:List (Key×V)}{vs:List (Key×Value)} (z:kvs.length<=sizeLine) (hd:(a==sysModules)=false) (rel:KV kvs vs) (dd:h'.DictOf (Zao P w) a vs) :
  Zaa P w H' h' a (.dK kvs):=⟨z,hd,vs,rel,dd⟩
theorem Zrm {H':Hp}{Q:Unit->Shared->Prop} (hu:A.units+1<cLine) (I:Inv X pins σ H s) (g:ZjV H a y v H') (ry:RelV y u) (rv:RelV v r) (h:∀s',Inv X pins σ H' s'->Q () s') :
  wpAny (model X.prog X.w) A (setItem (.ref a) u r) Q E s:=by
 rcases g with⟨kvs,k,e,ey,l,eH⟩|⟨kvs,k,b,e,ey,eb,l,eH⟩
 ·subst ey eH
  obtain⟨z,hd,vs,rel,dd⟩:=Zqw I.hok e
  have hz:vs.length<=sizeLine:=by rw[<-rel.length];exact z
  have hl:(putK kvs k v).length<=sizeLine:=by have:=ZfB kvs k v;omega
  refine wpAny_setItem_pairs (hsz:=hz) (ZlI ry) dd λh' dd' hs=>h _ ?_
  have he:∃q,h'.get? a=some q:=let ⟨q,_,_,hq,_⟩:=dd';⟨q,hq⟩
  exact Zjm I (by rw[e];exact True.intro) hs he (Zo1 hl hd (rel.put k rv) dd')
 ·subst ey eH
  cases(show u=Value.ref b from ry)
  obtain⟨z,hd,xs,rel,dd⟩:=dt_of I.hok e
  have hz:xs.length<=sizeLine:=by rw[<-Paired.length rel];exact z
  have hl:(putK kvs k v).length<=sizeLine:=by have:=ZfB kvs k v;omega
  refine wpAny_setItem_heap (hsz:=hz) (tupleKind_room_in1 hu) (ZmB I.hok eb) dd λh' dd' hs=>h _ ?_
  obtain⟨q,es,ep,hq,h2,h3,h4,_,h5⟩:=dd'
  refine Zjm I (by rw[e];exact True.intro) hs ⟨q,hq⟩ ⟨hl,hd,_,(rel.put k eb rv).keeps λc ys ec=>?_,q,es,ep,hq,h2,h3,h4,h5⟩
  rw[Zl (ne_of ec e (λz=>nomatch z))]
  exact ec
end
section
variable {X:Cx}{pins:List (Addr×Obj)}{σ:St}{H:Hp}{s:Shared}{a:Addr}{kvs:List (Key×V)}{k:Key}{u:Value}{A:Around}{E:Value->Shared->Prop}
theorem d_pop {v:V}{more:List Value}{Q:Value->Shared->Prop} (I:Inv X pins σ H s) (e:H a=some (.dK kvs)) (ry:RelV (kV k) u) (l:ZdO kvs k=some v) (hm:more=[]\/∃x,more=[x])
  (h:∀w' s',Inv X pins σ (upd H a (.dK (ZjS kvs k))) s'->RelV v w'->Q w' s'):wpAny (model X.prog X.w) A (call (.builtin "dict.pop") (.ref a::u::more)) Q E s:=by
 obtain⟨z,hd,vs,rel,dd⟩:=Zqw I.hok e
 obtain⟨w',hw,rw'⟩:=Zi7.some_of (v:=v) (o:=valueAt vs k) (by rw[<-l];exact rel.val k)
 have hp:(keyPart u).isSome=true:=by
  cases k with
  |inl i=>obtain⟨t,q⟩:=(show ∃t,u=Value.int i t from ry);subst q;rfl
  |inr x=>obtain⟨t,q⟩:=(show ∃t,u=Value.str x t from ry);subst q;rfl
 have ha:argsOk "dict.pop" ⟨.ref a::u::more,[]⟩:=by
  rcases hm with q|⟨x,q⟩
  ·subst q;exact PySem.F.args_dict_pop_2 _ _
  ·subst q;exact PySem.F.args_dict_pop_3 _ _ _
 refine call_meetsIn PySem.F.slot_dict_pop dd.typeIs PySem.F.entry_dict_pop ha (meets_dict_pop_there (Zao X.prog X.w) a (ZlI ry) more hm hp)
  ⟨vs,w',dd,by rw[<-rel.length];exact z,hw,λh' dd' hs=>h w' _ ?_ rw'⟩
 have he:∃q,h'.get? a=some q:=let ⟨q,_,_,hq,_⟩:=dd';⟨q,hq⟩
 exact Zjm I (by rw[e];exact True.intro) hs he (Zo1 (Ym (Ztr kvs k) z) hd (rel.drop k) dd')
end
noncomputable def NoSl (i:Expr):Prop:=∀ov iv,subscripted i false ov iv=operate [ov,iv] (getItem ov iv)
theorem ZvN {prog:Program}{w:World}{A:Around}{E:Value->Shared->Prop}{s:Shared}{env:Env}{value slice:Expr}{pos:Pos}{T id:String}{Q:Value->Shared->Prop}
  (hl:typeLookup (.type T) "__getitem__"=pure (some (.builtin id))) (hs:NoSl slice)
  (h:wpAny (model prog w) A (eval value env) (λo s₁=>wpAny (model prog w) A (eval slice env) (λi s₂=>s₂.TypeIs o T/\wpAny (model prog w) A (getItem o i) Q E s₂) E s₁) E s) :
  wpAny (model prog w) A (eval (.Subscript value slice pos) env) Q E s:=by
 refine Subscript_ (YB h (λo s₁ h₁=>YB h₁ (λi s₂ h₂=>?_) λ_ _ x=>x) λ_ _ x=>x)
 obtain⟨hT,h₂⟩:=h₂
 unfold subscriptTail
 refine Ya ?_
 rw[getitemInPython_of_ne hT.not_modules]
 refine Ya (wpAny_specialOf hT hl ?_)
 have fin:wpAny (model prog w) A (subscripted slice false o i) (λr s₃=>wpAny (model prog w) A (letTemporaryGo value o r >>= λ_=>pure r) Q E s₃) E s₂:=by
  rw[hs o i]
  exact wpAny_operating (YB h₂ (λr s₃ h₃=>Ya (wpAny_letTemporaryGo (Yb h₃))) λ_ _ x=>x)
 first
  |exact Yb (Ya fin)
  |exact Ya (Yb (Ya fin))
  |exact Ya fin
theorem ZnJ {X:Cx}{pins:List (Addr×Obj)}{σ:St}{H:Hp}{s:Shared}{a:Addr}{y:V}{o:Option V} (I:Inv X pins σ H s) (g:ZgB H a y o):s.TypeIs (.ref a) "dict":=by
 rcases g with⟨kvs,k,e,_,_⟩|⟨kvs,k,b,e,_,_,_⟩
 ·obtain⟨_,_,vs,_,dd⟩:=ZnH I.hok e
  exact dd.typeIs
 ·obtain⟨_,_,xs,_,dd⟩:=ZnI I.hok e
  exact dd.typeIs
noncomputable def Zts (td ty:TE):TE:=fun σ H Q=>td σ H λx H1=>ty σ H1 λy H2=>∃a v,x=.ref a/\ZgB H2 a y (some v)/\Q v H2
noncomputable def tDIn (ty td:TE):TE:=fun σ H Q=>ty σ H λy H1=>td σ H1 λx H2=>∃a o,x=.ref a/\ZgB H2 a y o/\Q (.bl o.isSome) H2
noncomputable def Ztt (td ty tv:TE):TS:=λD σ H=>tv σ H λv H1=>td σ H1 λx H2=>ty σ H2 λy H3=>∃a H4,x=.ref a/\ZjV H3 a y v H4/\D.nx σ H4
section
variable {X:Cx}{o i e value:Expr}{pos pos' tpos:Pos}{td ty tv:TE}
theorem Zjn (hu:X.A.units+1<cLine) (ho:PE X o td) (hi:PE X i ty) (hs:NoSl i):PE X (.Subscript o i pos) (Zts td ty):=by
 intro pins s σ H Q I h
 refine ZvN PySem.F.slot_dict_getitem.lookup hs (thn (ho pins s σ H _ I h) λu s1 ⟨x,H1,I1,rx,q1⟩=>thn (hi pins s1 σ H1 _ I1 q1) λiv s2 ⟨y,H2,I2,ry,a,v,ex,g,q2⟩=>?_)
 subst ex
 obtain rfl:u=Value.ref a:=rx
 exact⟨ZnJ I2 g,Zrl hu I2 g ry λw' s3 I3 rw'=>⟨v,H2,I3,rw',q2⟩⟩
theorem pc_din (hu:X.A.units+1<cLine) (hi:PE X i ty) (ho:PE X o td):PC X .In i o (tDIn ty td):=by
 intro pins s σ H Q I h
 refine thn (hi pins s σ H _ I h) λiv s1 ⟨y,H1,I1,ry,q1⟩=>thn (ho pins s1 σ H1 _ I1 q1) λu s2 ⟨x,H2,I2,rx,a,ov,ex,g,q2⟩=>?_
 subst ex
 obtain rfl:u=Value.ref a:=rx
 exact d_in hu I2 g ry λs3 I3=>⟨.bl ov.isSome,H2,I3,rfl,q2⟩
theorem Zjo (hu:X.A.units+1<cLine) (ho:PE X o td) (hi:PE X i ty) (hv:PE X value tv) (hs:swapsWith value (some (.Subscript o i pos')) pos.line X.env=pure false) :
  PS X (.Assign [.Subscript o i pos'] value pos) (Ztt td ty tv):=by
 intro pins s σ H D I h
 refine wpAny_Assign_Subscript (thn (hv pins s σ H _ I h) λr s1 ⟨v,H1,I1,rv,q1⟩=>thn (ho pins s1 σ H1 _ I1 q1) λu s2 ⟨x,H2,I2,rx,q2⟩=>thn (hi pins s2 σ H2 _ I2 q2) λiv s3 ⟨y,H3,I3,ry,a,H4,ex,g,q3⟩=>?_) hs
 subst ex
 obtain rfl:u=Value.ref a:=rx
 exact Zrm hu I3 g ry rv λs4 I4=>⟨σ,H4,I4,q3⟩
end
theorem ZnK {P:Program}{w:World}{H:Hp} (h:Heap) (hb:sysModules<h.objs.size):Zaa P w H (h.push {cls:=.type "dict",data:=.dict #[]}) h.objs.size (.dK []) :=
 ⟨Yt _,beq_eq_false_iff_ne.mpr (Ne.symm (Yn hb)),[],.nil,Heap.DictOf.new h⟩
noncomputable def Zo2:TE:=λ_ H Q=>∀p,H p=none->Q (.ref p) (upd H p (.dK []))
section
variable {X:Cx}{pos:Pos}
theorem ZnL:PE X (.Dict [] [] pos) Zo2:=λpins s σ H Q I h =>
 wpAny_Dict_empty ⟨.ref s.heap.objs.size,_,I.laid (a:=s.heap.objs.size) (o:=.dK []) (t':=s.toks) (λ_ _ q=>Yh _ q) (Ye _) (ZnK s.heap I.big),rfl,h _ (I.hok.fresh (Ye _))⟩
end
noncomputable def ZmC:List (TE×TE)->St->Hp->(List (V×V)->Hp->Prop)->Prop
 |[],_,H,Q=>Q [] H
 |(tk,tv)::r,σ,H,Q=>tk σ H λx H1=>tv σ H1 λy H2=>ZmC r σ H2 λps H3=>Q ((x,y)::ps) H3
noncomputable abbrev VV:List (V×V)->List (Value×Value)->Prop:=Paired λp q=>RelV p.1 q.1/\RelV p.2 q.2
noncomputable def PPs (X:Cx) (pos:Pos) (keys:List (Option Expr)) (values:List Expr) (trs:List (TE×TE)):Prop :=
 ∀(pins:List (Addr×Obj)) (s:Shared) (σ:St) (H:Hp) (Q:List (V×V)->Hp->Prop),Inv X pins σ H s->ZmC trs σ H Q ->
  wpAny (model X.prog X.w) X.A (evalPairs (pairTrees keys values X.env pos)) (λvs s'=>∃ps H',Inv X pins σ H' s'/\VV ps vs/\Q ps H') X.xe s
theorem ZvO {X:Cx}{pos:Pos}:PPs X pos [] [] []:=λpins s σ H Q I h=>pairTrees_nil_walk ⟨[],H,I,.nil,h⟩
theorem Ztu {X:Cx}{pos:Pos}{k v:Expr}{ks:List (Option Expr)}{vs:List Expr}{tk tv:TE}{trs:List (TE×TE)} (hk:PE X k tk) (hv:PE X v tv) (hr:PPs X pos ks vs trs) :
  PPs X pos (some k::ks) (v::vs) ((tk,tv)::trs):=λpins s σ H Q I h =>
 pairTrees_cons_walk (thn (hk pins s σ H _ I h) λu s1 ⟨x,H1,I1,rx,q1⟩=>thn (hv pins s1 σ H1 _ I1 q1) λw2 s2 ⟨y,H2,I2,ry,q2⟩ =>
  thn (hr pins s2 σ H2 _ I2 q2) λws s3 ⟨ps,H3,I3,rel,q3⟩=>⟨(x,y)::ps,H3,I3,.cons ⟨rx,ry⟩ rel,q3⟩)
noncomputable def Zig (kvs more:List (Key×V)):List (Key×V):=more.foldl (λacc kv=>putK acc kv.1 kv.2) kvs
theorem KV.merge:∀{more:List (Key×V)}{rs:List (Key×Value)}{kvs:List (Key×V)}{vs:List (Key×Value)},KV more rs->KV kvs vs->KV (Zig kvs more) (merged vs rs):=by
 intro more rs kvs vs r
 unfold KV at r
 induction r generalizing kvs vs with
 |nil=>intro q;exact q
 |@cons p q ps qs h t ih =>
  intro r0
  have e:KV (putK kvs p.1 p.2) (stored vs q.1 q.2):=by
   have:=r0.put p.1 h.2
   rw[<-h.1];exact this
  exact ih e
theorem Zgs:∀(more kvs:List (Key×V)),(Zig kvs more).length<=kvs.length+more.length
 |[],kvs=>by show kvs.length<=kvs.length+0;omega
 |p::r,kvs=>by
  have h1:=Zgs r (putK kvs p.1 p.2)
  have h2:=ZfB kvs p.1 p.2
  show(Zig (putK kvs p.1 p.2) r).length<=_
  rw[YQ];omega
theorem ZjW {P:Program}{w:World}:∀{kvs:List (Key×V)}{ws:List (Value×Value)},VV (kvs.map λkv=>(kV kv.1,kv.2)) ws->∃rs,Carries (Zao P w) ws rs/\KV kvs rs
 |[],_,r=>by rw[List.map_nil]at r;cases r;exact⟨[],True.intro,.nil⟩
 |p::kvs,_,r=>by
  rw[YM]at r
  cases r with
  |@cons a b as bs h t =>
   obtain⟨rs,c,q⟩:=ZjW (P:=P) (w:=w) t
   obtain⟨b1,b2⟩:=b
   exact⟨(p.1,b2)::rs,⟨ZlI h.1,rfl,c⟩,.cons ⟨rfl,h.2⟩ q⟩
noncomputable def tDisp (trs:List (TE×TE)):TE:=fun σ H Q=>∀p,H p=none->ZmC trs σ (upd H p (.dK [])) λps H2=>H2 p=some (.dK [])/\∃kvs:List (Key×V),ps=kvs.map (λkv=>(kV kv.1,kv.2))/\kvs.length<=15/\Q (.ref p) (upd H2 p (.dK (Zig [] kvs)))
theorem ZvP {X:Cx}{pos:Pos}{keys:List (Option Expr)}{values:List Expr}{trs:List (TE×TE)} (h:PPs X pos keys values trs) (hall:keys.all (·.isSome)=true) (hl:keys.length=values.length) (h0:keys≠[])
  (h15:keys.length<=15):PE X (.Dict keys values pos) (tDisp trs):=by
 intro pins s σ H Q I q
 have hn:=I.hok.fresh (Ye s.heap.objs.size)
 have I1:=I.laid (a:=s.heap.objs.size) (o:=.dK []) (h':=s.heap.push {cls:=.type "dict",data:=.dict #[]}) (t':=s.toks) (λ_ _ q=>Yh _ q) (Ye _) (ZnK s.heap I.big)
 refine wpAny_Dict_walk (knd:=Zao X.prog X.w) hall hl h0 h15 (thn (h pins _ σ _ _ I1 (q _ hn)) λws s2 ⟨ps,H2,I2,rel,e,kvs,ep,lk,q2⟩=>?_)
 subst ep
 obtain⟨rs,c,rk⟩:=ZjW (P:=X.prog) (w:=X.w) rel
 obtain⟨z,hd,vs0,r0,dd⟩:=Zqw I2.hok e
 cases r0
 refine⟨rs,c,dd,λh' dd' hs=>⟨.ref s.heap.objs.size,_,?_,rfl,q2⟩⟩
 have hz:(Zig [] kvs).length<=sizeLine:=by
  have h1:=Zgs kvs []
  rw[List.length_nil]at h1
  rw[sizeLine_eq];omega
 have he:∃q,h'.get? s.heap.objs.size=some q:=let ⟨q,_,_,hq,_⟩:=dd';⟨q,hq⟩
 exact Zjm I2 (by rw[e];exact True.intro) hs he (Zo1 hz hd (rk.merge .nil) dd')
structure M1 (X:Cx) (o:Expr) (m:Str) (apos:Pos) (e:Expr) (cpos:Pos):Prop where
 base:attributeBase o m X.env (eval o X.env)=eval o X.env
 few:((backTo cpos (starEach [e] X.env)).all (λx=>!x.1)&&(backToKw cpos (keywordEach [] X.env)).all (λx=>x.1.isSome)
  && decide (([e]:List Expr).length+([]:List Keyword).length+(if ([]:List Keyword).isEmpty then 0 else 1)<30))=true
 line:(apos.endLine==cpos.line)=true
 trees:backTo cpos (starEach [e] X.env)=[(false,eval e X.env)]
noncomputable def IsD (H:Hp) (a:Addr):Prop:=(∃kvs,Rd H a (.dK kvs))\/∃kvs,Rd H a (.dT kvs)
theorem Ztv {X:Cx}{pins:List (Addr×Obj)}{σ:St}{H:Hp}{s:Shared}{a:Addr} (I:Inv X pins σ H s) (d:IsD H a) :
  s.TypeIs (.ref a) "dict"/\(∀b,Value.ref a=.ref b->∃ob,s.heap.get? b=some ob/\ob.dict=none)/\(a==sysModules)=false:=by
 rcases d with⟨kvs,e⟩|⟨kvs,e⟩
 ·obtain⟨_,hd,vs,_,dd⟩:=ZnH I.hok e
  refine⟨dd.typeIs,λb q=>?_,hd⟩
  cases q
  obtain⟨ob,_,_,h1,h2,_⟩:=dd
  exact⟨ob,h1,h2.2.1⟩
 ·obtain⟨_,hd,xs,_,dd⟩:=ZnI I.hok e
  refine⟨dd.typeIs,λb q=>?_,hd⟩
  cases q
  obtain⟨ob,_,_,h1,h2,_⟩:=dd
  exact⟨ob,h1,h2.2.1⟩
noncomputable def Ztw (td ty:TE):TE:=fun σ H Q=>td σ H λx H1=>∃a,x=.ref a/\IsD H1 a/\ty σ H1 λy H2=>∃kvs k v,H2 a=some (.dK kvs)/\y=kV k/\ZdO kvs k=some v/\Q v (upd H2 a (.dK (ZjS kvs k)))
section
variable {X:Cx}{o e f:Expr}{apos cpos:Pos}{td ty tx:TE}
theorem Ztx (ho:PE X o td) (he:PE X e ty) (m:M1 X o "pop" apos e cpos):PE X (.Call (.Attribute o "pop" apos) [e] [] cpos) (Ztw td ty):=by
 intro pins s σ H Q I h
 refine wpAny_Call_method m.base m.few m.line PySem.F.plainAttrs_dict PySem.F.slot_dict_pop PySem.F.type_dict_pop (thn (ho pins s σ H _ I h) λu s1 ⟨x,H1,I1,rx,a,ex,d,q1⟩=>?_)
 subst ex
 obtain rfl:u=Value.ref a:=rx
 obtain⟨t1,t2,_⟩:=Ztv I1 d
 refine⟨t1,t2,?_⟩
 rw[m.trees]
 refine Calls.callWith_builtin rfl (Calls.evalArgs_plain (Calls.spliced_cons (thn (he pins s1 σ H1 _ I1 q1) λiv s2 ⟨y,H2,I2,ry,kvs,k,v,ea,ey,l,q2⟩=>Calls.spliced_nil ?_)))
 subst ey
 exact d_pop I2 ea ry l (.inl rfl) λw' s3 I3 rw'=>⟨v,_,I3,rw',q2⟩
end
end L2
namespace L2
open PySem PySem.Spec PyProof.Rows PySem.W PySem.Calls
end L2
namespace L2
open PySem PySem.Spec PyProof.Rows PySem.W
section
variable {X:Cx}
noncomputable def rSlV:V->Option Int->Option Int->Hp->VK->Prop:=λx lo hi H Q=>∃a xs,x=.ref a/\H a=some (.tup xs)/\∀p H',Ze H H'->H' p=some (.tup (Zfr xs lo hi))->Q (.ref p) H'
theorem sl_v {K:Frag} (hK:X.K=K):SlR X rSlV:=by
 intro pins s σ H x v vl vu lo hi sl Q I rx hs pl pu h
 obtain⟨a,xs,rfl,hx,q⟩:=h
 refine sl_q hK pins s σ H _ v vl vu lo hi sl Q I rx hs pl pu ⟨a,xs,rfl,.inr ⟨SqT.of hx,λhw=>?_,λ_ p hp=>?_⟩⟩
 ·exact q a H (Ze.refl H) (by rw[Zra hw];exact hx)
 ·exact q p _ ((Ze.refl H).upd hp) Zc
noncomputable def Zty (K:Frag):R2:=λx y H Q=>∃(a b:Addr) (xs ys:List V),x=.ref a/\y=.ref b/\SqL K H a xs/\SqL K H b ys/\xs.length+ys.length<=sizeLine/\∀p,H p=none->Q (.ref p) (upd H p (.lst (xs++ys)))
theorem ZvQ {K:Frag} (hK:X.K=K):OpR X (binaryOp .Add) (Zty K):=by
 subst hK
 intro pins s σ H x y v u Q I rx ry h
 obtain⟨a,b,xs,ys,rfl,rfl,ha,hb,hz,q⟩:=h
 cases rx
 cases ry
 obtain⟨its,r1,p1,_⟩:=I.list ha
 obtain⟨its2,r2,p2,_⟩:=I.list hb
 obtain⟨⟨c1,d1,x1,l1⟩,e1,k1,n1,y1⟩:=p1.isList
 obtain⟨⟨c2,d2,x2,l2⟩,e2,k2,n2,y2⟩:=p2.isList
 simp only at k1 y1 k2 y2
 subst k1 y1 k2 y2
 refine concat_meets ⟨_,e1,rfl⟩ ⟨_,e2,rfl⟩ noFill_list_add seq_list_add PySem.F.slot_list_add PySem.F.entry_list_add (PySem.F.args_list_add_2 _ _) (list_addW a b its.toArray its2.toArray n1 n2 d1 d2 l1 l2 (by rw[Yu,Yu,<-r1.length,<-r2.length];exact hz)) ⟨e1,e2,?_⟩
 have ea:its.toArray++its2.toArray=(its++its2).toArray:=by simp
 rw[ea]
 exact⟨.ref _,_,I.lnew (t':=s.toks) (r1.append r2) (by rw[YN];exact hz),rfl,q _ I.fresh⟩
end
noncomputable def sF (r:Addr) (f:Int) (t:Addr):List (Str×V):=putF "tree" (.ref t) (putF "first" (.int f) (putF "row" (.ref r) []))
noncomputable def up1 (e:Int):Int:=if e<0 then e else e+1
end L2
namespace L2
open PySem PySem.Spec PyProof.Rows PySem.W PySem.Calls
noncomputable def Zc9 (h:Heap) (d:Addr) (vs:List Value) (ep:Nat):Prop:=∃(o:Obj) (es:Array DictEntry),h.get? d=some o/\o.cls=.type "dict"/\o.data=.dict es ep/\es.toList.map (·.val)=vs
theorem Zc9.moved {h h':Heap}{d:Addr}{vs:List Value}{ep:Nat} (x:Zc9 h d vs ep) (k:∀o,h.get? d=some o->h'.get? d=some o):Zc9 h' d vs ep :=
 let ⟨o,es,a,r⟩:=x;⟨o,es,k o a,r⟩
theorem Zc9.lt {h:Heap}{d:Addr}{vs:List Value}{ep:Nat} (x:Zc9 h d vs ep):d<h.objs.size:=let ⟨_,_,a,_⟩:=x;Yj a
section
variable {prog:Program}{w:World}{A:Around}{E:Value->Shared->Prop}{s:Shared}{va dd ja:Addr}{vs:List Value}{ep i:Nat}
theorem Zrn {Q:Value->Shared->Prop} (hv:s.heap.IsValuesView va dd) (hm:Zc9 s.heap dd vs ep)
  (kQ:Q (.ref s.heap.objs.size) {s with heap:=s.heap.push {cls:=.type "dict_valueiterator",data:=.fields #[.ref dd,.int 0 0,.int vs.length 0,.int ep 0]}}) :
  wpAny (model prog w) A (pyIter (.ref va)) Q E s:=by
 obtain⟨o1,g1,c1,f1⟩:=id hv
 obtain⟨o2,es,g2,c2,f2,e2⟩:=id hm
 refine wpAny_pyIter_slot hv.typeIs PySem.F.slot_dict_values_iter (wpAny_call_entry PySem.F.slot_dict_values_iter hv.typeIs PySem.F.entry_dict_values_iter ?_ (PySem.F.args_dict_values_iter_1 _))
 unfold Builtin.«dict_values.__iter__»;refine Ya (Yb (Ya ?_));unfold Builtin.Dict_items.dictOf
 refine Ya (wpAny_field g1 f1 (x:=.ref dd) rfl (Yb (Ya ?_)))
 unfold Builtin.Dict_items.newIterator;refine Ya (wpAny_dictEntries g2 f2 (Ya (wpAny_dictEpoch g2 f2 ?_)))
 have z1:es.size=vs.length:=by rw[<-e2];simp
 have z2:Builtin.Dict_items.ownsTuple "dict_valueiterator"=false:=by decide
 simp only[z2,Bool.false_eq_true,if_false]
 refine wpAny_newObj_type (Yb ⟨_,rfl,"dict_valueiterator",_,⟨_,Ys _ rfl,rfl⟩,PySem.F.slot_dict_valueiterator_next.lookup,?_⟩)
 simpa[rawInt,z1]using kQ
theorem Zro {x:Value}{Q:Option Value->Shared->Prop} (hi:s.heap.IsValIter ja dd i vs.length ep) (hm:Zc9 s.heap dd vs ep) (hx:vs[i]?=some x)
  (kQ:∀h',h'.IsValIter ja dd (i+1) vs.length ep->Heap.SameBut ja s.heap h'->Q (some x) {s with heap:=h'}):wpAny (model prog w) A (pyNext (.ref ja)) Q E s:=by
 obtain⟨o1,g1,c1,f1⟩:=id hi
 obtain⟨o2,es,g2,c2,f2,e2⟩:=id hm
 have z1:es.size=vs.length:=by rw[<-e2];simp
 have z2:Builtin.Dict_items.ownsTuple "dict_valueiterator"=false:=by decide
 have hl:i<es.size:=by
  rw[z1]
  exact(YA.mp hx).1
 have hval:es[i].val=x:=by
  rw[<-e2,YG,Array.getElem?_toList,Array.getElem?_eq_getElem hl]at hx
  exact YE hx
 unfold pyNext
 refine Ya (wpAny_attempt (wpAny_callSpecial?_slot (name:=Str.ofString "__next__") hi.typeIs PySem.F.slot_dict_valueiterator_next (wpAny_call_entry PySem.F.slot_dict_valueiterator_next hi.typeIs PySem.F.entry_dict_valueiterator_next ?_ (PySem.F.args_dict_valueiterator_next_1 _))))
 refine Ya (Yb (Ya (Ya ?_)))
 first|refine Ya (wpAny_typeNameOfWhole_valiter hi.typeIs (Yb (Ya (wpAny_fieldsOf g1 f1 ?_))))|refine Ya (wpAny_typeNameOf_valiter hi.typeIs (Yb (Ya (wpAny_fieldsOf g1 f1 ?_))))
 simp only[z2,Bool.false_eq_true,if_false]
 show wpAny _ _ (if (Value.ref dd==Value.none)=true then _ else _) _ _ s
 rw[Yc (show ¬ ((Value.ref dd==Value.none)=true)from YL)]
 refine Ya (Yb (Ya (wpAny_dictEntries g2 f2 ?_)))
 rw[Yc (by rw[z1];simp)]
 refine Ya (Yb (Ya (wpAny_dictEpoch g2 f2 ?_)))
 rw[Yc (by simp)]
 refine Yb ?_
 simp only[show ¬ ((i:Int)<0)from by omega,if_false,YH,Array.getElem?_eq_getElem hl]
 refine Ya ?_
 first|refine Ya (wpAny_typeNameOfWhole_valiter hi.typeIs (Yb (Ya (wpAny_isOneOf_valiter hi.typeIs ?_))))|refine Ya (wpAny_typeNameOf_valiter hi.typeIs (Yb (Ya (wpAny_isOneOf_valiter hi.typeIs ?_))))
 show wpAny _ _ (setField (.ref ja) 1 (rawInt ((i:Int)+1)) >>= _) _ _ s
 refine Ya (wpAny_setField g1 f1 (by simp) ?_)
 have g3:(s.heap.update ja (Obj.mapFields (·.setIfInBounds 1 (rawInt ((i:Int)+1))))).IsValIter ja dd (i+1) vs.length ep :=
  ⟨_,Heap.get?_update_self _ g1 (Obj.isFreed_of_fields (Obj.data_mapFields f1 _)),(Obj.cls_mapFields ..).trans c1,by rw[Obj.data_mapFields f1];simp[rawInt]⟩
 refine Ya (wpAny_holding (Ya (wpAny_isOneOf_valiter (s:={s with heap:=s.heap.update ja (Obj.mapFields (·.setIfInBounds 1 (rawInt ((i:Int)+1))))}) g3.typeIs ?_)))
 refine Ya (wpAny_isOneOf_valiter (s:={s with heap:=s.heap.update ja (Obj.mapFields (·.setIfInBounds 1 (rawInt ((i:Int)+1))))}) g3.typeIs ?_)
 show wpAny _ _ (pure es[i].val) _ _ _;exact Yb (Yb ⟨_,rfl,Yb (hval▸kQ _ g3 (Heap.SameBut.update ..))⟩)
theorem ZmD {Q:Option Value->Shared->Prop} (nh:A.handled=none) (hi:s.heap.IsValIter ja dd i vs.length ep) (hm:Zc9 s.heap dd vs ep) (hx:vs[i]?=none)
  (kQ:∀h',Heap.ExtBut ja s.heap h'->Q none {s with heap:=h'}):wpAny (model prog w) A (pyNext (.ref ja)) Q E s:=by
 obtain⟨o1,g1,c1,f1⟩:=id hi
 obtain⟨o2,es,g2,c2,f2,e2⟩:=id hm
 have z1:es.size=vs.length:=by rw[<-e2];simp
 have z2:Builtin.Dict_items.ownsTuple "dict_valueiterator"=false:=by decide
 unfold pyNext
 refine Ya (wpAny_attempt (wpAny_callSpecial?_slot (name:=Str.ofString "__next__") hi.typeIs PySem.F.slot_dict_valueiterator_next (wpAny_call_entry PySem.F.slot_dict_valueiterator_next hi.typeIs PySem.F.entry_dict_valueiterator_next ?_ (PySem.F.args_dict_valueiterator_next_1 _))))
 refine Ya (Yb (Ya (Ya ?_)))
 first|refine Ya (wpAny_typeNameOfWhole_valiter hi.typeIs (Yb (Ya (wpAny_fieldsOf g1 f1 ?_))))|refine Ya (wpAny_typeNameOf_valiter hi.typeIs (Yb (Ya (wpAny_fieldsOf g1 f1 ?_))))
 simp only[z2,Bool.false_eq_true,if_false]
 show wpAny _ _ (if (Value.ref dd==Value.none)=true then _ else _) _ _ s
 rw[Yc (show ¬ ((Value.ref dd==Value.none)=true)from YL)]
 refine Ya (Yb (Ya (wpAny_dictEntries g2 f2 ?_)))
 rw[Yc (by rw[z1];simp)]
 refine Ya (Yb (Ya (wpAny_dictEpoch g2 f2 ?_)))
 rw[Yc (by simp)]
 refine Yb ?_
 have ge:es.size<=i:=by rw[z1];simpa using hx
 simp only[show ¬ ((i:Int)<0)from by omega,if_false,YH,Array.getElem?_eq_none ge]
 refine Ya ?_
 first|refine Ya (wpAny_typeNameOfWhole_valiter hi.typeIs (Yb ?_))|refine Ya (wpAny_typeNameOf_valiter hi.typeIs (Yb ?_))
 show wpAny _ _ (setField (.ref ja) 0 .none >>= _) _ _ s
 refine Ya (wpAny_setField g1 f1 (by simp) ?_)
 show wpAny _ _ (newExc (.type "StopIteration") [] >>= _) _ _ _;refine Ya ?_
 simp only[newExc,newTuple]
 refine Ya (wpAny_newObj_type ?_ (by size_fits));refine Ya (m:=firstArgMember _ _) (wpAny_of_eq (a:=Value.none) (by first|rfl|(simp only[firstArgMember];rfl)) (wpAny_newObj_type ?_ (by size_fits)))
 simp only[raiseNew]
 refine Ya (wpAny_handled ?_);rw[show A.in1.handled=none from nh]
 refine(Ya (Yb (wpAny_throw ?_)))
 refine Ya (wpAny_isInstance (b:=true) (T:="StopIteration") ⟨_,Ys _ rfl,rfl⟩ isSubtype_stop (Yb (kQ _ ?_)))
 exact((Heap.SameBut.update ..).extBut.push _).push _
theorem Zo3 (nh:A.handled=none) (I dd:Addr) (hne:dd≠I) (vs:List Value) (ep:Nat) :
  Walks prog w A I [I,dd] [I] vs.length (λi x=>vs[i]?=some x) (λi h=>h.IsValIter I dd i vs.length ep/\Zc9 h dd vs ep) where
 sub:=λb mb=>by simp at mb;simp[mb]
 frame:=λ_ _ _ st hk=>⟨let ⟨o,e,r⟩:=st.1;⟨o,hk I (by simp) o e,r⟩,st.2.moved λo e=>hk dd (by simp) o e⟩
 item:=λi s Q E hi st kQ=>by
  have hx:vs[i]?=some vs[i]:=Yg hi
  refine Zro st.1 st.2 hx λh' g1 g2=>?_
  exact kQ _ h' s.toks hx ⟨g1,st.2.moved λo e=>g2.extBut dd o hne e⟩ λb o mb e=>g2.extBut b o (λh=>mb (by simp[h])) e
 done:=λs Q E st kQ=>ZmD nh st.1 st.2 (by simp) λh' he'=>kQ h' s.toks λb o mb e=>he' b o (λh=>mb (by simp[h])) e
 self:=λ_ _ _ _ st0 kQ=>wpAny_pyIter_valiter st0.1 kQ
theorem Ztz:KdlSrc prog w "dict_values" va dd vs.length (λi x=>vs[i]?=some x) (λh=>h.IsValuesView va dd/\Zc9 h dd vs ep) where
 type:=λ_ x0=>x0.1.typeIs
 there:=λ_ hm=>⟨let ⟨_,a,_⟩:=hm.1;Yj a,hm.2.lt⟩
 keep:=λ_ _ hm hk=>⟨let ⟨o,a,x⟩:=hm.1;⟨o,hk va (.inl rfl) o a,x⟩,hm.2.moved λo e=>hk dd (.inr rfl) o e⟩
 notList:=by decide
 notTuple:=by decide
 hint:=λ_ _ _ _ x0 hq=>kdl_hint_values x0.1.typeIs hq
 iter:=λ_ _ nh hm=>⟨_,_,(λ_ _ hq=>Zrn hm.1 hm.2 hq),Zo3 nh _ dd (Yn hm.2.lt) vs ep,⟨⟨_,Ys _ rfl,rfl,rfl⟩,hm.2.moved λo e=>Yh _ e⟩⟩
end
section
variable {X:Cx}{o:Expr}{apos cpos:Pos}{td:TE}
noncomputable def ZgC (v d:Addr):Heap->Prop:=λh=>h.IsValuesView v d
theorem Zo4 {prog:Program}{w:World} (dd:Addr) (hd:(dd==sysModules)=false) :
  MeetsIn prog w (Builtin.«dict.values» ⟨[.ref dd],[]⟩) (λ_ R s=>s.TypeIs (.ref dd) "dict" /\
   R (.ok (.ret (.ref s.heap.objs.size))) {s with heap:=s.heap.push {cls:=.type "dict_values",data:=.fields #[.ref dd]}}) :=
 .of_wp λA R s ⟨ht,h⟩=>by
  refine Ya ?_;unfold Builtin.Dict.noArgs
  refine Ya (wpAny_notOrdered_dict ht ?_)
  show wpAny _ _ (pure dd) _ _ s
  refine Yb ?_
  show wpAny _ _ (Builtin.Dict.showsAll dd >>= _) _ _ s
  unfold Builtin.Dict.showsAll;rw[Yc (show ¬ (dd==sysModules)=true from hd▸YL)]
  exact Ya (Yb (Ya (wpAny_newObj_type (Yb ⟨_,rfl,h⟩))))
end
end L2
namespace L2
open PySem PySem.Spec PyProof.Rows PySem.W
noncomputable def Zrp (K:Frag) (f:Addr):Option Addr:=match K.lookup f with
 |some ⟨_,_,.func fd,_⟩=>(match fd.code with|.ref c=>some c|_=>none)
 |_=>none
noncomputable def tabOf (K:Frag) (c:Addr):Addr:=match K.lookup c with
 |some ⟨_,_,.fields vs,_⟩=>(match (vs[11]?:Option Value)with|some (.ref P)=>P|_=>0)
 |_=>0
noncomputable def Zhw (K:Frag) (mg:Str->Option Value) (x:Str):Addr:=match mg x with
 |some (.ref f)=>(match Zrp K f with|some c=>tabOf K c|none=>0)
 |_=>0
noncomputable def ZjX (q:Str):HO:=.tbl #[.str q 0]
noncomputable def BM (mg:Str->Option Value) (base:Heap):Prop :=
 ∃bm o,mg "__builtins__"=some (.ref bm)/\bm≠builtinsNs/\bm≠mainGlobals/\base.get? bm=some o/\o.cls=.type "module"/\o.dict=some builtinsNs/\o.data=.plain
noncomputable def ZmE (env:Env) (P:Addr) (q:Str) (params:Arguments) (body:Expr) (scope:Scope) (H:Hp) (f:Addr):Prop :=
 ∃c oc vs t cl pm ctv,H f=some (.frz (kla_obj "<lambda>" q params body scope cl pm c ctv) (.own f))/\H c=some (.frz oc (.own P))/\oc.data=.fields vs/\vs[1]?=some (.str q t) /\
  (∀x c,cl.lookup x=some c->env.cells.lookup x=some c)/\(∀y∈scope.names,y.2=.free->∃c,cl.lookup y.1=some c/\env.cells.lookup y.1=some c)
theorem ZmE.same {env:Env}{P:Addr}{q:Str}{params:Arguments}{body:Expr}{scope:Scope}{H H':Hp}{f:Addr} (h:ZmE env P q params body scope H f) (s:Ze H H'):ZmE env P q params body scope H' f:=by
 obtain⟨c,oc,vs,t,cl,pm,ctv,e1,e2,r⟩:=h
 exact⟨c,oc,vs,t,cl,pm,ctv,s _ _ e1,s _ _ e2,r⟩
structure LamIn (X:Cx) (P:Addr) (q:Str):Prop where
 code:∃c,X.env.code=.ref c/\codeHdIn X.K c P=true
 bm:BM X.mg X.base
 ql:X.env.qual++"<lambda>"=q
theorem Zo5 {pos:Pos}{a b:Int}{c cv:Value}:∀(l:List Value),TriplesOk l->codeAmong pos (l++[rawInt a,rawInt b,c])=some cv->codeAmong pos l=some cv\/cv=c:=by
 intro l h e
 fun_induction TriplesOk l with
 |case1 =>
  simp only[List.nil_append,codeAmong,rawInt]at e
  split at e
  ·cases e;exact .inr rfl
  ·cases e
 |case2 a' t b' u x rest ih =>
  simp only[List.cons_append,codeAmong]at e⊢
  split at e
  ·rename_i hc;rw[Yd hc];exact .inl e
  ·rename_i hc;rw[Yc hc];exact ih h e
 |case3 l h1 h2=>exact h.elim
section
variable {X:Cx}
theorem Inv.lam {pins:List (Addr×Obj)}{σ:St}{H:Hp}{s:Shared}{h':Heap}{t':Nat}{P c f:Addr}{q:Str}{oc fo:Obj}{ts:Array Value}{vs:Array Value}{tq:Tok}
  (I:Inv X pins σ H s) (hP:H P=some (ZjX q)) (k:∀b o,b≠P->s.heap.get? b=some o->h'.get? b=some o) (hts:h'.get? P=some (tabObj ts)) (h3:TriplesOk ts.toList)
  (hc:H c=some (.frz oc (.own P))\/s.heap.objs.size<=c) (hcP:c≠P) (hoc:h'.get? c=some oc) (hd:oc.data=.fields vs) (hv:vs[1]?=some (.str q tq)) (hf:s.heap.objs.size<=f) (hfc:f≠c) (hfo:h'.get? f=some fo)
  (hcodes:∀pos cv,codeAmong pos ts.toList=some cv->cv=.ref c\/∃c2 oc vs t t',cv=.ref c2/\H c2=some (.frz oc (.own P))/\oc.data=.fields vs/\vs[1]?=some (.str q t)/\t'=(0:Tok)) :
  Inv X pins σ (upd (upd H c (.frz oc (.own P))) f (.frz fo (.own f))) {s with heap:=h',toks:=t'}:=by
 have hPlt:P<s.heap.objs.size:=I.hok.lt hP
 have hfP:f≠P:=λz=>by rw[z]at hf;exact absurd (YC hPlt hf) (YI _)
 have hfn:H f=none:=I.hok.fresh hf
 have up:∀b o,H b=some o->upd (upd H c (.frz oc (.own P))) f (.frz fo (.own f)) b=some o:=λb o e=>by
  have nf:b≠f:=ZH e hfn
  rw[Zl nf]
  rcases hc with hc|hc
  ·by_cases z:b=c
   ·subst z;rw[Zc,<-e,hc]
   ·rw[Zl z];exact e
  ·rw[Zl (ZH e (I.hok.fresh hc))];exact e
 have un:Un X.fs [] H (upd (upd H c (.frz oc (.own P))) f (.frz fo (.own f))) s.heap h':=by
  have nP:∀b,H b=none->b≠P:=λb n z=>by rw[z,hP]at n;cases n
  refine⟨λb o e n _ _=>k b o (nP b n) e,λb o e n _ _=>⟨o.slots,k b o (nP b n) e⟩,λb o e n _=>?_,λb o e _=>?_,λb xs e=>up _ _ e,λb o u e=>up _ _ e,λb ps e=>⟨#[],by rw[up _ _ e];simp⟩⟩
  ·have lt:=Yj e
   have nf:b≠f:=λz=>by rw[z]at lt;exact absurd (YC lt hf) (YI _)
   have nc:b≠c:=λz=>by
    rcases hc with hc|hc
    ·rw[z,hc]at n;cases n
    ·rw[z]at lt;exact absurd (YC lt hc) (YI _)
   rw[Zl nf,Zl nc];exact n
  ·by_cases z:b=P
   ·subst z;exact⟨_,hts⟩
   ·exact⟨o,k b o z e⟩
 refine I.un un λb o e=>?_
 by_cases zf:b=f
 ·subst zf
  rw[Zc]at e;cases e
  exact⟨hfo,_,hfo⟩
 rw[Zl zf]at e
 by_cases zc:b=c
 ·subst zc
  rw[Zc]at e;cases e
  exact⟨hoc,_,hoc⟩
 rw[Zl zc]at e
 by_cases zP:b=P
 ·subst zP
  rw[hP]at e;cases e
  refine⟨ts,hts,h3,λpos cv hcv=>?_⟩
  rcases hcodes pos cv hcv with rfl|⟨c2,oc2,vs2,t2,t2',e1,e2,e3,e4,_⟩
  ·exact⟨c,oc,vs,q,0,tq,rfl,by rw[Zl (Ne.symm hfc),Zc],hd,rfl,hv⟩
  ·exact⟨c2,oc2,vs2,q,0,t2,e1,up _ _ e2,e3,rfl,e4⟩
 ·refine(I.hok b o e).Zhb (λb2 u hb z=>k b2 u ?_ z) (λb2 z=>up _ _ z) (λb2 xs z=>up _ _ z) λb2 o2 u2 z=>up _ _ z
  rcases hb with rfl|hb
  ·exact zP
  ·intro z;rw[z,hP]at hb;cases hb
noncomputable def tLam (env:Env) (P:Addr) (q:Str) (params:Arguments) (body:Expr) (scope:Scope):TE:=λ_ H Q=>H P=some (ZjX q)/\∀f H',H f=none->Ze H H'->ZmE env P q params body scope H' f->Q (.ref f) H'
theorem Zo6 {P:Addr}{q:Str}{params:Arguments}{body:Expr}{scope:Scope}{pos:Pos} (L:LamIn X P q) (hok:compOk X.env.scope scope=true) (hdef:defaultsOf params X.env=([],[]):=by rfl) :
  PE X (.Lambda params body scope pos) (tLam X.env P q params body scope):=by
 intro pins s σ H Q I h
 obtain⟨hP,h⟩:=h
 obtain⟨c0,hc0,hcd⟩:=L.code
 have C:CodeHd s.heap c0 P:=codeHd_of_K I.kIn hcd
 obtain⟨bm,ob,b1,b2,b3,b4,b5,b6,b7⟩:=L.bm
 have hbm:=I.bs bm ob b4
 have bP:bm≠P:=λz=>by rw[z,hP]at hbm;cases hbm.2
 have gP:mainGlobals≠P:=λz=>by
  obtain⟨o,es,ep,e,_⟩:=I.ok.mod.glob
  have:=(I.bs _ _ e).2
  rw[z,hP]at this;cases this
 have hg:s.heap.Ns mainGlobals X.mg:=I.ok.mod.glob.keeps I.bk
 have hb:s.heap.BuiltinsAt X.mg P:=⟨bm,ob,b1,b2,b3,bP,hbm.1,b5,b6,b7⟩
 obtain⟨ts,hts,h3,hco⟩:=I.hok P _ hP
 obtain⟨cl,hcl,up,hfr⟩:=Zjw (env:=X.env) (scope:=scope) λy hy hf=>I.ok.has y.1 ((Zds hok y hy hf).elim (λz=>.inl z) λz=>.inr z)
 have hco':∀pos cv,codeAmong pos ts.toList=some cv->∃c2 oc vs t t',cv=.ref c2/\H c2=some (.frz oc (.own P))/\oc.data=.fields vs/\vs[1]?=some (.str q t)/\t'=(0:Tok):=λpos cv e=>by
  obtain⟨c,oc,vs,q',t,t',e1,e2,e3,e4,e5⟩:=hco pos cv e
  have e4':some (Value.str q (0:Tok))=some (Value.str q' t):=e4
  cases e4'
  exact⟨c,oc,vs,t',0,e1,e2,e3,e5,rfl⟩
 refine kla_eval hdef ?_
 rw[L.ql]
 cases hca:codeAmong pos ts.toList with
 |some cv =>
  obtain⟨c,oc,vs,tq,t',rfl,e2,e3,e4,_⟩:=hco' pos cv hca
  refine kla_makeFunctionHit (mg:=X.mg) hcl I.ok.glob hg hc0 C hts h3 hca hb λctv h' tk hk hsz=>?_
  have hoc:s.heap.get? c=some oc:=(I.hok c _ e2).1
  have hcP:c≠P:=λz=>by rw[z,hP]at e2;cases e2
  have lt:=Yj hoc
  have kk:∀b o,s.heap.get? b=some o->(h'.push {cls:=.type "function",data:=.func (kla_fn "<lambda>" q params body scope cl ((X.mg "__name__").getD .none) (.ref c) ctv)}).get? b=some o:=λb o e=>Yh _ (hk b o e)
  have J:=I.lam (t':=tk) (f:=h'.objs.size) hP (λb o _ e=>kk b o e) (kk _ _ hts) h3 (.inl e2) hcP (kk _ _ hoc) e3 e4 hsz (λz=>by rw[<-z]at lt;exact absurd (YC lt hsz) (YI _)) (Ys _ rfl) λp2 cv2 z=>.inr (hco' p2 cv2 z)
  have hfn:H h'.objs.size=none:=I.hok.fresh hsz
  have ne:c≠h'.objs.size:=Yn (YC lt hsz)
  refine⟨.ref h'.objs.size,_,J,rfl,h _ _ hfn (λb o e=>?_) ⟨c,oc,vs,tq,cl,_,ctv,Zc,by rw[Zl ne,Zc],e3,e4,up,hfr⟩⟩
  rw[Zl (ZH e hfn)]
  by_cases z:b=c
  ·subst z;rw[Zc,<-e,e2]
  ·rw[Zl z];exact e
 |none =>
  refine kla_makeFunction (mg:=X.mg) hcl I.ok.glob hg hc0 C hts h3 hca gP hb λc ctv h' tk hx hge hlt hrec htb=>?_
  obtain⟨c2,oc,vs,tq,e2,hoc,e3,e4⟩:=hrec
  cases e2
  have hsz:s.heap.objs.size<=h'.objs.size:=Ym hge (YZ hlt)
  have kk:∀b o,h'.get? b=some o->(h'.push (kla_obj "<lambda>" q params body scope cl ((X.mg "__name__").getD .none) c ctv)).get? b=some o:=λb o e=>Yh _ e
  have hPlt:P<s.heap.objs.size:=I.hok.lt hP
  have hcP:c≠P:=λz=>by rw[z]at hge;exact absurd (YC hPlt hge) (YI _)
  have tl:(ts++#[rawInt pos.line,rawInt pos.col,Value.ref c]).toList=ts.toList++[rawInt pos.line,rawInt pos.col,Value.ref c]:=by simp
  have J:=I.lam (t':=tk) (f:=h'.objs.size) (ts:=ts++#[rawInt pos.line,rawInt pos.col,.ref c]) hP (λb o nb e=>kk b o (hx b o nb e)) (kk _ _ htb) (by rw[tl];exact TriplesOk_snoc _ _ _ _ h3) (.inr hge) hcP (kk _ _ hoc) e3 e4 hsz (Nat.ne_of_gt hlt) (Ys _ rfl) λp2 cv2 z=>by
   rw[tl]at z
   rcases Zo5 ts.toList h3 z with y|y
   ·exact .inr (hco' p2 cv2 y)
   ·exact .inl y
  have hfn:H h'.objs.size=none:=I.hok.fresh hsz
  have hcn:H c=none:=I.hok.fresh hge
  refine⟨.ref h'.objs.size,_,J,rfl,h _ _ hfn (λb o e=>?_) ⟨c,oc,vs,tq,cl,_,ctv,Zc,by rw[Zl (Yn hlt),Zc],e3,e4,up,hfr⟩⟩
  rw[Zl (ZH e hfn),Zl (ZH e hcn)];exact e
end
noncomputable def ZjY (X:Cx) (A':Around) (Nc:List Str) (q:Str) (scope:Scope) (cl:List (Str×Addr)) (L f c:Addr) (s:Shared) (H:Hp):Cx where
 prog:=X.prog
 w:=X.w
 K:=X.K
 mg:=X.mg
 base:=X.base
 A:=A'.deeper (envX q scope L f (.ref c) cl)
 N:=Nc
 s₀:=s
 H₀:=H
 env:=envX q scope L f (.ref c) cl
 outer:=X.stack
 stack:=envX q scope L f (.ref c) cl::X.stack
 ex:=[]
 fn:=λ_=>false
 calm:=X.calm
 pn:=[]
 xe:=λ_ _=>False
section
variable {X:Cx}
theorem Zrq {pins:List (Addr×Obj)}{σ:St}{H:Hp}{s:Shared}{A':Around}{Nc:List Str}{js:List (Option Nat)}{q pn:Str}{scope:Scope}{cl:List (Str×Addr)}{h1:Heap}{tk:Nat}{f c:Addr}{v:V}{u:Value}
  (I:Inv X pins σ H s) (hA:A'.frames=some X.stack) (hh:X.calm=true->A'.handled=none) (hok:compOk X.env.scope scope=true) (htk:takesC X.N Nc scope js 0=true) (hp0:Nc[0]?=some pn) (hj0:js[0]?=some none) (hpl:scope.names.lookup pn=some .local)
  (up:∀x c,cl.lookup x=some c->X.env.cells.lookup x=some c) (hfr:∀y∈scope.names,y.2=.free->∃c,cl.lookup y.1=some c/\X.env.cells.lookup y.1=some c)
  (r:RelV v u) (old:∀b o,s.heap.get? b=some o->h1.get? b=some o) (hns:h1.Ns s.heap.objs.size λy=>[(pn,u)].reverse.lookup y) :
  Inv (ZjY X A' Nc q scope cl s.heap.objs.size f c s H) [] ((Z6 js σ).set 0 (some v)) H {s with heap:=h1,toks:=tk}:=by
 have noA:∀b:Addr,b∉(ZjY X A' Nc q scope cl s.heap.objs.size f c s H).ex:=λb z=>absurd (show b∈([]:List Addr)from z) (by simp)
 have kf:∀x,((envX q scope s.heap.objs.size f (.ref c) cl).kindOf x=some .cell\/(envX q scope s.heap.objs.size f (.ref c) cl).kindOf x=some .free)->∃c,cl.lookup x=some c:=λx hx=>by
  rcases hx with z|z
  ·exact absurd rfl (Zdr hok _ (lookup_mem (show scope.names.lookup x=some .cell from z)))
  ·obtain⟨c,q,_⟩:=hfr _ (lookup_mem (show scope.names.lookup x=some .free from z)) rfl
   exact⟨c,q⟩
 refine⟨⟨I.ok.mod,Zdq hok,rfl,rfl,Ye _,λx y c e1 e2=>I.ok.inj x y c (up _ _ e1) (up _ _ e2),λx hx=>kf x hx,(λx c e=>nomatch e),hh,Around.frames_deeper hA,.inr ⟨rfl,rfl⟩,λb z=>absurd z (noA b),I.bs,Ym I.ok.bsz I.sz,λb _ _=>noA b,λb z=>absurd z (noA b),I.stack,I.Zhc⟩,
  rfl,I.bare,Un.kept old,⟨_,hns,λi x v' e1 e2 e3=>?_⟩,λx c e=>?_,I.hok.fresh (Ye _),λx c e=>I.freeC x c (up _ _ e),λp hp=>absurd (show p∈([]:List (Addr×Obj))from hp) (by simp),I.hok.kept old,?_⟩
 ·by_cases hi:i=0
  ·subst hi
   have ex:x=pn:=YE ((show Nc[0]?=some x from e1).symm.trans hp0)
   subst ex
   have hl:0<(Z6 js σ).length:=by
    unfold Z6
    rw[Yf]
    exact(YA.mp hj0).1
   rw[List.getElem?_set_self hl]at e2
   cases e2
   exact⟨u,r,.inl ⟨hpl,by simp⟩⟩
  ·rw[List.getElem?_set_ne (Ne.symm hi)]at e2
   have e2':(Z6 js σ)[i]?=some (some v'):=e2
   unfold Z6 at e2'
   rw[YG]at e2'
   cases hq:js[i]? with
   |none=>rw[hq]at e2';cases e2'
   |some j0 =>
    cases j0 with
    |none=>rw[hq]at e2';cases e2'
    |some j =>
     rw[hq]at e2'
     simp only[Option.map_some,Option.some.injEq]at e2'
     have e4:σ[j]?=some (some v'):=by
      cases z:σ[j]? with
      |none=>rw[z]at e2';cases e2'
      |some o=>rw[z]at e2';simp only[Option.join_some]at e2';rw[e2']
     obtain⟨y,y1,y2,y3⟩:=Zeb htk hq
     rw[Nat.zero_add]at y1
     have:x=y:=YE ((show Nc[i]?=some x from e1).symm.trans y1)
     subst this
     have hm:=lookup_mem y3
     obtain⟨c1,h1',h2'⟩:=hfr _ hm rfl
     have hk:=Zds hok _ hm rfl
     obtain⟨m0,hn0,hl0⟩:=I.loc
     obtain⟨u',r',l⟩:=hl0 j x v' y2 e4 (hk.elim (λz=>.inr (.inl z)) λz=>.inr (.inr z))
     refine⟨u',r',.inr ⟨.inr y3,c1,h1',?_⟩⟩
     rcases l with⟨lk,_⟩|⟨_,c',c3,c4⟩
     ·rcases hk with z|z
      ·rw[show X.env.kindOf x=some .cell from z]at lk;cases lk
      ·rw[show X.env.kindOf x=some .free from z]at lk;cases lk
     ·rw[h2']at c3;cases c3
      obtain⟨oc,w1,w2⟩:=c4
      exact⟨oc,old _ _ w1,w2⟩
 ·obtain⟨v,oc,w1,w2⟩:=I.cell x c (up _ _ e)
  exact⟨v,oc,old _ _ w1,w2⟩
 ·show((Z6 js σ).set 0 (some v)).length=Nc.length
  unfold Z6
  have:=Zc5 htk
  rw[List.length_set,Yf]
  omega
structure LamSc (X:Cx) (Nc:List Str) (js:List (Option Nat)) (params:Arguments) (body:Expr) (scope:Scope) (pn:Str):Prop where
 ok:compOk X.env.scope scope=true
 tk:takesC X.N Nc scope js 0=true
 p0:Nc[0]?=some pn
 j0:js[0]?=some none
 pl:scope.names.lookup pn=some .local
 co:scope.isCoroutine=false
 gen:scope.isGenerator=false
 bd:∀(q:Str) (cl:List (Str×Addr)) (pm cd ctv u:Value),bindArgs (kla_fn "<lambda>" q params body scope cl pm cd ctv) ⟨[u],[]⟩=pure [(pn,u)]
theorem ZjZ {pins:List (Addr×Obj)}{σ:St}{H:Hp}{s:Shared}{A':Around}{Nc:List Str}{js:List (Option Nat)}{q pn:Str}{params:Arguments}{body:Expr}{scope:Scope}{P f:Addr}{v:V}{u:Value}{tb:TE}{Q:VK}{E:Value->Shared->Prop}
  (S:LamSc X Nc js params body scope pn) (hbody:∀cl L f c s H,PE (ZjY X A' Nc q scope cl L f c s H) body tb) (I:Inv X pins σ H s) (hA:A'.frames=some X.stack) (hh:X.calm=true->A'.handled=none) (hroom:A'.depth<recursionLimit) (L:ZmE X.env P q params body scope H f)
  (r:RelV v u) (h:tb ((Z6 js σ).set 0 (some v)) H Q):wpAny (model X.prog X.w) A' (call (.ref f) [u]) (EP X pins σ Q) E s:=by
 obtain⟨c,oc,vs,t,cl,pm,ctv,e1,e2,e3,e4,up,hfr⟩:=L
 have hfo:=(I.hok f _ e1).1
 have hoc:=(I.hok c _ e2).1
 refine wpAny_call (codeAny_mono (R:=λr s'=>∃u',r=.ok (.ret u')/\EP X pins σ Q u' s') (kla_callFunE hroom hfo rfl S.co S.gen rfl ⟨c,oc,vs,t,rfl,hoc,e3,e4⟩ ?_) λr s' ⟨u',hr,z⟩=>by subst hr;exact z)
 show wpAny _ _ (bindArgs (kla_fn "<lambda>" q params body scope cl pm (.ref c) ctv) ⟨[u],[]⟩) _ _ _
 rw[S.bd]
 refine Yb (wpAny_newFunctionEnv (λx hx=>Zdr S.ok x hx) (λx hx=>?_) (λh₁ hns hsb=>⟨I.nolimit.fresh _ hsb,?_⟩) (Zdq S.ok))
 ·have:x=(pn,u):=by simpa using hx
  subst this;exact S.pl
 show codeAny _ _ (.expr body (envX q scope s.heap.objs.size f (.ref c) cl)) _ _
 have old:∀b o,s.heap.get? b=some o->h₁.get? b=some o:=λb o e=>hsb.extBut b o (Yn (Yj e)) (Yh _ e)
 have J:=Zrq (q:=q) (f:=f) (c:=c) (tk:=s.toks+[(pn,u)].length) I hA hh S.ok S.tk S.p0 S.j0 S.pl up hfr r old hns
 refine kla_codeExpr (YB (hbody cl _ f c s H [] _ _ H Q J h) (λv' s' ⟨x,H',J',r',q'⟩=>⟨v',rfl,x,H',?_,r',q'⟩) λ_ _ z=>z.elim)
 exact I.ZsF (ch:=[]) J'.os J'.base J'.hok J'.bare λb z=>absurd z (by simp)
end
section
variable {prog:Program}{w:World}{A:Around}{E:Value->Shared->Prop}{s:Shared}
noncomputable def ZtA (b:Bool) (st:SortSt):Array Value:=if b then ((arrOf st).map (·.2)).reverse else (arrOf st).map (·.2)
noncomputable def Zo7 (h:Heap) (kS a:Addr) (out:Array Value):Heap:=(h.update kS (Obj.mapSeq λ_=>(#[]:Array Value))).update a (Obj.mapSeq λ_=>out)
theorem ZvR {a kS:Addr}{b:Bool}{e e1:Nat}{keys:Array Value}{st:SortSt}{R:PySem.Fin->Shared->Prop} (ok:s.heap.get? kS=some (seqObj "list" keys e)) (oa:s.heap.get? a=some (seqObj "list" #[] e1)) (ne:a≠kS) (z1:keys.size<=1000) (z2:(arrOf st).size<=1000) (hf:failedOf st=none)
  (h:R (.done (.ret .none)) {s with heap:=Zo7 s.heap kS a (ZtA b st)}):wpAny (model prog w) A (ksk_tail a b e1 (.ref kS) st) R E s:=by
 have oa1:(s.heap.update kS (Obj.mapSeq λ_=>(#[]:Array Value))).get? a=some (seqObj "list" #[] e1):=(Heap.get?_update_ne _ _ _ _ ne).trans oa
 have zo:(ZtA b st).size<=sizeLine+1:=by
  unfold ZtA
  cases b
  ·rw[Yc YL,Array.size_map];exact Nat.le_succ_of_le (Ym z2 (by decide))
  ·rw[Yd rfl,Array.size_reverse,Array.size_map];exact Nat.le_succ_of_le (Ym z2 (by decide))
 unfold ksk_tail
 dsimp only
 refine Ya (listUpdate_at ok rfl (Ya (wpAny_letGo (Ya (seqEpoch_at oa1 rfl (Ya (listUpdate_at oa1 rfl ?_ (Yt _) zo)))))) (Ym z1 (by decide)) (Yt _))
 rw[hf]
 simp only[bne_self_eq_false,Bool.false_eq_true,if_false]
 exact Yb h
theorem sk_end {a kS:Addr}{b:Bool}{e e1:Nat}{keys:Array Value}{vs:List Value}{kz:List Int}{R:PySem.Fin->Shared->Prop} (ok:s.heap.get? kS=some (seqObj "list" keys e)) (oa:s.heap.get? a=some (seqObj "list" #[] e1)) (ne:a≠kS) (hk:IntsAre keys.toList kz) (hl:kz.length=vs.length) (h64:vs.length<64)
  (h:∀out:Array Value,KskOut b kz vs out.toList->R (.done (.ret .none)) {s with heap:=Zo7 s.heap kS a out}):wpAny (model prog w) A (ksk_end a b vs.toArray e1 (.ref kS) keys) R E s:=by
 have hz:keys.size=vs.length:=by
  have q:=hk.length
  rw[YW]at q;omega
 have hzz:(keys.zip vs.toArray).size=vs.length:=by rw[Array.size_zip,hz,Yu,Nat.min_self]
 have go:∀t:Sem PySem.Fin,wpAny (model prog w) A t R E s->wpAny (model prog w) A (if b=true then (rule "list.sort.reverse" >>= λ_=>t)else t) R E s:=λt ht=>by
  cases b
  ·exact ht
  ·exact Ya (wpAny_rule ht)
 have hst:(if b=true then (keys.zip vs.toArray).reverse else keys.zip vs.toArray).Perm (keys.zip vs.toArray):=by
  cases b
  ·exact .refl _
  ·exact Array.perm_iff_toList_perm.mpr (by rw[Yd rfl,Array.toList_reverse];exact List.reverse_perm _)
 have done:∀st:SortSt,(arrOf st).Perm (keys.zip vs.toArray)->failedOf st=none->SortedTo (arrOf st) (arrOf st).size->wpAny (model prog w) A (ksk_tail a b e1 (.ref kS) st) R E s:=λst q1 q2 q3 =>
  ZvR ok oa ne (by omega) (by rw[q1.size_eq,hzz];omega) q2 (h _ (ksk_out hk q1 q3))
 unfold ksk_end
 refine go _ ?_
 by_cases h2:vs.length<2
 ·have h2':vs.toArray.size<2:=by rw[Yu];exact h2
  rw[Yd h2',Yd h2']
  refine Ya (Yb ?_)
  dsimp only
  rw[StateT.run_pure]
  refine Ya (Yb (done (SortSt.mk' general' (if b=true then (keys.zip vs.toArray).reverse else keys.zip vs.toArray) #[] 7 none) hst rfl λi j hij hj=>?_))
  have hj':j<(if b=true then (keys.zip vs.toArray).reverse else keys.zip vs.toArray).size:=hj
  rw[hst.size_eq,hzz]at hj'
  rw[show i=j by omega]
  exact Int.le_refl _
 ·have h2':¬ vs.toArray.size<2:=by rw[Yu];exact h2
  rw[Yc h2',Yc h2',ksk_kind hk (by omega)]
  refine Ya (Yb (Ya (YB (wpS_sortRuns (a₀:=keys.zip vs.toArray) (st:=SortSt.mk' oneType' (if b=true then (keys.zip vs.toArray).reverse else keys.zip vs.toArray) #[] 7 none)
   (Q:=λ_ st=>(arrOf st).Perm (keys.zip vs.toArray)/\failedOf st=none/\SortedTo (arrOf st) (keys.zip vs.toArray).size) (ksk_intKeys hk) ⟨hst,rfl,rfl,rfl⟩ (by omega) (by omega) λst q1 q2 q3=>⟨q1,q2,q3⟩) ?_ λ_ _ z=>z)))
  rintro⟨⟨⟩,st⟩ s' ⟨rfl,q1,q2,q3⟩
  exact done st q1 q2 (by rw[q1.size_eq];exact q3)
end
section
variable {X:Cx}
theorem Inv.track {pins:List (Addr×Obj)}{σ:St}{H:Hp}{s:Shared}{a:Addr}{o:HO} (I:Inv X pins σ H s) (hn:H a=none) (hL:a≠X.env.locals) (h1:a∈X.ex\/X.s₀.heap.objs.size<=a) (h2:∀x c,X.env.cells.lookup x=some c->c≠a) (h3:∀p∈X.pn++pins,p.1≠a)
  (new:Zaa X.prog X.w (upd H a o) s.heap a o):Inv X pins σ (upd H a o) s:=by
 have up:∀b u,H b=some u->upd H a o b=some u:=λb u e=>by rw[Zl (ZH e hn)];exact e
 have J:=I.step (g':=s.gens) (d':=s.drawn) (t':=s.toks) (h':=s.heap) (H':=upd H a o) (ch:=[a]) (λb hb=>?_) (λb o _ _ _ e _=>e) (λb o _ _ _ e _=>⟨o.slots,e⟩) (λb o hb e n=>?_) (λb o _ e=>⟨o,e⟩) (λb xs e=>up _ _ e) (λb o u e=>up _ _ e) (λb ps e=>⟨#[],by rw[up _ _ e];simp⟩) (λm hm=>hm) (λb u e=>?_) I.bare
 ·exact J
 ·have e:b=a:=by simpa using hb
  subst e
  exact⟨h1,hL,h2,h3⟩
 ·rw[Zl (λz=>hb (by simp[z]))];exact n
 ·by_cases z:b=a
  ·subst z;rw[Zc]at e;cases e;exact new
  ·rw[Zl z]at e
   exact(I.hok b u e).Zhb (λc v _ q=>q) (λc q=>up _ _ q) (λc xs q=>up _ _ q) λc o' u' q=>up _ _ q
theorem ZvS {pins:List (Addr×Obj)}{σ:St}{H:Hp}{s:Shared}{A':Around}{E:Value->Shared->Prop}{f:Value}{b:Bool}{a kS:Addr}{e1:Nat}{vs:List Value}{ns:List Int}{kz:Int->Int}{R:PySem.Fin->Shared->Prop}
  (I:Inv X ((kS,seqObj "list" #[] 0)::(a,seqObj "list" #[] e1)::pins) σ H s) (hk0:X.s₀.heap.objs.size<=kS) (ha0:X.s₀.heap.objs.size<=a) (ne:a≠kS) (hp:∀p∈X.pn++pins,p.1≠kS/\p.1≠a) (hv:IntsAre vs ns) (h64:vs.length<64)
  (turn:∀(H':Hp) (s':Shared) (pins':List (Addr×Obj)) (n:Int) (u:Value),n∈ns->Inv X pins' σ H' s'->Ze H H'->RelV (.int n) u->wpAny (model X.prog X.w) A' (call f [u]) (EP X pins' σ λv H2=>v=.int (kz n)/\Ze H' H2) (λ_ _=>False) s')
  (fin:∀(H':Hp) (s':Shared) (out:Array Value) (c:Nat),Inv X pins σ H' s'->Ze H H'->H' a=none->s'.heap.get? a=some (seqObj "list" out c)->KskOut b (ns.map kz) vs out.toList->R (.done (.ret .none)) s') :
  wpAny (model X.prog X.w) A' (ksk_rest a f b vs.toArray e1 (.ref kS)) R E s:=by
 have hlen:vs.length=ns.length:=hv.length
 have facts:∀{H':Hp}{s':Shared}{ps:List (Addr×Obj)}{x:Addr}{xs:Array Value}{c:Nat},Inv X ps σ H' s'->(x,seqObj "list" xs c)∈ps->s'.heap.get? x=some (seqObj "list" xs c)/\H' x=none/\x≠X.env.locals/\x∉X.fs/\∀y cc,X.env.cells.lookup y=some cc->cc≠x:=λ{H' s' ps x xs c} J hm=>by
  obtain⟨q1,q2,q3,q4,_⟩:=J.pin _ (Yk _ hm)
  refine⟨q1,q2,q3,q4,λy cc hc z=>?_⟩
  obtain⟨v,oc,w1,w2⟩:=J.cell y cc hc
  rw[z,q1]at w1;cases w1;cases w2
 unfold ksk_rest
 refine Ya (wpAny_rule ?_)
 first
  |rw[List.forIn_toArray]
  |(rw[<-Array.forIn_toList];simp only[List.toList_toArray])
 refine Ya (ksk_fold (λi s'=>∃H' kA e,Inv X ((kS,seqObj "list" kA e)::(a,seqObj "list" #[] e1)::pins) σ H' s'/\Ze H H'/\IntsAre kA.toList ((ns.take i).map kz)) vs 0 s ⟨H,#[],0,I,Ze.refl H,by simpa using IntsAre.nil⟩ ?step ?done)
 case step =>
  rintro j x s' hx ⟨H',kA,e,J,sm,hk⟩
  simp only[Nat.zero_add]at hk⊢
  have hj:j<vs.length:=(YA.mp hx).1
  have hnj:ns[j]?=some ns[j]:=Yg (by omega)
  obtain⟨t,ht⟩:=hv.get j _ hnj
  rw[hx]at ht
  cases ht
  have hz:kA.size<=64:=by
   have h1:=hk.length
   rw[YW,Yf,YX]at h1
   omega
  refine Ya (wpAny_attempt (YB (turn H' s' _ ns[j] _ (YD _) J sm ⟨t,rfl⟩) (λv s'' he=>?_) λ_ _ hF=>hF.elim))
  obtain⟨x2,H2,J2,r2,rfl,sm2⟩:=he
  obtain⟨t2,rfl⟩:=r2
  obtain⟨o1,n1,l1,_,c1⟩:=facts J2 (Yr ..)
  try dsimp only
  obtain⟨c2,hc2⟩:∃c2,(s''.heap.update kS (Obj.mapSeq (·.push (.int (kz ns[j]) t2)))).get? kS=some (seqObj "list" (kA.push (.int (kz ns[j]) t2)) c2):=⟨_,get?_update_seq o1 (·.push (.int (kz ns[j]) t2))⟩
  refine Ya (listUpdate_at o1 rfl ?_ (Ym hz (by decide)) (Ym (Y4 (Array.size_push ..)) (Nat.le_succ_of_le (Ym (Nat.succ_le_succ hz) (by decide)))))
  have J3:Inv X ((a,seqObj "list" #[] e1)::pins) σ H2 s'':=J2.ZO λp hp'=>by
   obtain⟨q1,q2,q3,q4,q5⟩:=J2.pin p (Yk _ (Yw _ hp'))
   exact⟨q1,q2,q3,q4,q5⟩
  have J4:=J3.turned (t':=s''.toks) (h':=s''.heap.update kS (Obj.mapSeq (·.push (.int (kz ns[j]) t2)))) (it:=kS) (λb o nb e=>(Heap.get?_update_ne _ _ _ _ nb).trans e) n1 l1 (.inr hk0) c1 (λp hp'=>by
   rcases Yq.mp hp' with z|z
   ·exact(hp p (Yx _ z)).1
   ·rcases Yi.mp z with rfl|z
    ·exact ne
    ·exact(hp p (Yk _ z)).1)
  have o1f:=(facts J2 (Yr ..)).2.2.2.1
  have J5:Inv X ((kS,seqObj "list" (kA.push (.int (kz ns[j]) t2)) c2)::(a,seqObj "list" #[] e1)::pins) σ H2 {s'' with heap:=s''.heap.update kS (Obj.mapSeq (·.push (.int (kz ns[j]) t2)))}:=J4.ZO λp hp'=>by
   rcases Yi.mp hp' with rfl|hp'
   ·exact⟨hc2,n1,l1,o1f,λv z=>by cases z⟩
   ·exact J4.pin p (Yk _ hp')
  refine Yb ⟨rfl,H2,_,_,J5,sm.trans sm2,?_⟩
  have ek:(ns.take (j+1)).map kz=(ns.take j).map kz++[kz ns[j]]:=by rw[Y2,hnj,YJ];rfl
  have ea:(kA.push (Value.int (kz ns[j]) t2)).toList=kA.toList++[Value.int (kz ns[j]) t2]:=by simp
  rw[ea,ek];exact ksk_snoc hk
 case done =>
  rintro s' ⟨H',kA,e,J,sm,hk⟩
  have hk':IntsAre kA.toList (ns.map kz):=by
   rw[List.take_of_length_le (by omega)]at hk
   exact hk
  obtain⟨o1,n1,l1,f1,c1⟩:=facts J (Yr ..)
  obtain⟨o2,n2,l2,f2,c2⟩:=facts J (Yw _ (Yr ..))
  refine Ya (listItems_at o1 rfl ?_)
  refine sk_end o1 o2 ne hk' (by rw[Yf];exact hlen.symm) h64 λout ho=>?_
  have J3:Inv X pins σ H' s':=J.ZO λp hp'=>J.pin p (Yk _ (Yw _ (Yw _ hp')))
  have J4:=J3.turned (t':=s'.toks) (h':=s'.heap.update kS (Obj.mapSeq λ_=>(#[]:Array Value))) (it:=kS) (λb o nb e=>(Heap.get?_update_ne _ _ _ _ nb).trans e) n1 l1 (.inr hk0) c1 λp hp'=>(hp p hp').1
  have J5:=J4.turned (t':=s'.toks) (h':=Zo7 s'.heap kS a out) (it:=a) (λb o nb e=>(Heap.get?_update_ne _ _ _ _ nb).trans e) n2 l2 (.inr ha0) c2 λp hp'=>(hp p hp').2
  have o3:(s'.heap.update kS (Obj.mapSeq λ_=>(#[]:Array Value))).get? a=some (seqObj "list" #[] e1):=(Heap.get?_update_ne _ _ _ _ ne).trans o2
  exact fin H' _ out _ J5 sm n2 (get?_update_seq o3 λ_=>out) ho
theorem ZvT {pins:List (Addr×Obj)}{σ:St}{H:Hp}{s:Shared}{A':Around}{E:Value->Shared->Prop}{f:Value}{b:Bool}{a:Addr}{e0:Nat}{vs:List Value}{ns:List Int}{kz:Int->Int}{R:PySem.Fin->Shared->Prop}
  (I:Inv X ((a,seqObj "list" vs.toArray e0)::pins) σ H s) (ha0:X.s₀.heap.objs.size<=a) (hp:∀p∈X.pn++pins,p.1≠a) (hv:IntsAre vs ns) (h64:vs.length<64)
  (turn:∀(H':Hp) (s':Shared) (pins':List (Addr×Obj)) (n:Int) (u:Value),n∈ns->Inv X pins' σ H' s'->Ze H H'->RelV (.int n) u->wpAny (model X.prog X.w) A' (call f [u]) (EP X pins' σ λv H2=>v=.int (kz n)/\Ze H' H2) (λ_ _=>False) s')
  (fin:∀(H':Hp) (s':Shared) (out:Array Value) (c:Nat),Inv X pins σ H' s'->Ze H H'->H' a=none->s'.heap.get? a=some (seqObj "list" out c)->KskOut b (ns.map kz) vs out.toList->R (.done (.ret .none)) s') :
  wpAny (model X.prog X.w) A' (ksk_tree a f b) R E s:=by
 obtain⟨oa,na,la,fa,da⟩:=I.pin _ (Yk _ (Yr ..))
 have ca:∀y cc,X.env.cells.lookup y=some cc->cc≠a:=λy cc hc z=>by
  obtain⟨v,oc,w1,w2⟩:=I.cell y cc hc
  rw[z,oa]at w1;cases w1;cases w2
 have lt:=Yj oa
 obtain⟨e1,oa1⟩:∃e1,(s.heap.update a (Obj.mapSeq λ_=>(#[]:Array Value))).get? a=some (seqObj "list" #[] e1):=⟨_,get?_update_seq oa λ_=>#[]⟩
 have I0:Inv X pins σ H s:=I.ZO λp hp'=>I.pin p (Yk _ (Yw _ hp'))
 have I1:=I0.turned (t':=s.toks) (h':=s.heap.update a (Obj.mapSeq λ_=>(#[]:Array Value))) (it:=a) (λb o nb e=>(Heap.get?_update_ne _ _ _ _ nb).trans e) na la (.inr ha0) ca hp
 have sz:(s.heap.update a (Obj.mapSeq λ_=>(#[]:Array Value))).objs.size=s.heap.objs.size:=Heap.size_update ..
 have I2:=I1.kept (h':=((s.heap.update a (Obj.mapSeq λ_=>(#[]:Array Value))).push (seqObj "tuple" vs.toArray 0)).push (seqObj "list" #[] 0)) (t':=s.toks) λb o e=>Yh _ (Yh _ e)
 have sz2:((s.heap.update a (Obj.mapSeq λ_=>(#[]:Array Value))).push (seqObj "tuple" vs.toArray 0)).objs.size=s.heap.objs.size+1:=(size_push' ..).trans (congrArg (·+1) sz)
 have hge:X.s₀.heap.objs.size<=s.heap.objs.size:=I.sz
 have hkL:X.env.locals<s.heap.objs.size:=I.lt
 have nk:H (s.heap.objs.size+1)=none:=I.hok.fresh (YR _)
 unfold ksk_tree
 refine Ya (listItems_at oa rfl (Ya (listUpdate_at oa rfl (Ya (seqEpoch_at oa1 rfl (Ya (wpAny_newTuple (Ya (wpAny_newList (wpAny_holding ?_) (Yt _))) ?_)))) ?_ (Yt _))))
 ·rw[sz2]
  refine ZvS (kS:=s.heap.objs.size+1) (e1:=e1) (I2.ZO λp hp'=>?_) (Nat.le_succ_of_le hge) ha0 (Yn (YO lt)) (λp hp'=>⟨?_,hp p hp'⟩) hv h64 turn fin
  ·rcases Yi.mp hp' with rfl|hp'
   ·exact⟨by rw[<-sz2];exact Ys _ rfl,nk,Nat.ne_of_gt (YO hkL),I.Zl5 (YR _),λv z=>by cases z⟩
   ·rcases Yi.mp hp' with rfl|hp'
    ·exact⟨Yh _ (Yh _ oa1),na,la,fa,λv z=>by cases z⟩
    ·exact I2.pin p (Yk _ hp')
  ·have:=Yj (I0.pin p hp').1
   exact Yn (YO this)
 ·exact Ym (show vs.length<=64 by omega) (by decide)
 ·rw[Yu];exact Ym (show vs.length<=64 by omega) (by decide)
end
theorem ZtB {prog:Program}{w:World}{A:Around}{R:Result->Shared->Prop}{s:Shared}{r S:Addr}{a b c:Int}{t u v:Tok}{n c₀:Nat} (hh:A.handled=none) (hr:IsRange s.heap r a b c t u v) (hsmall:Builtin.Range.small a b c=true)
  (hn:Builtin.Range.rangeSize a b c=n) (hlen:n<=2 ^ 24) (hS:s.heap.get? S=some {cls:=.type "list",data:=.seq #[] c₀})
  (hR:∀h' tk acc' c',(∀b o,b≠S->s.heap.get? b=some o->h'.get? b=some o)->h'.get? S=some {cls:=.type "list",dict:=none,data:=.seq acc' c',slots:=#[]}->ItemsOf (λi v=>∃t,v=.int (a+i*c) t) acc' n->R (.ok (.ret (.ref S))) {s with heap:=h',toks:=tk}) :
  codeAny (model prog w) A (.builtin "list.__iadd__" ⟨[.ref S,.ref r],[]⟩) R s :=
 codeAny_builtin entry_list_iadd' (wpAny_extend_range hh hr hsmall hn hlen S (.ref S) c₀ hS hR)
theorem ZnM {prog:Program}{w:World}{A:Around}{E:Value->Shared->Prop}{s:Shared}{r:Addr}{a b c:Int}{t u v:Tok}{n:Nat}{Q:List Value->Shared->Prop} (hh:A.handled=none) (hr:IsRange s.heap r a b c t u v) (hsmall:Builtin.Range.small a b c=true)
  (hn:Builtin.Range.rangeSize a b c=n) (hlen:n<=2 ^ 24) (h:∀(h':Heap) (tk:Nat) (acc:Array Value),(∀b o,s.heap.get? b=some o->h'.get? b=some o)->ItemsOf (λi v=>∃t,v=.int (a+i*c) t) acc n->Q acc.toList {s with heap:=h',toks:=tk}) :
  wpAny (model prog w) A (collect (.ref r)) Q E s:=by
 unfold collect
 refine Ya (wpAny_runValue (codeAny_builtin entry_proto_collect' ?_))
 show wpAny _ _ (newList [] >>= λl=>again (.builtin "list.__iadd__" ⟨[l,.ref r],[]⟩)) _ _ s
 refine Ya (wpAny_newList (Yb ⟨Code.quiet_builtin _ (by decide +kernel),?_⟩))
 refine ZtB (s:={s with heap:=s.heap.push (seqObj "list" #[] 0)}) hh (Yh _ hr) hsmall hn hlen (Ys _ rfl) λh' tk acc c' hk hS hacc=>?_
 refine Ya (wpAny_load hS (Yb (h h' tk acc (λb o e=>hk b o (Yn (Yj e)) (Yh _ e)) hacc)))
theorem ZnN (g:Int->Int):∀vs:List Value,((vs.map numOf).map g).zip vs=vs.map λv=>(g (numOf v),v)
 |[]=>rfl
 |v::vs=>by
  simp only[YM,List.zip_cons_cons]
  rw[ZnN g vs]
theorem Zo8 {b:Bool}{g:Int->Int}{vs out:List Value}{ns:List Int} (hv:IntsAre vs ns) (h:KskOut b (ns.map g) vs out):∃ns',IntsAre out ns'/\ns'.Perm ns/\ns'.Pairwise λx y=>if b then g y<=g x else g x<=g y:=by
 obtain⟨ps,hp,rfl,hs⟩:=h
 have en:ns=vs.map numOf:=hv.nums.symm
 rw[en,ZnN]at hp
 have mem:∀p∈ps,p.1=g (numOf p.2)/\p.2∈vs:=λp hp'=>by
  obtain⟨v,hv',rfl⟩:=Yo.mp (hp.mem_iff.mp hp')
  exact⟨rfl,hv'⟩
 refine⟨(ps.map Prod.snd).map numOf,intsAre_map _ λv hv'=>?_,?_,?_⟩
 ·obtain⟨p,hp',rfl⟩:=Yo.mp hv'
  exact hv.all _ (mem p hp').2
 ·have:=(hp.map Prod.snd).map numOf
  rw[YT (l:=vs),show(Prod.snd ∘ λv=>(g (numOf v),v))=(id:Value->Value)from rfl,List.map_id]at this
  rw[en];exact this
 ·rw[List.pairwise_map,List.pairwise_map]
  refine hs.imp_of_mem λ{p q} hp' hq' hr=>?_
  rw[<-(mem p hp').1,<-(mem q hq').1]
  exact hr
noncomputable def nats (n:Int):List Int:=(List.range n.toNat).map λ(i:Nat)=>(i:Int)
section
variable {X:Cx}
theorem Zo9 {pins:List (Addr×Obj)}{σ:St}{H:Hp}{s:Shared}{kw:List (Str×Value)}{f:Value}{b:Bool}{p:Addr}{n:Int}{kz:Int->Int}{Q:VK} (I:Inv X pins σ H s) (hc:X.calm=true) (hp:H p=some (.rng 0 n)) (h0:0<=n) (h64:n<64)
  (ha1:argsOk "sorted" ⟨[.ref p],kw⟩) (ha2:∀x,argsOk "list.sort" ⟨[.ref x],kw⟩) (ht:∀x,Builtin.«list.sort» ⟨[.ref x],kw⟩=ksk_tree x f b)
  (turn:∀(H':Hp) (s':Shared) (pins':List (Addr×Obj)) (i:Int) (u:Value),0<=i->i<n->Inv X pins' σ H' s'->Ze H H'->RelV (.int i) u->wpAny (model X.prog X.w) X.A.in1.in1 (call f [u]) (EP X pins' σ λv H2=>v=.int (kz i)/\Ze H' H2) (λ_ _=>False) s')
  (fin:∀(ns:List Int) (l:Addr) (H':Hp),ns.Perm (nats n)->(ns.Pairwise λx y=>if b then kz y<=kz x else kz x<=kz y)->Ze H H'->H l=none->H' l=some (.lst (ns.map V.int))->Q (.ref l) H') :
  wpAny (model X.prog X.w) X.A (call (.builtin "sorted") [.ref p] kw) (EP X pins σ Q) X.xe s:=by
 obtain⟨t,u,v,hob⟩:=(show ∃t u v,s.heap.get? p=some {cls:=.type "range",data:=.fields #[.int 0 t,.int n u,.int 1 v]}from I.hok p _ hp)
 refine call_function_entry_kw kind_sorted plain_sorted entry_sorted ha1 ?_
 unfold Builtin.«sorted»
 refine Ya (m:=checkCount "sorted" 1 1 _) (Yb (Ya (ZnM (n:=n.toNat) (I.ok.hd hc) hob (small_one (by omega) (by omega) (by omega) (by omega)) (by rw[rangeSize_one];split<;>omega) (by omega) λh1 tk acc k1 hacc=>Ya (wpAny_newList ?_ ?_))))
 case refine_2=>rw[YW,hacc.1];exact Ym (show n.toNat<=1000 by omega) (by decide)
 have hia:IntsAre acc.toList (nats n):=by
  have hv:Vals ((nats n).map V.int) acc.toList:=by
   unfold nats
   rw[YT]
   exact Zqp (g:=λ(i:Nat)=>V.int (i:Int)) (P:=λ(i:Nat) v=>∃t,v=.int (0+(i:Int)*1) t) (λi v h=>by obtain⟨t,e⟩:=h;exact⟨t,by rw[e];simp⟩) _ _ (by rw[YW];exact hacc.1) λk v hk=>hacc.2 k v (by simpa using hk)
  exact intsAre_of hv
 have I1:=I.kept (t':=tk) k1
 show wpAny _ _ _ _ _ {s with heap:=h1.push (seqObj "list" acc.toList.toArray 0),toks:=tk}
 have oa:(h1.push (seqObj "list" acc.toList.toArray 0)).get? h1.objs.size=some (seqObj "list" acc.toList.toArray 0):=Ys _ rfl
 have I2:=I1.kept (h':=h1.push (seqObj "list" acc.toList.toArray 0)) (t':=tk) λb o e=>Yh _ e
 have na:H h1.objs.size=none:=I1.hok.fresh (Ye _)
 have la:h1.objs.size≠X.env.locals:=Nat.ne_of_gt I1.lt
 have a0:X.s₀.heap.objs.size<=h1.objs.size:=I1.sz
 have hl:acc.toList.length<64:=by rw[YW,hacc.1];omega
 refine Ya (wpAny_holding (wpAny_call_entry_kw slot_list_sort ⟨_,oa,rfl⟩ entry_list_sort ?body (ha2 _)))
 case body =>
  show wpAny (model X.prog X.w) X.A.in1.in1 (Builtin.«list.sort» ⟨[.ref h1.objs.size],kw⟩) _ _ _
  rw[ht]
  refine ZvT (e0:=0) (pins:=pins) (ns:=nats n) (kz:=kz) (I2.ZO λq hq=>?_) a0 (λq hq=>?_) hia hl (λH' s' pins' i u hi J sm r=>?_) λH' s' out c J sm n2 o2 ko=>⟨_,rfl,Yb ⟨_,rfl,?_⟩⟩
  ·rcases Yi.mp hq with rfl|hq
   ·exact⟨oa,na,la,I1.Zl5 (Ye _),λv z=>by cases z⟩
   ·exact I2.pin q (Yk _ hq)
  ·exact Yn (Yj (I1.pin q hq).1)
  ·obtain⟨k,hk,rfl⟩:=Yo.mp hi
   have:=Yz.mp hk
   exact turn H' s' pins' _ u (by omega) (by omega) J sm r
  ·obtain⟨ns,hi,hpm,hpw⟩:=Zo8 hia ko
   have ca:∀y cc,X.env.cells.lookup y=some cc->cc≠h1.objs.size:=λy cc hc' z=>by
    obtain⟨v,oc,w1,w2⟩:=I1.cell y cc hc'
    exact absurd (Yj w1) (by rw[z];exact YI _)
   have K:=J.track (a:=h1.objs.size) (o:=.lst (ns.map V.int)) n2 la (.inr a0) ca (λq hq=>Yn (Yj (I1.pin q hq).1)) ⟨?_,out.toList,c,Zf6 hi,by rw[Array.toArray_toList];exact o2⟩
   ·exact⟨.ref h1.objs.size,_,K,rfl,fin ns _ _ hpm hpw (λb o e=>by rw[Zl (ZH e na)];exact sm _ _ e) na Zc⟩
   ·rw[Yf,hpm.length_eq]
    unfold nats
    rw[Yf,Y0]
    exact Ym (show n.toNat<=1000 by omega) (by decide)
noncomputable def ZmF (ta td:TA) (tb:TE) (js:List (Option Nat)) (env:Env) (P:Addr) (q:Str) (params:Arguments) (body:Expr) (scope:Scope):TE:=fun σ H Q=>ta σ H λvs H1=>td σ H1 λzs H2=>∃(p f:Addr) (n:Int) (kz:Int->Int),
 vs=[.ref p]/\zs=[.ref f,.bl true]/\H2 p=some (.rng 0 n)/\0<=n/\n<64/\ZmE env P q params body scope H2 f /\
 (∀i H3,0<=i->i<n->Ze H2 H3->tb ((Z6 js σ).set 0 (some (.int i))) H3 λv H4=>v=.int (kz i)/\Ze H3 H4) /\
 ∀(ns:List Int) (l:Addr) (H3:Hp),ns.Perm (nats n)->(ns.Pairwise λx y=>kz y<=kz x)->Ze H2 H3->H2 l=none->H3 l=some (.lst (ns.map V.int))->Q (.ref l) H3
theorem ZtC {pins':List (Addr×Obj)}{σ:St}{H':Hp}{s':Shared}{Nc:List Str}{js:List (Option Nat)}{q pn:Str}{params:Arguments}{body:Expr}{scope:Scope}{P f:Addr}{tb:TE}{Q:VK}{m:Nat}{i:Int}{u:Value} (hr:Room m X.A)
  (S:LamSc X Nc js params body scope pn) (hbody:∀cl L f c s H,PE (ZjY X X.A.in1.in1 Nc q scope cl L f c s H) body tb) (J:Inv X pins' σ H' s') (L:ZmE X.env P q params body scope H' f) (r:RelV (.int i) u)
  (h:tb ((Z6 js σ).set 0 (some (.int i))) H' Q):wpAny (model X.prog X.w) X.A.in1.in1 (call (.ref f) [u]) (EP X pins' σ Q) (λ_ _=>False) s' :=
 ZjZ S hbody J J.ok.frames J.ok.hd hr.depth L r h
theorem Zrr {Nc:List Str}{js:List (Option Nat)}{q pn:Str}{params:Arguments}{body:Expr}{scope:Scope}{P:Addr}{ta td:TA}{tb:TE}{m:Nat}{e:Expr}{e2:Expr}{p pos lpos kp1 kp2:Pos} (hc:X.calm=true) (hr:Room m X.A) (S:LamSc X Nc js params body scope pn)
  (hbody:∀cl L f c s H,PE (ZjY X X.A.in1.in1 Nc q scope cl L f c s H) body tb) (hg:Gl X "sorted") (hm:X.mg "sorted"=none) (ha:PA X [e] ta) (hd:PK X [⟨some (Str.ofString "key"),.Lambda params body scope lpos,kp1⟩,⟨some (Str.ofString "reverse"),e2,kp2⟩] td)
  (hpl:(backTo pos (starEach [e] X.env)).any (·.1)=false:=by rfl) (hall:(backToKw pos (keywordEach [⟨some (Str.ofString "key"),.Lambda params body scope lpos,kp1⟩,⟨some (Str.ofString "reverse"),e2,kp2⟩] X.env)).all (·.1.isSome)=true:=by rfl)
  (hnn:(backToKw pos (keywordEach [⟨some (Str.ofString "key"),.Lambda params body scope lpos,kp1⟩,⟨some (Str.ofString "reverse"),e2,kp2⟩] X.env)).any (·.1.isNone)=false:=by rfl) (hks:(backToKw pos (keywordEach [⟨some (Str.ofString "key"),.Lambda params body scope lpos,kp1⟩,⟨some (Str.ofString "reverse"),e2,kp2⟩] X.env)).filterMap (·.1)=[Str.ofString "key",Str.ofString "reverse"]:=by rfl) (hb:backTo pos (starEach [e] X.env)=(false,eval e X.env)::backTo pos (starEach [] X.env):=by rfl) :
  PE X (.Call (.Name "sorted" p) [e] [⟨some (Str.ofString "key"),.Lambda params body scope lpos,kp1⟩,⟨some (Str.ofString "reverse"),e2,kp2⟩] pos) (ZmF ta td tb js X.env P q params body scope):=by
 intro pins s σ H Q I h
 refine wpAny_Call_Name_kw (Zbm I hg hm Zgc ?_)
 refine PyProof.Rows.callWith_kw (thn (ha pos pins s σ H _ I h) λus s1 ⟨vs,H1,I1,r1,q1⟩=>?_) hb hpl hall hnn
 refine thn (hd pos pins s1 σ H1 _ I1 q1) λws s2 ⟨zs,H2,I2,r2,pp,f,n,kz,e1,e2,hp,h0,h64,L,tn,fin⟩=>?_
 subst e1 e2
 obtain⟨u,rfl,ru⟩:=r1.one
 cases(show u=Value.ref pp from ru)
 rw[hks]
 obtain⟨v,v2,rfl,rv,rv2⟩:=r2.two
 cases(show v=Value.ref f from rv)
 cases(show v2=Value.bool true from rv2)
 exact Zo9 (f:=.ref f) (b:=true) (kz:=kz) I2 hc hp h0 h64 (ksk_s2 _ _ _) (λx=>ksk_l2 _ _ _) (λx=>ksk_t2 _ _ _) (λH' s' pins' i u hi0 hi1 J sm r=>ZtC hr S hbody J (L.same sm) r (tn i H' hi0 hi1 sm)) (λns l H' a1 a2=>fin ns l H' a1 a2)
end
noncomputable def Zj0 (x:Str):Str:=(x++".<locals>.")++"<lambda>"
noncomputable def Zb3 (K:Frag) (mg:Str->Option Value) (x:Str) (H:Hp):Prop:=H (Zhw K mg x)=some (ZjX (Zj0 x))
theorem Zb3.same {K:Frag}{mg:Str->Option Value}{x:Str}{H H':Hp} (h:Zb3 K mg x H) (s:Ze H H'):Zb3 K mg x H':=s _ _ h
noncomputable def Zpa (K:Frag) (mg:Str->Option Value) (x:Str) (f:Addr):Prop:=∃c,Zrp K f=some c/\codeHdIn K c (Zhw K mg x)=true
section
variable {P:Program}{w:World}{K:Frag}{mg:Str->Option Value}{base:Heap}
theorem Fun.okL {x qual:Str}{st:Stmt}{f:Addr}{fd:FuncData}{N ps:List Str}{k:Nat}{sp:Sp} (F:Fun K x qual st f fd) (L:Zpa K mg qual f) (B:BM mg base) (S:FnScope N ps (defScope st)) (len:∀vs H Q E,sp vs H Q E->vs.length=ps.length)
  (hbody:∀(cdv:Value) (A:Around) (outer:List Env) (s:Shared) (H:Hp) (vs:List V) (Q:VK) (E:XK),LamIn (Zhg (CXE P w) P w K mg base N qual (defScope st) f cdv A outer s H E) (Zhw K mg qual) (Zj0 qual)->Room k (A.deeper (envOfC qual (defScope st) s.heap.objs.size f cdv))->sp vs H Q E ->
   ∃t,PSs (Zhg (CXE P w) P w K mg base N qual (defScope st) f cdv A outer s H E) (defBody st) t/\t {nx:=λ_ H'=>Q .non H',rt:=Q} (start N vs) H):FnOk P w K mg base (CXE P w) (k+1) f fd ps sp:=by
 obtain⟨oc,od,kV,doc,pm,an,cdv,ct,osl,rfl,lk,hcd⟩:=F.ex
 obtain⟨c,h1,h2⟩:=L
 have e:cdv=.ref c:=by
  unfold Zrp at h1
  rw[lk]at h1
  dsimp only at h1
  cases cdv<;>first|(cases h1;rfl)|(cases h1;done)
 exact fn_of lk hcd S len λA outer s H vs Q E hr hsp=>hbody cdv A outer s H vs Q E ⟨⟨c,e,h2⟩,B,rfl⟩ hr hsp
end
theorem ZtD {b:Addr}{q:Str}:∀{l:List (Addr×Str)},l.lookup b=some q->(b,q)∈l
 |[],e=>by cases e
 |(c,y)::r,e=>by
  rw[List.lookup_cons]at e
  cases hb:b==c with
  |true=>rw[hb]at e;cases e;rw[eq_of_beq hb];exact Yr
  |false=>rw[hb]at e;exact Yw _ (ZtD e)
theorem ZmG {K:Frag}{mg:Str->Option Value}{x:Str}{f c T:Addr}{oc1 oc2:Value}{od1 od2:Option Addr}{fd:FuncData}{sl1 sl2:Array (Option Value)}{vs:Array Value} (hm:mg x=some (.ref f)) (l1:K.lookup f=some ⟨oc1,od1,.func fd,sl1⟩) (e:fd.code=.ref c) (l2:K.lookup c=some ⟨oc2,od2,.fields vs,sl2⟩) (h11:vs[11]?=some (.ref T)):Zhw K mg x=T/\Zrp K f=some c:=by
 have h1:Zrp K f=some c:=by
  unfold Zrp
  rw[l1]
  dsimp only
  rw[e]
 refine⟨?_,h1⟩
 unfold Zhw
 rw[hm]
 dsimp only
 rw[h1]
 dsimp only
 unfold tabOf
 rw[l2]
 dsimp only
 rw[h11]
theorem Zrs {P:Program}{w:World}{K:Frag}{mg mb:Str->Option Value}{CX:CXT}{k:Nat}{fa a:Addr}{fd:FuncData}{x:Str}{sp:Sp}{s₁:Shared}{vs:List Value}{ns:List Int}{tabs:List (Addr×Str)}
  (KX:K.In s₁.heap) (hns:s₁.heap.Ns mainGlobals mg) (hb:s₁.heap.Ns builtinsNs mb) (hbb:∀x:Str,x≠"__name__"->mb x=bootBuiltins x) (hlim:s₁.heap.NoLimit) (hg:s₁.gens=#[]) (hbm:BM mg s₁.heap)
  (ha:s₁.heap.get? a=some {cls:=.type "list",data:=.seq vs.toArray}) (hi:IntsAre vs ns) (hl:ns.length<=sizeLine) (hr:Room k callerA)
  (hT:∀p∈tabs,s₁.heap.get? p.1=some (tabObj #[])/\K.lookup p.1=none/\∃c,codeHdIn K c p.1=true) (nd:(tabs.map (·.1)).Nodup)
  (F:∀base:Heap,K.In base->base.Ns mainGlobals mg->BM mg base->FnOk P w K mg base CX k fa fd [x] sp) (hbind:∀(s:Shared) (u:Value),BindsTo s fd ⟨[u],[]⟩ [(x,u)])
  (hsp:∀H:Hp,SqL K H a (ns.map V.int)->(∀p∈tabs,H p.1=some (ZjX p.2))->sp [.ref a] H (λv _=>v=.bl true) λ_ _ _=>False)
  (hCX:∀H e s',CX [] H s₁ (λ_ _ _=>False) e s'->False) :
  codeAny (model P w) callerA (.call (.ref fa) ⟨[.ref a],[]⟩) (λr s'=>r=.ok (.ret (.bool true))/\OldK s₁.heap s'.heap/\s'.os=s₁.os/\AllBare s'.gens) s₁:=by
 have rv:=Zf6 hi
 have lenV:=hi.length
 have tmem:∀b q,tabs.lookup b=some q->(b,q)∈tabs:=λb q e=>ZtD e
 have tlook:∀p∈tabs,tabs.lookup p.1=some p.2:=by
  clear hT hsp tmem
  induction tabs with
  |nil=>intro p hp;cases hp
  |cons t r ih =>
   intro p hp
   rw[YM,List.nodup_cons]at nd
   rcases Yi.mp hp with rfl|hp
   ·rw[List.lookup_cons,beq_self_eq_true]
   ·have:(p.1==t.1)=false:=beq_eq_false_iff_ne.mpr λz=>nd.1 (Yo.mpr ⟨p,hp,z⟩)
    rw[List.lookup_cons,this]
    exact ih nd.2 p hp
 have core:∀H:Hp,SqL K H a (ns.map V.int)->HOk P w H s₁.heap->(∀b,H b=none\/(b=a/\K.lookup a=none/\∃o xs,H b=some (.frz o (.lst xs)))\/∃q,(b,q)∈tabs/\H b=some (ZjX q))->(∀p∈tabs,H p.1=some (ZjX p.2)) ->
   codeAny (model P w) callerA (.call (.ref fa) ⟨[.ref a],[]⟩) (λr s'=>r=.ok (.ret (.bool true))/\OldK s₁.heap s'.heap/\s'.os=s₁.os/\AllBare s'.gens) s₁:=by
  intro H hS hok hA hTb
  have base_of:∀{b:Addr}{o:Obj},s₁.heap.get? b=some o->H b=none->(Zk1 s₁.heap H).get? b=some o:=λe n=>ZsE e n
  have noA:∀{b:Addr}{o:Obj},s₁.heap.get? b=some o->o.cls≠.type "list"->o.cls≠.none->H b=none:=λ{b o} e d1 d2=>by
   rcases hA b with z|⟨z,_⟩|⟨q,z,_⟩
   ·exact z
   ·subst z;rw[ha]at e;cases e;exact absurd rfl d1
   ·rw[(hT _ z).1]at e;cases e;exact absurd rfl d2
  have noD:∀{b:Addr}{o:Obj}{es:Array DictEntry}{ep:Nat},s₁.heap.get? b=some o->o.data=.dict es ep->H b=none:=λ{b o es ep} e d=>by
   rcases hA b with z|⟨z,_⟩|⟨q,z,_⟩
   ·exact z
   ·subst z;rw[ha]at e;cases e;cases d
   ·rw[(hT _ z).1]at e;cases e;cases d
  have nsK:∀{b:Addr}{m:Str->Option Value},s₁.heap.Ns b m->(Zk1 s₁.heap H).Ns b m:=λ{b m} ⟨o,es,ep,e,d,r⟩=>⟨o,es,ep,base_of e (noD e d),d,r⟩
  have hKb:K.In (Zk1 s₁.heap H):=λb o e=>base_of (KX b o e) (by
   rcases hA b with z|⟨z,zk,_⟩|⟨q,z,_⟩
   ·exact z
   ·subst z;rw[zk]at e;cases e
   ·rw[(hT _ z).2.1]at e;cases e)
  have hM:Mod K mg (Zk1 s₁.heap H):=⟨hKb,nsK hns,⟨mb,nsK hb,hbb⟩,let ⟨mc,h1,h2⟩:=hlim;⟨mc,nsK h1,h2⟩⟩
  have hB:BM mg (Zk1 s₁.heap H):=by
   obtain⟨bm,ob,b1,b2,b3,b4,b5,b6,b7⟩:=hbm
   exact⟨bm,ob,b1,b2,b3,base_of b4 (noA b4 (by rw[b5];decide) (by rw[b5];nofun)),b5,b6,b7⟩
  have e0:Env0 P w K mg (Zk1 s₁.heap H) callerA [] s₁ H:=⟨rfl,hM,λb o e=>Zvv e,Y4 (ZqM _ _),trivial,λb hb=>absurd (show b∈([]:List Addr)from hb) (by simp),hok,.of_eq hg⟩
  refine codeAny_mono ((F _ hKb (nsK hns) hB).run callerA [] s₁ H ⟨[.ref a],[]⟩ [.ref a] [.ref a] _ _ hr e0 (hbind s₁ (.ref a)) (.cons rfl .nil) (hsp H hS hTb)) λr s' h=>?_
  cases r with
  |error e=>exact(hCX H e s' h).elim
  |ok fl =>
   cases fl with
   |next=>exact False.elim h
   |brk=>exact False.elim h
   |cont=>exact False.elim h
   |ret u =>
    obtain⟨v,H',os,bare,un,hok',r',q⟩:=h
    have q':v=.bl true:=q
    subst q'
    obtain rfl:u=Value.bool true:=r'
    have old:∀b o,s₁.heap.get? b=some o->asItWas s₁.heap s'.heap b o/\∃o',s'.heap.get? b=some o':=λb o e=>by
     rcases hA b with z|⟨_,_,ob,xs,z⟩|⟨q,zm,z⟩
     ·have:=un.keep b o e z (by intro y;exact absurd (show b∈([]:List Addr)from y) (by simp)) (by simp)
      exact⟨.inl this,o,this⟩
     ·have z2:=un.frzs b ob _ z
      obtain⟨e1,_⟩:=hok b _ z
      obtain⟨e2,_⟩:=hok' b _ z2
      rw[e]at e1;cases e1
      exact⟨.inl e2,o,e2⟩
     ·obtain⟨more,z2⟩:=un.tbls b _ z
      obtain⟨ts,e2,_⟩:=hok' b _ z2
      obtain⟨t1,_,c,t3⟩:=hT _ zm
      have t1':s₁.heap.get? b=some (tabObj #[]):=t1
      rw[e]at t1';cases t1'
      refine⟨.inr (.inl ⟨((codeHd_of_K KX t3).tab t1).isCodeTable,rfl,#[],ts,rfl,by rw[Array.empty_append];exact e2⟩),_,e2⟩
    exact⟨rfl,⟨λb o e=>(old b o e).1,λb o e=>(old b o e).2⟩,os,bare⟩
 have neA:∀q,(a,q)∉tabs:=λq z=>by
  have:=(hT _ z).1
  rw[show((a,q):Addr×Str).1=a from rfl,ha]at this;cases this
 have tabok:∀(H:Hp) (b:Addr) (q:Str),(b,q)∈tabs->Zaa P w H s₁.heap b (ZjX q):=λH b q z=>⟨#[],(hT _ z).1,trivial,λpos cv e=>by cases e⟩
 cases hk:K.lookup a with
 |some o =>
  have e:=KX a o hk
  rw[ha]at e
  cases e
  refine core (λb=>(tabs.lookup b).map ZjX) (.inr ⟨_,vs.toArray,_,hk,rfl,rfl,rfl,by rw[Yu,lenV];exact hl,by simpa using rv⟩) (λb u z=>?_) (λb=>?_) λp hp=>by rw[tlook p hp];rfl
  ·dsimp only at z
   cases q:tabs.lookup b with
   |none=>rw[q]at z;cases z
   |some y=>rw[q]at z;cases z;exact tabok _ b y (tmem b y q)
  ·cases q:tabs.lookup b with
   |none=>exact .inl rfl
   |some y=>exact .inr (.inr ⟨y,tmem b y q,rfl⟩)
 |none =>
  refine core (λb=>if b=a then some (.frz {cls:=.type "list",data:=.seq vs.toArray} (.lst (ns.map V.int)))else (tabs.lookup b).map ZjX) (.inl (.inr ⟨{cls:=.type "list",data:=.seq vs.toArray},Yd rfl⟩)) (λb u z=>?_) (λb=>?_) λp hp=>?_
  ·by_cases hb:b=a
   ·have z':=(Yd hb).symm.trans z
    cases z'
    subst hb
    exact⟨ha,by rw[Yf];exact hl,vs,_,rv,ha⟩
   ·have z':=(Yc hb).symm.trans z
    cases q:tabs.lookup b with
    |none=>rw[q]at z';cases z'
    |some y=>rw[q]at z';cases z';exact tabok _ b y (tmem b y q)
  ·by_cases hb:b=a
   ·exact .inr (.inl ⟨hb,hk,_,_,Yd hb⟩)
   ·cases q:tabs.lookup b with
    |none=>exact .inl (by rw[Yc hb];rfl)
    |some y=>exact .inr (.inr ⟨y,tmem b y q,by rw[Yc hb];rfl⟩)
  ·have:p.1≠a:=λz=>neA p.2 (by rw[<-z];exact hp)
   rw[Yc this,tlook p hp];rfl
theorem ZtE {l:OpenLaw}{n k:Nat}{q:Program}{loose:List Str}{XP:(Str->Option Value)->Heap->Prop}{YP:World->Heap->Prop}{d:DefRec}{K:Params->Frag}{CX:World->CXT}{sp:World->(Str->Option Value)->Sp}{x:Str}{ts:List Addr}{tabs:Frag->(Str->Option Value)->List (Addr×Str)}
  (hn:l.most=some n) (hn2:n<=sizeLine) (hdf:d.params.defaults=[]) (hr:Room k callerA)
  (hY:∀(w:World) (h:Heap),YP w h->(K w.params).In h) (hY2:∀(w:World) (h:Heap),YP w h->∀P∈ts,h.get? P=some (tabObj #[]))
  (F:∀(w:World) (mg:Str->Option Value) (fa:Addr) (h:Heap),(K w.params).In h->h.Ns mainGlobals mg->mg d.name=some (.ref fa) ->
   ∃fd:FuncData,(∀(s:Shared) (u:Value),BindsTo s fd ⟨[u],[]⟩ [(x,u)])/\(∀p∈tabs (K w.params) mg,p.1∈ts/\(K w.params).lookup p.1=none/\∃c,codeHdIn (K w.params) c p.1=true)/\((tabs (K w.params) mg).map (·.1)).Nodup /\
    ∀base:Heap,(K w.params).In base->base.Ns mainGlobals mg->BM mg base->FnOk l.prog w (K w.params) mg base (CX w) k fa fd [x] (sp w mg))
  (hsp:∀(w:World) (mg:Str->Option Value) (H:Hp) (a:Addr) (ns:List Int),ns.length<=n->SqL (K w.params) H a (ns.map V.int)->(∀p∈tabs (K w.params) mg,H p.1=some (ZjX p.2))->sp w mg [.ref a] H (λv _=>v=.bl true) λ_ _ _=>False)
  (hCX:∀(w:World) (H:Hp) (s:Shared) (e:Value) (s':Shared),CX w [] H s (λ_ _ _=>False) e s'->False) :
  WalkO q loose XP YP l.row.toRowW d [] (λf vs=>PySem.call f vs):=by
 refine Att.Znr hn hdf λw s₀ s₁ mg mb fa o pm cd doc a vs ns G Y ho hd hcd hmg hobj hints hlen hg=>?_
 have KX:=hY w _ Y
 have TX:=hY2 w _ Y
 obtain⟨fd,hb,hT,nd,hF⟩:=F w mg fa _ KX G.T.g hmg
 have hbm:BM mg s₁.heap:=by
  obtain⟨bm,ob,b1,b2,b3,b4,b5,b6⟩:=G.T.bmain
  have bG:bm≠mainGlobals:=λz=>by
   obtain⟨o,es,ep,e,hd,_⟩:=G.T.g
   rw[z,e]at b3;cases b3;rw[hd]at b6;cases b6
  exact⟨bm,ob,b1,b2,bG,b3,b4,b5,b6⟩
 exact Zrs KX G.T.g G.T.b G.T.builtins G.T.nolimit hg hbm hobj hints (Ym hlen hn2) hr (λp hp=>⟨TX _ (hT p hp).1,(hT p hp).2⟩) nd hF hb (λH hS hTb=>hsp w mg H a ns hlen hS hTb) λH e s'=>hCX w H s₁ e s'
theorem Zj1 (a v d:Value):argsOk "max" ⟨[a],[(Str.ofString "key",v),(Str.ofString "default",d)]⟩:=by unfold argsOk;kernel_rfl
noncomputable def Zef (kz:Int->Int) (ns:List Int) (m i:Nat):Prop:=∀j,j<m->kz (nth ns j)<=kz (nth ns i)/\(j<i->kz (nth ns j)<kz (nth ns i))
theorem Zef.one (kz:Int->Int) (ns:List Int):Zef kz ns 1 0:=λj hj=>⟨by rw[show j=0 by omega];exact Int.le_refl _,λh=>absurd h (by omega)⟩
theorem Zef.take {kz:Int->Int}{ns:List Int}{m i:Nat} (h:Zef kz ns m i) (hi:i<m) (c:kz (nth ns m)>kz (nth ns i)):Zef kz ns (m+1) m:=λj hj=>by
 by_cases e:j=m
 ·subst e;exact⟨Int.le_refl _,λh=>absurd h (by omega)⟩
 ·have:=(h j (by omega)).1
  exact⟨by omega,λ_=>by omega⟩
theorem Zef.keep {kz:Int->Int}{ns:List Int}{m i:Nat} (h:Zef kz ns m i) (hi:i<m) (c:¬ kz (nth ns m)>kz (nth ns i)):Zef kz ns (m+1) i:=λj hj=>by
 by_cases e:j=m
 ·subst e;exact⟨by omega,λz=>absurd z (by omega)⟩
 ·exact h j (by omega)
section
variable {X:Cx}
theorem ZR {σ:St}{H':Hp}{s':Shared}{ps:List (Addr×Obj)}{x:Addr}{o:Obj} (J:Inv X ps σ H' s') (hm:(x,o)∈ps):s'.heap.get? x=some o/\H' x=none/\x≠X.env.locals/\x∉X.fs/\(∀v,o.data≠.cell v)/\∀y cc,X.env.cells.lookup y=some cc->cc≠x:=by
 obtain⟨q1,q2,q3,q4,q5⟩:=J.pin _ (Yk _ hm)
 refine⟨q1,q2,q3,q4,q5,λy cc hc z=>?_⟩
 obtain⟨v,oc,w1,w2⟩:=J.cell y cc hc
 rw[z,q1]at w1;cases w1;exact q5 _ w2
theorem Zrt {pins:List (Addr×Obj)}{σ:St}{H:Hp}{A:Around}{R:Result->Shared->Prop}{d:Value}{dk:Str}{l I S q:Addr}{ns:List Int}{kz:Int->Int}
  (hh:A.handled=none) (hlI:l≠I) (hSI:S≠I) (hI0:X.s₀.heap.objs.size<=I) (hS0:X.s₀.heap.objs.size<=S) (hp:∀p∈X.pn++pins,p.1≠I/\p.1≠S) (hl:H l=some (.lst (ns.map V.int)))
  (turn:∀(H':Hp) (s':Shared) (pins':List (Addr×Obj)) (n:Int) (u:Value),n∈ns->Inv X pins' σ H' s'->Ze H H'->RelV (.int n) u->wpAny (model X.prog X.w) A.in1 (call (.ref q) [u]) (EP X pins' σ λv H2=>v=.int (kz n)/\Ze H' H2) (λ_ _=>False) s')
  (hR0:ns=[]->∀H' s',Inv X pins σ H' s'->Ze H H'->R (.ok (.ret d)) s')
  (hR:∀(i:Nat) (v:Value) H' s',i<ns.length->RelV (.int (nth ns i)) v->Zef kz ns ns.length i->Inv X pins σ H' s'->Ze H H'->R (.ok (.ret v)) s') :
  ∀(r j:Nat) (H':Hp) (s':Shared) (buf:Array Value) (c:Nat) (oI:Obj),ns.length-j=r->j<=ns.length->Inv X ((S,seqObj "list" buf c)::(I,oI)::pins) σ H' s'->Ze H H'->s'.heap.IsListIter I l j ->
   ((j=0/\buf=#[])\/∃(i:Nat) (vb:Value) (tb:Tok),i<j/\buf=#[vb,.int (kz (nth ns i)) tb]/\RelV (.int (nth ns i)) vb/\Zef kz ns j i) ->
   codeAny (model X.prog X.w) A (.builtin "max.loop" ⟨[.ref I,.ref q,.ref S],[(dk,d)]⟩) R s':=by
 have hname:(toString "max"++toString ".loop":String)="max.loop":=by decide
 intro r
 induction r with
 |zero =>
  intro j H' s' buf c oI hr hj J sm hit hb
  have hjn:j=ns.length:=by omega
  obtain⟨oS,nS,lS,fS,_,cS⟩:=ZR J (Yr ..)
  obtain⟨oI',nI,lI,fI,dI,cI⟩:=ZR J (Yw _ (Yr ..))
  obtain⟨its,rv,pl,_⟩:=J.list (SqL.of (sm _ _ hl))
  have hlen:its.length=ns.length:=by have:=rv.length;rw[Yf]at this;omega
  have hsz:its.toArray.size=its.length:=Yu ..
  have W:=Walks.list (prog:=X.prog) (w:=X.w) (A:=A.in1) hh I l hlI its.toArray
  have J0:Inv X pins σ H' s':=J.ZO λp hp'=>J.pin p (Yk _ (Yw _ (Yw _ hp')))
  refine codeAny_builtin PySem.F.entry_max_loop ?_
  rw[Around.under_plainId PySem.F.plain_max_loop _]
  show wpAny _ A.in1 (seqItems? (.ref S) >>= _) _ _ _
  refine Ya (wpAny_seqItems oS rfl ?_)
  rcases hb with⟨hj0,rfl⟩|⟨i,vb,tb,hi,rfl,rvb,hB⟩
  ·refine Ya (wpAny_tryCatch (W.done _ _ _ ⟨by rw[hsz,hlen,<-hjn];exact hit,pl.isList⟩ λh' tk' hk'=>?_))
   refine Ya (wpAny_rule (Yb ?_))
   exact hR0 (List.length_eq_zero_iff.mp (by omega)) H' _ (J0.turned (it:=I) (λb o nb e=>hk' b o (by simpa using nb) e) nI lI (.inr hI0) cI λp hp'=>(hp p hp').1) sm
  ·refine Ya (wpAny_tryCatch (W.done _ _ _ ⟨by rw[hsz,hlen,<-hjn];exact hit,pl.isList⟩ λh' tk' hk'=>?_))
   have hS':=hk' S _ (by simpa using hSI) oS
   have J1:=J0.turned (t':=tk') (h':=h') (it:=I) (λb o nb e=>hk' b o (by simpa using nb) e) nI lI (.inr hI0) cI λp hp'=>(hp p hp').1
   refine Ya (wpAny_updateSeq hS' rfl ?_ (show 2<=sizeLine by decide) (Yt _))
   refine Ya (wpAny_letGo (Yb ?_))
   have J2:=J1.turned (t':=tk') (h':=h'.update S (Obj.mapSeq λ_=>(#[]:Array Value))) (it:=S) (λb o nb e=>(Heap.get?_update_ne _ _ _ _ nb).trans e) nS lS (.inr hS0) cS λp hp'=>(hp p hp').2
   exact hR i vb H' _ (by omega) rvb (hjn▸hB) J2 sm
 |succ r ih =>
  intro j H' s' buf c oI hr hj J sm hit hb
  have hlt:j<ns.length:=by omega
  obtain⟨oS,nS,lS,fS,_,cS⟩:=ZR J (Yr ..)
  obtain⟨oI',nI,lI,fI,dI,cI⟩:=ZR J (Yw _ (Yr ..))
  obtain⟨its,rv,pl,_⟩:=J.list (SqL.of (sm _ _ hl))
  have hlen:its.length=ns.length:=by have:=rv.length;rw[Yf]at this;omega
  have hsz:its.toArray.size=its.length:=Yu ..
  have W:=Walks.list (prog:=X.prog) (w:=X.w) (A:=A.in1) hh I l hlI its.toArray
  have J0:Inv X ((S,seqObj "list" buf c)::pins) σ H' s':=J.ZO λp hp'=>J.pin p (Yk _ (by
   rcases Yi.mp hp' with z|z
   ·exact Yi.mpr (.inl z)
   ·exact Yw _ (Yw _ z)))
  refine codeAny_builtin PySem.F.entry_max_loop ?_
  rw[Around.under_plainId PySem.F.plain_max_loop _]
  show wpAny _ A.in1 (seqItems? (.ref S) >>= _) _ _ _
  refine Ya (wpAny_seqItems oS rfl ?_)
  have step:∀(v:Value) (h':Heap) (tk':Nat),its.toArray[j]?=some v->h'.IsListIter I l (j+1)/\h'.IsList l its.toArray->(∀b o,b∉[I]->s'.heap.get? b=some o->h'.get? b=some o)->RelV (.int (nth ns j)) v/\∃oI2,h'.get? I=some oI2/\Inv X ((S,seqObj "list" buf c)::(I,oI2)::pins) σ H' {s' with heap:=h',toks:=tk'}:=λv h' tk' hP hst hk'=>by
   refine⟨?_,?_⟩
   ·obtain⟨v',e1,e2⟩:=rv.get (i:=j) (x:=V.int (nth ns j)) (by unfold nth;rw[YG,Yl,Yg hlt];rfl)
    have:its[j]?=some v:=by simpa using hP
    rw[e1]at this;cases this;exact e2
   ·obtain⟨oI2,g2,hcls,hdat⟩:=id hst.1
    have J1:=J0.turned (t':=tk') (h':=h') (it:=I) (λb o nb e=>hk' b o (by simpa using nb) e) nI lI (.inr hI0) cI λp hp'=>by
     rcases Yq.mp hp' with z|z
     ·exact(hp p (Yx _ z)).1
     ·rcases Yi.mp z with rfl|z
      ·exact hSI
      ·exact(hp p (Yk _ z)).1
    refine⟨oI2,g2,J1.ZO λp hp'=>?_⟩
    rcases Yi.mp hp' with rfl|hp'
    ·exact J1.pin _ (Yk _ (Yr ..))
    ·rcases Yi.mp hp' with rfl|hp'
     ·exact⟨g2,nI,lI,fI,λv z=>by rw[hdat]at z;cases z⟩
     ·exact J1.pin _ (Yk _ (Yw _ hp'))
  have write:∀{H2:Hp}{s2:Shared}{oI2:Obj} (v:Value) (t2:Tok) (b2:Array Value) (c0:Nat),Inv X ((S,seqObj "list" b2 c0)::(I,oI2)::pins) σ H2 s2->∃c2,Inv X ((S,seqObj "list" #[v,.int (kz (nth ns j)) t2] c2)::(I,oI2)::pins) σ H2 {s2 with heap:=s2.heap.update S (Obj.mapSeq λ_=>#[v,.int (kz (nth ns j)) t2])}:=λ{H2 s2 oI2} v t2 b2 c0 K=>by
   obtain⟨o2,n2,l2,f2,_,cc2⟩:=ZR K (Yr ..)
   obtain⟨c2,hc2⟩:∃c2,(s2.heap.update S (Obj.mapSeq λ_=>#[v,.int (kz (nth ns j)) t2])).get? S=some (seqObj "list" #[v,.int (kz (nth ns j)) t2] c2):=⟨_,get?_update_seq o2 λ_=>#[v,.int (kz (nth ns j)) t2]⟩
   have K0:Inv X ((I,oI2)::pins) σ H2 s2:=K.ZO λp hp'=>K.pin p (Yk _ (Yw _ hp'))
   have K1:=K0.turned (t':=s2.toks) (h':=s2.heap.update S (Obj.mapSeq λ_=>#[v,.int (kz (nth ns j)) t2])) (it:=S) (λb o nb e=>(Heap.get?_update_ne _ _ _ _ nb).trans e) n2 l2 (.inr hS0) cc2 λp hp'=>by
    rcases Yq.mp hp' with z|z
    ·exact(hp p (Yx _ z)).2
    ·rcases Yi.mp z with rfl|z
     ·exact hSI.symm
     ·exact(hp p (Yk _ z)).2
   refine⟨c2,K1.ZO λp hp'=>?_⟩
   rcases Yi.mp hp' with rfl|hp'
   ·exact⟨hc2,n2,l2,f2,λv z=>by cases z⟩
   ·exact K1.pin p (Yk _ hp')
  have mem:nth ns j∈ns:=by unfold nth;rw[Yl,Yg hlt];exact YD hlt
  rcases hb with⟨hj0,rfl⟩|⟨i,vb,tb,hi,rfl,rvb,hB⟩
  ·refine Ya (wpAny_tryCatch (W.item j _ _ _ (by rw[hsz,hlen];exact hlt) ⟨hit,pl.isList⟩ λv h' tk' hP hst' hk'=>?_))
   obtain⟨rj,oI2,gI,J2⟩:=step v h' tk' hP hst' hk'
   obtain⟨oI3,gI3,hcls,hdat⟩:=id hst'.1
   rw[gI]at gI3;cases gI3
   refine Ya (wpAny_tryCatch (wpAny_holding (YB (turn H' _ _ _ v mem J2 sm rj) (λx s'' he=>?_) λ_ _ hF=>hF.elim)))
   obtain⟨x2,H2,J3,r2,rfl,sm2⟩:=he
   obtain⟨t2,rfl⟩:=r2
   obtain⟨oS3,_⟩:=ZR J3 (Yr ..)
   obtain⟨oI4,_⟩:=ZR J3 (Yw _ (Yr ..))
   obtain⟨c2,J4⟩:=write v t2 _ _ J3
   refine Ya (wpAny_updateSeq oS3 rfl ?_ (Yt _) (show 2<=sizeLine+1 by decide))
   rw[hname]
   refine Yb ⟨plainId_quiet PySem.F.plain_max_loop _,ih (j+1) H2 _ _ c2 oI2 (by omega) hlt J4 (sm.trans sm2) ⟨oI2,(Heap.get?_update_ne _ _ _ _ hSI.symm).trans oI4,hcls,hdat⟩ (.inr ⟨j,v,t2,by omega,rfl,rj,?_⟩)⟩
   subst hj0;exact Zef.one kz ns
  ·refine Ya (wpAny_tryCatch (W.item j _ _ _ (by rw[hsz,hlen];exact hlt) ⟨hit,pl.isList⟩ λv h' tk' hP hst' hk'=>?_))
   obtain⟨rj,oI2,gI,J2⟩:=step v h' tk' hP hst' hk'
   obtain⟨oI3,gI3,hcls,hdat⟩:=id hst'.1
   rw[gI]at gI3;cases gI3
   refine Ya (wpAny_tryCatch (wpAny_holding (YB (turn H' _ _ _ v mem J2 sm rj) (λx s'' he=>?_) λ_ _ hF=>hF.elim)))
   obtain⟨x2,H2,J3,r2,rfl,sm2⟩:=he
   obtain⟨t2,rfl⟩:=r2
   obtain⟨oS3,_⟩:=ZR J3 (Yr ..)
   obtain⟨oI4,_⟩:=ZR J3 (Yw _ (Yr ..))
   refine Ya (wpAny_tryCatch (wpAny_holding (Ya (CmpOf.ints_gt (prog:=X.prog) (w:=X.w) (A:=A.in1) (P:=λi v=>∃t,v=.int (kz (nth ns i)) t) (λi=>kz (nth ns i)) (λi v h=>h) j i _ _ _ _ _ ⟨t2,rfl⟩ ⟨tb,rfl⟩ ?_))))
   refine Ya (wpAny_holding (wpAny_truthy_bool ?_))
   refine Ya (wpAny_letGo (Yb ?_))
   by_cases hb':kz (nth ns j)>kz (nth ns i)
   ·simp only[hb',decide_true,if_true]
    obtain⟨c2,J4⟩:=write v t2 _ _ J3
    refine Ya (wpAny_updateSeq oS3 rfl (Ya (wpAny_letGo ?_)) (show 2<=sizeLine by decide) (show 2<=sizeLine+1 by decide))
    rw[hname]
    exact Yb ⟨plainId_quiet PySem.F.plain_max_loop _,ih (j+1) H2 _ _ c2 oI2 (by omega) hlt J4 (sm.trans sm2) ⟨oI2,(Heap.get?_update_ne _ _ _ _ hSI.symm).trans oI4,hcls,hdat⟩ (.inr ⟨j,v,t2,by omega,rfl,rj,hB.take hi hb'⟩)⟩
   ·simp only[hb',decide_false,Bool.false_eq_true,if_false]
    refine Ya (wpAny_letGo ?_)
    rw[hname]
    exact Yb ⟨plainId_quiet PySem.F.plain_max_loop _,ih (j+1) H2 _ _ c oI2 (by omega) hlt J3 (sm.trans sm2) ⟨oI2,oI4,hcls,hdat⟩ (.inr ⟨i,vb,tb,by omega,rfl,rvb,hB.keep hi hb'⟩)⟩
theorem maxKD {pins:List (Addr×Obj)}{σ:St}{H:Hp}{s:Shared}{l q:Addr}{ns:List Int}{kz:Int->Int}{d:Value}{dv:V}{Q:VK} (I:Inv X pins σ H s) (hc:X.calm=true) (hl:H l=some (.lst (ns.map V.int))) (rd:RelV dv d)
  (turn:∀(H':Hp) (s':Shared) (pins':List (Addr×Obj)) (n:Int) (u:Value),n∈ns->Inv X pins' σ H' s'->Ze H H'->RelV (.int n) u->wpAny (model X.prog X.w) X.A.in1 (call (.ref q) [u]) (EP X pins' σ λv H2=>v=.int (kz n)/\Ze H' H2) (λ_ _=>False) s')
  (fin0:ns=[]->∀H',Ze H H'->Q dv H') (fin:∀i H',i<ns.length->Zef kz ns ns.length i->Ze H H'->Q (.int (nth ns i)) H') :
  wpAny (model X.prog X.w) X.A (call (.builtin "max") [.ref l] [(Str.ofString "key",.ref q),(Str.ofString "default",d)]) (EP X pins σ Q) X.xe s:=by
 have hname:(toString "max"++toString ".loop":String)="max.loop":=by decide
 obtain⟨its,rv,pl,_⟩:=I.list (SqL.of hl)
 obtain⟨ol,hol,_⟩:=id pl.isList
 have hll:l<s.heap.objs.size:=Yj hol
 refine kmk_tree PySem.F.kind_max PySem.F.plain_max PySem.F.entry_max (Zj1 _ _ _) ?_
 show wpAny _ X.A.in1 (Builtin.Builtins.bindParams "max" ["key","default"] 0 ⟨[],[(Str.ofString "key",.ref q),(Str.ofString "default",d)]⟩ >>= _) _ _ s
 refine Ya (wpAny_of_eq (show Builtin.Builtins.bindParams "max" ["key","default"] 0 ⟨[],[(Str.ofString "key",.ref q),(Str.ofString "default",d)]⟩=pure [some (.ref q),some d]from rfl) ?_)
 refine Ya (Yb ?_)
 refine Ya (wpAny_pyIter_list pl.isList ?_)
 refine Ya (wpAny_newList ?_ (Yt _))
 rw[hname]
 refine Yb ⟨plainId_quiet PySem.F.plain_max_loop _,?_⟩
 have hS:(s.heap.push {cls:=.type "list_iterator",data:=.fields #[.ref l,.int 0 0]}).objs.size=s.heap.objs.size+1:=size_push' ..
 have I2:=I.kept (h':=(s.heap.push {cls:=.type "list_iterator",data:=.fields #[.ref l,.int 0 0]}).push (seqObj "list" #[] 0)) (t':=s.toks) λb o e=>Yh _ (Yh _ e)
 have gI:((s.heap.push {cls:=.type "list_iterator",data:=.fields #[.ref l,.int 0 0]}).push (seqObj "list" #[] 0)).get? s.heap.objs.size=some {cls:=.type "list_iterator",data:=.fields #[.ref l,.int 0 0]}:=Yh _ (Ys _ rfl)
 have gS:((s.heap.push {cls:=.type "list_iterator",data:=.fields #[.ref l,.int 0 0]}).push (seqObj "list" #[] 0)).get? (s.heap.objs.size+1)=some (seqObj "list" #[] 0):=by rw[<-hS];exact Ys _ rfl
 rw[hS]
 refine Zrt (pins:=pins) (H:=H) (ns:=ns) (kz:=kz) (I.ok.hd hc) (Yn hll) (Nat.ne_of_gt (Nat.lt_succ_self _)) I.sz (Nat.le_succ_of_le I.sz) (λp hp=>?_) hl turn (λz H' s' J sm=>⟨dv,H',J,rd,fin0 z H' sm⟩) (λi v H' s' hi r hB J sm=>⟨.int (nth ns i),H',J,r,fin i H' hi hB sm⟩) _ 0 H _ #[] 0 {cls:=.type "list_iterator",data:=.fields #[.ref l,.int 0 0]} rfl (Yt _) (I2.ZO λp hp=>?_) (Ze.refl H) ⟨_,gI,rfl,rfl⟩ (.inl ⟨rfl,rfl⟩)
 ·have:=Yj (I.pin p hp).1
  exact⟨Yn this,Yn (YO this)⟩
 ·rcases Yi.mp hp with rfl|hp
  ·exact⟨gS,I.hok.fresh (YR _),Nat.ne_of_gt (YO I.lt),I.Zl5 (YR _),λv z=>by cases z⟩
  ·rcases Yi.mp hp with rfl|hp
   ·exact⟨gI,I.hok.fresh (Ye _),Nat.ne_of_gt I.lt,I.Zl5 (Ye _),λv z=>by cases z⟩
   ·exact I2.pin p (Yk _ hp)
noncomputable def Zpb (ta td:TA) (tb:TE) (js:List (Option Nat)) (env:Env) (P:Addr) (q:Str) (params:Arguments) (body:Expr) (scope:Scope):TE:=fun σ H Q=>ta σ H λvs H1=>td σ H1 λzs H2=>∃(p f:Addr) (dv:V) (ns:List Int) (kz:Int->Int),
 vs=[.ref p]/\zs=[.ref f,dv]/\H2 p=some (.lst (ns.map V.int))/\ZmE env P q params body scope H2 f /\
 (∀n H3,n∈ns->Ze H2 H3->tb ((Z6 js σ).set 0 (some (.int n))) H3 λv H4=>v=.int (kz n)/\Ze H3 H4) /\
 (ns=[]->∀H3,Ze H2 H3->Q dv H3)/\∀i H3,i<ns.length->Zef kz ns ns.length i->Ze H2 H3->Q (.int (nth ns i)) H3
theorem ZtF {Nc:List Str}{js:List (Option Nat)}{q pn:Str}{params:Arguments}{body:Expr}{scope:Scope}{P:Addr}{ta td:TA}{tb:TE}{m:Nat}{e:Expr}{e2:Expr}{p pos lpos kp1 kp2:Pos} (hc:X.calm=true) (hr:Room m X.A) (S:LamSc X Nc js params body scope pn)
  (hbody:∀cl L f c s H,PE (ZjY X X.A.in1 Nc q scope cl L f c s H) body tb) (hg:Gl X "max") (hm:X.mg "max"=none) (ha:PA X [e] ta) (hd:PK X [⟨some (Str.ofString "key"),.Lambda params body scope lpos,kp1⟩,⟨some (Str.ofString "default"),e2,kp2⟩] td)
  (hpl:(backTo pos (starEach [e] X.env)).any (·.1)=false:=by rfl) (hall:(backToKw pos (keywordEach [⟨some (Str.ofString "key"),.Lambda params body scope lpos,kp1⟩,⟨some (Str.ofString "default"),e2,kp2⟩] X.env)).all (·.1.isSome)=true:=by rfl)
  (hnn:(backToKw pos (keywordEach [⟨some (Str.ofString "key"),.Lambda params body scope lpos,kp1⟩,⟨some (Str.ofString "default"),e2,kp2⟩] X.env)).any (·.1.isNone)=false:=by rfl) (hks:(backToKw pos (keywordEach [⟨some (Str.ofString "key"),.Lambda params body scope lpos,kp1⟩,⟨some (Str.ofString "default"),e2,kp2⟩] X.env)).filterMap (·.1)=[Str.ofString "key",Str.ofString "default"]:=by rfl) (hb:backTo pos (starEach [e] X.env)=(false,eval e X.env)::backTo pos (starEach [] X.env):=by rfl) :
  PE X (.Call (.Name "max" p) [e] [⟨some (Str.ofString "key"),.Lambda params body scope lpos,kp1⟩,⟨some (Str.ofString "default"),e2,kp2⟩] pos) (Zpb ta td tb js X.env P q params body scope):=by
 intro pins s σ H Q I h
 refine wpAny_Call_Name_kw (Zbm I hg hm Zjz ?_)
 refine PyProof.Rows.callWith_kw (thn (ha pos pins s σ H _ I h) λus s1 ⟨vs,H1,I1,r1,q1⟩=>?_) hb hpl hall hnn
 refine thn (hd pos pins s1 σ H1 _ I1 q1) λws s2 ⟨zs,H2,I2,r2,pp,f,dv,ns,kz,e1,e2,hp,L,tn,fin0,fin⟩=>?_
 subst e1 e2
 obtain⟨u,rfl,ru⟩:=r1.one
 cases(show u=Value.ref pp from ru)
 rw[hks]
 obtain⟨v,v2,rfl,rv,rv2⟩:=r2.two
 cases(show v=Value.ref f from rv)
 exact maxKD (kz:=kz) I2 hc hp rv2 (λH' s' pins' n u hn J sm r=>ZjZ S hbody J J.ok.frames J.ok.hd hr.depth (L.same sm) r (tn n H' hn sm)) fin0 fin
end
end L2
namespace L2
open PySem PySem.Spec PyProof.Rows
section
variable {prog:Program}{w:World}{A:Around}{R:Result->Shared->Prop}{s:Shared}{elt tg iter tg1 iter1:Expr}{ifs ifs1:List Expr}{scope:Scope}{pos:Pos}{it acc:Value}{env:Env}
theorem ZmH (hs1:∀env x,foldedSetIterable iter1 env x=pure x) (I:Nat->Shared->Prop)
  (turn:∀n s,I n s->wpAny (model prog w) A (pyNext it) (λr s₁=>match r with
   |none=>R (.ok .next) s₁
   |some v=>wpAny (model prog w) A (letOwnedTupleGo tg it v) (λ_ s₁=>wpAny (model prog w) A (assign tg env v) (λ_ s₂ =>
     wpAny (model prog w) A (forIn ifs true λc r=>if r=true then do let ok <-isTrue c env (eval c env);pure (ForInStep.yield ok)else pure (ForInStep.yield r)) (λok s₃ =>
      if ok=true then wpAny (model prog w) A (eval iter1 env) (λx s₄=>wpAny (model prog w) A (pyIter x) (λit2 s₅ =>
       wpAny (model prog w) A (runOwn (.compStart (.ListComp elt [⟨tg,iter,ifs,0⟩,⟨tg1,iter1,ifs1,0⟩] scope pos) 1 it2 acc env) env) (λ_ s₆=>∃m,m<n/\I m s₆) (λ_ _=>False) s₅) (λ_ _=>False) s₄) (λ_ _=>False) s₃
      else ∃m,m<n/\I m s₃) (λ_ _=>False) s₂) (λ_ _=>False) s₁) (λ_ _=>False) s₁) (λ_ _=>False) s)
  (n:Nat) (h:I n s) :
  codeAny (model prog w) A (.compLoop (.ListComp elt [⟨tg,iter,ifs,0⟩,⟨tg1,iter1,ifs1,0⟩] scope pos) 0 it acc env) R s:=by
 refine codeAny_loop rfl I (λn s hI=>?_) n h
 show wpAny _ A ((compTurn (.ListComp elt [⟨tg,iter,ifs,0⟩,⟨tg1,iter1,ifs1,0⟩] scope pos) 0 it acc env).onRaise (λx=>do noteFrame x env;theTreesLotGoes x)) _ _ s
 refine wpAny_noted ?_
 refine Ya (m:=standAt iter.pos) (wpAny_standAt (Ya (m:=pyNext it) (YB (turn n s hI) (λr s₁ h₁=>?_) λ_ _ h'=>h'.elim)))
 cases r with
 |none=>exact Yb h₁
 |some v =>
  refine Ya (m:=letOwnedTupleGo tg it v) (YB h₁ (λ_ s₁' h₁=>?_) λ_ _ h'=>h'.elim)
  refine Ya (m:=assign tg env v) (YB h₁ (λ_ s₂ h₂=>Ya (YB h₂ (λok s₃ h₃=>?_) λ_ _ h'=>h'.elim)) λ_ _ h'=>h'.elim)
  cases ok with
  |false=>exact Yb ⟨rfl,h₃⟩
  |true =>
   refine Ya (m:=eval iter1 env) (YB h₃ (λx s₄ h₄=>?_) λ_ _ h'=>h'.elim)
   refine Ya (m:=standAt iter1.pos) (wpAny_standAt ?_)
   refine Ya (m:=foldedSetIterable iter1 env x) ?_
   rw[hs1]
   refine Yb ?_
   refine Ya (m:=holding [x] (pyIter x)) (wpAny_holding (YB h₄ (λit2 s₅ h₅=>?_) λ_ _ h'=>h'.elim))
   exact Ya (m:=runOwn _ env) (YB h₅ (λ_ s₆ h₆=>Yb ⟨rfl,h₆⟩) λ_ _ h'=>h'.elim)
theorem ZmI (I:Nat->Shared->Prop)
  (turn:∀n s,I n s->wpAny (model prog w) A (pyNext it) (λr s₁=>match r with
   |none=>R (.ok .next) s₁
   |some v=>wpAny (model prog w) A (letOwnedTupleGo tg1 it v) (λ_ s₁=>wpAny (model prog w) A (assign tg1 env v) (λ_ s₂ =>
     wpAny (model prog w) A (forIn ifs1 true λc r=>if r=true then do let ok <-isTrue c env (eval c env);pure (ForInStep.yield ok)else pure (ForInStep.yield r)) (λok s₃ =>
      if ok=true then wpAny (model prog w) A (eval elt env) (λx s₄ =>
       wpAny (model prog w) A (call (.builtin "list.append") [acc,x]) (λ_ s₅=>∃m,m<n/\I m s₅) (λ_ _=>False) s₄) (λ_ _=>False) s₃
      else ∃m,m<n/\I m s₃) (λ_ _=>False) s₂) (λ_ _=>False) s₁) (λ_ _=>False) s₁) (λ_ _=>False) s)
  (n:Nat) (h:I n s) :
  codeAny (model prog w) A (.compLoop (.ListComp elt [⟨tg,iter,ifs,0⟩,⟨tg1,iter1,ifs1,0⟩] scope pos) 1 it acc env) R s:=by
 refine codeAny_loop rfl I (λn s hI=>?_) n h
 show wpAny _ A ((compTurn (.ListComp elt [⟨tg,iter,ifs,0⟩,⟨tg1,iter1,ifs1,0⟩] scope pos) 1 it acc env).onRaise (λx=>do noteFrame x env;theTreesLotGoes x)) _ _ s
 refine wpAny_noted ?_
 refine Ya (m:=standAt iter1.pos) (wpAny_standAt (Ya (m:=pyNext it) (YB (turn n s hI) (λr s₁ h₁=>?_) λ_ _ h'=>h'.elim)))
 cases r with
 |none=>exact Yb h₁
 |some v =>
  refine Ya (m:=letOwnedTupleGo tg1 it v) (YB h₁ (λ_ s₁' h₁=>?_) λ_ _ h'=>h'.elim)
  refine Ya (m:=assign tg1 env v) (YB h₁ (λ_ s₂ h₂=>Ya (YB h₂ (λok s₃ h₃=>?_) λ_ _ h'=>h'.elim)) λ_ _ h'=>h'.elim)
  cases ok with
  |false=>exact Yb ⟨rfl,h₃⟩
  |true =>
   exact Ya (m:=(do let x <-eval elt env;let _ <-call (.builtin "list.append") [acc,x];pure ())) (Ya (YB h₃ (λx s₄ h₄=>Ya (YB h₄ (λ_ s₅ h₅=>Yb (Yb ⟨rfl,h₅⟩)) λ_ _ h'=>h'.elim)) λ_ _ h'=>h'.elim))
theorem Zj2
  (h0:codeAny (model prog w) A (.compLoop (.ListComp elt [⟨tg,iter,ifs,0⟩,⟨tg1,iter1,ifs1,0⟩] scope pos) 1 it acc env) R s)
  (h:wpAny (model prog w) A (pyIter it) (λit' s'=>codeAny (model prog w) A (.compLoop (.ListComp elt [⟨tg,iter,ifs,0⟩,⟨tg1,iter1,ifs1,0⟩] scope pos) 1 it' acc env) R s') (λ_ _=>False) s) :
  codeAny (model prog w) A (.compStart (.ListComp elt [⟨tg,iter,ifs,0⟩,⟨tg1,iter1,ifs1,0⟩] scope pos) 1 it acc env) R s:=by
 refine codeAny_of_tree ?_
 show wpAny _ _ ((compStart (.ListComp elt [⟨tg,iter,ifs,0⟩,⟨tg1,iter1,ifs1,0⟩] scope pos) 1 it acc env).onRaise (λx=>do noteFrame x env;standAt theWindowsPlace)) _ _ s
 refine wpAny_onRaise (YB (E:=λ_ _=>False) ?_ (λ_ _ q=>q) λ_ _ z=>z.elim)
 unfold compStart
 show wpAny _ _ (ask >>= _) _ _ s
 refine Ya (wpAny_askSetting (wpAny_ite ?_))
 split
 ·first
   |exact Ya (Yb (Yb (And.intro rfl h0)))
   |exact Yb (And.intro rfl h0)
 ·first
   |exact Ya (wpAny_rule (Ya (wpAny_standAt (Ya (YB h (λit' s' h'=>Yb (And.intro rfl h')) λ_ _ x=>x)))))
   |(refine Ya (wpAny_rule ?_);show wpAny _ _ (standAt iter1.pos >>= _) _ _ s;exact Ya (wpAny_standAt (Ya (YB h (λit' s' h'=>Yb (And.intro rfl h')) λ_ _ x=>x))))
end
noncomputable def ZmJ (J2:It) (g1:TG) (tt1:TT) (te:TE) (σ2:St) (acc:List V) (F:List V->Hp->Prop) (H4:Hp):Prop:=∃W2:Nat->Nat->List V->Hp->Prop,(∃m2,W2 0 m2 acc H4)/\∀j m2 acc2 H5,W2 j m2 acc2 H5 ->
 (J2.stop j H5/\F acc2 H5) \/
 (J2.go j H5/\acc2.length<sizeLine/\∀x2 H6,J2.yld j H5 x2 H6->g1 x2 σ2 H6 fun σ3 H7=>tt1 σ3 H7 λb2 H8=>if b2=true then te σ3 H8 λv H9=>∃m',m'<m2/\W2 (j+1) m' (acc2++[v]) H9 else ∃m',m'<m2/\W2 (j+1) m' acc2 H8)
noncomputable def ZmK (J:It) (g:TG) (tt:TT) (wi1:TI) (g1:TG) (tt1:TT) (te:TE) (σ0:St) (Q:VK) (H1:Hp):Prop:=∃W:Nat->Nat->List V->Hp->Prop,(∃m,W 0 m [] H1)/\∀i m acc H,W i m acc H ->
 (J.stop i H/\acc.length<=sizeLine/\∀p,H p=none->Q (.ref p) (upd H p (.lst acc))) \/
 (J.go i H/\acc.length<=sizeLine/\∀x H',J.yld i H x H'->g x σ0 H' fun σ2 H2=>tt σ2 H2 λb H3=>if b=true then wi1 σ2 H3 λJ2 H4=>ZmJ J2 g1 tt1 te σ2 acc (λacc2 H5=>∃m',m'<m/\W (i+1) m' acc2 H5) H4 else ∃m',m'<m/\W (i+1) m' acc H3)
noncomputable def Zpc (wi:TI) (g:TG) (tt:TT) (wi1:TI) (g1:TG) (tt1:TT) (te:TE) (js:List (Option Nat)):TE:=fun σ H Q=>wi σ H λJ H1=>ZmK J g tt wi1 g1 tt1 te (Z6 js σ) Q H1
theorem ZlK {wi wi1:TI}{g g1:TG}{tt tt1:TT}{te:TE}{js:List (Option Nat)}{σ:St}{H:Hp}{Q:VK}:Zpc wi g tt wi1 g1 tt1 te js σ H Q=wi σ H λJ H1=>ZmK J g tt wi1 g1 tt1 te (Z6 js σ) Q H1:=rfl
section
variable {X:Cx}
theorem Zru {pins:List (Addr×Obj)}{σ:St}{H:Hp}{s:Shared}{tg elt iter tg1 iter1:Expr}{ifs ifs1:List Expr}{scope:Scope}{pos:Pos}{wi wi1:TI}{g g1:TG}{tt tt1:TT}{te:TE}{Nc:List Str}{js:List (Option Nat)}{use:Option (Value->Sem Unit)}{Q:VK}{QQ:Value->Shared->Prop}
  (hc:X.calm=true) (hok:compOk X.env.scope scope=true) (htk:takesC X.N Nc scope js 0=true) (hi:PI X tg iter wi)
  (hg:∀cl C s2 H2 fp,PG (ZaO X Nc scope cl C s2 H2 fp) tg g) (ht:∀cl C s2 H2 fp,Zi9 (ZaO X Nc scope cl C s2 H2 fp) ifs tt) (hi1:∀cl C s2 H2 fp,PI (ZaO X Nc scope cl C s2 H2 fp) tg1 iter1 wi1) (hg1:∀cl C s2 H2 fp,PG (ZaO X Nc scope cl C s2 H2 fp) tg1 g1) (ht1:∀cl C s2 H2 fp,Zi9 (ZaO X Nc scope cl C s2 H2 fp) ifs1 tt1) (he:∀cl C s2 H2 fp,PE (ZaO X Nc scope cl C s2 H2 fp) elt te)
  (hs:∀x,foldedSetIterable iter X.env x=pure x) (hs1:∀env x,foldedSetIterable iter1 env x=pure x) {L L1:List Nat} (ho:Zgp g L) (ho1:Zgp g1 L1) (hL:(L.all λk=>js[k]?==some none)=true) (hL1:(L1.all λk=>js[k]?==some none&&!L.contains k)=true) (I:Inv X pins σ H s) (h:Zpc wi g tt wi1 g1 tt1 te js σ H Q)
  (fin:∀(D C:Addr) (H' H2:Hp) (s2 s':Shared) (xs:List V) (m:Str->Option Value),Inv X pins σ H2 s2->H' C=none->C=D+1->D=s2.heap.objs.size->s'.heap.Ns C m->(∀h',Heap.SameBut C s'.heap h'->Inv X pins σ (upd H' D (.lst xs)) {s' with heap:=h'})->Q (.ref D) (upd H' D (.lst xs)) ->
   compPost (model X.prog X.w) X.A X.xe use QQ (.ref D) C (.ok .next) s') :
  wpAny (model X.prog X.w) X.A (comprehension (.ListComp elt [⟨tg,iter,ifs,0⟩,⟨tg1,iter1,ifs1,0⟩] scope pos) scope X.env (firstIterPos [⟨tg,iter,ifs,0⟩,⟨tg1,iter1,ifs1,0⟩] pos) (newList []) false (eval iter X.env) use) QQ X.xe s:=by
 have hcells:∀y∈scope.names,y.2=.free->∃c,X.env.cells.lookup y.1=some c:=λy hy hf=>I.ok.has y.1 (Zds hok y hy hf)
 obtain⟨cl,hcl,up,hfr⟩:=Zjw hcells
 have hk:=Zdq hok
 have hcell:=Zdr hok
 refine wpAny_comprehension_free (use:=use) rfl hs hcl hk (Zmn hok) (thn (hi pins s σ H _ I h) λv s1 h1=>thn h1 λitv s2 h2=>?_)
 obtain⟨it,fp,tn,J,H2,e,I2,T,st2,f2,W,⟨m0,w0⟩,turn⟩:=h2
 subst e
 refine wpAny_newObj_type (wpAny_newFunctionEnv hcell (by intro y hy;simp at hy) (λh₁ hns₁ hsb₁=>?_) hk)
 dsimp only at hns₁ hsb₁⊢
 generalize hH2:s2.heap.push {cls:=.type "list",dict:=none,data:=.seq ([]:List Value).toArray}=HH at hns₁ hsb₁⊢
 have hC:HH.objs.size=s2.heap.objs.size+1:=by rw[<-hH2,Heap.size_push]
 have hfl:∀b∈fp,b<s2.heap.objs.size:=λb hb=>by
  obtain⟨o,ho,_⟩:=T.obj 0 _ st2 b hb
  exact Yj ho
 have hDC:s2.heap.objs.size≠HH.objs.size:=by rw[hC];exact Yn (Nat.lt_succ_self _)
 have old:∀b o,s2.heap.get? b=some o->h₁.get? b=some o:=λb o e=>hsb₁.extBut b o (by rw[hC];exact Yn (YO (Yj e))) (Yh _ (hH2▸Yh _ e))
 have hacc:h₁.get? s2.heap.objs.size=some {cls:=.type "list",dict:=none,data:=.seq ([]:List Value).toArray}:=hsb₁.extBut _ _ hDC (Yh _ (hH2▸Ys _ rfl))
 have I4:=ZoF (Nc:=Nc) (js:=js) (tk:=s2.toks+([]:List (Str×Value)).length) I2 hok htk up hfr f2 hfl rfl hC old hns₁ hacc (by intro v z;cases z)
 have st4:tn 0 h₁:=T.keep _ _ _ st2 λb _ o e=>old b o e
 generalize hXc:ZaO X Nc scope cl HH.objs.size s2 H2 fp=Xc at I4
 have hXA:Xc.A=X.A:=by rw[<-hXc];rfl
 have hXe:Xc.env=compEnvC scope cl HH.objs.size X.env:=by rw[<-hXc];rfl
 have hXp:Xc.prog=X.prog:=by rw[<-hXc];rfl
 have hXw:Xc.w=X.w:=by rw[<-hXc];rfl
 have hXx:Xc.xe=λ_ _=>False:=by rw[<-hXc];rfl
 have hXk:Xc.K=X.K:=by rw[<-hXc];rfl
 have hXcalm:Xc.calm=true:=by rw[<-hXc];exact hc
 have fpok:∀{pl:List (Addr×Obj)}{H':Hp},(∀p∈pl,s2.heap.objs.size<=p.1)->(∀b∈fp,H' b=none)->∀b∈fp,FpOk Xc pl H' b:=λ{pl H'} hpl hn b hb=>by
  have k1:b≠HH.objs.size:=Yn (by rw[hC];exact YO (hfl b hb))
  have k2:b∉frs X.stack:=λq=>by
   rcases Yi.mp (I2.Zfm b q)with z|z
   ·exact(f2 b hb).2.1 z
   ·exact(f2 b hb).2.2.1 z
  rw[<-hXc]
  refine⟨hn b hb,k1,k2,.inl hb,λx c e=>(f2 b hb).2.2.2.2.1 x c (up _ _ e),λp hp=>?_⟩
  have hp':p∈pl:=by simpa[ZaO]using hp
  exact Nat.ne_of_gt (YC (hfl b hb) (hpl p hp'))
 have gX:PG Xc tg g:=hXc▸hg cl HH.objs.size s2 H2 fp
 have tX:Zi9 Xc ifs tt:=hXc▸ht cl HH.objs.size s2 H2 fp
 have iX:PI Xc tg1 iter1 wi1:=hXc▸hi1 cl HH.objs.size s2 H2 fp
 have gX1:PG Xc tg1 g1:=hXc▸hg1 cl HH.objs.size s2 H2 fp
 have tX1:Zi9 Xc ifs1 tt1:=hXc▸ht1 cl HH.objs.size s2 H2 fp
 have eX:PE Xc elt te:=hXc▸he cl HH.objs.size s2 H2 fp
 have hs0:Xc.s₀=s2:=by rw[<-hXc];rfl
 have hh0:Xc.H₀=H2:=by rw[<-hXc];rfl
 have hfs:Xc.fs=frs X.stack:=by rw[<-hXc];rfl
 have hex:Xc.ex=fp:=by rw[<-hXc];rfl
 have loop:codeAny (model X.prog X.w) X.A (.compLoop (.ListComp elt [⟨tg,iter,ifs,0⟩,⟨tg1,iter1,ifs1,0⟩] scope pos) 0 (.ref it) (.ref s2.heap.objs.size) (compEnvC scope cl HH.objs.size X.env)) (compPost (model X.prog X.w) X.A X.xe use QQ (.ref s2.heap.objs.size) HH.objs.size)
   {s2 with heap:=h₁,toks:=s2.toks+([]:List (Str×Value)).length}:=by
  refine ZmH hs1 (λn s'=>∃i acc its nn H',Inv Xc [(s2.heap.objs.size,{cls:=.type "list",dict:=none,data:=.seq (its:List Value).toArray nn})] (Z6 js σ) H' s'/\Vals acc its/\acc.length<=sizeLine/\tn i s'.heap/\(∀b∈fp,H' b=none)/\W i n acc H') ?_ m0
   ⟨0,[],[],0,H2,I4,.nil,Yt _,st4,λb hb=>(f2 b hb).1,w0⟩
  rintro n s3 ⟨i,acc,its,nn,H3,I3,va,hlen,st3,fr3,w3⟩
  have pg:∀p∈([(s2.heap.objs.size,{cls:=.type "list",dict:=none,data:=.seq its.toArray nn})]:List (Addr×Obj)),s2.heap.objs.size<=p.1:=λp hp=>by
   simp only[Yi,List.not_mem_nil,or_false]at hp
   subst hp;exact Ye _
  rcases turn i n acc H3 w3 with⟨stop,hl,qn⟩|⟨go,hl,step⟩
  ·have q:=T.done Xc hXp hXw hXk hXcalm i _ s3 (Z6 js σ) H3 (λ_ _=>False) I3 (fpok pg fr3) st3 stop
   rw[hXA]at q
   refine thn q λr s4 ⟨hr,I5⟩=>?_
   subst hr
   have hpin:=I5.pin _ (Yk _ (.head _))
   obtain⟨m5,hn5,_⟩:=I5.loc
   rw[hXe]at hn5
   refine fin _ _ H3 H2 s2 s4 acc m5 I2 (by have:=I5.free;rw[hXe]at this;exact this) hC rfl hn5 (λh' hsb=>?_) (qn _ hpin.2.1)
   have same:∀b o,b≠HH.objs.size->s4.heap.get? b=some o->h'.get? b=some o:=λb o hb e=>hsb.extBut b o hb e
   have un:=I5.base
   rw[hfs,hex,hh0,hs0]at un
   have lt:∀b o,s2.heap.get? b=some o->b<s2.heap.objs.size:=λb o e=>Yj e
   have neC:∀b o,s2.heap.get? b=some o->b≠HH.objs.size:=λb o e=>Yn (by rw[hC];exact YO (lt b o e))
   have neD:∀b o,s2.heap.get? b=some o->b≠s2.heap.objs.size:=λb o e=>Yn (lt b o e)
   have trkC:∀b o,H3 b=some o->b≠HH.objs.size:=λb o e z=>by
    have:=I5.free;rw[hXe]at this;rw[z,show H3 HH.objs.size=none from this]at e;cases e
   refine I2.ZsF (s':={s4 with heap:=h'}) (ch:=fp) (I5.os.trans (by rw[hs0])) ⟨λb o e n hb hx=>same _ _ (neC b o e) (un.keep b o e n hb hx),λb o e n hb hx=>?_,λb o e n hx=>by rw[Zl (neD b o e)];exact un.free b o e n hx,λb o e hx=>?_,λb xs e=>?_,λb o u e=>?_,λb ps e=>?_⟩ (λa o e=>?_) I5.bare λb hb=>⟨(f2 b hb).2.2.2.1,(f2 b hb).2.1,(f2 b hb).2.2.2.2.1,(f2 b hb).2.2.2.2.2⟩
   ·obtain⟨sl,z⟩:=un.slot b o e n hb hx
    exact⟨sl,same _ _ (neC b o e) z⟩
   ·obtain⟨o',z⟩:=un.there b o e hx
    exact⟨o',same _ _ (neC b o e) z⟩
   ·rw[Zl (Yn (I2.hok.lt e))];exact un.tups b xs e
   ·rw[Zl (Yn (I2.hok.lt e))];exact un.frzs b o u e
   ·obtain⟨more,z⟩:=un.tbls b ps e
    exact⟨more,by rw[Zl (Yn (I2.hok.lt e))];exact z⟩
   ·by_cases ha:a=s2.heap.objs.size
    ·subst ha
     rw[Zc]at e;cases e
     exact⟨hl,its,nn,va,same _ _ hDC hpin.1⟩
    ·rw[Zl ha]at e
     have q:=I5.hok a o e
     rw[hXp,hXw]at q
     refine q.Zhb (λb u hb z=>same b u ?_ z) (λb z=>by rw[Zl];exact z;intro y;subst y;rw[hpin.2.1]at z;cases z) (λb xs z=>by rw[Zl];exact z;intro y;subst y;rw[hpin.2.1]at z;cases z) λb o u z=>by rw[Zl];exact z;intro y;subst y;rw[hpin.2.1]at z;cases z
     rcases hb with hb|hb
     ·subst hb;exact trkC _ _ e
     ·exact trkC _ _ hb
  ·have q:=T.item Xc hXp hXw hXk hXcalm i _ s3 (Z6 js σ) H3 (λ_ _=>False) I3 (fpok pg fr3) st3 go
   rw[hXA]at q
   refine thn q λr s4 ⟨u,hr,h4⟩=>?_
   subst hr
   refine thn h4 λ_ s5 ⟨x,H5,I5,r5,y5,st5,fr5⟩=>?_
   have I5':=I5.pinned (fpok pg fr5) (T.obj _ _ st5)
   have again:∀{σ7:St}{H7:Hp}{s7:Shared}{acc7:List V}{its7:List Value}{n7:Nat}{m:Nat},Inv Xc ([(s2.heap.objs.size,{cls:=.type "list",dict:=none,data:=.seq its7.toArray n7})]++Zay fp s5.heap) σ7 H7 s7->Vals acc7 its7->acc7.length<=sizeLine->W (i+1) m acc7 H7->σ7.length=(Z6 js σ).length->(∀(k:Nat) v,(Z6 js σ)[k]?=some (some v)->σ7[k]?=some (some v)) ->
     ∃i acc its nn H',Inv Xc [(s2.heap.objs.size,{cls:=.type "list",dict:=none,data:=.seq (its:List Value).toArray nn})] (Z6 js σ) H' s7/\Vals acc its/\acc.length<=sizeLine/\tn i s7.heap/\(∀b∈fp,H' b=none)/\W i m acc H':=λ{σ7 H7 s7 acc7 its7 n7 m} I7 v7 l7 w7 hl7 hw7=>by
    refine⟨i+1,acc7,its7,n7,H7,(I7.weak hl7.symm hw7).Zcr,v7,l7,T.keep _ _ _ st5 λb hb o e=>(I7.pin (b,o) (Yk _ (Yk _ (ZaR hb e)))).1,λb hb=>?_,w7⟩
    obtain⟨o,e,d⟩:=T.obj _ _ st5 b hb
    exact(I7.pin (b,o) (Yk _ (Yk _ (ZaR hb e)))).2.1
   have keep:∀{σ6:St},Zcx L (Z6 js σ) σ6->σ6.length=(Z6 js σ).length/\∀(k:Nat) v,(Z6 js σ)[k]?=some (some v)->σ6[k]?=some (some v):=λ{σ6} hk=>⟨hk.1,λk v e=>by
    rw[hk.2 k]
    ·exact e
    ·intro z
     have q:=List.all_eq_true.mp hL k z
     simp only[beq_iff_eq]at q
     unfold Z6 at e
     rw[YG,q]at e
     cases e⟩
   have q6:=gX _ s5 (Z6 js σ) H5 x u _ I5' r5 (ho _ _ _ _ _ (fun σ' H' kk z=>And.intro kk z) (step x H5 y5))
   rw[hXe,hXA,hXp,hXw,hXx]at q6
   refine thn q6 λ_ s6 ⟨σ6,H6,I6,k6,q6⟩=>?_
   obtain⟨kl,kv⟩:=keep k6
   have q7:=tX _ s6 σ6 H6 _ I6 q6
   rw[hXe,hXA,hXp,hXw,hXx]at q7
   refine thn q7 λb s7 ⟨H7,I7,q7⟩=>?_
   cases b with
   |false =>
    obtain⟨m',hm,w7⟩:=q7
    exact⟨m',hm,again I7 va hlen w7 kl kv⟩
   |true =>
    have q8:=iX _ s7 σ6 H7 _ I7 q7
    rw[hXe,hXA,hXp,hXw,hXx]at q8
    refine thn q8 λy s8 h8=>thn h8 λitv s9 h9=>?_
    obtain⟨it2,fp2,tn2,J2,H9,rfl,I9,T2,st9,f9,W2,⟨m2,w2⟩,turn2⟩:=h9
    rw[hXp,hXw]at T2
    have kv1:∀{σ':St},Zcx L1 σ6 σ'->σ'.length=σ6.length/\∀(k:Nat) v,σ6[k]?=some (some v)->σ'[k]?=some (some v):=λ{σ'} hk=>⟨hk.1,λk v e=>by
     rw[hk.2 k]
     ·exact e
     ·intro z
      have q:=List.all_eq_true.mp hL1 k z
      simp only[Bool.and_eq_true,beq_iff_eq,Bool.not_eq_true']at q
      have hk6:=k6.2 k (λzz=>by rw[List.contains_iff_mem.mpr zz]at q;cases q.2)
      rw[hk6]at e
      unfold Z6 at e
      rw[YG,q.1]at e
      cases e⟩
    have loop2:codeAny (model X.prog X.w) X.A (.compLoop (.ListComp elt [⟨tg,iter,ifs,0⟩,⟨tg1,iter1,ifs1,0⟩] scope pos) 1 (.ref it2) (.ref s2.heap.objs.size) (compEnvC scope cl HH.objs.size X.env)) (λr s'=>match r with
      |.ok _=>∃m,m<n/\∃i acc its nn H',Inv Xc [(s2.heap.objs.size,{cls:=.type "list",dict:=none,data:=.seq (its:List Value).toArray nn})] (Z6 js σ) H' s'/\Vals acc its/\acc.length<=sizeLine/\tn i s'.heap/\(∀b∈fp,H' b=none)/\W i m acc H'
      |.error _=>False) s9:=by
     refine ZmI (λn2 s'=>∃j acc2 its2 nn2 H',Inv Xc ([(s2.heap.objs.size,{cls:=.type "list",dict:=none,data:=.seq (its2:List Value).toArray nn2})]++Zay fp s5.heap) σ6 H' s'/\Vals acc2 its2/\acc2.length<=sizeLine/\tn2 j s'.heap/\(∀b∈fp2,H' b=none)/\W2 j n2 acc2 H') ?_ m2
      ⟨0,acc,its,nn,H9,I9,va,hlen,st9,λb hb=>(f9 b hb).1,w2⟩
     rintro n2 sA ⟨j,acc2,its2,nn2,HA,IA,va2,hlen2,stA,frA,wA⟩
     have fpok2:∀{its3:List Value}{nn3:Nat}{H':Hp},(∀b∈fp2,H' b=none)->∀b∈fp2,FpOk Xc ([(s2.heap.objs.size,{cls:=.type "list",dict:=none,data:=.seq its3.toArray nn3})]++Zay fp s5.heap) H' b:=λ{its3 nn3 H'} hn b hb=>by
      obtain⟨z1,z2,z3,z4,z5,z6⟩:=f9 b hb
      refine⟨hn b hb,z2,z3,z4,z5,λp hp=>?_⟩
      rcases Yq.mp hp with z|z
      ·exact z6 p (Yx _ z)
      ·rcases Yq.mp z with z|z
       ·simp only[Yi,List.not_mem_nil,or_false]at z
        subst z
        exact z6 (s2.heap.objs.size,{cls:=.type "list",dict:=none,data:=.seq its.toArray nn}) (Yk _ (Yx _ (.head _)))
       ·exact z6 p (Yk _ (Yk _ z))
     rcases turn2 j n2 acc2 HA wA with⟨stop,m',hm,wN⟩|⟨go,hl,step⟩
     ·have q:=T2.done Xc hXp hXw rfl hXcalm j _ sA σ6 HA (λ_ _=>False) IA (fpok2 frA) stA stop
      rw[hXA]at q
      refine thn q λr sB ⟨hr,IB⟩=>?_
      subst hr
      exact⟨m',hm,again IB va2 hlen2 wN kl kv⟩
     ·have q:=T2.item Xc hXp hXw rfl hXcalm j _ sA σ6 HA (λ_ _=>False) IA (fpok2 frA) stA go
      rw[hXA]at q
      refine thn q λr sB ⟨u2,hr,hB⟩=>?_
      subst hr
      refine thn hB λ_ sC ⟨x2,HC,IC,rC,yC,stC,frC⟩=>?_
      have IC':=IC.pinned (fpok2 frC) (T2.obj _ _ stC)
      have again2:∀{σ7:St}{H7:Hp}{s7:Shared}{acc7:List V}{its7:List Value}{n7:Nat}{m:Nat},Inv Xc (([(s2.heap.objs.size,{cls:=.type "list",dict:=none,data:=.seq its7.toArray n7})]++Zay fp s5.heap)++Zay fp2 sC.heap) σ7 H7 s7->Vals acc7 its7->acc7.length<=sizeLine->W2 (j+1) m acc7 H7->σ7.length=σ6.length->(∀(k:Nat) v,σ6[k]?=some (some v)->σ7[k]?=some (some v)) ->
        ∃j acc2 its2 nn2 H',Inv Xc ([(s2.heap.objs.size,{cls:=.type "list",dict:=none,data:=.seq (its2:List Value).toArray nn2})]++Zay fp s5.heap) σ6 H' s7/\Vals acc2 its2/\acc2.length<=sizeLine/\tn2 j s7.heap/\(∀b∈fp2,H' b=none)/\W2 j m acc2 H':=λ{σ7 H7 s7 acc7 its7 n7 m} I7 v7 l7 w7 hl7 hw7=>by
       refine⟨j+1,acc7,its7,n7,H7,(I7.weak hl7.symm hw7).Zcr,v7,l7,T2.keep _ _ _ stC λb hb o e=>(I7.pin (b,o) (Yk _ (Yk _ (ZaR hb e)))).1,λb hb=>?_,w7⟩
       obtain⟨o,e,d⟩:=T2.obj _ _ stC b hb
       exact(I7.pin (b,o) (Yk _ (Yk _ (ZaR hb e)))).2.1
      have qD:=gX1 _ sC σ6 HC x2 u2 _ IC' rC (ho1 _ _ _ _ _ (fun σ' H' kk z=>And.intro kk z) (step x2 HC yC))
      rw[hXe,hXA,hXp,hXw,hXx]at qD
      refine thn qD λ_ sD ⟨σD,HD,ID,kD,qD⟩=>?_
      obtain⟨kl1,kv1'⟩:=kv1 kD
      have qE:=tX1 _ sD σD HD _ ID qD
      rw[hXe,hXA,hXp,hXw,hXx]at qE
      refine thn qE λb sE ⟨HE,IE,qE⟩=>?_
      cases b with
      |false =>
       obtain⟨m',hm,wE⟩:=qE
       exact⟨m',hm,again2 IE va2 hlen2 wE kl1 kv1'⟩
      |true =>
       have qF:=eX _ sE σD HE _ IE qE
       rw[hXe,hXA,hXp,hXw,hXx]at qF
       refine thn qF λy sF ⟨vF,HF,IF,rF,m',hm,wF⟩=>?_
       have pinD:=IF.pin _ (Yk _ (Yx _ (Yx _ (.head _))))
       have hnf:∀p∈Zay fp s5.heap++Zay fp2 sC.heap,p.1≠s2.heap.objs.size:=λp hp=>by
        rcases Yq.mp hp with z|z
        ·obtain⟨z,_⟩:=Zf5 z
         exact Yn (hfl _ z)
        ·obtain⟨z,_⟩:=Zf5 z
         obtain⟨_,_,_,_,_,z6⟩:=f9 _ z
         exact λzz=>z6 _ (Yk _ (Yx _ (.head _))) zz.symm
       have va':=va2.length
       refine call_meets F.slot_list_append ⟨_,pinD.1,rfl⟩ F.entry_list_append (F.args_list_append_2 _ _) (PySem.list_append s2.heap.objs.size its2.toArray nn2 y (by rw[Yu];omega)) ⟨pinD.1,?_⟩
       have e9:=PySem.IsL.update pinD.1 (λa=>a.push y)
       have e9':its2.toArray.push y=(its2++[y]).toArray:=by simp
       dsimp only at e9
       rw[e9']at e9
       have I8':Inv Xc (Zay fp s5.heap++Zay fp2 sC.heap) σD HF sF:=IF.ZO λp hp=>IF.pin p (Yk _ (by rw[Y3];exact Yk _ hp))
       have hXpn:Xc.pn=[]:=by rw[<-hXc];rfl
       have I9:=I8'.turned (t':=sF.toks) (it:=s2.heap.objs.size) (h':=sF.heap.update s2.heap.objs.size (Obj.mapSeq λa=>a.push y)) (λb o hb e=>(Heap.get?_update_other sF.heap _ (Ne.symm hb)).trans e) pinD.2.1 pinD.2.2.1
        (.inr (by rw[hs0];exact Ye _)) (λx c e=>by
         rw[hXe]at e
         intro z
         obtain⟨v,q⟩:=I2.cell x c (up _ _ e)
         exact absurd q.lt (by rw[z];exact YI _)) (λp hp=>by rw[hXpn,List.nil_append]at hp;exact hnf p hp)
       have I10:=I9.ZO (pins':=([(s2.heap.objs.size,{cls:=.type "list",dict:=none,data:=.seq (its2++[y]).toArray _})]++Zay fp s5.heap)++Zay fp2 sC.heap) λp hp=>by
        rw[Y3]at hp
        rcases Yq.mp hp with z|z
        ·simp only[Yi,List.not_mem_nil,or_false]at z
         subst z
         exact⟨e9,pinD.2.1,pinD.2.2.1,pinD.2.2.2.1,by intro v z;cases z⟩
        ·exact I9.pin p (Yk _ z)
       exact⟨m',hm,again2 I10 (va2.append (.cons rF .nil)) (by rw[YN,List.length_singleton];omega) wF kl1 kv1'⟩
    refine wpAny_runOwn ?_
    refine codeAny_mono (Zj2 loop2 (T2.self _ 0 _ _ _ st9 loop2)) λr s' hr=>?_
    cases r with
    |ok f=>exact hr
    |error e=>exact hr.elim
 exact codeAny_compStart_list loop (T.self _ 0 _ _ _ st4 loop)
theorem ZnO {i:Nat}{x:Str}{pos' spos:Pos}{tg elt iter tg1 iter1:Expr}{ifs ifs1:List Expr}{scope:Scope}{pos:Pos}{wi wi1:TI}{g g1:TG}{tt tt1:TT}{te:TE} (Nc:List Str) (js:List (Option Nat)) {L L1:List Nat}
  (hN:X.N.Nodup) (hxi:X.N[i]?=some x) (hx:Loc X.env.scope x)
  (hc:X.calm=true) (hok:compOk X.env.scope scope=true) (htk:takesC X.N Nc scope js 0=true) (hi:PI X tg iter wi)
  (hg:∀cl C s2 H2 fp,PG (ZaO X Nc scope cl C s2 H2 fp) tg g) (ht:∀cl C s2 H2 fp,Zi9 (ZaO X Nc scope cl C s2 H2 fp) ifs tt) (hi1:∀cl C s2 H2 fp,PI (ZaO X Nc scope cl C s2 H2 fp) tg1 iter1 wi1) (hg1:∀cl C s2 H2 fp,PG (ZaO X Nc scope cl C s2 H2 fp) tg1 g1) (ht1:∀cl C s2 H2 fp,Zi9 (ZaO X Nc scope cl C s2 H2 fp) ifs1 tt1) (he:∀cl C s2 H2 fp,PE (ZaO X Nc scope cl C s2 H2 fp) elt te)
  (ho:Zgp g L) (ho1:Zgp g1 L1) (hL:(L.all λk=>js[k]?==some none)=true:=by rfl) (hL1:(L1.all λk=>js[k]?==some none&&!L.contains k)=true:=by rfl) (hs:∀x,foldedSetIterable iter X.env x=pure x:=by intro _;rfl) (hs1:∀env x,foldedSetIterable iter1 env x=pure x:=by intro _ _;rfl)
  (hsw:swapsWith (.ListComp elt [⟨tg,iter,ifs,0⟩,⟨tg1,iter1,ifs1,0⟩] scope pos) (some (.Name x pos')) spos.line X.env=pure true:=by rfl)
  (hf:X.fn x=true\/X.env.scope.names.lookup x=some .local:=by first|exact .inl rfl|exact .inr rfl|assumption) :
  PS X (.Assign [.Name x pos'] (.ListComp elt [⟨tg,iter,ifs,0⟩,⟨tg1,iter1,ifs1,0⟩] scope pos) spos) (ZqO (Zpc wi g tt wi1 g1 tt1 te js) (Zfe i)):=by
 intro pins s σ H D I h
 rw[exec_Assign_Name_used _ _ _ _ hsw]
 refine Ya (wpAny_standAt (Ya ?_))
 show wpAny _ _ (comprehension _ _ _ _ _ _ _ _ >>= _) _ _ _
 refine Ya (thn (Q:=λ_ s'=>∃σ' H',Inv X pins σ' H' s'/\D.nx σ' H') (Zru (Q:=λv H1=>Zfe i v σ H1 D.nx) (use:=some (assign (.Name x pos') X.env)) hc hok htk hi hg ht hi1 hg1 ht1 he hs hs1 ho ho1 hL hL1 I h ?_) λ_ s' ⟨σ',H',I',q⟩=>Yb (Yb ⟨σ',H',I',q⟩))
 intro D' C H' H2 s2 s' xs m I2 hHC e1 e2 hn hI q
 obtain⟨oC,es,ep,hoC,hdC,hrest⟩:=id hn
 have leC:s2.heap.objs.size<=C:=by rw[e1,e2];exact YR _
 have ltC:s2.heap.objs.size<C:=by rw[e1,e2];exact Nat.lt_succ_self _
 have neDC:C≠D':=by rw[e2];exact Nat.ne_of_gt ltC
 have fresh:s2.heap.get? C=none:=by
  cases e:s2.heap.get? C with
  |none=>rfl
  |some o=>exact absurd (YC (Yj e) leC) (YI _)
 have neL:C≠X.env.locals:=Nat.ne_of_gt (YC I2.lt leC)
 have nfs:C∉X.fs:=I2.Zl5 leC
 have ncl:∀x c,X.env.cells.lookup x=some c->c≠C:=λx c e z=>by
  obtain⟨v,q⟩:=I2.cell x c e
  exact absurd (YC q.lt leC) (by rw[z];exact YI _)
 have npn:∀p∈X.pn++pins,p.1≠C:=λp hp z=>by
  have:=(I2.pin p hp).1
  rw[z,fresh]at this;cases this
 have hH:(upd H' D' (HO.lst xs)) C=none:=by rw[Zl neDC];exact hHC
 have I0:=hI s'.heap Zhk
 have I1:Inv X (pins++[(C,oC)]) σ (upd H' D' (.lst xs)) s':=I0.ZO λp hp=>by
  rcases Yq.mp hp with z|z
  ·exact I0.pin p (Yk _ z)
  ·simp only[Yi,List.not_mem_nil,or_false]at z
   subst z
   exact⟨hoC,hH,neL,nfs,λv z=>by rw[hdC]at z;cases z⟩
 show wpAny _ _ _ _ _ _
 refine thn (Zm (X:=X) (i:=i) hN hxi hx hf (pins++[(C,oC)]) s' σ _ (.ref D') (.ref D') _ I1 rfl q) λ_ s3 ⟨σ3,H3,I3,q3⟩=>?_
 have pC:=I3.pin (C,oC) (Yk _ (Yk _ (.head _)))
 refine⟨m,⟨oC,es,ep,pC.1,hdC,hrest⟩,λh' hsb=>⟨σ3,H3,?_,q3⟩⟩
 exact I3.Zcr.turned (t':=s3.toks) (it:=C) (λb o hb e=>hsb.extBut b o hb e) pC.2.1 neL (.inr (Ym I2.sz leC)) ncl npn
end
end L2
namespace L2
open PySem PySem.Spec PyProof.Rows PySem.W
noncomputable def Zbx (H:Hp) (acc:List V) (rs:List (List Int)):Prop:=∃as:List Addr,acc=as.map V.ref/\as.length=rs.length/\∀i (h1:i<as.length) (h2:i<rs.length),H as[i]=some (.tup (rs[i].map V.int))
theorem Zbx.nil {H:Hp}:Zbx H [] []:=⟨[],rfl,rfl,λi h=>absurd h (by simp)⟩
theorem Zbx.same {H H':Hp}{acc:List V}{rs:List (List Int)} (h:Zbx H acc rs) (s:Ze H H'):Zbx H' acc rs:=by
 obtain⟨as,e,l,k⟩:=h
 exact⟨as,e,l,λi h1 h2=>s _ _ (k i h1 h2)⟩
theorem Zbx.len {H:Hp}{acc:List V}{rs:List (List Int)} (h:Zbx H acc rs):acc.length=rs.length:=by
 obtain⟨as,e,l,k⟩:=h
 rw[e,Yf,l]
theorem Zbx.snoc {H:Hp}{acc:List V}{rs:List (List Int)}{u:Addr}{r:List Int} (h:Zbx H acc rs) (hu:H u=some (.tup (r.map V.int))):Zbx H (acc++[V.ref u]) (rs++[r]):=by
 obtain⟨as,e,l,k⟩:=h
 refine⟨as++[u],by rw[e];simp,by simp[l],λi h1 h2=>?_⟩
 by_cases c:i<as.length
 ·rw[Y9 c,Y9 (by omega)];exact k i c (by omega)
 ·have:i=as.length:=by simp at h1;omega
  subst this
  rw[List.getElem_concat_length,Jb (by omega)]
  simpa[l]using hu
  rfl
theorem Zbx.at {H:Hp}{acc:List V}{rs:List (List Int)}{l:Addr} (h:Zbx H acc rs) (hl:H l=none):ZaS (upd H l (.lst acc)) l rs:=by
 obtain⟨as,e,ln,k⟩:=h
 refine⟨as,by rw[Zc,e],ln,λi h1 h2=>?_⟩
 rw[Zl (λz=>by have:=k i h1 h2;rw[z,hl]at this;cases this)]
 exact k i h1 h2
noncomputable def C2W (n:Nat) (U:Nat->List (List Int)) (H1:Hp) (i m:Nat) (acc:List V) (H:Hp):Prop:=m=n-i/\i<=n/\Zbx H acc (U i)/\Ze H1 H
theorem C2W.next {n:Nat}{U:Nat->List (List Int)}{H1 H:Hp}{i:Nat}{acc:List V} (hi:i<n) (t:Zbx H acc (U (i+1))) (s:Ze H1 H):∃m',m'<n-i/\C2W n U H1 (i+1) m' acc H:=⟨n-(i+1),by omega,rfl,hi,t,s⟩
theorem Zpd {J:It}{g:TG}{tt:TT}{wi1:TI}{g1:TG}{tt1:TT}{te:TE}{σ0:St}{Q:VK}{H1:Hp} (n:Nat) (U:Nat->List (List Int)) (h0:U 0=[]) (hl:∀i,i<=n->(U i).length<=100000)
  (hgo:∀i H,Ze H1 H->i<n->J.go i H) (hstop:∀H,Ze H1 H->J.stop n H)
  (hb:∀i x acc H H',i<n->Zbx H acc (U i)->Ze H1 H->J.yld i H x H'->g x σ0 H' fun σ2 H2=>tt σ2 H2 λb H3=>if b=true then wi1 σ2 H3 λJ2 H4=>ZmJ J2 g1 tt1 te σ2 acc (λacc2 H5=>∃m',m'<n-i/\C2W n U H1 (i+1) m' acc2 H5) H4 else ∃m',m'<n-i/\C2W n U H1 (i+1) m' acc H3)
  (hk:∀l acc H',Ze H1 H'->H' l=none->Zbx H' acc (U n)->Q (.ref l) (upd H' l (.lst acc))):ZmK J g tt wi1 g1 tt1 te σ0 Q H1:=by
 refine⟨C2W n U H1,⟨n,rfl,Yt _,by rw[h0];exact Zbx.nil,Ze.refl _⟩,?_⟩
 rintro i m acc H ⟨rfl,hi,t,s⟩
 have hlen:acc.length<=sizeLine:=Ym (t.len▸hl i hi) (by decide)
 by_cases h:i<n
 ·exact .inr ⟨hgo i H s h,hlen,λx H' y=>hb i x acc H H' h t s y⟩
 ·have e:i=n:=by omega
  subst e
  exact .inl ⟨hstop H s,hlen,λp hp=>hk p acc H s hp t⟩
theorem ZtG {J2:It}{g1:TG}{tt1:TT}{te:TE}{σ2:St}{acc:List V}{F:List V->Hp->Prop}{H4:Hp} (k:Nat) (V':Nat->List (List Int)) (h0:Zbx H4 acc (V' 0)) (hl:∀j,j<=k->(V' j).length<=100000)
  (hgo:∀j H,Ze H4 H->j<k->J2.go j H) (hstop:∀H,Ze H4 H->J2.stop k H)
  (hb:∀j x acc2 H5 H6,j<k->Zbx H5 acc2 (V' j)->Ze H4 H5->J2.yld j H5 x H6->g1 x σ2 H6 fun σ3 H7=>tt1 σ3 H7 λb2 H8=>if b2=true then te σ3 H8 λv H9=>∃m',m'<k-j/\C2W k V' H4 (j+1) m' (acc2++[v]) H9 else ∃m',m'<k-j/\C2W k V' H4 (j+1) m' acc2 H8)
  (hF:∀acc2 H5,Zbx H5 acc2 (V' k)->Ze H4 H5->F acc2 H5):ZmJ J2 g1 tt1 te σ2 acc F H4:=by
 refine⟨C2W k V' H4,⟨k,rfl,Yt _,h0,Ze.refl _⟩,?_⟩
 rintro j m acc2 H ⟨rfl,hj,t,s⟩
 have hlen:acc2.length<sizeLine:=Yv (t.len▸hl j hj) (by decide)
 by_cases h:j<k
 ·exact .inr ⟨hgo j H s h,hlen,λx H' y=>hb j x acc2 H H' h t s y⟩
 ·have e:j=k:=by omega
  subst e
  exact .inl ⟨hstop H s,hF acc2 H t s⟩
noncomputable def Zbr (ns:List V) (i:Nat):V:=ns.getD i .non
noncomputable def Zeg (kz:V->Int) (ns:List V) (m i:Nat):Prop:=∀j,j<m->kz (Zbr ns j)<=kz (Zbr ns i)/\(j<i->kz (Zbr ns j)<kz (Zbr ns i))
theorem Zeg.one (kz:V->Int) (ns:List V):Zeg kz ns 1 0:=λj hj=>⟨by rw[show j=0 by omega];exact Int.le_refl _,λh=>absurd h (by omega)⟩
theorem Zeg.take {kz:V->Int}{ns:List V}{m i:Nat} (h:Zeg kz ns m i) (hi:i<m) (c:kz (Zbr ns m)>kz (Zbr ns i)):Zeg kz ns (m+1) m:=λj hj=>by
 by_cases e:j=m
 ·subst e;exact⟨Int.le_refl _,λh=>absurd h (by omega)⟩
 ·have:=(h j (by omega)).1
  exact⟨by omega,λ_=>by omega⟩
theorem Zeg.keep {kz:V->Int}{ns:List V}{m i:Nat} (h:Zeg kz ns m i) (hi:i<m) (c:¬ kz (Zbr ns m)>kz (Zbr ns i)):Zeg kz ns (m+1) i:=λj hj=>by
 by_cases e:j=m
 ·subst e;exact⟨by omega,λz=>absurd z (by omega)⟩
 ·exact h j (by omega)
section
variable {X:Cx}
theorem Zrv {pins:List (Addr×Obj)}{σ:St}{H:Hp}{A:Around}{R:Result->Shared->Prop}{d:Value}{dk:Str}{l I S q:Addr}{ns:List V}{kz:V->Int}
  (hh:A.handled=none) (hlI:l≠I) (hSI:S≠I) (hI0:X.s₀.heap.objs.size<=I) (hS0:X.s₀.heap.objs.size<=S) (hp:∀p∈X.pn++pins,p.1≠I/\p.1≠S) (hl:H l=some (.lst ns))
  (turn:∀(H':Hp) (s':Shared) (pins':List (Addr×Obj)) (n:V) (u:Value),n∈ns->Inv X pins' σ H' s'->Ze H H'->RelV n u->wpAny (model X.prog X.w) A.in1 (call (.ref q) [u]) (EP X pins' σ λv H2=>v=.int (kz n)/\Ze H' H2) (λ_ _=>False) s')
  (hR0:ns=[]->∀H' s',Inv X pins σ H' s'->Ze H H'->R (.ok (.ret d)) s')
  (hR:∀(i:Nat) (v:Value) H' s',i<ns.length->RelV (Zbr ns i) v->Zeg kz ns ns.length i->Inv X pins σ H' s'->Ze H H'->R (.ok (.ret v)) s') :
  ∀(r j:Nat) (H':Hp) (s':Shared) (buf:Array Value) (c:Nat) (oI:Obj),ns.length-j=r->j<=ns.length->Inv X ((S,seqObj "list" buf c)::(I,oI)::pins) σ H' s'->Ze H H'->s'.heap.IsListIter I l j ->
   ((j=0/\buf=#[])\/∃(i:Nat) (vb:Value) (tb:Tok),i<j/\buf=#[vb,.int (kz (Zbr ns i)) tb]/\RelV (Zbr ns i) vb/\Zeg kz ns j i) ->
   codeAny (model X.prog X.w) A (.builtin "max.loop" ⟨[.ref I,.ref q,.ref S],[(dk,d)]⟩) R s':=by
 have hname:(toString "max"++toString ".loop":String)="max.loop":=by decide
 intro r
 induction r with
 |zero =>
  intro j H' s' buf c oI hr hj J sm hit hb
  have hjn:j=ns.length:=by omega
  obtain⟨oS,nS,lS,fS,_,cS⟩:=ZR J (Yr ..)
  obtain⟨oI',nI,lI,fI,dI,cI⟩:=ZR J (Yw _ (Yr ..))
  obtain⟨its,rv,pl,_⟩:=J.list (SqL.of (sm _ _ hl))
  have hlen:its.length=ns.length:=by have:=rv.length;omega
  have hsz:its.toArray.size=its.length:=Yu ..
  have W:=Walks.list (prog:=X.prog) (w:=X.w) (A:=A.in1) hh I l hlI its.toArray
  have J0:Inv X pins σ H' s':=J.ZO λp hp'=>J.pin p (Yk _ (Yw _ (Yw _ hp')))
  refine codeAny_builtin PySem.F.entry_max_loop ?_
  rw[Around.under_plainId PySem.F.plain_max_loop _]
  show wpAny _ A.in1 (seqItems? (.ref S) >>= _) _ _ _
  refine Ya (wpAny_seqItems oS rfl ?_)
  rcases hb with⟨hj0,rfl⟩|⟨i,vb,tb,hi,rfl,rvb,hB⟩
  ·refine Ya (wpAny_tryCatch (W.done _ _ _ ⟨by rw[hsz,hlen,<-hjn];exact hit,pl.isList⟩ λh' tk' hk'=>?_))
   refine Ya (wpAny_rule (Yb ?_))
   exact hR0 (List.length_eq_zero_iff.mp (by omega)) H' _ (J0.turned (it:=I) (λb o nb e=>hk' b o (by simpa using nb) e) nI lI (.inr hI0) cI λp hp'=>(hp p hp').1) sm
  ·refine Ya (wpAny_tryCatch (W.done _ _ _ ⟨by rw[hsz,hlen,<-hjn];exact hit,pl.isList⟩ λh' tk' hk'=>?_))
   have hS':=hk' S _ (by simpa using hSI) oS
   have J1:=J0.turned (t':=tk') (h':=h') (it:=I) (λb o nb e=>hk' b o (by simpa using nb) e) nI lI (.inr hI0) cI λp hp'=>(hp p hp').1
   refine Ya (wpAny_updateSeq hS' rfl ?_ (show 2<=sizeLine by decide) (Yt _))
   refine Ya (wpAny_letGo (Yb ?_))
   have J2:=J1.turned (t':=tk') (h':=h'.update S (Obj.mapSeq λ_=>(#[]:Array Value))) (it:=S) (λb o nb e=>(Heap.get?_update_ne _ _ _ _ nb).trans e) nS lS (.inr hS0) cS λp hp'=>(hp p hp').2
   exact hR i vb H' _ (by omega) rvb (hjn▸hB) J2 sm
 |succ r ih =>
  intro j H' s' buf c oI hr hj J sm hit hb
  have hlt:j<ns.length:=by omega
  obtain⟨oS,nS,lS,fS,_,cS⟩:=ZR J (Yr ..)
  obtain⟨oI',nI,lI,fI,dI,cI⟩:=ZR J (Yw _ (Yr ..))
  obtain⟨its,rv,pl,_⟩:=J.list (SqL.of (sm _ _ hl))
  have hlen:its.length=ns.length:=by have:=rv.length;omega
  have hsz:its.toArray.size=its.length:=Yu ..
  have W:=Walks.list (prog:=X.prog) (w:=X.w) (A:=A.in1) hh I l hlI its.toArray
  have J0:Inv X ((S,seqObj "list" buf c)::pins) σ H' s':=J.ZO λp hp'=>J.pin p (Yk _ (by
   rcases Yi.mp hp' with z|z
   ·exact Yi.mpr (.inl z)
   ·exact Yw _ (Yw _ z)))
  refine codeAny_builtin PySem.F.entry_max_loop ?_
  rw[Around.under_plainId PySem.F.plain_max_loop _]
  show wpAny _ A.in1 (seqItems? (.ref S) >>= _) _ _ _
  refine Ya (wpAny_seqItems oS rfl ?_)
  have step:∀(v:Value) (h':Heap) (tk':Nat),its.toArray[j]?=some v->h'.IsListIter I l (j+1)/\h'.IsList l its.toArray->(∀b o,b∉[I]->s'.heap.get? b=some o->h'.get? b=some o)->RelV (Zbr ns j) v/\∃oI2,h'.get? I=some oI2/\Inv X ((S,seqObj "list" buf c)::(I,oI2)::pins) σ H' {s' with heap:=h',toks:=tk'}:=λv h' tk' hP hst hk'=>by
   refine⟨?_,?_⟩
   ·obtain⟨v',e1,e2⟩:=rv.get (i:=j) (x:=Zbr ns j) (by unfold Zbr;rw[Yl,Yg hlt];rfl)
    have:its[j]?=some v:=by simpa using hP
    rw[e1]at this;cases this;exact e2
   ·obtain⟨oI2,g2,hcls,hdat⟩:=id hst.1
    have J1:=J0.turned (t':=tk') (h':=h') (it:=I) (λb o nb e=>hk' b o (by simpa using nb) e) nI lI (.inr hI0) cI λp hp'=>by
     rcases Yq.mp hp' with z|z
     ·exact(hp p (Yx _ z)).1
     ·rcases Yi.mp z with rfl|z
      ·exact hSI
      ·exact(hp p (Yk _ z)).1
    refine⟨oI2,g2,J1.ZO λp hp'=>?_⟩
    rcases Yi.mp hp' with rfl|hp'
    ·exact J1.pin _ (Yk _ (Yr ..))
    ·rcases Yi.mp hp' with rfl|hp'
     ·exact⟨g2,nI,lI,fI,λv z=>by rw[hdat]at z;cases z⟩
     ·exact J1.pin _ (Yk _ (Yw _ hp'))
  have write:∀{H2:Hp}{s2:Shared}{oI2:Obj} (v:Value) (t2:Tok) (b2:Array Value) (c0:Nat),Inv X ((S,seqObj "list" b2 c0)::(I,oI2)::pins) σ H2 s2->∃c2,Inv X ((S,seqObj "list" #[v,.int (kz (Zbr ns j)) t2] c2)::(I,oI2)::pins) σ H2 {s2 with heap:=s2.heap.update S (Obj.mapSeq λ_=>#[v,.int (kz (Zbr ns j)) t2])}:=λ{H2 s2 oI2} v t2 b2 c0 K=>by
   obtain⟨o2,n2,l2,f2,_,cc2⟩:=ZR K (Yr ..)
   obtain⟨c2,hc2⟩:∃c2,(s2.heap.update S (Obj.mapSeq λ_=>#[v,.int (kz (Zbr ns j)) t2])).get? S=some (seqObj "list" #[v,.int (kz (Zbr ns j)) t2] c2):=⟨_,get?_update_seq o2 λ_=>#[v,.int (kz (Zbr ns j)) t2]⟩
   have K0:Inv X ((I,oI2)::pins) σ H2 s2:=K.ZO λp hp'=>K.pin p (Yk _ (Yw _ hp'))
   have K1:=K0.turned (t':=s2.toks) (h':=s2.heap.update S (Obj.mapSeq λ_=>#[v,.int (kz (Zbr ns j)) t2])) (it:=S) (λb o nb e=>(Heap.get?_update_ne _ _ _ _ nb).trans e) n2 l2 (.inr hS0) cc2 λp hp'=>by
    rcases Yq.mp hp' with z|z
    ·exact(hp p (Yx _ z)).2
    ·rcases Yi.mp z with rfl|z
     ·exact hSI.symm
     ·exact(hp p (Yk _ z)).2
   refine⟨c2,K1.ZO λp hp'=>?_⟩
   rcases Yi.mp hp' with rfl|hp'
   ·exact⟨hc2,n2,l2,f2,λv z=>by cases z⟩
   ·exact K1.pin p (Yk _ hp')
  have mem:Zbr ns j∈ns:=by unfold Zbr;rw[Yl,Yg hlt];exact YD hlt
  rcases hb with⟨hj0,rfl⟩|⟨i,vb,tb,hi,rfl,rvb,hB⟩
  ·refine Ya (wpAny_tryCatch (W.item j _ _ _ (by rw[hsz,hlen];exact hlt) ⟨hit,pl.isList⟩ λv h' tk' hP hst' hk'=>?_))
   obtain⟨rj,oI2,gI,J2⟩:=step v h' tk' hP hst' hk'
   obtain⟨oI3,gI3,hcls,hdat⟩:=id hst'.1
   rw[gI]at gI3;cases gI3
   refine Ya (wpAny_tryCatch (wpAny_holding (YB (turn H' _ _ _ v mem J2 sm rj) (λx s'' he=>?_) λ_ _ hF=>hF.elim)))
   obtain⟨x2,H2,J3,r2,rfl,sm2⟩:=he
   obtain⟨t2,rfl⟩:=r2
   obtain⟨oS3,_⟩:=ZR J3 (Yr ..)
   obtain⟨oI4,_⟩:=ZR J3 (Yw _ (Yr ..))
   obtain⟨c2,J4⟩:=write v t2 _ _ J3
   refine Ya (wpAny_updateSeq oS3 rfl ?_ (Yt _) (show 2<=sizeLine+1 by decide))
   rw[hname]
   refine Yb ⟨plainId_quiet PySem.F.plain_max_loop _,ih (j+1) H2 _ _ c2 oI2 (by omega) hlt J4 (sm.trans sm2) ⟨oI2,(Heap.get?_update_ne _ _ _ _ hSI.symm).trans oI4,hcls,hdat⟩ (.inr ⟨j,v,t2,by omega,rfl,rj,?_⟩)⟩
   subst hj0;exact Zeg.one kz ns
  ·refine Ya (wpAny_tryCatch (W.item j _ _ _ (by rw[hsz,hlen];exact hlt) ⟨hit,pl.isList⟩ λv h' tk' hP hst' hk'=>?_))
   obtain⟨rj,oI2,gI,J2⟩:=step v h' tk' hP hst' hk'
   obtain⟨oI3,gI3,hcls,hdat⟩:=id hst'.1
   rw[gI]at gI3;cases gI3
   refine Ya (wpAny_tryCatch (wpAny_holding (YB (turn H' _ _ _ v mem J2 sm rj) (λx s'' he=>?_) λ_ _ hF=>hF.elim)))
   obtain⟨x2,H2,J3,r2,rfl,sm2⟩:=he
   obtain⟨t2,rfl⟩:=r2
   obtain⟨oS3,_⟩:=ZR J3 (Yr ..)
   obtain⟨oI4,_⟩:=ZR J3 (Yw _ (Yr ..))
   refine Ya (wpAny_tryCatch (wpAny_holding (Ya (CmpOf.ints_gt (prog:=X.prog) (w:=X.w) (A:=A.in1) (P:=λi v=>∃t,v=.int (kz (Zbr ns i)) t) (λi=>kz (Zbr ns i)) (λi v h=>h) j i _ _ _ _ _ ⟨t2,rfl⟩ ⟨tb,rfl⟩ ?_))))
   refine Ya (wpAny_holding (wpAny_truthy_bool ?_))
   refine Ya (wpAny_letGo (Yb ?_))
   by_cases hb':kz (Zbr ns j)>kz (Zbr ns i)
   ·simp only[hb',decide_true,if_true]
    obtain⟨c2,J4⟩:=write v t2 _ _ J3
    refine Ya (wpAny_updateSeq oS3 rfl (Ya (wpAny_letGo ?_)) (show 2<=sizeLine by decide) (show 2<=sizeLine+1 by decide))
    rw[hname]
    exact Yb ⟨plainId_quiet PySem.F.plain_max_loop _,ih (j+1) H2 _ _ c2 oI2 (by omega) hlt J4 (sm.trans sm2) ⟨oI2,(Heap.get?_update_ne _ _ _ _ hSI.symm).trans oI4,hcls,hdat⟩ (.inr ⟨j,v,t2,by omega,rfl,rj,hB.take hi hb'⟩)⟩
   ·simp only[hb',decide_false,Bool.false_eq_true,if_false]
    refine Ya (wpAny_letGo ?_)
    rw[hname]
    exact Yb ⟨plainId_quiet PySem.F.plain_max_loop _,ih (j+1) H2 _ _ c oI2 (by omega) hlt J3 (sm.trans sm2) ⟨oI2,oI4,hcls,hdat⟩ (.inr ⟨i,vb,tb,by omega,rfl,rvb,hB.keep hi hb'⟩)⟩
theorem maxVD {pins:List (Addr×Obj)}{σ:St}{H:Hp}{s:Shared}{l q:Addr}{ns:List V}{kz:V->Int}{d:Value}{dv:V}{Q:VK} (I:Inv X pins σ H s) (hc:X.calm=true) (hl:H l=some (.lst ns)) (rd:RelV dv d)
  (turn:∀(H':Hp) (s':Shared) (pins':List (Addr×Obj)) (n:V) (u:Value),n∈ns->Inv X pins' σ H' s'->Ze H H'->RelV n u->wpAny (model X.prog X.w) X.A.in1 (call (.ref q) [u]) (EP X pins' σ λv H2=>v=.int (kz n)/\Ze H' H2) (λ_ _=>False) s')
  (fin0:ns=[]->∀H',Ze H H'->Q dv H') (fin:∀i H',i<ns.length->Zeg kz ns ns.length i->Ze H H'->Q (Zbr ns i) H') :
  wpAny (model X.prog X.w) X.A (call (.builtin "max") [.ref l] [(Str.ofString "key",.ref q),(Str.ofString "default",d)]) (EP X pins σ Q) X.xe s:=by
 have hname:(toString "max"++toString ".loop":String)="max.loop":=by decide
 obtain⟨its,rv,pl,_⟩:=I.list (SqL.of hl)
 obtain⟨ol,hol,_⟩:=id pl.isList
 have hll:l<s.heap.objs.size:=Yj hol
 refine kmk_tree PySem.F.kind_max PySem.F.plain_max PySem.F.entry_max (Zj1 _ _ _) ?_
 show wpAny _ X.A.in1 (Builtin.Builtins.bindParams "max" ["key","default"] 0 ⟨[],[(Str.ofString "key",.ref q),(Str.ofString "default",d)]⟩ >>= _) _ _ s
 refine Ya (wpAny_of_eq (show Builtin.Builtins.bindParams "max" ["key","default"] 0 ⟨[],[(Str.ofString "key",.ref q),(Str.ofString "default",d)]⟩=pure [some (.ref q),some d]from rfl) ?_)
 refine Ya (Yb ?_)
 refine Ya (wpAny_pyIter_list pl.isList ?_)
 refine Ya (wpAny_newList ?_ (Yt _))
 rw[hname]
 refine Yb ⟨plainId_quiet PySem.F.plain_max_loop _,?_⟩
 have hS:(s.heap.push {cls:=.type "list_iterator",data:=.fields #[.ref l,.int 0 0]}).objs.size=s.heap.objs.size+1:=size_push' ..
 have I2:=I.kept (h':=(s.heap.push {cls:=.type "list_iterator",data:=.fields #[.ref l,.int 0 0]}).push (seqObj "list" #[] 0)) (t':=s.toks) λb o e=>Yh _ (Yh _ e)
 have gI:((s.heap.push {cls:=.type "list_iterator",data:=.fields #[.ref l,.int 0 0]}).push (seqObj "list" #[] 0)).get? s.heap.objs.size=some {cls:=.type "list_iterator",data:=.fields #[.ref l,.int 0 0]}:=Yh _ (Ys _ rfl)
 have gS:((s.heap.push {cls:=.type "list_iterator",data:=.fields #[.ref l,.int 0 0]}).push (seqObj "list" #[] 0)).get? (s.heap.objs.size+1)=some (seqObj "list" #[] 0):=by rw[<-hS];exact Ys _ rfl
 rw[hS]
 refine Zrv (pins:=pins) (H:=H) (ns:=ns) (kz:=kz) (I.ok.hd hc) (Yn hll) (Nat.ne_of_gt (Nat.lt_succ_self _)) I.sz (Nat.le_succ_of_le I.sz) (λp hp=>?_) hl turn (λz H' s' J sm=>⟨dv,H',J,rd,fin0 z H' sm⟩) (λi v H' s' hi r hB J sm=>⟨Zbr ns i,H',J,r,fin i H' hi hB sm⟩) _ 0 H _ #[] 0 {cls:=.type "list_iterator",data:=.fields #[.ref l,.int 0 0]} rfl (Yt _) (I2.ZO λp hp=>?_) (Ze.refl H) ⟨_,gI,rfl,rfl⟩ (.inl ⟨rfl,rfl⟩)
 ·have:=Yj (I.pin p hp).1
  exact⟨Yn this,Yn (YO this)⟩
 ·rcases Yi.mp hp with rfl|hp
  ·exact⟨gS,I.hok.fresh (YR _),Nat.ne_of_gt (YO I.lt),I.Zl5 (YR _),λv z=>by cases z⟩
  ·rcases Yi.mp hp with rfl|hp
   ·exact⟨gI,I.hok.fresh (Ye _),Nat.ne_of_gt I.lt,I.Zl5 (Ye _),λv z=>by cases z⟩
   ·exact I2.pin p (Yk _ hp)
noncomputable def Zpe (ta td:TA) (tb:TE) (js:List (Option Nat)) (env:Env) (P:Addr) (q:Str) (params:Arguments) (body:Expr) (scope:Scope):TE:=fun σ H Q=>ta σ H λvs H1=>td σ H1 λzs H2=>∃(p f:Addr) (dv:V) (ns:List V) (kz:V->Int),
 vs=[.ref p]/\zs=[.ref f,dv]/\H2 p=some (.lst ns)/\ZmE env P q params body scope H2 f /\
 (∀n H3,n∈ns->Ze H2 H3->tb ((Z6 js σ).set 0 (some n)) H3 λv H4=>v=.int (kz n)/\Ze H3 H4) /\
 (ns=[]->∀H3,Ze H2 H3->Q dv H3)/\∀i H3,i<ns.length->Zeg kz ns ns.length i->Ze H2 H3->Q (Zbr ns i) H3
theorem ZtH {Nc:List Str}{js:List (Option Nat)}{q pn:Str}{params:Arguments}{body:Expr}{scope:Scope}{P:Addr}{ta td:TA}{tb:TE}{m:Nat}{e:Expr}{e2:Expr}{p pos lpos kp1 kp2:Pos} (hc:X.calm=true) (hr:Room m X.A) (S:LamSc X Nc js params body scope pn)
  (hbody:∀cl L f c s H,PE (ZjY X X.A.in1 Nc q scope cl L f c s H) body tb) (hg:Gl X "max") (hm:X.mg "max"=none) (ha:PA X [e] ta) (hd:PK X [⟨some (Str.ofString "key"),.Lambda params body scope lpos,kp1⟩,⟨some (Str.ofString "default"),e2,kp2⟩] td)
  (hpl:(backTo pos (starEach [e] X.env)).any (·.1)=false:=by rfl) (hall:(backToKw pos (keywordEach [⟨some (Str.ofString "key"),.Lambda params body scope lpos,kp1⟩,⟨some (Str.ofString "default"),e2,kp2⟩] X.env)).all (·.1.isSome)=true:=by rfl)
  (hnn:(backToKw pos (keywordEach [⟨some (Str.ofString "key"),.Lambda params body scope lpos,kp1⟩,⟨some (Str.ofString "default"),e2,kp2⟩] X.env)).any (·.1.isNone)=false:=by rfl) (hks:(backToKw pos (keywordEach [⟨some (Str.ofString "key"),.Lambda params body scope lpos,kp1⟩,⟨some (Str.ofString "default"),e2,kp2⟩] X.env)).filterMap (·.1)=[Str.ofString "key",Str.ofString "default"]:=by rfl) (hb:backTo pos (starEach [e] X.env)=(false,eval e X.env)::backTo pos (starEach [] X.env):=by rfl) :
  PE X (.Call (.Name "max" p) [e] [⟨some (Str.ofString "key"),.Lambda params body scope lpos,kp1⟩,⟨some (Str.ofString "default"),e2,kp2⟩] pos) (Zpe ta td tb js X.env P q params body scope):=by
 intro pins s σ H Q I h
 refine wpAny_Call_Name_kw (Zbm I hg hm Zjz ?_)
 refine PyProof.Rows.callWith_kw (thn (ha pos pins s σ H _ I h) λus s1 ⟨vs,H1,I1,r1,q1⟩=>?_) hb hpl hall hnn
 refine thn (hd pos pins s1 σ H1 _ I1 q1) λws s2 ⟨zs,H2,I2,r2,pp,f,dv,ns,kz,e1,e2,hp,L,tn,fin0,fin⟩=>?_
 subst e1 e2
 obtain⟨u,rfl,ru⟩:=r1.one
 cases(show u=Value.ref pp from ru)
 rw[hks]
 obtain⟨v,v2,rfl,rv,rv2⟩:=r2.two
 cases(show v=Value.ref f from rv)
 exact maxVD (kz:=kz) I2 hc hp rv2 (λH' s' pins' n u hn J sm r=>ZjZ S hbody J J.ok.frames J.ok.hd hr.depth (L.same sm) r (tn n H' hn sm)) fin0 fin
end
end L2
namespace L2
open PySem PySem.Spec PyProof.Rows PySem.W PySem.Calls
section
variable {X:Cx}{o:Expr}{apos cpos:Pos}{td:TE}
noncomputable def Zqx (td:TE):TE:=fun σ H Q=>td σ H λx H1=>∃a kvs,x=.ref a/\H1 a=some (.dK kvs)/\∀v,H1 v=none->Q (.ref v) (upd H1 v (.ext (ZgC v a)))
theorem Zrw (ho:PE X o td) (hbase:attributeBase o "values" X.env (eval o X.env)=eval o X.env:=by rfl) (hline:(apos.endLine==cpos.line)=true:=by rfl):PE X (.Call (.Attribute o "values" apos) [] [] cpos) (Zqx td):=by
 intro pins s σ H Q I h
 refine wpAny_Call_method0_late hbase hline (thn (ho pins s σ H _ I h) λu s1 ⟨x,H1,I1,rx,a,kvs,ex,ea,q⟩=>?_)
 subst ex
 obtain rfl:u=Value.ref a:=rx
 obtain⟨t1,t2,hd⟩:=Ztv I1 (.inl ⟨kvs,.inl ea⟩)
 refine⟨"dict",_,PySem.F.plainAttrs_dict,PySem.F.slot_dict_values,PySem.F.type_dict_values,t1,t2,Calls.callWith_builtin rfl (PySem.evalArgs_none ?_)⟩
 refine call_meetsIn PySem.F.slot_dict_values t1 PySem.F.entry_dict_values (PySem.F.args_dict_values_1 _) (Zo4 a hd) ⟨t1,?_⟩
 refine⟨.ref s1.heap.objs.size,_,I1.laid (t':=s1.toks) (a:=s1.heap.objs.size) (o:=.ext (ZgC s1.heap.objs.size a)) (λb o e=>Yh _ e) (Ye _) ⟨⟨_,Ys _ rfl,rfl,rfl⟩,⟨_,Ys _ rfl⟩,λh1 h2 e k=>?_⟩,rfl,q _ (I1.hok.fresh (Ye _))⟩
 obtain⟨o,a1,a2⟩:=e
 exact⟨o,k o a1,a2⟩
theorem ZvU {κ:Type}{kvs:List (κ×V)}{xs:List (κ×Value)} (r:KV kvs xs):Vals (kvs.map (·.2)) (xs.map (·.2)):=by
 unfold KV at r
 induction r with
 |nil=>exact .nil
 |cons h t ih=>exact .cons h.2 ih
theorem Zpf {P:Program}{w:World}:∀{es:List DictEntry}{vs:List (Key×Value)},Pairs (Zao P w) es vs->es.map (·.val)=vs.map (·.2):=by
 intro es vs h
 induction es generalizing vs with
 |nil=>cases vs with
  |nil=>rfl
  |cons v vs=>cases h
 |cons e es ih=>cases vs with
  |nil=>cases h
  |cons v vs =>
   cases h with
   |cons h1 h2 h3=>rw[YM,YM,ih h3,h2]
noncomputable def Zqy:List V->Hp->VK->Prop:=λxs H Q=>∃(v a:Addr) (kvs:List (Key×V)),xs=[.ref v]/\H v=some (.ext (ZgC v a))/\H a=some (.dK kvs)/\∀l,H l=none->Q (.ref l) (upd H l (.lst (kvs.map (·.2))))
theorem Zjb (hc:X.calm=true):Zbc X (.type "list") Zqy:=by
 intro pins s σ H xs us Q I r h
 obtain⟨v,a,kvs,rfl,hv,ha,q⟩:=h
 obtain⟨u,rfl,ru⟩:=r.one
 cases(show u=Value.ref v from ru)
 obtain⟨hz,lo,ys,rel,o,es,ep,g1,g2,g3,g4,g5,g6⟩:=Zqw I.hok ha
 have hV:s.heap.IsValuesView v a:=(show Zaa X.prog X.w H s.heap v (.ext (ZgC v a))from I.hok v _ hv).1
 have hA:Zc9 s.heap a (ys.map (·.2)) ep:=⟨o,es,g1,g2.1,g3,Zpf g5⟩
 have hl:(ys.map (·.2)).length<=sizeLine:=by rw[Yf,<-Paired.length rel];exact hz
 refine kdl_call (A:=X.A) Ztz (I.ok.hd hc) ⟨hV,hA⟩ hl λh' tk acc c kp hS hacc=>?_
 have eacc:acc.toList=ys.map (·.2):=by
  refine List.ext_getElem? λi=>?_
  rw[Array.getElem?_toList]
  rcases Nat.lt_or_ge i acc.size with hi|hi
  ·have:=hacc.2 i acc[i] (Array.getElem?_eq_getElem hi)
   rw[this,Array.getElem?_eq_getElem hi]
  ·rw[Array.getElem?_eq_none hi,List.getElem?_eq_none (by rw[<-hacc.1];exact hi)]
 have hsz:s.heap.objs.size<h'.objs.size:=Yj hS
 refine⟨.ref s.heap.objs.size,_,I.laid (t':=tk) (a:=s.heap.objs.size) (o:=.lst (kvs.map (·.2))) kp (Ye _) ⟨by rw[Yf];exact hz,acc.toList,c,by rw[eacc];exact ZvU rel,by rw[hS,Array.toArray_toList]⟩,rfl,q _ (I.hok.fresh (Ye _))⟩
end
end L2
namespace L2
open PySem PySem.Spec PyProof.Rows PySem.W
section
variable {prog:Program}{w:World}{A:Around}{E:Value->Shared->Prop}{s:Shared}{z TI TO i1 i2 l1 l2:Addr}{k1 k2:Nat}{xs ys:Array Value}{a b f0:Value}{b0:Bool}
theorem Zj3 {c:Addr}{Q:Option Obj->Shared->Prop} (h:Q (s.heap.get? c) s):wpAny (model prog w) A (loadIfAlive c) Q E s:=fun Γ p _=>by
 unfold loadIfAlive
 simpa using h
noncomputable abbrev Zas (h:Heap) (z TI TO:Addr) (f0:Value) (b0:Bool):Prop:=h.get? z=some {cls:=.type "zip",dict:=none,data:=.fields #[f0,.bool b0,.bool false,.ref TI,.ref TO],slots:=#[]}
noncomputable def Zk6 (f0:Value):Prop:=f0=.none\/∃c:Nat,f0=rawInt c
theorem ZlL (hz:Zas s.heap z TI TO f0 b0) (hf:Zk6 f0):wpAny (model prog w) A (Builtin.SmallTypes.ownedTupleIsFree (.ref z)) (λr s'=>(r=true/\s'=s)\/(r=false/\∃h' b',Zas h' z TI TO f0 b'/\Heap.SameBut z s.heap h'/\s'={s with heap:=h'})) E s:=by
 unfold Builtin.SmallTypes.ownedTupleIsFree
 refine Ya (wpAny_field hz rfl (x:=f0) rfl ?_)
 rcases hf with rfl|⟨c,rfl⟩
 ·exact Yb (.inl ⟨rfl,rfl⟩)
 ·refine Ya (Zj3 ?_)
  show wpAny _ _ _ _ _ _
  cases hc:s.heap.get? ((c:Int).toNat)with
  |none=>exact Yb (.inl ⟨rfl,rfl⟩)
  |some o =>
   refine Ya (wpAny_field hz rfl (x:=.bool b0) rfl ?_)
   cases b0 with
   |true=>exact Yb (.inr ⟨rfl,s.heap,true,hz,⟨rfl,λ_ _=>rfl⟩,rfl⟩)
   |false=>exact Ya (wpAny_setField_rec hz (by simp) λh' z' m'=>Yb (.inr ⟨rfl,h',true,z',m',rfl⟩))
theorem Zrx {x y:Value}{Q:Value->Shared->Prop} (D:ZipApart z TI TO i1 i2 l1 l2) (hz:Zas s.heap z TI TO f0 b0) (hf:Zk6 f0) (hI:IsPair s.heap TI (.ref i1) (.ref i2)) (hO:IsPair s.heap TO a b)
  (q1:QIt s.heap i1 l1 k1 xs) (q2:QIt s.heap i2 l2 k2 ys) (hx:xs[k1]?=some x) (hy:ys[k2]?=some y)
  (hQ:∀h' f' b',Zk6 f'->Zas h' z TI TO f' b'->(∃u v,IsPair h' TO u v)->QIt h' i1 l1 (k1+1) xs->QIt h' i2 l2 (k2+1) ys->IsPair h' s.heap.objs.size x y->ZnF z TO i1 i2 s.heap h'->Q (.ref s.heap.objs.size) {s with heap:=h'}) :
  wpAny (model prog w) A (Builtin.«zip.__next__» ⟨[.ref z],[]⟩) (λfin s'=>∃v,fin=.done (.ret v)/\Q v s') E s:=by
 show wpAny _ _ (field (.ref z) 2 >>= _) _ _ _;refine Ya (wpAny_field hz rfl (x:=.bool false) rfl ?_)
 show wpAny _ _ (field (.ref z) 3 >>= _) _ _ _;refine Ya (wpAny_field hz rfl (x:=.ref TI) rfl ?_);refine Ya (wpAny_seqItems hI rfl ?_)
 show wpAny _ _ (Builtin.SmallTypes.ownedTupleIsFree (.ref z) >>= _) _ _ _
 refine Ya (YB (ZlL hz hf) ?_ λ_ _ h=>h)
 rintro r s' (⟨rfl,e⟩|⟨rfl,h0,b1,z0,m0,rfl⟩)
 ·rw[e]
  clear e s'
  simp only[if_true]
  refine Ya (wpAny_rule ?_);refine Ya (wpAny_field hz rfl (x:=.ref TO) rfl ?_)
  refine Ya (wpAny_setField_rec hz (by simp) λg1 z1 m1=>?_);replace z1:Zas g1 z TI TO .ellipsis b0:=z1
  refine Ya ?_;simp only[List.zipIdx_cons,List.zipIdx_nil,List.forIn_cons,List.forIn_nil];refine Ya (Ya (wpAny_onRaise ?_))
  show wpAny _ _ (Builtin.SmallTypes.nextOf (.ref i1) >>= _) _ _ _;refine Ya (Zb2 (q1.ext m1.extBut D.i1z D.l1z) D.l1i1 hx λg2 p1 m2=>Yb ?_)
  have o2:IsPair g2 TO a b:=m2.extBut _ _ D.TOi1 (m1.extBut _ _ D.TOz hO)
  refine Ya (wpAny_seqItems o2 rfl ?_);refine Ya (wpAny_updateSeq_pair o2 λg3 o3 m3=>?_);replace o3:IsPair g3 TO x b:=o3
  refine Ya (wpAny_letGo (Yb ?_));refine Ya (Ya (wpAny_onRaise ?_))
  show wpAny _ _ (Builtin.SmallTypes.nextOf (.ref i2) >>= _) _ _ _
  refine Ya (Zb2 (((q2.ext m1.extBut D.i2z D.l2z).ext m2.extBut D.i12.symm D.l2i1).ext m3.extBut D.TOi2.symm D.l2TO) D.l2i2 hy λg4 p2 m4=>Yb ?_)
  have o4:IsPair g4 TO x b:=m4.extBut _ _ D.TOi2 o3
  refine Ya (wpAny_seqItems o4 rfl ?_);refine Ya (wpAny_updateSeq_pair o4 λg5 o5 m5=>?_);replace o5:IsPair g5 TO x y:=o5
  refine Ya (wpAny_letGo (Yb (Yb ?_)));refine Ya (wpAny_seqItems o5 rfl ?_);refine Ya (wpAny_newTuple ?_)
  have hsz:g5.objs.size=s.heap.objs.size:=by rw[m5.1,m4.1,m3.1,m2.1,m1.1]
  have z5:Zas g5 z TI TO .ellipsis b0:=m5.extBut _ _ D.TOz.symm (m4.extBut _ _ D.i2z.symm (m3.extBut _ _ D.TOz.symm (m2.extBut _ _ D.i1z.symm z1)))
  have kk:ZnF z TO i1 i2 s.heap g5:=λc o c1 c2 c3 c4 e=>m5.extBut _ _ c2 (m4.extBut _ _ c4 (m3.extBut _ _ c2 (m2.extBut _ _ c3 (m1.extBut _ _ c1 e))))
  have r1:QIt g5 i1 l1 (k1+1) xs:=((p1.ext m3.extBut D.TOi1.symm D.l1TO).ext m4.extBut D.i12 D.l1i2).ext m5.extBut D.TOi1.symm D.l1TO
  have r2:QIt g5 i2 l2 (k2+1) ys:=p2.ext m5.extBut D.TOi2.symm D.l2TO
  have lz:z<g5.objs.size:=Yj z5
  show wpAny _ _ (Builtin.SmallTypes.ownedTupleHandOut (.ref z) (.ref g5.objs.size) >>= _) _ _ _;refine Ya ?_;unfold Builtin.SmallTypes.ownedTupleHandOut
  have z6:Zas (g5.push {cls:=.type "tuple",data:=.seq #[x,y]}) z TI TO .ellipsis b0:=Yh _ z5
  refine Ya (wpAny_setField_rec z6 (by simp) λg7 z7 m7=>?_);replace z7:Zas g7 z TI TO (rawInt g5.objs.size) b0:=z7
  refine wpAny_setField_rec z7 (by simp) λg8 z8 m8=>?_;replace z8:Zas g8 z TI TO (rawInt g5.objs.size) false:=z8
  have up:∀c o,c≠z->g5.get? c=some o->g8.get? c=some o:=λc o c1 e=>m8.extBut _ _ c1 (m7.extBut _ _ c1 (Yh _ e))
  have t8:IsPair g8 g5.objs.size x y:=m8.extBut _ _ (Nat.ne_of_gt lz) (m7.extBut _ _ (Nat.ne_of_gt lz) (Ys _ rfl))
  rw[hsz]at z8 t8
  refine Yb ⟨_,rfl,?_⟩;show Q (.ref g5.objs.size) _;rw[hsz]
  exact hQ g8 _ _ (.inr ⟨_,rfl⟩) z8 ⟨_,_,up _ _ D.TOz o5⟩ (r1.at (λo e=>up _ o D.i1z e) λo e=>up _ o D.l1z e) (r2.at (λo e=>up _ o D.i2z e) λo e=>up _ o D.l2z e) t8 λc o c1 c2 c3 c4 e=>up c o c1 (kk c o c1 c2 c3 c4 e)
 ·simp only[Bool.false_eq_true,if_false]
  refine Ya ?_
  simp only[List.forIn_toArray,List.forIn_cons,List.forIn_nil]
  refine Ya (Ya (wpAny_holding ?_))
  show wpAny _ _ (Builtin.SmallTypes.nextOf (.ref i1) >>= _) _ _ _
  refine Ya (Zb2 (q1.ext m0.extBut D.i1z D.l1z) D.l1i1 hx λg1 p1 m1=>Yb (Yb ?_))
  refine Ya (Ya (wpAny_holding ?_))
  show wpAny _ _ (Builtin.SmallTypes.nextOf (.ref i2) >>= _) _ _ _
  refine Ya (Zb2 ((q2.ext m0.extBut D.i2z D.l2z).ext m1.extBut D.i12.symm D.l2i1) D.l2i2 hy λg2 p2 m2=>Yb (Yb (Yb ?_)))
  refine Ya (wpAny_newTuple ?_ (show 2<=sizeLine by decide))
  have hsz:g2.objs.size=s.heap.objs.size:=by rw[m2.1,m1.1,m0.1]
  have up:∀c o,c≠z->c≠i1->c≠i2->s.heap.get? c=some o->(g2.push {cls:=.type "tuple",data:=.seq #[x,y]}).get? c=some o:=λc o c1 c2 c3 e=>Yh _ (m2.extBut _ _ c3 (m1.extBut _ _ c2 (m0.extBut _ _ c1 e)))
  have z2:Zas (g2.push {cls:=.type "tuple",data:=.seq #[x,y]}) z TI TO f0 b1:=Yh _ (m2.extBut _ _ D.i2z.symm (m1.extBut _ _ D.i1z.symm z0))
  refine Yb ⟨_,rfl,?_⟩
  show Q (.ref g2.objs.size) _
  rw[hsz]
  refine hQ _ f0 b1 hf z2 ⟨_,_,up _ _ D.TOz D.TOi1 D.TOi2 hO⟩ ?_ ?_ ?_ λc o c1 c2 c3 c4 e=>up c o c1 c3 c4 e
  ·exact(p1.ext m2.extBut D.i12 D.l1i2).at (λo e=>Yh _ e) λo e=>Yh _ e
  ·exact p2.at (λo e=>Yh _ e) λo e=>Yh _ e
  ·rw[<-hsz];exact Ys _ rfl
theorem ZtI {Q:Fin->Shared->Prop} (hA:A.handled=none) (D:ZipApart z TI TO i1 i2 l1 l2) (hz:Zas s.heap z TI TO f0 b0) (hf:Zk6 f0) (hI:IsPair s.heap TI (.ref i1) (.ref i2)) (hO:IsPair s.heap TO a b)
  (q1:QIt s.heap i1 l1 k1 xs) (q2:QIt s.heap i2 l2 k2 ys) (hend:xs[k1]?=none\/ys[k2]?=none)
  (hE:∀h' e,ZnF z TO i1 i2 s.heap h'->(∃o,h'.get? e=some o/\o.cls=.type "StopIteration")->E (.ref e) {s with heap:=h'}) :
  wpAny (model prog w) A (Builtin.«zip.__next__» ⟨[.ref z],[]⟩) Q E s:=by
 show wpAny _ _ (field (.ref z) 2 >>= _) _ _ _;refine Ya (wpAny_field hz rfl (x:=.bool false) rfl ?_)
 show wpAny _ _ (field (.ref z) 3 >>= _) _ _ _;refine Ya (wpAny_field hz rfl (x:=.ref TI) rfl ?_);refine Ya (wpAny_seqItems hI rfl ?_)
 show wpAny _ _ (Builtin.SmallTypes.ownedTupleIsFree (.ref z) >>= _) _ _ _
 refine Ya (YB (ZlL hz hf) ?_ λ_ _ h=>h)
 rintro r s' (⟨rfl,e⟩|⟨rfl,h0,b1,z0,m0,rfl⟩)
 ·rw[e]
  clear e s'
  simp only[if_true]
  refine Ya (wpAny_rule ?_);refine Ya (wpAny_field hz rfl (x:=.ref TO) rfl ?_)
  refine Ya (wpAny_setField_rec hz (by simp) λg1 z1 m1=>?_);replace z1:Zas g1 z TI TO .ellipsis b0:=z1
  refine Ya ?_;simp only[List.zipIdx_cons,List.zipIdx_nil,List.forIn_cons,List.forIn_nil];refine Ya (Ya (wpAny_onRaise ?_))
  show wpAny _ _ (Builtin.SmallTypes.nextOf (.ref i1) >>= _) _ _ _
  cases hx:xs[k1]? with
  |none =>
   refine Ya (Zgd hA (q1.ext m1.extBut D.i1z D.l1z) hx λg2 e m2 he=>?_)
   obtain⟨oe,e1,e2⟩:=he
   have z2:Zas g2 z TI TO .ellipsis b0:=m2 _ _ D.i1z.symm z1
   have nz:e≠z:=λq=>by subst q;rw[z2]at e1;cases e1;simp at e2
   exact wpAny_setField_rec z2 (by simp) λg3 _ m3=>hE g3 e (λc o c1 _ c3 _ q=>m3.extBut _ _ c1 (m2 _ _ c3 (m1.extBut _ _ c1 q))) ⟨oe,m3.extBut _ _ nz e1,e2⟩
  |some x =>
   have hy:ys[k2]?=none:=by rcases hend with h|h;rw[hx]at h;cases h;exact h
   refine Ya (Zb2 (q1.ext m1.extBut D.i1z D.l1z) D.l1i1 hx λg2 p1 m2=>Yb ?_)
   have o2:IsPair g2 TO a b:=m2.extBut _ _ D.TOi1 (m1.extBut _ _ D.TOz hO)
   refine Ya (wpAny_seqItems o2 rfl ?_);refine Ya (wpAny_updateSeq_pair o2 λg3 o3 m3=>?_);refine Ya (wpAny_letGo (Yb ?_));refine Ya (Ya (wpAny_onRaise ?_))
   show wpAny _ _ (Builtin.SmallTypes.nextOf (.ref i2) >>= _) _ _ _
   refine Ya (Zgd hA (((q2.ext m1.extBut D.i2z D.l2z).ext m2.extBut D.i12.symm D.l2i1).ext m3.extBut D.TOi2.symm D.l2TO) hy λg4 e m4 he=>?_)
   obtain⟨oe,e1,e2⟩:=he
   have z4:Zas g4 z TI TO .ellipsis b0:=m4 _ _ D.i2z.symm (m3.extBut _ _ D.TOz.symm (m2.extBut _ _ D.i1z.symm z1))
   have nz:e≠z:=λq=>by subst q;rw[z4]at e1;cases e1;simp at e2
   exact wpAny_setField_rec z4 (by simp) λg5 _ m5=>hE g5 e (λc o c1 c2 c3 c4 q=>m5.extBut _ _ c1 (m4 _ _ c4 (m3.extBut _ _ c2 (m2.extBut _ _ c3 (m1.extBut _ _ c1 q))))) ⟨oe,m5.extBut _ _ nz e1,e2⟩
 ·simp only[Bool.false_eq_true,if_false]
  refine Ya ?_
  simp only[List.forIn_toArray,List.forIn_cons,List.forIn_nil]
  refine Ya (Ya (wpAny_holding ?_))
  show wpAny _ _ (Builtin.SmallTypes.nextOf (.ref i1) >>= _) _ _ _
  cases hx:xs[k1]? with
  |none=>exact Ya (Zgd hA (q1.ext m0.extBut D.i1z D.l1z) hx λg2 e m2 he=>hE g2 e (λc o c1 _ c3 _ q=>m2 _ _ c3 (m0.extBut _ _ c1 q)) he)
  |some x =>
   have hy:ys[k2]?=none:=by rcases hend with h|h;rw[hx]at h;cases h;exact h
   refine Ya (Zb2 (q1.ext m0.extBut D.i1z D.l1z) D.l1i1 hx λg1 p1 m1=>Yb (Yb ?_))
   refine Ya (Ya (wpAny_holding ?_))
   show wpAny _ _ (Builtin.SmallTypes.nextOf (.ref i2) >>= _) _ _ _
   exact Ya (Zgd hA ((q2.ext m0.extBut D.i2z D.l2z).ext m1.extBut D.i12.symm D.l2i1) hy λg2 e m2 he=>hE g2 e (λc o c1 c2 c3 c4 q=>m2 _ _ c4 (m1.extBut _ _ c3 (m0.extBut _ _ c1 q))) he)
theorem ZnP {x y:Value}{Q:Option Value->Shared->Prop} (D:ZipApart z TI TO i1 i2 l1 l2) (hz:Zas s.heap z TI TO f0 b0) (hf:Zk6 f0) (hI:IsPair s.heap TI (.ref i1) (.ref i2)) (hO:IsPair s.heap TO a b)
  (q1:QIt s.heap i1 l1 k1 xs) (q2:QIt s.heap i2 l2 k2 ys) (hx:xs[k1]?=some x) (hy:ys[k2]?=some y)
  (hQ:∀h' f' b',Zk6 f'->Zas h' z TI TO f' b'->(∃u v,IsPair h' TO u v)->QIt h' i1 l1 (k1+1) xs->QIt h' i2 l2 (k2+1) ys->IsPair h' s.heap.objs.size x y->ZnF z TO i1 i2 s.heap h'->Q (some (.ref s.heap.objs.size)) {s with heap:=h'}) :
  wpAny (model prog w) A (pyNext (.ref z)) Q E s:=by
 have ty:s.TypeIs (.ref z) "zip":=⟨_,hz,rfl⟩
 unfold pyNext
 exact Ya (wpAny_attempt (wpAny_callSpecial?_slot (name:=Str.ofString "__next__") ty F.slot_zip_next (wpAny_call_entry F.slot_zip_next ty F.entry_zip_next (Zrx D hz hf hI hO q1 q2 hx hy λh' f' b' a0 a1 a2 a3 a4 a5 a6=>Yb (hQ h' f' b' a0 a1 a2 a3 a4 a5 a6)) (F.args_zip_next_1 _))))
theorem Zpg {Q:Option Value->Shared->Prop} (hA:A.handled=none) (D:ZipApart z TI TO i1 i2 l1 l2) (hz:Zas s.heap z TI TO f0 b0) (hf:Zk6 f0) (hI:IsPair s.heap TI (.ref i1) (.ref i2)) (hO:IsPair s.heap TO a b)
  (q1:QIt s.heap i1 l1 k1 xs) (q2:QIt s.heap i2 l2 k2 ys) (hend:xs[k1]?=none\/ys[k2]?=none) (hQ:∀h',ZnF z TO i1 i2 s.heap h'->Q none {s with heap:=h'}):wpAny (model prog w) A (pyNext (.ref z)) Q E s:=by
 have ty:s.TypeIs (.ref z) "zip":=⟨_,hz,rfl⟩
 unfold pyNext
 refine Ya (wpAny_attempt (wpAny_callSpecial?_slot (name:=Str.ofString "__next__") ty F.slot_zip_next (wpAny_call_entry F.slot_zip_next ty F.entry_zip_next (ZtI hA D hz hf hI hO q1 q2 hend λh' e hk he=>?_) (F.args_zip_next_1 _))))
 obtain⟨o,e1,e2⟩:=he
 exact Ya (wpAny_isInstance (T:="StopIteration") (b:=true) ⟨o,e1,e2⟩ isSubtype_stop (Yb (hQ _ hk)))
theorem Zry {Q:Value->Shared->Prop} (hz:Zas s.heap z TI TO f0 b0) (h:Q (.ref z) s):wpAny (model prog w) A (pyIter (.ref z)) Q E s:=by
 have hZ:s.TypeIs (.ref z) "zip":=⟨_,hz,rfl⟩
 refine wpAny_pyIter_slot hZ F.slot_zip_iter (wpAny_call_entry F.slot_zip_iter hZ F.entry_zip_iter (Yb ⟨_,rfl,"zip",_,hZ,F.slot_zip_next.lookup,h⟩) (F.args_zip_iter_1 _))
end
section
variable {prog:Program}{w:World}{A:Around}{E:Value->Shared->Prop}{s:Shared}{z TI TO:Addr}{f0:Value}{b0:Bool}
theorem ZvV {tg : Expr} {v : Value} {Q : Unit → Shared → Prop} (hz : Zas s.heap z TI TO f0 b0) (hf : Zk6 f0)
    (hQ : ∀ h' f', Zk6 f' → Zas h' z TI TO f' b0 → Heap.SameBut z s.heap h' → Q () { s with heap := h' }) : wpAny (model prog w) A (letOwnedTupleGo tg (.ref z) v) Q E s := by
  have hp : Q () s := hQ s.heap f0 hf hz ⟨rfl, fun _ _ => rfl⟩
  unfold letOwnedTupleGo
  cases tg <;> first
    | exact Yb hp
    | (cases v <;> first
        | exact Yb hp
        | (refine Ya (wpAny_load hz ?_)
           dsimp only
           split
           · refine Ya (wpAny_rule ?_)
             show wpAny _ _ (setField (.ref z) 0 .none) Q E s
             exact wpAny_setField_rec hz (by simp) fun h' hz' hs' => hQ h' .none (.inl rfl) hz' hs'
           · exact Yb hp))
end
section
variable {X:Cx}{pins:List (Addr×Obj)}{σ:St}{H:Hp}{s:Shared}
theorem Zrz {P:Program}{w:World}{K:Frag}{tg:Expr}{t u:Bool}{a b z TI TO i1 i2:Addr} (D:ZipApart z TI TO i1 i2 a b) :
  Turn P w K tg (Itzq K t u a b) [z,TI,TO,i1,i2] z (λi h=>(∃f b,Zk6 f/\Zas h z TI TO f b)/\IsPair h TI (.ref i1) (.ref i2)/\(∃u v,IsPair h TO u v)/\ItB t h i1 a i/\ItB u h i2 b i) where
 mem:=by simp
 obj:=λi h st c hc=>by
  obtain⟨⟨f,b',qf,q1⟩,q2,⟨u,v,q3⟩,q4,q5⟩:=st
  simp at hc
  rcases hc with rfl|rfl|rfl|rfl|rfl
  ·exact⟨_,q1,λv z=>by cases z⟩
  ·exact⟨_,q2,λv z=>by cases z⟩
  ·exact⟨_,q3,λv z=>by cases z⟩
  ·obtain⟨o,ho,v,d⟩:=q4.obj;exact⟨_,ho,λv z=>by rw[d]at z;cases z⟩
  ·obtain⟨o,ho,v,d⟩:=q5.obj;exact⟨_,ho,λv z=>by rw[d]at z;cases z⟩
 keep:=λi h h' st k=>by
  obtain⟨⟨f,b',qf,q1⟩,q2,⟨u,v,q3⟩,q4,q5⟩:=st
  exact⟨⟨f,b',qf,k z (by simp) _ q1⟩,k TI (by simp) _ q2,⟨u,v,k TO (by simp) _ q3⟩,q4.keep λo e=>k i1 (by simp) o e,q5.keep λo e=>k i2 (by simp) o e⟩
 item:=by
  intro X hP hw hK hc i pins s σ H E I hf st hg
  subst hP hw hK
  obtain⟨xs,ys,x,y,qa,qb,hx,hy⟩:=hg
  obtain⟨⟨f,b',qf,q1⟩,q2,⟨u0,v0,q3⟩,q4,q5⟩:=st
  obtain⟨is1,r1,p1,w1⟩:=I.sqb qa
  obtain⟨is2,r2,p2,w2⟩:=I.sqb qb
  obtain⟨u',hu,ru⟩:=r1.get hx
  obtain⟨v,hv,rv⟩:=r2.get hy
  have oa:=p1.obj
  have ob:=p2.obj
  refine ZnP D q1 qf q2 q3 (w1 _ _ q4) (w2 _ _ q5) (x:=u') (y:=v) (by simpa using hu) (by simpa using hv) λh' f1 b1' a0 a1 a2 a3 a4 a5 a7=>?_
  refine⟨_,rfl,?_⟩
  refine ZvV (s:={s with heap:=h'}) a1 a0 λh2 f2 c0 d1 b2=>?_
  have hfr:H s.heap.objs.size=none:=I.hok.fresh (Ye _)
  have I1:Inv X pins σ (upd H s.heap.objs.size (.tup [x,y])) {s with heap:=s.heap.push {cls:=.type "tuple",data:=.seq #[u',v]}}:=by
   refine I.laid (t':=s.toks) (λb u e=>Yh _ e) (Ye _) ?_
   exact⟨by show 2<=sizeLine;decide,[u',v],.cons ru (.cons rv .nil),⟨_,Ys _ rfl,rfl,_,rfl⟩⟩
  have nz:∀c∈[z,TI,TO,i1,i2],c≠s.heap.objs.size:=λc hc e=>by
   have:∃o,s.heap.get? c=some o:=by
    simp at hc
    rcases hc with rfl|rfl|rfl|rfl|rfl
    ·exact⟨_,q1⟩
    ·exact⟨_,q2⟩
    ·exact⟨_,q3⟩
    ·obtain⟨o,q,_⟩:=q4.obj;exact⟨o,q⟩
    ·obtain⟨o,q,_⟩:=q5.obj;exact⟨o,q⟩
   obtain⟨o,q⟩:=this
   exact absurd (Yj q) (by rw[e];exact YI _)
  have hf1:∀c∈[z,TI,TO,i1,i2],FpOk X pins (upd H s.heap.objs.size (.tup [x,y])) c:=λc hc=>by
   obtain⟨f0,f1,f2,f3,f4,f5⟩:=hf c hc
   exact⟨by rw[Zl (nz c hc)];exact f0,f1,f2,f3,f4,f5⟩
  have I2:Inv X pins σ (upd H s.heap.objs.size (.tup [x,y])) {s with heap:=h2}:=by
   refine Inv.Zhl (s:={s with heap:=s.heap.push {cls:=.type "tuple",data:=.seq #[u',v]}}) (t':=s.toks) (fp:=[z,TI,TO,i1,i2]) I1 (λc o hc e=>?_) hf1
   simp only[Yi,List.not_mem_nil,or_false,not_or]at hc
   obtain⟨c1,c2,c3,c4,c5⟩:=hc
   refine b2.extBut _ _ c1 ?_
   by_cases hs:c=s.heap.objs.size
   ·subst hs
    have e':(s.heap.push {cls:=.type "tuple",data:=.seq #[u',v]}).get? s.heap.objs.size=some _:=Ys _ rfl
    have ee:o={cls:=.type "tuple",data:=.seq #[u',v]}:=by
     have:=e.symm.trans e'
     exact YE this
    rw[ee];exact a5
   ·have:s.heap.get? c=some o:=by
     rcases Heap.get?_push_cases e with⟨q,_⟩|q
     ·exact absurd q hs
     ·exact q
    exact a7 c o c1 c3 c4 c5 this
  have ka:∀o,s.heap.get? a=some o->h2.get? a=some o:=λo e=>b2.extBut _ _ D.l1z (a7 a o D.l1z D.l1TO D.l1i1 D.l1i2 e)
  have kb:∀o,s.heap.get? b=some o->h2.get? b=some o:=λo e=>b2.extBut _ _ D.l2z (a7 b o D.l2z D.l2TO D.l2i1 D.l2i2 e)
  refine⟨.ref s.heap.objs.size,_,I2,rfl,⟨_,x,y,hfr,rfl,rfl,λxs' q'=>?_,λys' q'=>?_⟩,⟨⟨f2,b1',c0,d1⟩,?_,?_,?_,?_⟩,λc hc=>(hf1 c hc).1⟩
  ·rw[I.Zqu q' qa];exact hx
  ·rw[I.Zqu q' qb];exact hy
  ·exact b2.extBut _ _ D.TIz (a7 _ _ D.TIz D.TITO D.TIi1 D.TIi2 q2)
  ·obtain⟨u2,v2,a2⟩:=a2
   exact⟨u2,v2,b2.extBut _ _ D.TOz a2⟩
  ·exact I.itb qa ka (a3.ext b2.extBut D.i1z D.l1z)
  ·exact I.itb qb kb (a4.ext b2.extBut D.i2z D.l2z)
 done:=by
  intro X hP hw hK hc i pins s σ H E I hf st hg
  subst hP hw hK
  obtain⟨xs,ys,qa,qb,hx⟩:=hg
  obtain⟨⟨f,b',qf,q1⟩,q2,⟨u0,v0,q3⟩,q4,q5⟩:=st
  obtain⟨is1,r1,p1,w1⟩:=I.sqb qa
  obtain⟨is2,r2,p2,w2⟩:=I.sqb qb
  refine Zpg (I.ok.hd hc) D q1 qf q2 q3 (w1 _ _ q4) (w2 _ _ q5) ?_ λh' k=>⟨rfl,I.Zhl (t':=s.toks) (fp:=[z,TI,TO,i1,i2]) (λc o hc e=>?_) hf⟩
  ·rcases hx with hx|hx
   ·left;simp;rw[<-r1.length];exact hx
   ·right;simp;rw[<-r2.length];exact hx
  ·simp only[Yi,List.not_mem_nil,or_false,not_or]at hc
   obtain⟨c1,c2,c3,c4,c5⟩:=hc
   exact k c o c1 c3 c4 c5 e
 self:=λ_ _ _ _ _ ⟨⟨_,_,_,q⟩,_⟩ h=>Zry q h
theorem Zhx {K:Frag}{tg:Expr}{e1 e2:Expr}{ta:TA}{p pos:Pos} (hK:X.K=K) (hg:Gl X "zip") (hm:X.mg "zip"=none) (ha:PA X [e1,e2] ta) (he:starEach [e1,e2] X.env=(false,eval e1 X.env)::starEach [e2] X.env:=by rfl) (hpl:(backTo pos (starEach [e2] X.env)).any (·.1)=false:=by rfl) :
  PI X tg (.Call (.Name "zip" p) [e1,e2] [] pos) (Ztm K ta):=by
 subst hK
 intro pins s σ H R I h
 refine wpAny_Call_Name_kw (Zbm I hg hm Zlv ?_)
 refine PyProof.Rows.callWith_type1 (thn (ha pos pins s σ H _ I h) λus s1 ⟨vs,H1,I1,r1,a,b,t,u,xs,ys,e1,qa,qb,q⟩=>?_) he hpl
 subst e1
 obtain⟨u',v,rfl,ru,rv⟩:=r1.two
 cases(show u'=Value.ref a from ru)
 cases(show v=Value.ref b from rv)
 obtain⟨is1,rr1,p1,_⟩:=I1.sqb qa
 obtain⟨is2,rr2,p2,_⟩:=I1.sqb qb
 refine Zri p1 p2 λh' c1 c2 c3 c4 c5 c7=>?_
 refine wpAny_pyIter_zip c1 ?_
 have l1:a<s1.heap.objs.size:=by obtain⟨o,e⟩:=p1.obj;exact Yj e
 have l2:b<s1.heap.objs.size:=by obtain⟨o,e⟩:=p2.obj;exact Yj e
 have sm:∀b,s1.heap.objs.size<=b->FpOk X pins H1 b:=λb hb=>I1.ZqP hb (I1.hok.fresh hb)
 refine⟨_,[s1.heap.objs.size+4,s1.heap.objs.size+2,s1.heap.objs.size+3,s1.heap.objs.size,s1.heap.objs.size+1],_,_,H1,rfl,I1.kept (t':=s1.toks) c7,Zrz (t:=t) (u:=u) (a:=a) (b:=b) ?_,⟨⟨_,_,.inl rfl,c1⟩,c2,⟨_,_,c3⟩,I1.itb qa (λo e=>c7 _ o e) c4,I1.itb qb (λo e=>c7 _ o e) c5⟩,λc hc=>?_,q⟩
 ·exact Zs2 _ _ _ l1 l2
 ·simp at hc
  rcases hc with rfl|rfl|rfl|rfl|rfl<;>exact sm _ (by omega)
end
theorem le1 {n:Nat}{us:List Value} (e:us.length=n+1):∃a t,us=a::t/\t.length=n:=by
 cases us with
 |nil=>cases e
 |cons a t=>exact⟨a,t,rfl,Nat.succ.inj e⟩
theorem le0 {us:List Value} (e:us.length=0):us=[]:=List.length_eq_zero_iff.mp e
theorem ZrA:typeLookup (.type "list_reverseiterator") (Str.ofString "__len__")=pure none:=by rw[typeLookup_type,builtinLookup_eq_fast];kernel_rfl
theorem ZtJ:typeLookup (.type "list_reverseiterator") (Str.ofString "__length_hint__")=pure (some (.builtin "list_reverseiterator.__length_hint__")):=by rw[typeLookup_type,builtinLookup_eq_fast];kernel_rfl
section
variable {prog:Program}{w:World}{A:Around}{E:Value->Shared->Prop}{s:Shared}
theorem ZtK {r:Addr}{Q:Bool->Shared->Prop} (hT:s.TypeIs (.ref r) "list_reverseiterator") (h:Q false s):wpAny (model prog w) A (Builtin.List.listLengthHint (.ref r)) Q E s:=by
 unfold Builtin.List.listLengthHint
 refine Ya (wpAny_specialOf hT ZrA ?_)
 dsimp only
 refine wpAny_ite_split (λhab=>absurd hab (by decide)) (λ_=>?_)
 refine wpAny_ite_split (λhab=>absurd hab (by decide)) (λ_=>?_)
 refine Ya (wpAny_specialOf hT ZtJ ?_)
 generalize hid:("list_reverseiterator.__length_hint__":String)=id0
 dsimp only
 rw[show splitId id0=some ("list_reverseiterator","__length_hint__")from by subst hid;decide +kernel]
 subst hid
 refine Ya (wpAny_isInstance (T:="list_reverseiterator") (b:=true) hT (by rw[isSubtype_type];kernel_rfl) ?_)
 refine wpAny_ite_split (λhab=>absurd hab (by decide)) (λ_=>?_)
 refine wpAny_ite_split (λ_=>?_) (λhab=>absurd (by decide +kernel) hab)
 refine wpAny_ite_split (λhab=>absurd hab (by decide +kernel)) (λ_=>?_)
 exact Yb h
theorem Zph {R:Result->Shared->Prop}{it l S:Addr}{items:Array Value}{res:Value}{c0:Nat} (hh:A.handled=none) (hit:s.heap.IsRevIter it l ((items.size:Int)-1)) (hl:s.heap.IsList l items) (hne:l≠it) (hz:items.size<=sizeLine)
  (hSi:S≠it) (hSl:S≠l) (hS:s.heap.get? S=some {cls:=.type "list",data:=.seq #[] c0})
  (hR:∀h' tk acc c,(∀b o,b≠S->b≠it->s.heap.get? b=some o->h'.get? b=some o)->h'.get? S=some {cls:=.type "list",dict:=none,data:=.seq acc c,slots:=#[]}->ItemsOf (λi v=>items[items.size-1-i]?=some v) acc items.size->R (.ok (.ret res)) {s with heap:=h',toks:=tk}) :
  wpAny (model prog w) A.in1 (Builtin.List.listExtendWith (.ref S) (.ref it) res) (λfin s'=>match fin with|.done f=>R (.ok f) s'|.again c'=>c'.quiet=true/\codeAny (model prog w) A c' R s') (λe s'=>R (.error e) s') s:=by
 have W:=(Walks.listRev (prog:=prog) (w:=w) (A:=A.in1) hh it l hne items).toS
 unfold Builtin.List.listExtendWith
 refine Ya (wpAny_typeOf (T:="list_reverseiterator") hit.typeIs ?_)
 have n1:Builtin.List.listSameRef (.ref S) (.ref it)=false:=by simp[Builtin.List.listSameRef,hSi]
 have n2:(Value.type "list_reverseiterator"==Value.type "list")=false:=by decide
 have n3:(Value.type "list_reverseiterator"==Value.type "tuple")=false:=by decide
 simp only[n1,n2,n3,Bool.or_false,Bool.false_eq_true,if_false]
 refine Ya (wpAny_pyIter_revIter hit (Ya (wpAny_holding (ZtK hit.typeIs ?_))))
 refine wpAny_ite_split (λhab=>absurd hab (by decide +kernel)) (λ_=>Yb ⟨plainId_quiet PySem.F.plain_extend_loop _,?_⟩)
 refine codeAny_extend_loopS W hz S (by simp;exact⟨hSi,hSl⟩) res _ 0 _ #[] c0 rfl (Yt _) ⟨Yt _,by simpa using hit,hl⟩ hS (ItemsOf.nil _) λs' acc c hm hS' hacc=>?_
 rw[Moved.eq_with hm]
 refine hR s'.heap s'.toks acc c (λb o h1 h2 e=>hm.heap b o (λhb=>?_) e) hS' hacc
 rcases Yi.mp hb with z|z
 ·exact h1 z
 ·exact h2 (Y7.mp z)
theorem ZtL {R:Result->Shared->Prop}{it l S:Addr}{items:Array Value} (hh:A.handled=none) (hit:s.heap.IsRevIter it l ((items.size:Int)-1)) (hl:s.heap.IsList l items) (hne:l≠it) (hz:items.size<=sizeLine)
  (hSi:S≠it) (hSl:S≠l) (hS:s.heap.get? S=some {cls:=.type "list",data:=.seq #[]})
  (hR:∀h' tk acc c,(∀b o,b≠S->b≠it->s.heap.get? b=some o->h'.get? b=some o)->h'.get? S=some {cls:=.type "list",dict:=none,data:=.seq acc c,slots:=#[]}->ItemsOf (λi v=>items[items.size-1-i]?=some v) acc items.size->R (.ok (.ret .none)) {s with heap:=h',toks:=tk}) :
  wpAny (model prog w) A.in1 (Builtin.«list.__init__» ⟨[.ref S,.ref it],[]⟩) (λfin s'=>match fin with|.done f=>R (.ok f) s'|.again c'=>c'.quiet=true/\codeAny (model prog w) A c' R s') (λe s'=>R (.error e) s') s:=by
 show wpAny _ _ (Builtin.List.listItems (.ref S) >>= λold=>Builtin.List.listUpdate (.ref S) (λ_=>#[]) >>= λ_=>letGo old.toList.reverse >>= λ_=>Builtin.List.listExtendWith (.ref S) (.ref it) .none) _ _ s
 refine Ya (listItems_at hS rfl (Ya ?_))
 show wpAny _ _ (updateSeq S (λ_=>#[])) _ _ _
 refine wpAny_updateSeq hS rfl (Ya (wpAny_letGo ?_))
 have hS2:=Heap.get?_update_self (Obj.mapSeq (λ_=>(#[]:Array Value))) hS rfl
 have ot:∀b o,b≠S->s.heap.get? b=some o->(s.heap.update S (Obj.mapSeq (λ_=>(#[]:Array Value)))).get? b=some o:=λb o hb e=>(Heap.get?_update_other _ _ (Ne.symm hb)).trans e
 refine Zph hh (hit.at λo e=>ot it o (Ne.symm hSi) e) (hl.at λo e=>ot l o (Ne.symm hSl) e) hne hz hSi hSl hS2 λh' tk acc c k1 k2 k3=>hR h' tk acc c (λb o a1 a2 e=>k1 b o a1 a2 (ot b o a1 e)) k2 k3
theorem ZmL {it l:Addr}{items:Array Value}{Q:Value->Shared->Prop} (hh:A.handled=none) (hit:s.heap.IsRevIter it l ((items.size:Int)-1)) (hl:s.heap.IsList l items) (hne:l≠it) (hz:items.size<=sizeLine)
  (hQ:∀h' tk acc c,(∀b o,b≠it->s.heap.get? b=some o->h'.get? b=some o)->h'.get? s.heap.objs.size=some {cls:=.type "list",dict:=none,data:=.seq acc c,slots:=#[]}->ItemsOf (λi v=>items[items.size-1-i]?=some v) acc items.size->Q (.ref s.heap.objs.size) {s with heap:=h',toks:=tk}) :
  wpAny (model prog w) A (call (.type "list") [.ref it]) Q E s:=by
 refine callType_codes (Q₁:=λobj s₁=>obj=.ref s.heap.objs.size/\s₁={s with heap:=s.heap.push {cls:=.type "list",data:=.seq #[]}}) PySem.F.called_list (PySem.F.typeCall_list_1 _) PySem.F.entry_list_init (code_list_new _ ⟨rfl,rfl⟩) λobj s1 h1=>?_
 obtain⟨rfl,rfl⟩:=h1
 obtain⟨oi,hoi,_⟩:=id hit
 obtain⟨ol,hol,_⟩:=id hl
 have hS:(s.heap.push {cls:=.type "list",data:=.seq #[]}).get? s.heap.objs.size=some {cls:=.type "list",data:=.seq #[]}:=Ys _ rfl
 refine⟨⟨_,hS,rfl⟩,PySem.F.args_list_init_2 _ _,ZtL (A:=A.in1) hh (hit.at λo e=>Yh _ e) (hl.at λo e=>Yh _ e) hne hz (Nat.ne_of_gt (Yj hoi)) (Nat.ne_of_gt (Yj hol)) hS λh' tk acc c k1 k2 k3=>⟨rfl,hQ h' tk acc c (λb o h1 e=>k1 b o (Yn (Yj e)) h1 (Yh _ e)) k2 k3⟩⟩
end
theorem ZlM {x:V}{u:Value}:∀{xs:List V}{us:List Value},Vals xs us->RelV x u->Vals (xs++[x]) (us++[u])
 |_,_,.nil,r=>.cons r .nil
 |_,_,.cons q t,r=>.cons q (ZlM t r)
theorem Zhy:∀{xs:List V}{us:List Value},Vals xs us->Vals xs.reverse us.reverse
 |_,_,.nil=>.nil
 |_,_,.cons q t=>by rw[List.reverse_cons,List.reverse_cons];exact ZlM (Zhy t) q
section
variable {X:Cx}
noncomputable def ZtM (K:Frag) (ta:TA):TE:=fun σ H Q=>ta σ H λvs H1=>∃(a:Addr) (xs:List V),vs=[.ref a]/\SqL K H1 a xs/\xs.length<=1000/\∀l,H1 l=none->Q (.ref l) (upd H1 l (.lst xs.reverse))
theorem ZvW {K:Frag}{e:Expr}{ta:TA}{p p2 pos pos2:Pos} (hK:X.K=K) (hc:X.calm=true) (hg:Gl X "reversed") (hm:X.mg "reversed"=none) (hgl:Gl X "list") (hml:X.mg "list"=none) (ha:PA X [e] ta)
  (hs:starEach [e] X.env=[(false,eval e X.env)]:=by rfl) (hs2:starEach [Expr.Call (.Name "reversed" p) [e] [] pos] X.env=[(false,eval (.Call (.Name "reversed" p) [e] [] pos) X.env)]:=by rfl):PE X (.Call (.Name "list" p2) [.Call (.Name "reversed" p) [e] [] pos] [] pos2) (ZtM K ta):=by
 subst hK
 intro pins s σ H Q I h
 refine wpAny_Call_Name_kw (Zbm I hgl hml Zf7 ?_)
 refine PyProof.Rows.callWith_type1 ?_ hs2 (by rfl)
 rw[hs2]
 refine Calls.spliced_cons ?_
 refine wpAny_Call_Name_kw (Zbm I hg hm PyProof.Rows.boot_reversed ?_)
 refine PyProof.Rows.callWith_type1 (thn (ha pos pins s σ H _ I h) λus s1 z=>?_) hs (by rfl)
 obtain⟨vs,H1,I1,r1,a,xs,rfl,hq,hn,q⟩:=z
 obtain⟨u,rfl,ru⟩:=r1.one
 cases(show u=Value.ref a from ru)
 obtain⟨its,rv,pl,hz⟩:=I1.list hq
 refine call_reversed_list pl.isList ?_
 refine Calls.spliced_nil ?_
 have la:a<s1.heap.objs.size:=by obtain⟨o,e,_⟩:=pl.isList;exact Yj e
 have I2:Inv X pins σ H1 {s1 with heap:=s1.heap.push (revObj a ((its.toArray.size:Int)-1))}:=I1.kept (t':=s1.toks) λb o e=>Yh _ e
 have hsz:(s1.heap.push (revObj a ((its.toArray.size:Int)-1))).objs.size=s1.heap.objs.size+1:=Heap.size_push _ _
 have hit:(s1.heap.push (revObj a ((its.toArray.size:Int)-1))).IsRevIter s1.heap.objs.size a ((its.toArray.size:Int)-1):=⟨_,Ys _ rfl,rfl,rfl⟩
 have hl:(s1.heap.push (revObj a ((its.toArray.size:Int)-1))).IsList a its.toArray:=pl.isList.at λo e=>Yh _ e
 have li:its.length=xs.length:=rv.length.symm
 refine ZmL (s:={s1 with heap:=s1.heap.push (revObj a ((its.toArray.size:Int)-1))}) (I1.ok.hd hc) hit hl (Yn la) (by rw[Yu,sizeLine_eq];omega) λh' tk acc c k1 k2 k3=>?_
 have k2':h'.get? (s1.heap.objs.size+1)=some {cls:=.type "list",dict:=none,data:=.seq acc c,slots:=#[]}:=by rw[<-hsz];exact k2
 have ev:(Value.ref (s1.heap.push (revObj a ((its.toArray.size:Int)-1))).objs.size)=Value.ref (s1.heap.objs.size+1):=by rw[hsz]
 show EP X pins σ Q (Value.ref (s1.heap.push (revObj a ((its.toArray.size:Int)-1))).objs.size) {s1 with heap:=h',toks:=tk}
 rw[ev]
 have fr:H1 (s1.heap.objs.size+1)=none:=I1.hok.fresh (YR _)
 refine⟨.ref (s1.heap.objs.size+1),_,I1.laid (t':=tk) (a:=s1.heap.objs.size+1) (o:=.lst xs.reverse) (λb o e=>k1 b o (Yn (Yj e)) (Yh _ e)) (YR _) ?_,rfl,q _ fr⟩
 refine⟨Ym (show _<=1000 by simp;omega) (by decide),acc.toList,c,?_,by rw[k2']⟩
 have ea:acc.toList=its.reverse:=by
  refine List.ext_getElem (by rw[YW,k3.1,List.length_reverse,Yu]) λi i1 i2=>?_
  have:=k3.2 i acc.toList[i] (by simp)
  rw[List.getElem_reverse]
  have h3:i<its.length:=by simpa using i2
  have:its[its.length-1-i]?=some acc.toList[i]:=by simpa using this
  rw[Yg (by omega)]at this
  exact(YE this).symm
 rw[ea]
 exact Zhy rv
end
end L2
namespace K87
open PySem PySem.Spec PyProof.Rows L2
open PySem.W (nsIn mg_of fnOf keepIn codeIn mg_none_of)
local macro_rules | `(tactic| walk_at "rd") => `(tactic| simp only [tIfS, tNot, Zno, Zmb, rI0, rI, rU, Zl6, tC, tB, tIf, ZsH, tOrV, ZsI, Zqa, Zp9, tNil, ZqO, tSeq, tRet, ZsJ, tOp, tUn, tAnd, tOr, ZsK, Zfe, gSub, tAug, tCB, tSl, ZoG, tLst, tTup, L2.start, tYes, gTup, Zp3, gNil, Z6, Option.join_some, Option.join_none, rEq, rNe, Zqi, Zqj, Zqk, Zql, Zqm, Zqn, tBM, Bool.true_eq_false, YM, List.map_nil, List.cons_append, List.nil_append, YQ, List.length_nil, List.replicate, List.append_nil, List.set_cons_zero, List.set_cons_succ, List.getElem?_cons_zero, List.getElem?_cons_succ, Option.some.injEq, V.int.injEq, V.bl.injEq, V.ref.injEq, List.cons.injEq, and_true, true_and, exists_eq_left, exists_eq_left', exists_and_left, exists_eq, decide_eq_true_eq, Bool.not_eq_true', decide_eq_false_iff_not, cxK, and_assoc, Bool.false_eq_true, ↓reduceIte, Zqg, Zlw, Znv, ZsM, ZsN, Zp4, iTup, iZip, Zh4, ZqW, ZsV, rIsi, Ztd, Ztb, tPar, Zmt, rLen, rLof, rTof, rEqD, Zs8, Zs9, rIn, rSlQ, Ztj, rInD, Ztk, Zmw, Zmy, rAll, rAny, rIxQ, tRev, rSlL, ZsT, Zme, tSl, ipI, Zmm, rRep, Zqo, Zs4, Ztm, Zo0, V.str.injEq, Zo2, Zts, Ztt, tDIn, rSlV, Zty, tLam, ZmF, Zpb, ZlK, Zpe, ZtM])
noncomputable def top (i:Nat):Stmt:=PySem.Challenge.pw_dipkin_k87_whole_mended_rows_are_told_so.main.body.getD i (.Pass ⟨0,0,0,0⟩)
noncomputable abbrev Zeh:Stmt:=top 6
noncomputable abbrev ZcX:Stmt:=top 7
noncomputable abbrev Zei:Stmt:=top 8
noncomputable abbrev ZcY:Stmt:=top 9
noncomputable abbrev Zby:Stmt:=top 10
noncomputable abbrev ZaY:Stmt:=top 11
noncomputable abbrev ZaK:Stmt:=top 13
noncomputable abbrev Zb4:Stmt:=top 14
noncomputable abbrev ZaZ:Stmt:=top 16
noncomputable abbrev Zej:Stmt:=top 17
noncomputable abbrev Zek:Stmt:=top 18
noncomputable abbrev ZcZ:Stmt:=top 19
noncomputable abbrev Zaz:Stmt:=top 20
noncomputable abbrev Zc0:Stmt:=top 22
noncomputable abbrev Za0:Stmt:=top 23
noncomputable abbrev Zal:Stmt:=top 24
noncomputable abbrev Zel:Stmt:=top 26
noncomputable abbrev Za1:Stmt:=top 27
noncomputable abbrev Zb5:Stmt:=top 28
noncomputable abbrev ZaA:Stmt:=top 29
noncomputable abbrev Zem:Stmt:=top 31
noncomputable abbrev Zbz:Stmt:=top 32
noncomputable abbrev Zc1:Stmt:=top 33
noncomputable abbrev Zen:Stmt:=top 34
noncomputable abbrev Za2:Stmt:=top 35
noncomputable abbrev ZlN:Stmt:=top 36
noncomputable abbrev Zb6:Stmt:=top 38
noncomputable abbrev ZaL:Stmt:=top 39
noncomputable abbrev ZbA:Stmt:=top 40
noncomputable abbrev Zge:Stmt:=top 41
noncomputable abbrev ZbB:Stmt:=top 42
noncomputable abbrev Zgf:Stmt:=top 44
noncomputable abbrev Zb7:Stmt:=top 45
noncomputable abbrev Za3:Stmt:=top 46
noncomputable abbrev Zb8:Stmt:=top 48
noncomputable abbrev ZbC:Stmt:=top 49
noncomputable abbrev Zb9:Stmt:=top 50
noncomputable abbrev Zam:Stmt:=top 51
noncomputable abbrev Z7:Stmt:=top 52
noncomputable abbrev Z8:Stmt:=top 53
noncomputable abbrev Zhz:Stmt:=top 54
structure Txt (K:PySem.W.Frag) (mg:Str->Option Value):Prop where
 b_abs:mg "abs"=none
 b_all:mg "all"=none
 b_any:mg "any"=none
 b_enumerate:mg "enumerate"=none
 b_int:mg "int"=none
 b_isinstance:mg "isinstance"=none
 b_len:mg "len"=none
 b_list:mg "list"=none
 b_max:mg "max"=none
 b_min:mg "min"=none
 b_range:mg "range"=none
 b_reversed:mg "reversed"=none
 b_sorted:mg "sorted"=none
 b_tuple:mg "tuple"=none
 b_zip:mg "zip"=none
 c_DipError:mg "DipError"=some (.ref (clsAt mg "DipError"))
 x_DipError:PySem.W.excIn K (clsAt mg "DipError") bmV newV=true
 c_Unlike:mg "Unlike"=some (.ref (clsAt mg "Unlike"))
 x_Unlike:PySem.W.excIn K (clsAt mg "Unlike") bmV newV=true
 c_NoTree:mg "NoTree"=some (.ref (clsAt mg "NoTree"))
 x_NoTree:PySem.W.excIn K (clsAt mg "NoTree") bmV newV=true
 m_MOST_PLACES:mg "MOST_PLACES"=some (.int 40 (tokAt mg "MOST_PLACES"))
noncomputable def ZfC (K:PySem.W.Frag) (mg:Str->Option Value):List (Addr×Str):=[(Zhw K mg "from_below",Zj0 "from_below"),(Zhw K mg "nearest",Zj0 "nearest"),(Zhw K mg "chains_by",Zj0 "chains_by")]
noncomputable abbrev SpT:=PySem.W.Frag->(Str->Option Value)->Sp
noncomputable def Zqz (K:PySem.W.Frag) (mg:Str->Option Value):Sp:=λvs H Q E=>∃(a:Addr) (ns:List Int),vs=[.ref a]/\SqL K H a (ns.map V.int)/\ns.length<=63/\(∀p∈ZfC K mg,H p.1=some (ZjX p.2))/\∀H',Q (.bl true) H'
noncomputable def ZfD:SpT:=λK mg vs H Q E=>∃(a:Addr) (ns:List Int) (k:Int),vs=[.ref a,.int k]/\SqL K H a (ns.map V.int)/\0<=k/\k<=100/\∀p H',H p=none->Ze H H'->Zab H' p->Q (.ref p) H'
noncomputable def ZcJ:SpT:=λK mg vs H Q E=>∃(p:Addr) (many:Int),vs=[.ref p,.int many]/\0<many/\many<=1000000001/\Zab H p/\∀d H',0<=d->d<many->Zab H' p->Exc p H H'->Q (.int d) H'
noncomputable def Zdx:SpT:=λK mg vs H Q E=>∃(p:Addr) (most:Int),vs=[.ref p,.int most]/\0<=most/\most<=1000/\Zab H p/\∀(r:Addr) (ns:List Int) H',H r=none->(ns.length:Int)<=most->H' r=some (.lst (ns.map V.int))->Zab H' p->Exc p H H'->Q (.ref r) H'
noncomputable def Zca:SpT:=λK mg vs H Q E=>∃(p r:Addr) (ns:List Int),vs=[.ref p,.ref r]/\Zab H p/\H r=some (.lst (ns.map V.int))/\r≠p/\ns.length<=900/\∀(l:Addr) (ms:List Int) H',H l=none->H' l=some (.lst (ms.map V.int))->ms.length<=ns.length->Zab H' p->Exc p H H'->Q (.ref l) H'
noncomputable def Zih:SpT:=λK mg vs H Q E=>∃(el sp:Addr) (es:List Int) (A B:List Nat) (i:Nat),vs=[.ref el,.ref sp,.int i,.int A.length]/\H el=some (.lst (es.map V.int))/\H sp=some (.lst (ZaB (A++B)))/\el≠sp/\i<es.length/\(∀q∈A++B,q<es.length)/\(A++B).length<=1000 /\
 ∀H',(∀b o,b≠el->b≠sp->H b=some o->H' b=some o)->H' el=some (.lst ((Zja es A B i).map V.int))->H' sp=some (.lst (ZaB (A++[i])))->Q .non H'
noncomputable def ZaT:SpT:=λK mg vs H Q E=>∃(r:Addr) (ns:List Int),vs=[.ref r]/\(SqL K H r (ns.map V.int)\/SqT K H r (ns.map V.int))/\ns.length<=1000/\∀(t:Addr) (es:List Int) H',Zu ns es->Ze H H'->H' t=some (.tup (es.map V.int))->Q (.ref t) H'
noncomputable def ZbD:SpT:=λK mg vs H Q E=>∃(t:Addr) (T:List Int) (p:Nat),vs=[.ref t,.int p]/\(SqL K H t (T.map V.int)\/SqT K H t (T.map V.int))/\T.length<=1000/\p<T.length/\∀(w:Addr) H',H w=none->Ze H H'->H' w=some (.lst ((Zai T p).map V.int))->Q (.ref w) H'
noncomputable def ZgD:SpT:=λK mg vs H Q E=>∃(t:Addr) (T:List Int),vs=[.ref t]/\H t=some (.tup (T.map V.int))/\T.length<=1000/\(ZJ T->∀H',Ze H H'->Q (.bl true) H')/\(¬ ZJ T->∀H',Ze H H'->Q (.bl false) H')
noncomputable def ZeA:SpT:=λK mg vs H Q E=>∃(t:Addr) (T:List Int),vs=[.ref t]/\H t=some (.tup (T.map V.int))/\T.length<=1000/\(ZJ T->∀H',Ze H H'->Q .non H')/\(¬ ZJ T->∀H',Ze H H'->E (.ref (clsAt mg "NoTree")) none H')
noncomputable def Zda:SpT:=λK mg vs H Q E=>∃(t:Addr) (T:List Int) (p:Nat),vs=[.ref t,.int p]/\H t=some (.tup (T.map V.int))/\T.length<=1000/\p<T.length/\∀H',Ze H H'->Q (.int (Za9 T p:Nat)) H'
noncomputable def Zac:SpT:=λK mg vs H Q E=>∃(t:Addr) (T:List Int),vs=[.ref t]/\H t=some (.tup (T.map V.int))/\T.length<=1000/\(ZJ T->∀(t':Addr) H',Ze H H'->H' t'=some (.tup ((Zg T).map V.int))->Q (.ref t') H')/\(¬ ZJ T->∀H',Ze H H'->E (.ref (clsAt mg "NoTree")) none H')
noncomputable def hgt (F ns:List Int):List Int:=(List.range F.length).map λi=>nth ns i-nth F i
noncomputable def Z3:SpT:=λK mg vs H Q E=>∃(f r:Addr) (F ns:List Int),vs=[.ref f,.ref r]/\H f=some (.tup (F.map V.int))/\(SqL K H r (ns.map V.int)\/SqT K H r (ns.map V.int))/\F.length<=1000/\ns.length<=1000/\(ns.length=F.length->∀(l:Addr) H',H l=none->Ze H H'->H' l=some (.lst ((hgt F ns).map V.int))->Q (.ref l) H')/\(ns.length≠F.length->∀H',Ze H H'->E (.ref (clsAt mg "Unlike")) none H')
noncomputable def Zdb:SpT:=λK mg vs H Q E=>∃(t:Addr) (T:List Int) (a b:Int),vs=[.ref t,.int a,.int b]/\H t=some (.tup (T.map V.int))/\T.length<=1000/\∀H',Ze H H'->Q (.bl (decide (0<=b/\b<T.length/\a∈Zai T b.toNat))) H'
noncomputable def Zdc (T fl rf hs:List Int) (p:Nat):Prop:=nth hs p=(if nth T p=-1 then nth fl p else max (nth fl p) (nth hs (nth T p).toNat))/\nth hs p<=nth rf p
noncomputable instance (T fl rf hs:List Int) (p:Nat):Decidable (Zdc T fl rf hs p):=by unfold Zdc;exact inferInstance
noncomputable def ZdP:SpT:=λK mg vs H Q E=>∃(t a b c:Addr) (T fl rf hs:List Int),vs=[.ref t,.ref a,.ref b,.ref c]/\H t=some (.tup (T.map V.int))/\H a=some (.lst (fl.map V.int))/\H b=some (.lst (rf.map V.int))/\H c=some (.lst (hs.map V.int))/\ZJ T/\fl.length=T.length/\rf.length=T.length/\hs.length=T.length/\∀H',Ze H H'->Q (.bl (decide (∀p,p<T.length->Zdc T fl rf hs p))) H'
noncomputable def ZfE (T fl rf:List Int) (a b:Int):Prop:=(0<=b/\b<T.length/\a∈Zai T b.toNat\/a=b/\0<=a/\a<T.length)/\nth rf b.toNat<nth fl a.toNat
noncomputable instance (T fl rf:List Int) (a b:Int):Decidable (ZfE T fl rf a b):=by unfold ZfE;exact inferInstance
noncomputable def ZfF:SpT:=λK mg vs H Q E=>∃(t c d:Addr) (T fl rf:List Int) (a b:Int),vs=[.ref t,.ref c,.ref d,.int a,.int b]/\H t=some (.tup (T.map V.int))/\H c=some (.lst (fl.map V.int))/\H d=some (.lst (rf.map V.int))/\ZJ T/\fl.length=T.length/\rf.length=T.length/\∀H',Ze H H'->Q (.bl (decide (ZfE T fl rf a b))) H'
inductive Td where
 |row (ns:List Int)
 |clash (a b:Int)
noncomputable def ZmM (H:Hp) (t:Addr):Td->Prop
 |.row ns=>ns.length<=1000/\∃r:Addr,H t=some (.tup [.str (Str.ofString "row"),.ref r])/\H r=some (.tup (ns.map V.int))
 |.clash a b=>H t=some (.tup [.str (Str.ofString "clash"),.int a,.int b])
noncomputable def ZfG (T ls gs:List Int):Td->Prop
 |.row ns=>ns.length=T.length/\∀p,p<T.length->Zdc T (hgt (Zg T) ls) (hgt (Zg T) gs) (hgt (Zg T) ns) p
 |.clash a b=>ZfE T (hgt (Zg T) ls) (hgt (Zg T) gs) a b
noncomputable instance (T ls gs:List Int) (d:Td):Decidable (ZfG T ls gs d):=by cases d<;>(unfold ZfG;exact inferInstance)
noncomputable def ZcA:SpT:=λK mg vs H Q E=>∃(t a b c:Addr) (T ls gs:List Int) (d:Td),vs=[.ref t,.ref a,.ref b,.ref c]/\H t=some (.tup (T.map V.int))/\(SqL K H a (ls.map V.int)\/SqT K H a (ls.map V.int))/\(SqL K H b (gs.map V.int)\/SqT K H b (gs.map V.int))/\ZJ T/\ls.length=T.length/\gs.length=T.length/\ZmM H c d/\∀H',Ze H H'->Q (.bl (decide (ZfG T ls gs d))) H'
noncomputable def Zcv (T ls ds:List Int):Prop:=ds.length=T.length/\∀p,p<T.length->(∃o∈p::way T p,nth ds p=nth ls o+nth (Zg T) p-nth (Zg T) o)/\∀o∈p::way T p,nth ls o+nth (Zg T) p-nth (Zg T) o<=nth ds p
noncomputable def ZgE (T ls gs:List Int) (a b:Int):Prop:=0<=a/\0<=b/\a<T.length/\b<T.length/\(a=b\/a∈Zai T b.toNat)/\nth gs b.toNat<nth ls a.toNat+nth (Zg T) b.toNat-nth (Zg T) a.toNat
noncomputable def soT (T ls gs:List Int):Td->Prop
 |.row ns=>∃ds,Zcv T ls ds/\ns=ds/\∀p,p<T.length->nth ds p<=nth gs p
 |.clash a b=>ZgE T ls gs a b
noncomputable def dpI (T:List Int) (i:Int):Int:=((Zai T i.toNat).length:Int)
noncomputable def Zck:SpT:=λK mg vs H Q E=>∃(t:Addr) (T:List Int),vs=[.ref t]/\H t=some (.tup (T.map V.int))/\ZJ T/\Zb3 K mg "from_below" H/\∀(l:Addr) (ps:List Int) H',H l=none->Ze H H'->ps.Perm (nats (T.length:Int))->(ps.Pairwise λx y=>dpI T y<=dpI T x)->H' l=some (.lst (ps.map V.int))->Q (.ref l) H'
noncomputable def Zfl (F us:List Int):List Int:=(List.range F.length).map λi=>nth F i+nth us i
noncomputable def Zc2:SpT:=λK mg vs H Q E=>∃(f h:Addr) (F us:List Int),vs=[.ref f,.ref h]/\H f=some (.tup (F.map V.int))/\H h=some (.lst (us.map V.int))/\F.length=us.length/\us.length<=1000/\∀(t:Addr) H',Ze H H'->H' t=some (.tup ((Zfl F us).map V.int))->Q (.ref t) H'
noncomputable def Zj4 (T hs us:List Int):Prop:=us.length=T.length/\∀p,p<T.length->nth us p=if nth T p=-1 then nth hs p else max (nth hs p) (nth us (nth T p).toNat)
noncomputable def Zgg:SpT:=λK mg vs H Q E=>∃(t h:Addr) (T hs:List Int),vs=[.ref t,.ref h]/\H t=some (.tup (T.map V.int))/\H h=some (.lst (hs.map V.int))/\ZJ T/\hs.length=T.length/\Zb3 K mg "from_below" H/\∀(l:Addr) (us:List Int) H',H l=none->Ze H H'->Zj4 T hs us->H' l=some (.lst (us.map V.int))->Q (.ref l) H'
noncomputable def FirstC (T ls gs ds:List Int) (i j:Nat):Prop:=i<T.length/\(∀p,p<i->nth ds p<=nth gs p)/\¬ nth ds i<=nth gs i/\j<(i::way T i).length/\nth (hgt (Zg T) ls) ((i::way T i).getD j 0)=nth ds i-nth (Zg T) i/\∀j',j'<j->nth (hgt (Zg T) ls) ((i::way T i).getD j' 0)≠nth ds i-nth (Zg T) i
noncomputable def Zj5 (T ls gs:List Int):Td->Prop
 |.row ds=>Zcv T ls ds/\∀p,p<T.length->nth ds p<=nth gs p
 |.clash a b=>ZgE T ls gs a b/\∃(ds:List Int) (i j:Nat),Zcv T ls ds/\FirstC T ls gs ds i j/\a=((i::way T i).getD j 0:Nat)/\b=(i:Int)
noncomputable def Zii:SpT:=λK mg vs H Q E=>∃(t a b:Addr) (T ls gs:List Int),vs=[.ref t,.ref a,.ref b]/\H t=some (.tup (T.map V.int))/\(SqL K H a (ls.map V.int)\/SqT K H a (ls.map V.int))/\(SqL K H b (gs.map V.int)\/SqT K H b (gs.map V.int))/\ZJ T/\ls.length=T.length/\gs.length=T.length/\Zb3 K mg "from_below" H/\∀(c:Addr) (d:Td) H',Ze H H'->ZmM H' c d->Zj5 T ls gs d->Q (.ref c) H'
noncomputable def ZfH (H:Hp) (v:V):Option (Int×Int)->Prop
 |none=>v=.non
 |some z=>∃a:Addr,v=.ref a/\H a=some (.tup [.int z.1,.int z.2])
noncomputable def ZnQ (T:List Int) (a b:Int):Prop:=0<=b/\b<T.length/\a∈Zai T b.toNat
noncomputable def Zpi (T hs:List Int) (far:Int):Option (Int×Int)->Prop
 |none=>far=0
 |some z=>far≠0/\ZnQ T z.1 z.2/\(nth hs z.1.toNat-nth hs z.2.toNat=2*far\/nth hs z.1.toNat-nth hs z.2.toNat=2*far-1)
noncomputable def Zpj (T ns:List Int) (far:Int) (ms:List Int) (pr:Option (Int×Int)):Prop:=Zu ms T/\(∀p,p<T.length->(if nth ms p-nth ns p<0 then -(nth ms p-nth ns p)else nth ms p-nth ns p)<=far)/\Zpi T (hgt (Zg T) ns) far pr
noncomputable def ZdQ:SpT:=λK mg vs H Q E=>∃(t h:Addr) (far:Int) (v:V) (T hs:List Int) (pr:Option (Int×Int)),vs=[.ref t,.ref h,.int far,v]/\H t=some (.tup (T.map V.int))/\H h=some (.lst (hs.map V.int))/\ZfH H v pr/\ZJ T/\hs.length=T.length/\∀(z:Bool) H',(z=true↔Zpi T hs far pr)->Ze H H'->Q (.bl z) H'
noncomputable def Zcb:SpT:=λK mg vs H Q E=>∃(t r m:Addr) (far:Int) (v:V) (T ns ms:List Int) (pr:Option (Int×Int)),vs=[.ref t,.ref r,.int far,.ref m,v]/\H t=some (.tup (T.map V.int))/\(SqL K H r (ns.map V.int)\/SqT K H r (ns.map V.int))/\(SqL K H m (ms.map V.int)\/SqT K H m (ms.map V.int))/\ZfH H v pr/\ZJ T/\ns.length=T.length/\ms.length<=1000/\∀(z:Bool) H',(z=true↔Zpj T ns far ms pr)->Ze H H'->Q (.bl z) H'
noncomputable def obN (F ns:List Int) (a b:Nat):Int:=nth ns a+nth F b-nth F a-nth ns b
noncomputable def ZlO (T ns:List Int) (far:Int):Prop:=0<=far/\(∀b,b<T.length->∀a∈way T b,obN (Zg T) ns a b<=2*far)/\(far=0\/∃b,b<T.length/\∃a∈way T b,obN (Zg T) ns a b=2*far\/obN (Zg T) ns a b=2*far-1)
noncomputable def Zaj (T hs:List Int):List (List Int):=(List.range T.length).flatMap λb=>((Zai T b).filter λa=>decide (nth hs b<nth hs a.toNat)).map λa=>[a,(b:Int)]
noncomputable def ZhA (rs' rs:List (List Int)):Prop:=rs'.Perm rs/\rs'.Pairwise (λr r'=>ZfA r<=ZfA r')
noncomputable def ZaI:SpT:=λK mg vs H Q E=>∃(t h:Addr) (T hs:List Int),vs=[.ref t,.ref h]/\H t=some (.tup (T.map V.int))/\H h=some (.lst (hs.map V.int))/\T.length<=10/\ZJ T/\hs.length=T.length/\∀(l:Addr) (rs:List (List Int)) H',H l=none->Ze H H'->ZaS H' l rs->ZhA rs (Zaj T hs)->Q (.ref l) H'
noncomputable def dfK (hs:List Int) (r:List Int):Int:=nth hs (r.getD 0 0).toNat-nth hs (r.getD 1 0).toNat
noncomputable def IsPair (T hs:List Int):Option (Int×Int)->Prop
 |none=>Zaj T hs=[]
 |some z=>∃(rs:List (List Int)) (i:Nat),ZhA rs (Zaj T hs)/\i<rs.length/\rs.getD i []=[z.1,z.2]/\∀j,j<rs.length->dfK hs (rs.getD j [])<=dfK hs (rs.getD i [])/\(j<i->dfK hs (rs.getD j [])<dfK hs (rs.getD i []))
noncomputable def Zdd (hs:List Int):Option (Int×Int)->Int
 |none=>0
 |some z=>(nth hs z.1.toNat-nth hs z.2.toNat+1) / 2
noncomputable def ZeB:SpT:=λK mg vs H Q E=>∃(t r:Addr) (T ns:List Int),vs=[.ref t,.ref r]/\H t=some (.tup (T.map V.int))/\(SqL K H r (ns.map V.int)\/SqT K H r (ns.map V.int))/\ZJ T/\T.length<=10/\ns.length=T.length/\Zb3 K mg "nearest" H/\Zb3 K mg "from_below" H /\
 ∀(q m:Addr) (v:V) (ms:List Int) (pr:Option (Int×Int)) H',Ze H H'->H' q=some (.tup [.int (Zdd (hgt (Zg T) ns) pr),.ref m,v])->H' m=some (.tup (ms.map V.int))->ZfH H' v pr->IsPair T (hgt (Zg T) ns) pr->Zcv T (ns.map λx=>x-Zdd (hgt (Zg T) ns) pr) ms->Q (.ref q) H'
noncomputable def absI (x:Int):Int:=if x<0 then -x else x
noncomputable def lowAt (rs:List (List Int)) (p:Nat):List Int:=(rs.filter λr=>decide (r.getD 0 0=(p:Int))).map λr=>r.getD 1 0
noncomputable def LowAt (H:Hp) (l:Addr) (n:Nat) (rs:List (List Int)):Prop:=∃as:List Addr,H l=some (.lst (as.map V.ref))/\as.length=n/\∀(i:Nat) (a:Addr),as[i]?=some a->H a=some (.lst ((lowAt rs i).map V.int))
noncomputable def Zde:SpT:=λK mg vs H Q E=>∃(t h:Addr) (T hs:List Int),vs=[.ref t,.ref h]/\H t=some (.tup (T.map V.int))/\H h=some (.lst (hs.map V.int))/\ZJ T/\T.length<=10/\hs.length=T.length/\∀(l:Addr) (rs:List (List Int)) H',H l=none->ZhA rs (Zaj T hs)->LowAt H' l T.length rs->Ze H H'->Q (.ref l) H'
noncomputable def Zj6:SpT:=λK mg vs H Q E=>∃(h b:Int) (u:Option Int),vs=[.int h,.int b,(match u with|none=>.non|some x=>.int x)]/\Q (.bl (decide (b<=h/\∀x,u=some x->x<b))) H
inductive ChRun (hs:List Int) (rs:List (List Int)):List Int->List (Int×List Int)->List (Int×Option Int)->Prop
 |nil:ChRun hs rs [] [] []
 |new {ps cs fo}{p:Nat}:ChRun hs rs ps cs fo->(∀b∈lowAt rs p,∀c∈cs,c.1≠b)->ChRun hs rs (ps++[(p:Int)]) (cs++[((p:Int),[(p:Int)])]) (fo++[((p:Int),none)])
 |on {ps cs fo}{p:Nat}{b:Int}{ch:List Int}:ChRun hs rs ps cs fo->b∈lowAt rs p->(b,ch)∈cs->(∀b'∈lowAt rs p,(∃c∈cs,c.1=b')->nth hs b'.toNat<=nth hs b.toNat)->ChRun hs rs (ps++[(p:Int)]) (cs.filter (λc=>decide (c.1≠b))++[((p:Int),(p:Int)::ch)]) (fo++[((p:Int),some b)])
noncomputable def ZU (i:Int):Key:=.inl i
noncomputable def Zij:Option Int->V
 |none=>.non
 |some x=>.int x
noncomputable def ZqA (H:Hp) (d:Addr) (cs:List (Int×List Int)):Prop:=∃A:Int->Addr,H d=some (.dK (cs.map λc=>(ZU c.1,V.ref (A c.1))))/\∀c∈cs,H (A c.1)=some (.tup (c.2.map V.int))
noncomputable def ZiU (H:Hp) (d:Addr) (fo:List (Int×Option Int)):Prop:=H d=some (.dK (fo.map λc=>(ZU c.1,Zij c.2)))
noncomputable def ZeC:SpT:=λK mg vs H Q E=>∃(o l h:Addr) (ps hs:List Int) (rs:List (List Int)),vs=[.ref o,.ref l,.ref h]/\H o=some (.lst (ps.map V.int))/\LowAt H l hs.length rs/\H h=some (.lst (hs.map V.int))/\hs.length<=40/\ps.length<=40/\ps.Nodup/\(∀p∈ps,0<=p/\p<hs.length)/\(∀(i:Nat),∀b∈lowAt rs i,0<=b/\b<hs.length)/\rs.length<=2000/\Zb3 K mg "chains_by" H /\
 ∀(t d1 d2:Addr) (cs:List (Int×List Int)) (fo:List (Int×Option Int)) H',ChRun hs rs ps cs fo->ZqA H' d1 cs->ZiU H' d2 fo->H' t=some (.tup [.ref d1,.ref d2])->Ze H H'->Q (.ref t) H'
noncomputable def lookI (bs:List (Int×Int)) (x:Int):Option Int:=(bs.find? λc=>decide (c.1=x)).map (·.2)
noncomputable def lookO (fo:List (Int×Option Int)) (x:Int):Option (Option Int):=(fo.find? λc=>decide (c.1=x)).map (·.2)
noncomputable def staysI (hs:List Int) (h b:Int) (u:Option Int):Bool:=decide (b<=h/\∀x,u.map (λ(y:Int)=>nth hs y.toNat)=some x->x<b)
inductive BarRun (T hs:List Int) (fo:List (Int×Option Int)) (m:Int):List Int->List (Int×Int)->List Int->Prop
 |nil:BarRun T hs fo m [] [(-1,m)] []
 |keep {qs bs ks}{p:Nat}{b:Int}{u:Option Int}:BarRun T hs fo m qs bs ks->lookI bs (nth T p)=some b->lookO fo (p:Int)=some u->staysI hs (nth hs p) b u=true->BarRun T hs fo m (qs++[(p:Int)]) (bs++[((p:Int),nth hs p)]) (ks++[(p:Int)])
 |pass {qs bs ks}{p:Nat}{b:Int}{u:Option Int}:BarRun T hs fo m qs bs ks->lookI bs (nth T p)=some b->lookO fo (p:Int)=some u->staysI hs (nth hs p) b u=false->BarRun T hs fo m (qs++[(p:Int)]) (bs++[((p:Int),b)]) ks
noncomputable def ZnR (H:Hp) (d:Addr) (bs:List (Int×Int)):Prop:=H d=some (.dK (bs.map λc=>(ZU c.1,V.int c.2)))
noncomputable def usB (n:Nat) (bs:List (Int×Int)):List Int:=(List.range n).map λ(p:Nat)=>(lookI bs (p:Int)).getD 0
noncomputable def Zik (T ns ks' us:List Int) (cs:List (Int×List Int)):Prop:=∃(ps:List Int) (rs:List (List Int)) (fo:List (Int×Option Int)) (m:Int) (bs:List (Int×Int)) (ks:List Int),ps.Perm (nats (T.length:Int))/\(ps.Pairwise λx y=>dpI T y<=dpI T x)/\ZhA rs (Zaj T (hgt (Zg T) ns))/\ChRun (hgt (Zg T) ns) rs ps cs fo/\(hgt (Zg T) ns=[]->m=0)/\(hgt (Zg T) ns≠[]->m∈hgt (Zg T) ns/\∀a∈hgt (Zg T) ns,m<=a)/\BarRun T (hgt (Zg T) ns) fo m ps.reverse bs ks/\ks'.Perm ks/\ks'.Pairwise (·<=·)/\us=usB T.length bs
noncomputable def ZcK:SpT:=λK mg vs H Q E=>∃(t r:Addr) (T ns:List Int),vs=[.ref t,.ref r]/\H t=some (.tup (T.map V.int))/\(SqL K H r (ns.map V.int)\/SqT K H r (ns.map V.int))/\T.length<=10/\ns.length<=1000/\Zb3 K mg "from_below" H/\Zb3 K mg "chains_by" H /\
 (ZJ T->ns.length=T.length->∀(u a b c:Addr) (A:Int->Addr) (ks us:List Int) (cs:List (Int×List Int)) H',Zik T ns ks us cs->H' u=some (.tup [.ref a,.ref b,.ref c])->H' a=some (.tup (ks.map V.int))->H' b=some (.tup ((Zfl (Zg T) us).map V.int))->H' c=some (.lst (cs.map λx=>V.ref (A x.1)))->(∀x∈cs,H' (A x.1)=some (.tup (x.2.map V.int)))->Ze H H'->Q (.ref u) H')/\(¬ ZJ T->∀H',Ze H H'->E (.ref (clsAt mg "NoTree")) none H')/\(ZJ T->ns.length≠T.length->∀H',Ze H H'->E (.ref (clsAt mg "Unlike")) none H')
noncomputable def Zat (n:Nat) (ks:List Int):List Int:=((List.range n).filter λ(p:Nat)=>decide ((p:Int)∈ks)).map λ(p:Nat)=>(p:Int)
noncomputable def Zj7:SpT:=λK mg vs H Q E=>∃(r k m:Addr) (ns ks ms:List Int),vs=[.ref r,.ref k,.ref m]/\(SqL K H r (ns.map V.int)\/SqT K H r (ns.map V.int))/\H k=some (.tup (ks.map V.int))/\(SqL K H m (ms.map V.int)\/SqT K H m (ms.map V.int))/\ns.length<=1000/\ks.length<=1000/\ms.length=ns.length/\∀H',Ze H H'->Q (.bl (decide (ks=Zat ns.length ks)&&ks.all λp=>decide (nth ms p.toNat=nth ns p.toNat))) H'
noncomputable def ZlP (T hs ch:List Int) (i:Nat):Bool:=decide (nth ch i∈Zai T (nth ch (i+1)).toNat)&&decide (nth hs (nth ch (i+1)).toNat<nth hs (nth ch i).toNat)
noncomputable def Zil (T hs ch:List Int):Bool:=(List.range (ch.length-1)).all (ZlP T hs ch)
noncomputable def ZfI:SpT:=λK mg vs H Q E=>∃(t h c:Addr) (T hs ch:List Int),vs=[.ref t,.ref h,.ref c]/\H t=some (.tup (T.map V.int))/\H h=some (.lst (hs.map V.int))/\H c=some (.tup (ch.map V.int))/\T.length<=1000/\hs.length=T.length/\ch≠[]/\ch.length<=1000/\(∀p∈ch,0<=p/\p<T.length)/\∀H',Ze H H'->Q (.bl (Zil T hs ch)) H'
noncomputable def ZdR:SpT:=λK mg vs H Q E=>∃(l:Addr) (os:List (List Int)),vs=[.ref l]/\ZaS H l os/\os.length<=1000/\∀H',Ze H H'->Q (.bl true) H'
noncomputable def ZdS (T ns ks ms:List Int) (chs:List (List Int)):Prop:=Zu ms T/\ks=Zat ns.length ks/\(∀p∈ks,nth ms p.toNat=nth ns p.toNat)/\chs.length=ks.length/\[]∉chs/\chs.flatten.Perm (nats (T.length:Int))/\∀ch∈chs,Zil T (hgt (Zg T) ns) ch=true
noncomputable def ZdT:SpT:=λK mg vs H Q E=>∃(t r k m c:Addr) (T ns ks ms:List Int) (chs:List (List Int)),vs=[.ref t,.ref r,.ref k,.ref m,.ref c]/\H t=some (.tup (T.map V.int))/\(SqL K H r (ns.map V.int)\/SqT K H r (ns.map V.int))/\H k=some (.tup (ks.map V.int))/\(SqL K H m (ms.map V.int)\/SqT K H m (ms.map V.int))/\ZaS H c chs/\T.length<=1000/\ns.length<=1000/\ks.length<=1000/\ms.length<=1000/\chs.length<=1000/\chs.flatten.length<64 /\
 (ZJ T->ns.length=T.length->∀(z:Bool) H',(z=true↔ZdS T ns ks ms chs)->Ze H H'->Q (.bl z) H')/\(¬ ZJ T->∀H',Ze H H'->E (.ref (clsAt mg "NoTree")) none H')/\(ZJ T->ns.length≠T.length->∀H',Ze H H'->E (.ref (clsAt mg "Unlike")) none H')
noncomputable def Zdy:SpT:=λK mg vs H Q E=>∃(t r:Addr) (T ns:List Int),vs=[.ref t,.ref r]/\H t=some (.tup (T.map V.int))/\(SqL K H r (ns.map V.int)\/SqT K H r (ns.map V.int))/\T.length<=10/\ns.length<=1000/\(ZJ T->ns.length=T.length->∀(l:Addr) (rs:List (List Int)) H',H l=none->Ze H H'->ZaS H' l rs->ZhA rs (Zaj T (hgt (Zg T) ns))->Q (.ref l) H')/\(¬ ZJ T->∀H',Ze H H'->E (.ref (clsAt mg "NoTree")) none H')/\(ZJ T->ns.length≠T.length->∀H',Ze H H'->E (.ref (clsAt mg "Unlike")) none H')
noncomputable def Zim:SpT:=λK mg vs H Q E=>∃(r:Addr) (ns:List Int) (i j:Nat),vs=[.ref r,.int i,.int j]/\(SqL K H r (ns.map V.int)\/SqT K H r (ns.map V.int))/\i<ns.length/\j<ns.length/\Q (.int ((if nth ns j<nth ns i then j else i:Nat):Int)) H
noncomputable def ZeD:SpT:=λK mg vs H Q E=>∃(r:Addr) (ns:List Int),vs=[.ref r]/\(SqL K H r (ns.map V.int)\/SqT K H r (ns.map V.int))/\ns.length<=1000/\∀(l:Addr) H',Ze H H'->Rows H' l (Zez (nth ns) ns.length)->Q (.ref l) H'
noncomputable def ZgF:SpT:=λK mg vs H Q E=>∃(l l':Addr) (f g:Nat->Int) (n n' x y size:Nat),vs=[.ref l,.ref l',.int x,.int y,.int size]/\Rows H l (Zez f n)/\Rows H l' (Zez g n')/\x+size<=n/\y+size<=n'/\n<=1000/\n'<=1000 /\
 (Ztl f g x y size->∀H',Ze H H'->Q .non H')/\(∀a m,ZoR f g x y size a m->∀(t:Addr) H',Ze H H'->H' t=some (.tup [.int (a:Nat),.int ((a+m:Nat):Int)])->Q (.ref t) H')
noncomputable def Zin:SpT:=λK mg vs H Q E=>∃(r r':Addr) (ns ms:List Int),vs=[.ref r,.ref r']/\(SqL K H r (ns.map V.int)\/SqT K H r (ns.map V.int))/\(SqL K H r' (ms.map V.int)\/SqT K H r' (ms.map V.int))/\ns.length<=1000/\ms.length<=1000 /\
 (ns.length≠ms.length->E (.ref (clsAt mg "Unlike")) none H)/\(ns.length=ms.length->ZbK (nth ns) (nth ms) ns.length->∀H',Ze H H'->Q .non H') /\
 (ns.length=ms.length->∀a m,ZoR (nth ns) (nth ms) 0 0 ns.length a m->∀(t:Addr) H',Ze H H'->H' t=some (.tup [.int (a:Nat),.int ((a+m:Nat):Int)])->Q (.ref t) H')
noncomputable def Zpk:SpT:=λK mg vs H Q E=>∃(r r':Addr) (ns ms:List Int),vs=[.ref r,.ref r']/\(SqL K H r (ns.map V.int)\/SqT K H r (ns.map V.int))/\(SqL K H r' (ms.map V.int)\/SqT K H r' (ms.map V.int))/\ns.length<=1000/\ms.length<=1000 /\
 ∀(b:Bool) H',(b=true↔ns.length=ms.length/\ZbK (nth ns) (nth ms) ns.length)->Ze H H'->Q (.bl b) H'
noncomputable def Zbs:SpT:=λK mg vs H Q E=>∃(t r:Addr) (T ns:List Int),vs=[.ref t,.ref r]/\H t=some (.tup (T.map V.int))/\H r=some (.lst (ns.map V.int))/\ZJ T/\T.length<=10/\ns.length=T.length/\Zb3 K mg "nearest" H/\Zb3 K mg "from_below" H/\∀H',Ze H H'->Q (.bl true) H'
noncomputable def Zbt:SpT:=λK mg vs H Q E=>∃(t r:Addr) (T ns:List Int),vs=[.ref t,.ref r]/\H t=some (.tup (T.map V.int))/\H r=some (.lst (ns.map V.int))/\ZJ T/\T.length<=10/\ns.length=T.length/\Zb3 K mg "chains_by" H/\Zb3 K mg "from_below" H/\∀H',Ze H H'->Q (.bl true) H'
section
variable {P:Program}{w:World}{K:PySem.W.Frag}{mg:Str->Option Value}{base:Heap}
theorem ZrB:FnScope ["elders","spine","place","keep"] ["elders","spine","place","keep"] (defScope Zeh):=⟨rfl,rfl,rfl,by decide +kernel,rfl,by decide +kernel,by decide +kernel⟩
theorem Zcc:FnScope ["row","elders","spine","place","keep"] ["row"] (defScope ZcX):=⟨rfl,rfl,rfl,by decide +kernel,rfl,by decide +kernel,by decide +kernel⟩
theorem Zgh:FnScope ["tree","place","way","at"] ["tree","place"] (defScope Zei):=⟨rfl,rfl,rfl,by decide +kernel,rfl,by decide +kernel,by decide +kernel⟩
theorem Zj8:FnScope ["tree","depths"] ["tree"] (defScope ZcY):=⟨rfl,rfl,rfl,by decide +kernel,rfl,by decide +kernel,by decide +kernel⟩
theorem ZmN:FnScope ["tree"] ["tree"] (defScope Zby):=⟨rfl,rfl,rfl,by decide +kernel,rfl,by decide +kernel,by decide +kernel⟩
theorem Zk7:FnScope ["tree"] ["tree"] (defScope ZaY):=⟨rfl,rfl,rfl,by decide +kernel,rfl,by decide +kernel,by decide +kernel⟩
theorem Zj9:FnScope ["tree","place"] ["tree","place"] (defScope ZaK):=⟨rfl,rfl,rfl,by decide +kernel,rfl,by decide +kernel,by decide +kernel⟩
theorem ZnS:FnScope ["tree"] ["tree"] (defScope Zb4):=⟨rfl,rfl,rfl,by decide +kernel,rfl,by decide +kernel,by decide +kernel⟩
theorem Zk8:FnScope ["flat","row"] ["flat","row"] (defScope ZaZ):=⟨rfl,rfl,rfl,by decide +kernel,rfl,by decide +kernel,by decide +kernel⟩
theorem ZrC:FnScope ["flat","heights"] ["flat","heights"] (defScope Zej):=⟨rfl,rfl,rfl,by decide +kernel,rfl,by decide +kernel,by decide +kernel⟩
theorem Zio:FnScope ["tree","heights","up","place"] ["tree","heights"] (defScope Zek):=⟨rfl,rfl,rfl,by decide +kernel,rfl,by decide +kernel,by decide +kernel⟩
theorem Zpl:FnScope ["tree","a","b"] ["tree","a","b"] (defScope ZcZ):=⟨rfl,rfl,rfl,by decide +kernel,rfl,by decide +kernel,by decide +kernel⟩
theorem Zfg:FnScope ["tree","heights","pairs"] ["tree","heights"] (defScope Zaz):=⟨rfl,rfl,rfl,by decide +kernel,rfl,by decide +kernel,by decide +kernel⟩
theorem ZaE:FnScope ["tree","row","flat","heights","pair","far","a","b","made"] ["tree","row"] (defScope Zc0):=⟨rfl,rfl,rfl,by decide +kernel,rfl,by decide +kernel,by decide +kernel⟩
theorem ZdU:FnScope ["tree","heights","far","pair","a","b"] ["tree","heights","far","pair"] (defScope Za0):=⟨rfl,rfl,rfl,by decide +kernel,rfl,by decide +kernel,by decide +kernel⟩
theorem Zcd:FnScope ["tree","row","far","made","pair","heights","near"] ["tree","row","far","made","pair"] (defScope Zal):=⟨rfl,rfl,rfl,by decide +kernel,rfl,by decide +kernel,by decide +kernel⟩
theorem ZbE:FnScope ["tree","least","greatest","flat","floors","roofs","needed","b","height","lifting"] ["tree","least","greatest"] (defScope Zel):=⟨rfl,rfl,rfl,by decide +kernel,rfl,by decide +kernel,by decide +kernel⟩
theorem Zbf:FnScope ["tree","floors","roofs","heights","place","height","elder","needed"] ["tree","floors","roofs","heights"] (defScope Za1):=⟨rfl,rfl,rfl,by decide +kernel,rfl,by decide +kernel,by decide +kernel⟩
theorem ZiV:FnScope ["tree","floors","roofs","a","b","there"] ["tree","floors","roofs","a","b"] (defScope Zb5):=⟨rfl,rfl,rfl,by decide +kernel,rfl,by decide +kernel,by decide +kernel⟩
theorem Zbi:FnScope ["tree","least","greatest","told","flat","floors","roofs"] ["tree","least","greatest","told"] (defScope ZaA):=⟨rfl,rfl,rfl,by decide +kernel,rfl,by decide +kernel,by decide +kernel⟩
theorem ZrD:FnScope ["row","one","other"] ["row","one","other"] (defScope Zem):=⟨rfl,rfl,rfl,by decide +kernel,rfl,by decide +kernel,by decide +kernel⟩
theorem ZbL:FnScope ["row","table","lows","size"] ["row"] (defScope Zbz):=⟨rfl,rfl,rfl,by decide +kernel,rfl,by decide +kernel,by decide +kernel⟩
theorem Zdf:FnScope ["ones","others","one","other","size","more","here","there","a"] ["ones","others","one","other","size"] (defScope Zc1):=⟨rfl,rfl,rfl,by decide +kernel,rfl,by decide +kernel,by decide +kernel⟩
theorem ZrE:FnScope ["one","other"] ["one","other"] (defScope Zen):=⟨rfl,rfl,rfl,by decide +kernel,rfl,by decide +kernel,by decide +kernel⟩
theorem Zk9:FnScope ["entries"] ["entries"] (defScope Za2):=⟨rfl,rfl,rfl,by decide +kernel,rfl,by decide +kernel,by decide +kernel⟩
theorem sc_kin:FnScope ["one","other"] ["one","other"] (defScope ZlN):=⟨rfl,rfl,rfl,by decide +kernel,rfl,by decide +kernel,by decide +kernel⟩
theorem ZnT:FnScope ["tree","row"] ["tree","row"] (defScope Zb6):=⟨rfl,rfl,rfl,by decide +kernel,rfl,by decide +kernel,by decide +kernel⟩
theorem ZbM:FnScope ["tree","heights","lower","a","b"] ["tree","heights"] (defScope ZaL):=⟨rfl,rfl,rfl,by decide +kernel,rfl,by decide +kernel,by decide +kernel⟩
theorem Za4:FnScope ["order","lower","heights","chains","following","place","firsts","best"] ["order","lower","heights"] (defScope ZbA):=⟨rfl,rfl,rfl,by decide +kernel,rfl,by decide +kernel,by decide +kernel⟩
theorem ZtN:FnScope ["height","bar","under"] ["height","bar","under"] (defScope Zge):=⟨rfl,rfl,rfl,by decide +kernel,rfl,by decide +kernel,by decide +kernel⟩
theorem ZX:FnScope ["tree","row","flat","heights","order","chains","following","bars","kept","place","after","made"] ["tree","row"] (defScope ZbB):=⟨rfl,rfl,rfl,by decide +kernel,rfl,by decide +kernel,by decide +kernel⟩
theorem ZtO:FnScope ["row","kept","made"] ["row","kept","made"] (defScope Zgf):=⟨rfl,rfl,rfl,by decide +kernel,rfl,by decide +kernel,by decide +kernel⟩
theorem ZnU:FnScope ["tree","heights","chain"] ["tree","heights","chain"] (defScope Zb7):=⟨rfl,rfl,rfl,by decide +kernel,rfl,by decide +kernel,by decide +kernel⟩
theorem ZdV:FnScope ["tree","row","kept","made","chains","heights","places"] ["tree","row","kept","made","chains"] (defScope Za3):=⟨rfl,rfl,rfl,by decide +kernel,rfl,by decide +kernel,by decide +kernel⟩
theorem ZaC:FnScope ["script","k","cell","great","one","turn"] ["script","k"] (defScope Zb8):=⟨rfl,rfl,rfl,by decide +kernel,rfl,by decide +kernel,by decide +kernel⟩
theorem ZhB:FnScope ["pot","many","digit"] ["pot","many"] (defScope ZbC):=⟨rfl,rfl,rfl,by decide +kernel,rfl,by decide +kernel,by decide +kernel⟩
theorem Zad:FnScope ["pot","most","many","way","row","last","k","far"] ["pot","most"] (defScope Zb9):=⟨rfl,rfl,rfl,by decide +kernel,rfl,by decide +kernel,by decide +kernel⟩
theorem ZM:FnScope ["pot","row","way","by","made","turn","at","other","kept"] ["pot","row"] (defScope Zam):=⟨rfl,rfl,rfl,by decide +kernel,rfl,by decide +kernel,by decide +kernel⟩
theorem ZL:FnScope ["tree","row","far","made","pair","told","least","greatest"] ["tree","row"] (defScope Z7):=⟨rfl,rfl,rfl,by decide +kernel,rfl,by decide +kernel,by decide +kernel⟩
theorem ZaF:FnScope ["tree","row","kept","made","chains"] ["tree","row"] (defScope Z8):=⟨rfl,rfl,rfl,by decide +kernel,rfl,by decide +kernel,by decide +kernel⟩
theorem ZeE:FnScope ["script","k","pot","row","other","tree","alike","far","kept"] ["script"] (defScope Zhz):=⟨rfl,rfl,rfl,by decide +kernel,rfl,by decide +kernel,by decide +kernel⟩
theorem ZnV {f:Addr}{fd:FuncData} (F:Fun K "_law_pot" "_law_pot" Zb8 f fd) (T:Txt K mg):FnOk P w K mg base (CXE P w) 1 f fd ["script","k"] (ZfD K mg):=by
 refine F.okX ZaC (λvs H Q E h=>?_) (λcdv A outer s H vs Q E hr h=>?_)
 ·obtain⟨a,ns,k,rfl,_⟩:=h;rfl
 obtain⟨a,ns,k,rfl,hS,h0,h1,k1⟩:=h
 refine⟨_,(Zd (Zo (i:=2) ZaC.nd rfl (Or.inl rfl) Zh)
   (Zd (Z0 (Zq Zhf (pv 1) (Zj (Zk (K:=K) rfl) rfl T.b_len Yp (Za (pv 0) Zb)) (Zn _)) (Zi (Zo (i:=2) ZaC.nd rfl (Or.inl rfl) (Zy Zx (pv 0) (pv 1) (λ_ _=>rfl)))) ZD)
   (Zd (Z0 (Zq ZsP (pv 2) (Zr Zfp Zh Zh) (Zn _)) (Zi (Zt (Zb0 (Za (Zr Zh1 (Zr Zae (pv 2) (Zr Zfp Zh Zh)) (Zr Zaw (Zr Zaw (Zr Zaw (Zr Zfp Zh Zh) (Zr Zfp Zh Zh)) (Zr Zfp Zh Zh)) (Zr Zfp Zh Zh))) Zb)))) ZD)
   (Zd (Zo (i:=3) ZaC.nd rfl (Or.inl rfl) Zh)
   (Zd (Zo (i:=4) ZaC.nd rfl (Or.inl rfl) (Zr Z9 (Zr Z9 (Zr Zh1 (pv 2) Zh) (Zr Zaw Zh (pv 1))) Zh))
   (Zd (Zbp (ZbZ PassesOwn.never rfl (Zax rfl T.b_range (Za Zh Zb)) (Zm (i:=5) ZaC.nd rfl (Or.inl rfl)) (Zd (Zo (i:=4) ZaC.nd rfl (Or.inl rfl) (Zr Zh1 (Zr Z9 (Zr Z9 (Zr Zaw (pv 4) Zh) (Zr Zaw Zh (pv 5))) Zh) Zh))
   (Zi (Zo (i:=3) ZaC.nd rfl (Or.inl rfl) (Zr Z9 (Zr Zaw (pv 3) Zh) (Zr Zh1 (Zr ZjQ (Zr Zh1 (Zr Zaw (pv 4) (pv 4)) Zh) Zh) Zh)))))))
   (Zi (Zt (Zb0 (Za (pv 3) Zb)))))))))),?_⟩
 simp only[tIfS,tNot,Zno,Zmb,rI0,rI,rU,Zl6,tC,tB,tIf,ZsH,tOrV,ZsI,Zqa,Zp9,tNil,ZqO,tSeq,tRet,ZsJ,tOp,tUn,tAnd,tOr,ZsK,Zfe,gSub,tAug,tCB,tSl,ZoG,tLst,tTup,L2.start,tYes,gTup,Zp3,gNil,Z6,Option.join_some,Option.join_none,rEq,rNe,Zqi,Zqj,Zqk,Zql,Zqm,Zqn,tBM,Bool.true_eq_false,YM,List.map_nil,List.cons_append,List.nil_append,YQ,List.length_nil,List.replicate,List.append_nil,List.set_cons_zero,List.set_cons_succ,List.getElem?_cons_zero,List.getElem?_cons_succ,Option.some.injEq,V.int.injEq,V.bl.injEq,V.ref.injEq,List.cons.injEq,and_true,true_and,exists_eq_left,exists_eq_left',exists_and_left,exists_eq,decide_eq_true_eq,Bool.not_eq_true',decide_eq_false_iff_not,cxK,and_assoc,Bool.false_eq_true,↓reduceIte,Zqg,Zlw,Znv,ZsM,ZsN,Zp4,iTup,iZip,Zh4,ZqW,ZsV,rIsi,Ztd,Ztb,tPar,Zmt,rLen,rLof,rTof,rEqD,Zs8,Zs9,rIn,rSlQ,Ztj,rInD,Ztk,Zmw,Zmy,rAll,rAny,rIxQ,tRev,rSlL,ZsT,Zme,tSl,ipI,Zmm,rRep,Zqo,Zs4,Ztm,Zo0,V.str.injEq,Zo2,Zts,Ztt,tDIn,rSlV,Zty,tLam,ZmF,Zpb,ZlK,Zpe,ZtM,cp18,cp60,qm1,qm2,qm3,qm4]
 have fin:∀g:Int,0<=g->∀p,H p=none->Q (V.ref p) (upd H p (.lst [V.int g])):=λg hg p hp=>k1 p _ hp ((Ze.refl H).upd hp) ⟨_,Zc,hg⟩
 refine⟨_,.inl hS,ZC (λhk=>?_) (λhk=>?_)⟩
 case' refine_1 =>
  obtain⟨j,hj0⟩:=YU h0
  have hj:j<(ns.map V.int).length:=by omega
  refine⟨_,hS,_,Zh7 hj0 hj,ns[j]'(by simpa using hj),by simp,ZC (λ_=>⟨ns[j]'(by simpa using hj),by simp,by decide,fin _ (Int.emod_nonneg _ (by decide +kernel))⟩) (λ_=>⟨ns[j]'(by simpa using hj),by simp,by decide,Zec (by decide) (by decide),by decide,by decide,?_⟩)⟩
 case' refine_2 =>
  refine ZC (λz=>absurd z (by decide)) (λ_=>⟨by decide,Zec (by decide) (by decide),by decide,by decide,?_⟩)
 all_goals
  refine Zbw (λi σ H'=>∃v2 g o v5,σ=[some (.ref a),some (.int k),v2,some (.int g),some (.int o),v5]/\0<=g/\H'=H) ⟨_,0,_,none,rfl,Int.le_refl _,rfl⟩ ?_ ?_
  ·rintro i σ H' hi ⟨v2,g,o,v5,rfl,hg,rfl⟩
   walk_at "rd"
   have b1:=Int.emod_nonneg (o*48271+7919*(0+(i:Int))+104729) (b:=2147483647) (by decide)
   have b2:=Int.emod_lt_of_pos (o*48271+7919*(0+(i:Int))+104729) (b:=2147483647) (by decide)
   refine⟨mul_r (by decide) (by decide),Zec (by decide) (by decide),by decide,mul_r (by decide) (by decide),Zec (by omega) (by omega),by decide,⟨by decide,by decide⟩,by decide,?_⟩
   have b3:=Int.emod_nonneg ((o*48271+7919*(0+(i:Int))+104729) % 2147483647*((o*48271+7919*(0+(i:Int))+104729) % 2147483647) % 2147483629 / 128) (b:=1048576) (by decide)
   have b4:=Int.mul_nonneg hg (show(0:Int)<=1048576 by decide)
   omega
  ·rintro σ H' ⟨v2,g,o,v5,rfl,hg,rfl⟩
   walk_at "rd"
   exact⟨by decide,fin g hg⟩
theorem ZmO {f:Addr}{fd:FuncData} (F:Fun K "_law_take" "_law_take" ZbC f fd) (T:Txt K mg):FnOk P w K mg base (CXE P w) 1 f fd ["pot","many"] (ZcJ K mg):=by
 refine F.okX ZhB (λvs H Q E h=>?_) (λcdv A outer s H vs Q E hr h=>?_)
 ·obtain⟨p,many,rfl,_⟩:=h;rfl
 obtain⟨p,many,rfl,h0,h1,⟨x,hp,hx⟩,k1⟩:=h
 refine⟨_,(Zd (Zo (i:=2) ZhB.nd rfl (Or.inl rfl) (Zr Zh1 (Zy Zx (pv 0) Zh (λ_ _=>rfl)) (pv 1)))
   (Zd (Zc3 (Zr ZjQ (Zy Zx (pv 0) Zh (λ_ _=>rfl)) (pv 1)) (Zh0 (pv 0) Zh set_list (λ_=>rfl)))
   (Zi (Zt (pv 2))))),?_⟩
 walk_at "rd"
 refine⟨_,SqL.of hp,_,rfl,_,rfl,h0,?_⟩
 refine⟨_,SqL.of hp,_,rfl,_,rfl,⟨h0,by omega⟩,_,hp,_,rfl,?_⟩
 exact k1 _ _ (Int.emod_nonneg _ (by omega)) (Int.emod_lt_of_pos _ h0) ⟨_,Zc,Int.ediv_nonneg hx (by omega)⟩ Exc.upd
theorem ZnW {f:Addr}{fd:FuncData} (F:Fun K "_law_row" "_law_row" Zb9 f fd) (ZA:Callee P w K mg base "_law_take" 1 ["pot","many"] (ZcJ K mg)) (T:Txt K mg):FnOk P w K mg base (CXE P w) 2 f fd ["pot","most"] (Zdx K mg):=by
 refine F.okX Zad (λvs H Q E h=>?_) (λcdv A outer s H vs Q E hr h=>?_)
 ·obtain⟨p,most,rfl,_⟩:=h;rfl
 obtain⟨p,most,rfl,h0,h1,hP,k1⟩:=h
 refine⟨_,(Zd (Zo (i:=2) Zad.nd rfl (Or.inl rfl) (Zf ZA (hr.mono (by decide)) rfl Zv (Za (pv 0) (Za (Zr Z9 (pv 1) Zh) Zb))))
   (Zd (Z0 (Zq Zbd (Zf ZA (hr.mono (by decide)) rfl Zv (Za (pv 0) (Za Zh Zb))) Zh (Zn _)) (Zi (Zo (i:=2) Zad.nd rfl (Or.inl rfl) (pv 1))) ZD)
   (Zd (Zo (i:=3) Zad.nd rfl (Or.inl rfl) (Zf ZA (hr.mono (by decide)) rfl Zv (Za (pv 0) (Za Zh Zb))))
   (Zd (Zo (i:=4) Zad.nd rfl (Or.inl rfl) (Zb0 Zb))
   (Zd (Zo (i:=5) Zad.nd rfl (Or.inl rfl) Zh)
   (Zd (Zbp (ZbZ PassesOwn.never rfl (Zax rfl T.b_range (Za (pv 2) Zb)) (Zm (i:=6) Zad.nd rfl (Or.inl rfl)) (Zd (Zo (i:=7) Zad.nd rfl (Or.inl rfl) (Zr Z9 (Zr Zfp Zh Zh) (Zf ZA (hr.mono (by decide)) rfl Zv (Za (pv 0) (Za (Zr Z9 Zh (Zr Zaw (Zr Zfp Zh Zh) (Zak Zh9 rfl T.b_int ZoI (Za (ZI Zbd (pv 3) Zh (Zn _)) Zb)))) Zb)))))
   (Zi (Z0 (Zq Zbd (pv 3) Zh (Zn _)) (Zi (Zbg (Zfs PySem.F.plainAttrs_list PySem.F.slot_list_insert PySem.F.type_list_insert Zq4 (pv 4) (Za (Zf ZA (hr.mono (by decide)) rfl Zv (Za (pv 0) (Za (Zr Z9 (pv 6) Zh) Zb))) (Za (pv 6) Zb))))) (Zi (Z0 (Zq Zbd (pv 3) Zh (Zn _)) (Zd (Zo (i:=5) Zad.nd rfl (Or.inl rfl) (Zr Zae (Zr Z9 (pv 5) (Zf ZA (hr.mono (by decide)) rfl Zv (Za (pv 0) (Za Zh Zb)))) Zh))
   (Zi (Zbg (Zfs PySem.F.plainAttrs_list PySem.F.slot_list_append PySem.F.type_list_append ZaW (pv 4) (Za (pv 5) Zb))))) (Zi (Z0 (Zq Zbd (pv 3) Zh (Zn _)) (Zd (Zo (i:=5) Zad.nd rfl (Or.inl rfl) (Zr Z9 (Zr Zae (pv 5) Zh) (Zr Zaw Zh (Zak Zh9 rfl T.b_int ZoI (Za (ZI Zbd (Zf ZA (hr.mono (by decide)) rfl Zv (Za (pv 0) (Za Zh Zb))) Zh (Zn _)) Zb)))))
   (Zi (Zbg (Zfs PySem.F.plainAttrs_list PySem.F.slot_list_append PySem.F.type_list_append ZaW (pv 4) (Za (pv 5) Zb))))) (Zi (Z0 (Zq Zbd (pv 3) Zh (Zn _)) (Zi (Zbg (Zfs PySem.F.plainAttrs_list PySem.F.slot_list_append PySem.F.type_list_append ZaW (pv 4) (Za (Zy Zx (Zb0 (Za (pv 7) (Za (Zlq Zh2 (pv 7)) (Za Zh (Za (Zf ZA (hr.mono (by decide)) rfl Zv (Za (pv 0) (Za Zh Zb))) Zb))))) (Zf ZA (hr.mono (by decide)) rfl Zv (Za (pv 0) (Za Zh Zb))) (λ_ _=>rfl)) Zb)))) (Zi (Zbg (Zfs PySem.F.plainAttrs_list PySem.F.slot_list_append PySem.F.type_list_append ZaW (pv 4) (Za (Zr Zae (Zf ZA (hr.mono (by decide)) rfl Zv (Za (pv 0) (Za (Zy Zaq (ZbH (Za Zh (Za (Zr Zaw Zh (pv 2)) Zb))) (pv 3) (λ_ _=>rfl)) Zb))) (pv 3)) Zb)))))))))))))))
   (Zi (Zt (pv 4))))))))),?_⟩
 walk_at "rd"
 refine⟨p,_,rfl,by omega,by omega,hP,λd1 H1 d10 d11 P1 e1=>⟨p,_,rfl,by decide,by decide,P1,λd2 H2 d20 d21 P2 e2=>⟨rfl,?_⟩⟩⟩
 walk_at "rd"
 refine ZC (λhz=>⟨p,_,rfl,by decide,by decide,P2,λway H3 w0 w1 P3 e30=>⟨Yt _,λq hq=>⟨by omega,by omega,?_⟩⟩⟩) (λhz=>⟨p,_,rfl,by decide,by decide,P2,λway H3 w0 w1 P3 e30=>⟨Yt _,λq hq=>⟨by omega,by omega,?_⟩⟩⟩)
 case' refine_1=>obtain⟨many,hmany,m0,m1⟩:∃m:Int,m=most/\0<=m/\m<=most:=⟨most,rfl,h0,Int.le_refl _⟩
 case' refine_2=>obtain⟨many,hmany,m0,m1⟩:∃m:Int,m=d1/\0<=m/\m<=most:=⟨d1,rfl,d10,by omega⟩
 all_goals
  have e3:Exc p H H3:=(e1.trans e2).trans e30
  have hqp:q≠p:=P3.ne hq
  have hqH:H q=none:=e3.free hqp hq
  refine Zbw (λi σ H'=>∃ns last v6 v7,σ=[some (.ref p),some (.int most),some (.int many),some (.int way),some (.ref q),some (.int last),v6,v7]/\ns.length=i/\H' q=some (.lst (ns.map V.int))/\Zab H' p/\Exc p H H') ⟨[],0,none,none,by rw[hmany],rfl,Zc,P3.upd hq,e3.same ((Ze.refl H3).upd hq)⟩ ?_ ?_
  ·rintro i σ H' hi ⟨ns,last,v6,v7,rfl,hlen,hq',P',e'⟩
   have hb:ns.length<sizeLine:=Yv (show _<=1000 by omega) (by decide)
   walk_at "rd"
   have e9:(10:Int) ^ Int.toNat 9=1000000000:=by decide
   rw[e9]
   have app2:∀(y:Int) (Hx:Hp),Hx q=some (.lst (ns.map V.int))->Zab Hx p->Exc p H Hx->∃x_1,Hx q=some (HO.lst x_1)/\x_1.length<sizeLine/\∃ns',ns'.length=i+1/\upd Hx q (HO.lst (x_1++[V.int y])) q=some (HO.lst (List.map V.int ns'))/\Zab (upd Hx q (HO.lst (x_1++[V.int y]))) p/\Exc p H (upd Hx q (HO.lst (x_1++[V.int y]))) :=
    λy Hx hx Px ex=>⟨_,hx,by simpa using hb,ns++[y],by simp[hlen],by rw[Zc];simp,Px.Zms hqp,ex.Zms hqH⟩
   refine⟨cp59,cp9,Zec (by decide) (by decide),p,_,rfl,by split<;>omega,by split<;>omega,P',λd3 H4 d30 d31 P4 e4=>⟨_,rfl,?_⟩⟩
   have hq4:H4 q=some (.lst (ns.map V.int)):=e4 _ _ hqp hq'
   have eH4:Exc p H H4:=e'.trans e4
   refine ZC (λ_=>?_) λg2=>ZC (λ_=>?_) λg3=>ZC (λ_=>?_) λg4=>ZC (λ_=>?_) λg5=>?_
   ·refine⟨ZaG hq4,p,_,rfl,by omega,by omega,P4,λd5 H5 d50 d51 P5 e5=>⟨_,d5,rfl,e5 _ _ hqp hq4,d50,by omega,by simpa using hb,ns.take d5.toNat++(0+(i:Int))::ns.drop d5.toNat,?_,?_,P5.Zms hqp,(eH4.trans e5).Zms hqH⟩⟩
    ·simp;omega
    ·rw[Zc];simp
   ·exact⟨p,_,rfl,by decide,by decide,P4,λd5 H5 d50 d51 P5 e5=>⟨_,rfl,ZaG (e5 _ _ hqp hq4),app2 _ H5 (e5 _ _ hqp hq4) P5 (eH4.trans e5)⟩⟩
   ·exact⟨p,_,rfl,by decide,by decide,P4,λd5 H5 d50 d51 P5 e5=>⟨rfl,Zec (by decide) (by decide),ZaG (e5 _ _ hqp hq4),app2 _ H5 (e5 _ _ hqp hq4) P5 (eH4.trans e5)⟩⟩
   ·refine⟨ZaG hq4,p,_,rfl,by decide,by decide,P4,λd5 H5 d50 d51 P5 e5=>⟨by decide,λz hz2=>⟨p,_,rfl,by decide,by decide,P5.upd hz2,λd6 H6 d60 d61 P6 e6=>?_⟩⟩⟩
    have hq5:H5 q=some (.lst (ns.map V.int)):=e5 _ _ hqp hq4
    have hq6:H6 q=some (.lst (ns.map V.int)):=e6 _ _ hqp (((Ze.refl H5).upd hz2) _ _ hq5)
    have eH6:Exc p H H6:=((eH4.trans e5).same ((Ze.refl H5).upd hz2)).trans e6
    obtain⟨v,hv,y,rfl⟩:=Zqh (xs:=[V.int (10 ^ Int.toNat 59+d3),V.int (-(10 ^ Int.toNat 59+d3)),V.int 0,V.int d5]) (i:=d6) (λv=>∃y:Int,v=V.int y) d60 d61 (by
     intro x hx
     simp at hx
     rcases hx with rfl|rfl|rfl|rfl<;>exact⟨_,rfl⟩)
    exact⟨_,d6,rfl,SqL.of (e6 _ _ (P5.ne hz2) Zc),_,hv,app2 y H6 hq6 P6 eH6⟩
   ·refine⟨ZaG hq4,Zec (by decide) (by decide),by decide,λz hz2=>?_⟩
    obtain⟨v,hv,y,rfl,hy0,hy1⟩:=Zqh (xs:=[V.int 3,V.int (4*many)]) (i:=way) (λv=>∃y:Int,v=V.int y/\0<y/\y<=4000) w0 (show way<2 by omega) (by
     intro x hx
     simp at hx
     rcases hx with rfl|rfl
     ·exact⟨_,rfl,by decide,by decide⟩
     ·exact⟨_,rfl,by omega,by omega⟩)
    refine⟨_,SqT.of Zc,_,hv,p,y,rfl,hy0,by omega,P4.upd hz2,λd5 H5 d50 d51 P5 e5=>⟨_,rfl,?_⟩⟩
    have hq5:H5 q=some (.lst (ns.map V.int)):=e5 _ _ hqp (((Ze.refl H4).upd hz2) _ _ hq4)
    exact app2 _ H5 hq5 P5 ((eH4.same ((Ze.refl H4).upd hz2)).trans e5)
  ·rintro σ H' ⟨ns,last,v6,v7,rfl,hlen,hq',P',e'⟩
   walk_at "rd"
   exact k1 q ns H' hqH (by omega) hq' P' e'
theorem Ziq {f:Addr}{fd:FuncData} (F:Fun K "_law_near_row" "_law_near_row" Zam f fd) (ZA:Callee P w K mg base "_law_take" 1 ["pot","many"] (ZcJ K mg)) (Zcf:Callee P w K mg base "_law_row" 2 ["pot","most"] (Zdx K mg)) (T:Txt K mg):FnOk P w K mg base (CXE P w) 3 f fd ["pot","row"] (Zca K mg):=by
 refine F.okX ZM (λvs H Q E h=>?_) (λcdv A outer s H vs Q E hr h=>?_)
 ·obtain⟨p,r,ns,rfl,_⟩:=h;rfl
 obtain⟨p,r,ns,rfl,hP,hr0,nrp,hn,k1⟩:=h
 refine⟨_,(Zd (Zo (i:=2) ZM.nd rfl (Or.inl rfl) (Zf ZA (hr.mono (by decide)) rfl Zv (Za (pv 0) (Za Zh Zb))))
   (Zd (Zo (i:=3) ZM.nd rfl (Or.inr rfl) (Zr Z9 Zh (Zf ZA (hr.mono (by decide)) rfl Zv (Za (pv 0) (Za Zh Zb)))))
   (Zd (Zc7 (i:=4) ["number","by"] [none,some 3] ZM.nd rfl (Or.inl rfl) rfl rfl rfl (Zag (pv 1)) (λ_ _ _ _ _=>(Zm (i:=0) (show(["number","by"]:List Str).Nodup from by decide +kernel) rfl (Or.inl rfl))) (λ_ _ _ _ _=>ZG) (λ_ _ _ _ _=>(Zr Zae (Zr Z9 (Zr Zaw (pv 1) (pv 0)) (Zr Zaw (pv 1) (pv 1))) Zh)) Zp)
   (Zd (Zbp (ZbZ PassesOwn.never rfl (Zax rfl T.b_range (Za (Zr Zaw (pv 2) (Zak Zh9 rfl T.b_int ZoI (Za (ZbG (ZI Zhf (pv 2) Zh (Zn _)) (Zbo (ZI (Zgy (K:=K) rfl hr) (pv 1) (Zb0 Zb) (Zn _)))) Zb))) Zb)) (Zm (i:=5) ZM.nd rfl (Or.inl rfl)) (Zd (Zo (i:=6) ZM.nd rfl (Or.inl rfl) (Zf ZA (hr.mono (by decide)) rfl Zv (Za (pv 0) (Za (Zj (Zk (K:=K) rfl) rfl T.b_len Yp (Za (pv 1) Zb)) Zb))))
   (Zd (Zo (i:=7) ZM.nd rfl (Or.inl rfl) (Zf ZA (hr.mono (by decide)) rfl Zv (Za (pv 0) (Za (Zj (Zk (K:=K) rfl) rfl T.b_len Yp (Za (pv 1) Zb)) Zb))))
   (Zd (Zo (i:=8) ZM.nd rfl (Or.inl rfl) (Zy Zx (pv 4) (pv 6) (λ_ _=>rfl)))
   (Zd (Zc3 (Zr Zae (Zr Z9 (Zy Zx (pv 4) (pv 7) (λ_ _=>rfl)) (Zf ZA (hr.mono (by decide)) rfl Zv (Za (pv 0) (Za Zh Zb)))) Zh) (Zh0 (pv 4) (pv 6) set_list (λ_=>rfl)))
   (Zi (Z0 (Zq Zbd (Zf ZA (hr.mono (by decide)) rfl Zv (Za (pv 0) (Za Zh Zb))) Zh (Zn _)) (Zi (Zc3 (pv 8) (Zh0 (pv 4) (pv 7) set_list (λ_=>rfl)))) ZD))))))))
   (Zd (Z0 (Zq Zbd (pv 2) Zh (Zn _)) (Zi (Zo (i:=4) ZM.nd rfl (Or.inl rfl) (Zf Zcf (hr.mono (by decide)) rfl Zv (Za (pv 0) (Za (Zj (Zk (K:=K) rfl) rfl T.b_len Yp (Za (pv 1) Zb)) Zb))))) ZD)
   (Zi (Zt (pv 4)))))))),?_⟩
 have eL:(ns.map V.int).length=ns.length:=Yf ..
 refine Zah (fun σ Hx=>∃wy:Int,0<=wy/\wy<5/\σ=[some (.ref p),some (.ref r),some (.int wy),none,none,none,none,none,none]/\Zab Hx p/\Exc p H Hx) (λR hR=>?_) ?_
 ·walk_at "rd"
  exact⟨p,_,rfl,by decide,by decide,hP,λd H' d0 d1 P' e=>hR _ _ ⟨d,d0,d1,rfl,P',e⟩⟩
 rintro σ H1 ⟨wy,w0,w1,rfl,P1,e1⟩
 refine Zah (fun σ Hx=>∃b:Int,1<=b/\b<=3/\σ=[some (.ref p),some (.ref r),some (.int wy),some (.int b),none,none,none,none,none]/\Zab Hx p/\Exc p H Hx) (λR hR=>?_) ?_
 ·walk_at "rd"
  exact⟨p,_,rfl,by decide,by decide,P1,λd H' d0 d1 P' e=>⟨d,rfl,hR _ _ ⟨1+d,by omega,by omega,rfl,P',e1.trans e⟩⟩⟩
 rintro σ H2 ⟨b,b0,b1,rfl,P2,e2⟩
 have hr2:=e2 _ _ nrp hr0
 refine Zah (fun σ Hx=>∃(l:Addr) (ms:List Int),σ=[some (.ref p),some (.ref r),some (.int wy),some (.int b),some (.ref l),none,none,none,none]/\ms.length=ns.length/\H l=none/\l≠p/\Hx l=some (.lst (ms.map V.int))/\Zab Hx p/\Exc p H Hx) (λR hR=>?_) ?_
 ·walk_at "rd"
  refine⟨⟨_,SqL.of hr2⟩,?_⟩
  refine comp_map (n:=ns.length) (λj=>V.int (b*nth ns j+b*b-3)) (Yv (show _<=1000 by omega) (by decide)) (λj Hx s hj=>⟨_,_,SqL.of (s _ _ hr2),Yg (by simpa using hj)⟩) (λHx s=>⟨_,SqL.of (s _ _ hr2),by simp⟩) ?_ ?_
  ·rintro j x Hx Hy hj s ⟨rfl,hx⟩
   have ex:=hx _ (SqL.of (s _ _ hr2))
   rw[YG,Yg hj]at ex
   cases ex
   have eg:nth ns j=ns[j]:=by simp[nth,Yl,hj]
   walk_at "rd"
   refine⟨Zec (by omega) (by omega),Zec (by omega) (by omega),CW.next hj (by rw[eg]) s⟩
  ·intro l Hx s hl
   have nlp:l≠p:=(P2.same s).ne hl
   have ex:=e2.same (s.ZP (o:=.lst ((List.range ns.length).map λj=>V.int (b*nth ns j+b*b-3))) hl)
   refine hR _ _ ⟨l,(List.range ns.length).map λj=>b*nth ns j+b*b-3,rfl,by simp,e2.free nlp (s.free hl),nlp,?_,P2.same (s.ZP hl),ex⟩
   rw[Zc,YT];rfl
 rintro σ H3 ⟨l,ms,rfl,hml,zl,nlp,hl3,P3,e3⟩
 refine Zah (fun σ Hx=>∃(ms:List Int) (v5 v6 v7 v8:Option V),σ=[some (.ref p),some (.ref r),some (.int wy),some (.int b),some (.ref l),v5,v6,v7,v8]/\ms.length=ns.length/\Hx l=some (.lst (ms.map V.int))/\Zab Hx p/\Exc p H Hx) (λR hR=>?_) ?_
 ·walk_at "rd"
  have fin:∀(σ:L2.St) (Hx:Hp),(∃(ms:List Int) (v5 v6 v7 v8:Option V),σ=[some (.ref p),some (.ref r),some (.int wy),some (.int b),some (.ref l),v5,v6,v7,v8]/\ms.length=ns.length/\Hx l=some (.lst (ms.map V.int))/\Zab Hx p/\Exc p H Hx)->R σ Hx:=fun σ Hx h=>hR σ Hx h
  refine ZC (λz=>⟨Yt _,λq hq=>?_⟩) λz=>⟨Zec (by omega) (by omega),by omega,by omega,Zbw (λi σ Hx=>∃(ms:List Int) (v5 v6 v7 v8:Option V),σ=[some (.ref p),some (.ref r),some (.int wy),some (.int b),some (.ref l),v5,v6,v7,v8]/\ms.length=ns.length/\Hx l=some (.lst (ms.map V.int))/\Zab Hx p/\Exc p H Hx) ⟨ms,none,none,none,none,rfl,hml,hl3,P3,e3⟩ (λi σ Hx hi=>absurd hi (by simp)) fin⟩
  have u:=(Ze.refl H3).upd (o:=.lst []) hq
  refine⟨_,Zjj (n:=2) Zcj _ _ ns [] (Zcu (SqL.of (u _ _ (e3 _ _ nrp hr0)))) (Zcu (ns:=[]) (SqL.of Zc)),Zec (by omega) (by omega),by split<;>omega,by split<;>omega,Zbw (λi σ Hx=>∃(ms:List Int) (v5 v6 v7 v8:Option V),σ=[some (.ref p),some (.ref r),some (.int wy),some (.int b),some (.ref l),v5,v6,v7,v8]/\ms.length=ns.length/\Hx l=some (.lst (ms.map V.int))/\Zab Hx p/\Exc p H Hx) ⟨ms,none,none,none,none,rfl,hml,u _ _ hl3,P3.same u,e3.same u⟩ ?_ fin⟩
  clear u hml hl3 P3 e3 ms
  rintro i σ Hx hi ⟨ms,v5,v6,v7,v8,rfl,hml,hxl,Px,ex⟩
  have hne:ns≠[]:=λe=>by
   rw[Yy e]at hi
   simp at hi
  have hpos:0<ns.length:=List.length_pos_iff.mpr hne
  have hrx:=ex _ _ nrp hr0
  have eM:(ms.map V.int).length=ms.length:=Yf ..
  walk_at "rd"
  refine⟨_,.inl (SqL.of hrx),p,_,rfl,by rw[eL];omega,by rw[eL];omega,Px,λd1 H1 d10 d11 P1 e1=>⟨_,.inl (SqL.of (e1 _ _ nrp hrx)),p,_,rfl,by rw[eL];omega,by rw[eL];omega,P1,λd2 H2 d20 d21 P2 e2=>?_⟩⟩
  rw[eL]at d11 d21
  obtain⟨a,rfl⟩:=YU d10
  obtain⟨c,rfl⟩:=YU d20
  have hl2:=e2 _ _ nlp (e1 _ _ nlp hxl)
  refine⟨_,_,rfl,SqL.of hl2,_,ZN (by omega),_,_,rfl,SqL.of hl2,_,ZN (by omega),p,_,rfl,by decide,by decide,P2,λd3 H4 d30 d31 P4 e4=>⟨_,rfl,d3,rfl,_,_,rfl,e4 _ _ nlp hl2,a,by rw[eM];exact Zhp (by omega),?_⟩⟩
  have em:(ms.map V.int).set a (V.int (nth ms c+d3-1))=(ms.set a (nth ms c+d3-1)).map V.int:=by rw[List.map_set]
  rw[em]
  have P5:Zab (upd H4 l (.lst ((ms.set a (nth ms c+d3-1)).map V.int))) p:=P4.Zms nlp
  have e5:Exc p H (upd H4 l (.lst ((ms.set a (nth ms c+d3-1)).map V.int))):=(((ex.trans e1).trans e2).trans e4).Zms zl
  refine⟨p,_,rfl,by decide,by decide,P5,λd4 H5 d40 d41 P6 e6=>⟨rfl,ZC (λy=>⟨_,_,rfl,e6 _ _ nlp Zc,c,by rw[Yf,List.length_set];exact Zhp (by omega),?_⟩) λy=>⟨_,by simp[hml],e6 _ _ nlp Zc,P6,e5.trans e6⟩⟩⟩
  have em2:((ms.set a (nth ms c+d3-1)).map V.int).set c (V.int (nth ms a))=((ms.set a (nth ms c+d3-1)).set c (nth ms a)).map V.int:=by simp[List.map_set]
  rw[em2]
  exact⟨_,by simp[hml],Zc,P6.Zms nlp,(e5.trans e6).Zms zl⟩
 clear hl3 P3 e3 H3 hml ms
 rintro σ H3 ⟨ms,v5,v6,v7,v8,rfl,hml,hl3,P3,e3⟩
 refine Zah (fun σ Hx=>∃(l:Addr) (ms:List Int),σ=[some (.ref p),some (.ref r),some (.int wy),some (.int b),some (.ref l),v5,v6,v7,v8]/\ms.length<=ns.length/\H l=none/\Hx l=some (.lst (ms.map V.int))/\Zab Hx p/\Exc p H Hx) (λR hR=>?_) ?_
 ·walk_at "rd"
  refine ZC (λz=>⟨_,.inl (SqL.of (e3 _ _ nrp hr0)),p,_,rfl,by omega,by rw[eL];omega,P3,λq row H4 hq hl hrow P4 e4=>hR _ _ ⟨q,row,rfl,by rw[eL]at hl;omega,e3.free (P3.ne hq) hq,hrow,P4,e3.trans e4⟩⟩) λz=>hR _ _ ⟨l,ms,rfl,by omega,zl,hl3,P3,e3⟩
 rintro σ H4 ⟨l,ms,rfl,hml,zl,hl4,P4,e4⟩
 walk_at "rd"
 exact k1 l ms _ zl hl4 hml P4 e4
theorem ZrF {f:Addr}{fd:FuncData} (F:Fun K "settle" "settle" Zeh f fd) (T:Txt K mg):FnOk P w K mg base (CXE P w) 1 f fd ["elders","spine","place","keep"] (Zih K mg):=by
 refine F.okX ZrB (λvs H Q E h=>?_) (λcdv A outer s H vs Q E hr h=>?_)
 ·obtain⟨el,sp,es,A,B,i,rfl,_⟩:=h;rfl
 obtain⟨el,sp,es,A',B,i,rfl,hel,hsp,hne,hi,hq,hlen,k1⟩:=h
 refine⟨_,(Zd (Z0 (Zq Zhf (pv 3) (Zj (Zk (K:=K) rfl) rfl T.b_len Yp (Za (pv 1) Zb)) (Zn _)) (Zi (Zc3 (pv 2) (Zh0 (pv 0) (Zy Zx (pv 1) (pv 3) (λ_ _=>rfl)) set_list (λ_=>rfl)))) ZD)
   (Zd (Z0 (Zq Zff (pv 3) Zh (Zn _)) (Zi (Zc3 (Zy Zx (pv 1) (Zr Zae (pv 3) Zh) (λ_ _=>rfl)) (Zh0 (pv 0) (pv 2) set_list (λ_=>rfl)))) ZD)
   (Zd (ZoM (pv 1) (pv 3))
   (Zi (Zbg (Zfs PySem.F.plainAttrs_list PySem.F.slot_list_append PySem.F.type_list_append ZaW (pv 1) (Za (pv 2) Zb))))))),?_⟩
 walk_at "rd"
 have hb1:(ZaB A').length<sizeLine:=by
  rw[Zb1]
  rw[YN]at hlen
  exact Yv (show _<=1000 by omega) (by decide)
 have etk:List.take A'.length (ZaB (A'++B))=ZaB A':=by
  rw[Zib]
  have:A'.length=(ZaB A').length:=(Zb1 A').symm
  rw[this,List.take_left]
 have hle:A'.length<=(ZaB (A'++B)).length:=by rw[Zb1,YN];omega
 have esn:ZaB A'++[V.int (i:Nat)]=ZaB (A'++[i]):=by rw[Zib];rfl
 refine⟨_,.inl (SqL.of hsp),?_⟩
 rw[Zb1,YN]
 -- the end: behind the two stores
 have fin:∀(es1:List Int) (Hx:Hp),(∀b o,b≠el->b≠sp->H b=some o->Hx b=some o)->Hx el=some (.lst (es1.map V.int))->Hx sp=some (.lst (ZaB (A'++B)))->es1=Zja es A' B i ->
   ∃(xs:List V) (k:Nat),(A'.length:Int)=(k:Int)/\Hx sp=some (HO.lst xs)/\k<=xs.length/\tyV K "list" (V.ref sp) (upd Hx sp (HO.lst (List.take k xs)))/\∃x,upd Hx sp (HO.lst (List.take k xs)) sp=some (HO.lst x)/\x.length<sizeLine/\Q V.non (upd (upd Hx sp (HO.lst (List.take k xs))) sp (HO.lst (x++[V.int (i:Nat)]))):=by
  intro es1 Hx h1 h2 h3 h4
  refine⟨_,A'.length,rfl,h3,hle,ZaG Zc,_,Zc,by rw[etk];exact hb1,k1 _ (λb o n1 n2 z=>by rw[Zl n2,Zl n2];exact h1 b o n1 n2 z) (by rw[Zl hne,Zl hne,h2,h4]) (by rw[Zc,etk,esn])⟩
 -- elders[place]=spine[keep-1]
 have mid:∀(es1:List Int) (Hx:Hp),(∀b o,b≠el->b≠sp->H b=some o->Hx b=some o)->Hx el=some (.lst (es1.map V.int))->es1.length=es.length->Hx sp=some (.lst (ZaB (A'++B)))->∀q,A'.getLast?=some q->es1.set i (q:Int)=Zja es A' B i ->
   ∃x,SqL K Hx sp x/\∃x_1,atI x ((A'.length:Int)-1)=some x_1/\∃x,Hx el=some (HO.lst x)/\∃x_2,ixN x.length (i:Int)=some x_2/\∃(xs:List V) (k:Nat),(A'.length:Int)=(k:Int)/\upd Hx el (HO.lst (x.set x_2 x_1)) sp=some (HO.lst xs)/\k<=xs.length/\tyV K "list" (V.ref sp) (upd (upd Hx el (HO.lst (x.set x_2 x_1))) sp (HO.lst (List.take k xs))) /\
    ∃x_3,upd (upd Hx el (HO.lst (x.set x_2 x_1))) sp (HO.lst (List.take k xs)) sp=some (HO.lst x_3)/\x_3.length<sizeLine/\Q V.non (upd (upd (upd Hx el (HO.lst (x.set x_2 x_1))) sp (HO.lst (List.take k xs))) sp (HO.lst (x_3++[V.int (i:Nat)]))):=by
  intro es1 Hx h1 h2 hl1 h3 q hq h4
  have hpos:0<A'.length:=by
   cases A' with
   |nil=>cases hq
   |cons _ _=>simp
  have hat:(A'++B)[A'.length-1]?=some q:=by
   rw[List.getElem?_append_left (by omega)]
   rw[List.getLast?_eq_getElem?]at hq;exact hq
  have ei:((A'.length:Int)-1)=((A'.length-1:Nat):Int):=by omega
  refine⟨_,SqL.of h3,_,by rw[ei];exact ZjK hat,_,h2,i,by rw[Yf,hl1];exact Zhp hi,?_⟩
  have em:(es1.map V.int).set i (V.int (q:Nat))=(es1.set i (q:Int)).map V.int:=by rw[List.map_set]
  rw[em]
  exact fin _ _ (λb o n1 n2 z=>by rw[Zl n1];exact h1 b o n1 n2 z) Zc (by rw[Zl hne.symm];exact h3) h4
 cases B with
 |nil =>
  rw[Yc (by simp)]
  cases hq:A'.getLast? with
  |none =>
   have:A'=[]:=List.getLast?_eq_none_iff.mp hq
   rw[Yc (by rw[this];simp)]
   exact fin es H (λb o _ _ z=>z) hel hsp (by unfold Zja;rw[hq];rfl)
  |some q =>
   have:A'≠[]:=λz=>by rw[z]at hq;cases hq
   rw[Yd (by have:=List.length_pos_iff.mpr this;omega)]
   exact mid es H (λb o _ _ z=>z) hel rfl hsp q hq (by unfold Zja;rw[hq];rfl)
 |cons b Br =>
  rw[Yd (by simp;omega)]
  have hat:(A'++b::Br)[A'.length]?=some b:=by rw[Ja (Ye _)];simp
  have hbn:b<es.length:=hq b (by simp)
  refine⟨_,SqL.of hsp,_,ZjK hat,_,_,rfl,hel,b,by rw[Yf];exact Zhp hbn,?_⟩
  have em:(es.map V.int).set b (V.int (i:Nat))=(es.set b (i:Int)).map V.int:=by rw[List.map_set]
  rw[em]
  cases hq2:A'.getLast? with
  |none =>
   have:A'=[]:=List.getLast?_eq_none_iff.mp hq2
   rw[Yc (by rw[this];simp)]
   exact fin (es.set b i) _ (λc o n1 n2 z=>by rw[Zl n1];exact z) Zc (by rw[Zl hne.symm];exact hsp) (by unfold Zja;rw[hq2];rfl)
  |some q =>
   have:A'≠[]:=λz=>by rw[z]at hq2;cases hq2
   rw[Yd (by have:=List.length_pos_iff.mpr this;omega)]
   exact mid (es.set b i) _ (λc o n1 n2 z=>by rw[Zl n1];exact z) Zc (by simp) (by rw[Zl hne.symm];exact hsp) q hq2 (by unfold Zja;rw[hq2];rfl)
theorem Zpm {f:Addr}{fd:FuncData} (F:Fun K "tree_of" "tree_of" ZcX f fd) (Zkm:Callee P w K mg base "settle" 1 ["elders","spine","place","keep"] (Zih K mg)) (T:Txt K mg):FnOk P w K mg base (CXE P w) 2 f fd ["row"] (ZaT K mg):=by
 refine F.okX Zcc (λvs H Q E h=>?_) (λcdv A outer s H vs Q E hr h=>?_)
 ·obtain⟨r,ns,rfl,_⟩:=h;rfl
 obtain⟨r,ns,rfl,hS,hn,k1⟩:=h
 refine⟨_,(Zd (Zo (i:=1) Zcc.nd rfl (Or.inl rfl) (Zr op_rep (Zb0 (Za (Zlq Zh2 Zh) Zb)) (Zj (Zk (K:=K) rfl) rfl T.b_len Yp (Za (pv 0) Zb))))
   (Zd (Zo (i:=2) Zcc.nd rfl (Or.inl rfl) (Zb0 Zb))
   (Zd (Zbp (ZbZ PassesOwn.never rfl (Zax rfl T.b_range (Za (Zj (Zk (K:=K) rfl) rfl T.b_len Yp (Za (pv 0) Zb)) Zb)) (Zm (i:=3) Zcc.nd rfl (Or.inl rfl)) (Zd (Zo (i:=4) Zcc.nd rfl (Or.inl rfl) (Zj (Zk (K:=K) rfl) rfl T.b_len Yp (Za (pv 2) Zb)))
   (Zd (Zbp (Znl PassesOwn.never (PW.pt (Zl8 (Zq Zff (pv 4) Zh (Zn _)) (Zji (Zq Zff (Zy (Znx (K:=K) rfl) (pv 0) (Zy Zx (pv 2) (Zr Zae (pv 4) Zh) (λ_ _=>rfl)) (λ_ _=>rfl)) (Zy (Znx (K:=K) rfl) (pv 0) (pv 3) (λ_ _=>rfl)) (Zn _))))) (Zi (ps_aug (i:=4) Zcc.nd rfl (Or.inl rfl) Zh ip_sub))))
   (Zi (Zbg (Zf Zkm (hr.mono (by decide)) rfl Zv (Za (pv 1) (Za (pv 2) (Za (pv 3) (Za (pv 4) Zb)))))))))))
   (Zi (Zt (Zak (Zf8 (K:=K) rfl) rfl T.b_tuple ZbI (Za (pv 1) Zb))))))),?_⟩
 walk_at "rd"
 have eL:(ns.map V.int).length=ns.length:=Yf ..
 refine⟨by decide,λp hp=>⟨_,((Ze.refl H).upd hp).q hS,_,Zc,by omega,by rw[eL];omega,?_,λel hel=>⟨Yt _,λsp hsp=>?_⟩⟩⟩
 ·exact Ym (show _<=1000 by simp;omega) (by decide)
 have s0:Ze H (upd (upd (upd H p (.lst [V.int (-1)])) el (.lst (List.replicate (((ns.map V.int).length:Nat):Int).toNat [V.int (-1)]).flatten)) sp (.lst [])):=(((Ze.refl H).upd hp).ZP hel).ZP hsp
 refine⟨_,s0.q hS,by omega,by rw[eL];omega,?_⟩
 have en:(((ns.map V.int).length:Nat):Int).toNat=ns.length:=by rw[eL];omega
 have hel0:(upd (upd (upd H p (.lst [V.int (-1)])) el (.lst (List.replicate (((ns.map V.int).length:Nat):Int).toNat [V.int (-1)]).flatten)) sp (.lst [])) el=some (.lst ((List.replicate ns.length (-1:Int)).map V.int)):=by
  have:=((Ze.refl _).ZP (o:=.lst []) hsp) el _ Zc
  rw[this,en];simp
 have hsp0:(upd (upd (upd H p (.lst [V.int (-1)])) el (.lst (List.replicate (((ns.map V.int).length:Nat):Int).toNat [V.int (-1)]).flatten)) sp (.lst [])) sp=some (.lst (ZaB [])):=Zc
 have nes:el≠sp:=λz=>by
  subst z
  rw[Zc]at hsp;cases hsp
 have zel:H el=none:=((Ze.refl H).upd hp).free hel
 have zsp:H sp=none:=(((Ze.refl H).upd hp).ZP hel).free hsp
 rw[en]at hel0 hsp0 s0⊢
 generalize (upd (upd (upd H p (.lst [V.int (-1)])) el (.lst (List.replicate ns.length [V.int (-1)]).flatten)) sp (.lst []))=H0 at s0 hel0 hsp0⊢
 refine Zbw (λi σ Hx=>∃(es:List Int) (S:List Nat) (v3 v4:Option V),σ=[some (.ref r),some (.ref el),some (.ref sp),v3,v4]/\Ze H Hx/\Hx el=some (.lst (es.map V.int))/\Hx sp=some (.lst (ZaB S))/\es.length=ns.length/\Ztc (nth ns) i S/\(∀p e,p<i->e=es.getD p 0->Z2 (nth ns) i p e)/\∀p,i<=p->p<ns.length->es.getD p 0=-1)
  ⟨List.replicate ns.length (-1),[],none,none,rfl,s0,hel0,hsp0,by simp,⟨List.Pairwise.nil,λq=>by simp⟩,λp e hp=>by omega,λp _ hp=>by simp[Yl,hp]⟩ ?_ ?_
 ·rintro i σ Hx hi ⟨es,S,v3,v4,rfl,sx,hxe,hxs,hesl,hS2,hE,hE2⟩
  walk_at "rd"
  have hin:i<ns.length:=by omega
  have hSl:S.length<=1000:=by
   rcases Zth S i 0 hS2.1 (λq hq=>⟨Yt _,((hS2.2 q).mp hq).1⟩)with z|z
   ·omega
   ·rw[z];simp
  refine⟨_,.inl (SqL.of hxs),?_⟩
  rw[Zb1]
  refine Zqr S.length (λj σ Hy=>∃A B,S=A++B/\B.length=j/\(∀q∈B,nth ns i<nth ns q)/\σ=[some (.ref r),some (.ref el),some (.ref sp),some (.int (0+(i:Int))),some (.int (A.length:Nat))]/\Hy=Hx) ⟨S,[],by simp,rfl,(λq hq=>absurd hq (by simp)),rfl,rfl⟩ ?_
  rintro j σ Hy hj ⟨A,B,hAB,hBl,hBg,rfl,rfl⟩
  walk_at "rd"
  have hmem:∀q,q∈A++B->q<i:=λq hq=>((hS2.2 q).mp (by rw[hAB];exact hq)).1
  have hix:(0+(i:Int))=(i:Int):=by omega
  rw[hix]
  by_cases hA0:A=[]
  case' pos =>
   rw[Yc (by rw[hA0];simp)]
   have hA:∀q∈A,nth ns q<=nth ns i:=λq hq=>absurd hq (by rw[hA0];simp)
  case' neg =>
   obtain⟨q,Al,rfl⟩:∃q Al,A=Al++[q]:=⟨A.getLast hA0,A.dropLast,(List.dropLast_concat_getLast hA0).symm⟩
   have hal:(Al++[q]).length=Al.length+1:=by simp
   rw[Yd (by rw[hal];omega)]
   have eiA:(((Al++[q]).length:Nat):Int)-1=(Al.length:Int):=by rw[hal];omega
   have hat:S[Al.length]?=some q:=by
    rw[hAB,Y3,Ja (Ye _)];simp
   have hqi:q<i:=hmem q (by simp)
   refine⟨_,SqL.of hxs,_,by rw[eiA];exact ZjK hat,_,_,rfl,sx.q hS,_,ZN (by omega),_,sx.q hS,_,ZN hin,_,rfl,_,rfl,ZC (λhlt=>?_) (λhge=>?_)⟩
   ·have hj2:j+1<=S.length:=by rw[hAB,YN,hal];omega
    refine⟨_,WI.next,hj2,Al,q::B,by rw[hAB];simp,by simp[hBl],λx hx=>?_,by rw[eiA],rfl⟩
    rcases Yi.mp hx with z|z
    ·rw[z];exact hlt
    ·exact hBg x z
   have hA:∀x∈Al++[q],nth ns x<=nth ns i:=λx hx=>by
    by_cases z:x=q
    ·rw[z];omega
    ·have hxa:x∈Al:=by
      rcases Yq.mp hx with y|y
      ·exact y
      ·exact absurd (by simpa using y) z
     have hpw:=hS2.1
     rw[hAB]at hpw
     have hxq:x<q:=(List.pairwise_append.mp (List.pairwise_append.mp hpw).1).2.2 x hxa q (by simp)
     have:=((hS2.2 x).mp (by rw[hAB];exact Yx _ hx)).2 q hxq hqi
     omega
   generalize Al++[q]=A at hA hAB hmem hA0⊢
  all_goals
   have SS:=ZoL (f:=nth ns) (i:=i) (A:=A) (B:=B) (by rw[<-hAB];exact hS2) hA hBg
   refine⟨el,sp,es,A,B,i,rfl,hxe,by rw[<-hAB];exact hxs,nes,by omega,λq hq=>by have:=hmem q hq;omega,by rw[<-hAB];exact hSl,λH' q1 q2 q3=>?_⟩
   have hbi:∀b,B.head?=some b->b≠i:=λb hb=>by
    have:=hmem b (Yk _ (List.mem_of_head? hb));omega
   refine⟨λb o z=>q1 b o (ZH z zel) (ZH z zsp) (sx b o z),Zja es A B i,q2,A++[i],q3,by rw[Ztg];exact hesl,SS.1,λp e hp he=>?_,λp hp1 hp2=>?_⟩
   ·rw[Zqt _ _ _ _ _ (by omega) hbi]at he
    by_cases z:p=i
    ·subst z
     rw[Yd rfl,hE2 p (Ye _) (by omega)]at he
     rw[he];exact SS.2.1
    ·rw[Yc z]at he
     rw[he]
     exact SS.2.2 p _ (by omega) (hE p _ (by omega) rfl)
   ·rw[Zqt _ _ _ _ _ (by omega) hbi,Yc (by omega),Yc (λz=>?_)]
    ·exact hE2 p (by omega) hp2
    ·have:=hmem p (Yk _ (List.mem_of_head? z));omega
 ·rintro σ Hx ⟨es,S,v3,v4,rfl,sx,hxe,hxs,hesl,hS2,hE,hE2⟩
  walk_at "rd"
  exact⟨_,.inl ⟨SqL.of hxe,λt ht=>k1 t es _ ⟨hesl,λp hp=>hE p _ hp rfl⟩ (sx.ZP ht) Zc⟩⟩
theorem ZrG {f:Addr}{fd:FuncData} (F:Fun K "way_up" "way_up" Zei f fd) (T:Txt K mg):FnOk P w K mg base (CXE P w) 1 f fd ["tree","place"] (ZbD K mg):=by
 refine F.okX Zgh (λvs H Q E h=>?_) (λcdv A outer s H vs Q E hr h=>?_)
 ·obtain⟨t,T,p,rfl,_⟩:=h;rfl
 obtain⟨t,T',p,rfl,ht,hn,hp,k1⟩:=h
 have hQ:∀Hx,Ze H Hx->(SqL K Hx t (T'.map V.int)\/SqT K Hx t (T'.map V.int)):=λHx sx=>ht.elim (λz=>.inl (sx.seq z)) λz=>.inr (sx.seqT z)
 refine⟨_,(Zd (Zo (i:=2) Zgh.nd rfl (Or.inl rfl) (Zb0 Zb))
   (Zd (Zo (i:=3) Zgh.nd rfl (Or.inl rfl) (Zy (Znx (K:=K) rfl) (pv 0) (pv 1) (λ_ _=>rfl)))
   (Zd (Zbp (Znl PassesOwn.never (PW.pt (Zl8 (ZsQ Zp8 Zhf Zh (pv 3) (Zj (Zk (K:=K) rfl) rfl T.b_len Yp (Za (pv 0) Zb))) (Zji (Zq Zhf (Zj (Zk (K:=K) rfl) rfl T.b_len Yp (Za (pv 2) Zb)) (Zj (Zk (K:=K) rfl) rfl T.b_len Yp (Za (pv 0) Zb)) (Zn _))))) (Zd (Zbg (Zfs PySem.F.plainAttrs_list PySem.F.slot_list_append PySem.F.type_list_append ZaW (pv 2) (Za (pv 3) Zb)))
   (Zi (Zo (i:=3) Zgh.nd rfl (Or.inl rfl) (Zy (Znx (K:=K) rfl) (pv 0) (pv 3) (λ_ _=>rfl)))))))
   (Zi (Zt (pv 2)))))),?_⟩
 walk_at "rd"
 refine⟨Yt _,λl hl=>⟨_,hQ _ ((Ze.refl H).upd hl),_,ZN hp,?_⟩⟩
 refine Zqr T'.length (λj σ Hx=>Ze H Hx/\Hx l=some (.lst (ZaB (Zar T' j (nth T' p))))/\(Zar T' j (nth T' p)).length=j/\σ=[some (.ref t),some (.int p),some (.ref l),some (.int (Za8 T' j (nth T' p)))]) ⟨(Ze.refl H).upd hl,Zc,rfl,rfl⟩ ?_
 rintro j σ Hx hj ⟨sx,hxl,hjl,rfl⟩
 walk_at "rd"
 have hlen:(ZaB (Zar T' j (nth T' p))).length=j:=by rw[Zb1];exact hjl
 have eL:(T'.map V.int).length=T'.length:=Yf ..
 have done:(j=T'.length\/¬ (0<=Za8 T' j (nth T' p)/\Za8 T' j (nth T' p)<T'.length))->Q (.ref l) Hx:=λz=>by
  refine k1 l Hx hl sx ?_
  have:Zar T' T'.length (nth T' p)=Zar T' j (nth T' p):=by
   rcases z with z|z
   ·rw[<-z]
   ·exact ZlB T' j _ _ hj hjl z
  rw[hxl];unfold Zai;rw[this];simp[ZaB]
 refine ZC (λh0=>⟨_,hQ _ sx,ZC (λh1=>⟨_,.inl (SqL.of hxl),_,hQ _ sx,ZC (λh2=>?_) λh2=>done (.inl (by rw[hlen,eL]at h2;omega))⟩) λh1=>done (.inr (by rw[eL]at h1;omega))⟩) λh0=>done (.inr (by omega))
 rw[eL]at h1;rw[hlen,eL]at h2
 obtain⟨a1,a2⟩:=ZlA T' j (nth T' p) h0 h1 hjl
 have ei:Za8 T' j (nth T' p)=(((Za8 T' j (nth T' p)).toNat:Nat):Int):=by omega
 refine⟨_,WI.next,ZaG hxl,_,hxl,by rw[hlen];exact Yv (show _<=1000 by omega) (by decide),_,hQ _ (sx.upd hl),_,(congrArg (atI _) ei).trans (ZN (by omega)),by omega,sx.upd hl,?_,?_,?_⟩
 ·rw[Zc,a1,Zib]
  have:ZaB [(Za8 T' j (nth T' p)).toNat]=[V.int (Za8 T' j (nth T' p))]:=by rw[ei];simp[ZaB]
  rw[this]
 ·rw[a1];simp[hjl]
 ·rw[a2]
theorem Zpn {f:Addr}{fd:FuncData} (F:Fun K "is_tree" "is_tree" ZcY f fd) (ZS:Callee P w K mg base "tree_of" 2 ["row"] (ZaT K mg)) (Z1:Callee P w K mg base "way_up" 1 ["tree","place"] (ZbD K mg)) (T:Txt K mg):FnOk P w K mg base (CXE P w) 3 f fd ["tree"] (ZgD K mg):=by
 refine F.okX Zj8 (λvs H Q E h=>?_) (λcdv A outer s H vs Q E hr h=>?_)
 ·obtain⟨t,T,rfl,_⟩:=h;rfl
 obtain⟨t,T',rfl,ht,hn,k1,k2⟩:=h
 refine⟨_,(Zd (Z0 (PW.pt (ZcI (Zcw (Zbn (Zj (Zed (K:=K) rfl) rfl T.b_isinstance Zbe (Za (pv 0) (Za (Zhd (v:=.ty "tuple") rfl T.b_tuple ZbI rfl) Zb))))) (ZbY (Zq Zff (Zj (Zk (K:=K) rfl) rfl T.b_len Yp (Za (pv 0) Zb)) (Zvx (v:=.int 40) rfl T.m_MOST_PLACES ⟨_,rfl⟩) (Zn _))))) (Zi (Zt Zbv)) ZD)
   (Zd (Zc7 (i:=1) ["place","tree"] [none,some 0] Zj8.nd rfl (Or.inl rfl) rfl rfl rfl (Zax rfl T.b_range (Za (Zj (Zk (K:=K) rfl) rfl T.b_len Yp (Za (pv 0) Zb)) Zb)) (λ_ _ _ _ _=>(Zm (i:=0) (show(["place","tree"]:List Str).Nodup from by decide +kernel) rfl (Or.inl rfl))) (λ_ _ _ _ _=>ZG) (λ_ _ _ _ _=>(Zj (Zk (K:=K) rfl) rfl T.b_len Yp (Za (Zf Z1 (hr.mono (by decide)) rfl Zv (Za (pv 1) (Za (pv 0) Zb))) Zb))) Zp)
   (Zi (Zt (ZI (ZjC (K:=K) rfl hr) (Zf ZS (hr.mono (by decide)) rfl Zv (Za (pv 1) Zb)) (pv 0) (Zn _)))))),?_⟩
 walk_at "rd"
 have eL:(T'.map V.int).length=T'.length:=Yf ..
 refine⟨true,.inl ⟨_,.tup ht,by with_unfolding_all rfl⟩,ZC (λz=>nomatch z) λ_=>⟨_,.inr (SqT.of ht),ZC (λz=>k2 (λg=>?_) _ (Ze.refl H)) λz=>⟨_,.inr (SqT.of ht),by omega,by rw[eL];omega,?_⟩⟩⟩
 ·rw[eL]at z;have:=g.1;omega
 rw[eL]at z⊢
 have en:((T'.length:Nat):Int).toNat=T'.length:=by omega
 rw[en]
 refine comp_map (n:=T'.length) (λq=>V.int (nth (Zgz T') q)) (Yv hn (by decide)) (λj Hx s hj=>hj) (λHx s=>Ye _) ?_ ?_
 ·rintro j x Hx Hy hj s ⟨rfl,rfl⟩
  walk_at "rd"
  refine⟨t,T',j,by simp,.inr (SqT.of (s _ _ ht)),hn,hj,λl H9 hl s9 h9=>⟨l,rfl,_,.inl (SqL.of h9),CW.next hj ?_ (s.trans s9)⟩⟩
  rw[Znz hj,Yf];simp[Zai]
 ·intro l' Hx s hl'
  have ed:(List.range T'.length).map (λq=>V.int (nth (Zgz T') q))=(Zgz T').map V.int:=by
   rw[<-Zhn T'];exact range_getD _ _ V.int _ rfl
  rw[ed]
  have u:=s.ZP (o:=.lst ((Zgz T').map V.int)) hl'
  refine⟨l',Zgz T',rfl,.inl (SqL.of Zc),by rw[Zhn];exact hn,λt2 es H2 hT2 s2 ht2=>⟨t2,rfl,_,Zf9 (n:=2) Zcj _ _ es T' (ZaH (SqT.of ht2)) (ZaH (SqT.of ((u.trans s2) _ _ ht))),?_⟩⟩
  by_cases g:es=T'
  ·rw[Yy g];exact k1 ⟨by omega,_,g▸hT2⟩ _ (u.trans s2)
  ·rw[YK g];exact k2 (λgg=>g (hT2.unique ((Zq8 T').mp gg.2))) _ (u.trans s2)
theorem ZmP {f:Addr}{fd:FuncData} (F:Fun K "need_tree" "need_tree" Zby f fd) (Ziw:Callee P w K mg base "is_tree" 3 ["tree"] (ZgD K mg)) (T:Txt K mg):FnOk P w K mg base (CXE P w) 4 f fd ["tree"] (ZeA K mg):=by
 refine F.okX ZmN (λvs H Q E h=>?_) (λcdv A outer s H vs Q E hr h=>?_)
 ·obtain⟨t,T,rfl,_⟩:=h;rfl
 obtain⟨t,T',rfl,ht,hn,k1,k2⟩:=h
 refine⟨_,(Zi (Z0 (Zcw (Zbn (Zf Ziw (hr.mono (by decide)) rfl Zv (Za (pv 0) Zb)))) (Zi (Zjx rfl rfl T.c_NoTree T.x_NoTree (Za (Zh6 (Zew (by decide) (Zjy (Zj (Zk (K:=K) rfl) rfl T.b_len Yp (Za (pv 0) Zb)) (Zew (by decide) ZoH)))) Zb) Zmq)) ZD)),?_⟩
 walk_at "rd"
 exact⟨t,T',rfl,ht,hn,λg H1 s1=>⟨true,rfl,ZC (λz=>nomatch z) λ_=>k1 g _ s1⟩,λg H1 s1=>⟨false,rfl,ZC (λ_=>⟨_,.inr (SqT.of (s1 _ _ ht)),by omega,by rw[Yf];omega,λy=>⟨by decide,k2 g _ s1⟩⟩) λz=>absurd rfl z⟩⟩
theorem Zpo {a:Addr}{L:List Int}{p:Nat}{H1:Hp}{Q:VK} (ha:H1 a=some (.lst (L.map V.int))) (hn:L.length<=1000)
  (hk:∀l H' (xs:List V),Ze H1 H'->xs.length=(L.filter λo=>decide ((p:Int)<o)).length->H' l=none->Q (.ref l) (upd H' l (.lst xs))) :
  Znu (Itl K a) (Zfe 0) (Zno (tOp (rI0 λi j=>V.bl (decide (j<i))) (Zl6 0) (Zl6 1))) (Zl6 0) [none,some (V.int (p:Int))] Q H1:=by
 refine Zgb (n:=L.length) (λi=>decide ((p:Int)<L.getD i 0)) (λi=>V.int (L.getD i 0)) (Yv hn (by decide)) (λi Hx s hi=>⟨_,_,SqL.of (s _ _ ha),Yg (by simpa using hi)⟩) (λHx s=>⟨_,SqL.of (s _ _ ha),by simp⟩) ?_ ?_
 ·rintro i x Hx Hy hi s ⟨rfl,hx⟩
  have ex:=hx _ (SqL.of (s _ _ ha))
  rw[YG,Yg hi]at ex
  cases ex
  have eg:L.getD i 0=L[i]:=by simp[Yl,hi]
  walk_at "rd"
  exact ZC (λz=>CF.take hi (by rw[eg];exact Yy z) (by rw[eg]) s) (λz=>CF.skip hi (by rw[eg];exact YK z) s)
 ·intro l H' s hl
  refine hk l H' _ s ?_ hl
  rw[Yf]
  have:L=(List.range L.length).map λi=>L.getD i 0:=by
   refine List.ext_getElem (by simp) λj h1 h2=>?_
   simp[Yl,h1]
  conv=>rhs;rw[this,List.filter_map,Yf]
  rfl
theorem Zka {f:Addr}{fd:FuncData} (F:Fun K "flat_number" "flat_number" ZaK f fd) (Z1:Callee P w K mg base "way_up" 1 ["tree","place"] (ZbD K mg)) (T:Txt K mg):FnOk P w K mg base (CXE P w) 2 f fd ["tree","place"] (Zda K mg):=by
 refine F.okX Zj9 (λvs H Q E h=>?_) (λcdv A outer s H vs Q E hr h=>?_)
 ·obtain⟨t,T,p,rfl,_⟩:=h;rfl
 obtain⟨t,T',p,rfl,ht,hn,hp,k1⟩:=h
 refine⟨_,(Zi (Zt (Zj (Zk (K:=K) rfl) rfl T.b_len Yp (Za (ZV ["elder","place"] [none,some 1] rfl rfl rfl (Zag (Zf Z1 (hr.mono (by decide)) rfl Zv (Za (pv 0) (Za (pv 1) Zb)))) (λ_ _ _ _ _=>(Zm (i:=0) (show(["elder","place"]:List Str).Nodup from by decide +kernel) rfl (Or.inl rfl))) (λ_ _ _ _ _=>Zfu (Zq Zff (pv 0) (pv 1) (Zn _))) (λ_ _ _ _ _=>(pv 0)) Zp) Zb)))),?_⟩
 walk_at "rd"
 refine⟨t,T',p,rfl,.inr (SqT.of ht),hn,hp,λw H1 hw s1 h1=>⟨w,rfl,⟨_,SqL.of h1⟩,Zpo h1 (by simp only[Zai,Yf];exact Ym (Zfx _ _ _) hn) λl H2 xs s2 hx hl=>⟨l,rfl,xs,.inl (SqL.of Zc),?_⟩⟩⟩
 have e:(xs.length:Nat)=Za9 T' p:=by
  rw[hx,Z4,List.filter_map,Yf]
  unfold Za9
  refine Zee λo ho=>?_
  rw[Bool.eq_iff_iff]
  simp
 rw[e]
 exact k1 _ ((s1.trans s2).ZP hl)
theorem ZnX {f:Addr}{fd:FuncData} (F:Fun K "flattest" "flattest" Zb4 f fd) (ZfL:Callee P w K mg base "need_tree" 4 ["tree"] (ZeA K mg)) (ZdX:Callee P w K mg base "flat_number" 2 ["tree","place"] (Zda K mg)) (T:Txt K mg):FnOk P w K mg base (CXE P w) 5 f fd ["tree"] (Zac K mg):=by
 refine F.okX ZnS (λvs H Q E h=>?_) (λcdv A outer s H vs Q E hr h=>?_)
 ·obtain⟨t,T,rfl,_⟩:=h;rfl
 obtain⟨t,T',rfl,ht,hn,k1,k2⟩:=h
 refine⟨_,(Zd (Zbg (Zf ZfL (hr.mono (by decide)) rfl ZK (Za (pv 0) Zb)))
   (Zi (Zt (Zak (Zf8 (K:=K) rfl) rfl T.b_tuple ZbI (Za (ZV ["place","tree"] [none,some 0] rfl rfl rfl (Zax rfl T.b_range (Za (Zj (Zk (K:=K) rfl) rfl T.b_len Yp (Za (pv 0) Zb)) Zb)) (λ_ _ _ _ _=>(Zm (i:=0) (show(["place","tree"]:List Str).Nodup from by decide +kernel) rfl (Or.inl rfl))) (λ_ _ _ _ _=>ZG) (λ_ _ _ _ _=>(Zf ZdX (hr.mono (by decide)) rfl Zv (Za (pv 1) (Za (pv 0) Zb)))) Zp) Zb))))),?_⟩
 walk_at "rd"
 have eL:(T'.map V.int).length=T'.length:=Yf ..
 refine⟨t,T',rfl,ht,hn,λg H1 s1=>⟨_,.inr (SqT.of (s1 _ _ ht)),by omega,by rw[eL];omega,?_⟩,λg H1 s1=>k2 g _ s1⟩
 have en:(((T'.map V.int).length:Nat):Int).toNat=T'.length:=by rw[eL];omega
 rw[en]
 refine comp_map (n:=T'.length) (λq=>V.int (Za9 T' q:Nat)) (Yv hn (by decide)) (λj Hx s hj=>hj) (λHx s=>Ye _) ?_ ?_
 ·rintro j x Hx Hy hj s ⟨rfl,rfl⟩
  walk_at "rd"
  exact⟨t,T',j,by simp,(s1.trans s) _ _ ht,hn,hj,λH9 s9=>CW.next hj rfl (s.trans s9)⟩
 ·intro l' Hx s hl'
  have ed:(List.range T'.length).map (λq=>V.int (Za9 T' q:Nat))=(Zg T').map V.int:=by simp[Zg]
  rw[ed]
  exact⟨l',rfl,_,.inl ⟨SqL.of Zc,λt' ht'=>k1 g t' _ (((s1.trans s).ZP hl').ZP ht') Zc⟩⟩
theorem Z5 {ns:List Int}{i:Nat} (h:i<ns.length):(ns.map V.int)[i]?=some (V.int (nth ns i)):=by
 unfold nth
 rw[YG,Yg h,Yl,Yg h];rfl
theorem ZcL (F ns:List Int):(hgt F ns).length=F.length:=by unfold hgt;simp
theorem ZE {F ns:List Int}{i:Nat} (h:i<F.length):nth (hgt F ns) i=nth ns i-nth F i:=by
 show List.getD ((List.range F.length).map λi=>nth ns i-nth F i) i 0=_
 rw[Yl,YG,Y8 h];rfl
theorem Zkb {K:PySem.W.Frag}{H:Hp}{p q:Addr}{a b:Str} (hp:H p=some (.tup [.str a])) (hq:H q=some (.tup [.str b])):EqD K H 3 (.ref p) (.ref q) (a==b):=by
 have:=EqD.tup (K:=K) (H:=H) (n:=2) (λj=>a==b) (SqT.of hp) (SqT.of hq) λj x y z1 z2=>by
  match j,z1,z2 with
  |0,z1,z2=>cases z1;cases z2;exact EqD.flat rfl rfl
 simpa[YV]using this
theorem Zla {f:Addr}{fd:FuncData} (F:Fun K "heights_of" "heights_of" ZaZ f fd) (T:Txt K mg):FnOk P w K mg base (CXE P w) 1 f fd ["flat","row"] (Z3 K mg):=by
 refine F.okX Zk8 (λvs H Q E h=>?_) (λcdv A outer s H vs Q E hr h=>?_)
 ·obtain⟨f,r,F,ns,rfl,_⟩:=h;rfl
 obtain⟨f,r,Fl,ns,rfl,hf,hr1,hF,hn,k1,k2⟩:=h
 refine⟨_,(Zd (Z0 (Zq Zc4 (Zj (Zk (K:=K) rfl) rfl T.b_len Yp (Za (pv 1) Zb)) (Zj (Zk (K:=K) rfl) rfl T.b_len Yp (Za (pv 0) Zb)) (Zn _)) (Zi (Zjx rfl rfl T.c_Unlike T.x_Unlike (Za (Zh6 (Zew (by decide) (Zjy (Zj (Zk (K:=K) rfl) rfl T.b_len Yp (Za (pv 1) Zb)) (Zew (by decide) (Zjy (Zj (Zk (K:=K) rfl) rfl T.b_len Yp (Za (pv 0) Zb)) (Zew (by decide) ZoH)))))) Zb) Zmq)) ZD)
   (Zi (Zt (ZV ["number","least"] [none,none] rfl rfl rfl (Zhx (K:=K) rfl rfl T.b_zip (Za (pv 1) (Za (pv 0) Zb))) (λ_ _ _ _ _=>(Zdt (K:=K) (n:=2) rfl rfl (Zw (Zm (i:=0) (show(["number","least"]:List Str).Nodup from by decide +kernel) rfl (Or.inl rfl)) (Zw (Zm (i:=1) (show(["number","least"]:List Str).Nodup from by decide +kernel) rfl (Or.inl rfl)) Zav)))) (λ_ _ _ _ _=>ZG) (λ_ _ _ _ _=>(Zr Zae (pv 0) (pv 1))) (Zct (ZZ Zp (ZZ Zp Zcs))))))),?_⟩
 walk_at "rd"
 have ef:(Fl.map V.int).length=Fl.length:=Yf ..
 have en:(ns.map V.int).length=ns.length:=Yf ..
 refine⟨_,hr1,_,.inr (SqT.of hf),ZC (λc=>?_) (λc=>?_)⟩
 ·exact⟨_,hr1,by omega,Int.lt_trans (show _<(2000:Int) by omega) (by decide),_,.inr (SqT.of hf),by omega,Int.lt_trans (show _<(2000:Int) by omega) (by decide),λy=>⟨by decide,k2 (λz=>c (by omega)) H (Ze.refl H)⟩⟩
 have e:ns.length=Fl.length:=by
  have:=Decidable.not_not.mp c
  omega
 obtain⟨tg,hB⟩:=SqB.of hr1
 obtain⟨tu,hB2⟩:=SqB.of (K:=K) (H:=H) (a:=f) (xs:=Fl.map V.int) (.inr (SqT.of hf))
 refine⟨tg,tu,_,hB,_,hB2,?_⟩
 refine comp_map (n:=Fl.length) (λi=>V.int (nth ns i-nth Fl i)) (Yv hF (by decide)) (λi Hx s hi=>⟨_,_,_,_,s.ZbF hB,s.ZbF hB2,Z5 (by omega),Z5 hi⟩) (λHx s=>⟨_,_,s.ZbF hB,s.ZbF hB2,.inl (by omega)⟩) ?_ ?_
 ·rintro i x Hx Hy hi s ⟨q,x,y,hq,rfl,rfl,hx,hy⟩
  have ex:=hx _ (s.ZbF hB)
  have ey:=hy _ (s.ZbF hB2)
  rw[Z5 (by omega)]at ex
  rw[Z5 hi]at ey
  cases ex;cases ey
  walk_at "rd"
  exact⟨_,SqT.of Zc,rfl,_,_,rfl,_,_,rfl,rfl,_,rfl,_,rfl,CW.next hi rfl (s.ZP hq)⟩
 ·intro l Hx s hl
  have:=k1 e l (upd Hx l (.lst ((hgt Fl ns).map V.int))) (s.free hl) (s.ZP hl) Zc
  unfold hgt at this
  rw[YT]at this
  exact this
theorem Zpp {f:Addr}{fd:FuncData} (F:Fun K "is_over" "is_over" ZcZ f fd) (Z1:Callee P w K mg base "way_up" 1 ["tree","place"] (ZbD K mg)) (T:Txt K mg):FnOk P w K mg base (CXE P w) 2 f fd ["tree","a","b"] (Zdb K mg):=by
 refine F.okX Zpl (λvs H Q E h=>?_) (λcdv A outer s H vs Q E hr h=>?_)
 ·obtain⟨t,T,a,b,rfl,_⟩:=h;rfl
 obtain⟨t,T',a,b,rfl,ht,hn,k1⟩:=h
 refine⟨_,(Zi (Zt (ZbG (Znp Zp8 Zhf Zh (pv 2) (Zj (Zk (K:=K) rfl) rfl T.b_len Yp (Za (pv 0) Zb))) (Zbo (ZI (ZjL (K:=K) rfl) (pv 1) (Zf Z1 (hr.mono (by decide)) rfl Zv (Za (pv 0) (Za (pv 2) Zb))) (by with_unfolding_all rfl)))))),?_⟩
 walk_at "rd"
 have eT:(T'.map V.int).length=T'.length:=Yf ..
 have no:∀H',Ze H H'->¬ (0<=b/\b<(T'.length:Int)/\a∈Zai T' b.toNat)->Q (.bl false) H':=λH' s c=>by
  have:=k1 H' s
  rw[YK c]at this;exact this
 refine ZC (λc0=>⟨_,.inr (SqT.of ht),ZC (λc1=>?_) λc1=>no H (Ze.refl H) (λz=>c1 (by omega))⟩) λc0=>no H (Ze.refl H) λz=>c0 z.1
 obtain⟨j,rfl⟩:=YU c0
 refine⟨t,T',j,rfl,.inr (SqT.of ht),hn,by omega,λw H1 zw s1 hw=>⟨w,rfl,_,.inl (SqL.of hw),rfl,ZlC _,?_⟩⟩
 rw[Zhq]
 have:=k1 H1 s1
 rw[show decide (0<=(j:Int)/\(j:Int)<(T'.length:Int)/\a∈Zai T' (j:Int).toNat)=decide (a∈Zai T' j)from decide_eq_decide.mpr ⟨λz=>by simpa using z.2.2,λz=>⟨by omega,by omega,by simpa using z⟩⟩]at this
 exact this
theorem Zlb {f:Addr}{fd:FuncData} (F:Fun K "fits_least" "fits_least" Za1 f fd) (T:Txt K mg):FnOk P w K mg base (CXE P w) 1 f fd ["tree","floors","roofs","heights"] (ZdP K mg):=by
 refine F.okX Zbf (λvs H Q E h=>?_) (λcdv A outer s H vs Q E hr h=>?_)
 ·obtain⟨t,a,b,c,T,fl,rf,hs,rfl,_⟩:=h;rfl
 obtain⟨t,a,b,c,T',fl,rf,hs,rfl,ht,ha,hb,hc,hG,l1,l2,l3,k1⟩:=h
 refine⟨_,(Zd (Zbp (ZbZ PassesOwn.never rfl (Zmv (K:=K) rfl rfl T.b_enumerate (Za (pv 3) Zb)) (Zes (n:=2) rfl (Zw (Zm (i:=4) Zbf.nd rfl (Or.inl rfl)) (Zw (Zm (i:=5) Zbf.nd rfl (Or.inl rfl)) Zav))) (Zd (Zo (i:=6) Zbf.nd rfl (Or.inl rfl) (Zy Zaq (pv 0) (pv 4) (λ_ _=>rfl)))
   (Zd (Zo (i:=7) Zbf.nd rfl (Or.inl rfl) (Zhe (Zq Zbd (pv 6) (Zlq Zh2 Zh) (Zn _)) (Zy Zx (pv 1) (pv 4) (λ_ _=>rfl)) (Zj (Zh3 rfl) rfl T.b_max Zjz (Za (Zy Zx (pv 1) (pv 4) (λ_ _=>rfl)) (Za (Zy Zx (pv 3) (pv 6) (λ_ _=>rfl)) Zb)))))
   (Zi (Z0 (PW.pt (ZcI (Zq Zc4 (pv 5) (pv 7) (Zn _)) (ZbY (Zq Zff (pv 5) (Zy Zx (pv 2) (pv 4) (λ_ _=>rfl)) (Zn _))))) (Zi (Zt Zbv)) ZD))))))
   (Zi (Zt Zbv))),?_⟩
 walk_at "rd"
 have e3:(hs.map V.int).length=hs.length:=Yf ..
 refine⟨_,SqL.of hc,?_⟩
 obtain⟨hG1,nsT,hT⟩:=hG
 refine ZoU (n:=T'.length) (λi σ Hx=>∃v4 v5 v6 v7,σ=[some (.ref t),some (.ref a),some (.ref b),some (.ref c),v4,v5,v6,v7]/\Ze H Hx/\∀p,p<i->Zdc T' fl rf hs p) ⟨_,_,_,_,rfl,Ze.refl H,λp hp=>absurd hp (by omega)⟩
  (λi σ Hx hi ⟨_,_,_,_,_,sx,_⟩=>⟨_,_,SqL.of (sx _ _ hc),Z5 (by omega)⟩) (fun σ Hx ⟨_,_,_,_,_,sx,_⟩=>⟨_,SqL.of (sx _ _ hc),by omega⟩) ?_ ?_
 ·rintro i x σ Hx Hx' hi ⟨v4,v5,v6,v7,rfl,sx,hf⟩ ⟨q,x,hq,rfl,rfl,hx⟩
  have ex:=hx _ (SqL.of (sx _ _ hc))
  rw[Z5 (by omega)]at ex
  cases ex
  replace sx:=sx.ZP (o:=.tup [.int (i:Int),.int (nth hs i)]) hq
  have tq:(upd Hx q (.tup [.int (i:Int),.int (nth hs i)])) q=some (.tup [.int (i:Int),.int (nth hs i)]):=Zc
  generalize upd Hx q (.tup [.int (i:Int),.int (nth hs i)])=Hy at sx tq⊢
  walk_at "rd"
  have no:¬ Zdc T' fl rf hs i->Q (.bl false) Hy:=λz=>by
   have:=k1 Hy sx
   rw[YK (λy=>z (y i hi))]at this;exact this
  have yes:Zdc T' fl rf hs i->∀p,p<i+1->Zdc T' fl rf hs p:=λz p hp=>by
   by_cases e:p=i
   ·rw[e];exact z
   ·exact hf p (by omega)
  refine⟨_,SqT.of tq,rfl,_,_,rfl,_,_,rfl,rfl,_,_,rfl,SqT.of (sx _ _ ht),_,ZN hi,rfl,ZC (λc0=>?_) λc0=>?_⟩
  ·have c1:nth T' i=-1:=by simpa using c0
   refine⟨_,_,rfl,SqL.of (sx _ _ ha),_,ZN (by omega),rfl,ZC (λz=>no λy=>z ?_) λz=>⟨_,_,rfl,SqL.of (sx _ _ hb),_,ZN (by omega),_,rfl,_,rfl,ZC (λz2=>no λy=>?_) λz2=>⟨sx,yes ?_⟩⟩⟩
   ·unfold Zdc at y
    rw[Yd c1]at y
    rw[y.1]
   ·unfold Zdc at y
    omega
   ·unfold Zdc
    rw[Yd c1]
    have z':=Decidable.not_not.mp z
    simp only[V.int.injEq]at z'
    omega
  ·have c1:nth T' i≠-1:=λe=>c0 (by rw[e])
   rcases ZW hT (p:=i) (by have:=hT.1;omega)with e|⟨q0,e,hq0,_,_⟩
   ·exact absurd e c1
   have eq:(nth T' i).toNat=q0:=by omega
   refine⟨_,_,rfl,SqL.of (sx _ _ ha),_,ZN (by omega),_,_,rfl,SqL.of (sx _ _ hc),_,by rw[e];exact ZN (by have:=hT.1;omega),_,rfl,_,rfl,rfl,?_⟩
   have em:(if nth hs q0>nth fl i then nth hs q0 else nth fl i)=max (nth fl i) (nth hs q0):=by
    split<;>omega
   refine ZC (λz=>no λy=>z ?_) λz=>⟨_,_,rfl,SqL.of (sx _ _ hb),_,ZN (by omega),_,rfl,_,rfl,ZC (λz2=>no λy=>?_) λz2=>⟨sx,yes ?_⟩⟩
   ·unfold Zdc at y
    rw[Yc c1,eq]at y
    rw[em,y.1]
   ·unfold Zdc at y
    omega
   ·unfold Zdc
    rw[Yc c1,eq]
    have z':=Decidable.not_not.mp z
    simp only[V.int.injEq]at z'
    rw[em]at z'
    omega
 ·rintro σ Hx ⟨v4,v5,v6,v7,rfl,sx,hf⟩
  walk_at "rd"
  have:=k1 Hx sx
  rw[Yy hf]at this
  exact this
theorem ZnY {f:Addr}{fd:FuncData} (F:Fun K "is_clash" "is_clash" Zb5 f fd) (Za5:Callee P w K mg base "is_over" 2 ["tree","a","b"] (Zdb K mg)) (T:Txt K mg):FnOk P w K mg base (CXE P w) 3 f fd ["tree","floors","roofs","a","b"] (ZfF K mg):=by
 refine F.okX ZiV (λvs H Q E h=>?_) (λcdv A outer s H vs Q E hr h=>?_)
 ·obtain⟨t,c,d,T,fl,rf,a,b,rfl,_⟩:=h;rfl
 obtain⟨t,c,d,T',fl,rf,a,b,rfl,ht,hc,hd,hG,l1,l2,k1⟩:=h
 refine⟨_,(Zd (Zo (i:=5) ZiV.nd rfl (Or.inl rfl) (pe_or (Zf Za5 (hr.mono (by decide)) rfl Zv (Za (pv 0) (Za (pv 3) (Za (pv 4) Zb)))) (Zbo (ZbG (ZI Zbd (pv 3) (pv 4) (Zn _)) (Zbo (Znp Zp8 Zhf Zh (pv 3) (Zj (Zk (K:=K) rfl) rfl T.b_len Yp (Za (pv 0) Zb))))))))
   (Zi (Zt (ZbG (pv 5) (Zbo (ZI Zff (Zy Zx (pv 1) (pv 3) (λ_ _=>rfl)) (Zy Zx (pv 2) (pv 4) (λ_ _=>rfl)) (Zn _))))))),?_⟩
 walk_at "rd"
 have eT:(T'.map V.int).length=T'.length:=Yf ..
 obtain⟨hG1,nsT,hT⟩:=hG
 have fin:∀H1,Ze H H1->(0<=b/\b<(T'.length:Int)/\a∈Zai T' b.toNat\/a=b/\0<=a/\a<(T'.length:Int))->∃x,SqL K H1 c x/\∃x_1,atI x a=some x_1/\∃x,SqL K H1 d x/\∃x_2,atI x b=some x_2/\∃i,x_1=V.int i/\∃x,x_2=V.int x/\Q (V.bl (decide (x<i))) H1:=λH1 s1 z=>by
  have z2:∃i j:Nat,a=i/\b=j/\i<T'.length/\j<T'.length:=by
   rcases z with⟨z1,z2,z3⟩|⟨z1,z2,z3⟩
   ·rw[Z4]at z3
    obtain⟨o,ho,e⟩:=Yo.mp z3
    have:=((Zap hT (by have:=hT.1;omega)).mp ho).1
    exact⟨o,b.toNat,e.symm,by omega,by have:=hT.1;omega,by omega⟩
   ·exact⟨a.toNat,b.toNat,by omega,by omega,by omega,by omega⟩
  obtain⟨i,j,rfl,rfl,hi,hj⟩:=z2
  refine⟨_,SqL.of (s1 _ _ hc),_,ZN (by omega),_,SqL.of (s1 _ _ hd),_,ZN (by omega),_,rfl,_,rfl,?_⟩
  have:=k1 H1 s1
  rw[show decide (ZfE T' fl rf (i:Int) (j:Int))=decide (nth rf j<nth fl i)from decide_eq_decide.mpr ⟨λq=>by simpa using q.2,λq=>⟨z,by simpa using q⟩⟩]at this
  exact this
 have no:∀H',Ze H H'->¬ (0<=b/\b<(T'.length:Int)/\a∈Zai T' b.toNat\/a=b/\0<=a/\a<(T'.length:Int))->Q (.bl false) H':=λH' s c=>by
  have:=k1 H' s
  rw[YK (λz=>c z.1)]at this;exact this
 refine⟨t,T',a,b,rfl,ht,by omega,λH1 s1=>⟨_,rfl,ZC (λz=>fin H1 s1 (.inl (YS z))) λz=>?_⟩⟩
 have nz:=λy=>z (Yy y)
 refine ZC (λc=>ZC (λc0=>⟨_,.inr (SqT.of (s1 _ _ ht)),ZC (λc1=>fin H1 s1 (.inr ⟨c,c0,by omega⟩)) λc1=>no H1 s1 ?_⟩) λc0=>no H1 s1 ?_) λc=>no H1 s1 ?_
 ·rintro(y|y)
  ·exact nz y
  ·omega
 ·rintro(y|y)
  ·exact nz y
  ·omega
 ·rintro(y|y)
  ·exact nz y
  ·exact c y.1
theorem Zjc {f:Addr}{fd:FuncData} (F:Fun K "fitted_right" "fitted_right" ZaA f fd) (Zz:Callee P w K mg base "flattest" 5 ["tree"] (Zac K mg)) (Zs:Callee P w K mg base "heights_of" 1 ["flat","row"] (Z3 K mg)) (ZeF:Callee P w K mg base "fits_least" 1 ["tree","floors","roofs","heights"] (ZdP K mg)) (ZgJ:Callee P w K mg base "is_clash" 3 ["tree","floors","roofs","a","b"] (ZfF K mg)) (T:Txt K mg):FnOk P w K mg base (CXE P w) 6 f fd ["tree","least","greatest","told"] (ZcA K mg):=by
 refine F.okX Zbi (λvs H Q E h=>?_) (λcdv A outer s H vs Q E hr h=>?_)
 ·obtain⟨t,a,b,c,T,ls,gs,d,rfl,_⟩:=h;rfl
 obtain⟨t,a,b,c,T',ls,gs,d,rfl,ht,ha,hb,hG,l1,l2,hd,k1⟩:=h
 refine⟨_,(Zd (Zo (i:=4) Zbi.nd rfl (Or.inl rfl) (Zf Zz (hr.mono (by decide)) rfl ZK (Za (pv 0) Zb)))
   (Zd (Zo (i:=5) Zbi.nd rfl (Or.inl rfl) (Zf Zs (hr.mono (by decide)) rfl ZK (Za (pv 4) (Za (pv 1) Zb))))
   (Zd (Zo (i:=6) Zbi.nd rfl (Or.inl rfl) (Zf Zs (hr.mono (by decide)) rfl ZK (Za (pv 4) (Za (pv 2) Zb))))
   (Zd (Z0 (Zcw (Zbn (Zj (Zed (K:=K) rfl) rfl T.b_isinstance Zbe (Za (pv 3) (Za (Zhd (v:=.ty "tuple") rfl T.b_tuple ZbI rfl) Zb))))) (Zi (Zt Zbv)) ZD)
   (Zd (Z0 (PW.pt (Zl8 (Zq (ZjC (K:=K) rfl hr) (Zfq (sl_v (K:=K) rfl) (pv 3) Zmf (Zeu Zh)) (ZbH (Za ZhY Zb)) (Zn _)) (Zji (Zq Zbd (Zj (Zk (K:=K) rfl) rfl T.b_len Yp (Za (pv 3) Zb)) Zh (Zn _))))) (Zi (Zt (ZbG (ZI Zbd (Zj (Zk (K:=K) rfl) rfl T.b_len Yp (Za (Zy Zaq (pv 3) Zh (λ_ _=>rfl)) Zb)) (Zj (Zk (K:=K) rfl) rfl T.b_len Yp (Za (pv 0) Zb)) (Zn _)) (Zbo (Zf ZeF (hr.mono (by decide)) rfl Zv (Za (pv 0) (Za (pv 5) (Za (pv 6) (Za (Zf Zs (hr.mono (by decide)) rfl ZK (Za (pv 4) (Za (Zy Zaq (pv 3) Zh (λ_ _=>rfl)) Zb))) Zb))))))))) ZD)
   (Zi (Zt (ZbG (ZI (ZjC (K:=K) rfl hr) (Zfq (sl_v (K:=K) rfl) (pv 3) Zmf (Zeu Zh)) (ZbH (Za ZhY Zb)) (Zn _)) (ZbG (ZI Zbd (Zj (Zk (K:=K) rfl) rfl T.b_len Yp (Za (pv 3) Zb)) Zh (Zn _)) (Zbo (Zf ZgJ (hr.mono (by decide)) rfl Zv (Za (pv 0) (Za (pv 5) (Za (pv 6) (Za (Zy Zaq (pv 3) Zh (λ_ _=>rfl)) (Za (Zy Zaq (pv 3) Zh (λ_ _=>rfl)) Zb)))))))))))))))),?_⟩
 walk_at "rd"
 have eF:(Zg T').length=T'.length:=ZQ T'
 have h40:=hG.1
 refine⟨t,T',rfl,ht,by omega,λ_ f H1 s1 hf=>⟨f,a,Zg T',ls,rfl,hf,s1.q ha,by omega,by omega,λ_ fo H2 zfo s2 hfo=>⟨f,b,Zg T',gs,rfl,s2 _ _ hf,(s1.trans s2).q hb,by omega,by omega,λ_ ro H3 zro s3 hro=>?_,λz=>absurd (by omega) z⟩,λz=>absurd (by omega) z⟩,λz=>absurd hG z⟩
 have s03:=(s1.trans s2).trans s3
 have hf3:=(s2.trans s3) _ _ hf
 have hfo3:=s3 _ _ hfo
 have ht3:=s03 _ _ ht
 have efl:(hgt (Zg T') ls).length=(Zg T').length:=ZcL _ _
 have erf:(hgt (Zg T') gs).length=(Zg T').length:=ZcL _ _
 obtain⟨fl,efl'⟩:∃fl,fl=hgt (Zg T') ls:=⟨_,rfl⟩
 obtain⟨rf,erf'⟩:∃rf,rf=hgt (Zg T') gs:=⟨_,rfl⟩
 rw[<-efl']at hfo3 hfo efl
 rw[<-erf']at hro erf
 cases d with
 |row ns =>
  obtain⟨hn,r,hc,hr2⟩:=hd
  have hc3:=s03 _ _ hc
  have hr3:=s03 _ _ hr2
  refine⟨true,.inl ⟨_,.tup hc3,by with_unfolding_all rfl⟩,ZC (λz=>nomatch z) λ_=>⟨_,hc3,λp H4 s4 hp=>⟨by decide,λp1 hp1=>?_⟩⟩⟩
  have s4':=s4.ZP (o:=.tup [V.str (Str.ofString "row")]) hp1
  have hp':=((Ze.refl H4).ZP (o:=.tup [V.str (Str.ofString "row")]) hp1) _ _ hp
  have hp1':=Zc (H:=H4) (a:=p1) (o:=.tup [V.str (Str.ofString "row")])
  generalize upd H4 p1 (.tup [V.str (Str.ofString "row")])=H5 at s4' hp' hp1'⊢
  have eq:=Zkb (K:=K) (H:=H5) (p:=p) (q:=p1) (a:=Str.ofString "row") (b:=Str.ofString "row") hp' hp1'
  refine⟨_,eq,ZC (λ_=>⟨_,.inr (SqT.of (s4' _ _ hc3)),ZC (λ_=>⟨_,SqT.of (s4' _ _ hc3),_,rfl,r,rfl,_,.inr (SqT.of (s4' _ _ hr3)),_,.inr (SqT.of (s4' _ _ ht3)),ZC (λz=>?_) λz=>?_⟩) λz=>absurd rfl z⟩) λz=>absurd (by simp) z⟩
  ·have z':ns.length=T'.length:=by simp only[Yf]at z;omega
   refine⟨_,SqT.of (s4' _ _ hc3),_,rfl,f,r,Zg T',ns,rfl,s4' _ _ hf3,.inr (SqT.of (s4' _ _ hr3)),by omega,by omega,λ_ l H6 zl s6 hl=>⟨t,fo,ro,l,T',fl,rf,hgt (Zg T') ns,rfl,(s4'.trans s6) _ _ ht3,(s4'.trans s6) _ _ hfo3,(s4'.trans s6) _ _ hro,hl,hG,?_,?_,?_,λH7 s7=>?_⟩,λy=>absurd (by omega) y⟩
   ·rw[efl];omega
   ·rw[erf];omega
   ·rw[ZcL];omega
   ·have:=k1 H7 (s03.trans (s4'.trans (s6.trans s7)))
    rw[show decide (ZfG T' ls gs (.row ns))=decide (∀p,p<T'.length->Zdc T' fl rf (hgt (Zg T') ns) p)from decide_eq_decide.mpr ⟨λq=>by rw[efl',erf'];exact q.2,λq=>⟨z',by rw[efl',erf']at q;exact q⟩⟩]at this
    exact this
  ·have:=k1 H5 (s03.trans s4')
   rw[YK (λq:ZfG T' ls gs (.row ns)=>z (by have:=q.1;simp only[Yf];omega))]at this
   exact this
 |clash x y =>
  have hc3:=s03 _ _ hd
  refine⟨true,.inl ⟨_,.tup hc3,by with_unfolding_all rfl⟩,ZC (λz=>nomatch z) λ_=>⟨_,hc3,λp H4 s4 hp=>⟨by decide,λp1 hp1=>?_⟩⟩⟩
  have s4':=s4.ZP (o:=.tup [V.str (Str.ofString "row")]) hp1
  have hp':=((Ze.refl H4).ZP (o:=.tup [V.str (Str.ofString "row")]) hp1) _ _ hp
  have hp1':=Zc (H:=H4) (a:=p1) (o:=.tup [V.str (Str.ofString "row")])
  generalize upd H4 p1 (.tup [V.str (Str.ofString "row")])=H5 at s4' hp' hp1'⊢
  have eq:=Zkb (K:=K) (H:=H5) (p:=p) (q:=p1) (a:=Str.ofString "clash") (b:=Str.ofString "row") hp' hp1'
  refine⟨_,eq,ZC (λz=>absurd z (by decide)) λ_=>⟨_,s4' _ _ hc3,λp2 H6 s6 hp2=>⟨by decide,λp3 hp3=>?_⟩⟩⟩
  have s6':=(s4'.trans s6).ZP (o:=.tup [V.str (Str.ofString "clash")]) hp3
  have hp2':=((Ze.refl H6).ZP (o:=.tup [V.str (Str.ofString "clash")]) hp3) _ _ hp2
  have hp3':=Zc (H:=H6) (a:=p3) (o:=.tup [V.str (Str.ofString "clash")])
  generalize upd H6 p3 (.tup [V.str (Str.ofString "clash")])=H7 at s6' hp2' hp3'⊢
  have eq:=Zkb (K:=K) (H:=H7) (p:=p2) (q:=p3) (a:=Str.ofString "clash") (b:=Str.ofString "clash") hp2' hp3'
  refine⟨_,eq,ZC (λ_=>⟨_,.inr (SqT.of (s6' _ _ hc3)),ZC (λ_=>⟨_,SqT.of (s6' _ _ hc3),_,rfl,_,SqT.of (s6' _ _ hc3),_,rfl,?_⟩) λz=>absurd rfl z⟩) λz=>absurd (by simp) z⟩
  refine⟨t,fo,ro,T',fl,rf,x,y,rfl,s6' _ _ ht3,s6' _ _ hfo3,s6' _ _ hro,hG,?_,?_,λH8 s8=>?_⟩
  ·rw[efl];omega
  ·rw[erf];omega
  ·have:=k1 H8 (s03.trans (s6'.trans s8))
   rw[show decide (ZfG T' ls gs (.clash x y))=decide (ZfE T' fl rf x y)from decide_eq_decide.mpr ⟨λq=>by rw[efl',erf'];exact q,λq=>by rw[efl',erf']at q;exact q⟩]at this
   exact this
theorem ZqB {ns:List Int}{i:Nat} (h:i<ns.length):nth ns i∈ns:=by
 unfold nth
 rw[Yl,Yg h];exact YD h
theorem Zcv.uniq {T ls ds es:List Int} (h1:Zcv T ls ds) (h2:Zcv T ls es):ds=es:=by
 refine List.ext_getElem (h1.1.trans h2.1.symm) λi i1 i2=>?_
 have hi:i<T.length:=by have:=h1.1;omega
 obtain⟨⟨o,ho,e1⟩,b1⟩:=h1.2 i hi
 obtain⟨⟨o',ho',e2⟩,b2⟩:=h2.2 i hi
 have c1:=b2 o ho
 have c2:=b1 o' ho'
 have q1:nth ds i=ds[i]:=by unfold nth;rw[Yl,Yg i1];rfl
 have q2:nth es i=es[i]:=by unfold nth;rw[Yl,Yg i2];rfl
 omega
theorem Zeo {T ls ds:List Int} (hG:ZJ T) (hl:ds.length=T.length):Zcv T ls ds↔∀p,p<T.length->nth (hgt (Zg T) ds) p=(if nth T p=-1 then nth (hgt (Zg T) ls) p else max (nth (hgt (Zg T) ls) p) (nth (hgt (Zg T) ds) (nth T p).toNat)):=by
 obtain⟨h40,nsT,hT⟩:=hG
 have eT:=hT.1
 have eF:(Zg T).length=T.length:=ZQ T
 constructor
 ·intro h p hp
  obtain⟨⟨o,ho,e1⟩,b1⟩:=h.2 p hp
  have bp:=b1 p Yr
  rw[ZE (by omega),ZE (by omega)]
  rcases ZW hT (p:=p) (by omega)with e|⟨q,e,hq,_,_⟩
  ·rw[Yd e]
   rw[Zjk e]at ho
   have:o=p:=by simpa using ho
   subst this
   omega
  ·rw[Yc (by omega),e,show((q:Nat):Int).toNat=q by omega,ZE (by omega)]
   have hw:=Zfy hT (p:=p) (by omega) e
   obtain⟨⟨o',ho',e2⟩,b2⟩:=h.2 q (by omega)
   have c1:=b1 o' (by rw[hw];exact Yw _ ho')
   rcases Yi.mp ho with rfl|ho
   ·omega
   ·rw[hw]at ho
    have c2:=b2 o ho
    omega
 ·intro h
  refine⟨hl,?_⟩
  have key:∀d p,p<T.length->dep (nth nsT) nsT.length p=d->(∃o∈p::way T p,nth ds p=nth ls o+nth (Zg T) p-nth (Zg T) o)/\∀o∈p::way T p,nth ls o+nth (Zg T) p-nth (Zg T) o<=nth ds p:=by
   intro d
   induction d with
   |zero =>
    intro p hp hd
    have h1:=h p hp
    rw[ZE (by omega),ZE (by omega)]at h1
    rcases ZW hT (p:=p) (by omega)with e|⟨q,e,hq,_,e5⟩
    ·rw[Yd e]at h1
     rw[Zjk e]
     refine⟨⟨p,Yr,by omega⟩,λo ho=>?_⟩
     have:o=p:=by simpa using ho
     subst this;omega
    ·omega
   |succ d ih =>
    intro p hp hd
    have h1:=h p hp
    rw[ZE (by omega),ZE (by omega)]at h1
    rcases ZW hT (p:=p) (by omega)with e|⟨q,e,hq,_,e5⟩
    ·rw[Yd e]at h1
     rw[Zjk e]
     refine⟨⟨p,Yr,by omega⟩,λo ho=>?_⟩
     have:o=p:=by simpa using ho
     subst this;omega
    ·rw[Yc (by omega),e,show((q:Nat):Int).toNat=q by omega,ZE (by omega)]at h1
     obtain⟨⟨o,ho,e2⟩,b2⟩:=ih q (by omega) (by omega)
     rw[Zfy hT (p:=p) (by omega) e]
     constructor
     ·by_cases c:nth ls p-nth (Zg T) p<nth ds q-nth (Zg T) q
      ·exact⟨o,Yw _ ho,by omega⟩
      ·exact⟨p,Yr,by omega⟩
     ·intro o' ho'
      rcases Yi.mp ho' with rfl|ho'
      ·omega
      ·have:=b2 o' ho'
       omega
  exact λp hp=>key _ p hp rfl
theorem ZtP {T ls gs:List Int} (hG:ZJ T) (hl:ls.length=T.length) (hg:gs.length=T.length) (d:Td):ZfG T ls gs d↔soT T ls gs d:=by
 have eF:(Zg T).length=T.length:=ZQ T
 cases d with
 |row ns =>
  show(ns.length=T.length/\_)↔∃ds,Zcv T ls ds/\ns=ds/\_
  constructor
  ·rintro⟨h1,h2⟩
   refine⟨ns,(Zeo hG h1).mpr λp hp=>(h2 p hp).1,rfl,λp hp=>?_⟩
   have:=(h2 p hp).2
   rw[ZE (by omega),ZE (by omega)]at this
   omega
  ·rintro⟨ds,h1,rfl,h2⟩
   refine⟨h1.1,λp hp=>⟨(Zeo hG h1.1).mp h1 p hp,?_⟩⟩
   have:=h2 p hp
   rw[ZE (by omega),ZE (by omega)]
   omega
 |clash a b =>
  show ZfE _ _ _ a b↔ZgE _ _ _ a b
  unfold ZfE ZgE
  have hin:0<=b->b<(T.length:Int)->a∈Zai T b.toNat->0<=a/\a<(T.length:Int):=λb0 b1 z=>by
   obtain⟨h40,nsT,hT⟩:=hG
   have eT:=hT.1
   rw[Z4]at z
   obtain⟨o,ho,e⟩:=Yo.mp z
   have:=((Zap hT (p:=b.toNat) (by omega)).mp ho).1
   omega
  constructor
  ·rintro⟨h1,h2⟩
   have h3:0<=a/\a<(T.length:Int)/\0<=b/\b<(T.length:Int)/\(a=b\/a∈Zai T b.toNat):=by
    rcases h1 with⟨b0,b1,z⟩|⟨e,a0,a1⟩
    ·have:=hin b0 b1 z
     exact⟨this.1,this.2,b0,b1,.inr z⟩
    ·exact⟨a0,a1,by omega,by omega,.inl e⟩
   obtain⟨a0,a1,b0,b1,z⟩:=h3
   rw[ZE (by omega),ZE (by omega)]at h2
   exact⟨a0,b0,a1,b1,z,by omega⟩
  ·rintro⟨a0,b0,a1,b1,z,h⟩
   rw[ZE (by omega),ZE (by omega)]
   refine⟨?_,by omega⟩
   rcases z with z|z
   ·exact .inr ⟨z,a0,a1⟩
   ·exact .inl ⟨b0,b1,z⟩
theorem atI_hd {x:V}{os:List V}:atI (x::os) 0=some x:=by
 have:=Zh7 (xs:=x::os) (j:=0) (show(0:Int)=((0:Nat):Int)from rfl) (by simp)
 simpa using this
theorem Zkc (F us:List Int):(Zfl F us).length=F.length:=by unfold Zfl;simp
theorem ZnZ {F us:List Int}{i:Nat} (h:i<F.length):nth (Zfl F us) i=nth F i+nth us i:=by
 show List.getD ((List.range F.length).map λi=>nth F i+nth us i) i 0=_
 rw[Yl,YG,Y8 h];rfl
noncomputable def Zir (T hs qs us:List Int) (i:Nat):Prop:=us.length=T.length/\∀p:Nat,p<T.length->nth us p=if (p:Int)∈qs.take i/\nth T p≠-1 then max (nth hs p) (nth us (nth T p).toNat)else nth hs p
theorem Zis {qs:List Int}{i:Nat}{x y:Int} (h:qs[i]?=some y):x∈qs.take (i+1)↔x∈qs.take i\/x=y:=by
 rw[Y2,h];simp
theorem ZtQ {us:List Int}{j:Nat}{z:Int} (h:j<us.length):nth (us.set j z) j=z:=by
 unfold nth
 rw[Yl,List.getElem?_set_self h];rfl
theorem Zkd {us:List Int}{j p:Nat}{z:Int} (h:p≠j):nth (us.set j z) p=nth us p:=by
 unfold nth
 rw[Yl,Yl,List.getElem?_set_ne (Ne.symm h)]
theorem ZlQ {ns T:List Int} (hT:Zu ns T) {p q:Nat} (hp:p<ns.length) (h:nth T p=q):dpI T (p:Int)=dpI T (q:Int)+1:=by
 unfold dpI
 simp only[YH,Z4,Yf]
 rw[Zfy hT hp h,YQ];omega
theorem ZiW {ns T qs:List Int} (hT:Zu ns T) (hpm:qs.Perm (nats (T.length:Int))) (hpw:qs.Pairwise λx y=>dpI T x<=dpI T y) {p q i:Nat} (hp:p<T.length) (hq:q<T.length) (h:nth T p=q):(qs[i]?=some (p:Int)->(q:Int)∈qs.take i)/\((p:Int)∈qs.take i->(q:Int)∈qs.take i):=by
 have eT:=hT.1
 have dp:=ZlQ hT (p:=p) (by omega) h
 have mq:(q:Int)∈qs:=hpm.mem_iff.mpr (Yo.mpr ⟨q,Yz.mpr (by omega),rfl⟩)
 obtain⟨m,hm,em⟩:=YY mq
 have key:∀k,qs[k]?=some (p:Int)->m<k:=λk e=>by
  obtain⟨hk,ek⟩:=YA.mp e
  refine Nat.lt_of_not_le λz=>?_
  rcases Nat.lt_or_eq_of_le z with z|z
  ·have:=List.pairwise_iff_getElem.mp hpw k m hk hm z
   rw[ek,em]at this;omega
  ·subst z
   rw[ek]at em
   rw[em]at dp;omega
 constructor
 ·intro e
  have:=key i e
  rw[List.mem_take_iff_getElem]
  exact⟨m,by omega,em⟩
 ·intro e
  obtain⟨k,hk,ek⟩:=List.mem_take_iff_getElem.mp e
  have:=key k (YA.mpr ⟨by omega,ek⟩)
  rw[List.mem_take_iff_getElem]
  exact⟨m,by omega,em⟩
theorem ZrH {T hs qs us:List Int}{i j:Nat} (h:Zir T hs qs us i) (e:qs[i]?=some (j:Int)) (ht:nth T j=-1):Zir T hs qs us (i+1):=by
 refine⟨h.1,λp hp=>?_⟩
 rw[h.2 p hp]
 by_cases c:p=j
 ·subst c
  rw[Yc (λz=>z.2 ht),Yc (λz=>z.2 ht)]
 ·have:(p:Int)∈qs.take (i+1)↔(p:Int)∈qs.take i:=by rw[Zis e];exact⟨λz=>z.elim id λy=>absurd (by omega) c,.inl⟩
  simp only[this]
theorem Zdg (n:Int):(nats n).Nodup:=by
 unfold nats
 exact List.Pairwise.map _ (λa b (h:a≠b)=>λ(e:(a:Int)=(b:Int))=>h (by omega)) List.nodup_range
theorem ZrI {ns T hs qs us:List Int}{i j k:Nat} (hT:Zu ns T) (hpm:qs.Perm (nats (T.length:Int))) (hpw:qs.Pairwise λx y=>dpI T x<=dpI T y) (h:Zir T hs qs us i) (e:qs[i]?=some (j:Int)) (hj:j<T.length) (hk:k<T.length) (ht:nth T j=k):Zir T hs qs (us.set j (max (nth us j) (nth us k))) (i+1):=by
 have eT:=hT.1
 have hkj:k≠j:=λz=>by
  have:=ZlQ hT (p:=j) (by omega) ht
  rw[z]at this;omega
 have nj:(j:Int)∉qs.take i:=λz=>by
  have nd:qs.Nodup:=hpm.nodup_iff.mpr (Zdg _)
  obtain⟨m,hm,em⟩:=List.mem_take_iff_getElem.mp z
  obtain⟨hi,ei⟩:=YA.mp e
  have:=(List.getElem_inj nd (h₀:=by omega) (h₁:=hi)).mp (em.trans ei.symm)
  omega
 have uj:=h.2 j hj
 rw[Yc (λz=>nj z.1)]at uj
 refine⟨by rw[List.length_set];exact h.1,λp hp=>?_⟩
 by_cases c:p=j
 ·subst c
  rw[ZtQ (by rw[h.1];exact hp),Yd ⟨(Zis e).mpr (.inr rfl),by omega⟩,ht,show((k:Nat):Int).toNat=k by omega,Zkd hkj,uj]
 ·rw[Zkd c,h.2 p hp]
  have:(p:Int)∈qs.take (i+1)↔(p:Int)∈qs.take i:=by rw[Zis e];exact⟨λz=>z.elim id λy=>absurd (by omega) c,.inl⟩
  simp only[this]
  by_cases y:(p:Int)∈qs.take i/\nth T p≠-1
  ·rw[Yd y,Yd y]
   rcases ZW hT (p:=p) (by omega)with z|⟨q,ez,hq,_,_⟩
   ·exact absurd z y.2
   ·rw[ez,show((q:Nat):Int).toNat=q by omega,Zkd (λz=>?_)]
    subst z
    exact nj ((ZiW hT hpm hpw hp (by omega) ez).2 y.1)
  ·rw[Yc y,Yc y]
theorem ZtR {T hs qs us:List Int} (hpm:qs.Perm (nats (T.length:Int))) (h:Zir T hs qs us qs.length):Zj4 T hs us:=by
 refine⟨h.1,λp hp=>?_⟩
 rw[h.2 p hp,List.take_length]
 have mq:(p:Int)∈qs:=hpm.mem_iff.mpr (Yo.mpr ⟨p,Yz.mpr (by omega),rfl⟩)
 by_cases c:nth T p=-1
 ·rw[Yd c,Yc (λz=>z.2 c)]
 ·rw[Yc c,Yd ⟨mq,c⟩]
theorem Zn0 {T ls us:List Int} (hG:ZJ T) (hl:ls.length=T.length) (h:Zj4 T (hgt (Zg T) ls) us):Zcv T ls (Zfl (Zg T) us)/\∀p,p<T.length->nth (Zfl (Zg T) us) p=nth (Zg T) p+nth us p:=by
 have eF:(Zg T).length=T.length:=ZQ T
 have e2:∀p,p<T.length->nth (Zfl (Zg T) us) p=nth (Zg T) p+nth us p:=λp hp=>ZnZ (by omega)
 refine⟨(Zeo hG (by rw[Zkc];exact eF)).mpr λp hp=>?_,e2⟩
 have key:∀q,q<T.length->nth (hgt (Zg T) (Zfl (Zg T) us)) q=nth us q:=λq hq=>by rw[ZE (by omega),e2 q hq];omega
 rw[key p hp,h.2 p hp]
 obtain⟨_,nsT,hT⟩:=hG
 have eT:=hT.1
 rcases ZW hT (p:=p) (by omega)with z|⟨q,ez,hq,_,_⟩
 ·rw[Yd z,Yd z]
 ·rw[Yc (by omega),Yc (by omega),ez,show((q:Nat):Int).toNat=q by omega,key q (by omega)]
theorem ZfJ {T ls ds:List Int} (hG:ZJ T) (h:Zcv T ls ds):Zu ds T:=by
 have hf:=(Zeo hG h.1).mp h
 obtain⟨_,nsT,hT⟩:=hG
 have eT:=hT.1
 have eF:(Zg T).length=T.length:=ZQ T
 have hup:∀o p,o<nsT.length->p<nsT.length->Over (nth nsT) o p->nth ds o-nth (Zg T) o<=nth ds p-nth (Zg T) p:=λo p ho hp hO =>
  ZjN hT (R:=λo p=>nth ds o-nth (Zg T) o<=nth ds p-nth (Zg T) p) (λp q hp hq e _=>by
   have:=hf p (by omega)
   rw[ZE (by omega),Yc (by omega),e,show((q:Nat):Int).toNat=q by omega,ZE (F:=Zg T) (ns:=ds) (i:=q) (by omega)]at this
   omega) (λo q p _ _ r1 r2=>by omega) _ p o hp ho rfl hO
 refine⟨h.1.symm,λp hp=>?_⟩
 have hl:=h.1
 rw[show ds.length=nsT.length by omega]at hp⊢
 refine ZjM hT (λq p hq hp hO=>?_) p hp
 have h1:=hup q p hq hp hO
 have h2:=ZlF hT hp hq hO
 rw[ZaJ (by omega),ZaJ (by omega)]at h1
 exact⟨λ_=>by omega,λz=>by have:=h2.2 z;omega⟩
theorem ZqC (g:Nat->Int):∀(L:List Nat) (m:Int),(L.foldl (λm o=>max m (g o)) m=m\/∃o∈L,L.foldl (λm o=>max m (g o)) m=g o)/\m<=L.foldl (λm o=>max m (g o)) m/\∀o∈L,g o<=L.foldl (λm o=>max m (g o)) m
 |[],m=>⟨.inl rfl,Int.le_refl _,λo ho=>nomatch ho⟩
 |o::L,m=>by
  obtain⟨h1,h2,h3⟩:=ZqC g L (max m (g o))
  rw[List.foldl_cons]
  refine⟨?_,by omega,λq hq=>?_⟩
  ·rcases h1 with h1|⟨q,hq,e⟩
   ·by_cases c:m<=g o
    ·exact .inr ⟨o,Yr,by omega⟩
    ·exact .inl (by omega)
   ·exact .inr ⟨q,Yw _ hq,e⟩
  ·rcases Yi.mp hq with rfl|hq
   ·omega
   ·exact h3 q hq
theorem due_ex (T ls:List Int):∃ds,Zcv T ls ds:=by
 refine⟨(List.range T.length).map λp=>(way T p).foldl (λm o=>max m (nth ls o+nth (Zg T) p-nth (Zg T) o)) (nth ls p),by simp,λp hp=>?_⟩
 have e:nth ((List.range T.length).map λp=>(way T p).foldl (λm o=>max m (nth ls o+nth (Zg T) p-nth (Zg T) o)) (nth ls p)) p=(way T p).foldl (λm o=>max m (nth ls o+nth (Zg T) p-nth (Zg T) o)) (nth ls p):=by
  show List.getD _ p 0=_
  rw[Yl,YG,Y8 hp];rfl
 obtain⟨h1,h2,h3⟩:=ZqC (λo=>nth ls o+nth (Zg T) p-nth (Zg T) o) (way T p) (nth ls p)
 rw[e]
 constructor
 ·rcases h1 with h1|⟨o,ho,h1⟩
  ·exact⟨p,Yr,by omega⟩
  ·exact⟨o,Yw _ ho,h1⟩
 ·intro o ho
  rcases Yi.mp ho with rfl|ho
  ·omega
  ·exact h3 o ho
theorem ZlR {T ls gs ds:List Int}{a b:Int} (h:ZgE T ls gs a b) (hD:Zcv T ls ds):∃p,p<T.length/\¬ nth ds p<=nth gs p:=by
 obtain⟨a0,b0,a1,b1,z,h⟩:=h
 refine⟨b.toNat,by omega,?_⟩
 have:=(hD.2 b.toNat (by omega)).2 a.toNat (by
  rcases z with z|z
  ·rw[z];exact Yr
  ·rw[Z4]at z
   obtain⟨o,ho,e⟩:=Yo.mp z
   rw[<-e,show((o:Nat):Int).toNat=o by omega]
   exact Yw _ ho)
 omega
theorem ZmQ {m j2:Nat}{r:List Nat}{P:Nat->Bool} (h:(List.range m).filter P=j2::r):j2<m/\P j2=true/\∀j,j<j2->P j=false:=by
 have h2:j2∈(List.range m).filter P:=by rw[h];exact Yr
 obtain⟨m1,m2⟩:=YF.mp h2
 refine⟨Yz.mp m1,m2,λj hj=>?_⟩
 cases hp:P j with
 |false=>rfl
 |true =>
  have hin:j∈(List.range m).filter P:=YF.mpr ⟨Yz.mpr (by have:=Yz.mp m1;omega),hp⟩
  have hs:((List.range m).filter P).Pairwise (· < ·):=List.Pairwise.filter _ List.pairwise_lt_range
  rw[h]at hin hs
  rcases Yi.mp hin with e|hin
  ·omega
  ·have:=(Y6.mp hs).1 j hin
   omega
theorem ZtS {T ls gs:List Int}{d1 d2:Td} (h1:Zj5 T ls gs d1) (h2:Zj5 T ls gs d2):d1=d2:=by
 cases d1 with
 |row e1 =>
  cases d2 with
  |row e2=>rw[h1.1.uniq h2.1]
  |clash a b =>
   obtain⟨p,hp,hn⟩:=ZlR h2.1 h1.1
   exact absurd (h1.2 p hp) hn
 |clash a b =>
  cases d2 with
  |row e2 =>
   obtain⟨p,hp,hn⟩:=ZlR h1.1 h2.1
   exact absurd (h2.2 p hp) hn
  |clash a' b' =>
   obtain⟨_,ds,i,j,hD,hC,rfl,rfl⟩:=h1
   obtain⟨_,ds',i',j',hD',hC',rfl,rfl⟩:=h2
   have ed:=hD'.uniq hD
   subst ed
   have ei:i=i':=by
    rcases Nat.lt_trichotomy i i' with z|z|z
    ·exact absurd (hC'.2.1 i z) hC.2.2.1
    ·exact z
    ·exact absurd (hC.2.1 i' z) hC'.2.2.1
   subst ei
   have ej:j=j':=by
    rcases Nat.lt_trichotomy j j' with z|z|z
    ·exact absurd hC.2.2.2.2.1 (hC'.2.2.2.2.2 j z)
    ·exact z
    ·exact absurd hC'.2.2.2.2.1 (hC.2.2.2.2.2 j' z)
   rw[ej]
theorem Zlc {f:Addr}{fd:FuncData} (F:Fun K "from_below" "from_below" ZaY f fd) (Z1:Callee P w K mg base "way_up" 1 ["tree","place"] (ZbD K mg)) (L:Zpa K mg "from_below" f) (B:BM mg base) (T:Txt K mg):FnOk P w K mg base (CXE P w) 5 f fd ["tree"] (Zck K mg):=by
 refine F.okL L B Zk7 (λvs H Q E h=>?_) (λcdv A outer s H vs Q E LI hr h=>?_)
 ·obtain⟨t,T,rfl,_⟩:=h;rfl
 obtain⟨t,T',rfl,ht,hG,hTb,k1⟩:=h
 refine⟨_,(Zi (Zt (Zrr (Nc:=["place","tree"]) (js:=[none,some 0]) (pn:="place") (q:=Zj0 "from_below") (P:=Zhw K mg "from_below") rfl hr ⟨rfl,rfl,rfl,rfl,rfl,rfl,rfl,λ_ _ _ _ _ _=>rfl⟩ (λ_ _ _ _ _ _=>(Zj (Zk (K:=K) rfl) rfl T.b_len Yp (Za (Zf Z1 ((hr.in1.in1.deeper _).mono (by decide)) rfl Zv (Za (pv 1) (Za (pv 0) Zb))) Zb))) rfl T.b_sorted (Za (Zh8 rfl T.b_range (Za (Zj (Zk (K:=K) rfl) rfl T.b_len Yp (Za (pv 0) Zb)) Zb)) Zb) (Zet (Zo6 ⟨LI.code,LI.bm,LI.ql⟩ rfl) (Zet Zbv Zmd))))),?_⟩
 walk_at "rd"
 have eL:(T'.map V.int).length=T'.length:=Yf ..
 have h40:=hG.1
 refine⟨_,.inr (SqT.of ht),by omega,by omega,λp1 hp1=>?_⟩
 rw[eL]
 have g1:=(Ze.refl H).ZP (o:=.rng 0 (T'.length:Int)) hp1
 have h1:=Zc (H:=H) (a:=p1) (o:=.rng 0 (T'.length:Int))
 generalize upd H p1 (.rng 0 (T'.length:Int))=H4 at g1 h1⊢
 refine⟨g1 _ _ hTb,λf1 H5 zf s5 LO=>⟨_,s5 _ _ h1,by omega,by omega,LO,dpI T',λi H6 i0 i1 s6=>?_,λps l H6 hpm hpw s6 zl hl=>k1 l ps H6 ((g1.trans s5).free zl) ((g1.trans s5).trans s6) hpm hpw hl⟩⟩
 obtain⟨j,rfl⟩:=YU i0
 have g6:=(g1.trans s5).trans s6
 exact⟨t,T',j,rfl,.inr (SqT.of (g6 _ _ ht)),by omega,by omega,λw H7 zw s7 hw=>⟨w,rfl,_,.inl (SqL.of hw),by rw[Yf];rfl,s7⟩⟩
theorem ZrJ {f:Addr}{fd:FuncData} (F:Fun K "row_by" "row_by" Zej f fd) (T:Txt K mg):FnOk P w K mg base (CXE P w) 1 f fd ["flat","heights"] (Zc2 K mg):=by
 refine F.okX ZrC (λvs H Q E h=>?_) (λcdv A outer s H vs Q E hr h=>?_)
 ·obtain⟨f,h,F,us,rfl,_⟩:=h;rfl
 obtain⟨f,h,Fl,us,rfl,hf,hh,e,hn,k1⟩:=h
 refine⟨_,(Zi (Zt (Zak (Zf8 (K:=K) rfl) rfl T.b_tuple ZbI (Za (ZV ["least","height"] [none,none] rfl rfl rfl (Zhx (K:=K) rfl rfl T.b_zip (Za (pv 0) (Za (pv 1) Zb))) (λ_ _ _ _ _=>(Zdt (K:=K) (n:=2) rfl rfl (Zw (Zm (i:=0) (show(["least","height"]:List Str).Nodup from by decide +kernel) rfl (Or.inl rfl)) (Zw (Zm (i:=1) (show(["least","height"]:List Str).Nodup from by decide +kernel) rfl (Or.inl rfl)) Zav)))) (λ_ _ _ _ _=>ZG) (λ_ _ _ _ _=>(Zr Z9 (pv 0) (pv 1))) (Zct (ZZ Zp (ZZ Zp Zcs)))) Zb)))),?_⟩
 walk_at "rd"
 obtain⟨tg,hB⟩:=SqB.of (K:=K) (H:=H) (a:=f) (xs:=Fl.map V.int) (.inr (SqT.of hf))
 obtain⟨tu,hB2⟩:=SqB.of (K:=K) (H:=H) (a:=h) (xs:=us.map V.int) (.inl (SqL.of hh))
 refine⟨tg,tu,_,hB,_,hB2,?_⟩
 refine comp_map (n:=Fl.length) (λi=>V.int (nth Fl i+nth us i)) (Yv (show _<=1000 by omega) (by decide)) (λi Hx s hi=>⟨_,_,_,_,s.ZbF hB,s.ZbF hB2,Z5 (by omega),Z5 (by omega)⟩) (λHx s=>⟨_,_,s.ZbF hB,s.ZbF hB2,.inl (by rw[Yf];exact Ye _)⟩) ?_ ?_
 ·rintro i x Hx Hy hi s ⟨q,x,y,hq,rfl,rfl,hx,hy⟩
  have ex:=hx _ (s.ZbF hB)
  have ey:=hy _ (s.ZbF hB2)
  rw[Z5 (by omega)]at ex
  rw[Z5 (by omega)]at ey
  cases ex;cases ey
  walk_at "rd"
  exact⟨_,SqT.of Zc,rfl,_,_,rfl,_,_,rfl,rfl,_,rfl,_,rfl,CW.next hi rfl (s.ZP hq)⟩
 ·intro l Hx s hl
  have e1:(List.range Fl.length).map (λi=>V.int (nth Fl i+nth us i))=(Zfl Fl us).map V.int:=by unfold Zfl;rw[YT];rfl
  rw[e1]
  exact⟨l,rfl,_,.inl ⟨SqL.of Zc,λq hq=>k1 q _ ((s.ZP hl).ZP hq) Zc⟩⟩
theorem ZrK {f:Addr}{fd:FuncData} (F:Fun K "lifted" "lifted" Zek f fd) (Za6:Callee P w K mg base "from_below" 5 ["tree"] (Zck K mg)) (T:Txt K mg):FnOk P w K mg base (CXE P w) 6 f fd ["tree","heights"] (Zgg K mg):=by
 refine F.okX Zio (λvs H Q E h=>?_) (λcdv A outer s H vs Q E hr h=>?_)
 ·obtain⟨t,h,T,hs,rfl,_⟩:=h;rfl
 obtain⟨t,h,T',hs,rfl,ht,hh,hG,hl,hTb,k1⟩:=h
 refine⟨_,(Zd (Zo (i:=2) Zio.nd rfl (Or.inl rfl) (Zak (ZjA (K:=K) rfl) rfl T.b_list Zf7 (Za (pv 1) Zb)))
   (Zd (Zbp (ZbZ PassesOwn.never rfl (Zag (Zlx (K:=K) rfl (Zf Za6 (hr.mono (by decide)) rfl Zv (Za (pv 0) Zb)) (Zlq Zh2 Zh))) (Zm (i:=3) Zio.nd rfl (Or.inl rfl)) (Zi (Z0 (Zq ZsP (Zy Zaq (pv 0) (pv 3) (λ_ _=>rfl)) Zh (Zn _)) (Zi (Zc3 (Zj (Zh3 rfl) rfl T.b_max Zjz (Za (Zy Zx (pv 2) (pv 3) (λ_ _=>rfl)) (Za (Zy Zx (pv 2) (Zy Zaq (pv 0) (pv 3) (λ_ _=>rfl)) (λ_ _=>rfl)) Zb))) (Zh0 (pv 2) (pv 3) set_list (λ_=>rfl)))) ZD))))
   (Zi (Zt (pv 2))))),?_⟩
 walk_at "rd"
 have eL:(T'.map V.int).length=T'.length:=Yf ..
 obtain⟨h40,nsT,hT⟩:=id hG
 have eT:=hT.1
 refine⟨_,.inl (SqL.of hh),λl zl=>?_⟩
 have g1:=(Ze.refl H).ZP (o:=.lst (hs.map V.int)) zl
 have h1:=Zc (H:=H) (a:=l) (o:=.lst (hs.map V.int))
 generalize upd H l (.lst (hs.map V.int))=H1 at g1 h1⊢
 refine⟨t,T',rfl,g1 _ _ ht,hG,Zb3.same hTb g1,λq ps H2 zq s2 hpm hpw hq=>⟨q,rfl,_,SqL.of hq,λp zp=>?_⟩⟩
 have nlq:l≠q:=λz=>by rw[z,zq]at h1;cases h1
 have e2:(ps.map V.int).reverse=ps.reverse.map V.int:=(List.map_reverse ..).symm
 rw[e2]
 have hpm2:ps.reverse.Perm (nats (T'.length:Int)):=(List.reverse_perm ps).trans hpm
 have hpw2:ps.reverse.Pairwise λx y=>dpI T' x<=dpI T' y:=List.pairwise_reverse.mpr hpw
 generalize ps.reverse=qs at hpm2 hpw2⊢
 have g3:=s2.ZP (o:=.lst (qs.map V.int)) zp
 have h3:=Zc (H:=H2) (a:=p) (o:=.lst (qs.map V.int))
 have nlp:l≠p:=λz=>by rw[<-z,s2 _ _ h1]at zp;cases zp
 generalize upd H2 p (.lst (qs.map V.int))=H3 at g3 h3⊢
 have g13:=g1.trans g3
 refine⟨⟨_,SqL.of h3⟩,ZoU (n:=qs.length) (λi σ Hx=>∃(v3:Option V) (us:List Int),σ=[some (.ref t),some (.ref h),some (.ref l),v3]/\Zir T' hs qs us i/\Hx l=some (.lst (us.map V.int))/\Hx p=some (.lst (qs.map V.int))/\Ze H Hx) ⟨none,hs,rfl,⟨hl,λp hp=>by rw[Yc (λz=>by simpa using z.1)]⟩,g3 _ _ h1,h3,g13⟩ (λi σ Hx hi ⟨_,_,_,_,_,h,_⟩=>⟨_,_,SqL.of h,Z5 hi⟩) (fun σ Hx ⟨_,_,_,_,_,h,_⟩=>⟨_,SqL.of h,by rw[Yf];exact Ye _⟩) ?_ ?_⟩
 ·rintro i x σ Hx Hx' hi ⟨v3,us,rfl,hL,hlx,hpx,sx⟩ ⟨rfl,hx⟩
  have e1:=hx _ (SqL.of hpx)
  rw[Z5 hi]at e1
  cases e1
  have eqi:qs[i]?=some (nth qs i):=by unfold nth;rw[Yl,Yg hi];rfl
  have mq:=hpm2.mem_iff.mp (ZqB hi)
  unfold nats at mq
  obtain⟨j,hj,ej⟩:=Yo.mp mq
  have hj':=Yz.mp hj
  have hj2:j<T'.length:=by omega
  rw[<-ej]at eqi⊢
  clear mq hx ej hj
  walk_at "rd"
  have eu:=hL.1
  refine⟨_,SqT.of (sx _ _ ht),_,ZN hj2,_,rfl,ZC (λc0=>?_) λc0=>?_⟩
  ·rcases ZW hT (p:=j) (by omega)with e|⟨k,e,hk,_,_⟩
   ·omega
   have hk2:k<T'.length:=by omega
   refine⟨_,SqL.of hlx,_,ZN (by omega),_,SqT.of (sx _ _ ht),_,ZN hj2,_,_,rfl,SqL.of hlx,_,by rw[e];exact ZN (by omega),_,rfl,_,rfl,_,hlx,j,by rw[Yf];exact Zhp (by omega),us.set j (max (nth us j) (nth us k)),ZrI hT hpm2 hpw2 hL eqi hj2 hk2 e,?_,by rw[Zl (Ne.symm nlp)];exact hpx,sx.upd zl⟩
   rw[Zc,List.map_set,show(if nth us k>nth us j then nth us k else nth us j)=max (nth us j) (nth us k) by split<;>omega]
  ·rcases ZW hT (p:=j) (by omega)with e|⟨k,e,hk,_,_⟩
   ·exact⟨us,ZrH hL eqi e,hlx,hpx,sx⟩
   ·omega
 ·rintro σ Hx ⟨v3,us,rfl,hL,hlx,hpx,sx⟩
  walk_at "rd"
  exact k1 l us Hx zl sx (ZtR hpm2 hL) hlx
theorem ZrL {f:Addr}{fd:FuncData} (F:Fun K "fitted" "fitted" Zel f fd) (Z1:Callee P w K mg base "way_up" 1 ["tree","place"] (ZbD K mg)) (Zz:Callee P w K mg base "flattest" 5 ["tree"] (Zac K mg)) (Zs:Callee P w K mg base "heights_of" 1 ["flat","row"] (Z3 K mg)) (ZbN:Callee P w K mg base "row_by" 1 ["flat","heights"] (Zc2 K mg)) (Zer:Callee P w K mg base "lifted" 6 ["tree","heights"] (Zgg K mg)) (T:Txt K mg):FnOk P w K mg base (CXE P w) 7 f fd ["tree","least","greatest"] (Zii K mg):=by
 refine F.okX ZbE (λvs H Q E h=>?_) (λcdv A outer s H vs Q E hr h=>?_)
 ·obtain⟨t,a,b,T,ls,gs,rfl,_⟩:=h;rfl
 obtain⟨t,a,b,T',ls,gs,rfl,ht,ha,hb,hG,l1,l2,hTb,k1⟩:=h
 refine⟨_,(Zd (Zo (i:=3) ZbE.nd rfl (Or.inl rfl) (Zf Zz (hr.mono (by decide)) rfl ZK (Za (pv 0) Zb)))
   (Zd (Zo (i:=4) ZbE.nd rfl (Or.inr rfl) (Zf Zs (hr.mono (by decide)) rfl ZK (Za (pv 3) (Za (pv 1) Zb))))
   (Zd (Zo (i:=5) ZbE.nd rfl (Or.inl rfl) (Zf Zs (hr.mono (by decide)) rfl ZK (Za (pv 3) (Za (pv 2) Zb))))
   (Zd (Zo (i:=6) ZbE.nd rfl (Or.inl rfl) (Zf Zer (hr.mono (by decide)) rfl Zv (Za (pv 0) (Za (pv 4) Zb))))
   (Zd (Zbp (ZbZ PassesOwn.never rfl (Zmv (K:=K) rfl rfl T.b_enumerate (Za (pv 6) Zb)) (Zes (n:=2) rfl (Zw (Zm (i:=7) ZbE.nd rfl (Or.inl rfl)) (Zw (Zm (i:=8) ZbE.nd rfl (Or.inr rfl)) Zav))) (Zi (Z0 (Zq Zff (pv 8) (Zy Zx (pv 5) (pv 7) (λ_ _=>rfl)) (Zn _)) (Zd (Zc7 (i:=9) ["a","height","floors"] [none,some 8,some 4] ZbE.nd rfl (Or.inl rfl) rfl rfl rfl (Zag (Zr (ZvQ (K:=K) rfl) (Zb0 (Za (pv 7) Zb)) (Zf Z1 (hr.mono (by decide)) rfl Zv (Za (pv 0) (Za (pv 7) Zb))))) (λ_ _ _ _ _=>(Zm (i:=0) (show(["a","height","floors"]:List Str).Nodup from by decide +kernel) rfl (Or.inl rfl))) (λ_ _ _ _ _=>Zfu (Zq Zbd (Zy (r:=Zh4 K) Zx (pv 2) (pv 0) (λ_ _=>rfl)) (pv 1) (Zn _))) (λ_ _ _ _ _=>(pv 0)) Zp)
   (Zi (Zt (ZbH (Za ZhY (Za (Zy Zx (pv 9) Zh (λ_ _=>rfl)) (Za (pv 7) Zb))))))) ZD))))
   (Zi (Zt (ZbH (Za ZhY (Za (Zf ZbN (hr.mono (by decide)) rfl Zv (Za (pv 3) (Za (pv 6) Zb))) Zb)))))))))),?_⟩
 walk_at "rd"
 have eF:(Zg T').length=T'.length:=ZQ T'
 obtain⟨h40,nsT,hT⟩:=id hG
 have eT:=hT.1
 refine⟨t,T',rfl,ht,by omega,λ_ f H1 s1 hf=>⟨f,a,Zg T',ls,rfl,hf,s1.q ha,by omega,by omega,λ_ fo H2 zfo s2 hfo=>⟨f,b,Zg T',gs,rfl,s2 _ _ hf,(s1.trans s2).q hb,by omega,by omega,λ_ ro H3 zro s3 hro=>?_,λz=>absurd (by omega) z⟩,λz=>absurd (by omega) z⟩,λz=>absurd hG z⟩
 have s03:=(s1.trans s2).trans s3
 have hf3:=(s2.trans s3) _ _ hf
 have hfo3:=s3 _ _ hfo
 have ht3:=s03 _ _ ht
 refine⟨t,fo,T',_,rfl,ht3,hfo3,hG,by rw[ZcL];omega,Zb3.same hTb s03,λnd us H4 znd s4 hL hnd=>⟨nd,rfl,_,SqL.of hnd,?_⟩⟩
 have s04:=s03.trans s4
 have hf4:=s4 _ _ hf3
 have hfo4:=s4 _ _ hfo3
 have hro4:=s4 _ _ hro
 obtain⟨hD,hDn⟩:=Zn0 hG l1 hL
 have eu:=hL.1
 have efl:(hgt (Zg T') ls).length=T'.length:=by rw[ZcL];exact eF
 have erf:(hgt (Zg T') gs).length=T'.length:=by rw[ZcL];exact eF
 refine ZoU (n:=T'.length) (λi σ Hx=>∃v7 v8:Option V,σ=[some (.ref t),some (.ref a),some (.ref b),some (.ref f),some (.ref fo),some (.ref ro),some (.ref nd),v7,v8,none]/\Ze H4 Hx/\∀p,p<i->nth us p<=nth (hgt (Zg T') gs) p) ⟨none,none,rfl,Ze.refl H4,λp hp=>absurd hp (by omega)⟩ (λi σ Hx hi ⟨_,_,_,sx,_⟩=>⟨_,_,SqL.of (sx _ _ hnd),Z5 (by omega)⟩) (fun σ Hx ⟨_,_,_,sx,_⟩=>⟨_,SqL.of (sx _ _ hnd),by rw[Yf];omega⟩) ?_ ?_
 ·rintro i x σ Hx Hx' hi ⟨v7,v8,rfl,sx,hle⟩ ⟨q,x,hq,rfl,rfl,hx⟩
  have ex:=hx _ (SqL.of (sx _ _ hnd))
  rw[Z5 (by omega)]at ex
  cases ex
  replace sx:=sx.ZP (o:=.tup [.int (i:Int),.int (nth us i)]) hq
  have tq:(upd Hx q (.tup [.int (i:Int),.int (nth us i)])) q=some (.tup [.int (i:Int),.int (nth us i)]):=Zc
  generalize upd Hx q (.tup [.int (i:Int),.int (nth us i)])=Hy at sx tq⊢
  walk_at "rd"
  refine⟨_,SqT.of tq,rfl,_,_,rfl,_,_,rfl,rfl,_,_,rfl,SqL.of (sx _ _ hro4),_,ZN (by omega),_,rfl,_,rfl,ZC (λc=>⟨by decide,λp1 hp1=>?_⟩) λc=>⟨sx,λp hp=>?_⟩⟩
  ·have g1:=(Ze.refl Hy).ZP (o:=.lst [V.int (i:Int)]) hp1
   have h1:=Zc (H:=Hy) (a:=p1) (o:=.lst [V.int (i:Int)])
   generalize upd Hy p1 (.lst [V.int (i:Int)])=Hz at g1 h1⊢
   refine⟨t,T',i,rfl,.inr (SqT.of (g1 _ _ (sx _ _ (s4 _ _ ht3)))),by omega,hi,λw H5 zw s5 hw=>⟨w,rfl,_,SqL.of (s5 _ _ h1),_,SqL.of hw,?_,λp2 hp2=>?_⟩⟩
   ·have:=Zfx T' T'.length (nth T' i)
    rw[Zai,Yf,Yf]
    exact Ym (show _<=1000 by simp only[YQ,List.length_nil];omega) (by decide)
   have eW:[V.int (i:Int)]++(Zai T' i).map V.int=((i::way T' i).map λ(q:Nat)=>(q:Int)).map V.int:=by rw[Z4];rfl
   rw[eW]
   have g2:=(g1.trans s5).ZP (o:=.lst (((i::way T' i).map λ(q:Nat)=>(q:Int)).map V.int)) hp2
   have h2:=Zc (H:=H5) (a:=p2) (o:=.lst (((i::way T' i).map λ(q:Nat)=>(q:Int)).map V.int))
   generalize upd H5 p2 (.lst (((i::way T' i).map λ(q:Nat)=>(q:Int)).map V.int))=H6 at g2 h2⊢
   have hW:∀o∈i::way T' i,o<T'.length:=λo ho=>by
    rcases Yi.mp ho with rfl|ho
    ·exact hi
    ·have:=((Zap hT (by omega)).mp ho).1;omega
   have hWl:(i::way T' i).length<=1000:=by
    have:=Zfx T' T'.length (nth T' i)
    unfold way
    rw[YQ];omega
   obtain⟨⟨o1,ho1,e1⟩,_⟩:=hD.2 i hi
   rw[hDn i hi]at e1
   have hcl:∀o∈i::way T' i,nth (hgt (Zg T') ls) o=nth us i->ZgE T' ls gs (o:Int) (i:Int):=λo ho e=>by
    have hoT:=hW o ho
    rw[ZE (by omega)]at e c
    unfold ZgE
    simp only[YH]
    refine⟨by omega,by omega,by omega,by omega,?_,by omega⟩
    rcases Yi.mp ho with rfl|ho
    ·exact .inl rfl
    ·exact .inr (by rw[Z4];exact Yo.mpr ⟨o,ho,rfl⟩)
   have ho1':nth (hgt (Zg T') ls) o1=nth us i:=by rw[ZE (by have:=hW o1 ho1;omega)];omega
   generalize hWg:i::way T' i=W at h2 hW hWl hcl ho1⊢
   refine⟨⟨_,SqL.of h2⟩,Zgb (n:=W.length) (λj=>decide (nth (hgt (Zg T') ls) (W.getD j 0)=nth us i)) (λj=>V.int ((W.getD j 0:Nat):Int)) (Yv hWl (by decide)) (λj Hz s hj=>⟨_,_,SqL.of (s _ _ h2),Yg (by simpa using hj)⟩) (λHz s=>⟨_,SqL.of (s _ _ h2),by simp⟩) ?_ ?_⟩
   ·rintro j x Hz Hw hj sz ⟨rfl,hx⟩
    have ex:=hx _ (SqL.of (sz _ _ h2))
    have eo:(((W.map λ(q:Nat)=>(q:Int)).map V.int))[j]?=some (V.int ((W.getD j 0:Nat):Int)):=by simp[Yl,hj]
    rw[eo]at ex
    cases ex
    have ho:=hW _ (show W.getD j 0∈W by rw[Yl,Yg hj];exact YD hj)
    walk_at "rd"
    exact⟨_,SqL.of ((g2.trans sz) _ _ (sx _ _ hfo4)),_,ZN (by omega),rfl,ZC (λh=>CF.take hj (Yy (by simpa using h)) rfl sz) (λh=>CF.skip hj (YK (by simpa using h)) sz)⟩
   ·intro lf Hz sz hlf
    have hmem:∃(j2:Nat) (os:List V),(((List.range W.length).filter λj=>decide (nth (hgt (Zg T') ls) (W.getD j 0)=nth us i)).map λj=>V.int ((W.getD j 0:Nat):Int))=V.int ((W.getD j2 0:Nat):Int)::os/\j2<W.length/\nth (hgt (Zg T') ls) (W.getD j2 0)=nth us i/\∀j',j'<j2->nth (hgt (Zg T') ls) (W.getD j' 0)≠nth us i:=by
     obtain⟨j1,hj1,ej1⟩:=YY ho1
     have hin:j1∈(List.range W.length).filter λj=>decide (nth (hgt (Zg T') ls) (W.getD j 0)=nth us i):=YF.mpr ⟨Yz.mpr hj1,by
      rw[Yl,Yg hj1]
      simpa[ej1]using ho1'⟩
     cases hf:(List.range W.length).filter λj=>decide (nth (hgt (Zg T') ls) (W.getD j 0)=nth us i)with
     |nil=>rw[hf]at hin;cases hin
     |cons j2 r =>
      obtain⟨m1,m2,m3⟩:=ZmQ hf
      exact⟨j2,_,rfl,m1,YS m2,λj' hj'=>of_decide_eq_false (m3 j' hj')⟩
    obtain⟨j2,os,eos,hj2,hoe,hfst⟩:=hmem
    have hoW:W.getD j2 0∈W:=by rw[Yl,Yg hj2];exact YD _
    rw[eos]
    have g3:=(g2.trans sz).ZP (o:=.lst (V.int ((W.getD j2 0:Nat):Int)::os)) hlf
    have eus:nth us i=nth (Zfl (Zg T') us) i-nth (Zg T') i:=by rw[hDn i hi];omega
    refine⟨lf,rfl,_,SqL.of Zc,V.int ((W.getD j2 0:Nat):Int),atI_hd,by decide,λcc zc=>k1 cc (.clash ((W.getD j2 0:Nat):Int) (i:Int)) _ (((s04.trans sx).trans g3).ZP zc) Zc ⟨hcl _ hoW hoe,Zfl (Zg T') us,i,j2,hD,⟨hi,λp hp=>?_,?_,by rw[hWg];exact hj2,by rw[hWg,<-eus];exact hoe,λj' hj'=>by rw[hWg,<-eus];exact hfst j' hj'⟩,by rw[hWg],rfl⟩⟩
    ·have:=hle p hp
     rw[ZE (by omega)]at this
     rw[hDn p (by omega)];omega
    ·rw[hDn i hi]
     rw[ZE (by omega)]at c
     omega
  ·by_cases z:p<i
   ·exact hle p z
   ·have:p=i:=by omega
    subst this
    omega
 ·rintro σ Hx ⟨v7,v8,rfl,sx,hle⟩
  walk_at "rd"
  refine⟨f,nd,Zg T',us,rfl,sx _ _ hf4,sx _ _ hnd,by omega,by omega,λr H5 s5 hr5=>⟨by decide,λc zc=>?_⟩⟩
  have g6:=(Ze.refl H5).upd (o:=.tup [V.str (Str.ofString "row"),V.ref r]) zc
  refine k1 c (.row (Zfl (Zg T') us)) _ (((s04.trans sx).trans s5).trans g6) ⟨by rw[Zkc];omega,r,Zc,g6 _ _ hr5⟩ ⟨hD,λp hp=>?_⟩
  have:=hle p hp
  rw[ZE (by omega)]at this
  rw[hDn p hp]
  omega
theorem ZtT {T ls ds:List Int} (h:Zcv T ls ds):∀p,p<T.length->nth ls p<=nth ds p:=λp hp=>by
 have:=(h.2 p hp).2 p Yr
 omega
theorem ZmR {T:List Int} (hG:ZJ T) {a b:Nat} (hb:b<T.length) (h:a∈way T b):a<T.length:=by
 obtain⟨_,nsT,hT⟩:=hG
 have eT:=hT.1
 have:=((Zap hT (by omega)).mp h).1
 omega
theorem ZtU {T:List Int} (hG:ZJ T) {a b:Int} (h:ZnQ T a b):∃x y:Nat,a=x/\b=y/\y<T.length/\x<T.length/\x∈way T y:=by
 obtain⟨h0,h1,h2⟩:=h
 obtain⟨y,rfl⟩:=YU h0
 rw[Z4]at h2
 obtain⟨x,hx,e⟩:=Yo.mp h2
 rw[show((y:Int)).toNat=y by omega]at hx
 exact⟨x,y,e.symm,rfl,by omega,ZmR hG (by omega) hx,hx⟩
theorem over_of {T:List Int}{x y:Nat} (hy:y<T.length) (h:x∈way T y):ZnQ T (x:Int) (y:Int):=⟨by omega,by omega,by rw[Z4];exact Yo.mpr ⟨x,h,rfl⟩⟩
theorem in_two (x a b:Int):inV (.int x) [.int a,.int b]=decide (x=a\/x=b):=by
 have:=Zhq x [a,b]
 simpa using this
theorem ZfH.same {H H':Hp}{v:V}{pr:Option (Int×Int)} (h:ZfH H v pr) (s:Ze H H'):ZfH H' v pr:=by
 cases pr with
 |none=>exact h
 |some z=>obtain⟨a,e,h⟩:=h;exact⟨a,e,s _ _ h⟩
theorem Zep {z:Bool}{P:Prop} (h:z=false) (n:¬ P):z=true↔P:=⟨λy=>(by rw[h]at y;cases y),λy=>absurd y n⟩
noncomputable instance (T:List Int) (a b:Int):Decidable (ZnQ T a b):=by unfold ZnQ;exact inferInstance
theorem Zdz {ns:List Int}{far:Int}{i:Nat} (h:i<ns.length):nth (ns.map λx=>x-far) i=nth ns i-far:=by
 simp[nth,Yl,h]
theorem Zke {T ns ms:List Int}{far:Int} (hG:ZJ T) (hl:ns.length=T.length) (hF:ZlO T ns far) (hD:Zcv T (ns.map λx=>x-far) ms):∀p,p<T.length->(if nth ms p-nth ns p<0 then -(nth ms p-nth ns p)else nth ms p-nth ns p)<=far:=λp hp=>by
 obtain⟨⟨o,ho,e⟩,h2⟩:=hD.2 p hp
 have h1:=h2 p Yr
 rw[Zdz (by omega)]at h1
 have f0:=hF.1
 have h3:nth ms p<=nth ns p+far:=by
  rcases Yi.mp ho with rfl|ho
  ·rw[Zdz (by omega)]at e;omega
  ·have oT:=ZmR hG hp ho
   rw[Zdz (by omega)]at e
   have:=hF.2.1 p hp o ho
   unfold obN at this
   omega
 split<;>omega
theorem Zeq {T:List Int}{p:Nat}{a:Int} (h:a∈Zai T p):0<=a/\a<T.length:=by
 have key:∀k x,∀o∈Zar T k x,o<T.length:=by
  intro k
  induction k with
  |zero=>intro x o ho;cases ho
  |succ k ih =>
   intro x o ho
   rw[Zar]at ho
   split at ho
   ·rcases Yi.mp ho with z|z
    ·omega
    ·exact ih _ o z
   ·cases ho
 obtain⟨o,ho,rfl⟩:=Yo.mp h
 have:=key _ _ o ho
 omega
theorem Zn1 {T:List Int}{p:Nat}:(Zai T p).length<=T.length:=by
 unfold Zai
 rw[Yf]
 exact Zfx _ _ _
noncomputable def Zbb (T hs:List Int) (b:Nat):List (List Int):=((Zai T b).filter λa=>decide (nth hs b<nth hs a.toNat)).map λa=>[a,(b:Int)]
noncomputable def ZdW (T hs:List Int) (i j:Nat):List (List Int):=(List.range i).flatMap (Zbb T hs)++(((Zai T i).take j).filter λa=>decide (nth hs i<nth hs a.toNat)).map λa=>[a,(i:Int)]
theorem pairs_len (T hs:List Int):∀i,((List.range i).flatMap (Zbb T hs)).length<=i*T.length
 |0=>by simp
 |i+1=>by
  have:=pairs_len T hs i
  have h2:(Zbb T hs i).length<=T.length:=by
   unfold Zbb
   rw[Yf]
   exact Ym (Y1 _ _) Zn1
  rw[YV,List.flatMap_append,YN,Nat.add_mul]
  simp only[List.flatMap_cons,List.flatMap_nil,List.append_nil,Nat.one_mul]
  omega
theorem ZlS {T hs r:List Int}{i:Nat} (h:r∈(List.range i).flatMap (Zbb T hs)):∃(a:Int) (b:Nat),r=[a,(b:Int)]/\b<i/\a∈Zai T b/\nth hs b<nth hs a.toNat:=by
 obtain⟨b,hb,hr⟩:=List.mem_flatMap.mp h
 obtain⟨a,ha,rfl⟩:=Yo.mp hr
 have:=YF.mp ha
 exact⟨a,b,rfl,Yz.mp hb,this.1,by simpa using this.2⟩
theorem Zkf {T hs:List Int}{i j:Nat} (hj:j<(Zai T i).length):ZdW T hs i (j+1)=if nth hs i<nth hs (Zai T i)[j].toNat then ZdW T hs i j++[[(Zai T i)[j],(i:Int)]]else ZdW T hs i j:=by
 unfold ZdW
 rw[Y2,Yg hj,List.filter_append,YJ]
 by_cases c:nth hs i<nth hs (Zai T i)[j].toNat
 ·rw[Yd c];simp[c]
 ·rw[Yc c];simp[c]
theorem ZrM {T hs:List Int}{i:Nat}:ZdW T hs i (Zai T i).length=(List.range (i+1)).flatMap (Zbb T hs):=by
 unfold ZdW
 rw[List.take_length,YV,List.flatMap_append]
 simp[Zbb]
theorem Zpq {T hs:List Int}{i j:Nat}:(ZdW T hs i j).length<=(i+1)*T.length:=by
 unfold ZdW
 have:=pairs_len T hs i
 rw[YN,Yf,Nat.add_mul,Nat.one_mul]
 have h3:((((Zai T i).take j).filter λa=>decide (nth hs i<nth hs a.toNat))).length<=T.length:=Ym (Y1 _ _) (Ym (by rw[YX];exact Nat.min_le_right _ _) Zn1)
 omega
theorem ZtV {i n:Nat} (h1:i<=41) (h2:n<=40):i*n<=2000:=Ym (Nat.mul_le_mul h1 h2) (by decide)
theorem Zit {T hs:List Int}{rs:List (List Int)} (hn:T.length<=40) (h:ZhA rs (Zaj T hs)):rs.length<=2000:=by
 have e1:=h.1.length_eq
 have e2:(Zaj T hs).length<=T.length*T.length:=pairs_len T hs T.length
 have:=ZtV (i:=T.length) (by omega) hn
 omega
theorem Zbu {T hs:List Int}{r:List Int} (h:r∈Zaj T hs):∃a b:Nat,r=[(a:Int),(b:Int)]/\a<T.length/\b<T.length/\(a:Int)∈Zai T b/\nth hs b<nth hs a:=by
 unfold Zaj at h
 obtain⟨b,hb,h⟩:=List.mem_flatMap.mp h
 obtain⟨a,ha,rfl⟩:=Yo.mp h
 obtain⟨h1,h2⟩:=YF.mp ha
 obtain⟨z1,z2⟩:=Zeq h1
 obtain⟨a,rfl⟩:=YU z1
 exact⟨a,b,rfl,by omega,Yz.mp hb,h1,by simpa using h2⟩
theorem Zpr {rs:List (List Int)}{i p:Nat}{r:List Int} (h:rs[i]?=some r):lowAt (rs.take (i+1)) p=if r.getD 0 0=(p:Int)then lowAt (rs.take i) p++[r.getD 1 0]else lowAt (rs.take i) p:=by
 unfold lowAt
 rw[Y2,h,List.filter_append,YJ]
 by_cases c:r.getD 0 0=(p:Int)
 ·rw[Yd c,show(some r).toList.filter (λr=>decide (r.getD 0 0=(p:Int)))=[r]from List.filter_cons_of_pos (Yy c)];rfl
 ·rw[Yc c,show(some r).toList.filter (λr=>decide (r.getD 0 0=(p:Int)))=[]from List.filter_cons_of_neg (by simpa using c)];exact List.append_nil _
theorem ZlT {rs:List (List Int)}{p:Nat}:(lowAt rs p).length<=rs.length:=by
 unfold lowAt
 rw[Yf];exact Y1 _ _
theorem Zkg {a b:Int} (h:ZU a=ZU b):a=b:=by unfold ZU at h;cases h;rfl
theorem valC {α:Type}{f:α->Int}{g:α->V}{b:Int}:∀{cs:List α},ZdO (cs.map λc=>(ZU (f c),g c)) (ZU b)=(cs.find? λc=>decide (f c=b)).map g
 |[]=>rfl
 |c::cs=>by
  by_cases e:f c=b
  ·rw[YM,Zhu (by rw[e]),List.find?_cons_of_pos (by simpa using e)];rfl
  ·rw[YM,Zhv (λz=>e (Zkg z)),List.find?_cons_of_neg (by simpa using e)];exact valC
theorem valA {β:Type}{A:Int->Addr}{b:Int}{cs:List (Int×β)}:ZdO (cs.map λc=>(ZU c.1,V.ref (A c.1))) (ZU b)=if (cs.any λc=>decide (c.1=b))=true then some (V.ref (A b))else none:=by
 rw[valC (f:=λc:Int×β=>c.1) (g:=λc=>V.ref (A c.1))]
 cases e:cs.find? λc=>decide (c.1=b)with
 |none =>
  rw[Yc (λz=>?_)];rfl
  obtain⟨c,hc,h⟩:=List.any_eq_true.mp z
  exact absurd h (by simpa using List.find?_eq_none.mp e c hc)
 |some c =>
  have h1:=List.find?_some e
  have h2:=List.mem_of_find?_eq_some e
  rw[Yd (List.any_eq_true.mpr ⟨c,h2,h1⟩)]
  have:c.1=b:=by simpa using h1
  rw[<-this];rfl
theorem ChRun.keys {hs:List Int}{rs:List (List Int)}{ps:List Int}{cs:List (Int×List Int)}{fo:List (Int×Option Int)} (h:ChRun hs rs ps cs fo):∀x∈cs,x.1∈ps:=by
 induction h with
 |nil=>intro x h;simp at h
 |new _ _ ih =>
  intro x hx
  rcases Yq.mp hx with z|z
  ·exact Yx _ (ih x z)
  ·exact Yk _ (by simp at z;simp[z])
 |on _ _ _ _ ih =>
  intro x hx
  rcases Yq.mp hx with z|z
  ·exact Yx _ (ih x (YF.mp z).1)
  ·exact Yk _ (by simp at z;simp[z])
theorem ChRun.fol {hs:List Int}{rs:List (List Int)}{ps:List Int}{cs:List (Int×List Int)}{fo:List (Int×Option Int)} (h:ChRun hs rs ps cs fo):fo.map (·.1)=ps:=by
 induction h with
 |nil=>rfl
 |new _ _ ih=>simp[ih]
 |on _ _ _ _ ih=>simp[ih]
theorem ChRun.len {hs:List Int}{rs:List (List Int)}{ps:List Int}{cs:List (Int×List Int)}{fo:List (Int×Option Int)} (h:ChRun hs rs ps cs fo):cs.length<=ps.length:=by
 induction h with
 |nil=>exact Ye _
 |new _ _ ih=>simp;omega
 |@on ps cs fo p b ch _ _ _ _ ih =>
  have:=Y1 (λc:Int×List Int=>decide (c.1≠b)) cs
  simp only[YN,YQ,List.length_nil];omega
theorem ChRun.chl {hs:List Int}{rs:List (List Int)}{ps:List Int}{cs:List (Int×List Int)}{fo:List (Int×Option Int)} (h:ChRun hs rs ps cs fo):∀x∈cs,x.2.length<=ps.length:=by
 induction h with
 |nil=>intro x h;simp at h
 |new _ _ ih =>
  intro x hx
  rcases Yq.mp hx with z|z
  ·have:=ih x z;simp;omega
  ·simp at z;simp[z]
 |on _ _ hm _ ih =>
  intro x hx
  rcases Yq.mp hx with z|z
  ·have:=ih x (YF.mp z).1;simp;omega
  ·have:=ih _ hm
   simp at z;simp[z];omega
theorem dropA {β:Type}{g:Int×β->V}{b:Int}{cs:List (Int×β)}:ZjS (cs.map λc=>(ZU c.1,g c)) (ZU b)=(cs.filter λc=>decide (c.1≠b)).map λc=>(ZU c.1,g c):=by
 unfold ZjS
 rw[List.filter_map]
 congr 1
 apply List.filter_congr
 intro c _
 exact decide_eq_decide.mpr ⟨λz y=>z (by show ZU c.1=ZU b;rw[y]),λz y=>z (Zkg y)⟩
theorem Zkh {H Hy:Hp}{d1 d2 v:Addr}{hs ps ch:List Int}{rs:List (List Int)}{cs:List (Int×List Int)}{fo:List (Int×Option Int)}{A:Int->Addr}{p:Nat}{bo:Option Int} (z1:H d1=none) (z2:H d2=none) (n12:d2≠d1) (hd:Hy d1=some (.dK (cs.map λc=>(ZU c.1,V.ref (A c.1))))) (hcs:∀c∈cs,Hy (A c.1)=some (.tup (c.2.map V.int))) (hn:∀x∈cs,x.1≠(p:Int)) (hF:ZiU Hy d2 fo) (hnf:∀x∈fo,x.1≠(p:Int)) (l1:cs.length<=40) (l2:fo.length<=40) (sy:Ze H Hy) (hv:Hy v=some (.tup (ch.map V.int))) (hR:ChRun hs rs ps (cs++[((p:Int),ch)]) (fo++[((p:Int),bo)])) :
  ∃x,ZjV Hy d1 (V.int (p:Int)) (.ref v) x/\∃x1,ZjV x d2 (V.int (p:Int)) (Zij bo) x1/\∃cs' fo',ChRun hs rs ps cs' fo'/\ZqA x1 d1 cs'/\ZiU x1 d2 fo'/\Ze H x1:=by
 have v1:ZdO (cs.map λc=>(ZU c.1,V.ref (A c.1))) (ZU (p:Int))=none:=by
  rw[valA,Yc]
  intro z
  obtain⟨c,hc,e⟩:=List.any_eq_true.mp z
  exact hn c hc (by simpa using e)
 have v2:ZdO (fo.map λc=>(ZU c.1,Zij c.2)) (ZU (p:Int))=none:=by
  rw[valC (f:=λc:Int×Option Int=>c.1) (g:=λc=>Zij c.2),List.find?_eq_none.mpr (λc hc=>by simpa using hnf c hc)];rfl
 have hF2:upd Hy d1 (.dK (putK (cs.map λc=>(ZU c.1,V.ref (A c.1))) (ZU (p:Int)) (.ref v))) d2=some (.dK (fo.map λc=>(ZU c.1,Zij c.2))):=by rw[Zl n12];exact hF
 refine⟨_,ZjV.k (k:=ZU (p:Int)) hd (Yv (show _<=40 by rw[Yf];exact l1) (by decide)),_,ZjV.k (k:=ZU (p:Int)) hF2 (Yv (show _<=40 by rw[Yf];exact l2) (by decide)),_,_,hR,?_,?_,?_⟩
 ·refine⟨λy=>if y=(p:Int)then v else A y,?_,λc hc=>?_⟩
  ·rw[Zl (Ne.symm n12),Zc,ZjU _ v1,YJ]
   congr 3
   ·exact List.map_congr_left λc hc=>by dsimp only;rw[Yc (hn c hc)]
   ·simp
  ·have key:∀a xs,Hy a=some (.tup xs)->upd (upd Hy d1 (.dK (putK (cs.map λc=>(ZU c.1,V.ref (A c.1))) (ZU (p:Int)) (.ref v)))) d2 (.dK (putK (fo.map λc=>(ZU c.1,Zij c.2)) (ZU (p:Int)) (Zij bo))) a=some (.tup xs):=λa xs e=>by
    rw[Zl (λy=>by rw[y,hF]at e;cases e),Zl (λy=>by rw[y,hd]at e;cases e)];exact e
   rcases Yq.mp hc with z|z
   ·dsimp only;rw[Yc (hn c z)];exact key _ _ (hcs c z)
   ·have:c=((p:Int),ch):=by simpa using z
    subst this
    dsimp only;rw[Yd rfl];exact key _ _ hv
 ·unfold ZiU
  rw[Zc,ZjU _ v2,YJ];rfl
 ·exact(sy.exc z1 Exc.upd).exc z2 Exc.upd
theorem BarRun.keys {T hs:List Int}{fo:List (Int×Option Int)}{m:Int}{qs:List Int}{bs:List (Int×Int)}{ks:List Int} (h:BarRun T hs fo m qs bs ks):bs.map (·.1)=-1::qs:=by
 induction h with
 |nil=>rfl
 |keep _ _ _ _ ih=>rw[YJ,ih];rfl
 |pass _ _ _ _ ih=>rw[YJ,ih];rfl
theorem BarRun.ksl {T hs:List Int}{fo:List (Int×Option Int)}{m:Int}{qs:List Int}{bs:List (Int×Int)}{ks:List Int} (h:BarRun T hs fo m qs bs ks):ks.length<=qs.length:=by
 induction h with
 |nil=>exact Ye _
 |keep _ _ _ _ ih=>simp;omega
 |pass _ _ _ _ ih=>simp;omega
theorem Zn2 {bs:List (Int×Int)}{x:Int} (h:x∈bs.map (·.1)):∃b,lookI bs x=some b:=by
 obtain⟨c,hc,e⟩:=Yo.mp h
 unfold lookI
 cases z:bs.find? λc=>decide (c.1=x)with
 |none=>exact absurd e (by simpa using List.find?_eq_none.mp z c hc)
 |some c=>exact⟨_,rfl⟩
theorem ZtW {bs:List (Int×Option Int)}{x:Int} (h:x∈bs.map (·.1)):∃b c,lookO bs x=some b/\c∈bs/\c.2=b:=by
 obtain⟨c,hc,e⟩:=Yo.mp h
 unfold lookO
 cases z:bs.find? λc=>decide (c.1=x)with
 |none=>exact absurd e (by simpa using List.find?_eq_none.mp z c hc)
 |some c=>exact⟨_,c,rfl,List.mem_of_find?_eq_some z,rfl⟩
theorem ChRun.fob {hs:List Int}{rs:List (List Int)}{ps:List Int}{cs:List (Int×List Int)}{fo:List (Int×Option Int)} (h:ChRun hs rs ps cs fo):∀x∈fo,∀b,x.2=some b->∃p,b∈lowAt rs p:=by
 induction h with
 |nil=>intro x h;simp at h
 |new _ _ ih =>
  intro x hx b e
  rcases Yq.mp hx with z|z
  ·exact ih x z b e
  ·simp at z;rw[z]at e;cases e
 |on _ hb _ _ ih =>
  intro x hx b e
  rcases Yq.mp hx with z|z
  ·exact ih x z b e
  ·simp at z;rw[z]at e;cases e;exact⟨_,hb⟩
theorem valB {bs:List (Int×Int)}{x:Int}:ZdO (bs.map λc=>(ZU c.1,V.int c.2)) (ZU x)=(lookI bs x).map V.int:=by
 rw[valC (f:=λc:Int×Int=>c.1) (g:=λc=>V.int c.2)]
 unfold lookI
 rw[Option.map_map];rfl
theorem valO {bs:List (Int×Option Int)}{x:Int}:ZdO (bs.map λc=>(ZU c.1,Zij c.2)) (ZU x)=(lookO bs x).map Zij:=by
 rw[valC (f:=λc:Int×Option Int=>c.1) (g:=λc=>Zij c.2)]
 unfold lookO
 rw[Option.map_map];rfl
theorem Zps {bs:List (Int×Int)}{x:Int} (h:x∉bs.map (·.1)):lookI bs x=none:=by
 unfold lookI
 rw[List.find?_eq_none.mpr (λc hc=>by simp only[decide_eq_true_eq];exact λz=>h (Yo.mpr ⟨c,hc,z⟩))];rfl
theorem ZgG {bs:List (Int×Int)}{x v:Int} (h:x∉bs.map (·.1)):lookI (bs++[(x,v)]) x=some v:=by
 unfold lookI
 rw[List.find?_append,List.find?_eq_none.mpr (λc hc=>by simp only[decide_eq_true_eq];exact λz=>h (Yo.mpr ⟨c,hc,z⟩))]
 simp
theorem ZtX {bs:List (Int×Int)}{x v:Int} (h:x∉bs.map (·.1)):putK (bs.map λc=>(ZU c.1,V.int c.2)) (ZU x) (V.int v)=(bs++[(x,v)]).map λc=>(ZU c.1,V.int c.2):=by
 rw[ZjU _ (by rw[valB,Zps h];rfl),YJ];rfl
theorem Zki {bs:List (Int×Int)}{x b v:Int} (h:x∉bs.map (·.1)):putK ((bs++[(x,b)]).map λc=>(ZU c.1,V.int c.2)) (ZU x) (V.int v)=(bs++[(x,v)]).map λc=>(ZU c.1,V.int c.2):=by
 unfold putK
 rw[Yd (by simp[ZU])]
 rw[YJ,YJ,YJ]
 congr 1
 ·rw[YT]
  refine List.map_congr_left λc hc=>?_
  show(if ZU c.1=ZU x then _ else _)=_
  rw[Yc (λz=>h (Yo.mpr ⟨c,hc,Zkg z⟩))]
 ·simp
noncomputable def vInt:V->Int
 |.int i=>i
 |_=>0
noncomputable def rowOf (H:Hp):V->List Int
 |.ref a=>match H a with
  |some (.tup xs)=>xs.map vInt
  |_=>[]
 |_=>[]
theorem ZtY {H:Hp}{a:Addr}{r:List Int} (h:H a=some (.tup (r.map V.int))):rowOf H (.ref a)=r:=by
 unfold rowOf
 simp only[h,YT]
 have:(vInt ∘ V.int)=id:=rfl
 rw[this,List.map_id]
theorem Zce {T hs r:List Int}:r∈Zaj T hs↔∃(a:Int) (b:Nat),r=[a,(b:Int)]/\b<T.length/\a∈Zai T b/\nth hs b<nth hs a.toNat:=by
 constructor
 ·intro h;exact ZlS (show r∈(List.range T.length).flatMap (Zbb T hs)from h)
 ·rintro⟨a,b,rfl,hb,ha,hd⟩
  exact List.mem_flatMap.mpr ⟨b,Yz.mpr hb,Yo.mpr ⟨a,YF.mpr ⟨ha,Yy hd⟩,rfl⟩⟩
theorem ZmS {T ns:List Int}{a b:Nat} (hl:ns.length=T.length) (ha:a<T.length) (hb:b<T.length):obN (Zg T) ns a b=nth (hgt (Zg T) ns) a-nth (hgt (Zg T) ns) b:=by
 have eF:(Zg T).length=T.length:=ZQ T
 rw[ZE (by omega),ZE (by omega)]
 unfold obN
 omega
theorem Zjp {T hs:List Int}{z:Int×Int} (h:IsPair T hs (some z)):(∃b:Nat,z.2=(b:Int)/\b<T.length/\z.1∈Zai T b)/\0<nth hs z.1.toNat-nth hs z.2.toNat/\∀(a:Int) (b:Nat),b<T.length->a∈Zai T b->nth hs a.toNat-nth hs b<=nth hs z.1.toNat-nth hs z.2.toNat:=by
 obtain⟨rs,i,hS,hi,e,hB⟩:=h
 have hm:rs.getD i []∈rs:=by rw[Yl,Yg hi];exact YD hi
 obtain⟨a,b,e2,hb,ha,hd⟩:=Zce.mp ((List.Perm.mem_iff hS.1).mp hm)
 rw[e]at e2
 simp only[List.cons.injEq,and_true]at e2
 obtain⟨e3,e4⟩:=e2
 have eb:z.2.toNat=b:=by omega
 refine⟨⟨b,e4,hb,e3▸ha⟩,by rw[e3,eb];omega,?_⟩
 intro a' b' hb' ha'
 by_cases c:nth hs b'<nth hs a'.toNat
 ·have:=(List.Perm.mem_iff hS.1).mpr (Zce.mpr ⟨a',b',rfl,hb',ha',c⟩)
  obtain⟨j,hj,ej⟩:=List.mem_iff_getElem.mp this
  have hb2:=(hB j hj).1
  rw[e,show rs.getD j []=[a',(b':Int)] by rw[Yl,Yg hj];exact ej]at hb2
  simpa[dfK]using hb2
 ·rw[e3,eb];omega
theorem Zkj {T ns:List Int}{pr:Option (Int×Int)} (hG:ZJ T) (hl:ns.length=T.length) (h:IsPair T (hgt (Zg T) ns) pr):ZlO T ns (Zdd (hgt (Zg T) ns) pr)/\Zpi T (hgt (Zg T) ns) (Zdd (hgt (Zg T) ns) pr) pr:=by
 cases pr with
 |none =>
  refine⟨⟨by simp[Zdd],λb hb a ha=>?_,.inl rfl⟩,rfl⟩
  have haT:=ZmR hG hb ha
  rw[ZmS hl haT hb]
  have hm:((a:Int))∈Zai T b:=by rw[Z4];exact Yo.mpr ⟨a,ha,rfl⟩
  by_cases c:nth (hgt (Zg T) ns) b<nth (hgt (Zg T) ns) a
  ·have:=Zce.mpr ⟨(a:Int),b,rfl,hb,hm,by simpa using c⟩
   rw[show Zaj T (hgt (Zg T) ns)=[]from h]at this
   cases this
  ·simp only[Zdd];omega
 |some z =>
  obtain⟨⟨b,e2,hb,hm⟩,hpos,hmax⟩:=Zjp h
  have hw:=Zeq hm
  have ea:z.1=((z.1.toNat:Nat):Int):=by omega
  have eb:z.2.toNat=b:=by omega
  have hmw:z.1.toNat∈way T b:=by
   rw[Z4]at hm
   obtain⟨x,hx,e⟩:=Yo.mp hm
   have:z.1.toNat=x:=by omega
   rw[this];exact hx
  refine⟨⟨by simp only[Zdd];omega,λb' hb' a' ha'=>?_,.inr ⟨b,hb,z.1.toNat,hmw,?_⟩⟩,by simp only[Zdd];omega,⟨by omega,by omega,by rw[eb];exact hm⟩,by simp only[Zdd];omega⟩
  ·have haT:=ZmR hG hb' ha'
   rw[ZmS hl haT hb']
   have:=hmax (a':Int) b' hb' (by rw[Z4];exact Yo.mpr ⟨a',ha',rfl⟩)
   simp only[Zdd]
   rw[show((a':Int)).toNat=a' by omega]at this
   omega
  ·rw[ZmS hl (by omega) hb]
   simp only[Zdd]
   rw[eb];omega
theorem ZtZ {T hs us:List Int}{far:Int} (hG:ZJ T) (hl:hs.length=T.length) (h:Zj4 T hs us):Zj4 T (hs.map λx=>x-far) (us.map λx=>x-far):=by
 obtain⟨_,nsT,hT⟩:=hG
 have eT:=hT.1
 refine⟨by simp[h.1],λp hp=>?_⟩
 have h2:=h.2 p hp
 have e1:=h.1
 rw[Zdz (by omega),Zdz (by omega)]
 rcases ZW hT (p:=p) (by omega)with e|⟨q,e,hq,_,_⟩
 ·rw[Yd e]at h2⊢;omega
 ·rw[Yc (by omega),e,show((q:Nat):Int).toNat=q by omega]at h2⊢
  rw[Zdz (by omega)];omega
theorem ZvX {F ns:List Int}{far:Int} (hl:ns.length=F.length):(hgt F ns).map (λx=>x-far)=hgt F (ns.map λx=>x-far):=by
 unfold hgt
 rw[YT]
 refine List.map_congr_left λi hi=>?_
 have:=Yz.mp hi
 simp only[Function.comp]
 rw[Zdz (by omega)];omega
theorem Zpt {T ns ms:List Int}{pr:Option (Int×Int)} (hG:ZJ T) (hl:ns.length=T.length) (h:IsPair T (hgt (Zg T) ns) pr) (hD:Zcv T (ns.map λx=>x-Zdd (hgt (Zg T) ns) pr) ms):Zpj T ns (Zdd (hgt (Zg T) ns) pr) ms pr :=
 ⟨ZfJ hG hD,Zke hG hl (Zkj hG hl h).1 hD,(Zkj hG hl h).2⟩
theorem Zt0 {T ns ms:List Int}{far a:Int} (hG:ZJ T) (hl:ns.length=T.length) (hF:ZlO T ns far) (hT:Zu ms T) (ha:0<=a) (hd:∀p,p<T.length->absI (nth ms p-nth ns p)<=a):far<=a:=by
 rcases hF.2.2 with e|⟨b,hb,o,ho,e⟩
 ·omega
 ·have eT:=hT.1
  have hO:=(Zap hT (by omega)).mp ho
  have h1:=Zmz hT (p:=b) (o:=o) (by omega) hO.1 hO.2
  have d1:=hd o (by omega)
  have d2:=hd b hb
  unfold obN at e
  rw[ZaJ hb,ZaJ (by omega)]at e
  unfold absI at d1 d2
  split at d1<;>split at d2<;>omega
theorem Zdh {T:List Int}{a b:Nat}:(a:Int)∈Zai T b↔a∈way T b:=by
 rw[Z4,Yo]
 constructor
 ·rintro⟨q,hq,e⟩
  rwa [show a=q by omega]
 ·exact λh=>⟨a,h,rfl⟩
inductive Chn (fo:List (Int×Option Int)):List Int->Prop
 |one {p}:(p,none)∈fo->Chn fo [p]
 |cons {p q r}:(p,some q)∈fo->Chn fo (q::r)->Chn fo (p::q::r)
theorem Chn.more {fo fo':List (Int×Option Int)} (hs:∀x∈fo,x∈fo') {ch:List Int} (h:Chn fo ch):Chn fo' ch:=by
 induction h with
 |one h=>exact .one (hs _ h)
 |cons h _ ih=>exact .cons (hs _ h) ih
structure ChI (hs:List Int) (rs:List (List Int)) (ps:List Int) (cs:List (Int×List Int)) (fo:List (Int×Option Int)):Prop where
 hd:(cs.map (·.1)).Nodup
 hp:∀c∈cs,c.1∈ps
 ch:∀c∈cs,(∃r,c.2=c.1::r)/\Chn fo c.2
 fl:(cs.map (·.2)).flatten.Perm ps
 hf:∀c∈cs,∀p,(p,some c.1)∉fo
 fi:∀p x,(p,some x)∈fo->x∈ps
 fp:∀c∈fo,c.1∈ps
 inj:∀p p' x,(p,some x)∈fo->(p',some x)∈fo->p=p'
 al:∀x∈ps,(∃c∈cs,c.1=x)\/∃p∈ps,(p,some x)∈fo
 lw:∀p b,(p,some b)∈fo->b∈lowAt rs p.toNat
 gr:∀l1 q l2,ps=l1++q::l2->∀x∈lowAt rs q.toNat,x∈l1->(∃b,(q,some b)∈fo/\nth hs x.toNat<=nth hs b.toNat)\/∃p∈l1,(p,some x)∈fo
theorem ZiX {b:Int}{ch:List Int}:∀{cs:List (Int×List Int)},(cs.map (·.1)).Nodup->(b,ch)∈cs->cs.Perm ((b,ch)::cs.filter λc=>decide (c.1≠b))
 |[],_,h=>nomatch h
 |c::cs,nd,h=>by
  rw[YM,List.nodup_cons]at nd
  rcases Yi.mp h with e|h
  ·subst e
   rw[List.filter_cons_of_neg (by simp),List.filter_eq_self.mpr]
   intro d hd
   exact Yy λz=>nd.1 (Yo.mpr ⟨d,hd,z⟩)
  ·have ne:c.1≠b:=λz=>nd.1 (Yo.mpr ⟨_,h,z.symm⟩)
   rw[List.filter_cons_of_pos (by simpa using ne)]
   exact((ZiX nd.2 h).cons c).trans (List.Perm.swap _ _ _)
theorem Zkk {ps l1 l2:List Int}{p q:Int} (h:ps++[p]=l1++q::l2):(l1=ps/\q=p/\l2=[])\/∃l2',l2=l2'++[p]/\ps=l1++q::l2':=by
 rcases List.eq_nil_or_concat l2 with rfl|⟨l2',y,rfl⟩
 ·have:=List.append_inj' h rfl
  exact .inl ⟨this.1.symm,by simpa using this.2.symm,rfl⟩
 ·rw[List.concat_eq_append,<-List.cons_append,<-Y3]at h
  have:=List.append_inj' h rfl
  refine .inr ⟨l2',?_,this.1⟩
  rw[List.concat_eq_append]
  congr 1
  simpa using this.2.symm
theorem ChRun.all {hs:List Int}{rs:List (List Int)}{ps:List Int}{cs:List (Int×List Int)}{fo:List (Int×Option Int)} (h:ChRun hs rs ps cs fo):ps.Nodup->ChI hs rs ps cs fo:=by
 induction h with
 |nil=>exact λ_=>⟨by simp,by simp,by simp,by simp,by simp,by simp,by simp,by simp,by simp,by simp,λl1 q l2 e=>by simp at e⟩
 |@new ps cs fo p h no ih =>
  intro nd
  rw[List.nodup_append]at nd
  have hnp:(p:Int)∉ps:=λz=>nd.2.2 _ z _ (by simp) rfl
  have I:=ih nd.1
  have up:∀x∈fo,x∈fo++[((p:Int),none)]:=λx hx=>Yx _ hx
  have sm:∀a x,((a,some x):Int×Option Int)∈fo++[((p:Int),none)]->(a,some x)∈fo:=λa x hx=>(Yq.mp hx).elim id λz=>by simp at z
  refine⟨?_,?_,?_,?_,?_,?_,?_,?_,?_,?_,?_⟩
  ·rw[YJ,List.nodup_append]
   refine⟨I.hd,by simp,?_⟩
   rintro a ha b hb rfl
   obtain⟨c,hc,rfl⟩:=Yo.mp ha
   have:c.1=(p:Int):=by simpa using hb
   exact hnp (this▸I.hp c hc)
  ·intro c hc
   rcases Yq.mp hc with hc|hc
   ·exact Yx _ (I.hp c hc)
   ·have:c=((p:Int),[(p:Int)]):=by simpa using hc
    subst this;simp
  ·intro c hc
   rcases Yq.mp hc with hc|hc
   ·exact⟨(I.ch c hc).1,(I.ch c hc).2.more up⟩
   ·have:c=((p:Int),[(p:Int)]):=by simpa using hc
    subst this
    exact⟨⟨[],rfl⟩,.one (by simp)⟩
  ·rw[YJ,List.flatten_append]
   exact I.fl.append (by simp)
  ·intro c hc a z
   have z:=sm _ _ z
   rcases Yq.mp hc with hc|hc
   ·exact I.hf c hc a z
   ·have:c=((p:Int),[(p:Int)]):=by simpa using hc
    subst this
    exact hnp (I.fi _ _ z)
  ·exact λa x z=>Yx _ (I.fi _ _ (sm _ _ z))
  ·intro c hc
   rcases Yq.mp hc with hc|hc
   ·exact Yx _ (I.fp c hc)
   ·have:c=((p:Int),none):=by simpa using hc
    subst this;simp
  ·exact λa a' x z z'=>I.inj a a' x (sm _ _ z) (sm _ _ z')
  ·intro x hx
   rcases Yq.mp hx with hx|hx
   ·rcases I.al x hx with⟨c,hc,e⟩|⟨q,hq,e⟩
    ·exact .inl ⟨c,Yx _ hc,e⟩
    ·exact .inr ⟨q,Yx _ hq,up _ e⟩
   ·have:x=(p:Int):=by simpa using hx
    subst this
    exact .inl ⟨_,Yk _ (Y7.mpr rfl),rfl⟩
  ·exact λa b z=>I.lw a b (sm _ _ z)
  ·intro l1 q l2 e x hx hx1
   rcases Zkk e with⟨rfl,rfl,rfl⟩|⟨l2',rfl,e2⟩
   ·rcases I.al x hx1 with⟨c,hc,e⟩|⟨q,hq,e⟩
    ·exact absurd e (no x (by simpa using hx) c hc)
    ·exact .inr ⟨q,hq,up _ e⟩
   ·rcases I.gr l1 q l2' e2 x hx hx1 with⟨b,z1,z2⟩|⟨a,ha,z⟩
    ·exact .inl ⟨b,up _ z1,z2⟩
    ·exact .inr ⟨a,ha,up _ z⟩
 |@on ps cs fo p b ch h hb hc hmx ih =>
  intro nd
  rw[List.nodup_append]at nd
  have hnp:(p:Int)∉ps:=λz=>nd.2.2 _ z _ (by simp) rfl
  have I:=ih nd.1
  have up:∀x∈fo,x∈fo++[((p:Int),some b)]:=λx hx=>Yx _ hx
  have sm:∀a x,((a,some x):Int×Option Int)∈fo++[((p:Int),some b)]->(a,some x)∈fo\/(a=(p:Int)/\x=b):=λa x hx=>(Yq.mp hx).elim .inl λz=>by
   simp at z;exact .inr z
  have fm:∀c,c∈cs.filter (λc=>decide (c.1≠b))->c∈cs/\c.1≠b:=λc hc=>by simpa using YF.mp hc
  refine⟨?_,?_,?_,?_,?_,?_,?_,?_,?_,?_,?_⟩
  ·rw[YJ,List.nodup_append]
   refine⟨I.hd.sublist (List.filter_sublist.map _),by simp,?_⟩
   rintro a ha b' hb' rfl
   obtain⟨c,hc,rfl⟩:=Yo.mp ha
   have:c.1=(p:Int):=by simpa using hb'
   exact hnp (this▸I.hp c (fm c hc).1)
  ·intro c hc
   rcases Yq.mp hc with hc|hc
   ·exact Yx _ (I.hp c (fm c hc).1)
   ·have:c=((p:Int),(p:Int)::ch):=by simpa using hc
    subst this;simp
  ·intro c hc'
   rcases Yq.mp hc' with hc'|hc'
   ·exact⟨(I.ch c (fm c hc').1).1,(I.ch c (fm c hc').1).2.more up⟩
   ·have:c=((p:Int),(p:Int)::ch):=by simpa using hc'
    subst this
    obtain⟨⟨r,e⟩,h2⟩:=I.ch _ hc
    have e:ch=b::r:=e
    subst e
    exact⟨⟨_,rfl⟩,.cons (by simp) (h2.more up)⟩
  ·rw[YJ,List.flatten_append]
   have p1:=((ZiX I.hd hc).map (·.2)).flatten
   rw[YM,List.flatten_cons]at p1
   have p2:=p1.symm.trans I.fl
   have e3:(List.map (λx=>x.2) [((p:Int),(p:Int)::ch)]).flatten=(p:Int)::ch:=by simp
   rw[e3]
   refine(List.perm_append_comm.trans ?_)
   rw[List.cons_append]
   refine(p2.cons _).trans ?_
   exact(List.perm_append_singleton _ _).symm
  ·intro c hc' a y
   rcases sm _ _ y with z|⟨rfl,z⟩
   ·rcases Yq.mp hc' with hc'|hc'
    ·exact I.hf c (fm c hc').1 a z
    ·have:c=((p:Int),(p:Int)::ch):=by simpa using hc'
     subst this
     exact hnp (I.fi _ _ z)
   ·rcases Yq.mp hc' with hc'|hc'
    ·exact(fm c hc').2 z
    ·have:c=((p:Int),(p:Int)::ch):=by simpa using hc'
     subst this
     have z:(p:Int)=b:=z
     exact hnp (z▸I.hp _ hc)
  ·intro a x z
   rcases sm _ _ z with z|⟨rfl,rfl⟩
   ·exact Yx _ (I.fi _ _ z)
   ·exact Yx _ (I.hp _ hc)
  ·intro c hc
   rcases Yq.mp hc with hc|hc
   ·exact Yx _ (I.fp c hc)
   ·have:c=((p:Int),some b):=by simpa using hc
    subst this;simp
  ·intro a a' x z z'
   rcases sm _ _ z with z|⟨rfl,rfl⟩<;>rcases sm _ _ z' with z'|⟨rfl,e⟩
   ·exact I.inj a a' x z z'
   ·exact absurd (e▸z) (I.hf _ hc a)
   ·exact absurd z' (I.hf _ hc a')
   ·rfl
  ·intro x hx
   rcases Yq.mp hx with hx|hx
   ·rcases I.al x hx with⟨c,hc',e⟩|⟨q,hq,e⟩
    ·by_cases y:x=b
     ·exact .inr ⟨p,by simp,by simp[y]⟩
     ·exact .inl ⟨c,Yx _ (YF.mpr ⟨hc',Yy (e▸y)⟩),e⟩
    ·exact .inr ⟨q,Yx _ hq,up _ e⟩
   ·have:x=(p:Int):=by simpa using hx
    subst this
    exact .inl ⟨_,Yk _ (Y7.mpr rfl),rfl⟩
  ·intro a x z
   rcases sm _ _ z with z|⟨rfl,rfl⟩
   ·exact I.lw a x z
   ·simpa using hb
  ·intro l1 q l2 e x hx hx1
   rcases Zkk e with⟨rfl,rfl,rfl⟩|⟨l2',rfl,e2⟩
   ·rcases I.al x hx1 with⟨c,hc',e⟩|⟨q,hq,e⟩
    ·exact .inl ⟨b,by simp,hmx x (by simpa using hx) ⟨c,hc',e⟩⟩
    ·exact .inr ⟨q,hq,up _ e⟩
   ·rcases I.gr l1 q l2' e2 x hx hx1 with⟨b',z1,z2⟩|⟨a,ha,z⟩
    ·exact .inl ⟨b',up _ z1,z2⟩
    ·exact .inr ⟨a,ha,up _ z⟩
structure BarI (T hs:List Int) (fo:List (Int×Option Int)) (m:Int) (qs:List Int) (bs:List (Int×Int)) (ks:List Int):Prop where
 top:lookI bs (-1)=some m
 kq:∀k∈ks,k∈qs
 nd:ks.Nodup
 at_:∀p∈qs,∃b u,lookI bs (nth T p.toNat)=some b/\lookO fo p=some u/\((p∈ks/\staysI hs (nth hs p.toNat) b u=true/\lookI bs p=some (nth hs p.toNat))\/(p∉ks/\staysI hs (nth hs p.toNat) b u=false/\lookI bs p=some b))
theorem ZaM {bs cs:List (Int×Int)}{x b:Int} (h:lookI bs x=some b):lookI (bs++cs) x=some b:=by
 unfold lookI at *
 rw[List.find?_append]
 cases e:bs.find? λc=>decide (c.1=x)with
 |none=>rw[e]at h;cases h
 |some c=>rw[e]at h;exact h
theorem BarRun.all {T hs:List Int}{fo:List (Int×Option Int)}{m:Int}{qs:List Int}{bs:List (Int×Int)}{ks:List Int} (h:BarRun T hs fo m qs bs ks):qs.Nodup->(∀q∈qs,0<=q)->BarI T hs fo m qs bs ks:=by
 induction h with
 |nil=>exact λ_ _=>⟨rfl,by simp,by simp,by simp⟩
 |@keep qs bs ks p b u h hb hu hst ih =>
  intro nd h0
  rw[List.nodup_append]at nd
  have hnp:(p:Int)∉qs:=λz=>nd.2.2 _ z _ (by simp) rfl
  have I:=ih nd.1 λq hq=>h0 q (Yx _ hq)
  have nk:(p:Int)∉bs.map (·.1):=by
   rw[h.keys]
   intro z
   rcases Yi.mp z with z|z
   ·omega
   ·exact hnp z
  refine⟨ZaM I.top,?_,?_,?_⟩
  ·intro k hk
   rcases Yq.mp hk with hk|hk
   ·exact Yx _ (I.kq k hk)
   ·exact Yk _ hk
  ·rw[List.nodup_append]
   refine⟨I.nd,by simp,?_⟩
   rintro a ha c hc rfl
   have:a=(p:Int):=by simpa using hc
   exact hnp (this▸I.kq a ha)
  ·intro q hq
   rcases Yq.mp hq with hq|hq
   ·obtain⟨b',u',e1,e2,e3⟩:=I.at_ q hq
    refine⟨b',u',ZaM e1,e2,?_⟩
    rcases e3 with⟨e3,e4,e5⟩|⟨e3,e4,e5⟩
    ·exact .inl ⟨Yx _ e3,e4,ZaM e5⟩
    ·refine .inr ⟨λz=>?_,e4,ZaM e5⟩
     rcases Yq.mp z with z|z
     ·exact e3 z
     ·have:q=(p:Int):=by simpa using z
      exact hnp (this▸hq)
   ·have:q=(p:Int):=by simpa using hq
    subst this
    rw[YH]
    exact⟨b,u,ZaM hb,hu,.inl ⟨by simp,hst,ZgG nk⟩⟩
 |@pass qs bs ks p b u h hb hu hst ih =>
  intro nd h0
  rw[List.nodup_append]at nd
  have hnp:(p:Int)∉qs:=λz=>nd.2.2 _ z _ (by simp) rfl
  have I:=ih nd.1 λq hq=>h0 q (Yx _ hq)
  have nk:(p:Int)∉bs.map (·.1):=by
   rw[h.keys]
   intro z
   rcases Yi.mp z with z|z
   ·omega
   ·exact hnp z
  refine⟨ZaM I.top,λk hk=>Yx _ (I.kq k hk),I.nd,?_⟩
  ·intro q hq
   rcases Yq.mp hq with hq|hq
   ·obtain⟨b',u',e1,e2,e3⟩:=I.at_ q hq
    refine⟨b',u',ZaM e1,e2,?_⟩
    rcases e3 with⟨e3,e4,e5⟩|⟨e3,e4,e5⟩
    ·exact .inl ⟨e3,e4,ZaM e5⟩
    ·exact .inr ⟨e3,e4,ZaM e5⟩
   ·have:q=(p:Int):=by simpa using hq
    subst this
    rw[YH]
    exact⟨b,u,ZaM hb,hu,.inr ⟨λz=>hnp (I.kq _ z),hst,ZgG nk⟩⟩
theorem ZlU {fo:List (Int×Option Int)}{x:Int}{u:Option Int} (h:lookO fo x=some u):(x,u)∈fo:=by
 unfold lookO at h
 cases e:fo.find? λc=>decide (c.1=x)with
 |none=>rw[e]at h;cases h
 |some c =>
  rw[e]at h
  cases h
  have h1:c.1=x:=by simpa using List.find?_some e
  have h2:=List.mem_of_find?_eq_some e
  subst h1
  exact h2
theorem ZvY {fo:List (Int×Option Int)} (nd:(fo.map (·.1)).Nodup) {x:Int}{u v:Option Int} (h1:(x,u)∈fo) (h2:(x,v)∈fo):u=v:=by
 induction fo with
 |nil=>cases h1
 |cons c fo ih =>
  rw[YM,List.nodup_cons]at nd
  rcases Yi.mp h1 with e1|h1<;>rcases Yi.mp h2 with e2|h2
  ·have:=e1.trans e2.symm
   cases this;rfl
  ·exact absurd (Yo.mpr ⟨_,h2,by rw[<-e1]⟩) nd.1
  ·exact absurd (Yo.mpr ⟨_,h1,by rw[<-e2]⟩) nd.1
  ·exact ih nd.2 h1 h2
theorem ZfK {ns T:List Int} (hT:Zu ns T) {a b:Nat} (hb:b<T.length) (h:a∈way T b):a<T.length:=by
 have e:=hT.1
 have:=((Zap hT (by omega)).mp h).1
 omega
theorem Zpu {ns T:List Int} (hT:Zu ns T) {a b c:Nat} (hc:c<T.length) (h1:a∈way T b) (h2:b∈way T c):a∈way T c:=by
 have e:=hT.1
 have hb:=ZfK hT hc h2
 have z1:=(Zap hT (by omega)).mp h1
 have z2:=(Zap hT (by omega)).mp h2
 exact(Zap hT (by omega)).mpr ⟨z1.1,z1.2.trans z2.2⟩
theorem ZaU {ns T:List Int} (hT:Zu ns T) {p:Nat} (hp:p<T.length):(nth T p=-1/\way T p=[])\/∃q:Nat,nth T p=q/\q<T.length/\way T p=q::way T q:=by
 have e:=hT.1
 rcases ZW hT (p:=p) (by omega)with z|⟨q,z,hq,_,_⟩
 ·exact .inl ⟨z,Zjk z⟩
 ·exact .inr ⟨q,z,by omega,Zfy hT (by omega) z⟩
theorem Ziu {ns T:List Int} (hT:Zu ns T) {a:Nat}:∀(k b:Nat),b<T.length->(way T b).length<=k->a∈way T b->(way T a).length<(way T b).length:=by
 intro k
 induction k with
 |zero =>
  intro b hb hk h
  have:way T b=[]:=List.length_eq_zero_iff.mp (by omega)
  rw[this]at h;cases h
 |succ k ih =>
  intro b hb hk h
  rcases ZaU hT hb with⟨_,e⟩|⟨q,_,hq,e⟩
  ·rw[e]at h;cases h
  ·rw[e,YQ]at hk⊢
   rw[e]at h
   rcases Yi.mp h with rfl|h
   ·omega
   ·have:=ih q hq (by omega) h
    omega
theorem Zjq (T:List Int) (p:Nat):dpI T (p:Int)=((way T p).length:Int):=by
 unfold dpI
 rw[YH,Z4,Yf]
theorem ZqD {T hs:List Int}{rs:List (List Int)} (hrs:ZhA rs (Zaj T hs)) {q:Nat}{x:Int}:x∈lowAt rs q↔∃b:Nat,x=b/\b<T.length/\q∈way T b/\nth hs b<nth hs q:=by
 unfold lowAt
 rw[Yo]
 constructor
 ·rintro⟨r,hr,rfl⟩
  obtain⟨h1,h2⟩:=YF.mp hr
  obtain⟨a,b,rfl,ha,hb,hw,hh⟩:=Zbu (hrs.1.mem_iff.mp h1)
  have h2:(a:Int)=(q:Int):=by simpa using h2
  have:a=q:=by omega
  subst this
  exact⟨b,rfl,hb,Zdh.mp hw,hh⟩
 ·rintro⟨b,rfl,hb,hw,hh⟩
  refine⟨[(q:Int),(b:Int)],YF.mpr ⟨hrs.1.mem_iff.mpr ?_,by simp⟩,rfl⟩
  unfold Zaj
  rw[List.mem_flatMap]
  refine⟨b,Yz.mpr hb,Yo.mpr ⟨(q:Int),YF.mpr ⟨Zdh.mpr hw,Yy ?_⟩,rfl⟩⟩
  rw[YH];exact hh
theorem Zdi {n:Nat}{x:Int}:x∈nats (n:Int)↔∃i:Nat,x=i/\i<n:=by
 unfold nats
 rw[Yo]
 constructor
 ·rintro⟨i,hi,rfl⟩
  exact⟨i,rfl,by simpa using hi⟩
 ·rintro⟨i,rfl,hi⟩
  exact⟨i,by simpa using hi,rfl⟩
structure StayI (T hs:List Int) (fo:List (Int×Option Int)) (ks:List Int) (bar:Int->Int):Prop where
 b0:∀p,p<T.length->bar (-1)<=nth hs p
 b1:∀p:Nat,p<T.length->(p:Int)∈ks->bar (nth T p)<=nth hs p/\(∀b,((p:Int),some b)∈fo->nth hs b.toNat<bar (nth T p))/\bar p=nth hs p
 b2:∀p:Nat,p<T.length->(p:Int)∉ks->bar p=bar (nth T p)/\(bar (nth T p)<=nth hs p->∃b,((p:Int),some b)∈fo/\bar (nth T p)<=nth hs b.toNat)
 lk:∀a b,(a,some b)∈fo->∃p q:Nat,a=p/\b=q/\p<T.length/\q<T.length/\p∈way T q/\nth hs q<nth hs p
 inj:∀p p' x,(p,some x)∈fo->(p',some x)∈fo->p=p'
 one:∀p u v,((p,u):Int×Option Int)∈fo->(p,v)∈fo->u=v
 gr:∀q b:Nat,b<T.length->q∈way T b->nth hs b<nth hs q->(∃b',((q:Int),some b')∈fo/\nth hs b<=nth hs b'.toNat)\/∃p:Nat,((p:Int),some (b:Int))∈fo/\(way T q).length<=(way T p).length
section
variable {nsT T hs:List Int}{fo:List (Int×Option Int)}{ks:List Int}{bar:Int->Int}
theorem StayI.up (I:StayI T hs fo ks bar) {p:Nat} (hp:p<T.length):bar (nth T p)<=bar p:=by
 by_cases h:(p:Int)∈ks
 ·obtain⟨h1,_,h2⟩:=I.b1 p hp h
  omega
 ·have:=(I.b2 p hp h).1
  omega
theorem StayI.over (hT:Zu nsT T) (I:StayI T hs fo ks bar) {a:Nat}:∀(k b:Nat),b<T.length->(way T b).length<=k->a∈way T b->bar a<=bar (nth T b):=by
 intro k
 induction k with
 |zero =>
  intro b hb hk h
  have:way T b=[]:=List.length_eq_zero_iff.mp (by omega)
  rw[this]at h;cases h
 |succ k ih =>
  intro b hb hk h
  rcases ZaU hT hb with⟨_,e⟩|⟨q,eq,hq,e⟩
  ·rw[e]at h;cases h
  ·rw[e,YQ]at hk
   rw[e]at h
   rw[eq]
   rcases Yi.mp h with rfl|h
   ·omega
   ·have:=ih q hq (by omega) h
    have:=I.up hq
    omega
theorem StayI.to (hT:Zu nsT T) (I:StayI T hs fo ks bar) {x:Nat} (hx:x<T.length) (C:Nat->Prop) (hC:∀q,q∈way T x->C q->bar (nth T q)<=nth hs x\/∃q':Nat,nth T q=q'/\q'∈way T x/\C q')
  (hg:∀q,q∈way T x->C q->nth hs x<nth hs q->∃b,((q:Int),some b)∈fo/\nth hs x<=nth hs b.toNat):∀(k q:Nat),q∈way T x->(way T q).length<=k->C q->bar q<=nth hs x:=by
 intro k
 induction k with
 |zero =>
  intro q hq hk hc
  have hqn:=ZfK hT hx hq
  have hb:bar (nth T q)<=nth hs x:=by
   rcases hC q hq hc with h|⟨q',e,h1,h2⟩
   ·exact h
   ·rcases ZaU hT hqn with⟨z,_⟩|⟨q2,z,_,z2⟩
    ·omega
    ·rw[z2]at hk;simp at hk
  by_cases h:(q:Int)∈ks
  ·obtain⟨h1,h2,h3⟩:=I.b1 q hqn h
   rw[h3]
   refine Int.not_lt.mp λz=>?_
   obtain⟨b,z1,z2⟩:=hg q hq hc z
   have:=h2 b z1
   omega
  ·rw[(I.b2 q hqn h).1];exact hb
 |succ k ih =>
  intro q hq hk hc
  have hqn:=ZfK hT hx hq
  have hb:bar (nth T q)<=nth hs x:=by
   rcases hC q hq hc with h|⟨q',e,h1,h2⟩
   ·exact h
   ·rw[e]
    refine ih q' h1 ?_ h2
    rcases ZaU hT hqn with⟨z,_⟩|⟨q2,z,_,z2⟩
    ·omega
    ·have:q2=q':=by omega
     subst this
     rw[z2,YQ]at hk
     omega
  by_cases h:(q:Int)∈ks
  ·obtain⟨h1,h2,h3⟩:=I.b1 q hqn h
   rw[h3]
   refine Int.not_lt.mp λz=>?_
   obtain⟨b,z1,z2⟩:=hg q hq hc z
   have:=h2 b z1
   omega
  ·rw[(I.b2 q hqn h).1];exact hb
theorem StayI.first (hT:Zu nsT T) (I:StayI T hs fo ks bar) {x:Nat} (hx:x<T.length) (hf:∀p,(p,some (x:Int))∉fo):bar (nth T x)<=nth hs x:=by
 have key:=I.to hT hx (λ_=>True) (λq hq _=>by
  rcases ZaU hT (ZfK hT hx hq)with⟨z,_⟩|⟨q2,z,_,z2⟩
  ·rw[z];exact .inl (I.b0 x hx)
  ·exact .inr ⟨q2,z,Zpu hT hx (by rw[z2];exact Yr) hq,trivial⟩) (λq hq _ z=>by
  rcases I.gr q x hx hq z with h|⟨p,h,_⟩
  ·exact h
  ·exact absurd h (hf _))
 rcases ZaU hT hx with⟨z,_⟩|⟨q,z,_,z2⟩
 ·rw[z];exact I.b0 x hx
 ·rw[z]
  exact key _ q (by rw[z2];exact Yr) (Ye _) trivial
theorem StayI.next (hT:Zu nsT T) (I:StayI T hs fo ks bar) {p x:Nat} (hf:((p:Int),some (x:Int))∈fo) (hb:bar p<=nth hs x):bar (nth T x)<=nth hs x:=by
 obtain⟨p',x',e1,e2,hp,hx,hw,hh⟩:=I.lk _ _ hf
 have:p'=p:=by omega
 subst this
 have:x'=x:=by omega
 subst this
 have key:=I.to hT hx (λq=>p'∈way T q) (λq hq hc=>by
  rcases ZaU hT (ZfK hT hx hq)with⟨_,z⟩|⟨q2,z,_,z2⟩
  ·rw[z]at hc;cases hc
  ·rw[z2]at hc
   rcases Yi.mp hc with rfl|hc
   ·rw[z];exact .inl hb
   ·exact .inr ⟨q2,z,Zpu hT hx (by rw[z2];exact Yr) hq,hc⟩) (λq hq hc z=>by
  rcases I.gr q x' hx hq z with h|⟨a,h,hl⟩
  ·exact h
  ·have:=I.inj _ _ _ h hf
   have:a=p':=by omega
   subst this
   have:=Ziu hT _ q (ZfK hT hx hq) (Ye _) hc
   omega)
 rcases ZaU hT hx with⟨_,z⟩|⟨q,z,_,z2⟩
 ·rw[z]at hw;cases hw
 ·rw[z]
  rw[z2]at hw
  rcases Yi.mp hw with rfl|hw
  ·exact hb
  ·exact key _ q (by rw[z2];exact Yr) (Ye _) hw
theorem StayI.down (hT:Zu nsT T) (I:StayI T hs fo ks bar) {ch:List Int} (h:Chn fo ch):∀(x:Nat) (r:List Int),ch=(x:Int)::r->∀y∈r,∃b:Nat,y=b/\b<T.length/\x∈way T b/\nth hs b<nth hs x:=by
 induction h with
 |one h=>rintro x r e y hy;cases e;cases hy
 |@cons p q r h h2 ih =>
  rintro x r' e y hy
  cases e
  obtain⟨p',q',e1,rfl,hp,hq,hw,hh⟩:=I.lk _ _ h
  have:p'=x:=by omega
  subst this
  rcases Yi.mp hy with rfl|hy
  ·exact⟨q',rfl,hq,hw,hh⟩
  ·obtain⟨b,e,hb,w2,h2⟩:=ih q' r rfl y hy
   exact⟨b,e,hb,Zpu hT hb hw w2,by omega⟩
theorem StayI.ZrN (hT:Zu nsT T) (I:StayI T hs fo ks bar) {ch:List Int} (h:Chn fo ch):∀(x:Nat) (r:List Int),ch=(x:Int)::r->x<T.length->bar (nth T x)<=nth hs x->ch.countP (λy=>decide (y∈ks))=1:=by
 induction h with
 |@one p h =>
  rintro x r e hx hb
  cases e
  have:(x:Int)∈ks:=by
   refine Classical.byContradiction λz=>?_
   obtain⟨_,h2⟩:=I.b2 x hx z
   obtain⟨b,h3,_⟩:=h2 hb
   exact nomatch I.one _ _ _ h h3
  simp[this]
 |@cons p q r h h2 ih =>
  rintro x r' e hx hb
  cases e
  by_cases z:(x:Int)∈ks
  ·have dn:=I.down hT (.cons h h2) x _ rfl
   obtain⟨h3,_,h4⟩:=I.b1 x hx z
   have:(q::r).countP (λy=>decide (y∈ks))=0:=by
    rw[List.countP_eq_zero]
    intro y hy
    obtain⟨b,rfl,hb',w,hh⟩:=dn y hy
    have:=I.over hT _ b hb' (Ye _) w
    simp only[decide_eq_true_eq]
    intro k
    have:=(I.b1 b hb' k).1
    omega
   rw[List.countP_cons_of_pos (by simpa using z),this]
  ·obtain⟨h3,h4⟩:=I.b2 x hx z
   obtain⟨b,h5,h6⟩:=h4 hb
   have:=I.one _ _ _ h h5
   cases this
   rw[List.countP_cons_of_neg (by simpa using z)]
   obtain⟨p',q',e1,rfl,hp,hq,hw,hh⟩:=I.lk _ _ h
   exact ih q' r rfl hq (I.next hT h (by rw[h3];simpa using h6))
theorem StayI.chain (I:StayI T hs fo ks bar) {ch:List Int} (h:Chn fo ch):Zil T hs ch=true:=by
 unfold Zil
 rw[List.all_eq_true]
 intro i hi
 have hi:=Yz.mp hi
 induction h generalizing i with
 |one h=>simp at hi
 |@cons p q r h h2 ih =>
  cases i with
  |zero =>
   obtain⟨p',q',rfl,rfl,hp,hq,hw,hh⟩:=I.lk _ _ h
   have e1:nth ((p':Int)::(q':Int)::r) 0=(p':Int):=rfl
   have e2:nth ((p':Int)::(q':Int)::r) (0+1)=(q':Int):=rfl
   unfold ZlP
   rw[e1,e2,YH,YH,Yy (Zdh.mpr hw),Yy hh];rfl
  |succ i =>
   have:=ih i (by simp at hi⊢;omega) (by simp at hi⊢;omega)
   exact this
end
theorem ZvZ (n:Int):(nats n).Pairwise (·<=·):=by
 unfold nats
 rw[List.pairwise_map]
 exact List.pairwise_lt_range.imp λh=>by omega
theorem Zik.Zhb {T ns ks us:List Int}{cs:List (Int×List Int)} (hG:ZJ T) (hl:ns.length=T.length) (h:Zik T ns ks us cs):∃(fo:List (Int×Option Int)) (bar:Int->Int),StayI T (hgt (Zg T) ns) fo ks bar/\us=(List.range T.length).map (λ(p:Nat)=>bar (p:Int))/\ks.Nodup/\ks.Pairwise (·<=·)/\(∀k∈ks,k∈nats (T.length:Int))/\(cs.map (·.2)).flatten.Perm (nats (T.length:Int))/\∀c∈cs,(∃r,c.2=c.1::r)/\Chn fo c.2/\∀p,(p,some c.1)∉fo:=by
 obtain⟨ps,rs,fo,m,bs,ks0,hpm,hpw,hrs,hch,_,hm1,hbr,hk,hks,hus⟩:=h
 obtain⟨h40,nsT,hT⟩:=id hG
 have eF:(Zg T).length=T.length:=ZQ T
 have eH:(hgt (Zg T) ns).length=T.length:=by simp[hgt,eF]
 generalize hgt (Zg T) ns=hs at *
 have nd:ps.Nodup:=hpm.nodup_iff.mpr (Zdg _)
 have I:=hch.all nd
 have pn:∀x∈ps,∃i:Nat,x=i/\i<T.length:=λx hx=>Zdi.mp (hpm.mem_iff.mp hx)
 have pm:∀i:Nat,i<T.length->(i:Int)∈ps:=λi hi=>hpm.mem_iff.mpr (Zdi.mpr ⟨i,rfl,hi⟩)
 have B:=hbr.all ((List.reverse_perm ps).nodup_iff.mpr nd) λq hq=>by
  obtain⟨i,rfl,_⟩:=pn q (List.mem_reverse.mp hq)
  omega
 have kf:∀p u v,((p,u):Int×Option Int)∈fo->(p,v)∈fo->u=v:=λp u v=>ZvY (by rw[hch.fol];exact nd)
 have mh:∀p,p<T.length->nth hs p∈hs:=λp hp=>by
  unfold nth
  rw[Yl,Yg (by omega)]
  exact YD _
 refine⟨fo,λx=>(lookI bs x).getD 0,⟨?_,?_,?_,?_,I.inj,kf,?_⟩,hus,hk.nodup_iff.mpr B.nd,hks,?_,I.fl.trans hpm,λc hc=>⟨(I.ch c hc).1,(I.ch c hc).2,I.hf c hc⟩⟩
 ·intro p hp
  show(lookI bs (-1)).getD 0<=_
  rw[B.top]
  have ne:hs≠[]:=λz=>by rw[z]at eH;simp at eH;omega
  exact(hm1 ne).2 _ (mh p hp)
 ·intro p hp hkp
  obtain⟨b,u,e1,e2,e3⟩:=B.at_ (p:Int) (List.mem_reverse.mpr (pm p hp))
  rw[YH]at e1 e3
  show(lookI bs (nth T p)).getD 0<=_/\(∀b',_->_<(lookI bs (nth T p)).getD 0)/\(lookI bs (p:Int)).getD 0=_
  rw[e1]
  rcases e3 with⟨_,e4,e5⟩|⟨e3,_⟩
  ·have e4:=YS e4
   refine⟨e4.1,λb' hb'=>?_,by rw[e5];rfl⟩
   have:=kf _ _ _ (ZlU e2) hb'
   subst this
   exact e4.2 _ rfl
  ·exact absurd (hk.mem_iff.mp hkp) e3
 ·intro p hp hkp
  obtain⟨b,u,e1,e2,e3⟩:=B.at_ (p:Int) (List.mem_reverse.mpr (pm p hp))
  rw[YH]at e1 e3
  show(lookI bs (p:Int)).getD 0=(lookI bs (nth T p)).getD 0/\((lookI bs (nth T p)).getD 0<=_->∃b',_/\(lookI bs (nth T p)).getD 0<=_)
  rw[e1]
  rcases e3 with⟨e3,_⟩|⟨_,e4,e5⟩
  ·exact absurd (hk.mem_iff.mpr e3) hkp
  ·refine⟨by rw[e5],λhb=>?_⟩
   have e4:=of_decide_eq_false e4
   cases u with
   |none=>exact absurd ⟨hb,λx z=>nomatch z⟩ e4
   |some b' =>
    refine⟨b',ZlU e2,Int.not_lt.mp λz=>e4 ⟨hb,λx y=>?_⟩⟩
    cases y;exact z
 ·intro a b hab
  obtain⟨p,rfl,hp⟩:=pn a (I.fp _ hab)
  have:=I.lw _ _ hab
  rw[YH]at this
  obtain⟨q,rfl,hq,hw,hh⟩:=(ZqD hrs).mp this
  exact⟨p,q,rfl,rfl,hp,hq,hw,hh⟩
 ·intro q b hb hw hh
  have hqn:=ZfK hT hb hw
  obtain⟨l1,l2,e⟩:=List.append_of_mem (pm q hqn)
  have dd:=Ziu hT _ b hb (Ye _) hw
  have pw:=hpw
  rw[e,List.pairwise_append]at pw
  have hb1:(b:Int)∈l1:=by
   have:=pm b hb
   rw[e]at this
   rcases Yq.mp this with z|z
   ·exact z
   ·rcases Yi.mp z with z|z
    ·have:b=q:=by omega
     subst this;omega
    ·have:=(Y6.mp pw.2.1).1 _ z
     rw[Zjq,Zjq]at this;omega
  rcases I.gr l1 q l2 e b (by rw[YH];exact(ZqD hrs).mpr ⟨b,rfl,hb,hw,hh⟩) hb1 with⟨b',z1,z2⟩|⟨p,hp,z⟩
  ·exact .inl ⟨b',z1,by simpa using z2⟩
  ·obtain⟨p,rfl,hpn⟩:=pn p (by rw[e];exact Yx _ hp)
   have:=pw.2.2 _ hp _ Yr
   rw[Zjq,Zjq]at this
   exact .inr ⟨p,z,by omega⟩
 ·intro k hkk
  exact hpm.mem_iff.mp (List.mem_reverse.mp (B.kq k (hk.mem_iff.mp hkk)))
theorem Zn3 {n:Nat}{ks:List Int} (nd:ks.Nodup) (hs:ks.Pairwise (·<=·)) (hk:∀k∈ks,k∈nats (n:Int)):ks=Zat n ks:=by
 have e:Zat n ks=(nats (n:Int)).filter λp=>decide (p∈ks):=by
  unfold Zat nats
  rw[List.filter_map];rfl
 refine ZiR ?_ hs ?_
 ·rw[e]
  refine(List.perm_ext_iff_of_nodup nd ((Zdg _).filter _)).mpr λa=>?_
  rw[YF]
  exact⟨λh=>⟨hk a h,Yy h⟩,λh=>YS h.2⟩
 ·rw[e]
  exact(ZvZ _).filter _
theorem Zt1 {n:Nat}{ks:List Int} (nd:ks.Nodup) (hk:∀k∈ks,k∈nats (n:Int)):(nats (n:Int)).countP (λy=>decide (y∈ks))=ks.length:=by
 rw[List.countP_eq_length_filter]
 refine List.Perm.length_eq ((List.perm_ext_iff_of_nodup ((Zdg _).filter _) nd).mpr λa=>?_)
 rw[YF]
 exact⟨λh=>YS h.2,λh=>⟨hk a h,Yy h⟩⟩
theorem Zik.ok {T ns ks us:List Int}{cs:List (Int×List Int)} (hG:ZJ T) (hl:ns.length=T.length) (h:Zik T ns ks us cs):ZdS T ns ks (Zfl (Zg T) us) (cs.map (·.2)):=by
 obtain⟨fo,bar,I,hus,nd,hks,hkn,hfl,hcs⟩:=h.Zhb hG hl
 obtain⟨h40,nsT,hT⟩:=id hG
 have eF:(Zg T).length=T.length:=ZQ T
 have un:∀p,p<T.length->nth us p=bar (p:Int):=λp hp=>by
  rw[hus]
  unfold nth
  rw[Yl,YG,Y8 hp];rfl
 have an:∀p,p<T.length->nth (Zfl (Zg T) us) p=nth (Zg T) p+nth us p:=λp hp=>ZnZ (by omega)
 have hu:∀p,p<T.length->nth (hgt (Zg T) (Zfl (Zg T) us)) p=nth us p:=λp hp=>by rw[ZE (by omega),an p hp];omega
 have hrow:∀p,p<T.length->nth (hgt (Zg T) ns) p=nth ns p-nth (Zg T) p:=λp hp=>ZE (by omega)
 refine⟨ZfJ (ls:=Zfl (Zg T) us) hG ((Zeo hG (by rw[Zkc];exact eF)).mpr λp hp=>?_),?_,?_,?_,?_,hfl,?_⟩
 ·rcases ZaU hT hp with⟨z,_⟩|⟨q,z,hq,_⟩
  ·rw[Yd z]
  ·rw[Yc (by omega),z,YH,hu p hp,hu q hq,un p hp,un q hq]
   have:=I.up hp
   rw[z]at this
   omega
 ·rw[hl];exact Zn3 nd hks hkn
 ·intro p hp
  obtain⟨i,rfl,hi⟩:=Zdi.mp (hkn p hp)
  rw[YH,an i hi,un i hi,(I.b1 i hi hp).2.2,hrow i hi];omega
 ·have e1:=hfl.countP_eq (λy=>decide (y∈ks))
  rw[Zt1 nd hkn,List.countP_flatten,YT]at e1
  rw[<-e1,Yf]
  have:(cs.map ((List.countP λy=>decide (y∈ks)) ∘ (·.2)))=cs.map λ_=>1:=by
   refine List.map_congr_left λc hc=>?_
   obtain⟨⟨r,e⟩,h2,h3⟩:=hcs c hc
   have hm:c.1∈nats (T.length:Int):=hfl.mem_iff.mp (List.mem_flatten.mpr ⟨c.2,Yo.mpr ⟨c,hc,rfl⟩,by rw[e];exact Yr⟩)
   obtain⟨x,ex,hx⟩:=Zdi.mp hm
   exact I.ZrN hT h2 x r (show c.2=_ by rw[e,ex]) hx (I.first hT hx (by rw[<-ex];exact h3))
  rw[this,List.map_const',List.sum_replicate_nat,Nat.mul_one]
 ·intro z
  obtain⟨c,hc,e⟩:=Yo.mp z
  obtain⟨⟨r,e2⟩,_⟩:=hcs c hc
  rw[e2]at e
  cases e
 ·intro ch hch
  obtain⟨c,hc,rfl⟩:=Yo.mp hch
  exact I.chain (hcs c hc).2.1
theorem Zpv {T ns:List Int} (hT:Zu ns T) {a b:Nat} (hb:b<T.length) (hw:a∈way T b):nth (hgt (Zg T) ns) a<=nth (hgt (Zg T) ns) b:=by
 have e:=hT.1
 have eF:(Zg T).length=T.length:=ZQ T
 have hO:=(Zap hT (by omega)).mp hw
 have h1:=Zmz hT (p:=b) (o:=a) (by omega) hO.1 hO.2
 rw[ZE (by omega),ZE (by omega),ZaJ (by omega),ZaJ (by omega)]
 omega
theorem ZlV {T ns:List Int} (hG:ZJ T) (hl:ns.length=T.length):Zaj T (hgt (Zg T) ns)=[]↔Zu ns T:=by
 constructor
 ·intro h
  refine ZfJ (ls:=ns) hG ((Zeo hG hl).mpr λp hp=>?_)
  obtain⟨_,nsT,hT⟩:=id hG
  rcases ZaU hT hp with⟨z,_⟩|⟨q,z,hq,z2⟩
  ·rw[Yd z]
  ·rw[Yc (by omega),z,YH]
   have:¬ nth (hgt (Zg T) ns) p<nth (hgt (Zg T) ns) q:=λy=>by
    have:[(q:Int),(p:Int)]∈Zaj T (hgt (Zg T) ns):=by
     unfold Zaj
     rw[List.mem_flatMap]
     refine⟨p,Yz.mpr hp,Yo.mpr ⟨(q:Int),YF.mpr ⟨Zdh.mpr (by rw[z2];exact Yr),Yy ?_⟩,rfl⟩⟩
     rw[YH];exact y
    rw[h]at this;cases this
   omega
 ·intro hT
  refine List.eq_nil_iff_forall_not_mem.mpr λr hr=>?_
  obtain⟨a,b,rfl,ha,hb,hw,hh⟩:=Zbu hr
  have:=Zpv hT hb (Zdh.mp hw)
  omega
theorem ZrO {rs' rs:List (List Int)} (h:ZhA rs' rs):rs'=[]↔rs=[]:=by
 constructor
 ·intro z;subst z;exact List.Perm.nil_eq h.1▸rfl
 ·intro z;subst z;exact h.1.eq_nil
theorem ZqE {ns ms:List Int} (hl:ms.length=ns.length) (h:∀p,p<ns.length->nth ms p=nth ns p):ms=ns:=by
 refine List.ext_getElem hl λi h1 h2=>?_
 have:=h i h2
 unfold nth at this
 simpa[Yl,h1,h2]using this
theorem Zpw {n:Nat}{ks:List Int} (h:ks=Zat n ks):∀p∈ks,∃i:Nat,p=i/\i<n:=λp hp=>by
 rw[h]at hp
 unfold Zat at hp
 obtain⟨i,hi,rfl⟩:=Yo.mp hp
 exact⟨i,rfl,Yz.mp (YF.mp hi).1⟩
theorem ZdS.whole {T ns ks ms:List Int}{chs:List (List Int)} (h:ZdS T ns ks ms chs) (hl:ns.length=T.length) (hT:Zu ns T):(∀ch∈chs,∃x,ch=[x])/\ks=nats (T.length:Int)/\ms=ns:=by
 obtain⟨h1,h2,h3,h4,h5,h6,h7⟩:=h
 have one:∀ch∈chs,∃x,ch=[x]:=λch hch=>by
  match ch,hch with
  |[],hch=>exact absurd hch h5
  |[x],_=>exact⟨x,rfl⟩
  |x::y::r,hch =>
   exfalso
   have hm:∀z∈x::y::r,∃i:Nat,z=i/\i<T.length:=λz hz=>Zdi.mp (h6.mem_iff.mp (List.mem_flatten.mpr ⟨_,hch,hz⟩))
   obtain⟨a,rfl,ha⟩:=hm x (by simp)
   obtain⟨b,rfl,hb⟩:=hm y (by simp)
   have:=List.all_eq_true.mp (h7 _ hch) 0 (Yz.mpr (by simp))
   unfold ZlP at this
   rw[show nth ((a:Int)::(b:Int)::r) 0=(a:Int)from rfl,show nth ((a:Int)::(b:Int)::r) (0+1)=(b:Int)from rfl,YH,YH,Bool.and_eq_true]at this
   have z1:=YS this.1
   have z2:=YS this.2
   have:=Zpv hT hb (Zdh.mp z1)
   omega
 have lens:chs.flatten.length=chs.length:=by
  rw[List.length_flatten,List.map_congr_left (g:=λ_=>1) (λch hch=>by obtain⟨x,rfl⟩:=one ch hch;rfl),List.map_const',List.sum_replicate_nat,Nat.mul_one]
 have ln:chs.length=T.length:=by
  rw[<-lens,h6.length_eq]
  unfold nats;simp
 have ek:ks=nats (T.length:Int):=by
  have e:Zat ns.length ks=(nats (ns.length:Int)).filter λp=>decide (p∈ks):=by
   unfold Zat nats
   rw[List.filter_map];rfl
  have l2:((nats (ns.length:Int)).filter λp=>decide (p∈ks)).length=(nats (ns.length:Int)).length:=by
   rw[<-e,<-h2,<-h4,ln,<-hl]
   unfold nats;simp
  have l3:=List.filter_eq_self.mpr (List.length_filter_eq_length_iff.mp l2)
  rw[h2,e,l3,hl]
 refine⟨one,ek,ZqE (by rw[hl];exact h1.1.symm) λp hp=>?_⟩
 have:=h3 (p:Int) (by rw[ek];exact Zdi.mpr ⟨p,rfl,by omega⟩)
 rwa [YH]at this
theorem ZdS.Zv0 {T ns ks ms:List Int}{chs:List (List Int)} (h:ZdS T ns ks ms chs) (hl:ns.length=T.length) (hk:ks=nats (T.length:Int)):Zu ns T:=by
 obtain⟨h1,h2,h3,_⟩:=h
 have:ms=ns:=ZqE (by rw[hl];exact h1.1.symm) λp hp=>by
  have:=h3 (p:Int) (by rw[hk];exact Zdi.mpr ⟨p,rfl,by omega⟩)
  rwa [YH]at this
 rwa [this]at h1
theorem ZdS.no_two {T ns ks ms:List Int}{chs:List (List Int)} (h:ZdS T ns ks ms chs) (hl:ns.length=T.length) {r:List Int} (hr:r∈Zaj T (hgt (Zg T) ns)):¬ (r.getD 0 0∈ks/\r.getD 1 0∈ks):=by
 obtain⟨h1,h2,h3,_⟩:=h
 obtain⟨a,b,rfl,ha,hb,hw,hh⟩:=Zbu hr
 rintro⟨z1,z2⟩
 have e1:=h3 _ z1
 have e2:=h3 _ z2
 have e1:nth ms a=nth ns a:=e1
 have e2:nth ms b=nth ns b:=e2
 have:=Zpv h1 hb (Zdh.mp hw)
 have eF:(Zg T).length=T.length:=ZQ T
 rw[ZE (by omega),ZE (by omega)]at this hh
 omega
theorem Zt2 {ns:List Int}{c:Int}{i:Nat} (h:i<ns.length):nth (ns.map λx=>x+c) i=nth ns i+c:=by
 simp[nth,Yl,h]
theorem ZrP {T ls gs:List Int}{d:Td} (hG:ZJ T) (hl:ls.length=T.length) (hg:gs.length=T.length) (h:Zj5 T ls gs d):ZfG T ls gs d:=by
 refine(ZtP hG hl hg d).mpr ?_
 cases d with
 |row ds=>exact⟨ds,h.1,rfl,h.2⟩
 |clash a b=>exact h.1
theorem Zpx {T ns:List Int}{F:Int}{d:Td} (hG:ZJ T) (hl:ns.length=T.length) (hF:ZlO T ns F) (h:Zj5 T (ns.map λx=>x-F) (ns.map λx=>x+F) d):∃ds,d=.row ds:=by
 obtain⟨ds,hD⟩:=due_ex T (ns.map λx=>x-F)
 refine⟨ds,ZtS h ⟨hD,λp hp=>?_⟩⟩
 have:=Zke hG hl hF hD p hp
 rw[Zt2 (by omega)]
 split at this<;>omega
theorem ZmT {T ns:List Int}{F far:Int}{d:Td} (hG:ZJ T) (hl:ns.length=T.length) (hF:ZlO T ns F) (h0:0<=far) (h1:far<F) (h:Zj5 T (ns.map λx=>x-far) (ns.map λx=>x+far) d):∃a b,d=.clash a b:=by
 cases d with
 |clash a b=>exact⟨a,b,rfl⟩
 |row ds =>
  exfalso
  have hT:=ZfJ hG h.1
  have:=Zt0 hG hl hF hT h0 λp hp=>by
   have m1:=ZtT h.1 p hp
   have m2:=h.2 p hp
   rw[Zdz (by omega)]at m1
   rw[Zt2 (by omega)]at m2
   unfold absI
   split<;>omega
  omega
theorem ZrQ {T os:List Int}{pr:Option (Int×Int)} (hG:ZJ T) (hT:Zu os T) (h:IsPair T (hgt (Zg T) os) pr):pr=none:=by
 cases pr with
 |none=>rfl
 |some z =>
  exfalso
  obtain⟨⟨b,e2,hb,hm⟩,hpos,_⟩:=Zjp h
  have hw:=Zeq hm
  have eT:=hT.1
  have eF:(Zg T).length=T.length:=ZQ T
  rw[Z4]at hm
  obtain⟨x,hx,ex⟩:=Yo.mp hm
  have hO:=(Zap hT (by omega)).mp hx
  have h1:=Zmz hT (p:=b) (o:=x) (by omega) hO.1 hO.2
  rw[<-ex,e2,show((x:Int)).toNat=x by omega,show((b:Int)).toNat=b by omega,ZE (by omega),ZE (by omega),ZaJ hb,ZaJ (by omega)]at hpos
  omega
theorem way_nd {nsT T:List Int} (hT:Zu nsT T):∀k b,b<T.length->(way T b).length<=k->(way T b).Nodup/\b∉way T b:=by
 have e:=hT.1
 intro k
 induction k with
 |zero =>
  intro b hb hk
  have:way T b=[]:=List.length_eq_zero_iff.mp (by omega)
  rw[this];simp
 |succ k ih =>
  intro b hb hk
  rcases ZaU hT hb with⟨_,z⟩|⟨q,_,hq,z⟩
  ·rw[z];simp
  ·rw[z,YQ]at hk
   obtain⟨h1,h2⟩:=ih q hq (by omega)
   have nb:b∉q::way T q:=λy=>by
    have:=Ziu hT _ b hb (Ye _) (z▸y)
    omega
   rw[z]
   exact⟨List.nodup_cons.mpr ⟨h2,h1⟩,nb⟩
theorem Zpy {f:Nat->List (List Int)}{n:Nat} (h1:∀b,b<n->(f b).Nodup) (h2:∀b r,r∈f b->r.getD 1 0=(b:Int)):∀k,k<=n->((List.range k).flatMap f).Nodup:=by
 intro k
 induction k with
 |zero=>intro _;simp
 |succ k ih =>
  intro hk
  rw[YV,List.flatMap_append]
  refine List.nodup_append.mpr ⟨ih (by omega),by simpa using h1 k (by omega),λr hr r' hr' e=>?_⟩
  obtain⟨b,hb,hm⟩:=List.mem_flatMap.mp hr
  have hb:=Yz.mp hb
  have e1:=h2 b r hm
  have e2:=h2 k r' (by simpa using hr')
  rw[e]at e1
  omega
noncomputable def ZmU (r:List Int):Nat:=10*(min (r.getD 0 0) (r.getD 1 0)).toNat+(max (r.getD 0 0) (r.getD 1 0)).toNat
theorem ZrR {T hs:List Int} (hG:ZJ T) (hn:T.length<=10):((List.range T.length).flatMap (Zbb T hs)).length<64:=by
 obtain⟨_,nsT,hT⟩:=hG
 have nd:((List.range T.length).flatMap (Zbb T hs)).Nodup:=Zpy (n:=T.length) (λb hb=>?_) (λb r hr=>?_) _ (Ye _)
 ·have hm:∀r∈(List.range T.length).flatMap (Zbb T hs),∃a b:Nat,r=[(a:Int),(b:Int)]/\a<T.length/\b<T.length/\a∈way T b:=λr hr=>by
   obtain⟨b,hb,hm⟩:=List.mem_flatMap.mp hr
   have hb:=Yz.mp hb
   obtain⟨a,ha,rfl⟩:=Yo.mp hm
   have ha:=(YF.mp ha).1
   rw[Z4]at ha
   obtain⟨x,hx,rfl⟩:=Yo.mp ha
   exact⟨x,b,rfl,ZfK hT hb hx,hb,hx⟩
  have nd2:(((List.range T.length).flatMap (Zbb T hs)).map ZmU).Nodup:=List.pairwise_map.mpr (List.Pairwise.imp_of_mem (λ{r r'} hr hr' hne e=>hne (by
   obtain⟨a,b,rfl,ha,hb,hw⟩:=hm r hr
   obtain⟨a',b',rfl,ha',hb',hw'⟩:=hm r' hr'
   simp only[ZmU,List.getD_cons_zero,List.getD_cons_succ]at e
   have d1:=Ziu hT _ b hb (Ye _) hw
   have d2:=Ziu hT _ b' hb' (Ye _) hw'
   have:(a=a'/\b=b')\/(a=b'/\b=a'):=by omega
   rcases this with⟨rfl,rfl⟩|⟨rfl,rfl⟩
   ·rfl
   ·omega)) nd)
  have hlt:∀q∈((List.range T.length).flatMap (Zbb T hs)).map ZmU,q<100/\q / 10<q % 10:=λq hq=>by
   obtain⟨r,hr,rfl⟩:=Yo.mp hq
   obtain⟨a,b,rfl,ha,hb,hw⟩:=hm r hr
   have d1:=Ziu hT _ b hb (Ye _) hw
   simp only[ZmU,List.getD_cons_zero,List.getD_cons_succ]
   have:a≠b:=λz=>by subst z;omega
   omega
  have c1:=Zrk (n:=100) nd2 λq hq=>(hlt q hq).1
  rw[Yf]at c1
  rw[<-c1]
  refine Yv (List.countP_mono_left (q:=λq=>decide (q / 10<q % 10)) λq _ h=>Yy (hlt q (YS h)).2) (by decide +kernel)
 ·unfold Zbb
  have hw:=(way_nd hT _ b hb (Ye _)).1
  have hI:(Zai T b).Nodup:=by
   rw[Z4]
   exact List.pairwise_map.mpr (List.Pairwise.imp (λ{x y} hne e=>hne (by omega)) hw)
  exact List.pairwise_map.mpr (List.Pairwise.imp (λ{x y} hne e=>hne (List.cons.inj e).1) (List.Pairwise.filter _ hI))
 ·unfold Zbb at hr
  obtain⟨a,_,rfl⟩:=Yo.mp hr
  rfl
theorem Zjd {f:Addr}{fd:FuncData} (F:Fun K "higher_pairs" "higher_pairs" Zaz f fd) (Z1:Callee P w K mg base "way_up" 1 ["tree","place"] (ZbD K mg)) (T:Txt K mg):FnOk P w K mg base (CXE P w) 2 f fd ["tree","heights"] (ZaI K mg):=by
 refine F.okX Zfg (λvs H Q E h=>?_) (λcdv A outer s H vs Q E hr h=>?_)
 ·obtain⟨t,h,T,hs,rfl,_⟩:=h;rfl
 obtain⟨t,h,T',hs,rfl,ht,hh,hn8,hG,hl,k1⟩:=h
 have hn:T'.length<=40:=by omega
 refine⟨_,(Zd (ZnO (i:=2) ["b","a","heights","tree"] [none,none,some 1,some 0] Zfg.nd rfl (Or.inl rfl) rfl rfl rfl (Zax rfl T.b_range (Za (Zj (Zk (K:=K) rfl) rfl T.b_len Yp (Za (pv 0) Zb)) Zb)) (λ_ _ _ _ _=>(Zm (i:=0) (show(["b","a","heights","tree"]:List Str).Nodup from by decide +kernel) rfl (Or.inl rfl))) (λ_ _ _ _ _=>ZG) (λ_ _ _ _ _=>(Zti (K:=K) rfl (Zf Z1 (hr.mono (by decide)) rfl Zv (Za (pv 3) (Za (pv 0) Zb))))) (λ_ _ _ _ _=>(Zm (i:=1) (show(["b","a","heights","tree"]:List Str).Nodup from by decide +kernel) rfl (Or.inl rfl))) (λ_ _ _ _ _=>Zfu (Zq Zff (Zy (r:=Zh4 K) Zx (pv 2) (pv 1) (λ_ _=>rfl)) (Zy (r:=Zh4 K) Zx (pv 2) (pv 0) (λ_ _=>rfl)) (Zn _))) (λ_ _ _ _ _=>(ZbH (Za (pv 1) (Za (pv 0) Zb)))) Zp Zp)
   (Zi (Zt (Zj (ZmA (K:=K) rfl) rfl T.b_sorted Zgc (Za (pv 2) Zb))))),?_⟩
 walk_at "rd"
 have eL:(T'.map V.int).length=T'.length:=Yf ..
 refine⟨_,.inr (SqT.of ht),by omega,by rw[eL];omega,?_⟩
 rw[eL,YH]
 refine Zpd T'.length (λi=>(List.range i).flatMap (Zbb T' hs)) rfl (λi hi=>Ym (pairs_len T' hs i) (Ym (ZtV (by omega) hn) (by decide))) (λi Hx s hi=>hi) (λHx s=>Ye _) ?_ ?_
 ·rintro i x acc Hx Hy hi tv s ⟨rfl,rfl⟩
  have ei:((0:Int)+(i:Int))=(i:Int):=by omega
  rw[ei]
  walk_at "rd"
  refine⟨t,T',i,rfl,.inr (SqT.of (s _ _ ht)),by omega,hi,λw H2 zw s2 hw=>⟨w,rfl,⟨_,SqL.of hw⟩,?_⟩⟩
  refine ZtG (Zai T' i).length (ZdW T' hs i) (by unfold ZdW;simpa using tv.same s2) (λj hj=>Ym Zpq (Ym (ZtV (by omega) hn) (by decide))) (λj Hz sz hj=>⟨_,_,SqL.of (sz _ _ hw),Yg (by simpa using hj)⟩) (λHz sz=>⟨_,SqL.of (sz _ _ hw),by simp⟩) ?_ ?_
  ·rintro j x acc2 H5 H6 hj t5 s5 ⟨rfl,hx⟩
   have ex:=hx _ (SqL.of (s5 _ _ hw))
   rw[YG,Yg hj]at ex
   cases ex
   have hm:=Zeq (YD hj)
   have hh5:H6 h=some (.lst (hs.map V.int)):=(s.trans (s2.trans s5)) _ _ hh
   have ea:((Zai T' i)[j]:Int)=(((Zai T' i)[j].toNat:Nat):Int):=by omega
   walk_at "rd"
   refine⟨_,SqL.of hh5,_,(congrArg (atI _) ea).trans (ZN (by omega)),_,SqL.of hh5,_,ZN (by omega),?_⟩
   refine⟨_,rfl,_,rfl,ZC (λc=>⟨by decide,λp hp=>C2W.next hj ?_ (s5.ZP hp)⟩) (λc=>C2W.next hj ?_ s5)⟩
   ·rw[Zkf hj,Yd c];exact(t5.same ((Ze.refl _).upd hp)).snoc Zc
   ·rw[Zkf hj,Yc c];exact t5
  ·intro acc2 H5 t5 s5
   rw[ZrM]at t5
   exact C2W.next hi t5 (s.trans (s2.trans s5))
 ·intro l acc H' s' hl' tv
  refine⟨l,rfl,_,tv.at hl',λr hr=>?_,ZrR hG hn8,λrs' l2 H2 p1 p2 z2 s2 t2=>k1 l2 rs' H2 ((s'.ZP hl').free z2) ((s'.ZP hl').trans s2) t2 ⟨p1,p2⟩⟩
  obtain⟨a,b,rfl,hb,_⟩:=ZlS hr
  exact⟨a,b,rfl,by omega,by omega⟩
theorem Zpz {f:Addr}{fd:FuncData} (F:Fun K "nearest" "nearest" Zc0 f fd) (Zz:Callee P w K mg base "flattest" 5 ["tree"] (Zac K mg)) (Zs:Callee P w K mg base "heights_of" 1 ["flat","row"] (Z3 K mg)) (ZbN:Callee P w K mg base "row_by" 1 ["flat","heights"] (Zc2 K mg)) (Zer:Callee P w K mg base "lifted" 6 ["tree","heights"] (Zgg K mg)) (ZY:Callee P w K mg base "higher_pairs" 2 ["tree","heights"] (ZaI K mg)) (L:Zpa K mg "nearest" f) (B:BM mg base) (T:Txt K mg):FnOk P w K mg base (CXE P w) 7 f fd ["tree","row"] (ZeB K mg):=by
 refine F.okL L B ZaE (λvs H Q E h=>?_) (λcdv A outer s H vs Q E LI hr h=>?_)
 ·obtain⟨t,r,T,ns,rfl,_⟩:=h;rfl
 obtain⟨t,r,T',ns,rfl,ht,hr1,hG,h8,hl,hTb,hTf,k1⟩:=h
 refine⟨_,(Zd (Zo (i:=2) ZaE.nd rfl (Or.inl rfl) (Zf Zz (hr.mono (by decide)) rfl ZK (Za (pv 0) Zb)))
   (Zd (Zo (i:=3) ZaE.nd rfl (Or.inr rfl) (Zf Zs (hr.mono (by decide)) rfl ZK (Za (pv 2) (Za (pv 1) Zb))))
   (Zd (Zo (i:=4) ZaE.nd rfl (Or.inl rfl) (ZtH (Nc:=["ab","heights"]) (js:=[none,some 3]) (pn:="ab") (q:=Zj0 "nearest") (P:=Zhw K mg "nearest") rfl hr ⟨rfl,rfl,rfl,rfl,rfl,rfl,rfl,λ_ _ _ _ _ _=>rfl⟩ (λ_ _ _ _ _ _=>(Zr Zae (Zy (r:=Zh4 K) Zx (pv 1) (Zy (r:=ZqW K) Zaq (pv 0) Zh (λ_ _=>rfl)) (λ_ _=>rfl)) (Zy (r:=Zh4 K) Zx (pv 1) (Zy (r:=ZqW K) Zaq (pv 0) Zh (λ_ _=>rfl)) (λ_ _=>rfl)))) rfl T.b_max (Za (Zf ZY (hr.mono (by decide)) rfl Zv (Za (pv 0) (Za (pv 3) Zb))) Zb) (Zet (Zo6 ⟨LI.code,LI.bm,LI.ql⟩ rfl) (Zet ZdM Zmd))))
   (Zd (Zo (i:=5) ZaE.nd rfl (Or.inr rfl) Zh)
   (Zd (Z0 (Zq Zvy (pv 4) ZdM (Zn _)) (Zd (Zc3 (pv 4) (Zes (n:=2) rfl (Zw (Zm (i:=6) ZaE.nd rfl (Or.inl rfl)) (Zw (Zm (i:=7) ZaE.nd rfl (Or.inl rfl)) Zav))))
   (Zi (Zo (i:=5) ZaE.nd rfl (Or.inr rfl) (Zr ZjQ (Zr Z9 (Zr Zae (Zy Zx (pv 3) (pv 6) (λ_ _=>rfl)) (Zy Zx (pv 3) (pv 7) (λ_ _=>rfl))) Zh) Zh)))) ZD)
   (Zd (Zo (i:=8) ZaE.nd rfl (Or.inl rfl) (Zf ZbN (hr.mono (by decide)) rfl Zv (Za (pv 2) (Za (ZV ["height","far"] [none,some 5] rfl rfl rfl (Zag (Zf Zer (hr.mono (by decide)) rfl Zv (Za (pv 0) (Za (pv 3) Zb)))) (λ_ _ _ _ _=>(Zm (i:=0) (show(["height","far"]:List Str).Nodup from by decide +kernel) rfl (Or.inl rfl))) (λ_ _ _ _ _=>ZG) (λ_ _ _ _ _=>(Zr Zae (pv 0) (pv 1))) Zp) Zb))))
   (Zi (Zt (ZbH (Za (pv 5) (Za (pv 8) (Za (pv 4) Zb)))))))))))),?_⟩
 have hn:=hG.1
 have eF:(Zg T').length=T'.length:=ZQ T'
 have eH:(hgt (Zg T') ns).length=T'.length:=by rw[ZcL,eF]
 refine Zah (fun σ Hx=>∃f,σ=[some (.ref t),some (.ref r),some (.ref f),none,none,none,none,none,none]/\Hx f=some (.tup ((Zg T').map V.int))/\Ze H Hx) (λR hR=>?_) ?_
 ·walk_at "rd"
  exact⟨t,T',rfl,ht,by omega,λ_ f H1 s1 hf=>hR _ _ ⟨f,rfl,hf,s1⟩,λg=>absurd hG g⟩
 rintro σ H1 ⟨f,rfl,hf,s1⟩
 refine Zah (fun σ Hx=>∃h,σ=[some (.ref t),some (.ref r),some (.ref f),some (.ref h),none,none,none,none,none]/\Hx h=some (.lst ((hgt (Zg T') ns).map V.int))/\Ze H1 Hx) (λR hR=>?_) ?_
 ·walk_at "rd"
  exact⟨f,r,_,ns,rfl,hf,hr1.elim (λz=>.inl (s1.seq z)) (λz=>.inr (s1.seqT z)),by omega,by omega,λ_ l H2 zl s2 hl2=>hR _ _ ⟨l,rfl,hl2,s2⟩,λz=>absurd (by omega) z⟩
 rintro σ H2 ⟨h,rfl,hh,s2⟩
 replace hf:=s2 _ _ hf
 replace s1:=s1.trans s2
 clear s2 H1
 refine Zah (fun σ Hx=>∃(v:V) (pr:Option (Int×Int)),σ=[some (.ref t),some (.ref r),some (.ref f),some (.ref h),some v,none,none,none,none]/\ZfH Hx v pr/\IsPair T' (hgt (Zg T') ns) pr/\Ze H2 Hx) (λR hR=>?_) ?_
 ·walk_at "rd"
  refine⟨t,h,T',_,rfl,s1 _ _ ht,hh,h8,hG,eH,λl rs H3 zl s3 tl pl=>?_⟩
  obtain⟨as,l1,l2,l3⟩:=id tl
  have hrow:∀i (h1:i<as.length),rowOf H3 (V.ref as[i])=rs.getD i []:=λi h1=>by
   rw[ZtY (l3 i h1 (by omega)),Yl,Yg (by omega)];rfl
  refine⟨Zb3.same hTb (s1.trans s3),λf1 H5 zf s5 LO=>⟨l,rfl,_,s5 _ _ l1,LO,λv=>dfK (hgt (Zg T') ns) (rowOf H3 v),λv H6 hv s6=>?_,λhns H6 s6=>?_,λi H6 hi hB s6=>?_⟩⟩
  ·obtain⟨a0,ha0,rfl⟩:=Yo.mp hv
   obtain⟨i,hi,rfl⟩:=List.mem_iff_getElem.mp ha0
   obtain⟨a,b,e,hb,ha,_⟩:=Zce.mp ((List.Perm.mem_iff pl.1).mp (YD (show i<rs.length by omega)))
   have hx:=s6 _ _ (s5 _ _ (l3 i hi (by omega)))
   rw[e]at hx
   have hw:=Zeq ha
   have ea:a=((a.toNat:Nat):Int):=by omega
   have hh6:=s6 _ _ (s5 _ _ (s3 _ _ hh))
   refine⟨_,rfl,_,SqT.of hx,_,rfl,_,_,rfl,SqL.of hh6,_,(congrArg (atI _) ea).trans (ZN (by omega)),_,rfl,_,SqT.of hx,_,rfl,_,_,rfl,SqL.of hh6,_,ZN (by omega),_,rfl,_,rfl,?_,Ze.refl _⟩
   show _=dfK (hgt (Zg T') ns) (rowOf H3 (V.ref as[i]))
   rw[hrow i hi,Yl,Yg (show i<rs.length by omega),Option.getD_some,e]
   simp[dfK]
  ·refine hR _ _ ⟨.non,none,rfl,rfl,?_,s3.trans (s5.trans s6)⟩
   have:as=[]:=by simpa using hns
   have e:=pl.1.length_eq
   rw[<-l2,this]at e
   exact List.length_eq_zero_iff.mp e.symm
  ·have hi:i<as.length:=by simpa using hi
   obtain⟨a,b,e,hb,ha,_⟩:=Zce.mp ((List.Perm.mem_iff pl.1).mp (YD (show i<rs.length by omega)))
   have hx:=s6 _ _ (s5 _ _ (l3 i hi (by omega)))
   rw[e]at hx
   have eg:∀j,j<as.length->Zbr (as.map V.ref) j=V.ref (as.getD j 0):=λj hj=>by
    unfold Zbr
    rw[Yl,YG,Yg hj,Yl,Yg hj];rfl
   have eg2:∀j (hj:j<as.length),as.getD j 0=as[j]:=λj hj=>by rw[Yl,Yg hj];rfl
   refine hR _ _ ⟨_,some (a,(b:Int)),rfl,⟨as[i],by rw[eg i hi,eg2 i hi],hx⟩,⟨rs,i,pl,by omega,?_,λj hj=>?_⟩,s3.trans (s5.trans s6)⟩
   ·rw[Yl,Yg (show i<rs.length by omega)];exact e
   ·have:=hB j (by simpa using(show j<as.length by omega))
    simp only[eg j (by omega),eg i hi,eg2 j (by omega),eg2 i hi,hrow j (by omega),hrow i hi]at this
    exact this
 rintro σ H3 ⟨v,pr,rfl,hv,hp,s3⟩
 replace hf:=s3 _ _ hf
 replace hh:=s3 _ _ hh
 replace s1:=s1.trans s3
 clear s3 H2
 refine Zah (fun σ Hx=>σ=[some (.ref t),some (.ref r),some (.ref f),some (.ref h),some v,some (.int 0),none,none,none]/\Hx=H3) (λR hR=>?_) ?_
 ·walk_at "rd"
  exact hR _ _ ⟨rfl,rfl⟩
 rintro σ H4 ⟨rfl,rfl⟩
 refine Zah (fun σ Hx=>∃v6 v7,σ=[some (.ref t),some (.ref r),some (.ref f),some (.ref h),some v,some (.int (Zdd (hgt (Zg T') ns) pr)),v6,v7,none]/\Hx=H4) (λR hR=>?_) ?_
 ·walk_at "rd"
  cases pr with
  |none =>
   have:v=.non:=hv
   exact ZC (λz=>absurd this z) λ_=>hR _ _ ⟨_,_,rfl,rfl⟩
  |some z =>
   obtain⟨a0,rfl,ha0⟩:=hv
   obtain⟨⟨b,e2,hb,hm⟩,_⟩:=Zjp hp
   have hw:=Zeq hm
   have ea:z.1=((z.1.toNat:Nat):Int):=by omega
   have eb:z.2=((z.2.toNat:Nat):Int):=by omega
   refine ZC (λ_=>?_) λz=>absurd (λy=>nomatch y) z
   exact⟨a0,rfl,_,SqT.of ha0,rfl,_,_,rfl,_,_,rfl,rfl,_,_,rfl,SqL.of hh,_,(congrArg (atI _) ea).trans (ZN (by omega)),_,_,rfl,SqL.of hh,_,(congrArg (atI _) eb).trans (ZN (by omega)),_,rfl,_,rfl,⟨by decide,by decide⟩,hR _ _ ⟨_,_,rfl,rfl⟩⟩
 rintro σ H5 ⟨v6,v7,rfl,rfl⟩
 walk_at "rd"
 refine⟨t,h,T',_,rfl,s1 _ _ ht,hh,hG,eH,Zb3.same hTf s1,λl us H6 zl s6 hL hl6=>⟨l,rfl,⟨_,SqL.of hl6⟩,?_⟩⟩
 have eU:=hL.1
 refine comp_map (n:=us.length) (λi=>V.int (nth us i-Zdd (hgt (Zg T') ns) pr)) (Yv (show _<=1000 by omega) (by decide)) (λi Hx s hi=>⟨_,_,SqL.of (s _ _ hl6),Z5 hi⟩) (λHx s=>⟨_,SqL.of (s _ _ hl6),by simp⟩) ?_ ?_
 ·rintro i x Hx Hy hi sx ⟨rfl,hx⟩
  have ex:=hx _ (SqL.of (sx _ _ hl6))
  rw[Z5 hi]at ex
  cases ex
  walk_at "rd"
  exact CW.next hi rfl sx
 ·intro l2 Hx sx zl2
  have g:=sx.ZP (o:=.lst ((List.range us.length).map λi=>V.int (nth us i-Zdd (hgt (Zg T') ns) pr))) zl2
  have e7:((List.range us.length).map λi=>V.int (nth us i-Zdd (hgt (Zg T') ns) pr))=(us.map λx=>x-Zdd (hgt (Zg T') ns) pr).map V.int:=by
   refine List.ext_getElem (by simp) λi i1 i2=>?_
   have:i<us.length:=by simpa using i1
   simp[nth,Yl,this]
  rw[e7]at g⊢
  have sA:=s6.trans g
  refine⟨f,l2,Zg T',us.map λx=>x-Zdd (hgt (Zg T') ns) pr,rfl,sA _ _ hf,Zc,by simp;omega,by simp;omega,λm H8 s8 hm=>⟨by decide,λq zq=>?_⟩⟩
  have g8:=(Ze.refl H8).upd (o:=.tup [V.int (Zdd (hgt (Zg T') ns) pr),V.ref m,v]) zq
  refine k1 q m v _ pr _ (s1.trans (sA.trans (s8.trans g8))) Zc (g8 _ _ hm) (hv.same (sA.trans (s8.trans g8))) hp ?_
  have hl1:=ZtZ (far:=Zdd (hgt (Zg T') ns) pr) hG eH hL
  rw[ZvX (by omega)]at hl1
  exact(Zn0 hG (by simp;omega) hl1).1
theorem Zld {f:Addr}{fd:FuncData} (F:Fun K "pair_shows" "pair_shows" Za0 f fd) (Za5:Callee P w K mg base "is_over" 2 ["tree","a","b"] (Zdb K mg)) (T:Txt K mg):FnOk P w K mg base (CXE P w) 3 f fd ["tree","heights","far","pair"] (ZdQ K mg):=by
 refine F.okX ZdU (λvs H Q E h=>?_) (λcdv A outer s H vs Q E hr h=>?_)
 ·obtain⟨t,h,far,v,T,hs,pr,rfl,_⟩:=h;rfl
 obtain⟨t,h,far,v,T',hs,pr,rfl,ht,hh,hv,hG,hl,k1⟩:=h
 refine⟨_,(Zd (Z0 (Zq Zbd (pv 2) Zh (Zn _)) (Zi (Zt (ZI Zju (pv 3) ZdM (Zn _)))) ZD)
   (Zd (Z0 (PW.pt (ZcI (Zcw (Zbn (Zj (Zed (K:=K) rfl) rfl T.b_isinstance Zbe (Za (pv 3) (Za (Zhd (v:=.ty "tuple") rfl T.b_tuple ZbI rfl) Zb))))) (ZbY (Zq Zc4 (Zj (Zk (K:=K) rfl) rfl T.b_len Yp (Za (pv 3) Zb)) Zh (Zn _))))) (Zi (Zt Zbv)) ZD)
   (Zd (Zc3 (pv 3) (Zes (n:=2) rfl (Zw (Zm (i:=4) ZdU.nd rfl (Or.inl rfl)) (Zw (Zm (i:=5) ZdU.nd rfl (Or.inl rfl)) Zav))))
   (Zi (Zt (ZbG (Zf Za5 (hr.mono (by decide)) rfl Zv (Za (pv 0) (Za (pv 4) (Za (pv 5) Zb)))) (Zbo (ZI (ZjL (K:=K) rfl) (Zr Zae (Zy Zx (pv 1) (pv 4) (λ_ _=>rfl)) (Zy Zx (pv 1) (pv 5) (λ_ _=>rfl))) (ZbH (Za (Zr Zaw Zh (pv 2)) (Za (Zr Zae (Zr Zaw Zh (pv 2)) Zh) Zb))) (by with_unfolding_all rfl))))))))),?_⟩
 have h40:=hG.1
 walk_at "rd"
 cases pr with
 |none =>
  have ev:v=.non:=hv
  subst ev
  exact ZC (λc=>k1 _ H ⟨λ_=>c,λ_=>Yy rfl⟩ (Ze.refl H)) λc=>⟨false,.inl ⟨_,.non,by with_unfolding_all rfl⟩,ZC (λ_=>k1 false H (Zep rfl c) (Ze.refl H)) λz=>absurd rfl z⟩
 |some z =>
  obtain⟨q,rfl,hq⟩:=hv
  obtain⟨a,b⟩:=z
  refine ZC (λc=>k1 _ H (Zep (YK λz=>nomatch z) λz=>z.1 c) (Ze.refl H)) λc=>⟨true,.inl ⟨_,.tup hq,by with_unfolding_all rfl⟩,ZC (λz=>nomatch z) λ_=>⟨q,rfl,_,.inr (SqT.of hq),ZC (λz=>absurd rfl z) λ_=>⟨q,rfl,_,SqT.of hq,rfl,_,_,rfl,_,_,rfl,rfl,t,T',a,b,rfl,ht,by omega,λH1 s1=>⟨_,rfl,ZC (λo=>?_) λo=>k1 false H1 (Zep rfl λz=>o (Yy (show 0<=b/\b<(T'.length:Int)/\a∈Zai T' b.toNat from z.2.1))) s1⟩⟩⟩⟩
  obtain⟨x,y,rfl,rfl,hy,hx,hw⟩:=ZtU hG (YS o)
  refine⟨_,_,rfl,SqL.of (s1 _ _ hh),_,ZN (by omega),_,_,rfl,SqL.of (s1 _ _ hh),_,ZN (by omega),?_⟩
  refine⟨_,rfl,_,rfl,Zec (by decide) (by decide),Zec (by decide) (by decide),by decide,λq2 zq2=>⟨_,.inr (SqT.of Zc),rfl,rfl,?_⟩⟩
  rw[in_two]
  refine k1 _ _ (decide_eq_true_iff.trans ⟨λz=>⟨c,over_of hy hw,?_⟩,λz=>?_⟩) (s1.ZP zq2)
  ·simpa only[YH]using z
  ·simpa only[YH]using z.2.2
theorem Ziv {f:Addr}{fd:FuncData} (F:Fun K "nearest_right" "nearest_right" Zal f fd) (ZS:Callee P w K mg base "tree_of" 2 ["row"] (ZaT K mg)) (Zz:Callee P w K mg base "flattest" 5 ["tree"] (Zac K mg)) (Zs:Callee P w K mg base "heights_of" 1 ["flat","row"] (Z3 K mg)) (ZeG:Callee P w K mg base "pair_shows" 3 ["tree","heights","far","pair"] (ZdQ K mg)) (T:Txt K mg):FnOk P w K mg base (CXE P w) 6 f fd ["tree","row","far","made","pair"] (Zcb K mg):=by
 refine F.okX Zcd (λvs H Q E h=>?_) (λcdv A outer s H vs Q E hr h=>?_)
 ·obtain⟨t,r,m,far,v,T,ns,ms,pr,rfl,_⟩:=h;rfl
 obtain⟨t,r,m,far,v,T',ns,ms,pr,rfl,ht,hr1,hm,hv,hG,hl,hml,k1⟩:=h
 refine⟨_,(Zd (Zo (i:=5) Zcd.nd rfl (Or.inl rfl) (Zf Zs (hr.mono (by decide)) rfl ZK (Za (Zf Zz (hr.mono (by decide)) rfl ZK (Za (pv 0) Zb)) (Za (pv 1) Zb))))
   (Zd (Z0 (Zq (Zgy (K:=K) rfl hr) (Zf ZS (hr.mono (by decide)) rfl Zv (Za (pv 3) Zb)) (pv 0) (Zn _)) (Zi (Zt Zbv)) ZD)
   (Zd (Zo (i:=6) Zcd.nd rfl (Or.inl rfl) (Zj (Zfv (K:=K) rfl rfl) rfl T.b_all ZjE (Za (ZV ["number","other","far"] [none,none,some 2] rfl rfl rfl (Zhx (K:=K) rfl rfl T.b_zip (Za (pv 3) (Za (pv 1) Zb))) (λ_ _ _ _ _=>(Zdt (K:=K) (n:=2) rfl rfl (Zw (Zm (i:=0) (show(["number","other","far"]:List Str).Nodup from by decide +kernel) rfl (Or.inl rfl)) (Zw (Zm (i:=1) (show(["number","other","far"]:List Str).Nodup from by decide +kernel) rfl (Or.inl rfl)) Zav)))) (λ_ _ _ _ _=>ZG) (λ_ _ _ _ _=>(ZI Zp8 (Zj ZsR rfl T.b_abs bt_abs (Za (Zr Zae (pv 0) (pv 1)) Zb)) (pv 2) (Zn _))) (Zct (ZZ Zp (ZZ Zp Zcs)))) Zb)))
   (Zi (Zt (ZbG (pv 6) (Zbo (Zf ZeG (hr.mono (by decide)) rfl Zv (Za (pv 0) (Za (pv 5) (Za (pv 2) (Za (pv 4) Zb)))))))))))),?_⟩
 have h40:=hG.1
 have eF:(Zg T').length=T'.length:=ZQ T'
 walk_at "rd"
 refine⟨t,T',rfl,ht,by omega,λ_ fl H1 s1 hfl=>?_,λz=>absurd hG z⟩
 refine⟨fl,r,Zg T',ns,rfl,hfl,s1.q hr1,by omega,by omega,λ_ hh H2 zh s2 hhh=>?_,λz=>absurd (by omega) z⟩
 refine⟨m,ms,rfl,(s1.trans s2).q hm,hml,λt2 es H3 hE s3 ht2=>⟨t2,rfl,?_⟩⟩
 have s13:=s1.trans (s2.trans s3)
 have e3:=Zf9 (n:=2) (K:=K) (H:=H3) Zcj (V.ref t2) (V.ref t) es T' (ZaH (SqT.of ht2)) (ZaH (SqT.of (s13 _ _ ht)))
 refine⟨_,e3,ZC (λz=>k1 false H3 (Zep rfl λy=>of_decide_eq_false z (hE.unique y.1)) s13) λz=>?_⟩
 have ee:es=T':=YS (by simpa using z)
 subst ee
 obtain⟨tm,bm⟩:=SqB.of (s13.q hm)
 obtain⟨tr,br⟩:=SqB.of (s13.q hr1)
 have eN:=hE.1
 refine⟨tm,tr,_,bm,_,br,?_⟩
 refine comp_map (n:=es.length) (λk=>V.bl (decide ((if nth ms k-nth ns k<0 then -(nth ms k-nth ns k)else nth ms k-nth ns k)<=far))) (Yv (show _<=1000 by omega) (by decide)) (λj Hz s hj=>⟨_,_,_,_,s.ZbF bm,s.ZbF br,Z5 (by omega),Z5 (by omega)⟩) (λHz s=>⟨_,_,s.ZbF bm,s.ZbF br,.inl (by rw[Yf];omega)⟩) ?_ ?_
 ·rintro k x Hz Hw hk sz ⟨q,x1,y1,zq,rfl,rfl,hx,hy⟩
  have ex:=hx _ (sz.ZbF bm)
  have ey:=hy _ (sz.ZbF br)
  rw[Z5 (by omega)]at ex ey
  cases ex
  cases ey
  walk_at "rd"
  exact⟨_,SqT.of Zc,rfl,_,_,rfl,_,_,rfl,rfl,_,rfl,_,rfl,CW.next hk rfl (sz.ZP zq)⟩
 ·intro q Hz sz hq
  refine⟨q,rfl,(List.range es.length).map λk=>decide ((if nth ms k-nth ns k<0 then -(nth ms k-nth ns k)else nth ms k-nth ns k)<=far),SqL.of (by rw[Zc,YT];rfl),?_⟩
  have g:=sz.ZP (o:=.lst ((List.range es.length).map λk=>V.bl (decide ((if nth ms k-nth ns k<0 then -(nth ms k-nth ns k)else nth ms k-nth ns k)<=far)))) hq
  refine ZC (λc=>?_) λc=>k1 false _ (Zep rfl λy=>c (List.all_eq_true.mpr λx hx=>?_)) (s13.trans g)
  ·refine⟨t,hh,far,v,es,hgt (Zg es) ns,pr,rfl,(s13.trans g) _ _ ht,g _ _ (s3 _ _ hhh),hv.same (s13.trans g),hG,by rw[ZcL];omega,λz H4 hz s4=>k1 z H4 (hz.trans ⟨λy=>⟨hE,λp hp=>?_,y⟩,λy=>y.2.2⟩) ((s13.trans g).trans s4)⟩
   exact YS (List.all_eq_true.mp c _ (Yo.mpr ⟨p,Yz.mpr hp,rfl⟩))
  ·obtain⟨p,hp,rfl⟩:=Yo.mp hx
   exact Yy (y.2.1 p (Yz.mp hp))
theorem Zkl {f:Addr}{fd:FuncData} (F:Fun K "lower_under" "lower_under" ZaL f fd) (ZY:Callee P w K mg base "higher_pairs" 2 ["tree","heights"] (ZaI K mg)) (T:Txt K mg):FnOk P w K mg base (CXE P w) 3 f fd ["tree","heights"] (Zde K mg):=by
 refine F.okX ZbM (λvs H Q E h=>?_) (λcdv A outer s H vs Q E hr h=>?_)
 ·obtain⟨t,h,T,hs,rfl,_⟩:=h;rfl
 obtain⟨t,h,T',hs,rfl,ht,hh,hG,hn8,hl,k1⟩:=h
 refine⟨_,(Zd (Zc7 (i:=2) ["place"] [none] ZbM.nd rfl (Or.inl rfl) rfl rfl rfl (Zl9 (pv 0)) (λ_ _ _ _ _=>(Zm (i:=0) (show(["place"]:List Str).Nodup from by decide +kernel) rfl (Or.inl rfl))) (λ_ _ _ _ _=>ZG) (λ_ _ _ _ _=>(Zb0 Zb)) Zp)
   (Zd (Zbp (ZbZ PassesOwn.never rfl (Zag (Zf ZY (hr.mono (by decide)) rfl Zv (Za (pv 0) (Za (pv 1) Zb)))) (Zes (n:=2) rfl (Zw (Zm (i:=3) ZbM.nd rfl (Or.inl rfl)) (Zw (Zm (i:=4) ZbM.nd rfl (Or.inl rfl)) Zav))) (Zi (Zbg (Zfs PySem.F.plainAttrs_list PySem.F.slot_list_append PySem.F.type_list_append ZaW (Zy Zx (pv 2) (pv 3) (λ_ _=>rfl)) (Za (pv 4) Zb))))))
   (Zi (Zt (pv 2))))),?_⟩
 have h40:=hG.1
 have eL:(T'.map V.int).length=T'.length:=Yf ..
 walk_at "rd"
 refine⟨⟨_,SqT.of ht⟩,ZjF (n:=T'.length) (λj acc Hz=>∃as:List Addr,acc=as.map V.ref/\as.length=j/\(∀a∈as,H a=none/\Hz a=some (.lst []))/\as.Nodup/\Ze H Hz) (Yv (show _<=1000 by omega) (by decide)) ⟨[],rfl,rfl,(λa ha=>absurd ha (by simp)),List.nodup_nil,Ze.refl H⟩ (λj acc Hz ⟨_,_,_,_,_,e⟩ hj=>⟨_,_,SqT.of (e _ _ ht),Z5 hj⟩) (λacc Hz ⟨_,_,_,_,_,e⟩=>⟨_,SqT.of (e _ _ ht),Y4 eL⟩) ?_ ?_⟩
 ·rintro j w acc Hz Hw hj hla ⟨as,rfl,hal,has,hnd,sz⟩ ⟨rfl,hx⟩
  walk_at "rd"
  refine⟨Yt _,λp zp=>CA.take hj hla ⟨as++[p],by simp,by simp[hal],λa ha=>?_,?_,sz.ZP zp⟩⟩
  ·rcases Yq.mp ha with z|z
   ·exact⟨(has a z).1,((Ze.refl _).upd zp) _ _ (has a z).2⟩
   ·have:a=p:=by simpa using z
    subst this
    exact⟨sz.free zp,Zc⟩
  ·rw[List.nodup_append]
   refine⟨hnd,by simp,λb hb c hc=>?_⟩
   have:c=p:=by simpa using hc
   subst this
   exact λy=>by rw[<-y,(has b hb).2]at zp;cases zp
 rintro l acc Hz ⟨as,rfl,hal,has,hnd,sz⟩ _ zl
 have gl:=(Ze.refl Hz).upd (o:=.lst (as.map V.ref)) zl
 have hl1:=Zc (H:=Hz) (a:=l) (o:=.lst (as.map V.ref))
 have nla:l∉as:=λz=>by rw[(has l z).2]at zl;cases zl
 have s1:=sz.trans gl
 have has1:∀a∈as,upd Hz l (.lst (as.map V.ref)) a=some (.lst []):=λa ha=>gl _ _ (has a ha).2
 generalize upd Hz l (.lst (as.map V.ref))=H1 at gl hl1 s1 has1⊢
 refine⟨t,h,T',hs,rfl,s1 _ _ ht,s1 _ _ hh,hn8,hG,hl,λq rs H2 zq s2 hq hS=>⟨q,rfl,hq.sq,?_⟩⟩
 obtain⟨bs,hb1,hb2,hb3⟩:=hq
 have hlen:=Zit (hs:=hs) h40 hS
 have nql:q≠l:=λz=>by rw[z,hl1]at zq;cases zq
 have nqa:q∉as:=λz=>by rw[has1 q z]at zq;cases zq
 refine Zjt (xs:=bs.map V.ref) (λi σ Hx=>∃v3 v4,σ=[some (.ref t),some (.ref h),some (.ref l),v3,v4]/\(∀(j:Nat) (a:Addr),as[j]?=some a->Hx a=some (.lst ((lowAt (rs.take i) j).map V.int)))/\∀b o,b∉as->H2 b=some o->Hx b=some o) ⟨_,_,rfl,(λj a e=>s2 _ _ (has1 a (List.mem_of_getElem? e))),λb o _ z=>z⟩ (λi σ Hx _ ⟨_,_,_,_,e⟩=>SqL.of (e _ _ nqa hb1)) ?_ ?_
 ·rintro i w σ Hx hw ⟨v3,v4,rfl,hL,hE⟩
  have hi:i<bs.length:=by have:=(YA.mp hw).1;simpa using this
  rw[YG,Yg hi]at hw
  cases hw
  have hir:i<rs.length:=by omega
  have er:rs[i]?=some rs[i]:=Yg hir
  obtain⟨a,b,eab,ha,hb,_,_⟩:=Zbu (hS.1.mem_iff.mp (YD hir))
  have hbt:H2 bs[i]=some (.tup [V.int a,V.int b]):=by have:=hb3 i hi hir;rw[eab]at this;exact this
  have nba:bs[i]∉as:=λz=>by rw[s2 _ _ (has1 _ z)]at hbt;cases hbt
  have hbx:=hE _ _ nba hbt
  have hlx:=hE _ _ nla (s2 _ _ hl1)
  obtain⟨c,ec⟩:∃c,as[a]?=some c:=⟨_,Yg (by omega)⟩
  have hcx:=hL a c ec
  have hz:(lowAt (rs.take i) a).length<=2000:=Ym ZlT (by rw[YX];omega)
  walk_at "rd"
  refine⟨_,SqT.of hbx,rfl,_,_,rfl,_,_,rfl,rfl,_,_,rfl,SqL.of hlx,V.ref c,Zbh (by rw[YG,ec];rfl),ZaG hcx,c,rfl,_,hcx,Yv (show _<=2000 by rw[Yf];exact hz) (by decide),λj d ed=>?_,λb' o nb z=>?_⟩
  ·rw[Zpr er,eab]
   by_cases c1:j=a
   ·subst c1
    rw[ec]at ed;cases ed
    rw[Zc,Yd (show([(j:Int),(b:Int)].getD 0 0)=(j:Int)from rfl),YJ];rfl
   ·have ndc:d≠c:=λy=>by
     subst y
     obtain⟨h1,e1⟩:=YA.mp ed
     obtain⟨h2,e2⟩:=YA.mp ec
     exact c1 ((List.getElem_inj hnd (h₀:=h1) (h₁:=h2)).mp (e1.trans e2.symm))
    rw[Zl ndc,Yc (show ¬ (([(a:Int),(b:Int)].getD 0 0)=(j:Int))from λy=>c1 (by have:(a:Int)=(j:Int):=y;omega))]
    exact hL j d ed
  ·rw[Zl (show b'≠c from λy=>nb (by rw[y];exact List.mem_of_getElem? ec))]
   exact hE b' o nb z
 ·rintro σ Hx ⟨v3,v4,rfl,hL,hE⟩
  walk_at "rd"
  rw[List.take_of_length_le (by simp;omega)]at hL
  refine k1 l rs Hx (sz.free zl) hS ⟨as,hE _ _ nla (s2 _ _ hl1),hal,hL⟩ λb o z=>hE b o (λy=>by rw[(has b y).1]at z;cases z) ((s1.trans s2) _ _ z)
theorem Zt3 {f:Addr}{fd:FuncData} (F:Fun K "stays" "stays" Zge f fd) (T:Txt K mg):FnOk P w K mg base (CXE P w) 1 f fd ["height","bar","under"] (Zj6 K mg):=by
 refine F.okX ZtN (λvs H Q E h=>?_) (λcdv A outer s H vs Q E hr h=>?_)
 ·obtain⟨h,b,u,rfl,_⟩:=h;rfl
 obtain⟨h,b,u,rfl,k1⟩:=h
 refine⟨_,(Zi (Zt (ZbG (ZI ZsP (pv 0) (pv 1) (Zn _)) (Zbo (pe_or (ZI Zju (pv 2) ZdM (Zn _)) (Zbo (ZI Zhf (pv 2) (pv 1) (Zn _)))))))),?_⟩
 walk_at "rd"
 refine ZC (λc=>?_) λc=>?_
 ·cases u with
  |none=>rw[Yd rfl];rwa [Yy ⟨c,λx z=>nomatch z⟩]at k1
  |some x =>
   rw[Yc (by simp)]
   refine⟨x,rfl,?_⟩
   have e:decide (x<b)=decide (b<=h/\∀y,some x=some y->y<b):=decide_eq_decide.mpr ⟨λz=>⟨c,λy e=>by cases e;exact z⟩,λz=>z.2 x rfl⟩
   rw[e];exact k1
 ·rwa [YK (λz=>c z.1)]at k1
theorem ZmV {f:Addr}{fd:FuncData} (F:Fun K "chains_by" "chains_by" ZbA f fd) (L:Zpa K mg "chains_by" f) (B:BM mg base) (T:Txt K mg):FnOk P w K mg base (CXE P w) 1 f fd ["order","lower","heights"] (ZeC K mg):=by
 refine F.okL L B Za4 (λvs H Q E h=>?_) (λcdv A outer s H vs Q E LI hr h=>?_)
 ·obtain⟨o,l,h,ps,hs,rs,rfl,_⟩:=h;rfl
 obtain⟨o,l,h,ps,hs,rs,rfl,ho,hl,hh,n1,n2,nd,hp,hb,hrs,hTb,k1⟩:=h
 refine⟨_,(Zd (Zo (i:=3) Za4.nd rfl (Or.inr rfl) ZnL)
   (Zd (Zo (i:=4) Za4.nd rfl (Or.inl rfl) ZnL)
   (Zd (Zbp (ZbZ PassesOwn.never rfl (Zag (pv 0)) (Zm (i:=5) Za4.nd rfl (Or.inl rfl)) (Zd (Zc7 (i:=6) ["b","chains"] [none,some 3] Za4.nd rfl (Or.inl rfl) rfl rfl rfl (Zag (Zy Zx (pv 1) (pv 5) (λ_ _=>rfl))) (λ_ _ _ _ _=>(Zm (i:=0) (show(["b","chains"]:List Str).Nodup from by decide +kernel) rfl (Or.inl rfl))) (λ_ _ _ _ _=>Zfu (pt_cmp (pc_din (Zhj hr) (pv 0) (pv 1)))) (λ_ _ _ _ _=>(pv 0)) Zp)
   (Zd (Zo (i:=7) Za4.nd rfl (Or.inl rfl) (ZtF (Nc:=["b","heights"]) (js:=[none,some 2]) (pn:="b") (q:=Zj0 "chains_by") (P:=Zhw K mg "chains_by") rfl hr ⟨rfl,rfl,rfl,rfl,rfl,rfl,rfl,λ_ _ _ _ _ _=>rfl⟩ (λ_ _ _ _ _ _=>(Zy (r:=Zh4 K) Zx (pv 1) (pv 0) (λ_ _=>rfl))) rfl T.b_max (Za (pv 6) Zb) (Zet (Zo6 ⟨LI.code,LI.bm,LI.ql⟩ rfl) (Zet ZdM Zmd))))
   (Zd (Zjo (Zhj hr) (pv 3) (pv 5) (Zr ZvC (ZbH (Za (pv 5) Zb)) (Zhe (Zq Zju (pv 7) ZdM (Zn _)) (ZbH Zb) (Ztx (pv 3) (pv 7) ⟨rfl,rfl,rfl,rfl⟩))) rfl)
   (Zi (Zjo (Zhj hr) (pv 4) (pv 5) (pv 7) rfl)))))))
   (Zi (Zt (ZbH (Za (pv 3) (Za (pv 4) Zb)))))))),?_⟩
 walk_at "rd"
 intro d1 z1 d2 z2
 have g1:=(Ze.refl H).upd (o:=.dK []) z1
 have g2:=(Ze.refl _).upd (o:=.dK []) z2
 have t1:=g2 _ _ (Zc (H:=H) (a:=d1) (o:=.dK []))
 have t2:=Zc (H:=upd H d1 (.dK [])) (a:=d2) (o:=.dK [])
 have nd12:d2≠d1:=λz=>by rw[z,Zc]at z2;cases z2
 have zd2:H d2=none:=g1.free z2
 have s1:=g1.trans g2
 generalize upd (upd H d1 (.dK [])) d2 (.dK [])=H1 at g2 t1 t2 s1⊢
 refine⟨⟨_,SqL.of (s1 _ _ ho)⟩,?_⟩
 refine Zjt (xs:=ps.map V.int) (λi σ Hx=>∃v5 v6 v7 cs fo,σ=[some (.ref o),some (.ref l),some (.ref h),some (.ref d1),some (.ref d2),v5,v6,v7]/\ChRun hs rs (ps.take i) cs fo/\ZqA Hx d1 cs/\ZiU Hx d2 fo/\Ze H Hx) ⟨_,_,_,[],[],rfl,.nil,⟨λ_=>0,t1,λc h=>absurd h (by simp)⟩,t2,s1⟩ (λi σ Hx _ ⟨_,_,_,_,_,_,_,_,_,e⟩=>SqL.of (e _ _ ho)) ?_ ?_
 ·rintro i w σ Hx hw ⟨v5,v6,v7,cs,fo,rfl,hR,hC,hF,sx⟩
  have hi:i<ps.length:=by have:=(YA.mp hw).1;simpa using this
  rw[YG,Yg hi]at hw
  cases hw
  have hpi:=hp _ (YD hi)
  obtain⟨p,ep⟩:=YU hpi.1
  rw[ep]at hpi⊢
  obtain⟨as,ha1,ha2,ha3⟩:=hl
  obtain⟨c,ec⟩:∃c,as[p]?=some c:=⟨_,Yg (by omega)⟩
  have hc:=ha3 p c ec
  obtain⟨AA,hd1,hcs⟩:=id hC
  have hz:(lowAt rs p).length<=2000:=Ym ZlT hrs
  have hcx:=sx _ _ hc
  have eLp:((lowAt rs p).map V.int).length=(lowAt rs p).length:=Yf ..
  walk_at "rd"
  refine⟨_,SqL.of (sx _ _ ha1),V.ref c,Zbh (by rw[YG,ec];rfl),c,rfl,⟨_,SqL.of hcx⟩,?_⟩
  refine Zgb (n:=(lowAt rs p).length) (λk=>cs.any λx=>decide (x.1=nth (lowAt rs p) k)) (λk=>V.int (nth (lowAt rs p) k)) (Yv (show _<=2000 by omega) (by decide)) (λj Hz s hj=>⟨_,_,SqL.of (s _ _ hcx),Z5 hj⟩) (λHz s=>⟨_,SqL.of (s _ _ hcx),Y4 eLp⟩) ?_ ?_
  ·rintro k y Hz Hw hk sz ⟨rfl,hy⟩
   have:=hy _ (SqL.of (sz _ _ hcx))
   rw[Z5 hk]at this
   cases this
   walk_at "rd"
   have hval:=valA (A:=AA) (b:=nth (lowAt rs p) k) (cs:=cs)
   refine⟨_,ZgB.k (k:=ZU (nth (lowAt rs p) k)) (sz _ _ hd1),?_⟩
   rw[hval]
   by_cases c1:(cs.any λx=>decide (x.1=nth (lowAt rs p) k))=true
   ·rw[Yd c1,Yd (show(some (V.ref (AA (nth (lowAt rs p) k)))).isSome=true from rfl)];exact CF.take hk c1 rfl sz
   ·rw[Yc c1,Yc (by simp)];exact CF.skip hk (Bool.eq_false_iff.mpr c1) sz
  intro lf Hz sz zlf
  have efs:(((List.range (lowAt rs p).length).filter λk=>cs.any λx=>decide (x.1=nth (lowAt rs p) k)).map λk=>V.int (nth (lowAt rs p) k))=(((List.range (lowAt rs p).length).filter λk=>cs.any λx=>decide (x.1=nth (lowAt rs p) k)).map λk=>nth (lowAt rs p) k).map V.int:=by rw[YT];rfl
  rw[efs]
  have hfs:∀x,x∈(((List.range (lowAt rs p).length).filter λk=>cs.any λx=>decide (x.1=nth (lowAt rs p) k)).map λk=>nth (lowAt rs p) k)↔x∈lowAt rs p/\(cs.any λc=>decide (c.1=x))=true:=λx=>by
   rw[Yo]
   constructor
   ·rintro⟨k,hk,rfl⟩
    obtain⟨h1,h2⟩:=YF.mp hk
    have hk:=Yz.mp h1
    refine⟨?_,h2⟩
    unfold nth
    rw[Yl,Yg hk]
    exact YD hk
   ·rintro⟨h1,h2⟩
    obtain⟨k,hk,rfl⟩:=YY h1
    have e:nth (lowAt rs p) k=(lowAt rs p)[k]:=by unfold nth;rw[Yl,Yg hk];rfl
    exact⟨k,YF.mpr ⟨Yz.mpr hk,by rw[e];exact h2⟩,e⟩
  generalize (((List.range (lowAt rs p).length).filter λk=>cs.any λx=>decide (x.1=nth (lowAt rs p) k)).map λk=>nth (lowAt rs p) k)=FS at hfs⊢
  have gf:=(Ze.refl Hz).upd (o:=.lst (FS.map V.int)) zlf
  have tf:=Zc (H:=Hz) (a:=lf) (o:=.lst (FS.map V.int))
  have sxf:=sz.trans gf
  generalize upd Hz lf (.lst (FS.map V.int))=H2 at gf tf sxf⊢
  refine⟨Zb3.same hTb (sx.trans sxf),λf1 H3 zf s3 LO=>⟨lf,rfl,FS,s3 _ _ tf,LO,λn=>nth hs n.toNat,λn H4 hn s4=>?_,?_⟩⟩
  ·have hnb:=hb p n ((hfs n).mp hn).1
   obtain⟨m,rfl⟩:=YU hnb.1
   exact⟨_,SqL.of ((((sx.trans sxf).trans s3).trans s4) _ _ hh),_,Zbh (Z5 (by omega)),rfl,Ze.refl _⟩
  have hnew:∀x∈cs,x.1≠(p:Int):=λx hx z=>by
   have h1:=(hR.keys x hx)
   rw[z]at h1
   obtain⟨m,hm,em⟩:=List.mem_take_iff_getElem.mp h1
   have:=(List.getElem_inj nd (h₀:=by omega) (h₁:=hi)).mp (em.trans ep.symm)
   omega
  have hnf:∀x∈fo,x.1≠(p:Int):=λx hx z=>by
   have h1:x.1∈ps.take i:=by rw[<-hR.fol];exact Yo.mpr ⟨x,hx,rfl⟩
   rw[z]at h1
   obtain⟨m,hm,em⟩:=List.mem_take_iff_getElem.mp h1
   have:=(List.getElem_inj nd (h₀:=by omega) (h₁:=hi)).mp (em.trans ep.symm)
   omega
  have lc:cs.length<=40:=Ym hR.len (by rw[YX];omega)
  have lf2:fo.length<=40:=by
   have:=congrArg List.length hR.fol
   rw[Yf,YX]at this;omega
  have htk:ps.take (i+1)=ps.take i++[(p:Int)]:=by rw[Y2,Yg hi,ep];rfl
  rw[htk]
  refine⟨λe0 H4 s4=>⟨by decide,λq1 hq1=>?_⟩,λk H4 hk hB s4=>⟨by decide,λq1 hq1=>?_⟩⟩
  ·have g4:=(Ze.refl H4).upd (o:=.tup [V.int (p:Int)]) hq1
   have r1:=Zc (H:=H4) (a:=q1) (o:=.tup [V.int (p:Int)])
   generalize upd H4 q1 (.tup [V.int (p:Int)])=H5 at g4 r1⊢
   refine⟨Yt _,λq2 hq2=>?_⟩
   have g5:=(Ze.refl H5).upd (o:=.tup []) hq2
   have r2:=Zc (H:=H5) (a:=q2) (o:=.tup [])
   generalize upd H5 q2 (.tup [])=H6 at g5 r2⊢
   refine⟨q1,q2,_,_,rfl,rfl,SqT.of (g5 _ _ r1),SqT.of r2,by simp,show 1<=sizeLine by decide,λ_=>?_,λz=>absurd rfl z⟩
   have sxy:Ze Hx H6:=((sxf.trans s3).trans (s4.trans g4)).trans g5
   exact Zkh (bo:=none) z1 zd2 nd12 (sxy _ _ hd1) (λc h=>sxy _ _ (hcs c h)) hnew (sxy _ _ hF) hnf lc lf2 (sx.trans sxy) (show H6 q1=some (.tup ([(p:Int)].map V.int))from g5 _ _ r1) (.new hR λb hb1 c hc e=>by
    have:b∈FS:=(hfs b).mpr ⟨hb1,List.any_eq_true.mpr ⟨c,hc,by simpa using e⟩⟩
    rw[e0]at this;simp at this)
  ·rw[Yc (by simp)]
   have g4:=(Ze.refl H4).upd (o:=.tup [V.int (p:Int)]) hq1
   have r1:=Zc (H:=H4) (a:=q1) (o:=.tup [V.int (p:Int)])
   generalize upd H4 q1 (.tup [V.int (p:Int)])=H5 at g4 r1⊢
   have hbm:nth FS k∈FS:=by
    unfold nth
    rw[Yl,Yg hk]
    exact YD hk
   have hBk:∀x∈FS,nth hs x.toNat<=nth hs (nth FS k).toNat:=λx hx=>by
    obtain⟨j,hj,rfl⟩:=YY hx
    have:=(hB j hj).1
    rwa [show nth FS j=FS[j] by unfold nth;rw[Yl,Yg hj];rfl]at this
   generalize nth FS k=b at hbm hBk⊢
   obtain⟨hb1,hb2⟩:=(hfs b).mp hbm
   obtain⟨⟨b',ch⟩,hbc,eb⟩:=List.any_eq_true.mp hb2
   have:b'=b:=by simpa using eb
   subst this
   have sx5:Ze Hx H5:=(sxf.trans s3).trans (s4.trans g4)
   have hch:=sx5 _ _ (hcs _ hbc)
   have hchl:=hR.chl _ hbc
   have hd5:=sx5 _ _ hd1
   have hval:ZdO (cs.map λc=>(ZU c.1,V.ref (AA c.1))) (ZU b')=some (V.ref (AA b')):=by rw[valA,Yd hb2]
   unfold Ztw
   walk_at "rd"
   refine⟨.inl ⟨_,.inl hd5⟩,_,hd5,ZU b',rfl,_,hval,?_⟩
   rw[dropA (g:=λc=>V.ref (AA c.1))]
   have e6:Exc d1 H5 (upd H5 d1 (.dK ((cs.filter λc=>decide (c.1≠b')).map λc=>(ZU c.1,V.ref (AA c.1))))):=Exc.upd
   have hd6:=Zc (H:=H5) (a:=d1) (o:=.dK ((cs.filter λc=>decide (c.1≠b')).map λc=>(ZU c.1,V.ref (AA c.1))))
   generalize upd H5 d1 (.dK ((cs.filter λc=>decide (c.1≠b')).map λc=>(ZU c.1,V.ref (AA c.1))))=H6 at e6 hd6⊢
   have tup6:∀a xs,H5 a=some (.tup xs)->H6 a=some (.tup xs):=λa xs e=>e6 _ _ (λy=>by rw[y,hd5]at e;cases e) e
   have hF6:ZiU H6 d2 fo:=e6 _ _ nd12 (sx5 _ _ hF)
   have s06:Ze H H6:=(sx.trans sx5).exc z1 e6
   have hrun:ChRun hs rs (ps.take i++[(p:Int)]) (cs.filter (λc=>decide (c.1≠b'))++[((p:Int),(p:Int)::ch)]) (fo++[((p:Int),some b')]):=.on hR hb1 hbc λb2 h2 ⟨c,hc,e⟩=>hBk b2 ((hfs b2).mpr ⟨h2,List.any_eq_true.mpr ⟨c,hc,by simpa using e⟩⟩)
   have hfl:(cs.filter λc=>decide (c.1≠b')).length<=40:=Ym (Y1 _ _) lc
   refine⟨q1,AA b',_,_,rfl,rfl,SqT.of (tup6 _ _ r1),SqT.of (tup6 _ _ hch),by simp,YZ (Yv (show _<=1000 by simp at hchl⊢;omega) (by decide)),λye=>?_,λyn q3 hq3=>?_⟩
   ·have ce:ch=[]:=by simpa using ye
    subst ce
    exact Zkh (bo:=some b') z1 zd2 nd12 hd6 (λc h=>tup6 _ _ (sx5 _ _ (hcs c (YF.mp h).1))) (λx h=>hnew x (YF.mp h).1) hF6 hnf hfl lf2 s06 (show H6 q1=some (.tup ([(p:Int)].map V.int))from tup6 _ _ r1) hrun
   ·have g7:=(Ze.refl H6).upd (o:=.tup ([V.int (p:Int)]++ch.map V.int)) hq3
    have r7:=Zc (H:=H6) (a:=q3) (o:=.tup ([V.int (p:Int)]++ch.map V.int))
    generalize upd H6 q3 (.tup ([V.int (p:Int)]++ch.map V.int))=H7 at g7 r7⊢
    exact Zkh (bo:=some b') z1 zd2 nd12 (g7 _ _ hd6) (λc h=>g7 _ _ (tup6 _ _ (sx5 _ _ (hcs c (YF.mp h).1)))) (λx h=>hnew x (YF.mp h).1) (g7 _ _ hF6) hnf hfl lf2 (s06.trans g7) (show H7 q3=some (.tup (((p:Int)::ch).map V.int))from r7) hrun
 ·rintro σ Hx ⟨v5,v6,v7,cs,fo,rfl,hR,hC,hF,sx⟩
  walk_at "rd"
  refine⟨by decide,λt zt=>?_⟩
  have gt:=(Ze.refl Hx).upd (o:=.tup [V.ref d1,V.ref d2]) zt
  rw[List.take_of_length_le (by simp)]at hR
  obtain⟨AA,hd1,hcs⟩:=hC
  exact k1 t d1 d2 cs fo _ hR ⟨AA,gt _ _ hd1,λc h=>gt _ _ (hcs c h)⟩ (gt _ _ hF) Zc (sx.trans gt)
theorem ZmW {f:Addr}{fd:FuncData} (F:Fun K "most_stay" "most_stay" ZbB f fd) (Za6:Callee P w K mg base "from_below" 5 ["tree"] (Zck K mg)) (Zz:Callee P w K mg base "flattest" 5 ["tree"] (Zac K mg)) (Zs:Callee P w K mg base "heights_of" 1 ["flat","row"] (Z3 K mg)) (ZbN:Callee P w K mg base "row_by" 1 ["flat","heights"] (Zc2 K mg)) (ZdY:Callee P w K mg base "lower_under" 3 ["tree","heights"] (Zde K mg)) (ZfM:Callee P w K mg base "chains_by" 1 ["order","lower","heights"] (ZeC K mg)) (ZmY:Callee P w K mg base "stays" 1 ["height","bar","under"] (Zj6 K mg)) (T:Txt K mg):FnOk P w K mg base (CXE P w) 6 f fd ["tree","row"] (ZcK K mg):=by
 refine F.okX ZX (λvs H Q E h=>?_) (λcdv A outer s H vs Q E hr h=>?_)
 ·obtain⟨t,r,T,ns,rfl,_⟩:=h;rfl
 obtain⟨t,r,T',ns,rfl,ht,hr1,l1,l2,hT1,hT2,k1,k2,k3⟩:=h
 refine⟨_,(Zd (Zo (i:=2) ZX.nd rfl (Or.inl rfl) (Zf Zz (hr.mono (by decide)) rfl ZK (Za (pv 0) Zb)))
   (Zd (Zo (i:=3) ZX.nd rfl (Or.inl rfl) (Zf Zs (hr.mono (by decide)) rfl ZK (Za (pv 2) (Za (pv 1) Zb))))
   (Zd (Zo (i:=4) ZX.nd rfl (Or.inl rfl) (Zf Za6 (hr.mono (by decide)) rfl Zv (Za (pv 0) Zb)))
   (Zd (Zc3 (Zf ZfM (hr.mono (by decide)) rfl Zv (Za (pv 4) (Za (Zf ZdY (hr.mono (by decide)) rfl Zv (Za (pv 0) (Za (pv 3) Zb))) (Za (pv 3) Zb)))) (Zes (n:=2) rfl (Zw (Zm (i:=5) ZX.nd rfl (Or.inl rfl)) (Zw (Zm (i:=6) ZX.nd rfl (Or.inl rfl)) Zav))))
   (Zd (Zo (i:=7) ZX.nd rfl (Or.inr rfl) (ZvP (Ztu (Zlq Zh2 Zh) (ZvK (K:=K) rfl rfl rfl T.b_min (Za (pv 3) Zb) (Zet Zh Zmd)) ZvO) rfl rfl (by simp) (by decide)))
   (Zd (Zo (i:=8) ZX.nd rfl (Or.inl rfl) (Zb0 Zb))
   (Zd (Zbp (ZbZ PassesOwn.never rfl (Zag (Zlx (K:=K) rfl (pv 4) (Zlq Zh2 Zh))) (Zm (i:=9) ZX.nd rfl (Or.inl rfl)) (Zd (Zjo (Zhj hr) (pv 7) (pv 9) (Zjn (Zhj hr) (pv 7) (Zy Zaq (pv 0) (pv 9) (λ_ _=>rfl)) (λ_ _=>rfl)) rfl)
   (Zd (Zo (i:=10) ZX.nd rfl (Or.inl rfl) (Zjn (Zhj hr) (pv 6) (pv 9) (λ_ _=>rfl)))
   (Zi (Z0 (Zbn (Zf ZmY (hr.mono (by decide)) rfl Zv (Za (Zy Zx (pv 3) (pv 9) (λ_ _=>rfl)) (Za (Zjn (Zhj hr) (pv 7) (pv 9) (λ_ _=>rfl)) (Za (Zhe (Zq Zju (pv 10) ZdM (Zn _)) ZdM (Zy Zx (pv 3) (pv 10) (λ_ _=>rfl))) Zb))))) (Zd (Zbg (Zfs PySem.F.plainAttrs_list PySem.F.slot_list_append PySem.F.type_list_append ZaW (pv 8) (Za (pv 9) Zb)))
   (Zi (Zjo (Zhj hr) (pv 7) (pv 9) (Zy Zx (pv 3) (pv 9) (λ_ _=>rfl)) rfl))) ZD))))))
   (Zd (Zo (i:=11) ZX.nd rfl (Or.inl rfl) (Zf ZbN (hr.mono (by decide)) rfl Zv (Za (pv 2) (Za (ZV ["place","bars"] [none,some 7] rfl rfl rfl (Zax rfl T.b_range (Za (Zj (Zk (K:=K) rfl) rfl T.b_len Yp (Za (pv 0) Zb)) Zb)) (λ_ _ _ _ _=>(Zm (i:=0) (show(["place","bars"]:List Str).Nodup from by decide +kernel) rfl (Or.inl rfl))) (λ_ _ _ _ _=>ZG) (λ_ _ _ _ _=>(Zjn (Zhj hr) (pv 1) (pv 0) (λ_ _=>rfl))) Zp) Zb))))
   (Zi (Zt (ZbH (Za (Zak (Zf8 (K:=K) rfl) rfl T.b_tuple ZbI (Za (Zj (ZiQ (K:=K) rfl) rfl T.b_sorted Zgc (Za (pv 8) Zb)) Zb)) (Za (pv 11) (Za (Zak (Zjb rfl) rfl T.b_list Zf7 (Za (Zrw (pv 5)) Zb)) Zb)))))))))))))),?_⟩
 by_cases hG:ZJ T'
 case neg =>
  refine Zah (λ_ _=>False) (λR hR=>?_) (λ_ _ z=>z.elim)
  walk_at "rd"
  exact⟨t,T',rfl,ht,by omega,λg=>absurd g hG,λ_ H1 s1=>k2 hG H1 s1⟩
 have h40:=hG.1
 have eF:(Zg T').length=T'.length:=ZQ T'
 refine Zah (fun σ Hx=>∃f,σ=[some (.ref t),some (.ref r),some (.ref f),none,none,none,none,none,none,none,none,none]/\Hx f=some (.tup ((Zg T').map V.int))/\Ze H Hx) (λR hR=>?_) ?_
 ·walk_at "rd"
  exact⟨t,T',rfl,ht,by omega,λ_ f H1 s1 hf=>hR _ _ ⟨f,rfl,hf,s1⟩,λg=>absurd hG g⟩
 rintro σ H1 ⟨f,rfl,hf,s1⟩
 by_cases hn:ns.length=T'.length
 case neg =>
  refine Zah (λ_ _=>False) (λR hR=>?_) (λ_ _ z=>z.elim)
  walk_at "rd"
  exact⟨f,r,_,ns,rfl,hf,s1.q hr1,by omega,by omega,λz=>absurd (by omega) hn,λ_ H2 s2=>k3 hG hn H2 (s1.trans s2)⟩
 have eH:(hgt (Zg T') ns).length=T'.length:=by rw[ZcL,eF]
 refine Zah (fun σ Hx=>∃h,σ=[some (.ref t),some (.ref r),some (.ref f),some (.ref h),none,none,none,none,none,none,none,none]/\Hx h=some (.lst ((hgt (Zg T') ns).map V.int))/\Ze H1 Hx) (λR hR=>?_) ?_
 ·walk_at "rd"
  exact⟨f,r,_,ns,rfl,hf,s1.q hr1,by omega,by omega,λ_ l H2 zl s2 hl2=>hR _ _ ⟨l,rfl,hl2,s2⟩,λz=>absurd (by omega) z⟩
 rintro σ H2 ⟨h,rfl,hh,s2⟩
 generalize ehs:hgt (Zg T') ns=hs at eH hh⊢
 refine Zah (fun σ Hx=>∃(o:Addr) (ps:List Int),σ=[some (.ref t),some (.ref r),some (.ref f),some (.ref h),some (.ref o),none,none,none,none,none,none,none]/\ps.Perm (nats (T'.length:Int))/\(ps.Pairwise λx y=>dpI T' y<=dpI T' x)/\Hx o=some (.lst (ps.map V.int))/\Ze H2 Hx) (λR hR=>?_) ?_
 ·walk_at "rd"
  exact⟨t,T',rfl,(s1.trans s2) _ _ ht,hG,Zb3.same hT1 (s1.trans s2),λl ps H3 zl s3 hpm hpw hl=>hR _ _ ⟨l,ps,rfl,hpm,hpw,hl,s3⟩⟩
 rintro σ H3 ⟨o,ps,rfl,hpm,hpw,ho,s3⟩
 have s03:=(s1.trans s2).trans s3
 have nd:ps.Nodup:=hpm.nodup_iff.mpr (Zdg _)
 have pl:ps.length=T'.length:=by have:=hpm.length_eq;unfold nats at this;simpa using this
 have hp:∀p∈ps,0<=p/\p<hs.length:=λp h=>by
  obtain⟨v,hv,rfl⟩:=Yo.mp (hpm.mem_iff.mp h)
  have:=Yz.mp hv
  omega
 refine Zah (fun σ Hx=>∃(d1 d2:Addr) (rs:List (List Int)) (cs:List (Int×List Int)) (fo:List (Int×Option Int)),σ=[some (.ref t),some (.ref r),some (.ref f),some (.ref h),some (.ref o),some (.ref d1),some (.ref d2),none,none,none,none,none]/\ZhA rs (Zaj T' hs)/\ChRun hs rs ps cs fo/\ZqA Hx d1 cs/\ZiU Hx d2 fo/\Ze H3 Hx) (λR hR=>?_) ?_
 ·walk_at "rd"
  refine⟨t,h,T',hs,rfl,s03 _ _ ht,s3 _ _ hh,hG,l1,eH,λl rs H4 zl hS hL s4=>?_⟩
  refine⟨o,l,h,ps,hs,rs,rfl,s4 _ _ ho,by rw[eH];exact hL,s4 _ _ (s3 _ _ hh),by omega,by omega,nd,hp,λi b hb=>?_,Zit h40 hS,Zb3.same hT2 (s03.trans s4),λu d1 d2 cs fo H5 hR5 hC hF hu s5=>⟨u,rfl,_,SqT.of hu,rfl,_,_,rfl,_,_,rfl,rfl,hR _ _ ⟨d1,d2,rs,cs,fo,rfl,hS,hR5,hC,hF,s4.trans s5⟩⟩⟩
  obtain⟨q,hq,rfl⟩:=Yo.mp hb
  obtain⟨a,b,rfl,_,hb,_⟩:=Zbu (hS.1.mem_iff.mp (YF.mp hq).1)
  exact⟨Int.natCast_nonneg _,by rw[eH];exact Int.ofNat_lt.mpr hb⟩
 rintro σ H4 ⟨d1,d2,rs,cs,fo,rfl,hS,hR4,hC,hF,s4⟩
 have s04:=s03.trans s4
 refine Zah (fun σ Hx=>∃(d3:Addr) (m:Int),σ=[some (.ref t),some (.ref r),some (.ref f),some (.ref h),some (.ref o),some (.ref d1),some (.ref d2),some (.ref d3),none,none,none,none]/\(hs=[]->m=0)/\(hs≠[]->m∈hs/\∀a∈hs,m<=a)/\H4 d3=none/\ZnR Hx d3 [(-1,m)]/\Ze H4 Hx) (λR hR=>?_) ?_
 ·walk_at "rd"
  intro d3 z3
  have g5:=(Ze.refl H4).upd (o:=.dK []) z3
  have r5:=Zc (H:=H4) (a:=d3) (o:=.dK [])
  generalize e5:upd H4 d3 (.dK [])=H5 at g5 r5
  simp only[ZmC]
  walk_at "rd"
  have fin:∀m:Int,(hs=[]->m=0)->(hs≠[]->m∈hs/\∀a∈hs,m<=a)->H5 d3=some (.dK [])/\∃kvs:List (Key×V),[(V.int (-1),V.int m)]=kvs.map (λkv=>(kV kv.1,kv.2))/\kvs.length<=15/\R [some (.ref t),some (.ref r),some (.ref f),some (.ref h),some (.ref o),some (.ref d1),some (.ref d2),some (.ref d3),none,none,none,none] (upd H5 d3 (.dK (Zig [] kvs))):=λm h1 h2=>by
   refine⟨r5,[(ZU (-1),V.int m)],rfl,show 1<=15 by decide,hR _ _ ⟨d3,m,rfl,h1,h2,z3,?_,?_⟩⟩
   ·unfold ZnR;rw[Zc];rfl
   ·rw[<-e5,Zvu];exact(Ze.refl H4).upd z3
  exact⟨hs,SqL.of (g5 _ _ (s4 _ _ (s3 _ _ hh))),λe0=>fin 0 (λ_=>rfl) (λz=>absurd e0 z),λn0 m hm hle=>fin m (λz=>absurd z n0) (λ_=>⟨hm,hle⟩)⟩
 rintro σ H5 ⟨d3,m,rfl,hm0,hm1,z3,hB5,s5⟩
 have s05:=s04.trans s5
 have z03:H d3=none:=s04.free z3
 obtain⟨AA,hd1,hcs⟩:=hC
 refine Zah (fun σ Hx=>∃(k:Addr),σ=[some (.ref t),some (.ref r),some (.ref f),some (.ref h),some (.ref o),some (.ref d1),some (.ref d2),some (.ref d3),some (.ref k),none,none,none]/\H5 k=none/\Hx k=some (.lst [])/\Ze H5 Hx) (λR hR=>?_) ?_
 ·walk_at "rd"
  exact⟨Yt _,λk zk=>hR _ _ ⟨k,rfl,zk,Zc,(Ze.refl _).upd zk⟩⟩
 rintro σ H6 ⟨k,rfl,zk,hk6,s6⟩
 have nk3:k≠d3:=λy=>by rw[y]at zk;unfold ZnR at hB5;rw[zk]at hB5;cases hB5
 refine Zah (fun σ Hx=>∃(v9 v10:Option V) (bs:List (Int×Int)) (ks:List Int),σ=[some (.ref t),some (.ref r),some (.ref f),some (.ref h),some (.ref o),some (.ref d1),some (.ref d2),some (.ref d3),some (.ref k),v9,v10,none]/\BarRun T' hs fo m ps.reverse bs ks/\ZnR Hx d3 bs/\Hx k=some (.lst (ks.map V.int))/\(∀b u,b≠d3->b≠k->H6 b=some u->Hx b=some u)) (λR hR=>?_) ?_
 ·walk_at "rd"
  obtain⟨_,nsT,hT⟩:=id hG
  have eT:=hT.1
  have s06:=s05.trans s6
  refine⟨_,SqL.of ((s4.trans (s5.trans s6)) _ _ ho),λq zq=>?_⟩
  have gq:=(Ze.refl H6).upd (o:=.lst (ps.map V.int).reverse) zq
  have hq:=Zc (H:=H6) (a:=q) (o:=.lst (ps.map V.int).reverse)
  rw[<-List.map_reverse]at gq hq⊢
  have nq3:q≠d3:=λy=>by rw[y,s6 _ _ hB5]at zq;cases zq
  have nqk:q≠k:=λy=>by rw[y,hk6]at zq;cases zq
  generalize upd H6 q (.lst (ps.reverse.map V.int))=H7 at gq hq⊢
  refine⟨⟨_,SqL.of hq⟩,?_⟩
  have zk0:H k=none:=s05.free zk
  refine Zjt (xs:=ps.reverse.map V.int) (λi σ Hx=>∃(v9 v10:Option V) (bs:List (Int×Int)) (ks:List Int),σ=[some (.ref t),some (.ref r),some (.ref f),some (.ref h),some (.ref o),some (.ref d1),some (.ref d2),some (.ref d3),some (.ref k),v9,v10,none]/\BarRun T' hs fo m (ps.reverse.take i) bs ks/\ZnR Hx d3 bs/\Hx k=some (.lst (ks.map V.int))/\(∀b u,b≠d3->b≠k->H7 b=some u->Hx b=some u)) ⟨none,none,_,[],rfl,.nil,gq _ _ (s6 _ _ hB5),gq _ _ hk6,λb u _ _ z=>z⟩ (λi σ Hx _ ⟨_,_,_,_,_,_,_,_,e⟩=>SqL.of (e _ _ nq3 nqk hq)) ?_ ?_
  ·rintro i w σ Hx hw ⟨v9,v10,bs,ks,rfl,hBR,hBx,hkx,ex⟩
   have hi:i<ps.reverse.length:=by have:=(YA.mp hw).1;simpa using this
   rw[YG,Yg hi]at hw
   cases hw
   have hpi:=hp _ (List.mem_reverse.mp (YD hi))
   obtain⟨p,ep⟩:=YU hpi.1
   rw[ep]at hpi⊢
   have hpT:p<T'.length:=by omega
   have hpi':p<hs.length:=by omega
   have n3:∀a o',H a=some o'->a≠d3/\a≠k:=λa o' e=>⟨λy=>(by rw[y,z03]at e;cases e),λy=>(by rw[y,zk0]at e;cases e)⟩
   have nd':ps.reverse.Nodup:=(List.reverse_perm ps).nodup_iff.mpr nd
   have hpn:(p:Int)∉bs.map (·.1):=λz=>by
    rw[hBR.keys]at z
    rcases Yi.mp z with z|z
    ·omega
    ·obtain⟨j,hj,ej⟩:=List.mem_take_iff_getElem.mp z
     have:=(List.getElem_inj nd' (h₀:=by omega) (h₁:=hi)).mp (ej.trans ep.symm)
     omega
   obtain⟨b,hb⟩:∃b,lookI bs (nth T' p)=some b:=Zn2 (by
    rw[hBR.keys]
    rcases ZW hT (p:=p) (by omega)with z|⟨q',z,hq',_⟩
    ·rw[z];simp
    ·refine Yw _ ?_
     rw[z]
     exact(ZiW hT (hpm:=(List.reverse_perm ps).trans hpm) (List.pairwise_reverse.mpr hpw) hpT (by omega) z).1 (YA.mpr ⟨hi,ep⟩))
   obtain⟨u,cu,hu,hcu,ecu⟩:=ZtW (bs:=fo) (x:=(p:Int)) (by rw[hR4.fol];exact List.mem_reverse.mp (ep▸YD hi))
   have keepH:∀a o',H a=some o'->Hx a=some o':=λa o' e=>ex _ _ (n3 a o' e).1 (n3 a o' e).2 ((s06.trans gq) _ _ e)
   have keep4:∀a o',H4 a=some o'->Hx a=some o':=λa o' e=>ex _ _ (λy=>by rw[y,z3]at e;cases e) (λy=>by have:=s5.free zk;rw[y,this]at e;cases e) ((s5.trans (s6.trans gq)) _ _ e)
   have hhx:=keep4 _ _ (s4 _ _ (s3 _ _ hh))
   have htx:=keepH _ _ ht
   have hFx:=keep4 _ _ hF
   have nd23:d2≠d3:=λy=>by unfold ZiU at hF;rw[y,z3]at hF;cases hF
   have nh3:h≠d3:=λy=>by have:=s4 _ _ (s3 _ _ hh);rw[y,z3]at this;cases this
   have nhk:h≠k:=λy=>by have:=s5 _ _ (s4 _ _ (s3 _ _ hh));rw[y,zk]at this;cases this
   have lb:bs.length<=41:=by have:=congrArg List.length hBR.keys;simp at this;omega
   walk_at "rd"
   have g1:ZgB Hx d3 (V.int (nth T' p)) (some (V.int b)):=by
    have:=ZgB.k (k:=ZU (nth T' p)) hBx
    rw[valB,hb]at this;exact this
   refine⟨_,SqT.of htx,_,Zbh (Z5 hpT),_,g1,_,ZjV.k (k:=ZU (p:Int)) hBx (Yv (show _<=41 by rw[Yf];exact lb) (by decide)),?_⟩
   rw[ZtX hpn]
   have hBy:=Zc (H:=Hx) (a:=d3) (o:=.dK ((bs++[((p:Int),b)]).map λc=>(ZU c.1,V.int c.2)))
   have ey:Exc d3 Hx (upd Hx d3 (.dK ((bs++[((p:Int),b)]).map λc=>(ZU c.1,V.int c.2)))):=Exc.upd
   generalize upd Hx d3 (.dK ((bs++[((p:Int),b)]).map λc=>(ZU c.1,V.int c.2)))=Hy at hBy ey⊢
   have hky:=ey _ _ nk3 hkx
   have hhy:=ey _ _ nh3 hhx
   have g2:ZgB Hy d2 (V.int (p:Int)) (some (Zij u)):=by
    have:=ZgB.k (k:=ZU (p:Int)) (ey _ _ nd23 hFx)
    rw[valO,hu]at this;exact this
   have g3:ZgB Hy d3 (V.int (p:Int)) (some (V.int b)):=by
    have:=ZgB.k (k:=ZU (p:Int)) hBy
    rw[valB,ZgG hpn]at this;exact this
   refine⟨_,g2,_,SqL.of hhy,_,Zbh (Z5 hpi'),_,g3,?_⟩
   have htk:ps.reverse.take (i+1)=ps.reverse.take i++[(p:Int)]:=by rw[Y2,Yg hi,ep];rfl
   rw[htk]
   have lks:ks.length<=40:=Ym hBR.ksl (by rw[YX,List.length_reverse];omega)
   cases u with
   |none =>
    rw[Yd (show Zij none=V.non from rfl)]
    refine⟨nth hs p,b,none,rfl,_,rfl,?_⟩
    have hst:staysI hs (nth hs p) b none=decide (b<=nth hs p/\∀x,(none:Option Int)=some x->x<b):=rfl
    refine ZC (λcc=>⟨ZaG hky,_,hky,Yv (show _<=40 by rw[Yf];exact lks) (by decide),?_⟩) λcc=>⟨_,_,.pass hBR hb hu (hst.trans (Bool.eq_false_iff.mpr cc)),hBy,hky,λa o' n1 n2 z=>ey _ _ n1 (ex a o' n1 n2 z)⟩
    have ez:Exc k Hy (upd Hy k (.lst (ks.map V.int++[V.int (p:Int)]))):=Exc.upd
    have hkz:=Zc (H:=Hy) (a:=k) (o:=.lst (ks.map V.int++[V.int (p:Int)]))
    generalize upd Hy k (.lst (ks.map V.int++[V.int (p:Int)]))=Hz at ez hkz⊢
    have hBz:=ez _ _ (Ne.symm nk3) hBy
    refine⟨_,SqL.of (ez _ _ nhk hhy),_,Zbh (Z5 hpi'),_,ZjV.k (k:=ZU (p:Int)) hBz (Yv (show _<=42 by rw[Yf,YN];simp;omega) (by decide)),_,_,.keep hBR hb hu (hst.trans cc),?_,?_,λa o' n1 n2 z=>?_⟩
    ·rw[Zki hpn];exact Zc
    ·rw[Zl nk3,hkz,YJ];rfl
    ·rw[Zl n1];exact ez _ _ n2 (ey _ _ n1 (ex a o' n1 n2 z))
   |some y =>
    rw[Yc (by unfold Zij;simp)]
    obtain⟨p',hp'⟩:=hR4.fob cu hcu y ecu
    obtain⟨q',hq',rfl⟩:=Yo.mp hp'
    obtain⟨a',y',rfl,_,hy',_⟩:=Zbu (hS.1.mem_iff.mp (YF.mp hq').1)
    refine⟨_,(y':Int),rfl,SqL.of hhy,_,Zbh (Z5 (by omega)),nth hs p,b,some (nth hs y'),rfl,_,rfl,?_⟩
    have hst:staysI hs (nth hs p) b (some (y':Int))=decide (b<=nth hs p/\∀x,some (nth hs y')=some x->x<b):=rfl
    refine ZC (λcc=>⟨ZaG hky,_,hky,Yv (show _<=40 by rw[Yf];exact lks) (by decide),?_⟩) λcc=>⟨_,_,.pass hBR hb hu (hst.trans (Bool.eq_false_iff.mpr cc)),hBy,hky,λa o' n1 n2 z=>ey _ _ n1 (ex a o' n1 n2 z)⟩
    have ez:Exc k Hy (upd Hy k (.lst (ks.map V.int++[V.int (p:Int)]))):=Exc.upd
    have hkz:=Zc (H:=Hy) (a:=k) (o:=.lst (ks.map V.int++[V.int (p:Int)]))
    generalize upd Hy k (.lst (ks.map V.int++[V.int (p:Int)]))=Hz at ez hkz⊢
    have hBz:=ez _ _ (Ne.symm nk3) hBy
    refine⟨_,SqL.of (ez _ _ nhk hhy),_,Zbh (Z5 hpi'),_,ZjV.k (k:=ZU (p:Int)) hBz (Yv (show _<=42 by rw[Yf,YN];simp;omega) (by decide)),_,_,.keep hBR hb hu (hst.trans cc),?_,?_,λa o' n1 n2 z=>?_⟩
    ·rw[Zki hpn];exact Zc
    ·rw[Zl nk3,hkz,YJ];rfl
    ·rw[Zl n1];exact ez _ _ n2 (ey _ _ n1 (ex a o' n1 n2 z))
  ·rintro σ Hx ⟨v9,v10,bs,ks,rfl,hBR,hBx,hkx,ex⟩
   rw[List.take_of_length_le (by simp)]at hBR
   exact hR _ _ ⟨v9,v10,bs,ks,rfl,hBR,hBx,hkx,λb u n1 n2 z=>ex b u n1 n2 (gq _ _ z)⟩
 rintro σ H7 ⟨v9,v10,bs,ks,rfl,hBR,hB7,hk7,e7⟩
 walk_at "rd"
 have zk0:H k=none:=s05.free zk
 have s07:Ze H H7:=λb u e=>e7 b u (λy=>by rw[y,z03]at e;cases e) (λy=>by rw[y,zk0]at e;cases e) ((s05.trans s6) _ _ e)
 have keep4:∀a o',H4 a=some o'->H7 a=some o':=λa o' e=>e7 _ _ (λy=>by rw[y,z3]at e;cases e) (λy=>by have:=s5.free zk;rw[y,this]at e;cases e) ((s5.trans s6) _ _ e)
 have hf7:=keep4 _ _ ((s2.trans (s3.trans s4)) _ _ hf)
 have lks:ks.length<=40:=Ym hBR.ksl (by rw[List.length_reverse];omega)
 refine⟨_,.inr (SqT.of (s07 _ _ ht)),by rw[Yf];omega,by rw[Yf];omega,?_⟩
 rw[show(((T'.map V.int).length:Nat):Int).toNat=T'.length by simp]
 refine ZjF (n:=T'.length) (λj acc Hz=>acc=((List.range j).map λ(q:Nat)=>(lookI bs (q:Int)).getD 0).map V.int/\Ze H7 Hz) (Yv (show _<=1000 by omega) (by decide)) ⟨rfl,Ze.refl _⟩ (λj acc Hz _ hj=>hj) (λacc Hz _=>Ye _) ?_ ?_
 ·rintro j y acc Hz Hw hj hla ⟨rfl,sz⟩ ⟨rfl,rfl⟩
  rw[show(0:Int)+(j:Int)=((j:Nat):Int) by omega]
  walk_at "rd"
  obtain⟨v,hv⟩:∃v,lookI bs (j:Int)=some v:=Zn2 (by
   rw[hBR.keys]
   exact Yw _ (List.mem_reverse.mpr (hpm.mem_iff.mpr (Yo.mpr ⟨j,Yz.mpr (by omega),rfl⟩))))
  refine⟨V.int v,?_,CA.take hj hla ⟨?_,sz⟩⟩
  ·have:=ZgB.k (k:=ZU (j:Int)) (sz _ _ hB7)
   rw[valB,hv]at this;exact this
  ·rw[YV,YJ,YJ,List.map_singleton,List.map_singleton,hv];rfl
 ·rintro lu acc Hz ⟨rfl,sz⟩ _ zlu
  have gl:=(Ze.refl Hz).upd (o:=.lst ((usB T'.length bs).map V.int)) zlu
  have hlu:=Zc (H:=Hz) (a:=lu) (o:=.lst ((usB T'.length bs).map V.int))
  show Zc2 K mg _ (upd Hz lu (.lst ((usB T'.length bs).map V.int))) _ _
  generalize upd Hz lu (.lst ((usB T'.length bs).map V.int))=H8 at gl hlu⊢
  have s78:=sz.trans gl
  have ul:(usB T'.length bs).length=T'.length:=by unfold usB;simp
  refine⟨f,lu,Zg T',usB T'.length bs,rfl,s78 _ _ hf7,hlu,by omega,by omega,λmd H9 s9 hmd=>⟨ks,SqL.of ((s78.trans s9) _ _ hk7),by omega,λks' l hpk hpw' zl=>⟨_,.inl ⟨SqL.of Zc,λl1 zl1=>?_⟩⟩⟩⟩
  have g9:=(Ze.refl H9).upd (o:=.lst (ks'.map V.int)) zl
  have g10:=(Ze.refl _).upd (o:=.tup (ks'.map V.int)) zl1
  have h10:=Zc (H:=upd H9 l (.lst (ks'.map V.int))) (a:=l1) (o:=.tup (ks'.map V.int))
  have gg:=g9.trans g10
  generalize upd (upd H9 l (.lst (ks'.map V.int))) l1 (.tup (ks'.map V.int))=H10 at gg h10⊢
  have s710:=(s78.trans s9).trans gg
  have hd10:=s710 _ _ (keep4 _ _ hd1)
  unfold Zqx Zqy
  walk_at "rd"
  refine⟨_,hd10,λv zv=>?_⟩
  have gv:=(Ze.refl H10).upd (o:=.ext (ZgC v d1)) zv
  have hv:=Zc (H:=H10) (a:=v) (o:=.ext (ZgC v d1))
  generalize upd H10 v (.ext (ZgC v d1))=H11 at gv hv⊢
  refine⟨d1,hv,_,gv _ _ hd10,λlc zlc=>?_⟩
  rw[YT]
  have gc:=(Ze.refl H11).upd (o:=.lst (cs.map ((λx:Key×V=>x.2) ∘ λc=>(ZU c.1,V.ref (AA c.1))))) zlc
  have hc:=Zc (H:=H11) (a:=lc) (o:=.lst (cs.map ((λx:Key×V=>x.2) ∘ λc=>(ZU c.1,V.ref (AA c.1)))))
  generalize upd H11 lc (.lst (cs.map ((λx:Key×V=>x.2) ∘ λc=>(ZU c.1,V.ref (AA c.1)))))=H12 at gc hc⊢
  refine⟨by decide,λu zu=>?_⟩
  have gu:=(Ze.refl H12).upd (o:=.tup [V.ref l1,V.ref md,V.ref lc]) zu
  have g12:=(gv.trans gc).trans gu
  refine k1 hG hn u l1 md lc AA ks' (usB T'.length bs) cs _ ?_ Zc (g12 _ _ h10) (g12 _ _ (gg _ _ hmd)) (gu _ _ hc) (λx hx=>(s710.trans g12) _ _ (keep4 _ _ (hcs x hx))) (s07.trans (s710.trans g12))
  unfold Zik
  rw[ehs]
  exact⟨ps,rs,fo,m,bs,ks,hpm,hpw,hS,hR4,hm0,hm1,hBR,hpk,hpw',rfl⟩
theorem Zn4 {f:Addr}{fd:FuncData} (F:Fun K "clashing" "clashing" Zb6 f fd) (Zz:Callee P w K mg base "flattest" 5 ["tree"] (Zac K mg)) (Zs:Callee P w K mg base "heights_of" 1 ["flat","row"] (Z3 K mg)) (ZY:Callee P w K mg base "higher_pairs" 2 ["tree","heights"] (ZaI K mg)) (T:Txt K mg):FnOk P w K mg base (CXE P w) 6 f fd ["tree","row"] (Zdy K mg):=by
 refine F.okX ZnT (λvs H Q E h=>?_) (λcdv A outer s H vs Q E hr h=>?_)
 ·obtain⟨t,r,T,ns,rfl,_⟩:=h;rfl
 obtain⟨t,r,T',ns,rfl,ht,hr1,n1,n2,k1,k2,k3⟩:=h
 refine⟨_,(Zi (Zt (Zf ZY (hr.mono (by decide)) rfl Zv (Za (pv 0) (Za (Zf Zs (hr.mono (by decide)) rfl ZK (Za (Zf Zz (hr.mono (by decide)) rfl ZK (Za (pv 0) Zb)) (Za (pv 1) Zb))) Zb))))),?_⟩
 walk_at "rd"
 have eF:(Zg T').length=T'.length:=by simp[Zg]
 refine⟨t,T',rfl,ht,by omega,λhG f H1 s1 hf=>⟨f,r,Zg T',ns,rfl,hf,s1.q hr1,by omega,by omega,λhl l H2 zl s2 hl2=>?_,λz H' s=>k3 hG (by omega) H' (s1.trans s)⟩,λg H' s=>k2 g H' s⟩
 have eH:(hgt (Zg T') ns).length=T'.length:=by simp[hgt,eF]
 exact⟨t,l,T',_,rfl,s2 _ _ (s1 _ _ ht),hl2,n1,hG,eH,λl2 rs H3 z3 s3 t3 p3=>k1 hG (by omega) l2 rs H3 (s1.free (s2.free z3)) (s1.trans (s2.trans s3)) t3 p3⟩
theorem Zt4 {f:Addr}{fd:FuncData} (F:Fun K "keeps" "keeps" Zgf f fd) (T:Txt K mg):FnOk P w K mg base (CXE P w) 1 f fd ["row","kept","made"] (Zj7 K mg):=by
 refine F.okX ZtO (λvs H Q E h=>?_) (λcdv A outer s H vs Q E hr h=>?_)
 ·obtain⟨r,k,m,ns,ks,ms,rfl,_⟩:=h;rfl
 obtain⟨r,k,m,ns,ks,ms,rfl,hr1,hk,hm,n1,n2,n3,k1⟩:=h
 refine⟨_,(Zd (Z0 (PW.pt (ZcI (Zcw (Zbn (Zj (Zed (K:=K) rfl) rfl T.b_isinstance Zbe (Za (pv 1) (Za (Zhd (v:=.ty "tuple") rfl T.b_tuple ZbI rfl) Zb))))) (ZbY (Zq (Zgy (K:=K) rfl hr) (Zak (ZjA (K:=K) rfl) rfl T.b_list Zf7 (Za (pv 1) Zb)) (ZV ["place","kept"] [none,some 1] rfl rfl rfl (Zax rfl T.b_range (Za (Zj (Zk (K:=K) rfl) rfl T.b_len Yp (Za (pv 0) Zb)) Zb)) (λ_ _ _ _ _=>(Zm (i:=0) (show(["place","kept"]:List Str).Nodup from by decide +kernel) rfl (Or.inl rfl))) (λ_ _ _ _ _=>Zfu (Zq (ZjL (K:=K) rfl) (pv 0) (pv 1) (by with_unfolding_all rfl))) (λ_ _ _ _ _=>(pv 0)) Zp) (Zn _))))) (Zi (Zt Zbv)) ZD)
   (Zi (Zt (Zj (Zfv (K:=K) rfl rfl) rfl T.b_all ZjE (Za (ZV ["place","made","row"] [none,some 2,some 0] rfl rfl rfl (Zl9 (pv 1)) (λ_ _ _ _ _=>(Zm (i:=0) (show(["place","made","row"]:List Str).Nodup from by decide +kernel) rfl (Or.inl rfl))) (λ_ _ _ _ _=>ZG) (λ_ _ _ _ _=>(ZI Zbd (Zy (Znx (K:=K) rfl) (pv 1) (pv 0) (λ_ _=>rfl)) (Zy (Znx (K:=K) rfl) (pv 2) (pv 0) (λ_ _=>rfl)) (Zn _))) Zp) Zb))))),?_⟩
 have eN:(ns.map V.int).length=ns.length:=Yf ..
 have eK:(ks.map V.int).length=ks.length:=Yf ..
 walk_at "rd"
 refine⟨true,.inl ⟨_,.tup hk,by with_unfolding_all rfl⟩,ZC (λz=>nomatch z) λ_=>⟨_,.inr (SqT.of hk),λl zl=>?_⟩⟩
 have g1:=(Ze.refl H).upd (o:=.lst (ks.map V.int)) zl
 have t1:=Zc (H:=H) (a:=l) (o:=.lst (ks.map V.int))
 generalize upd H l (.lst (ks.map V.int))=H1 at g1 t1⊢
 refine⟨_,g1.q hr1,by omega,by omega,?_⟩
 rw[eN,show((ns.length:Nat):Int).toNat=ns.length by omega]
 refine Zgb (n:=ns.length) (λp=>decide ((p:Int)∈ks)) (λp=>V.int (p:Int)) (Yv (show _<=1000 by omega) (by decide)) (λj Hz s hj=>hj) (λHz s=>Ye _) ?_ ?_
 ·rintro j y Hz Hw hj sz ⟨rfl,rfl⟩
  rw[show(0:Int)+(j:Int)=((j:Nat):Int) by omega]
  walk_at "rd"
  refine⟨_,.inr (SqT.of ((g1.trans sz) _ _ hk)),rfl,ZlC _,?_⟩
  rw[Zhq]
  exact ZC (λc=>CF.take hj c rfl sz) λc=>CF.skip hj (Bool.eq_false_iff.mpr c) sz
 intro lf Hz sz zlf
 have ek:(((List.range ns.length).filter λ(p:Nat)=>decide ((p:Int)∈ks)).map λ(p:Nat)=>V.int (p:Int))=(Zat ns.length ks).map V.int:=by unfold Zat;rw[YT];rfl
 rw[ek]
 have g2:=(Ze.refl Hz).upd (o:=.lst ((Zat ns.length ks).map V.int)) zlf
 have t2:=Zc (H:=Hz) (a:=lf) (o:=.lst ((Zat ns.length ks).map V.int))
 generalize upd Hz lf (.lst ((Zat ns.length ks).map V.int))=H2 at g2 t2⊢
 have s2:=g1.trans (sz.trans g2)
 refine⟨lf,rfl,_,Zjj Zcj _ _ ks (Zat ns.length ks) (Zcu (SqL.of ((sz.trans g2) _ _ t1))) (Zcu (SqL.of t2)),?_⟩
 refine ZC (λz=>?_) λz=>⟨⟨_,SqT.of (s2 _ _ hk)⟩,?_⟩
 ·have:=k1 H2 s2
  rwa [z,Bool.false_and]at this
 have zz:ks=Zat ns.length ks:=by simpa using z
 have hin:∀p∈ks,0<=p/\p<ns.length:=λp hp=>by
  rw[zz]at hp
  obtain⟨q,hq,rfl⟩:=Yo.mp hp
  have:=Yz.mp (YF.mp hq).1
  omega
 refine ZjF (n:=ks.length) (λj acc Hz=>acc=((ks.take j).map λp=>decide (nth ms p.toNat=nth ns p.toNat)).map V.bl/\Ze H2 Hz) (Yv (show _<=1000 by omega) (by decide)) ⟨rfl,Ze.refl _⟩ (λj acc Hz ⟨_,e⟩ hj=>⟨_,_,SqT.of ((s2.trans e) _ _ hk),Z5 hj⟩) (λacc Hz ⟨_,e⟩=>⟨_,SqT.of ((s2.trans e) _ _ hk),Y4 eK⟩) ?_ ?_
 ·rintro j y acc Hz' Hw hj hla ⟨rfl,se⟩ ⟨rfl,hy⟩
  have:=hy _ (SqT.of ((s2.trans se) _ _ hk))
  rw[Z5 hj]at this
  cases this
  have ej:nth ks j=ks[j]:=by unfold nth;rw[Yl,Yg hj];rfl
  have hb:=hin _ (YD hj)
  rw[<-ej]at hb
  obtain⟨q,eq⟩:=YU hb.1
  walk_at "rd"
  rw[eq]at hb⊢
  refine⟨_,(s2.trans se).q hm,_,Zbh (Z5 (by omega)),_,(s2.trans se).q hr1,_,Zbh (Z5 (by omega)),rfl,CA.take hj hla ⟨?_,se⟩⟩
  rw[Y2,Yg hj,YJ,YJ,<-ej,eq]
  congr 1
  simp
 ·rintro lb acc Hz' ⟨rfl,se⟩ _ zlb
  have g3:=(Ze.refl Hz').upd (o:=.lst (((ks.take ks.length).map λp=>decide (nth ms p.toNat=nth ns p.toNat)).map V.bl)) zlb
  refine⟨lb,rfl,_,SqL.of Zc,?_⟩
  have:=k1 _ (s2.trans (se.trans g3))
  rw[Yy zz,Bool.true_and]at this
  rw[List.all_map]
  rw[show(ks.take ks.length).all (id ∘ λp=>decide (nth ms p.toNat=nth ns p.toNat))=ks.all λp=>decide (nth ms p.toNat=nth ns p.toNat) by rw[List.take_length];rfl]
  exact this
theorem Zn5 {f:Addr}{fd:FuncData} (F:Fun K "is_chain" "is_chain" Zb7 f fd) (Za5:Callee P w K mg base "is_over" 2 ["tree","a","b"] (Zdb K mg)) (T:Txt K mg):FnOk P w K mg base (CXE P w) 3 f fd ["tree","heights","chain"] (ZfI K mg):=by
 refine F.okX ZnU (λvs H Q E h=>?_) (λcdv A outer s H vs Q E hr h=>?_)
 ·obtain⟨t,h,c,T,hs,ch,rfl,_⟩:=h;rfl
 obtain⟨t,h,c,T',hs,ch,rfl,ht,hh,hc,n1,n2,n3,n4,hin,k1⟩:=h
 refine⟨_,(Zi (Zt (Zj (Zfv (K:=K) rfl rfl) rfl T.b_all ZjE (Za (ZV ["a","b","tree","heights"] [none,none,some 0,some 1] rfl rfl rfl (Zhx (K:=K) rfl rfl T.b_zip (Za (pv 2) (Za (Zfq ZsU (pv 2) (Zeu Zh) Zmf) Zb))) (λ_ _ _ _ _=>(Zdt (K:=K) (n:=2) rfl rfl (Zw (Zm (i:=0) (show(["a","b","tree","heights"]:List Str).Nodup from by decide +kernel) rfl (Or.inl rfl)) (Zw (Zm (i:=1) (show(["a","b","tree","heights"]:List Str).Nodup from by decide +kernel) rfl (Or.inl rfl)) Zav)))) (λ_ _ _ _ _=>ZG) (λ_ _ _ _ _=>(ZbG (Zf Za5 (hr.mono (by decide)) rfl Zv (Za (pv 2) (Za (pv 0) (Za (pv 1) Zb)))) (Zbo (ZI Zff (Zy (r:=Zh4 K) Zx (pv 3) (pv 0) (λ_ _=>rfl)) (Zy (r:=Zh4 K) Zx (pv 3) (pv 1) (λ_ _=>rfl)) (Zn _))))) (Zct (ZZ Zp (ZZ Zp Zcs)))) Zb)))),?_⟩
 have hpos:0<ch.length:=List.length_pos_iff.mpr n3
 walk_at "rd"
 refine⟨c,_,rfl,SqT.of hc,?_,λq zq=>?_⟩
 ·rintro⟨z,_⟩
  have el:(ch.map V.int).length=ch.length:=Yf ..
  rw[el]at z
  have:HT.sIx ch.length 0 (some 1)=min 1 ch.length:=rfl
  rw[this]at z
  omega
 have ec:Zfr (ch.map V.int) (some 1) none=(ch.drop 1).map V.int:=by
  have:=Zq9 (ch.map V.int) 1
  rw[show((1:Nat):Int)=1 from rfl]at this
  rw[this,List.map_drop]
 rw[ec]
 have g1:=(Ze.refl H).upd (o:=.tup ((ch.drop 1).map V.int)) zq
 have t1:=Zc (H:=H) (a:=q) (o:=.tup ((ch.drop 1).map V.int))
 generalize upd H q (.tup ((ch.drop 1).map V.int))=H1 at g1 t1⊢
 obtain⟨tg,hB⟩:=SqB.of (K:=K) (H:=H1) (a:=c) (xs:=ch.map V.int) (.inr (SqT.of (g1 _ _ hc)))
 obtain⟨tu,hB2⟩:=SqB.of (K:=K) (H:=H1) (a:=q) (xs:=(ch.drop 1).map V.int) (.inr (SqT.of t1))
 have nd:∀i,nth (ch.drop 1) i=nth ch (i+1):=λi=>by
  unfold nth
  rw[Yl,Yl,List.getElem?_drop,Nat.add_comm]
 have ld:(ch.drop 1).length=ch.length-1:=Y5
 refine⟨q,rfl,tg,tu,_,hB,_,hB2,?_⟩
 refine comp_map (n:=ch.length-1) (λi=>V.bl (ZlP T' hs ch i)) (Yv (show _<=1000 by omega) (by decide)) (λi Hx s hi=>⟨_,_,_,_,s.ZbF hB,s.ZbF hB2,Z5 (by omega),Z5 (by omega)⟩) (λHx s=>⟨_,_,s.ZbF hB,s.ZbF hB2,.inr (by rw[Yf];omega)⟩) ?_ ?_
 ·rintro i x Hx Hy hi s ⟨q',x,y,hq,rfl,rfl,hx,hy⟩
  have ex:=hx _ (s.ZbF hB)
  have ey:=hy _ (s.ZbF hB2)
  rw[Z5 (by omega)]at ex
  rw[Z5 (by omega)]at ey
  cases ex;cases ey
  rw[nd]
  have mem:∀k,k<ch.length->0<=nth ch k/\nth ch k<T'.length:=λk hk=>hin _ (by
   unfold nth
   rw[Yl,Yg hk]
   exact YD hk)
  have m0:=mem i (by omega)
  have m1:=mem (i+1) (by omega)
  have gq:=(Ze.refl Hx).upd (o:=.tup [V.int (nth ch i),V.int (nth ch (i+1))]) hq
  have tq:=Zc (H:=Hx) (a:=q') (o:=.tup [V.int (nth ch i),V.int (nth ch (i+1))])
  have hlk:ZlP T' hs ch i=(decide (nth ch i∈Zai T' (nth ch (i+1)).toNat)&&decide (nth hs (nth ch (i+1)).toNat<nth hs (nth ch i).toNat)):=rfl
  walk_at "rd"
  generalize upd Hx q' (.tup [V.int (nth ch i),V.int (nth ch (i+1))])=H2 at gq tq⊢
  generalize nth ch i=a at m0 tq hlk⊢
  generalize nth ch (i+1)=b at m1 tq hlk⊢
  obtain⟨a,rfl⟩:=YU m0.1
  obtain⟨b,rfl⟩:=YU m1.1
  have s2:=g1.trans (s.trans gq)
  refine⟨_,SqT.of tq,rfl,_,_,rfl,_,_,rfl,rfl,t,T',_,_,rfl,s2 _ _ ht,n1,λH3 s3=>⟨_,rfl,?_⟩⟩
  have hh3:=(s2.trans s3) _ _ hh
  refine ZC (λz=>⟨_,_,rfl,SqL.of hh3,_,Zbh (Z5 (by omega)),_,_,rfl,SqL.of hh3,_,Zbh (Z5 (by omega)),_,rfl,_,rfl,CW.next hi ?_ (s.trans (gq.trans s3))⟩) λz=>CW.next hi ?_ (s.trans (gq.trans s3))
  ·have z2:=(YS z).2.2
   rw[hlk,Yy z2,Bool.true_and];rfl
  ·skip
   rw[hlk,YK (λy=>z (Yy ⟨m1.1,m1.2,y⟩)),Bool.false_and]
 ·intro l Hx s hl
  refine⟨l,rfl,(List.range (ch.length-1)).map (ZlP T' hs ch),SqL.of (by rw[Zc,YT];rfl),?_⟩
  rw[List.all_map]
  exact k1 _ (g1.trans (s.ZP hl))
theorem Zle {f:Addr}{fd:FuncData} (F:Fun K "all_tuples" "all_tuples" Za2 f fd) (T:Txt K mg):FnOk P w K mg base (CXE P w) 1 f fd ["entries"] (ZdR K mg):=by
 refine F.okX Zk9 (λvs H Q E h=>?_) (λcdv A outer s H vs Q E hr h=>?_)
 ·obtain⟨l,os,rfl,_⟩:=h;rfl
 obtain⟨l,os,rfl,hO,hn,k1⟩:=h
 refine⟨_,(Zi (Zt (Zj (Zfv (K:=K) rfl rfl) rfl T.b_all ZjE (Za (ZV ["entry"] [none] rfl rfl rfl (Zag (pv 0)) (λ_ _ _ _ _=>(Zm (i:=0) (show(["entry"]:List Str).Nodup from by decide +kernel) rfl (Or.inl rfl))) (λ_ _ _ _ _=>ZG) (λ_ _ _ _ _=>(Zj (Zed (K:=K) rfl) rfl T.b_isinstance Zbe (Za (pv 0) (Za (Zhd (v:=.ty "tuple") rfl T.b_tuple ZbI rfl) Zb)))) Zp) Zb)))),?_⟩
 walk_at "rd"
 obtain⟨w1,w2,w3⟩:=hO.walk (K:=K)
 refine⟨hO.sq,?_⟩
 refine comp_map (n:=os.length) (λ_=>V.bl true) (Yv hn (by decide)) (λj Hx s hj=>w1 j Hx s hj) (λHx s=>w2 Hx s) ?_ ?_
 ·rintro j x Hx Hy hj s y
  obtain⟨rfl,a,rfl,ha⟩:=w3 j x Hx Hy hj s y
  walk_at "rd"
  exact⟨_,.inl ⟨_,.tup ha,by with_unfolding_all rfl⟩,CW.next hj rfl s⟩
 ·intro l' Hx s hl'
  refine⟨l',rfl,List.replicate os.length true,SqL.of (by rw[Zc,List.map_replicate,List.map_const',Y0]),?_⟩
  have:=k1 _ (s.ZP (o:=.lst ((List.range os.length).map λ_=>V.bl true)) hl')
  simpa using this
noncomputable def emptyAt (H:Hp) (a:Addr):Bool:=match H a with|some (.tup [])=>true|_=>false
theorem ZpA {K:PySem.W.Frag}{H1:Hp}{c:Addr}{chs:List (List Int)}{Q:VK} (hc:ZaS H1 c chs) (hl:chs.flatten.length<=1000) (hk:∀l,H1 l=none->Q (.ref l) (upd H1 l (.lst (chs.flatten.map V.int)))):ZmK (Itl K c) (Zfe 0) tYes (iTup K (Zl6 0)) (Zfe 1) tYes (Zl6 1) [none,none] Q H1:=by
 obtain⟨w1,w2,w3⟩:=hc.walk (K:=K)
 have hle:∀i,((chs.take i).flatten).length<=1000:=λi=>by
  have:=congrArg List.length (congrArg List.flatten (List.take_append_drop i chs))
  rw[List.flatten_append,YN]at this
  omega
 refine⟨λi m acc H=>m=chs.length-i/\i<=chs.length/\acc=((chs.take i).flatten).map V.int/\H=H1,⟨_,rfl,Yt _,by simp,rfl⟩,?_⟩
 rintro i m acc H ⟨rfl,hi,rfl,rfl⟩
 have hlen:(((chs.take i).flatten).map V.int).length<=sizeLine:=Ym (by rw[Yf];exact hle i) (by decide)
 by_cases h:i<chs.length
 ·refine .inr ⟨w1 i _ (Ze.refl _) h,hlen,λx H' y=>?_⟩
  obtain⟨rfl,a,rfl,ha⟩:=w3 i x _ H' h (Ze.refl _) y
  walk_at "rd"
  refine⟨⟨_,SqT.of ha⟩,λj m2 acc2 H5=>m2=chs[i].length-j/\j<=chs[i].length/\acc2=((chs.take i).flatten++chs[i].take j).map V.int/\H5=H',⟨_,rfl,Yt _,by simp,rfl⟩,?_⟩
  rintro j m2 acc2 H5 ⟨rfl,hj,rfl,rfl⟩
  have e1:(chs.take i).flatten++chs[i]=(chs.take (i+1)).flatten:=by
   rw[Y2,Yg h];simp only[Option.toList,List.flatten_append,List.flatten_cons,List.flatten_nil,List.append_nil]
  have hlen2:(((chs.take i).flatten++chs[i].take j).map V.int).length<sizeLine:=Yv (show _<=1000 by
   have:=hle (i+1)
   rw[<-e1,YN]at this
   rw[Yf,YN,YX];omega) (by decide)
  by_cases h2:j<chs[i].length
  ·refine .inr ⟨⟨_,_,SqT.of ha,Z5 h2⟩,hlen2,?_⟩
   rintro x2 H6 ⟨rfl,hx⟩
   have:=hx _ (SqT.of ha)
   rw[Z5 h2]at this
   cases this
   walk_at "rd"
   refine⟨_,by omega,rfl,h2,?_⟩
   rw[Y2,Yg h2,<-Y3,YJ (l₁:=_++_)]
   congr 1
   simp[nth,Yl,h2]
  ·have ej:j=chs[i].length:=by omega
   subst ej
   refine .inl ⟨⟨_,SqT.of ha,by simp⟩,chs.length-(i+1),by omega,rfl,h,?_,rfl⟩
   rw[List.take_length,e1]
 ·have e:i=chs.length:=by omega
  subst e
  rw[List.take_length]at hlen⊢
  exact .inl ⟨w2 _ (Ze.refl _),hlen,hk⟩
theorem Zn6 (n:Int):(nats n).Pairwise (·<=·):=by
 unfold nats
 rw[List.pairwise_map]
 exact List.pairwise_lt_range.imp λh=>by omega
theorem Zlf {f:Addr}{fd:FuncData} (F:Fun K "stay_right" "stay_right" Za3 f fd) (ZS:Callee P w K mg base "tree_of" 2 ["row"] (ZaT K mg)) (Zz:Callee P w K mg base "flattest" 5 ["tree"] (Zac K mg)) (Zs:Callee P w K mg base "heights_of" 1 ["flat","row"] (Z3 K mg)) (ZeH:Callee P w K mg base "all_tuples" 1 ["entries"] (ZdR K mg)) (ZmZ:Callee P w K mg base "keeps" 1 ["row","kept","made"] (Zj7 K mg)) (ZgK:Callee P w K mg base "is_chain" 3 ["tree","heights","chain"] (ZfI K mg)) (T:Txt K mg):FnOk P w K mg base (CXE P w) 6 f fd ["tree","row","kept","made","chains"] (ZdT K mg):=by
 refine F.okX ZdV (λvs H Q E h=>?_) (λcdv A outer s H vs Q E hr h=>?_)
 ·obtain⟨t,r,k,m,c,T,ns,ks,ms,chs,rfl,_⟩:=h;rfl
 obtain⟨t,r,k,m,c,T',ns,ks,ms,chs,rfl,ht,hr1,hk,hm,hc,n1,n2,n3,n4,n5,n6,k1,k2,k3⟩:=h
 refine⟨_,(Zd (Zo (i:=5) ZdV.nd rfl (Or.inr rfl) (Zf Zs (hr.mono (by decide)) rfl ZK (Za (Zf Zz (hr.mono (by decide)) rfl ZK (Za (pv 0) Zb)) (Za (pv 1) Zb))))
   (Zd (Z0 (PW.pt (ZcI (Zq (Zgy (K:=K) rfl hr) (Zf ZS (hr.mono (by decide)) rfl Zv (Za (pv 3) Zb)) (pv 0) (Zn _)) (ZbY (Zcw (Zbn (Zf ZmZ (hr.mono (by decide)) rfl Zv (Za (pv 1) (Za (pv 2) (Za (pv 3) Zb))))))))) (Zi (Zt Zbv)) ZD)
   (Zd (Z0 (PW.pt (ZcI (Zq Zc4 (Zj (Zk (K:=K) rfl) rfl T.b_len Yp (Za (pv 4) Zb)) (Zj (Zk (K:=K) rfl) rfl T.b_len Yp (Za (pv 2) Zb)) (Zn _)) (ZcI (Zq (op_inD (K:=K) rfl hr) (ZbH Zb) (pv 4) (by with_unfolding_all rfl)) (ZbY (Zcw (Zbn (Zf ZeH (hr.mono (by decide)) rfl Zv (Za (pv 4) Zb)))))))) (Zi (Zt Zbv)) ZD)
   (Zd (ZnO (i:=6) ["chain","place"] [none,none] ZdV.nd rfl (Or.inl rfl) rfl rfl rfl (Zag (pv 4)) (λ_ _ _ _ _=>(Zm (i:=0) (show(["chain","place"]:List Str).Nodup from by decide +kernel) rfl (Or.inl rfl))) (λ_ _ _ _ _=>ZG) (λ_ _ _ _ _=>(ZvI (K:=K) rfl (pv 0))) (λ_ _ _ _ _=>(Zm (i:=1) (show(["chain","place"]:List Str).Nodup from by decide +kernel) rfl (Or.inl rfl))) (λ_ _ _ _ _=>ZG) (λ_ _ _ _ _=>(pv 1)) Zp Zp)
   (Zi (Zt (ZbG (ZI (ZjC (K:=K) rfl hr) (Zj (ZiQ (K:=K) rfl) rfl T.b_sorted Zgc (Za (pv 6) Zb)) (Zak (Zgq rfl) rfl T.b_list Zf7 (Za (Zh8 rfl T.b_range (Za (Zj (Zk (K:=K) rfl) rfl T.b_len Yp (Za (pv 0) Zb)) Zb)) Zb)) (Zn _)) (Zbo (Zj (Zfv (K:=K) rfl rfl) rfl T.b_all ZjE (Za (ZV ["chain","tree","heights"] [none,some 0,some 5] rfl rfl rfl (Zag (pv 4)) (λ_ _ _ _ _=>(Zm (i:=0) (show(["chain","tree","heights"]:List Str).Nodup from by decide +kernel) rfl (Or.inl rfl))) (λ_ _ _ _ _=>ZG) (λ_ _ _ _ _=>(Zf ZgK (hr.mono (by decide)) rfl Zv (Za (pv 1) (Za (pv 2) (Za (pv 0) Zb))))) Zp) Zb)))))))))),?_⟩
 have eF:(Zg T').length=T'.length:=by simp[Zg]
 refine Zah (fun σ Hx=>∃(l:Addr),σ=[some (.ref t),some (.ref r),some (.ref k),some (.ref m),some (.ref c),some (.ref l),none]/\ZJ T'/\ns.length=T'.length/\Hx l=some (.lst ((hgt (Zg T') ns).map V.int))/\Ze H Hx) (λR hR=>?_) ?_
 ·walk_at "rd"
  refine⟨t,T',rfl,ht,n1,λhG f H1 s1 hf=>?_,λg H' s=>k2 g H' s⟩
  exact⟨f,r,Zg T',ns,rfl,hf,s1.q hr1,by omega,n2,λhl l H2 zl s2 hl2=>hR _ _ ⟨l,rfl,hG,by omega,hl2,s1.trans s2⟩,λz H' s=>k3 hG (by omega) H' (s1.trans s)⟩
 rintro σ H2 ⟨l,rfl,hG,hln,hl2,s2⟩
 replace ht:=s2 _ _ ht
 replace hk:=s2 _ _ hk
 replace hc:=hc.same s2
 replace hm:=s2.q hm
 replace hr1:=s2.q hr1
 have q1:∀(z:Bool) (H':Hp),(z=true↔ZdS T' ns ks ms chs)->Ze H2 H'->Q (V.bl z) H':=λz H' h s=>k1 hG hln z H' h (s2.trans s)
 clear k1 k2 k3 s2
 refine Zah (fun σ Hx=>σ=[some (.ref t),some (.ref r),some (.ref k),some (.ref m),some (.ref c),some (.ref l),none]/\Zu ms T'/\ks=Zat ns.length ks/\(∀p∈ks,nth ms p.toNat=nth ns p.toNat)/\Ze H2 Hx) (λR hR=>?_) ?_
 ·walk_at "rd"
  refine⟨m,ms,rfl,hm,n4,λu es H3 hT s3 hu=>?_⟩
  refine⟨u,rfl,_,Zf9 (n:=2) Zcj _ _ es T' (ZaH (SqT.of hu)) (ZaH (SqT.of (s3 _ _ ht))),ZC (λz=>?_) λz=>?_⟩
  ·refine q1 _ _ ⟨(λz=>nomatch z),λy=>?_⟩ s3
   exact absurd (hT.unique y.1) (by simpa using z)
  have ee:es=T':=by simpa using z
  subst ee
  refine⟨r,k,m,ns,ks,ms,rfl,s3.q hr1,s3 _ _ hk,s3.q hm,n2,n3,by rw[hln];exact hT.1.symm,λH4 s4=>⟨_,rfl,ZC (λz=>?_) λz=>?_⟩⟩
  ·refine q1 _ _ ⟨(λz=>nomatch z),λy=>?_⟩ (s3.trans s4)
   rw[Yy y.2.1,Bool.true_and,List.all_eq_true.mpr λp hp=>Yy (y.2.2.1 p hp)]at z
   cases z
  have zz:=(Bool.and_eq_true _ _).mp (Bool.not_eq_false _▸z)
  exact hR _ _ ⟨rfl,hT,YS zz.1,λp hp=>YS (List.all_eq_true.mp zz.2 p hp),s3.trans s4⟩
 rintro σ H4 ⟨rfl,hT,z1,z2,s4⟩
 refine Zah (fun σ Hx=>σ=[some (.ref t),some (.ref r),some (.ref k),some (.ref m),some (.ref c),some (.ref l),none]/\chs.length=ks.length/\[]∉chs/\Ze H2 Hx) (λR hR=>?_) ?_
 ·walk_at "rd"
  have hc4:=hc.same s4
  obtain⟨as,c1,c2,c3⟩:=id hc4
  refine⟨_,.inl (SqL.of c1),_,.inr (SqT.of (s4 _ _ hk)),ZC (λz=>?_) λz=>?_⟩
  ·refine q1 _ _ ⟨(λz=>nomatch z),λy=>absurd ?_ z⟩ s4
   rw[Yf,Yf,c2,y.2.2.2.1]
  have z3:chs.length=ks.length:=by
   have:¬ ¬ _:=z
   rw[Yf,Yf,c2]at this
   omega
  clear z
  refine⟨by decide,λp zp=>?_⟩
  have g5:=(Ze.refl H4).upd (o:=.tup []) zp
  have t5:(upd H4 p (.tup [])) p=some (.tup []):=Zc
  generalize upd H4 p (.tup [])=H5 at g5 t5⊢
  have s5:=s4.trans g5
  have em:∀i (h1:i<as.length) (h2:i<chs.length),emptyAt H5 as[i]=decide (chs[i]=[]):=λi h1 h2=>by
   unfold emptyAt
   rw[g5 _ _ (c3 i h1 h2)]
   cases chs[i]<;>rfl
  have ea:as.any (emptyAt H5)=decide ([]∈chs):=by
   rw[Bool.eq_iff_iff,List.any_eq_true,decide_eq_true_iff]
   constructor
   ·rintro⟨a,ha,he⟩
    obtain⟨i,hi,rfl⟩:=YY ha
    rw[em i hi (by omega)]at he
    rw[<-YS he]
    exact YD _
   ·intro hm
    obtain⟨i,hi,he⟩:=YY hm
    exact⟨as[i]'(by omega),YD _,by rw[em i (by omega) hi];exact Yy he⟩
  refine⟨as,SqL.of (g5 _ _ c1),emptyAt H5,λa ha=>?_,?_⟩
  ·obtain⟨i,hi,rfl⟩:=YY ha
   rw[em i hi (by omega)]
   exact Zf9 (n:=2) Zcj _ _ chs[i] [] (ZaH (SqT.of (g5 _ _ (c3 i hi (by omega))))) (ZaH (SqT.of t5))
  rw[ea]
  refine ZC (λz=>?_) λz=>?_
  ·exact q1 _ _ ⟨(λz=>nomatch z),λy=>absurd (YS z) y.2.2.2.2.1⟩ s5
  exact⟨c,chs,rfl,hc4.same g5,n5,λH6 s6=>⟨true,rfl,ZC (λz=>nomatch z) λ_=>hR _ _ ⟨rfl,z3,λy=>z (Yy y),s5.trans s6⟩⟩⟩
 clear s4 H4
 rintro σ H4 ⟨rfl,z3,z4,s4⟩
 refine Zah (fun σ Hx=>∃l1,σ=[some (.ref t),some (.ref r),some (.ref k),some (.ref m),some (.ref c),some (.ref l),some (.ref l1)]/\Hx l1=some (.lst (chs.flatten.map V.int))/\Ze H2 Hx) (λR hR=>?_) ?_
 ·walk_at "rd"
  exact⟨(hc.same s4).sq,ZpA (hc.same s4) (by omega) λl1 zl1=>hR _ _ ⟨l1,rfl,Zc,s4.ZP zl1⟩⟩
 clear s4 H4
 rintro σ H4 ⟨l1,rfl,hl1,s4⟩
 walk_at "rd"
 refine⟨_,SqL.of hl1,n6,λns' l2 p1 p2 zl2=>?_⟩
 have s7:=s4.ZP (o:=.lst (ns'.map V.int)) zl2
 have t7:=Zc (H:=H4) (a:=l2) (o:=.lst (ns'.map V.int))
 generalize upd H4 l2 (.lst (ns'.map V.int))=H7 at s7 t7⊢
 clear s4 zl2
 refine⟨_,.inr (SqT.of (s7 _ _ ht)),by omega,by rw[Yf];omega,λq zq=>⟨_,Zc,by omega,by rw[Yf];omega,λl3 zl3=>?_⟩⟩
 have s8:=((Ze.refl H7).upd (o:=.rng 0 ((T'.map V.int).length:Nat)) zq)
 replace s8:=s8.ZP (o:=.lst ((List.range ((T'.map V.int).length:Int).toNat).map λ(i:Nat)=>V.int (i:Int))) zl3
 have t8:=Zc (H:=upd H7 q (.rng 0 ((T'.map V.int).length:Nat))) (a:=l3) (o:=.lst ((List.range ((T'.map V.int).length:Int).toNat).map λ(i:Nat)=>V.int (i:Int)))
 generalize upd (upd H7 q (.rng 0 ((T'.map V.int).length:Nat))) l3 (.lst ((List.range ((T'.map V.int).length:Int).toNat).map λ(i:Nat)=>V.int (i:Int)))=H8 at s8 t8⊢
 have eN:((List.range ((T'.map V.int).length:Int).toNat).map λ(i:Nat)=>V.int (i:Int))=(nats (T'.length:Int)).map V.int:=by
  unfold nats;rw[YT,Yf];rfl
 rw[eN]at t8
 replace t7:=s8 _ _ t7
 replace s8:=s7.trans s8
 replace hl2:=s8 _ _ hl2
 replace hc:=hc.same s8
 clear s7 zq zl3
 refine⟨_,Zjj Zcj _ _ ns' (nats (T'.length:Int)) (Zcu (SqL.of t7)) (Zcu (SqL.of t8)),ZC (λz=>?_) λz=>?_⟩
 rotate_left
 ·refine q1 _ _ ⟨(λz=>nomatch z),λy=>absurd (Yy (ZiR (p1.trans y.2.2.2.2.2.1) p2 ?_)) z⟩ s8
  exact Zn6 _
 have z5:chs.flatten.Perm (nats (T'.length:Int)):=by
  have:=YS z
  rw[<-this];exact p1.symm
 obtain⟨w1,w2,w3⟩:=hc.walk (K:=K)
 refine⟨hc.sq,comp_map (n:=chs.length) (λi=>V.bl (Zil T' (hgt (Zg T') ns) (chs.getD i []))) (Yv n5 (by decide)) (λj Hx s hj=>w1 j Hx s hj) (λHx s=>w2 Hx s) ?_ ?_⟩
 ·rintro j x Hx Hy hj s y
  obtain⟨rfl,a,rfl,ha⟩:=w3 j x Hx Hy hj s y
  have hm:chs[j]∈chs:=YD hj
  have sub:∀p∈chs[j],0<=p/\p<T'.length:=λp hp=>by
   have:p∈nats (T'.length:Int):=z5.mem_iff.mp (List.mem_flatten.mpr ⟨_,hm,hp⟩)
   obtain⟨i,hi,rfl⟩:=Yo.mp this
   have:=Yz.mp hi
   omega
  have lj:chs[j].length<=1000:=by
   have:=(List.sublist_flatten_of_mem hm).length_le
   omega
  walk_at "rd"
  refine⟨t,l,a,T',_,chs[j],rfl,(s8.trans s) _ _ ht,s _ _ hl2,ha,n1,by simp[hgt,eF,hln],λz=>z4 (z▸hm),lj,sub,λH9 s9=>CW.next hj ?_ (s.trans s9)⟩
  rw[Yl,Yg hj];rfl
 ·intro lz Hx sx hlz
  refine⟨lz,rfl,(List.range chs.length).map λi=>Zil T' (hgt (Zg T') ns) (chs.getD i []),SqL.of (by rw[Zc,YT];rfl),?_⟩
  refine q1 _ _ ?_ (s8.trans (sx.ZP hlz))
  rw[List.all_map,List.all_eq_true]
  constructor
  ·intro y
   refine⟨hT,z1,z2,z3,z4,z5,λch hch=>?_⟩
   obtain⟨i,hi,rfl⟩:=YY hch
   have:=y i (Yz.mpr hi)
   simpa[Yl,hi]using this
  ·intro y i hi
   have hi':=Yz.mp hi
   have:=y.2.2.2.2.2.2 chs[i] (YD hi')
   simpa[Yl,hi']using this
theorem ZrS {f:Addr}{fd:FuncData} (F:Fun K "lesser" "lesser" Zem f fd) (T:Txt K mg):FnOk P w K mg base (CXE P w) 1 f fd ["row","one","other"] (Zim K mg):=by
 refine F.okX ZrD (λvs H Q E h=>?_) (λcdv A outer s H vs Q E hr h=>?_)
 ·obtain⟨r,ns,i,j,rfl,_⟩:=h;rfl
 obtain⟨r,ns,i,j,rfl,hS,hi,hj,k1⟩:=h
 refine⟨_,(Zi (Zt (Zhe (Zq Zhf (Zy (Znx (K:=K) rfl) (pv 0) (pv 2) (λ_ _=>rfl)) (Zy (Znx (K:=K) rfl) (pv 0) (pv 1) (λ_ _=>rfl)) (Zn _)) (pv 2) (pv 1)))),?_⟩
 walk_at "rd"
 refine⟨_,hS,_,ZN hj,_,hS,_,ZN hi,_,rfl,_,rfl,?_⟩
 by_cases h:nth ns j<nth ns i
 ·rw[Yd h]at k1⊢;exact k1
 ·rw[Yc h]at k1⊢;exact k1
theorem ZmX {f:Addr}{fd:FuncData} (F:Fun K "low_steps" "low_steps" Zbz f fd) (Zkn:Callee P w K mg base "lesser" 1 ["row","one","other"] (Zim K mg)) (T:Txt K mg):FnOk P w K mg base (CXE P w) 2 f fd ["row"] (ZeD K mg):=by
 refine F.okX ZbL (λvs H Q E h=>?_) (λcdv A outer s H vs Q E hr h=>?_)
 ·obtain⟨r,ns,rfl,_⟩:=h;rfl
 obtain⟨r,ns,rfl,hS,hn,k1⟩:=h
 refine⟨_,(Zd (Zo (i:=1) ZbL.nd rfl (Or.inl rfl) (Zb0 Zb))
   (Zd (Zo (i:=2) ZbL.nd rfl (Or.inr rfl) (Zak (Zgq rfl) rfl T.b_list Zf7 (Za (Zh8 rfl T.b_range (Za (Zj (Zk (K:=K) rfl) rfl T.b_len Yp (Za (pv 0) Zb)) Zb)) Zb)))
   (Zd (Zbp (ZbZ PassesOwn.never rfl (Zlp rfl T.b_range (Za Zh (Za (Zr Z9 (Zj (Zk (K:=K) rfl) rfl T.b_len Yp (Za (pv 0) Zb)) Zh) Zb))) (Zm (i:=3) ZbL.nd rfl (Or.inr rfl)) (Zd (Zo (i:=2) ZbL.nd rfl (Or.inr rfl) (ZV ["a","row","lows","size"] [none,some 0,some 2,some 3] rfl rfl rfl (Zax rfl T.b_range (Za (Zr Z9 (Zr Zae (Zj (Zk (K:=K) rfl) rfl T.b_len Yp (Za (pv 0) Zb)) (pv 3)) Zh) Zb)) (λ_ _ _ _ _=>(Zm (i:=0) (show(["a","row","lows","size"]:List Str).Nodup from by decide +kernel) rfl (Or.inl rfl))) (λ_ _ _ _ _=>ZG) (λ_ _ _ _ _=>(Zf Zkn (hr.mono (by decide)) rfl Zv (Za (pv 1) (Za (Zy (r:=Zh4 K) Zx (pv 2) (pv 0) (λ_ _=>rfl)) (Za (Zr Zae (Zr Z9 (pv 0) (pv 3)) Zh) Zb))))) Zp))
   (Zi (Zbg (Zfs PySem.F.plainAttrs_list PySem.F.slot_list_append PySem.F.type_list_append ZaW (pv 1) (Za (ZV ["a","place"] [none,none] rfl rfl rfl (Zmv (K:=K) rfl rfl T.b_enumerate (Za (pv 2) Zb)) (λ_ _ _ _ _=>(Zdt (K:=K) (n:=2) rfl rfl (Zw (Zm (i:=0) (show(["a","place"]:List Str).Nodup from by decide +kernel) rfl (Or.inl rfl)) (Zw (Zm (i:=1) (show(["a","place"]:List Str).Nodup from by decide +kernel) rfl (Or.inl rfl)) Zav)))) (λ_ _ _ _ _=>ZG) (λ_ _ _ _ _=>(Zr Zae (pv 1) (pv 0))) (Zct (ZZ Zp (ZZ Zp Zcs)))) Zb)))))))
   (Zi (Zt (pv 1)))))),?_⟩
 walk_at "rd"
 have eL:(ns.map V.int).length=ns.length:=Yf ..
 refine⟨Yt _,λtb htb=>⟨_,((Ze.refl H).upd htb).q hS,by omega,by rw[eL];omega,λrg hrg=>⟨_,Zc,by omega,by rw[eL];omega,λlw hlw=>?_⟩⟩⟩
 have en:(((ns.map V.int).length:Nat):Int).toNat=ns.length:=by rw[eL];omega
 rw[en]at *
 rw[eL]at hlw⊢
 have s0:Ze H (upd (upd (upd H tb (.lst [])) rg (.rng 0 (ns.length:Nat))) lw (.lst ((List.range ns.length).map λ(i:Nat)=>V.int (i:Int)))):=(((Ze.refl H).upd htb).ZP hrg).ZP hlw
 have hlw0:(upd (upd (upd H tb (.lst [])) rg (.rng 0 (ns.length:Nat))) lw (.lst ((List.range ns.length).map λ(i:Nat)=>V.int (i:Int)))) lw=some (.lst ((Zcy (nth ns) ns.length 0).map V.int)):=by
  rw[Zc,ZnD,YT];rfl
 have hR0:Zdw H (upd (upd (upd H tb (.lst [])) rg (.rng 0 (ns.length:Nat))) lw (.lst ((List.range ns.length).map λ(i:Nat)=>V.int (i:Int)))) tb []:=(Zdw.nil htb).same (((Ze.refl _).ZP hrg).ZP hlw)
 generalize (upd (upd (upd H tb (.lst [])) rg (.rng 0 (ns.length:Nat))) lw (.lst ((List.range ns.length).map λ(i:Nat)=>V.int (i:Int))))=H0 at s0 hlw0 hR0⊢
 refine⟨_,s0.q hS,by decide,by decide,by omega,by rw[eL];omega,?_⟩
 have en2:((((ns.map V.int).length:Nat):Int)+1-1).toNat=ns.length:=by rw[eL];omega
 rw[en2]
 refine Zbw (λi σ Hx=>∃lw v3,σ=[some (.ref r),some (.ref tb),some (.ref lw),v3]/\Ze H Hx/\Hx lw=some (.lst ((Zcy (nth ns) ns.length (i-1)).map V.int))/\Zdw H Hx tb ((List.range i).map (ZaD (nth ns) ns.length))) ⟨lw,none,rfl,s0,hlw0,hR0⟩ ?_ ?_
 ·rintro i σ Hx hi ⟨lw,v3,rfl,sx,hxl,hR⟩
  have e1:((1:Int)+(i:Int))=((i+1:Nat):Int):=by omega
  rw[e1]
  refine Zah (fun σ Hy=>∃lw,σ=[some (.ref r),some (.ref tb),some (.ref lw),some (.int ((i+1:Nat):Int))]/\Ze H Hy/\Hy lw=some (.lst ((Zcy (nth ns) ns.length i).map V.int))/\Zdw H Hy tb ((List.range i).map (ZaD (nth ns) ns.length))) (λR hRR=>?_) ?_
  ·walk_at "rd"
   refine⟨_,sx.q hS,by omega,by rw[eL];omega,?_⟩
   have en3:(((((ns.map V.int).length:Nat):Int)-((i+1:Nat):Int)+1)).toNat=ns.length-i:=by rw[eL];omega
   rw[en3]
   refine comp_map (n:=ns.length-i) (λa=>V.int (Zau (nth ns) a i:Nat)) (Yv (show _<=1000 by omega) (by decide)) (λj Hy s hj=>hj) (λHy s=>Ye _) ?_ ?_
   ·rintro a x Hy Hz ha sy ⟨rfl,rfl⟩
    have ea:((0:Int)+(a:Int))=(a:Int):=by omega
    rw[ea]
    walk_at "rd"
    have hlt:=Zqq (nth ns) a (i-1)
    refine⟨_,SqL.of (sy _ _ hxl),_,ZN (by rw[Zc8];omega),r,ns,Zau (nth ns) a (i-1),a+i,?_,(sx.trans sy).q hS,by omega,by omega,CW.next ha ?_ sy⟩
    ·rw[ZoS (by omega),show((a:Int)+((i+1:Nat):Int)-1)=((a+i:Nat):Int) by omega]
    ·rw[ZoT]
   ·intro q Hy sy hq
    refine hRR _ _ ⟨q,rfl,(sx.trans sy).ZP hq,?_,hR.same (sy.ZP hq)⟩
    rw[Zc];simp[Zcy]
  clear hxl hR sx Hx
  rintro σ Hx ⟨lw,rfl,sx,hxl,hR⟩
  walk_at "rd"
  obtain⟨as,r1,r2,r3,r4,r5,r6⟩:=id hR
  refine⟨ZaG r1,_,SqL.of hxl,?_⟩
  refine comp_map (n:=ns.length-i) (λa=>V.int ((Zau (nth ns) a i:Int)-(a:Int))) (Yv (show _<=1000 by omega) (by decide)) (λj Hy s hj=>⟨_,_,SqL.of (s _ _ hxl),Yg (by rw[Yf,Zc8];exact hj)⟩) (λHy s=>⟨_,SqL.of (s _ _ hxl),by rw[Yf,Zc8]⟩) ?_ ?_
  ·rintro a x Hy Hz ha sy ⟨q,v,hq,rfl,rfl,hv⟩
   have ex:=hv _ (SqL.of (sy _ _ hxl))
   have ev:v=V.int (Zau (nth ns) a i:Nat):=by
    rw[YG,Yg (by rw[Zc8];exact ha)]at ex
    cases ex
    simp[Zcy]
   subst ev
   walk_at "rd"
   exact⟨_,SqT.of Zc,rfl,_,_,rfl,_,_,rfl,rfl,_,rfl,_,rfl,CW.next ha rfl (sy.ZP hq)⟩
  ·intro q Hy sy hq
   have u:=sy.ZP (o:=.lst ((List.range (ns.length-i)).map λa=>V.int ((Zau (nth ns) a i:Int)-(a:Int)))) hq
   have ntq:tb≠q:=λz=>by rw[<-z,sy _ _ r1]at hq;cases hq
   have hqq:(upd Hy q (.lst ((List.range (ns.length-i)).map λa=>V.int ((Zau (nth ns) a i:Int)-(a:Int))))) q=some (.lst ((ZaD (nth ns) ns.length i).map V.int)):=by rw[Zc];simp[ZaD]
   have RN:=Zdw.push (H0:=H) (p:=q) (rs:=(List.range i).map (ZaD (nth ns) ns.length)) (r:=ZaD (nth ns) ns.length i) (u _ _ r1) r2 r3 (λj h1 h2=>u _ _ (r4 j h1 h2)) r5 r6 hqq ntq.symm ((sx.trans sy).free hq)
   rw[<-Zmx]at RN
   have nlt:lw≠tb:=λz=>by
    rw[z,r1]at hxl
    have:=HO.lst.inj (YE hxl)
    cases as with
    |nil =>
     have h9:=congrArg List.length this
     rw[Yf,Yf,Zc8]at h9
     simp at h9;omega
    |cons c as =>
     have h9:=congrArg List.head? this
     rw[YM,List.head?_cons]at h9
     cases hc:(Zcy (nth ns) ns.length i)with
     |nil=>rw[hc]at h9;cases h9
     |cons d ds=>rw[hc]at h9;cases h9
   refine⟨_,u _ _ r1,Yv (show _<=1000 by rw[Yf,r3];simp;omega) (by decide),(sx.trans u).upd r5,?_,RN⟩
   rw[Zl nlt]
   exact u _ _ hxl
 ·rintro σ Hx ⟨lw,v3,rfl,sx,hxl,hR⟩
  walk_at "rd"
  exact k1 tb Hx sx hR.rows
theorem ZpB {f:Addr}{fd:FuncData} (F:Fun K "parting" "parting" Zc1 f fd) (T:Txt K mg):FnOk P w K mg base (CXE P w) 1 f fd ["ones","others","one","other","size"] (ZgF K mg):=by
 refine F.okX Zdf (λvs H Q E h=>?_) (λcdv A outer s H vs Q E hr h=>?_)
 ·obtain⟨l,l',f,g,n,n',x,y,size,rfl,_⟩:=h;rfl
 obtain⟨l,l',f',g,n,n',x,y,size,rfl,hL,hL',hx,hy,hn,hn',k1,k2⟩:=h
 refine⟨_,(Zd (Zbp (ZbZ PassesOwn.never rfl (Zlp rfl T.b_range (Za Zh (Za (pv 4) Zb))) (Zm (i:=5) Zdf.nd rfl (Or.inl rfl)) (Zd (Zo (i:=6) Zdf.nd rfl (Or.inl rfl) (Zfq Zmi (Zy Zx (pv 0) (pv 5) (λ_ _=>rfl)) (Zeu (pv 2)) (Zeu (Zr Zae (Zr Z9 (pv 2) (pv 4)) (pv 5)))))
   (Zd (Zo (i:=7) Zdf.nd rfl (Or.inl rfl) (Zfq Zmi (Zy Zx (pv 1) (pv 5) (λ_ _=>rfl)) (Zeu (pv 3)) (Zeu (Zr Zae (Zr Z9 (pv 3) (pv 4)) (pv 5)))))
   (Zi (Z0 (Zq (Zgy (K:=K) rfl hr) (pv 6) (pv 7) (Zn _)) (Zd (Zo (i:=8) Zdf.nd rfl (Or.inl rfl) (Zfs PySem.F.plainAttrs_list PySem.F.slot_list_index PySem.F.type_list_index (Zrh (K:=K) rfl) (ZV ["x","y"] [none,none] rfl rfl rfl (pi_zip rfl T.b_zip (Za (pv 6) (Za (pv 7) Zb))) (λ_ _ _ _ _=>(Zdt (K:=K) (n:=2) rfl rfl (Zw (Zm (i:=0) (show(["x","y"]:List Str).Nodup from by decide +kernel) rfl (Or.inl rfl)) (Zw (Zm (i:=1) (show(["x","y"]:List Str).Nodup from by decide +kernel) rfl (Or.inl rfl)) Zav)))) (λ_ _ _ _ _=>ZG) (λ_ _ _ _ _=>(ZI Zbd (pv 0) (pv 1) (Zn _))) (Zct (ZZ Zp (ZZ Zp Zcs)))) (Za Zbv Zb)))
   (Zi (Zt (ZbH (Za (pv 8) (Za (Zr Z9 (pv 8) (pv 5)) Zb)))))) ZD))))))
   (Zi (Zt ZdM))),?_⟩
 walk_at "rd"
 have en:((size:Int)-1).toNat=size-1:=by omega
 rw[en]
 refine⟨by decide,by decide,by omega,by omega,Zbw (λi σ Hx=>∃v5 v6 v7 v8,σ=[some (.ref l),some (.ref l'),some (.int x),some (.int y),some (.int size),v5,v6,v7,v8]/\Ze H Hx/\∀m,m<i+1->∀a,a+m<size->(Zau f' (x+a) m:Int)-(x+a:Nat)=(Zau g (y+a) m:Int)-(y+a:Nat)) ⟨_,_,_,_,rfl,Ze.refl H,λm hm a ha=>?_⟩ ?_ ?_⟩
 ·have:m=0:=by omega
  subst this
  simp[Zau]
 ·rintro i σ Hx hi ⟨v5,v6,v7,v8,rfl,sx,hI⟩
  have e1:((1:Int)+(i:Int))=((i+1:Nat):Int):=by omega
  rw[e1]
  have cutE:∀(f:Nat->Int) (n x:Nat),x+size<=n->Zfr ((ZaD f n (i+1)).map V.int) (some (x:Int)) (some ((x:Int)+(size:Int)-((i+1:Nat):Int)))=(((List.range (size-(i+1))).map λa=>(Zau f (x+a) (i+1):Int)-(x+a:Nat)).map V.int):=λf n x hx=>by
   have e2:((x:Int)+(size:Int)-((i+1:Nat):Int))=((x+(size-(i+1)):Nat):Int):=by omega
   rw[e2,ZvG _ _ _ (by omega) (by simp[ZaD];omega),<-List.map_drop,<-List.map_take]
   congr 1
   refine List.ext_getElem (by simp[ZaD];omega) λj h1 h2=>?_
   have hj:j<size-(i+1):=by simpa using h2
   simp[ZaD]
  refine Zah (fun σ Hy=>∃q q',σ=[some (.ref l),some (.ref l'),some (.int x),some (.int y),some (.int size),some (.int ((i+1:Nat):Int)),some (.ref q),v7,v8]/\q=q'/\Ze H Hy/\Hy q=some (.lst (((List.range (size-(i+1))).map λa=>(Zau f' (x+a) (i+1):Int)-(x+a:Nat)).map V.int))) (λR hR=>?_) ?_
  ·walk_at "rd"
   obtain⟨xs,a,g1,g2,g3⟩:=ZjP (K:=K) (hL.same sx) (i:=i+1) (by omega)
   refine⟨_,g1,_,g2,a,rfl,_,SqL.of g3,λq hq=>?_⟩
   rw[cutE f' n x hx]
   exact hR _ _ ⟨q,q,rfl,rfl,sx.ZP hq,Zc⟩
  rintro σ H1 ⟨q,_,rfl,rfl,s1,hq⟩
  refine Zah (fun σ Hy=>∃q',σ=[some (.ref l),some (.ref l'),some (.int x),some (.int y),some (.int size),some (.int ((i+1:Nat):Int)),some (.ref q),some (.ref q'),v8]/\Ze H Hy/\Hy q=some (.lst (((List.range (size-(i+1))).map λa=>(Zau f' (x+a) (i+1):Int)-(x+a:Nat)).map V.int))/\Hy q'=some (.lst (((List.range (size-(i+1))).map λa=>(Zau g (y+a) (i+1):Int)-(y+a:Nat)).map V.int))) (λR hR=>?_) ?_
  ·walk_at "rd"
   obtain⟨xs,a,g1,g2,g3⟩:=ZjP (K:=K) (hL'.same s1) (i:=i+1) (by omega)
   refine⟨_,g1,_,g2,a,rfl,_,SqL.of g3,λq' hq'=>?_⟩
   rw[cutE g n' y hy]
   exact hR _ _ ⟨q',rfl,s1.ZP hq',((Ze.refl H1).upd hq') _ _ hq,Zc⟩
  clear s1 hq H1
  rintro σ H1 ⟨q',rfl,s1,hq,hq'⟩
  walk_at "rd"
  refine⟨_,Zjj (n:=2) Zcj _ _ _ _ (Zcu (SqL.of hq)) (Zcu (SqL.of hq')),ZC (λz=>⟨_,SqL.of hq,_,SqL.of hq',?_⟩) λz=>⟨s1,λm hm a ha=>?_⟩⟩
  ·have hne:=of_decide_eq_false z
   have hne2:¬ ∀a,a<size-(i+1)->(Zau f' (x+a) (i+1):Int)-(x+a:Nat)=(Zau g (y+a) (i+1):Int)-(y+a:Nat):=λh=>hne (List.map_congr_left λa ha=>h a (by simpa using ha))
   obtain⟨a,a1,a2,a3⟩:=ZlG _ hne2
   have PA':ZoR f' g x y size a (i+1):=⟨by omega,a2,λm' hm' a' ha'=>hI m' hm' a' ha',a3⟩
   refine comp_map (n:=size-(i+1)) (λj=>V.bl (decide ((Zau f' (x+j) (i+1):Int)-(x+j:Nat)=(Zau g (y+j) (i+1):Int)-(y+j:Nat)))) (Yv (show _<=1000 by omega) (by decide)) (λj Hy s hj=>⟨_,_,_,_,SqL.of (s _ _ hq),SqL.of (s _ _ hq'),Yg (by simpa using hj),Yg (by simpa using hj)⟩) (λHy s=>⟨_,_,SqL.of (s _ _ hq),SqL.of (s _ _ hq'),.inl (by simp)⟩) ?_ ?_
   ·rintro j v Hy Hz hj sy ⟨p,v1,v2,hp,rfl,rfl,w1,w2⟩
    have ex1:=w1 _ (SqL.of (sy _ _ hq))
    have ex2:=w2 _ (SqL.of (sy _ _ hq'))
    rw[Yg (by simpa using hj)]at ex1 ex2
    have ev1:=(YE ex1).symm
    have ev2:=(YE ex2).symm
    simp only[List.getElem_map,List.getElem_range]at ev1 ev2
    subst ev1 ev2
    walk_at "rd"
    refine⟨_,SqT.of Zc,rfl,_,_,rfl,_,_,rfl,rfl,rfl,CW.next hj ?_ (sy.ZP hp)⟩
    congr 1
    rw[Bool.eq_iff_iff,decide_eq_true_eq,decide_eq_true_eq]
    exact⟨λh=>V.int.inj h,λh=>by rw[h]⟩
   ·intro b Hy sy hb
    refine⟨ZaG Zc,b,rfl,_,SqL.of Zc,by simp;omega,?_,rfl,a,⟨V.bl false,?_,rfl⟩,λj v hj hv=>?_,by decide,λt ht=>?_⟩
    ·rw[List.all_eq_true]
     intro v hv
     obtain⟨k,_,rfl⟩:=Yo.mp hv
     rfl
    ·simp[a1]
     exact a2
    ·rw[YG,Y8 (by omega)]at hv
     cases hv
     show eqV (V.bl (decide _)) (V.bl false)=false
     rw[Yy (a3 j hj)];rfl
    ·refine k2 a (i+1) PA' t _ ((s1.trans (sy.ZP hb)).ZP ht) ?_
     rw[Zc];simp
  ·have heq:=Decidable.of_not_not (λy=>z (YK y))
   by_cases e:m=i+1
   ·subst e
    have:=congrArg (λl=>l.getD a 0) heq
    simpa[Yl,show a<size-(i+1) by omega]using this
   ·exact hI m (by omega) a ha
 ·rintro σ Hx ⟨v5,v6,v7,v8,rfl,sx,hI⟩
  walk_at "rd"
  refine k1 (λm a ha=>?_) _ sx
  exact hI m (by omega) a ha
theorem ZrT {f:Addr}{fd:FuncData} (F:Fun K "parted" "parted" Zen f fd) (ZdA:Callee P w K mg base "low_steps" 2 ["row"] (ZeD K mg)) (Zix:Callee P w K mg base "parting" 1 ["ones","others","one","other","size"] (ZgF K mg)) (T:Txt K mg):FnOk P w K mg base (CXE P w) 3 f fd ["one","other"] (Zin K mg):=by
 refine F.okX ZrE (λvs H Q E h=>?_) (λcdv A outer s H vs Q E hr h=>?_)
 ·obtain⟨r,r',ns,ms,rfl,_⟩:=h;rfl
 obtain⟨r,r',ns,ms,rfl,hS,hS',hn,hm,k0,k1,k2⟩:=h
 refine⟨_,(Zd (Z0 (Zq Zc4 (Zj (Zk (K:=K) rfl) rfl T.b_len Yp (Za (pv 0) Zb)) (Zj (Zk (K:=K) rfl) rfl T.b_len Yp (Za (pv 1) Zb)) (Zn _)) (Zi (Zjx rfl rfl T.c_Unlike T.x_Unlike (Za (Zh6 (Zew (by decide) (Zjy (Zj (Zk (K:=K) rfl) rfl T.b_len Yp (Za (pv 0) Zb)) (Zew (by decide) (Zjy (Zj (Zk (K:=K) rfl) rfl T.b_len Yp (Za (pv 1) Zb)) ZoH))))) Zb) Zmq)) ZD)
   (Zi (Zt (Zf Zix (hr.mono (by decide)) rfl Zv (Za (Zf ZdA (hr.mono (by decide)) rfl Zv (Za (pv 0) Zb)) (Za (Zf ZdA (hr.mono (by decide)) rfl Zv (Za (pv 1) Zb)) (Za Zh (Za Zh (Za (Zj (Zk (K:=K) rfl) rfl T.b_len Yp (Za (pv 0) Zb)) Zb))))))))),?_⟩
 walk_at "rd"
 have eL:(ns.map V.int).length=ns.length:=Yf ..
 have eM:(ms.map V.int).length=ms.length:=Yf ..
 refine⟨_,hS,_,hS',ZC (λz=>⟨_,hS,by omega,by rw[eL];omega,_,hS',by omega,by rw[eM];omega,λy=>⟨by decide,k0 (λe=>z (by rw[eL,eM,e]))⟩⟩) λz=>?_⟩
 have hlen:ns.length=ms.length:=by rw[eL,eM]at z;omega
 refine⟨r,ns,rfl,hS,hn,λl H1 s1 R1=>⟨r',ms,rfl,s1.q hS',hm,λl' H2 s2 R2=>⟨_,(s1.trans s2).q hS,l,l',nth ns,nth ms,ns.length,ms.length,0,0,ns.length,by rw[eL];rfl,R1.same s2,R2,by omega,by omega,hn,hm,λhN H3 s3=>?_,λa m hA t H3 s3 ht=>?_⟩⟩⟩
 ·exact k1 hlen (ZnE.mp hN) _ ((s1.trans s2).trans s3)
 ·exact k2 hlen a m hA t _ ((s1.trans s2).trans s3) ht
theorem ok_kin {f:Addr}{fd:FuncData} (F:Fun K "kin" "kin" ZlN f fd) (Zko:Callee P w K mg base "parted" 3 ["one","other"] (Zin K mg)) (T:Txt K mg):FnOk P w K mg base (CXE P w) 4 f fd ["one","other"] (Zpk K mg):=by
 refine F.okX sc_kin (λvs H Q E h=>?_) (λcdv A outer s H vs Q E hr h=>?_)
 ·obtain⟨r,r',ns,ms,rfl,_⟩:=h;rfl
 obtain⟨r,r',ns,ms,rfl,hS,hS',hn,hm,k1⟩:=h
 refine⟨_,(Zi (Zt (ZbG (ZI Zbd (Zj (Zk (K:=K) rfl) rfl T.b_len Yp (Za (pv 0) Zb)) (Zj (Zk (K:=K) rfl) rfl T.b_len Yp (Za (pv 1) Zb)) (Zn _)) (Zbo (ZI Zju (Zf Zko (hr.mono (by decide)) rfl ZK (Za (pv 0) (Za (pv 1) Zb))) ZdM (Zn _)))))),?_⟩
 walk_at "rd"
 have eL:(ns.map V.int).length=ns.length:=Yf ..
 have eM:(ms.map V.int).length=ms.length:=Yf ..
 refine⟨_,hS,_,hS',ZC (λz=>?_) λz=>k1 false H (by rw[eL,eM]at z;exact⟨λy=>(nomatch y),λy=>absurd (by omega) z⟩) (Ze.refl H)⟩
 have hlen:ns.length=ms.length:=by rw[eL,eM]at z;omega
 refine⟨r,r',ns,ms,rfl,hS,hS',hn,hm,λy=>absurd hlen y,λ_ hE H1 s1=>?_,λ_ a m hA t H1 s1 ht=>?_⟩
 ·exact k1 _ H1 ⟨λ_=>⟨hlen,hE⟩,λ_=>rfl⟩ s1
 ·refine k1 _ H1 ⟨λy=>?_,λy=>?_⟩ s1
  ·exact absurd (YS y) (λe=>nomatch e)
  ·have:=y.2 a m hA.1
   have:=hA.2.1
   rw[Nat.zero_add]at this
   omega
theorem Zn7 {α:Type} (P:α->Bool):∀(l:List α),(l.filter P).length=l.length->l.filter P=l
 |[],_=>rfl
 |a::l,h=>by
  have h0:=Y1 P l
  cases e:P a
  ·rw[List.filter_cons_of_neg (by simp[e])]at h;simp at h;omega
  ·rw[List.filter_cons_of_pos e]at h⊢
   rw[Zn7 P l (by simpa using h)]
theorem ZrU {n:Nat}{ks:List Int} (h:ks=Zat n ks) (hl:ks.length=n):ks=nats (n:Int):=by
 have e:((List.range n).filter λ(p:Nat)=>decide ((p:Int)∈ks))=List.range n:=Zn7 _ _ (by
  have:=congrArg List.length h
  unfold Zat at this
  rw[Yf]at this
  rw[Y0];omega)
 rw[h];unfold Zat
 rw[e];simp[nats]
theorem Zt5 {T hs:List Int}{pr:Option (Int×Int)} (h:IsPair T hs pr):Zdd hs pr=0↔Zaj T hs=[]:=by
 cases pr with
 |none=>exact⟨λ_=>h,λ_=>rfl⟩
 |some z =>
  obtain⟨⟨b,e,hb,hm⟩,hx⟩:=Zjp h
  obtain⟨rs,i,hp,hi,ei,_⟩:=h
  have hin:[z.1,z.2]∈Zaj T hs:=hp.1.mem_iff.mp (by rw[<-ei,Yl,Yg hi];exact YD hi)
  obtain⟨a,b',e1,_,_,hh⟩:=Zce.mp hin
  simp only[List.cons.injEq,and_true]at e1
  refine⟨λy=>?_,λy=>?_⟩
  ·unfold Zdd at y
   dsimp only at y
   rw[e1.1,e1.2,YH]at y
   omega
  ·rw[y]at hin;cases hin
theorem ZgH {f:Addr}{fd:FuncData} (F:Fun K "_law_near_right" "_law_near_right" Z7 f fd) (ZS:Callee P w K mg base "tree_of" 2 ["row"] (ZaT K mg)) (Zcg:Callee P w K mg base "nearest" 7 ["tree","row"] (ZeB K mg)) (Zbj:Callee P w K mg base "nearest_right" 6 ["tree","row","far","made","pair"] (Zcb K mg)) (ZhC:Callee P w K mg base "fitted" 7 ["tree","least","greatest"] (Zii K mg)) (Zdj:Callee P w K mg base "fitted_right" 6 ["tree","least","greatest","told"] (ZcA K mg)) (T:Txt K mg):FnOk P w K mg base (CXE P w) 8 f fd ["tree","row"] (Zbs K mg):=by
 refine F.okX ZL (λvs H Q E h=>?_) (λcdv A outer s H vs Q E hr h=>?_)
 ·obtain⟨t,r,T,ns,rfl,_⟩:=h;rfl
 obtain⟨t,r,T',ns,rfl,ht,hr1,hG,hn,hl,b1,b2,k1⟩:=h
 refine⟨_,(Zd (Zc3 (Zf Zcg (hr.mono (by decide)) rfl ZK (Za (pv 0) (Za (pv 1) Zb))) (Zes (n:=3) rfl (Zw (Zm (i:=2) ZL.nd rfl (Or.inr rfl)) (Zw (Zm (i:=3) ZL.nd rfl (Or.inl rfl)) (Zw (Zm (i:=4) ZL.nd rfl (Or.inl rfl)) Zav)))))
   (Zd (Zo (i:=5) ZL.nd rfl (Or.inl rfl) (Zf ZhC (hr.mono (by decide)) rfl ZK (Za (pv 0) (Za (ZV ["number","far"] [none,some 2] rfl rfl rfl (Zag (pv 1)) (λ_ _ _ _ _=>(Zm (i:=0) (show(["number","far"]:List Str).Nodup from by decide +kernel) rfl (Or.inl rfl))) (λ_ _ _ _ _=>ZG) (λ_ _ _ _ _=>(Zr Zae (pv 0) (pv 1))) Zp) (Za (ZV ["number","far"] [none,some 2] rfl rfl rfl (Zag (pv 1)) (λ_ _ _ _ _=>(Zm (i:=0) (show(["number","far"]:List Str).Nodup from by decide +kernel) rfl (Or.inl rfl))) (λ_ _ _ _ _=>ZG) (λ_ _ _ _ _=>(Zr Z9 (pv 0) (pv 1))) Zp) Zb)))))
   (Zd (Z0 (PW.pt (ZcI (Zq (Zgy (K:=K) rfl hr) (Zf ZS (hr.mono (by decide)) rfl Zv (Za (pv 3) Zb)) (pv 0) (Zn _)) (ZcI (Zcw (Zbn (Zf Zbj (hr.mono (by decide)) rfl ZK (Za (pv 0) (Za (pv 1) (Za (pv 2) (Za (pv 3) (Za (pv 4) Zb)))))))) (ZbY (Zq Zc4 (Zy Zaq (pv 5) Zh (λ_ _=>rfl)) ZhY (Zn _)))))) (Zi (Zt Zbv)) ZD)
   (Zd (Z0 (PW.pt (ZcI (Zcw (Zbn (Zf Zbj (hr.mono (by decide)) rfl ZK (Za (pv 0) (Za (pv 1) (Za (pv 2) (Za (Zy Zaq (pv 5) Zh (λ_ _=>rfl)) (Za (pv 4) Zb)))))))) (ZbY (Zbn (Zj (ZjD (K:=K) rfl rfl) rfl T.b_any ZoJ (Za (ZV ["one","other"] [none,none] rfl rfl rfl (Zhx (K:=K) rfl rfl T.b_zip (Za (Zy Zaq (pv 5) Zh (λ_ _=>rfl)) (Za (pv 3) Zb))) (λ_ _ _ _ _=>(Zdt (K:=K) (n:=2) rfl rfl (Zw (Zm (i:=0) (show(["one","other"]:List Str).Nodup from by decide +kernel) rfl (Or.inl rfl)) (Zw (Zm (i:=1) (show(["one","other"]:List Str).Nodup from by decide +kernel) rfl (Or.inl rfl)) Zav)))) (λ_ _ _ _ _=>ZG) (λ_ _ _ _ _=>(ZI Zff (pv 0) (pv 1) (Zn _))) (Zct (ZZ Zp (ZZ Zp Zcs)))) Zb)))))) (Zi (Zt Zbv)) ZD)
   (Zd (Zc7 (i:=6) ["number","far"] [none,some 2] ZL.nd rfl (Or.inl rfl) rfl rfl rfl (Zag (pv 1)) (λ_ _ _ _ _=>(Zm (i:=0) (show(["number","far"]:List Str).Nodup from by decide +kernel) rfl (Or.inl rfl))) (λ_ _ _ _ _=>ZG) (λ_ _ _ _ _=>(Zr Z9 (Zr Zae (pv 0) (pv 1)) Zh)) Zp)
   (Zd (Zc7 (i:=7) ["number","far"] [none,some 2] ZL.nd rfl (Or.inl rfl) rfl rfl rfl (Zag (pv 1)) (λ_ _ _ _ _=>(Zm (i:=0) (show(["number","far"]:List Str).Nodup from by decide +kernel) rfl (Or.inl rfl))) (λ_ _ _ _ _=>ZG) (λ_ _ _ _ _=>(Zr Zae (Zr Z9 (pv 0) (pv 1)) Zh)) Zp)
   (Zd (Zo (i:=5) ZL.nd rfl (Or.inl rfl) (Zf ZhC (hr.mono (by decide)) rfl ZK (Za (pv 0) (Za (pv 6) (Za (pv 7) Zb)))))
   (Zd (Z0 (PW.pt (Zl8 (Zq Zc4 (Zy Zaq (pv 5) Zh (λ_ _=>rfl)) ZhY (Zn _)) (Zji (Zq Zff (pv 2) Zh (Zn _))))) (Zi (Zt Zbv)) ZD)
   (Zi (Zt (Zf Zdj (hr.mono (by decide)) rfl ZK (Za (pv 0) (Za (pv 6) (Za (pv 7) (Za (pv 5) Zb))))))))))))))),?_⟩
 refine Zah (fun σ Hx=>∃(far:Int) (m:Addr) (v:V) (ms:List Int) (pr:Option (Int×Int)),σ=[some (.ref t),some (.ref r),some (.int far),some (.ref m),some v,none,none,none]/\Hx m=some (.tup (ms.map V.int))/\ZfH Hx v pr/\ZlO T' ns far/\Zpj T' ns far ms pr/\Zcv T' (ns.map λx=>x-far) ms/\Ze H Hx) (λR hR=>?_) ?_
 ·walk_at "rd"
  exact⟨t,r,T',ns,rfl,ht,.inl (SqL.of hr1),hG,hn,hl,b1,b2,λq m v ms pr H1 s1 hq hm hv hp hD=>⟨q,rfl,_,SqT.of hq,rfl,_,_,rfl,_,_,rfl,_,_,rfl,rfl,hR _ _ ⟨_,m,v,ms,pr,rfl,hm,hv,(Zkj hG hl hp).1,Zpt hG hl hp hD,hD,s1⟩⟩⟩
 rintro σ H1 ⟨far,m,v,ms,pr,rfl,hm,hv,hF,hN,hD,s1⟩
 have hTm:Zu ms T':=ZfJ hG hD
 have eT:ms.length=T'.length:=hD.1
 have hl1:(ns.map λx=>x-far).length=T'.length:=by simp[hl]
 have hl2:(ns.map λx=>x+far).length=T'.length:=by simp[hl]
 refine Zah (fun σ Hx=>∃c:Addr,σ=[some (.ref t),some (.ref r),some (.int far),some (.ref m),some v,some (.ref c),none,none]/\ZmM Hx c (.row ms)/\Ze H1 Hx) (λR hR=>?_) ?_
 ·walk_at "rd"
  refine⟨⟨_,SqL.of (s1 _ _ hr1)⟩,?_⟩
  refine comp_map (n:=ns.length) (λi=>V.int (nth ns i-far)) (Yv (show _<=1000 by omega) (by decide)) (λi Hx s hi=>⟨_,_,SqL.of (s _ _ (s1 _ _ hr1)),Z5 hi⟩) (λHx s=>⟨_,SqL.of (s _ _ (s1 _ _ hr1)),by simp⟩) ?_ ?_
  ·rintro i x Hx Hy hi sx ⟨rfl,hx⟩
   have ex:=hx _ (SqL.of (sx _ _ (s1 _ _ hr1)))
   rw[Z5 hi]at ex
   cases ex
   walk_at "rd"
   exact CW.next hi rfl sx
  ·intro l0 H9 s9 z9
   have e9:((List.range ns.length).map λi=>V.int (nth ns i-far))=(ns.map λx=>x-far).map V.int:=by
    refine List.ext_getElem (by simp) λi i1 i2=>?_
    have:i<ns.length:=by simpa using i1
    simp[nth,Yl,this]<;>omega
   rw[e9]
   have g1:=s9.ZP (o:=.lst ((ns.map λx=>x-far).map V.int)) z9
   have ha:(upd H9 l0 (.lst ((ns.map λx=>x-far).map V.int))) l0=_:=Zc
   generalize upd H9 l0 (.lst ((ns.map λx=>x-far).map V.int))=H2 at g1 ha⊢
   have hr2:=g1 _ _ (s1 _ _ hr1)
   refine⟨⟨_,SqL.of hr2⟩,?_⟩
   refine comp_map (n:=ns.length) (λi=>V.int (nth ns i+far)) (Yv (show _<=1000 by omega) (by decide)) (λi Hx s hi=>⟨_,_,SqL.of (s _ _ hr2),Z5 hi⟩) (λHx s=>⟨_,SqL.of (s _ _ hr2),by simp⟩) ?_ ?_
   ·rintro i x Hx Hy hi sx ⟨rfl,hx⟩
    have ex:=hx _ (SqL.of (sx _ _ hr2))
    rw[Z5 hi]at ex
    cases ex
    walk_at "rd"
    exact CW.next hi rfl sx
   ·intro l1 H9 s9 z9
    have e9:((List.range ns.length).map λi=>V.int (nth ns i+far))=(ns.map λx=>x+far).map V.int:=by
     refine List.ext_getElem (by simp) λi i1 i2=>?_
     have:i<ns.length:=by simpa using i1
     simp[nth,Yl,this]<;>omega
    rw[e9]
    have g2:=s9.ZP (o:=.lst ((ns.map λx=>x+far).map V.int)) z9
    have sA:=g1.trans g2
    refine⟨t,l0,l1,T',_,_,rfl,sA _ _ (s1 _ _ ht),.inl (SqL.of (g2 _ _ ha)),.inl (SqL.of Zc),hG,hl1,hl2,Zb3.same b2 (s1.trans sA),λc d H5 s5 hd hFit=>hR _ _ ⟨c,rfl,?_,sA.trans s5⟩⟩
    obtain⟨ds,rfl⟩:=Zpx hG hl hF hFit
    rwa [hFit.1.uniq hD]at hd
 rintro σ H2 ⟨c,rfl,hc,s2⟩
 have s12:=s1.trans s2
 replace hm:=s2 _ _ hm
 replace hv:=hv.same s2
 obtain⟨_,r2,hc1,hc2⟩:=hc
 refine Zah (fun σ Hx=>σ=[some (.ref t),some (.ref r),some (.int far),some (.ref m),some v,some (.ref c),none,none]/\Ze H2 Hx) (λR hR=>?_) ?_
 ·walk_at "rd"
  refine⟨m,ms,rfl,.inr (SqT.of hm),by omega,λt3 es H3 hE s3 h3=>⟨t3,rfl,?_⟩⟩
  refine⟨_,Zf9 (n:=2) Zcj _ _ es T' (ZaH (SqT.of h3)) (ZaH (SqT.of (s3 _ _ (s12 _ _ ht)))),ZC (λz=>absurd (hE.unique hTm) (of_decide_eq_false z)) λ_=>?_⟩
  refine⟨t,r,m,far,v,T',ns,ms,pr,rfl,s3 _ _ (s12 _ _ ht),.inl (SqL.of (s3 _ _ (s12 _ _ hr1))),.inr (SqT.of (s3 _ _ hm)),hv.same s3,hG,hl,by omega,λz H4 hz s4=>⟨z,rfl,ZC (λy=>by have:=hz.mpr hN;rw[this]at y;cases y) λ_=>?_⟩⟩
  have s34:=s3.trans s4
  exact⟨_,SqT.of (s34 _ _ hc1),_,rfl,rfl,ZC (λz=>absurd rfl z) λ_=>hR _ _ ⟨rfl,s34⟩⟩
 rintro σ H3 ⟨rfl,s3⟩
 replace hm:=s3 _ _ hm
 replace hv:=hv.same s3
 replace hc1:=s3 _ _ hc1
 replace hc2:=s3 _ _ hc2
 replace s12:=s12.trans s3
 clear s2 s3 H2
 refine Zah (fun σ Hx=>σ=[some (.ref t),some (.ref r),some (.int far),some (.ref m),some v,some (.ref c),none,none]/\Ze H3 Hx) (λR hR=>?_) ?_
 ·walk_at "rd"
  refine⟨_,SqT.of hc1,_,rfl,t,r,r2,far,v,T',ns,ms,pr,rfl,s12 _ _ ht,.inl (SqL.of (s12 _ _ hr1)),.inr (SqT.of hc2),hv,hG,hl,by omega,λz H4 hz s4=>⟨z,rfl,ZC (λy=>by have:=hz.mpr hN;rw[this]at y;cases y) λ_=>?_⟩⟩
  have q1:SqB K true H4 r2 (ms.map V.int):=SqT.of (s4 _ _ hc2)
  have q2:SqB K true H4 m (ms.map V.int):=SqT.of (s4 _ _ hm)
  refine⟨_,SqT.of (s4 _ _ hc1),_,rfl,r2,rfl,true,true,_,q1,_,q2,?_⟩
  refine comp_map (n:=ms.length) (λ_=>V.bl false) (Yv (show _<=1000 by omega) (by decide)) (λj Hx s hj=>⟨_,_,_,_,s.ZbF q1,s.ZbF q2,Z5 hj,Z5 hj⟩) (λHx s=>⟨_,_,s.ZbF q1,s.ZbF q2,.inl (by simp)⟩) ?_ ?_
  ·rintro j x Hx Hy hj sy ⟨p',v1,v2,hp',rfl,rfl,w1,w2⟩
   have ex1:=w1 _ (sy.ZbF q1)
   have ex2:=w2 _ (sy.ZbF q2)
   rw[Z5 hj]at ex1 ex2
   cases ex1;cases ex2
   have g:=(Ze.refl Hx).upd (o:=.tup [V.int (nth ms j),V.int (nth ms j)]) hp'
   walk_at "rd"
   exact⟨_,SqT.of Zc,rfl,_,_,rfl,_,_,rfl,rfl,_,rfl,_,rfl,CW.next hj (by rw[YK (by omega)]) (sy.trans g)⟩
  ·intro l5 H5 s5 z5
   have e5:(List.range ms.length).map (λ_=>V.bl false)=(List.replicate ms.length false).map V.bl:=by rw[List.map_replicate,List.map_const',Y0]
   rw[e5]
   refine⟨l5,rfl,_,SqL.of Zc,ZC (λz=>?_) λ_=>hR _ _ ⟨rfl,s4.trans (s5.ZP z5)⟩⟩
   rw[List.any_eq_true]at z
   obtain⟨x,hx,hx2⟩:=z
   rw[List.eq_of_mem_replicate hx]at hx2
   cases hx2
 rintro σ H4 ⟨rfl,s4⟩
 replace s12:=s12.trans s4
 clear hm hc1 hc2 hv
 refine Zah (fun σ Hx=>∃a:Addr,σ=[some (.ref t),some (.ref r),some (.int far),some (.ref m),some v,some (.ref c),some (.ref a),none]/\Hx a=some (.lst ((ns.map λx=>x-(far-1)).map V.int))/\Ze H4 Hx) (λR hR=>?_) ?_
 ·walk_at "rd"
  refine⟨⟨_,SqL.of (s12 _ _ hr1)⟩,?_⟩
  refine comp_map (n:=ns.length) (λi=>V.int (nth ns i-far+1)) (Yv (show _<=1000 by omega) (by decide)) (λi Hx s hi=>⟨_,_,SqL.of (s _ _ (s12 _ _ hr1)),Z5 hi⟩) (λHx s=>⟨_,SqL.of (s _ _ (s12 _ _ hr1)),by simp⟩) ?_ ?_
  ·rintro i x Hx Hy hi sx ⟨rfl,hx⟩
   have ex:=hx _ (SqL.of (sx _ _ (s12 _ _ hr1)))
   rw[Z5 hi]at ex
   cases ex
   walk_at "rd"
   exact CW.next hi rfl sx
  ·intro l0 H9 s9 z9
   have e9:((List.range ns.length).map λi=>V.int (nth ns i-far+1))=(ns.map λx=>x-(far-1)).map V.int:=by
    refine List.ext_getElem (by simp) λi i1 i2=>?_
    have:i<ns.length:=by simpa using i1
    simp[nth,Yl,this]<;>omega
   rw[e9]
   exact hR _ _ ⟨l0,rfl,Zc,s9.ZP z9⟩
 rintro σ H5 ⟨a,rfl,ha,s5⟩
 replace s12:=s12.trans s5
 refine Zah (fun σ Hx=>∃b:Addr,σ=[some (.ref t),some (.ref r),some (.int far),some (.ref m),some v,some (.ref c),some (.ref a),some (.ref b)]/\Hx b=some (.lst ((ns.map λx=>x+(far-1)).map V.int))/\Ze H5 Hx) (λR hR=>?_) ?_
 ·walk_at "rd"
  refine⟨⟨_,SqL.of (s12 _ _ hr1)⟩,?_⟩
  refine comp_map (n:=ns.length) (λi=>V.int (nth ns i+far-1)) (Yv (show _<=1000 by omega) (by decide)) (λi Hx s hi=>⟨_,_,SqL.of (s _ _ (s12 _ _ hr1)),Z5 hi⟩) (λHx s=>⟨_,SqL.of (s _ _ (s12 _ _ hr1)),by simp⟩) ?_ ?_
  ·rintro i x Hx Hy hi sx ⟨rfl,hx⟩
   have ex:=hx _ (SqL.of (sx _ _ (s12 _ _ hr1)))
   rw[Z5 hi]at ex
   cases ex
   walk_at "rd"
   exact CW.next hi rfl sx
  ·intro l0 H9 s9 z9
   have e9:((List.range ns.length).map λi=>V.int (nth ns i+far-1))=(ns.map λx=>x+(far-1)).map V.int:=by
    refine List.ext_getElem (by simp) λi i1 i2=>?_
    have:i<ns.length:=by simpa using i1
    simp[nth,Yl,this]<;>omega
   rw[e9]
   exact hR _ _ ⟨l0,rfl,Zc,s9.ZP z9⟩
 rintro σ H6 ⟨b,rfl,hb,s6⟩
 replace s12:=s12.trans s6
 replace ha:=s6 _ _ ha
 have hl3:(ns.map λx=>x-(far-1)).length=T'.length:=by simp[hl]
 have hl4:(ns.map λx=>x+(far-1)).length=T'.length:=by simp[hl]
 refine Zah (fun σ Hx=>∃(c:Addr) (d:Td),σ=[some (.ref t),some (.ref r),some (.int far),some (.ref m),some v,some (.ref c),some (.ref a),some (.ref b)]/\ZmM Hx c d/\Zj5 T' (ns.map λx=>x-(far-1)) (ns.map λx=>x+(far-1)) d/\Ze H6 Hx) (λR hR=>?_) ?_
 ·walk_at "rd"
  exact⟨t,a,b,T',_,_,rfl,s12 _ _ ht,.inl (SqL.of ha),.inl (SqL.of hb),hG,hl3,hl4,Zb3.same b2 s12,λc d H7 s7 hd hFit=>hR _ _ ⟨c,d,rfl,hd,hFit,s7⟩⟩
 rintro σ H7 ⟨c,d,rfl,hd,hFit,s7⟩
 replace s12:=s12.trans s7
 replace ha:=s7 _ _ ha
 replace hb:=s7 _ _ hb
 refine Zah (fun σ Hx=>σ=[some (.ref t),some (.ref r),some (.int far),some (.ref m),some v,some (.ref c),some (.ref a),some (.ref b)]/\Hx=H7) (λR hR=>?_) ?_
 ·walk_at "rd"
  cases d with
  |row ds =>
   obtain⟨_,r3,h3,_⟩:=id hd
   refine⟨_,SqT.of h3,_,rfl,rfl,ZC (λ_=>ZC (λz=>?_) λ_=>hR _ _ ⟨rfl,rfl⟩) λ_=>hR _ _ ⟨rfl,rfl⟩⟩
   obtain⟨x,y,e⟩:=ZmT hG hl hF (far:=far-1) (by omega) (by omega) hFit
   cases e
  |clash x y=>exact⟨_,SqT.of hd,_,rfl,rfl,ZC (λz=>absurd rfl z) λ_=>hR _ _ ⟨rfl,rfl⟩⟩
 rintro σ H8 ⟨rfl,rfl⟩
 walk_at "rd"
 refine⟨t,a,b,c,T',_,_,d,rfl,s12 _ _ ht,.inl (SqL.of ha),.inl (SqL.of hb),hG,hl3,hl4,hd,λH9 s9=>?_⟩
 rw[Yy (ZrP hG hl3 hl4 hFit)]
 exact k1 _ (s12.trans s9)
theorem Zt6 {H:Hp}{c:Addr}{A:Int->Addr}{cs:List (Int×List Int)} (hc:H c=some (.lst (cs.map λx=>V.ref (A x.1)))) (hA:∀x∈cs,H (A x.1)=some (.tup (x.2.map V.int))):ZaS H c (cs.map (·.2)):=by
 refine⟨cs.map λx=>A x.1,by rw[hc,YT];rfl,by simp,λi i1 i2=>?_⟩
 rw[List.getElem_map,List.getElem_map]
 exact hA _ (YD _)
theorem ZgI {f:Addr}{fd:FuncData} (F:Fun K "_law_stay_right" "_law_stay_right" Z8 f fd) (ZS:Callee P w K mg base "tree_of" 2 ["row"] (ZaT K mg)) (Zch:Callee P w K mg base "clashing" 6 ["tree","row"] (Zdy K mg)) (ZaV:Callee P w K mg base "most_stay" 6 ["tree","row"] (ZcK K mg)) (ZeI:Callee P w K mg base "stay_right" 6 ["tree","row","kept","made","chains"] (ZdT K mg)) (T:Txt K mg):FnOk P w K mg base (CXE P w) 7 f fd ["tree","row"] (Zbt K mg):=by
 refine F.okX ZaF (λvs H Q E h=>?_) (λcdv A outer s H vs Q E hr h=>?_)
 ·obtain⟨t,r,T,ns,rfl,_⟩:=h;rfl
 obtain⟨t,r,T',ns,rfl,ht,hr1,hG,hn,hl,b1,b2,k1⟩:=h
 refine⟨_,(Zd (Zc3 (Zf ZaV (hr.mono (by decide)) rfl ZK (Za (pv 0) (Za (pv 1) Zb))) (Zes (n:=3) rfl (Zw (Zm (i:=2) ZaF.nd rfl (Or.inr rfl)) (Zw (Zm (i:=3) ZaF.nd rfl (Or.inr rfl)) (Zw (Zm (i:=4) ZaF.nd rfl (Or.inl rfl)) Zav)))))
   (Zd (Z0 (PW.pt (ZcI (Zcw (Zbn (Zf ZeI (hr.mono (by decide)) rfl ZK (Za (pv 0) (Za (pv 1) (Za (pv 2) (Za (pv 3) (Za (pv 4) Zb)))))))) (ZbY (Zq (Zgy (K:=K) rfl hr) (Zf ZS (hr.mono (by decide)) rfl Zv (Za (pv 3) Zb)) (pv 0) (Zn _))))) (Zi (Zt Zbv)) ZD)
   (Zd (Z0 (PW.pt (ZcI (Zbn (Zj (ZjD (K:=K) rfl rfl) rfl T.b_any ZoJ (Za (ZV ["place","made","row"] [none,some 3,some 1] rfl rfl rfl (Zl9 (pv 2)) (λ_ _ _ _ _=>(Zm (i:=0) (show(["place","made","row"]:List Str).Nodup from by decide +kernel) rfl (Or.inl rfl))) (λ_ _ _ _ _=>ZG) (λ_ _ _ _ _=>(ZI Zc4 (Zy (r:=ZqW K) Zaq (pv 1) (pv 0) (λ_ _=>rfl)) (Zy (r:=Zh4 K) Zx (pv 2) (pv 0) (λ_ _=>rfl)) (Zn _))) Zp) Zb))) (ZbY (Zq Zc4 (Zj (Zk (K:=K) rfl) rfl T.b_len Yp (Za (pv 4) Zb)) (Zj (Zk (K:=K) rfl) rfl T.b_len Yp (Za (pv 2) Zb)) (Zn _))))) (Zi (Zt Zbv)) ZD)
   (Zi (Zt (pe_not (Zj (ZjD (K:=K) rfl rfl) rfl T.b_any ZoJ (Za (ZV ["a","b","kept"] [none,none,some 2] rfl rfl rfl (Zag (Zf Zch (hr.mono (by decide)) rfl ZK (Za (pv 0) (Za (pv 1) Zb)))) (λ_ _ _ _ _=>(Zdt (K:=K) (n:=2) rfl rfl (Zw (Zm (i:=0) (show(["a","b","kept"]:List Str).Nodup from by decide +kernel) rfl (Or.inl rfl)) (Zw (Zm (i:=1) (show(["a","b","kept"]:List Str).Nodup from by decide +kernel) rfl (Or.inl rfl)) Zav)))) (λ_ _ _ _ _=>ZG) (λ_ _ _ _ _=>(ZbG (ZI (ZjL (K:=K) rfl) (pv 0) (pv 2) (by with_unfolding_all rfl)) (Zbo (ZI (ZjL (K:=K) rfl) (pv 1) (pv 2) (by with_unfolding_all rfl))))) (Zct (ZZ Zp (ZZ Zp Zcs)))) Zb)))))))),?_⟩
 refine Zah (fun σ Hx=>∃(k m c:Addr) (ks ms:List Int) (chs:List (List Int)),σ=[some (.ref t),some (.ref r),some (.ref k),some (.ref m),some (.ref c)]/\Hx k=some (.tup (ks.map V.int))/\Hx m=some (.tup (ms.map V.int))/\ZaS Hx c chs/\ZdS T' ns ks ms chs/\Ze H Hx) (λR hR=>?_) ?_
 ·walk_at "rd"
  exact⟨t,r,T',ns,rfl,ht,.inl (SqL.of hr1),hn,by omega,b2,b1,λ_ _ u a b' c A ks us cs H2 hM hu ha hb' hc hA s2=>⟨u,rfl,_,SqT.of hu,rfl,_,_,rfl,_,_,rfl,_,_,rfl,rfl,hR _ _ ⟨a,b',c,ks,_,_,rfl,ha,hb',Zt6 hc hA,hM.ok hG hl,s2⟩⟩,λg=>absurd hG g,λ_ g=>absurd hl g⟩
 rintro σ H1 ⟨k,m,c,ks,ms,chs,rfl,hk,hm,hc,hO,s1⟩
 have eM:ms.length=T'.length:=hO.1.1.symm
 have hkl:ks.length<=ns.length:=by
  rw[hO.2.1];unfold Zat
  rw[Yf]
  exact Ym (Y1 _ _) (by simp)
 have hfl:chs.flatten.length<64:=by
  rw[hO.2.2.2.2.2.1.length_eq];simp[nats];omega
 have hks:∀p∈ks,∃i:Nat,p=i/\i<ns.length:=Zpw hO.2.1
 refine Zah (fun σ Hx=>σ=[some (.ref t),some (.ref r),some (.ref k),some (.ref m),some (.ref c)]/\Ze H1 Hx) (λR hR=>?_) ?_
 ·walk_at "rd"
  refine⟨t,r,k,m,c,T',ns,ks,ms,chs,rfl,s1 _ _ ht,.inl (SqL.of (s1 _ _ hr1)),hk,.inr (SqT.of hm),hc,by omega,by omega,by omega,by omega,by rw[hO.2.2.2.1];omega,hfl,λ_ _ z H2 hz s2=>⟨z,rfl,ZC (λy=>by have:=hz.mpr hO;rw[this]at y;cases y) λ_=>?_⟩,λg=>absurd hG g,λ_ g=>absurd hl g⟩
  refine⟨m,ms,rfl,.inr (SqT.of (s2 _ _ hm)),by omega,λt3 es H3 hE s3 h3=>⟨t3,rfl,?_⟩⟩
  exact⟨_,Zf9 (n:=2) Zcj _ _ es T' (ZaH (SqT.of h3)) (ZaH (SqT.of (s3 _ _ (s2 _ _ (s1 _ _ ht))))),ZC (λz=>absurd (hE.unique hO.1) (of_decide_eq_false z)) λ_=>hR _ _ ⟨rfl,s2.trans s3⟩⟩
 rintro σ H2 ⟨rfl,s2⟩
 replace hk:=s2 _ _ hk
 replace hm:=s2 _ _ hm
 replace hc:=hc.same s2
 replace s1:=s1.trans s2
 clear s2
 have hr2:=s1 _ _ hr1
 refine Zah (fun σ Hx=>σ=[some (.ref t),some (.ref r),some (.ref k),some (.ref m),some (.ref c)]/\Ze H2 Hx) (λR hR=>?_) ?_
 ·walk_at "rd"
  refine⟨⟨_,SqT.of hk⟩,?_⟩
  refine comp_map (n:=ks.length) (λ_=>V.bl false) (Yv (show _<=1000 by omega) (by decide)) (λj Hx s hj=>⟨_,_,SqT.of (s _ _ hk),Z5 hj⟩) (λHx s=>⟨_,SqT.of (s _ _ hk),by simp⟩) ?_ ?_
  ·rintro j x Hx Hy hj sy ⟨rfl,hx⟩
   have ex:=hx _ (SqT.of (sy _ _ hk))
   rw[Z5 hj]at ex
   cases ex
   have hmem:nth ks j∈ks:=ZqB hj
   obtain⟨i,ei,hi⟩:=hks _ hmem
   have hkeep:=hO.2.2.1 _ hmem
   rw[ei,YH]at hkeep
   rw[ei]
   walk_at "rd"
   refine⟨_,SqT.of (sy _ _ hm),_,ZN (by omega),_,SqL.of (sy _ _ hr2),_,ZN (by omega),rfl,CW.next hj ?_ sy⟩
   rw[hkeep];simp
  ·intro l5 H5 s5 z5
   have e5:(List.range ks.length).map (λ_=>V.bl false)=(List.replicate ks.length false).map V.bl:=by rw[List.map_replicate,List.map_const',Y0]
   rw[e5]
   have g5:=s5.ZP (o:=.lst ((List.replicate ks.length false).map V.bl)) z5
   refine⟨l5,rfl,_,SqL.of Zc,ZC (λz=>?_) λ_=>?_⟩
   ·rw[List.any_eq_true]at z
    obtain⟨x,hx,hx2⟩:=z
    rw[List.eq_of_mem_replicate hx]at hx2
    cases hx2
   ·obtain⟨as,c1,c2,c3⟩:=hc
    refine⟨_,.inl (SqL.of (g5 _ _ c1)),_,.inr (SqT.of (g5 _ _ hk)),ZC (λz=>?_) λ_=>hR _ _ ⟨rfl,g5⟩⟩
    have:=hO.2.2.2.1
    simp only[Yf]at z
    omega
 rintro σ H3 ⟨rfl,s3⟩
 replace hk:=s3 _ _ hk
 replace s1:=s1.trans s3
 walk_at "rd"
 refine⟨t,r,T',ns,rfl,s1 _ _ ht,.inl (SqL.of (s1 _ _ hr1)),hn,by omega,λ_ _ l5 rs H5 zl s5 hR5 hP5=>⟨l5,rfl,hR5.sq,?_⟩,λg=>absurd hG g,λ_ g=>absurd hl g⟩
 have hrl:=Zit (by omega) hP5
 obtain⟨w1,w2,w3⟩:=hR5.walk (K:=K)
 refine comp_map (n:=rs.length) (λ_=>V.bl false) (Yv (show _<=2000 by omega) (by decide)) (λj Hx s hj=>w1 j Hx s hj) (λHx s=>w2 Hx s) ?_ ?_
 ·rintro j x Hx Hy hj s y
  obtain⟨rfl,a,rfl,ha⟩:=w3 j x Hx Hy hj s y
  have hmem:rs[j]∈Zaj T' (hgt (Zg T') ns):=hP5.1.mem_iff.mp (YD hj)
  obtain⟨x1,y1,e,_⟩:=Zbu hmem
  have h2:=hO.no_two hl hmem
  rw[e]at ha h2
  have fl:(ks.map V.int).all flatV=true:=by simp[flatV]
  have hk5:=s _ _ (s5 _ _ hk)
  walk_at "rd"
  refine⟨_,SqT.of ha,rfl,_,_,rfl,_,_,rfl,rfl,?_⟩
  refine⟨_,.inr (SqT.of hk5),rfl,fl,?_⟩
  rw[Zhq]
  refine ZC (λz=>⟨_,.inr (SqT.of hk5),rfl,fl,?_⟩) λ_=>CW.next hj rfl s
  rw[Zhq]
  have h3:¬ ((y1:Nat):Int)∈ks:=λy=>h2 ⟨by simpa using YS z,by simpa using y⟩
  rw[YK h3]
  exact CW.next hj rfl s
 ·intro l6 H6 s6 z6
  have e5:(List.range rs.length).map (λ_=>V.bl false)=(List.replicate rs.length false).map V.bl:=by rw[List.map_replicate,List.map_const',Y0]
  rw[e5]
  have g6:=s6.ZP (o:=.lst ((List.replicate rs.length false).map V.bl)) z6
  refine⟨l6,rfl,_,SqL.of Zc,?_⟩
  have:(List.replicate rs.length false).any id=false:=by
   rw[List.any_eq_false];intro x hx;rw[List.eq_of_mem_replicate hx];simp
  rw[this]
  exact k1 _ (s1.trans (s5.trans g6))
theorem ok_law {f:Addr}{fd:FuncData} (F:Fun K "law" "law" Zhz f fd) (ZS:Callee P w K mg base "tree_of" 2 ["row"] (ZaT K mg)) (Zz:Callee P w K mg base "flattest" 5 ["tree"] (Zac K mg)) (Zcg:Callee P w K mg base "nearest" 7 ["tree","row"] (ZeB K mg)) (Zt7:Callee P w K mg base "kin" 4 ["one","other"] (Zpk K mg)) (Zch:Callee P w K mg base "clashing" 6 ["tree","row"] (Zdy K mg)) (ZaV:Callee P w K mg base "most_stay" 6 ["tree","row"] (ZcK K mg)) (ZgL:Callee P w K mg base "_law_pot" 1 ["script","k"] (ZfD K mg)) (Zcf:Callee P w K mg base "_law_row" 2 ["pot","most"] (Zdx K mg)) (ZcB:Callee P w K mg base "_law_near_row" 3 ["pot","row"] (Zca K mg)) (ZbO:Callee P w K mg base "_law_near_right" 8 ["tree","row"] (Zbs K mg)) (ZbP:Callee P w K mg base "_law_stay_right" 7 ["tree","row"] (Zbt K mg)) (T:Txt K mg):FnOk P w K mg base (CXE P w) 9 f fd ["script"] (Zqz K mg):=by
 refine F.okX ZeE (λvs H Q E h=>?_) (λcdv A outer s H vs Q E hr h=>?_)
 ·obtain⟨a,ns,rfl,_⟩:=h;rfl
 obtain⟨sc,cs,rfl,hsc,hcs,hTT,k1⟩:=h
 have hTc:Zb3 K mg "chains_by" H:=hTT (Zhw K mg "chains_by",Zj0 "chains_by") (by unfold ZfC;simp)
 have hTn:Zb3 K mg "nearest" H:=hTT (Zhw K mg "nearest",Zj0 "nearest") (by unfold ZfC;simp)
 have hTf:Zb3 K mg "from_below" H:=hTT (Zhw K mg "from_below",Zj0 "from_below") (by unfold ZfC;simp)
 refine⟨_,(Zd (Zbp (ZbZ PassesOwn.never rfl (Zax rfl T.b_range (Za (Zj (Zh3 rfl) rfl T.b_max Zjz (Za Zh (Za (Zj (ZqR rfl) rfl T.b_min Zs0 (Za (Zj (Zk (K:=K) rfl) rfl T.b_len Yp (Za (pv 0) Zb)) (Za Zh Zb))) Zb))) Zb)) (Zm (i:=1) ZeE.nd rfl (Or.inl rfl)) (Zd (Zo (i:=2) ZeE.nd rfl (Or.inl rfl) (Zf ZgL (hr.mono (by decide)) rfl Zv (Za (pv 0) (Za (pv 1) Zb))))
   (Zd (Zo (i:=3) ZeE.nd rfl (Or.inl rfl) (Zf Zcf (hr.mono (by decide)) rfl Zv (Za (pv 2) (Za Zh Zb))))
   (Zd (Zo (i:=4) ZeE.nd rfl (Or.inl rfl) (Zf ZcB (hr.mono (by decide)) rfl Zv (Za (pv 2) (Za (pv 3) Zb))))
   (Zd (Z0 (Zq Zc4 (Zj (Zk (K:=K) rfl) rfl T.b_len Yp (Za (pv 4) Zb)) (Zj (Zk (K:=K) rfl) rfl T.b_len Yp (Za (pv 3) Zb)) (Zn _)) (Zi (Zo (i:=4) ZeE.nd rfl (Or.inl rfl) (ZvW (K:=K) rfl rfl rfl T.b_reversed rfl T.b_list (Za (pv 3) Zb)))) ZD)
   (Zd (Zo (i:=5) ZeE.nd rfl (Or.inl rfl) (Zf ZS (hr.mono (by decide)) rfl Zv (Za (pv 4) Zb)))
   (Zd (Z0 (PW.pt (ZcI (Zcw (Zbn (Zf ZbO (hr.mono (by decide)) rfl Zv (Za (pv 5) (Za (pv 3) Zb))))) (ZbY (Zcw (Zbn (Zf ZbP (hr.mono (by decide)) rfl Zv (Za (pv 5) (Za (pv 3) Zb)))))))) (Zi (Zt Zbv)) ZD)
   (Zd (Zo (i:=6) ZeE.nd rfl (Or.inl rfl) (Zf Zt7 (hr.mono (by decide)) rfl Zv (Za (pv 3) (Za (pv 4) Zb))))
   (Zd (ps_par (i:=7) (j:=8) rfl ZeE.nd rfl rfl (by decide) rfl rfl (Za (Zy Zaq (Zf Zcg (hr.mono (by decide)) rfl Zv (Za (pv 5) (Za (pv 3) Zb))) Zh (λ_ _=>rfl)) (Za (Zy Zaq (Zf ZaV (hr.mono (by decide)) rfl Zv (Za (pv 5) (Za (pv 3) Zb))) Zh (λ_ _=>rfl)) Zb)) rfl)
   (Zd (Z0 (PW.pt (ZcI (Zq Zc4 (ZI Zbd (pv 7) Zh (Zn _)) (pv 6) (Zn _)) (ZcI (Zq Zc4 (ZI Zbd (Zj (Zk (K:=K) rfl) rfl T.b_len Yp (Za (pv 8) Zb)) (Zj (Zk (K:=K) rfl) rfl T.b_len Yp (Za (pv 3) Zb)) (Zn _)) (pv 6) (Zn _)) (ZbY (Zq Zc4 (ZI (ZjC (K:=K) rfl hr) (Zf Zch (hr.mono (by decide)) rfl Zv (Za (pv 5) (Za (pv 3) Zb))) (Zb0 Zb) (Zn _)) (pv 6) (Zn _)))))) (Zi (Zt Zbv)) ZD)
   (Zi (Z0 (PW.pt (ZcI (Zq Zc4 (Zy Zaq (Zf Zcg (hr.mono (by decide)) rfl Zv (Za (pv 5) (Za (Zf Zz (hr.mono (by decide)) rfl Zv (Za (pv 5) Zb)) Zb))) Zh (λ_ _=>rfl)) Zh (Zn _)) (ZbY (Zq Zc4 (Zj (Zk (K:=K) rfl) rfl T.b_len Yp (Za (Zy Zaq (Zf ZaV (hr.mono (by decide)) rfl Zv (Za (pv 5) (Za (pv 4) Zb))) Zh (λ_ _=>rfl)) Zb)) (Zj (Zk (K:=K) rfl) rfl T.b_len Yp (Za (pv 4) Zb)) (Zn _))))) (Zi (Zt Zbv)) ZD)))))))))))))
   (Zi (Zt Zbv))),?_⟩
 walk_at "rd"
 have el:(cs.map V.int).length=cs.length:=Yf ..
 refine⟨_,.inl hsc,by split<;>(try split)<;>omega,by split<;>(try split)<;>omega,?_⟩
 rw[el]
 obtain⟨nn,hnn,nn1⟩:∃nn:Nat,(if (if (4:Int)<(cs.length:Int)then (4:Int)else (cs.length:Int))>1 then (if (4:Int)<(cs.length:Int)then (4:Int)else (cs.length:Int))else 1).toNat=nn/\nn<=4:=⟨_,rfl,by split<;>(try split)<;>omega⟩
 rw[hnn]
 refine Zbw (λi σ Hx=>∃v1 v2 v3 v4 v5 v6 v7 v8,σ=[some (.ref sc),v1,v2,v3,v4,v5,v6,v7,v8]/\Ze H Hx) ⟨_,_,_,_,_,_,_,_,rfl,Ze.refl H⟩ ?_ ?_
 ·rintro i σ H' hi ⟨v1,v2,v3,v4,v5,v6,v7,v8,rfl,hs⟩
  generalize hk:(0:Int)+(i:Int)=kk
  have hk0:0<=kk/\kk<=100:=by omega
  refine Zah (fun σ Hx=>∃p,σ=[some (.ref sc),some (.int kk),some (.ref p),v3,v4,v5,v6,v7,v8]/\H' p=none/\Zab Hx p/\Ze H' Hx) (λR hR=>?_) ?_
  ·walk_at "rd"
   exact⟨sc,cs,kk,rfl,hs.seq hsc,hk0.1,hk0.2,λp H1 hp s1 P1=>hR _ _ ⟨p,rfl,hp,P1,s1⟩⟩
  rintro σ H1 ⟨p,rfl,zp,P1,s1⟩
  refine Zah (fun σ Hx=>∃(r:Addr) (ns:List Int),σ=[some (.ref sc),some (.int kk),some (.ref p),some (.ref r),v4,v5,v6,v7,v8]/\ns.length<=10/\r≠p/\Hx r=some (.lst (ns.map V.int))/\Zab Hx p/\Ze H' Hx) (λR hR=>?_) ?_
  ·walk_at "rd"
   exact⟨p,10,rfl,by decide,by decide,P1,λr ns H2 z1 n1 h1 P2 e2=>hR _ _ ⟨r,ns,rfl,by omega,P1.ne z1,h1,P2,s1.exc zp e2⟩⟩
  clear s1 P1
  rintro σ H2 ⟨r,ns,rfl,hn,np,hr1,P1,s1⟩
  refine Zah (fun σ Hx=>∃(o:Addr) (ms:List Int),σ=[some (.ref sc),some (.int kk),some (.ref p),some (.ref r),some (.ref o),v5,v6,v7,v8]/\Hx r=some (.lst (ns.map V.int))/\Hx o=some (.lst (ms.map V.int))/\Ze H' Hx) (λR hR=>?_) ?_
  ·walk_at "rd"
   exact⟨p,r,ns,rfl,P1,hr1,np,by omega,λl ms H3 zl hl hm P3 e3=>hR _ _ ⟨l,ms,rfl,e3 _ _ np hr1,hl,s1.exc zp e3⟩⟩
  clear s1 P1 hr1
  rintro σ H3 ⟨o0,ms0,rfl,hr1,ho0,s1⟩
  have eN:(ns.map V.int).length=ns.length:=Yf ..
  refine Zah (fun σ Hx=>∃(o:Addr) (ms:List Int),σ=[some (.ref sc),some (.int kk),some (.ref p),some (.ref r),some (.ref o),v5,v6,v7,v8]/\ms.length=ns.length/\Hx r=some (.lst (ns.map V.int))/\Hx o=some (.lst (ms.map V.int))/\Ze H' Hx) (λR hR=>?_) ?_
  ·walk_at "rd"
   refine⟨_,.inl (SqL.of ho0),_,.inl (SqL.of hr1),ZC (λz=>?_) λz=>hR _ _ ⟨o0,ms0,rfl,by simp at z;omega,hr1,ho0,s1⟩⟩
   exact⟨_,SqL.of hr1,by rw[eN];omega,λl hl=>hR _ _ ⟨l,ns.reverse,rfl,by simp,((Ze.refl H3).upd hl) _ _ hr1,by rw[Zc,List.map_reverse],s1.ZP hl⟩⟩
  clear s1 hr1 ho0
  rintro σ H4 ⟨o,ms,rfl,hl,hr1,ho1,s1⟩
  refine Zah (fun σ Hx=>∃(e:Addr) (T:List Int),σ=[some (.ref sc),some (.int kk),some (.ref p),some (.ref r),some (.ref o),some (.ref e),v6,v7,v8]/\Zu ms T/\Hx e=some (.tup (T.map V.int))/\Ze H4 Hx) (λR hR=>?_) ?_
  ·walk_at "rd"
   exact⟨o,ms,rfl,.inl (SqL.of ho1),by omega,λe T H5 hT s5 he=>hR _ _ ⟨e,T,rfl,hT,he,s5⟩⟩
  rintro σ H5 ⟨e,T',rfl,hT,he,s5⟩
  replace hr1:=s5 _ _ hr1
  replace ho1:=s5 _ _ ho1
  replace s1:=s1.trans s5
  clear s5
  have eT:=hT.1
  have hG:ZJ T':=⟨by omega,ms,hT⟩
  have hlT:ns.length=T'.length:=by omega
  have sH:∀{Hx:Hp},Ze H5 Hx->Ze H Hx:=λsx=>hs.trans (s1.trans sx)
  refine Zah (fun σ Hx=>σ=[some (.ref sc),some (.int kk),some (.ref p),some (.ref r),some (.ref o),some (.ref e),v6,v7,v8]/\Ze H5 Hx) (λR hR=>?_) ?_
  ·walk_at "rd"
   refine⟨e,r,T',ns,rfl,he,hr1,hG,by omega,hlT,hTn.same (sH (Ze.refl _)),hTf.same (sH (Ze.refl _)),λH6 s6=>⟨true,rfl,ZC (λz=>nomatch z) λ_=>?_⟩⟩
   exact⟨e,r,T',ns,rfl,s6 _ _ he,s6 _ _ hr1,hG,by omega,hlT,hTc.same (sH s6),hTf.same (sH s6),λH7 s7=>⟨true,rfl,ZC (λz=>nomatch z) λ_=>hR _ _ ⟨rfl,s6.trans s7⟩⟩⟩
  rintro σ H6 ⟨rfl,s6⟩
  obtain⟨b,hb⟩:∃b:Bool,b=true↔Zu ns T':=by
   by_cases z:Zu ns T'
   ·exact⟨true,λ_=>z,λ_=>rfl⟩
   ·exact⟨false,(λy=>by cases y),λy=>absurd y z⟩
  refine Zah (fun σ Hx=>σ=[some (.ref sc),some (.int kk),some (.ref p),some (.ref r),some (.ref o),some (.ref e),some (.bl b),v7,v8]/\Ze H5 Hx) (λR hR=>?_) ?_
  ·walk_at "rd"
   refine⟨r,o,ns,ms,rfl,.inl (SqL.of (s6 _ _ hr1)),.inl (SqL.of (s6 _ _ ho1)),by omega,by omega,λc H7 hc s7=>?_⟩
   have:c=b:=by
    rw[Bool.eq_iff_iff,hc,hb]
    exact⟨λh=>h.2.symm.mono (Y4 hl) |>.tree hT (by omega),λh=>⟨hl.symm,ZoQ h hT⟩⟩
   subst this
   exact hR _ _ ⟨rfl,s6.trans s7⟩
  clear s6
  rintro σ H7 ⟨rfl,s7⟩
  refine Zah (fun σ Hx=>∃(far:Int) (k:Addr) (ks:List Int),σ=[some (.ref sc),some (.int kk),some (.ref p),some (.ref r),some (.ref o),some (.ref e),some (.bl b),some (.int far),some (.ref k)]/\decide (far=0)=b/\decide (ks.length=ns.length)=b/\Hx k=some (.tup (ks.map V.int))/\Ze H5 Hx) (λR hR=>?_) ?_
  ·walk_at "rd"
   refine⟨e,r,T',ns,rfl,s7 _ _ he,.inl (SqL.of (s7 _ _ hr1)),hG,by omega,hlT,hTn.same (sH s7),hTf.same (sH s7),λq m v zs pr H8 s8 hq hm hv hp hd=>⟨q,rfl,_,SqT.of hq,_,rfl,?_⟩⟩
   have s78:=s7.trans s8
   refine⟨e,r,T',ns,rfl,s78 _ _ he,.inl (SqL.of (s78 _ _ hr1)),by omega,by omega,hTf.same (sH s78),hTc.same (sH s78),λ_ _ u a b' c A ks us cs' H9 hM hu ha hb' hc hA s9=>⟨u,rfl,_,SqT.of hu,_,rfl,hR _ _ ⟨_,a,ks,rfl,?_,?_,ha,s78.trans s9⟩⟩,λg=>absurd hG g,λ_ g=>absurd hlT g⟩
   ·rw[Bool.eq_iff_iff,decide_eq_true_eq,hb,<-ZlV hG hlT];exact Zt5 hp
   ·have hO:=hM.ok hG hlT
    rw[Bool.eq_iff_iff,decide_eq_true_eq,hb]
    constructor
    ·intro z
     have e:=ZrU hO.2.1 z
     rw[hlT]at e
     exact hO.Zv0 hlT e
    ·intro z
     rw[(hO.whole hlT z).2.1,hlT];simp[nats]
  rintro σ H8 ⟨far,k,ks,rfl,hf,hk,hkx,s8⟩
  refine Zah (fun σ Hx=>σ=[some (.ref sc),some (.int kk),some (.ref p),some (.ref r),some (.ref o),some (.ref e),some (.bl b),some (.int far),some (.ref k)]/\Ze H5 Hx) (λR hR=>?_) ?_
  ·walk_at "rd"
   refine ZC (λz=>absurd hf z) λ_=>⟨_,.inr (SqT.of hkx),_,.inl (SqL.of (s8 _ _ hr1)),ZC (λz=>?_) λ_=>?_⟩
   ·exact absurd (by rw[<-hk,Yf,Yf];exact decide_eq_decide.mpr (by omega)) z
   refine⟨e,r,T',ns,rfl,s8 _ _ he,.inl (SqL.of (s8 _ _ hr1)),by omega,by omega,λ_ _ l5 rs H9 zl s9 hR5 hP5=>⟨Yt _,λp6 hp6=>⟨l5,rfl,?_⟩⟩,λg=>absurd hG g,λ_ g=>absurd hlT g⟩
   have g6:=(Ze.refl H9).upd (o:=.lst []) hp6
   obtain⟨as,a1,a2,a3⟩:=hR5
   refine⟨_,Zrj (K:=K) (n:=2) (g6 _ _ a1) Zc,ZC (λz=>?_) λ_=>hR _ _ ⟨rfl,s8.trans (s9.trans g6)⟩⟩
   refine absurd ?_ z
   rw[Bool.eq_iff_iff,decide_eq_true_eq,hb,<-ZlV hG hlT,<-ZrO hP5,List.map_eq_nil_iff]
   exact⟨λz=>by rw[z]at a2;exact List.length_eq_zero_iff.mp a2.symm,λz=>by rw[z]at a2;exact List.length_eq_zero_iff.mp a2⟩
  rintro σ H9 ⟨rfl,s9⟩
  walk_at "rd"
  refine⟨e,T',rfl,s9 _ _ he,by omega,λ_ f H10 s10 hf10=>?_,λg=>absurd hG g⟩
  have s91:=s9.trans s10
  have eF:(Zg T').length=T'.length:=ZQ T'
  have hTF:Zu (Zg T') T':=Zrc hT
  refine⟨e,f,T',_,rfl,s91 _ _ he,.inr (SqT.of hf10),hG,by omega,eF,hTn.same (sH s91),hTf.same (sH s91),λq m v zs pr H11 s11 hq hm hv hp hd=>⟨q,rfl,_,SqT.of hq,_,rfl,rfl,?_⟩⟩
  have e0:=ZrQ hG hTF hp
  subst e0
  have s92:=s91.trans s11
  refine ZC (λz=>absurd rfl z) λ_=>?_
  have hlo:ms.length=T'.length:=by omega
  refine⟨e,o,T',ms,rfl,s92 _ _ he,.inl (SqL.of (s92 _ _ ho1)),by omega,by omega,hTf.same (sH s92),hTc.same (sH s92),λ_ _ u a b' c A ks us cs' H12 hM hu ha hb' hc hA s12=>⟨u,rfl,_,SqT.of hu,_,rfl,a,rfl,_,.inr (SqT.of ha),_,.inl (SqL.of ((s92.trans s12) _ _ ho1)),ZC (λz=>?_) λ_=>sH (s92.trans s12)⟩,λg=>absurd hG g,λ_ g=>absurd hlo g⟩
  have hO:=hM.ok hG hlo
  refine absurd ?_ z
  rw[Yf,Yf,(hO.whole hlo hT).2.1,hlo]
  simp[nats]
 ·rintro σ Hx ⟨v1,v2,v3,v4,v5,v6,v7,v8,rfl,sx⟩
  walk_at "rd"
  exact k1 _
end
theorem all_mk {l:PySem.W.OpenLaw}{w:World}{K:PySem.W.Frag}{h:Heap}{mg:Str->Option Value}{fa:Addr}{ts:List Addr} (X:K.In h) (G:h.Ns mainGlobals mg) (hfa:mg "law"=some (.ref fa))
  (Zkp:nsIn K mainGlobals "settle"=some (some (.ref Zn8))) (Zkq:K.lookup Zn8=some ⟨Zym,Zyn,.func (fnOf "settle" "settle" (defArgs Zeh) (defBody Zeh) (defScope Zeh) .none Zyo Zyp Zyq Zyr ZrV Zys),Zyt⟩) (Zkr:codeIn K ZrV "settle"=true) (ZhD:keepIn K (.ref Zn8)=true)
  (Ziy:nsIn K mainGlobals "tree_of"=some (some (.ref ZlW))) (Ziz:K.lookup ZlW=some ⟨Zxz,ZxA,.func (fnOf "tree_of" "tree_of" (defArgs ZcX) (defBody ZcX) (defScope ZcX) .none ZxB ZxC ZxD ZxE ZpC ZxF),ZxG⟩) (ZiA:codeIn K ZpC "tree_of"=true) (Zgi:keepIn K (.ref ZlW)=true)
  (Zks:nsIn K mainGlobals "way_up"=some (some (.ref Zn9))) (Zkt:K.lookup Zn9=some ⟨Zyu,Zyv,.func (fnOf "way_up" "way_up" (defArgs Zei) (defBody Zei) (defScope Zei) .none Zyw Zyx Zyy Zyz ZrW ZyA),ZyB⟩) (Zku:codeIn K ZrW "way_up"=true) (ZhE:keepIn K (.ref Zn9)=true)
  (ZiB:nsIn K mainGlobals "is_tree"=some (some (.ref ZlX))) (ZiC:K.lookup ZlX=some ⟨ZxH,ZxI,.func (fnOf "is_tree" "is_tree" (defArgs ZcY) (defBody ZcY) (defScope ZcY) .none ZxJ ZxK ZxL ZxM ZpD ZxN),ZxO⟩) (ZiD:codeIn K ZpD "is_tree"=true) (Zgj:keepIn K (.ref ZlX)=true)
  (ZfN:nsIn K mainGlobals "need_tree"=some (some (.ref ZiY))) (ZfO:K.lookup ZiY=some ⟨Zv1,Zv2,.func (fnOf "need_tree" "need_tree" (defArgs Zby) (defBody Zby) (defScope Zby) .none Zv3 Zv4 Zv5 Zv6 Zm0 Zv7),Zv8⟩) (ZfP:codeIn K Zm0 "need_tree"=true) (ZdB:keepIn K (.ref ZiY)=true)
  (ZcM:nsIn K mainGlobals "from_below"=some (some (.ref ZeJ))) (ZcN:K.lookup ZeJ=some ⟨ZuF,ZuG,.func (fnOf "from_below" "from_below" (defArgs ZaY) (defBody ZaY) (defScope ZaY) .none ZuH ZuI ZuJ ZuK Zgt ZuL),ZuM⟩) (ZeK:codeIn K Zgt "from_below"=true) (ZcO:keepIn K (.ref ZeJ)=true)
  (ZdZ:Zgt=.ref Zcl) (Zd0:K.lookup Zcl=some ⟨ZuN,ZuO,.fields Zlg,ZuP⟩) (Zd1:Zlg[11]?=some (.ref Zcm)) (Zcn:PySem.W.codeHdIn K Zcl Zcm=true) (Zd2:K.lookup Zcm=none) (Zd3:Zcm∈ts)
  (Zd4:nsIn K mainGlobals "flat_number"=some (some (.ref Zgu))) (Zd5:K.lookup Zgu=some ⟨Zt8,Zt9,.func (fnOf "flat_number" "flat_number" (defArgs ZaK) (defBody ZaK) (defScope ZaK) .none Zua Zub Zuc Zud Zkv Zue),Zuf⟩) (Zd6:codeIn K Zkv "flat_number"=true) (Zco:keepIn K (.ref Zgu)=true)
  (ZgM:nsIn K mainGlobals "flattest"=some (some (.ref Zkw))) (ZgN:K.lookup Zkw=some ⟨ZwK,ZwL,.func (fnOf "flattest" "flattest" (defArgs Zb4) (defBody Zb4) (defScope Zb4) .none ZwM ZwN ZwO ZwP Zoa ZwQ),ZwR⟩) (ZgO:codeIn K Zoa "flattest"=true) (ZeL:keepIn K (.ref Zkw)=true)
  (ZeM:nsIn K mainGlobals "heights_of"=some (some (.ref ZhF))) (ZeN:K.lookup ZhF=some ⟨ZuQ,ZuR,.func (fnOf "heights_of" "heights_of" (defArgs ZaZ) (defBody ZaZ) (defScope ZaZ) .none ZuS ZuT ZuU ZuV Zlh ZuW),ZuX⟩) (ZeO:codeIn K Zlh "heights_of"=true) (ZcP:keepIn K (.ref ZhF)=true)
  (Zkx:nsIn K mainGlobals "row_by"=some (some (.ref Zob))) (Zky:K.lookup Zob=some ⟨ZyC,ZyD,.func (fnOf "row_by" "row_by" (defArgs Zej) (defBody Zej) (defScope Zej) .none ZyE ZyF ZyG ZyH ZrX ZyI),ZyJ⟩) (Zkz:codeIn K ZrX "row_by"=true) (ZhG:keepIn K (.ref Zob)=true)
  (ZkA:nsIn K mainGlobals "lifted"=some (some (.ref Zoc))) (ZkB:K.lookup Zoc=some ⟨ZyK,ZyL,.func (fnOf "lifted" "lifted" (defArgs Zek) (defBody Zek) (defScope Zek) .none ZyM ZyN ZyO ZyP ZrY ZyQ),ZyR⟩) (ZkC:codeIn K ZrY "lifted"=true) (ZhH:keepIn K (.ref Zoc)=true)
  (ZiE:nsIn K mainGlobals "is_over"=some (some (.ref ZlY))) (ZiF:K.lookup ZlY=some ⟨ZxP,ZxQ,.func (fnOf "is_over" "is_over" (defArgs ZcZ) (defBody ZcZ) (defScope ZcZ) .none ZxR ZxS ZxT ZxU ZpE ZxV),ZxW⟩) (ZiG:codeIn K ZpE "is_over"=true) (Zgk:keepIn K (.ref ZlY)=true)
  (Zdk:nsIn K mainGlobals "higher_pairs"=some (some (.ref ZfQ))) (Zdl:K.lookup ZfQ=some ⟨Zso,Zsp,.func (fnOf "higher_pairs" "higher_pairs" (defArgs Zaz) (defBody Zaz) (defScope Zaz) .none Zsq Zsr Zss Zst Zje Zsu),Zsv⟩) (Zdm:codeIn K Zje "higher_pairs"=true) (ZbQ:keepIn K (.ref ZfQ)=true)
  (Zgl:nsIn K mainGlobals "nearest"=some (some (.ref ZiH))) (Zgm:K.lookup ZiH=some ⟨ZxX,ZxY,.func (fnOf "nearest" "nearest" (defArgs Zc0) (defBody Zc0) (defScope Zc0) .none ZxZ Zx0 Zx1 Zx2 ZkD Zx3),Zx4⟩) (ZiI:codeIn K ZkD "nearest"=true) (Zgn:keepIn K (.ref ZiH)=true)
  (ZgP:ZkD=.ref ZeP) (ZgQ:K.lookup ZeP=some ⟨Zx5,Zx6,.fields ZpF,Zx7⟩) (ZgR:ZpF[11]?=some (.ref ZeQ)) (ZeR:PySem.W.codeHdIn K ZeP ZeQ=true) (ZgS:K.lookup ZeQ=none) (ZgT:ZeQ∈ts)
  (ZeS:nsIn K mainGlobals "pair_shows"=some (some (.ref ZhI))) (ZeT:K.lookup ZhI=some ⟨ZuY,ZuZ,.func (fnOf "pair_shows" "pair_shows" (defArgs Za0) (defBody Za0) (defScope Za0) .none Zu0 Zu1 Zu2 Zu3 Zli Zu4),Zu5⟩) (ZeU:codeIn K Zli "pair_shows"=true) (ZcQ:keepIn K (.ref ZhI)=true)
  (ZcC:nsIn K mainGlobals "nearest_right"=some (some (.ref Zfh))) (ZcD:K.lookup Zfh=some ⟨ZrZ,Zr0,.func (fnOf "nearest_right" "nearest_right" (defArgs Zal) (defBody Zal) (defScope Zal) .none Zr1 Zr2 Zr3 Zr4 ZiJ Zr5),Zr6⟩) (ZcE:codeIn K ZiJ "nearest_right"=true) (Zbk:keepIn K (.ref Zfh)=true)
  (ZkE:nsIn K mainGlobals "fitted"=some (some (.ref Zod))) (ZkF:K.lookup Zod=some ⟨ZyS,ZyT,.func (fnOf "fitted" "fitted" (defArgs Zel) (defBody Zel) (defScope Zel) .none ZyU ZyV ZyW ZyX Zr7 ZyY),ZyZ⟩) (ZkG:codeIn K Zr7 "fitted"=true) (ZhJ:keepIn K (.ref Zod)=true)
  (ZeV:nsIn K mainGlobals "fits_least"=some (some (.ref ZhK))) (ZeW:K.lookup ZhK=some ⟨Zu6,Zu7,.func (fnOf "fits_least" "fits_least" (defArgs Za1) (defBody Za1) (defScope Za1) .none Zu8 Zu9 Zva Zvb Zlj Zvc),Zvd⟩) (ZeX:codeIn K Zlj "fits_least"=true) (ZcR:keepIn K (.ref ZhK)=true)
  (ZgU:nsIn K mainGlobals "is_clash"=some (some (.ref ZkH))) (ZgV:K.lookup ZkH=some ⟨ZwS,ZwT,.func (fnOf "is_clash" "is_clash" (defArgs Zb5) (defBody Zb5) (defScope Zb5) .none ZwU ZwV ZwW ZwX Zoe ZwY),ZwZ⟩) (ZgW:codeIn K Zoe "is_clash"=true) (ZeY:keepIn K (.ref ZkH)=true)
  (Zdn:nsIn K mainGlobals "fitted_right"=some (some (.ref ZfR))) (Zdo:K.lookup ZfR=some ⟨Zsw,Zsx,.func (fnOf "fitted_right" "fitted_right" (defArgs ZaA) (defBody ZaA) (defScope ZaA) .none Zsy Zsz ZsA ZsB Zjf ZsC),ZsD⟩) (Zdp:codeIn K Zjf "fitted_right"=true) (ZbR:keepIn K (.ref ZfR)=true)
  (ZkI:nsIn K mainGlobals "lesser"=some (some (.ref Zof))) (ZkJ:K.lookup Zof=some ⟨Zy0,Zy1,.func (fnOf "lesser" "lesser" (defArgs Zem) (defBody Zem) (defScope Zem) .none Zy2 Zy3 Zy4 Zy5 Zr8 Zy6),Zy7⟩) (ZkK:codeIn K Zr8 "lesser"=true) (ZhL:keepIn K (.ref Zof)=true)
  (ZfS:nsIn K mainGlobals "low_steps"=some (some (.ref ZiZ))) (ZfT:K.lookup ZiZ=some ⟨Zv9,Zwa,.func (fnOf "low_steps" "low_steps" (defArgs Zbz) (defBody Zbz) (defScope Zbz) .none Zwb Zwc Zwd Zwe Zm1 Zwf),Zwg⟩) (ZfU:codeIn K Zm1 "low_steps"=true) (ZdC:keepIn K (.ref ZiZ)=true)
  (ZiK:nsIn K mainGlobals "parting"=some (some (.ref ZlZ))) (ZiL:K.lookup ZlZ=some ⟨Zx8,Zx9,.func (fnOf "parting" "parting" (defArgs Zc1) (defBody Zc1) (defScope Zc1) .none Zya Zyb Zyc Zyd ZpG Zye),Zyf⟩) (ZiM:codeIn K ZpG "parting"=true) (Zgo:keepIn K (.ref ZlZ)=true)
  (ZkL:nsIn K mainGlobals "parted"=some (some (.ref Zog))) (ZkM:K.lookup Zog=some ⟨Zy8,Zy9,.func (fnOf "parted" "parted" (defArgs Zen) (defBody Zen) (defScope Zen) .none Zza Zzb Zzc Zzd Zr9 Zze),Zzf⟩) (ZkN:codeIn K Zr9 "parted"=true) (ZhM:keepIn K (.ref Zog)=true)
  (ZeZ:nsIn K mainGlobals "all_tuples"=some (some (.ref ZhN))) (Ze0:K.lookup ZhN=some ⟨Zve,Zvf,.func (fnOf "all_tuples" "all_tuples" (defArgs Za2) (defBody Za2) (defScope Za2) .none Zvg Zvh Zvi Zvj Zlk Zvk),Zvl⟩) (Ze1:codeIn K Zlk "all_tuples"=true) (ZcS:keepIn K (.ref ZhN)=true)
  (Zug:nsIn K mainGlobals "kin"=some (some (.ref Zw0))) (Zuh:K.lookup Zw0=some ⟨Zzy,Zzz,.func (fnOf "kin" "kin" (defArgs ZlN) (defBody ZlN) (defScope ZlN) .none ZzA ZzB ZzC ZzD Zyg ZzE),ZzF⟩) (Zui:codeIn K Zyg "kin"=true) (ZqF:keepIn K (.ref Zw0)=true)
  (ZgX:nsIn K mainGlobals "clashing"=some (some (.ref ZkO))) (ZgY:K.lookup ZkO=some ⟨Zw1,Zw2,.func (fnOf "clashing" "clashing" (defArgs Zb6) (defBody Zb6) (defScope Zb6) .none Zw3 Zw4 Zw5 Zw6 Zoh Zw7),Zw8⟩) (ZgZ:codeIn K Zoh "clashing"=true) (Ze2:keepIn K (.ref ZkO)=true)
  (Zd7:nsIn K mainGlobals "lower_under"=some (some (.ref Zgv))) (Zd8:K.lookup Zgv=some ⟨Zuj,Zuk,.func (fnOf "lower_under" "lower_under" (defArgs ZaL) (defBody ZaL) (defScope ZaL) .none Zul Zum Zun Zuo ZkP Zup),Zuq⟩) (Zd9:codeIn K ZkP "lower_under"=true) (Zcp:keepIn K (.ref Zgv)=true)
  (ZdD:nsIn K mainGlobals "chains_by"=some (some (.ref ZfV))) (ZdE:K.lookup ZfV=some ⟨Zwh,Zwi,.func (fnOf "chains_by" "chains_by" (defArgs ZbA) (defBody ZbA) (defScope ZbA) .none Zwj Zwk Zwl Zwm ZhO Zwn),Zwo⟩) (ZfW:codeIn K ZhO "chains_by"=true) (ZdF:keepIn K (.ref ZfV)=true)
  (Ze3:ZhO=.ref ZcT) (Ze4:K.lookup ZcT=some ⟨Zwp,Zwq,.fields Zm2,Zwr⟩) (Ze5:Zm2[11]?=some (.ref ZcU)) (ZcV:PySem.W.codeHdIn K ZcT ZcU=true) (Ze6:K.lookup ZcU=none) (Ze7:ZcU∈ts)
  (Zm3:nsIn K mainGlobals "stays"=some (some (.ref ZqG))) (Zm4:K.lookup ZqG=some ⟨Zzg,Zzh,.func (fnOf "stays" "stays" (defArgs Zge) (defBody Zge) (defScope Zge) .none Zzi Zzj Zzk Zzl Zur Zzm),Zzn⟩) (Zm5:codeIn K Zur "stays"=true) (Zjr:keepIn K (.ref ZqG)=true)
  (ZfX:nsIn K mainGlobals "most_stay"=some (some (.ref Zi0))) (ZfY:K.lookup Zi0=some ⟨Zws,Zwt,.func (fnOf "most_stay" "most_stay" (defArgs ZbB) (defBody ZbB) (defScope ZbB) .none Zwu Zwv Zww Zwx Zm6 Zwy),Zwz⟩) (ZfZ:codeIn K Zm6 "most_stay"=true) (ZdG:keepIn K (.ref Zi0)=true)
  (Zm7:nsIn K mainGlobals "keeps"=some (some (.ref ZqH))) (Zm8:K.lookup ZqH=some ⟨Zzo,Zzp,.func (fnOf "keeps" "keeps" (defArgs Zgf) (defBody Zgf) (defScope Zgf) .none Zzq Zzr Zzs Zzt Zus Zzu),Zzv⟩) (Zm9:codeIn K Zus "keeps"=true) (Zjs:keepIn K (.ref ZqH)=true)
  (Zg0:nsIn K mainGlobals "is_chain"=some (some (.ref ZkQ))) (Zg1:K.lookup ZkQ=some ⟨Zw9,Zxa,.func (fnOf "is_chain" "is_chain" (defArgs Zb7) (defBody Zb7) (defScope Zb7) .none Zxb Zxc Zxd Zxe Zoi Zxf),Zxg⟩) (Zg2:codeIn K Zoi "is_chain"=true) (Ze8:keepIn K (.ref ZkQ)=true)
  (Ze9:nsIn K mainGlobals "stay_right"=some (some (.ref ZhP))) (Zfa:K.lookup ZhP=some ⟨Zvm,Zvn,.func (fnOf "stay_right" "stay_right" (defArgs Za3) (defBody Za3) (defScope Za3) .none Zvo Zvp Zvq Zvr Zll Zvs),Zvt⟩) (Zfb:codeIn K Zll "stay_right"=true) (ZcW:keepIn K (.ref ZhP)=true)
  (Zg3:nsIn K mainGlobals "_law_pot"=some (some (.ref ZkR))) (Zg4:K.lookup ZkR=some ⟨Zxh,Zxi,.func (fnOf "_law_pot" "_law_pot" (defArgs Zb8) (defBody Zb8) (defScope Zb8) .none Zxj Zxk Zxl Zxm Zoj Zxn),Zxo⟩) (Zg5:codeIn K Zoj "_law_pot"=true) (Zfc:keepIn K (.ref ZkR)=true)
  (Zf0:nsIn K mainGlobals "_law_take"=some (some (.ref Zi1))) (Zf1:K.lookup Zi1=some ⟨ZwA,ZwB,.func (fnOf "_law_take" "_law_take" (defArgs ZbC) (defBody ZbC) (defScope ZbC) .none ZwC ZwD ZwE ZwF Zna ZwG),ZwH⟩) (Zf2:codeIn K Zna "_law_take"=true) (ZdH:keepIn K (.ref Zi1)=true)
  (Zg6:nsIn K mainGlobals "_law_row"=some (some (.ref ZkS))) (Zg7:K.lookup ZkS=some ⟨Zxp,Zxq,.func (fnOf "_law_row" "_law_row" (defArgs Zb9) (defBody Zb9) (defScope Zb9) .none Zxr Zxs Zxt Zxu Zok Zxv),Zxw⟩) (Zg8:codeIn K Zok "_law_row"=true) (Zfd:keepIn K (.ref ZkS)=true)
  (ZcF:nsIn K mainGlobals "_law_near_row"=some (some (.ref Zfi))) (ZcG:K.lookup Zfi=some ⟨Zsa,Zsb,.func (fnOf "_law_near_row" "_law_near_row" (defArgs Zam) (defBody Zam) (defScope Zam) .none Zsc Zsd Zse Zsf ZiN Zsg),Zsh⟩) (ZcH:codeIn K ZiN "_law_near_row"=true) (Zbl:keepIn K (.ref Zfi)=true)
  (ZbS:nsIn K mainGlobals "_law_near_right"=some (some (.ref ZdI))) (ZbT:K.lookup ZdI=some ⟨ZpH,ZpI,.func (fnOf "_law_near_right" "_law_near_right" (defArgs Z7) (defBody Z7) (defScope Z7) .none ZpJ ZpK ZpL ZpM Zg9 ZpN),ZpO⟩) (ZbU:codeIn K Zg9 "_law_near_right"=true) (ZaP:keepIn K (.ref ZdI)=true)
  (ZbV:nsIn K mainGlobals "_law_stay_right"=some (some (.ref ZdJ))) (ZbW:K.lookup ZdJ=some ⟨ZpP,ZpQ,.func (fnOf "_law_stay_right" "_law_stay_right" (defArgs Z8) (defBody Z8) (defScope Z8) .none ZpR ZpS ZpT ZpU Zha ZpV),ZpW⟩) (ZbX:codeIn K Zha "_law_stay_right"=true) (ZaQ:keepIn K (.ref ZdJ)=true)
  (Zut:nsIn K mainGlobals "law"=some (some (.ref Zxx))) (Zuu:K.lookup Zxx=some ⟨ZzG,ZzH,.func (fnOf "law" "law" (defArgs Zhz) (defBody Zhz) (defScope Zhz) .none Zyh Zyi Zyj Zyk Zuv Zyl),ZzI⟩) (Zuw:codeIn K Zuv "law"=true) (Zux:keepIn K (.ref Zxx)=true)
  {C_DipError:Addr} (n_DipError:nsIn K mainGlobals "DipError"=some (some (.ref C_DipError))) (x_DipError:PySem.W.excIn K C_DipError bmV newV=true) (d_DipError:PySem.W.hasDictIn K C_DipError=true) (y_DipError:PySem.W.typeIn K (.ref C_DipError)=some (.type "type"))
  {C_Unlike:Addr} (n_Unlike:nsIn K mainGlobals "Unlike"=some (some (.ref C_Unlike))) (x_Unlike:PySem.W.excIn K C_Unlike bmV newV=true) (d_Unlike:PySem.W.hasDictIn K C_Unlike=true) (y_Unlike:PySem.W.typeIn K (.ref C_Unlike)=some (.type "type"))
  {C_NoTree:Addr} (n_NoTree:nsIn K mainGlobals "NoTree"=some (some (.ref C_NoTree))) (x_NoTree:PySem.W.excIn K C_NoTree bmV newV=true) (d_NoTree:PySem.W.hasDictIn K C_NoTree=true) (y_NoTree:PySem.W.typeIn K (.ref C_NoTree)=some (.type "type"))
  (b_abs:nsIn K mainGlobals "abs"=some none)
  (b_all:nsIn K mainGlobals "all"=some none)
  (b_any:nsIn K mainGlobals "any"=some none)
  (b_enumerate:nsIn K mainGlobals "enumerate"=some none)
  (b_int:nsIn K mainGlobals "int"=some none)
  (b_isinstance:nsIn K mainGlobals "isinstance"=some none)
  (b_len:nsIn K mainGlobals "len"=some none)
  (b_list:nsIn K mainGlobals "list"=some none)
  (b_max:nsIn K mainGlobals "max"=some none)
  (b_min:nsIn K mainGlobals "min"=some none)
  (b_range:nsIn K mainGlobals "range"=some none)
  (b_reversed:nsIn K mainGlobals "reversed"=some none)
  (b_sorted:nsIn K mainGlobals "sorted"=some none)
  (b_tuple:nsIn K mainGlobals "tuple"=some none)
  (b_zip:nsIn K mainGlobals "zip"=some none)
  {t_MOST_PLACES:Tok} (m_MOST_PLACES:nsIn K mainGlobals "MOST_PLACES"=some (some (.int 40 t_MOST_PLACES)))
  (nd:[Zcm,ZeQ,ZcU].Nodup)
  : ∃fd:FuncData,(∀(s:Shared) (v:Value),BindsTo s fd ⟨[v],[]⟩ [("script",v)])/\(∀p∈ZfC K mg,p.1∈ts/\K.lookup p.1=none/\∃c,PySem.W.codeHdIn K c p.1=true)/\((ZfC K mg).map (·.1)).Nodup/\∀base:Heap,K.In base->base.Ns mainGlobals mg->BM mg base->FnOk l.prog w K mg base (CXE l.prog w) 9 fa fd ["script"] (Zqz K mg):=by
 have e:=hfa.symm.trans (mg_of X G Zut)
 cases e
 have q_DipError:clsAt mg "DipError"=C_DipError:=by unfold clsAt;rw[mg_of X G n_DipError]
 have q_Unlike:clsAt mg "Unlike"=C_Unlike:=by unfold clsAt;rw[mg_of X G n_Unlike]
 have q_NoTree:clsAt mg "NoTree"=C_NoTree:=by unfold clsAt;rw[mg_of X G n_NoTree]
 have q_MOST_PLACES:tokAt mg "MOST_PLACES"=t_MOST_PLACES:=by unfold tokAt;rw[mg_of X G m_MOST_PLACES]
 have T:Txt K mg:={
  b_abs:=mg_none_of X G b_abs
  b_all:=mg_none_of X G b_all
  b_any:=mg_none_of X G b_any
  b_enumerate:=mg_none_of X G b_enumerate
  b_int:=mg_none_of X G b_int
  b_isinstance:=mg_none_of X G b_isinstance
  b_len:=mg_none_of X G b_len
  b_list:=mg_none_of X G b_list
  b_max:=mg_none_of X G b_max
  b_min:=mg_none_of X G b_min
  b_range:=mg_none_of X G b_range
  b_reversed:=mg_none_of X G b_reversed
  b_sorted:=mg_none_of X G b_sorted
  b_tuple:=mg_none_of X G b_tuple
  b_zip:=mg_none_of X G b_zip
  c_DipError:=by rw[q_DipError];exact mg_of X G n_DipError
  x_DipError:=by rw[q_DipError];exact x_DipError
  c_Unlike:=by rw[q_Unlike];exact mg_of X G n_Unlike
  x_Unlike:=by rw[q_Unlike];exact x_Unlike
  c_NoTree:=by rw[q_NoTree];exact mg_of X G n_NoTree
  x_NoTree:=by rw[q_NoTree];exact x_NoTree
  m_MOST_PLACES:=by rw[q_MOST_PLACES];exact mg_of X G m_MOST_PLACES
 }
 subst ZdZ
 have ZaN:=ZmG (mg_of X G ZcM) ZcN rfl Zd0 Zd1
 have Znb:Zpa K mg "from_below" ZeJ:=⟨Zcl,ZaN.2,by rw[ZaN.1];exact Zcn⟩
 subst ZgP
 have Zci:=ZmG (mg_of X G Zgl) Zgm rfl ZgQ ZgR
 have Zsi:Zpa K mg "nearest" ZiH:=⟨ZeP,Zci.2,by rw[Zci.1];exact ZeR⟩
 subst Ze3
 have Za7:=ZmG (mg_of X G ZdD) ZdE rfl Ze4 Ze5
 have Zol:Zpa K mg "chains_by" ZfV:=⟨ZcT,Za7.2,by rw[Za7.1];exact ZcV⟩
 have Zom:=ZF (st:=Zeh) Zkq Zkr ZhD
 have Zuy:=Zom.binds (ps:=["elders","spine","place","keep"]) λ_ _ _ _ _ _ us hl=>by obtain⟨x0,u0,rfl,h0⟩:=le1 hl;obtain⟨x1,u1,rfl,h1⟩:=le1 h0;obtain⟨x2,u2,rfl,h2⟩:=le1 h1;obtain⟨x3,u3,rfl,h3⟩:=le1 h2;obtain rfl:=le0 h3;exact rfl
 have Zl0:=ZF (st:=ZcX) Ziz ZiA Zgi
 have Zsj:=Zl0.binds (ps:=["row"]) λ_ _ _ _ _ _ us hl=>by obtain⟨x0,u0,rfl,h0⟩:=le1 hl;obtain rfl:=le0 h0;exact rfl
 have Zon:=ZF (st:=Zei) Zkt Zku ZhE
 have Zuz:=Zon.binds (ps:=["tree","place"]) λ_ _ _ _ _ _ us hl=>by obtain⟨x0,u0,rfl,h0⟩:=le1 hl;obtain⟨x1,u1,rfl,h1⟩:=le1 h0;obtain rfl:=le0 h1;exact rfl
 have Zl1:=ZF (st:=ZcY) ZiC ZiD Zgj
 have Zsk:=Zl1.binds (ps:=["tree"]) λ_ _ _ _ _ _ us hl=>by obtain⟨x0,u0,rfl,h0⟩:=le1 hl;obtain rfl:=le0 h0;exact rfl
 have Zi2:=ZF (st:=Zby) ZfO ZfP ZdB
 have Zoo:=Zi2.binds (ps:=["tree"]) λ_ _ _ _ _ _ us hl=>by obtain⟨x0,u0,rfl,h0⟩:=le1 hl;obtain rfl:=le0 h0;exact rfl
 have ZhQ:=ZF (st:=ZaY) ZcN ZeK ZcO
 have Znc:=ZhQ.binds (ps:=["tree"]) λ_ _ _ _ _ _ us hl=>by obtain⟨x0,u0,rfl,h0⟩:=le1 hl;obtain rfl:=le0 h0;exact rfl
 have Zgw:=ZF (st:=ZaK) Zd5 Zd6 Zco
 have Zlm:=Zgw.binds (ps:=["tree","place"]) λ_ _ _ _ _ _ us hl=>by obtain⟨x0,u0,rfl,h0⟩:=le1 hl;obtain⟨x1,u1,rfl,h1⟩:=le1 h0;obtain rfl:=le0 h1;exact rfl
 have ZkT:=ZF (st:=Zb4) ZgN ZgO ZeL
 have ZpX:=ZkT.binds (ps:=["tree"]) λ_ _ _ _ _ _ us hl=>by obtain⟨x0,u0,rfl,h0⟩:=le1 hl;obtain rfl:=le0 h0;exact rfl
 have ZhR:=ZF (st:=ZaZ) ZeN ZeO ZcP
 have Znd:=ZhR.binds (ps:=["flat","row"]) λ_ _ _ _ _ _ us hl=>by obtain⟨x0,u0,rfl,h0⟩:=le1 hl;obtain⟨x1,u1,rfl,h1⟩:=le1 h0;obtain rfl:=le0 h1;exact rfl
 have Zop:=ZF (st:=Zej) Zky Zkz ZhG
 have ZuA:=Zop.binds (ps:=["flat","heights"]) λ_ _ _ _ _ _ us hl=>by obtain⟨x0,u0,rfl,h0⟩:=le1 hl;obtain⟨x1,u1,rfl,h1⟩:=le1 h0;obtain rfl:=le0 h1;exact rfl
 have Zoq:=ZF (st:=Zek) ZkB ZkC ZhH
 have ZuB:=Zoq.binds (ps:=["tree","heights"]) λ_ _ _ _ _ _ us hl=>by obtain⟨x0,u0,rfl,h0⟩:=le1 hl;obtain⟨x1,u1,rfl,h1⟩:=le1 h0;obtain rfl:=le0 h1;exact rfl
 have Zl2:=ZF (st:=ZcZ) ZiF ZiG Zgk
 have Zsl:=Zl2.binds (ps:=["tree","a","b"]) λ_ _ _ _ _ _ us hl=>by obtain⟨x0,u0,rfl,h0⟩:=le1 hl;obtain⟨x1,u1,rfl,h1⟩:=le1 h0;obtain⟨x2,u2,rfl,h2⟩:=le1 h1;obtain rfl:=le0 h2;exact rfl
 have Zf3:=ZF (st:=Zaz) Zdl Zdm ZbQ
 have ZkU:=Zf3.binds (ps:=["tree","heights"]) λ_ _ _ _ _ _ us hl=>by obtain⟨x0,u0,rfl,h0⟩:=le1 hl;obtain⟨x1,u1,rfl,h1⟩:=le1 h0;obtain rfl:=le0 h1;exact rfl
 have Zl3:=ZF (st:=Zc0) Zgm ZiI Zgn
 have Zsm:=Zl3.binds (ps:=["tree","row"]) λ_ _ _ _ _ _ us hl=>by obtain⟨x0,u0,rfl,h0⟩:=le1 hl;obtain⟨x1,u1,rfl,h1⟩:=le1 h0;obtain rfl:=le0 h1;exact rfl
 have ZhS:=ZF (st:=Za0) ZeT ZeU ZcQ
 have Zne:=ZhS.binds (ps:=["tree","heights","far","pair"]) λ_ _ _ _ _ _ us hl=>by obtain⟨x0,u0,rfl,h0⟩:=le1 hl;obtain⟨x1,u1,rfl,h1⟩:=le1 h0;obtain⟨x2,u2,rfl,h2⟩:=le1 h1;obtain⟨x3,u3,rfl,h3⟩:=le1 h2;obtain rfl:=le0 h3;exact rfl
 have Zfj:=ZF (st:=Zal) ZcD ZcE Zbk
 have Zjg:=Zfj.binds (ps:=["tree","row","far","made","pair"]) λ_ _ _ _ _ _ us hl=>by obtain⟨x0,u0,rfl,h0⟩:=le1 hl;obtain⟨x1,u1,rfl,h1⟩:=le1 h0;obtain⟨x2,u2,rfl,h2⟩:=le1 h1;obtain⟨x3,u3,rfl,h3⟩:=le1 h2;obtain⟨x4,u4,rfl,h4⟩:=le1 h3;obtain rfl:=le0 h4;exact rfl
 have Zor:=ZF (st:=Zel) ZkF ZkG ZhJ
 have ZuC:=Zor.binds (ps:=["tree","least","greatest"]) λ_ _ _ _ _ _ us hl=>by obtain⟨x0,u0,rfl,h0⟩:=le1 hl;obtain⟨x1,u1,rfl,h1⟩:=le1 h0;obtain⟨x2,u2,rfl,h2⟩:=le1 h1;obtain rfl:=le0 h2;exact rfl
 have ZhT:=ZF (st:=Za1) ZeW ZeX ZcR
 have Znf:=ZhT.binds (ps:=["tree","floors","roofs","heights"]) λ_ _ _ _ _ _ us hl=>by obtain⟨x0,u0,rfl,h0⟩:=le1 hl;obtain⟨x1,u1,rfl,h1⟩:=le1 h0;obtain⟨x2,u2,rfl,h2⟩:=le1 h1;obtain⟨x3,u3,rfl,h3⟩:=le1 h2;obtain rfl:=le0 h3;exact rfl
 have ZkV:=ZF (st:=Zb5) ZgV ZgW ZeY
 have ZpY:=ZkV.binds (ps:=["tree","floors","roofs","a","b"]) λ_ _ _ _ _ _ us hl=>by obtain⟨x0,u0,rfl,h0⟩:=le1 hl;obtain⟨x1,u1,rfl,h1⟩:=le1 h0;obtain⟨x2,u2,rfl,h2⟩:=le1 h1;obtain⟨x3,u3,rfl,h3⟩:=le1 h2;obtain⟨x4,u4,rfl,h4⟩:=le1 h3;obtain rfl:=le0 h4;exact rfl
 have Zf4:=ZF (st:=ZaA) Zdo Zdp ZbR
 have ZkW:=Zf4.binds (ps:=["tree","least","greatest","told"]) λ_ _ _ _ _ _ us hl=>by obtain⟨x0,u0,rfl,h0⟩:=le1 hl;obtain⟨x1,u1,rfl,h1⟩:=le1 h0;obtain⟨x2,u2,rfl,h2⟩:=le1 h1;obtain⟨x3,u3,rfl,h3⟩:=le1 h2;obtain rfl:=le0 h3;exact rfl
 have Zos:=ZF (st:=Zem) ZkJ ZkK ZhL
 have ZuD:=Zos.binds (ps:=["row","one","other"]) λ_ _ _ _ _ _ us hl=>by obtain⟨x0,u0,rfl,h0⟩:=le1 hl;obtain⟨x1,u1,rfl,h1⟩:=le1 h0;obtain⟨x2,u2,rfl,h2⟩:=le1 h1;obtain rfl:=le0 h2;exact rfl
 have Zi3:=ZF (st:=Zbz) ZfT ZfU ZdC
 have Zot:=Zi3.binds (ps:=["row"]) λ_ _ _ _ _ _ us hl=>by obtain⟨x0,u0,rfl,h0⟩:=le1 hl;obtain rfl:=le0 h0;exact rfl
 have Zl4:=ZF (st:=Zc1) ZiL ZiM Zgo
 have Zsn:=Zl4.binds (ps:=["ones","others","one","other","size"]) λ_ _ _ _ _ _ us hl=>by obtain⟨x0,u0,rfl,h0⟩:=le1 hl;obtain⟨x1,u1,rfl,h1⟩:=le1 h0;obtain⟨x2,u2,rfl,h2⟩:=le1 h1;obtain⟨x3,u3,rfl,h3⟩:=le1 h2;obtain⟨x4,u4,rfl,h4⟩:=le1 h3;obtain rfl:=le0 h4;exact rfl
 have Zou:=ZF (st:=Zen) ZkM ZkN ZhM
 have ZuE:=Zou.binds (ps:=["one","other"]) λ_ _ _ _ _ _ us hl=>by obtain⟨x0,u0,rfl,h0⟩:=le1 hl;obtain⟨x1,u1,rfl,h1⟩:=le1 h0;obtain rfl:=le0 h1;exact rfl
 have ZhU:=ZF (st:=Za2) Ze0 Ze1 ZcS
 have Zng:=ZhU.binds (ps:=["entries"]) λ_ _ _ _ _ _ us hl=>by obtain⟨x0,u0,rfl,h0⟩:=le1 hl;obtain rfl:=le0 h0;exact rfl
 have Zxy:=ZF (st:=ZlN) Zuh Zui ZqF
 have Zzw:=Zxy.binds (ps:=["one","other"]) λ_ _ _ _ _ _ us hl=>by obtain⟨x0,u0,rfl,h0⟩:=le1 hl;obtain⟨x1,u1,rfl,h1⟩:=le1 h0;obtain rfl:=le0 h1;exact rfl
 have ZkX:=ZF (st:=Zb6) ZgY ZgZ Ze2
 have ZpZ:=ZkX.binds (ps:=["tree","row"]) λ_ _ _ _ _ _ us hl=>by obtain⟨x0,u0,rfl,h0⟩:=le1 hl;obtain⟨x1,u1,rfl,h1⟩:=le1 h0;obtain rfl:=le0 h1;exact rfl
 have Zgx:=ZF (st:=ZaL) Zd8 Zd9 Zcp
 have Zln:=Zgx.binds (ps:=["tree","heights"]) λ_ _ _ _ _ _ us hl=>by obtain⟨x0,u0,rfl,h0⟩:=le1 hl;obtain⟨x1,u1,rfl,h1⟩:=le1 h0;obtain rfl:=le0 h1;exact rfl
 have Zi4:=ZF (st:=ZbA) ZdE ZfW ZdF
 have Zov:=Zi4.binds (ps:=["order","lower","heights"]) λ_ _ _ _ _ _ us hl=>by obtain⟨x0,u0,rfl,h0⟩:=le1 hl;obtain⟨x1,u1,rfl,h1⟩:=le1 h0;obtain⟨x2,u2,rfl,h2⟩:=le1 h1;obtain rfl:=le0 h2;exact rfl
 have ZqI:=ZF (st:=Zge) Zm4 Zm5 Zjr
 have ZwI:=ZqI.binds (ps:=["height","bar","under"]) λ_ _ _ _ _ _ us hl=>by obtain⟨x0,u0,rfl,h0⟩:=le1 hl;obtain⟨x1,u1,rfl,h1⟩:=le1 h0;obtain⟨x2,u2,rfl,h2⟩:=le1 h1;obtain rfl:=le0 h2;exact rfl
 have Zi5:=ZF (st:=ZbB) ZfY ZfZ ZdG
 have Zow:=Zi5.binds (ps:=["tree","row"]) λ_ _ _ _ _ _ us hl=>by obtain⟨x0,u0,rfl,h0⟩:=le1 hl;obtain⟨x1,u1,rfl,h1⟩:=le1 h0;obtain rfl:=le0 h1;exact rfl
 have ZqJ:=ZF (st:=Zgf) Zm8 Zm9 Zjs
 have ZwJ:=ZqJ.binds (ps:=["row","kept","made"]) λ_ _ _ _ _ _ us hl=>by obtain⟨x0,u0,rfl,h0⟩:=le1 hl;obtain⟨x1,u1,rfl,h1⟩:=le1 h0;obtain⟨x2,u2,rfl,h2⟩:=le1 h1;obtain rfl:=le0 h2;exact rfl
 have ZkY:=ZF (st:=Zb7) Zg1 Zg2 Ze8
 have Zp0:=ZkY.binds (ps:=["tree","heights","chain"]) λ_ _ _ _ _ _ us hl=>by obtain⟨x0,u0,rfl,h0⟩:=le1 hl;obtain⟨x1,u1,rfl,h1⟩:=le1 h0;obtain⟨x2,u2,rfl,h2⟩:=le1 h1;obtain rfl:=le0 h2;exact rfl
 have ZhV:=ZF (st:=Za3) Zfa Zfb ZcW
 have Znh:=ZhV.binds (ps:=["tree","row","kept","made","chains"]) λ_ _ _ _ _ _ us hl=>by obtain⟨x0,u0,rfl,h0⟩:=le1 hl;obtain⟨x1,u1,rfl,h1⟩:=le1 h0;obtain⟨x2,u2,rfl,h2⟩:=le1 h1;obtain⟨x3,u3,rfl,h3⟩:=le1 h2;obtain⟨x4,u4,rfl,h4⟩:=le1 h3;obtain rfl:=le0 h4;exact rfl
 have ZkZ:=ZF (st:=Zb8) Zg4 Zg5 Zfc
 have Zp1:=ZkZ.binds (ps:=["script","k"]) λ_ _ _ _ _ _ us hl=>by obtain⟨x0,u0,rfl,h0⟩:=le1 hl;obtain⟨x1,u1,rfl,h1⟩:=le1 h0;obtain rfl:=le0 h1;exact rfl
 have Zi6:=ZF (st:=ZbC) Zf1 Zf2 ZdH
 have Zox:=Zi6.binds (ps:=["pot","many"]) λ_ _ _ _ _ _ us hl=>by obtain⟨x0,u0,rfl,h0⟩:=le1 hl;obtain⟨x1,u1,rfl,h1⟩:=le1 h0;obtain rfl:=le0 h1;exact rfl
 have Zk0:=ZF (st:=Zb9) Zg7 Zg8 Zfd
 have Zp2:=Zk0.binds (ps:=["pot","most"]) λ_ _ _ _ _ _ us hl=>by obtain⟨x0,u0,rfl,h0⟩:=le1 hl;obtain⟨x1,u1,rfl,h1⟩:=le1 h0;obtain rfl:=le0 h1;exact rfl
 have Zfk:=ZF (st:=Zam) ZcG ZcH Zbl
 have Zjh:=Zfk.binds (ps:=["pot","row"]) λ_ _ _ _ _ _ us hl=>by obtain⟨x0,u0,rfl,h0⟩:=le1 hl;obtain⟨x1,u1,rfl,h1⟩:=le1 h0;obtain rfl:=le0 h1;exact rfl
 have ZdK:=ZF (st:=Z7) ZbT ZbU ZaP
 have ZhW:=ZdK.binds (ps:=["tree","row"]) λ_ _ _ _ _ _ us hl=>by obtain⟨x0,u0,rfl,h0⟩:=le1 hl;obtain⟨x1,u1,rfl,h1⟩:=le1 h0;obtain rfl:=le0 h1;exact rfl
 have ZdL:=ZF (st:=Z8) ZbW ZbX ZaQ
 have ZhX:=ZdL.binds (ps:=["tree","row"]) λ_ _ _ _ _ _ us hl=>by obtain⟨x0,u0,rfl,h0⟩:=le1 hl;obtain⟨x1,u1,rfl,h1⟩:=le1 h0;obtain rfl:=le0 h1;exact rfl
 have Zzx:=ZF (st:=Zhz) Zuu Zuw Zux
 refine⟨fnOf "law" "law" (defArgs Zhz) (defBody Zhz) (defScope Zhz) .none Zyh Zyi Zyj Zyk Zuv Zyl,λs v=>.of_eq rfl,?tb,?nd,λbase _ _ B=>?_⟩
 case tb =>
  intro p hp
  unfold ZfC at hp
  simp only[Yi,List.not_mem_nil,or_false]at hp
  rcases hp with rfl|rfl|rfl
  ·exact⟨by rw[ZaN.1];exact Zd3,by rw[ZaN.1];exact Zd2,Zcl,by rw[ZaN.1];exact Zcn⟩
  ·exact⟨by rw[Zci.1];exact ZgT,by rw[Zci.1];exact ZgS,ZeP,by rw[Zci.1];exact ZeR⟩
  ·exact⟨by rw[Za7.1];exact Ze7,by rw[Za7.1];exact Ze6,ZcT,by rw[Za7.1];exact ZcV⟩
 case nd =>
  unfold ZfC
  simp only[YM,List.map_nil]
  rw[ZaN.1,Zci.1,Za7.1]
  exact nd
 have Zkm:Callee l.prog w K mg base "settle" 1 ["elders","spine","place","keep"] (Zih K mg):=⟨_,_,mg_of X G Zkp,ZhD,Zuy,ZrF Zom T⟩
 have ZS:Callee l.prog w K mg base "tree_of" 2 ["row"] (ZaT K mg):=⟨_,_,mg_of X G Ziy,Zgi,Zsj,Zpm Zl0 Zkm T⟩
 have Z1:Callee l.prog w K mg base "way_up" 1 ["tree","place"] (ZbD K mg):=⟨_,_,mg_of X G Zks,ZhE,Zuz,ZrG Zon T⟩
 have Ziw:Callee l.prog w K mg base "is_tree" 3 ["tree"] (ZgD K mg):=⟨_,_,mg_of X G ZiB,Zgj,Zsk,Zpn Zl1 ZS Z1 T⟩
 have ZfL:Callee l.prog w K mg base "need_tree" 4 ["tree"] (ZeA K mg):=⟨_,_,mg_of X G ZfN,ZdB,Zoo,ZmP Zi2 Ziw T⟩
 have ZdX:Callee l.prog w K mg base "flat_number" 2 ["tree","place"] (Zda K mg):=⟨_,_,mg_of X G Zd4,Zco,Zlm,Zka Zgw Z1 T⟩
 have Zz:Callee l.prog w K mg base "flattest" 5 ["tree"] (Zac K mg):=⟨_,_,mg_of X G ZgM,ZeL,ZpX,ZnX ZkT ZfL ZdX T⟩
 have Zs:Callee l.prog w K mg base "heights_of" 1 ["flat","row"] (Z3 K mg):=⟨_,_,mg_of X G ZeM,ZcP,Znd,Zla ZhR T⟩
 have ZbN:Callee l.prog w K mg base "row_by" 1 ["flat","heights"] (Zc2 K mg):=⟨_,_,mg_of X G Zkx,ZhG,ZuA,ZrJ Zop T⟩
 have Za6:Callee l.prog w K mg base "from_below" 5 ["tree"] (Zck K mg):=⟨_,_,mg_of X G ZcM,ZcO,Znc,Zlc ZhQ Z1 Znb B T⟩
 have Zer:Callee l.prog w K mg base "lifted" 6 ["tree","heights"] (Zgg K mg):=⟨_,_,mg_of X G ZkA,ZhH,ZuB,ZrK Zoq Za6 T⟩
 have ZY:Callee l.prog w K mg base "higher_pairs" 2 ["tree","heights"] (ZaI K mg):=⟨_,_,mg_of X G Zdk,ZbQ,ZkU,Zjd Zf3 Z1 T⟩
 have Zcg:Callee l.prog w K mg base "nearest" 7 ["tree","row"] (ZeB K mg):=⟨_,_,mg_of X G Zgl,Zgn,Zsm,Zpz Zl3 Zz Zs ZbN Zer ZY Zsi B T⟩
 have Zkn:Callee l.prog w K mg base "lesser" 1 ["row","one","other"] (Zim K mg):=⟨_,_,mg_of X G ZkI,ZhL,ZuD,ZrS Zos T⟩
 have ZdA:Callee l.prog w K mg base "low_steps" 2 ["row"] (ZeD K mg):=⟨_,_,mg_of X G ZfS,ZdC,Zot,ZmX Zi3 Zkn T⟩
 have Zix:Callee l.prog w K mg base "parting" 1 ["ones","others","one","other","size"] (ZgF K mg):=⟨_,_,mg_of X G ZiK,Zgo,Zsn,ZpB Zl4 T⟩
 have Zko:Callee l.prog w K mg base "parted" 3 ["one","other"] (Zin K mg):=⟨_,_,mg_of X G ZkL,ZhM,ZuE,ZrT Zou ZdA Zix T⟩
 have Zt7:Callee l.prog w K mg base "kin" 4 ["one","other"] (Zpk K mg):=⟨_,_,mg_of X G Zug,ZqF,Zzw,ok_kin Zxy Zko T⟩
 have Zch:Callee l.prog w K mg base "clashing" 6 ["tree","row"] (Zdy K mg):=⟨_,_,mg_of X G ZgX,Ze2,ZpZ,Zn4 ZkX Zz Zs ZY T⟩
 have ZdY:Callee l.prog w K mg base "lower_under" 3 ["tree","heights"] (Zde K mg):=⟨_,_,mg_of X G Zd7,Zcp,Zln,Zkl Zgx ZY T⟩
 have ZfM:Callee l.prog w K mg base "chains_by" 1 ["order","lower","heights"] (ZeC K mg):=⟨_,_,mg_of X G ZdD,ZdF,Zov,ZmV Zi4 Zol B T⟩
 have ZmY:Callee l.prog w K mg base "stays" 1 ["height","bar","under"] (Zj6 K mg):=⟨_,_,mg_of X G Zm3,Zjr,ZwI,Zt3 ZqI T⟩
 have ZaV:Callee l.prog w K mg base "most_stay" 6 ["tree","row"] (ZcK K mg):=⟨_,_,mg_of X G ZfX,ZdG,Zow,ZmW Zi5 Za6 Zz Zs ZbN ZdY ZfM ZmY T⟩
 have ZgL:Callee l.prog w K mg base "_law_pot" 1 ["script","k"] (ZfD K mg):=⟨_,_,mg_of X G Zg3,Zfc,Zp1,ZnV ZkZ T⟩
 have ZA:Callee l.prog w K mg base "_law_take" 1 ["pot","many"] (ZcJ K mg):=⟨_,_,mg_of X G Zf0,ZdH,Zox,ZmO Zi6 T⟩
 have Zcf:Callee l.prog w K mg base "_law_row" 2 ["pot","most"] (Zdx K mg):=⟨_,_,mg_of X G Zg6,Zfd,Zp2,ZnW Zk0 ZA T⟩
 have ZcB:Callee l.prog w K mg base "_law_near_row" 3 ["pot","row"] (Zca K mg):=⟨_,_,mg_of X G ZcF,Zbl,Zjh,Ziq Zfk ZA Zcf T⟩
 have Za5:Callee l.prog w K mg base "is_over" 2 ["tree","a","b"] (Zdb K mg):=⟨_,_,mg_of X G ZiE,Zgk,Zsl,Zpp Zl2 Z1 T⟩
 have ZeG:Callee l.prog w K mg base "pair_shows" 3 ["tree","heights","far","pair"] (ZdQ K mg):=⟨_,_,mg_of X G ZeS,ZcQ,Zne,Zld ZhS Za5 T⟩
 have Zbj:Callee l.prog w K mg base "nearest_right" 6 ["tree","row","far","made","pair"] (Zcb K mg):=⟨_,_,mg_of X G ZcC,Zbk,Zjg,Ziv Zfj ZS Zz Zs ZeG T⟩
 have ZhC:Callee l.prog w K mg base "fitted" 7 ["tree","least","greatest"] (Zii K mg):=⟨_,_,mg_of X G ZkE,ZhJ,ZuC,ZrL Zor Z1 Zz Zs ZbN Zer T⟩
 have ZeF:Callee l.prog w K mg base "fits_least" 1 ["tree","floors","roofs","heights"] (ZdP K mg):=⟨_,_,mg_of X G ZeV,ZcR,Znf,Zlb ZhT T⟩
 have ZgJ:Callee l.prog w K mg base "is_clash" 3 ["tree","floors","roofs","a","b"] (ZfF K mg):=⟨_,_,mg_of X G ZgU,ZeY,ZpY,ZnY ZkV Za5 T⟩
 have Zdj:Callee l.prog w K mg base "fitted_right" 6 ["tree","least","greatest","told"] (ZcA K mg):=⟨_,_,mg_of X G Zdn,ZbR,ZkW,Zjc Zf4 Zz Zs ZeF ZgJ T⟩
 have ZbO:Callee l.prog w K mg base "_law_near_right" 8 ["tree","row"] (Zbs K mg):=⟨_,_,mg_of X G ZbS,ZaP,ZhW,ZgH ZdK ZS Zcg Zbj ZhC Zdj T⟩
 have ZeH:Callee l.prog w K mg base "all_tuples" 1 ["entries"] (ZdR K mg):=⟨_,_,mg_of X G ZeZ,ZcS,Zng,Zle ZhU T⟩
 have ZmZ:Callee l.prog w K mg base "keeps" 1 ["row","kept","made"] (Zj7 K mg):=⟨_,_,mg_of X G Zm7,Zjs,ZwJ,Zt4 ZqJ T⟩
 have ZgK:Callee l.prog w K mg base "is_chain" 3 ["tree","heights","chain"] (ZfI K mg):=⟨_,_,mg_of X G Zg0,Ze8,Zp0,Zn5 ZkY Za5 T⟩
 have ZeI:Callee l.prog w K mg base "stay_right" 6 ["tree","row","kept","made","chains"] (ZdT K mg):=⟨_,_,mg_of X G Ze9,ZcW,Znh,Zlf ZhV ZS Zz Zs ZeH ZmZ ZgK T⟩
 have ZbP:Callee l.prog w K mg base "_law_stay_right" 7 ["tree","row"] (Zbt K mg):=⟨_,_,mg_of X G ZbV,ZaQ,ZhX,ZgI ZdL ZS Zch ZaV ZeI T⟩
 exact ok_law Zzx ZS Zz Zcg Zt7 Zch ZaV ZgL Zcf ZcB ZbO ZbP T
theorem walk {l:PySem.W.OpenLaw}{q:Program}{loose:List Str}{XP:(Str->Option Value)->Heap->Prop}{YP:World->Heap->Prop}{d:DefRec}{K:Params->PySem.W.Frag}{ts:List Addr} (hn:l.most=some 63) (hdf:d.params.defaults=[])
  (hY:∀(w:World) (h:Heap),YP w h->(K w.params).In h) (hY2:∀(w:World) (h:Heap),YP w h->∀P∈ts,h.get? P=some (PySem.W.tabObj #[]))
  (F:∀(w:World) (mg:Str->Option Value) (fa:Addr) (h:Heap),(K w.params).In h->h.Ns mainGlobals mg->mg d.name=some (.ref fa) ->
   ∃fd:FuncData,(∀(s:Shared) (u:Value),BindsTo s fd ⟨[u],[]⟩ [("script",u)])/\(∀p∈ZfC (K w.params) mg,p.1∈ts/\(K w.params).lookup p.1=none/\∃c,PySem.W.codeHdIn (K w.params) c p.1=true)/\((ZfC (K w.params) mg).map (·.1)).Nodup/\∀base:Heap,(K w.params).In base->base.Ns mainGlobals mg->BM mg base->FnOk l.prog w (K w.params) mg base (CXE l.prog w) 9 fa fd ["script"] (Zqz (K w.params) mg)) :
  PySem.W.WalkO q loose XP YP l.row.toRowW d [] (λf vs=>PySem.call f vs) :=
 L2.ZtE (n:=63) (k:=9) (x:="script") (ts:=ts) (tabs:=ZfC) (CX:=λw=>CXE l.prog w) (sp:=λw mg=>Zqz (K w.params) mg) hn (by decide) hdf ⟨rfl,by decide,by decide⟩ hY hY2 F (λ_ _ _ a ns hl hS hT=>⟨a,ns,rfl,hS,hl,hT,λ_=>rfl⟩) λ_ _ _ _ _ ⟨_,_,_,_,_,_,_,z⟩=>z
end K87
def PySem.W.Fast.tw11557256415542827609:Unit:=()
def PySem.W.Fast.tw16348511670309287083:Unit:=()
def PySem.W.Fast.tw10465506505172995633:Unit:=()
def PySem.W.Fast.tw16251676297463506159:Unit:=()
def PySem.W.Fast.tw6287824008634976043:Unit:=()
def PySem.W.Fast.tw8678705002978152863:Unit:=()
def PySem.W.Fast.tw1234091270740620206:Unit:=()
def PySem.W.Fast.tw16014156830816486310:Unit:=()
def PySem.W.Fast.tw2120149881011960020:Unit:=()
def PySem.W.Fast.tw2159474766113953601:Unit:=()
def PySem.W.Fast.tw9282462731519810344:Unit:=()
def PySem.W.Fast.tw17976771115085755950:Unit:=()
def PySem.W.Fast.tw17711205354260350435:Unit:=()
def PySem.W.Fast.tw17155537559069198096:Unit:=()
def PySem.W.Fast.tw12894252995510583453:Unit:=()
def PySem.W.Fast.tw538516587753029883:Unit:=()
def PySem.W.Fast.tw14560672631042929495:Unit:=()
def PySem.W.Fast.tw2344178704481163558:Unit:=()
def PySem.W.Fast.tw10063540200396832261:Unit:=()
def PySem.W.Fast.tw15496935117603173023:Unit:=()
def PySem.W.Fast.tw11216888979062509490:Unit:=()
def PySem.W.Fast.tw16471861569998256474:Unit:=()
def PySem.W.Fast.tw9019260497020257477:Unit:=()
def PySem.W.Fast.tw6308167337633695775:Unit:=()
def PySem.W.Fast.tw2711482079317768415:Unit:=()
def PySem.W.Fast.tw389232473360493056:Unit:=()
def PySem.W.Fast.tw8527335269164938723:Unit:=()
def PySem.W.Fast.tw1958993997027043721:Unit:=()
def PySem.W.Fast.tw18387489101529180866:Unit:=()
def PySem.W.Fast.tw14096423668542700840:Unit:=()
def PySem.W.Fast.tw6039854384245081495:Unit:=()
def PySem.W.Fast.tw13197407178268452240:Unit:=()
def PySem.W.Fast.tw8648838181520156198:Unit:=()
def PySem.W.Fast.tw16339655481188429995:Unit:=()
def PySem.W.Fast.tw16004808844967824666:Unit:=()
def PySem.W.Fast.tw14539002921770731325:Unit:=()
def PySem.W.Fast.tw13992333201409168615:Unit:=()
def PySem.W.Fast.tw3692470761992219872:Unit:=()
def PySem.W.Fast.tw5260513213308856041:Unit:=()
def PySem.W.Fast.tw5641724573075952314:Unit:=()
def PySem.W.Fast.tw4739410020038455551:Unit:=()
def PySem.W.Fast.tw9668627102049118747:Unit:=()
def PySem.W.Fast.tw12379384977930584207:Unit:=()
def PySem.W.Fast.tw15161297055323583842:Unit:=()
def PySem.W.Fast.tw12004943123612092537:Unit:=()
def PySem.W.Fast.tw863728495178991482:Unit:=()
def PySem.W.Fast.tw11131757889058810483:Unit:=()
def PySem.W.Fast.tw3473812108207446437:Unit:=()
def PySem.W.Fast.tw7382963718419693369:Unit:=()
def PySem.W.Fast.tw16707079794175883984:Unit:=()
def PySem.W.Fast.tw12375194679944779828:Unit:=()
def PySem.W.Fast.tw3142168776882312915:Unit:=()
def PySem.W.Fast.tw12666645489756533665:Unit:=()
def PySem.W.Fast.tw11559763857951982429:Unit:=()
def PySem.W.Fast.tw4061404732850503476:Unit:=()
def PySem.W.Fast.tw1583404243910948837:Unit:=()
def PySem.W.Fast.tw9246493832876051484:Unit:=()
def PySem.W.Fast.tw12364749115826662083:Unit:=()
def PySem.W.Fast.tw4266030122851072737:Unit:=()
def PySem.W.Fast.tw7096953441295167332:Unit:=()
def PySem.W.Fast.tw17595760351909762376:Unit:=()
def PySem.W.Fast.tw3687999427496348613:Unit:=()
def PySem.W.Fast.tw760448807870775736:Unit:=()
def PySem.W.Fast.tw10098650935552461253:Unit:=()
def PySem.W.Fast.tw17403180188677927578:Unit:=()
def PySem.W.Fast.tw7424262173994608844:Unit:=()
def PySem.W.Fast.tw14070167546340743389:Unit:=()
def PySem.W.Fast.tw2015563740447564258:Unit:=()
def PySem.W.Fast.tw14936191819333861569:Unit:=()
def PySem.W.Fast.tw5035231846722415288:Unit:=()
def PySem.W.Fast.tw5384696888379080825:Unit:=()
def PySem.W.Fast.tw3592880728071673391:Unit:=()
def PySem.W.Fast.tw378778819462500569:Unit:=()
def PySem.W.Fast.tw4941407274633296416:Unit:=()
def PySem.W.Fast.tw374337389886363834:Unit:=()
def PySem.W.Fast.tw18081051480328191556:Unit:=()
def PySem.W.Fast.tw13834788359340644180:Unit:=()
def PySem.W.Fast.tw7008114929199366849:Unit:=()
def PySem.W.Fast.tw18440947343616909440:Unit:=()
def PySem.W.Fast.tw8837301962074359763:Unit:=()
def PySem.W.Fast.tw5271288247868784858:Unit:=()
def PySem.W.Fast.tw11401450633014216727:Unit:=()
def PySem.W.Fast.tw7220661201843415135:Unit:=()
def PySem.W.Fast.tw11811922358155311187:Unit:=()
def PySem.W.Fast.tw6141566721103301492:Unit:=()
def PySem.W.Fast.tw12742836500132965499:Unit:=()
def PySem.W.Fast.tw3587865036605830819:Unit:=()
def PySem.W.Fast.tw16960580158412861634:Unit:=()
def PySem.W.Fast.tw10750512205505717519:Unit:=()
def PySem.W.Fast.tw3218456850084631711:Unit:=()
def PySem.W.Fast.tw12908035061466808020:Unit:=()
def PySem.W.Fast.tw10139578142141219352:Unit:=()
def PySem.W.Fast.tw14069136147318440978:Unit:=()
def PySem.W.Fast.tw10959906418072603226:Unit:=()
def PySem.W.Fast.tw2112235919434911537:Unit:=()
def PySem.W.Fast.tw7938579886043400993:Unit:=()
def PySem.W.Fast.tw15306349482066864536:Unit:=()
def PySem.W.Fast.tw9368562295627332468:Unit:=()
def PySem.W.Fast.tw15467391647795663312:Unit:=()
def PySem.W.Fast.tw10852548004965097756:Unit:=()
def PySem.W.Fast.tw7417130096974717599:Unit:=()
def PySem.W.Fast.tw10491318253318680283:Unit:=()
def PySem.W.Fast.tw17169193212504220324:Unit:=()
def PySem.W.Fast.tw13949991289146060886:Unit:=()
def PySem.W.Fast.tw1820849588669677847:Unit:=()
def PySem.W.Fast.tw11945931570943877135:Unit:=()
open PySem PySem.W PyProof.Rows
set_option maxRecDepth 100000 in
set_option maxHeartbeats 0 in
theorem PySem.Challenge.cw_dipkin_k87_whole_mended_rows_are_told_so_holds : PySem.Challenge.rw_dipkin_k87_whole_mended_rows_are_told_so.Holds := by
 w_on;o_law;k_head;(case hw=>w_witness2)
 k_fill
 refine K87.walk (l:=PySem.Challenge.rw_dipkin_k87_whole_mended_rows_are_told_so) rfl rfl (λw h Y=>PySem.W.km_in_of Y) (λw h Y=>PySem.W.km_tabs_of Y) ?F
 case F =>
  intro w mg fa h KX G hmg
  refine' K87.all_mk KX G hmg ?Zkp ?Zkq ?Zkr ?ZhD ?Ziy ?Ziz ?ZiA ?Zgi ?Zks ?Zkt ?Zku ?ZhE ?ZiB ?ZiC ?ZiD ?Zgj ?ZfN ?ZfO ?ZfP ?ZdB ?ZcM ?ZcN ?ZeK ?ZcO ?ZdZ ?Zd0 ?Zd1 ?Zcn ?Zd2 ?Zd3 ?Zd4 ?Zd5 ?Zd6 ?Zco ?ZgM ?ZgN ?ZgO ?ZeL ?ZeM ?ZeN ?ZeO ?ZcP ?Zkx ?Zky ?Zkz ?ZhG ?ZkA ?ZkB ?ZkC ?ZhH ?ZiE ?ZiF ?ZiG ?Zgk ?Zdk ?Zdl ?Zdm ?ZbQ ?Zgl ?Zgm ?ZiI ?Zgn ?ZgP ?ZgQ ?ZgR ?ZeR ?ZgS ?ZgT ?ZeS ?ZeT ?ZeU ?ZcQ ?ZcC ?ZcD ?ZcE ?Zbk ?ZkE ?ZkF ?ZkG ?ZhJ ?ZeV ?ZeW ?ZeX ?ZcR ?ZgU ?ZgV ?ZgW ?ZeY ?Zdn ?Zdo ?Zdp ?ZbR ?ZkI ?ZkJ ?ZkK ?ZhL ?ZfS ?ZfT ?ZfU ?ZdC ?ZiK ?ZiL ?ZiM ?Zgo ?ZkL ?ZkM ?ZkN ?ZhM ?ZeZ ?Ze0 ?Ze1 ?ZcS ?Zug ?Zuh ?Zui ?ZqF ?ZgX ?ZgY ?ZgZ ?Ze2 ?Zd7 ?Zd8 ?Zd9 ?Zcp ?ZdD ?ZdE ?ZfW ?ZdF ?Ze3 ?Ze4 ?Ze5 ?ZcV ?Ze6 ?Ze7 ?Zm3 ?Zm4 ?Zm5 ?Zjr ?ZfX ?ZfY ?ZfZ ?ZdG ?Zm7 ?Zm8 ?Zm9 ?Zjs ?Zg0 ?Zg1 ?Zg2 ?Ze8 ?Ze9 ?Zfa ?Zfb ?ZcW ?Zg3 ?Zg4 ?Zg5 ?Zfc ?Zf0 ?Zf1 ?Zf2 ?ZdH ?Zg6 ?Zg7 ?Zg8 ?Zfd ?ZcF ?ZcG ?ZcH ?Zbl ?ZbS ?ZbT ?ZbU ?ZaP ?ZbV ?ZbW ?ZbX ?ZaQ ?Zut ?Zuu ?Zuw ?Zux ?n_DipError ?x_DipError ?d_DipError ?y_DipError ?n_Unlike ?x_Unlike ?d_Unlike ?y_Unlike ?n_NoTree ?x_NoTree ?d_NoTree ?y_NoTree ?b_abs ?b_all ?b_any ?b_enumerate ?b_int ?b_isinstance ?b_len ?b_list ?b_max ?b_min ?b_range ?b_reversed ?b_sorted ?b_tuple ?b_zip ?m_MOST_PLACES ?nd
  (case Zkp|Zkq|Zkr|ZhD|Ziy|Ziz|ZiA|Zgi|Zks|Zkt|Zku|ZhE|ZiB|ZiC|ZiD|Zgj|ZfN|ZfO|ZfP|ZdB|ZcM|ZcN|ZeK|ZcO=>k_is)
  (case ZdZ=>exact rfl)
  (case Zd0=>k_is)
  (case Zd1=>exact rfl)
  (case Zcn=>kernel_rfl)
  (case Zd2=>kernel_rfl)
  (case Zd3=>decide)
  (case Zd4|Zd5|Zd6|Zco|ZgM|ZgN|ZgO|ZeL|ZeM|ZeN|ZeO|ZcP|Zkx|Zky|Zkz|ZhG|ZkA|ZkB|ZkC|ZhH|ZiE|ZiF|ZiG|Zgk|Zdk|Zdl|Zdm|ZbQ|Zgl|Zgm|ZiI|Zgn=>k_is)
  (case ZgP=>exact rfl)
  (case ZgQ=>k_is)
  (case ZgR=>exact rfl)
  (case ZeR=>kernel_rfl)
  (case ZgS=>kernel_rfl)
  (case ZgT=>decide)
  (case ZeS|ZeT|ZeU|ZcQ|ZcC|ZcD|ZcE|Zbk|ZkE|ZkF|ZkG|ZhJ|ZeV|ZeW|ZeX|ZcR|ZgU|ZgV|ZgW|ZeY|Zdn|Zdo|Zdp|ZbR|ZkI|ZkJ|ZkK|ZhL|ZfS|ZfT|ZfU|ZdC|ZiK|ZiL|ZiM|Zgo|ZkL|ZkM|ZkN|ZhM|ZeZ|Ze0|Ze1|ZcS|Zug|Zuh|Zui|ZqF|ZgX|ZgY|ZgZ|Ze2|Zd7|Zd8|Zd9|Zcp|ZdD|ZdE|ZfW|ZdF=>k_is)
  (case Ze3=>exact rfl)
  (case Ze4=>k_is)
  (case Ze5=>exact rfl)
  (case ZcV=>kernel_rfl)
  (case Ze6=>kernel_rfl)
  (case Ze7=>decide)
  (case Zm3|Zm4|Zm5|Zjr|ZfX|ZfY|ZfZ|ZdG|Zm7|Zm8|Zm9|Zjs|Zg0|Zg1|Zg2|Ze8|Ze9|Zfa|Zfb|ZcW|Zg3|Zg4|Zg5|Zfc|Zf0|Zf1|Zf2|ZdH|Zg6|Zg7|Zg8|Zfd|ZcF|ZcG|ZcH|Zbl|ZbS|ZbT|ZbU|ZaP|ZbV|ZbW|ZbX|ZaQ|Zut|Zuu|Zuw|Zux|n_DipError=>k_is)
  (case x_DipError=>k_exc)
  (case d_DipError|y_DipError|n_Unlike=>k_is)
  (case x_Unlike=>k_exc)
  (case d_Unlike|y_Unlike|n_NoTree=>k_is)
  (case x_NoTree=>k_exc)
  (case d_NoTree|y_NoTree|b_abs|b_all|b_any|b_enumerate|b_int|b_isinstance|b_len|b_list|b_max|b_min|b_range|b_reversed|b_sorted|b_tuple|b_zip|m_MOST_PLACES=>k_is)
  (case nd=>decide)
