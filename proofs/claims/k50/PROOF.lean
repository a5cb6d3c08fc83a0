import PyProof.Rows.All
import Wide.All
import OpenK.AllK
import Wide.FinOn
import Lean
import PyProof.EqAt
import PyProof.EqKinds
import PyProof.TupleCall
import PyProof.MeetsSeq
import PyProof.NeKinds
import PyProof.TupleOfSeq
import PyProof.ListRange
import PyProof.TupleOfGen
import PyProof.ZipIter
import KE.KRevIter
import PyProof.StrWalks
import PyProof.StrBlock2
import PyProof.MeetsStr
import PyProof.StrCalls2
import PyProof.StrLawsIn
import KE.KIntText
import PyProof.StrLawsTight
import PyProof.StrLawsChain
import PyProof.StrLawsAffix
import PyProof.Rows.StrItems
import PyProof.Rows.ReprOcc
import KE.KDictSum
import PyProof.Rows.SeqMore
import KE.KDictList
import PySem.Challenge.RW_dipkin_k50_the_table_told
set_option Elab.async false
set_option linter.all false
set_option maxRecDepth 100000
set_option maxHeartbeats 4000000
set_option genSizeOfSpec false
local macro_rules | `(tactic| omega) => `(tactic| first | lia | omega (config := {}))
section
open PySem PySem.Spec PyProof.Rows
noncomputable abbrev Ya:=@wpAny_bind
noncomputable abbrev Yb:=@List.getElem?_eq_getElem
noncomputable abbrev Yc:=@Nat.le_refl
noncomputable abbrev Yd:=@if_neg
noncomputable abbrev Ye:=@if_pos
noncomputable abbrev Yf:=@List.length_map
noncomputable abbrev Yg:=@wpAny_pure
noncomputable abbrev Yh:=@List.getElem?_eq_some_iff
noncomputable abbrev Yi:=@List.getD_eq_getElem?_getD
noncomputable abbrev Yj:=@List.mem_append_right
noncomputable abbrev Yk:=@List.mem_cons
noncomputable abbrev Yl:=@Heap.lt_size
noncomputable abbrev Ym:=@Nat.le_trans
noncomputable abbrev Yn:=@List.size_toArray
noncomputable abbrev Yo:=@Heap.get?_push_of_some
noncomputable abbrev Yp:=@Nat.ne_of_lt
noncomputable abbrev Yq:=@List.mem_range
noncomputable abbrev Yr:=@List.mem_cons_self
noncomputable abbrev Ys:=@List.mem_cons_of_mem
noncomputable abbrev Yt:=@Nat.lt_of_le_of_lt
noncomputable abbrev Yu:=@Nat.lt_irrefl
noncomputable abbrev Yv:=@Nat.zero_le
noncomputable abbrev Yw:=@Nat.lt_of_lt_of_le
noncomputable abbrev Yy:=@List.mem_append
noncomputable abbrev Yz:=@decide_eq_true
noncomputable abbrev YA:=@PySem.boot_len
noncomputable abbrev YB:=@List.getElem?_map
noncomputable abbrev YC:=@decide_eq_false
noncomputable abbrev YD:=@Option.some.inj
noncomputable abbrev YE:=@Heap.get?_push_size
noncomputable abbrev YF:=@List.mem_map
noncomputable abbrev YG:=@List.mem_filter
noncomputable abbrev YH:=@List.length_append
noncomputable abbrev YI:=@List.getElem_mem
noncomputable abbrev YJ:=@Bool.false_ne_true
noncomputable abbrev YK:=@List.getElem?_append_right
noncomputable abbrev YL:=@List.getElem?_append_left
noncomputable abbrev YM:=@List.mem_append_left
noncomputable abbrev YN:=@wpAny_mono
noncomputable abbrev YO:=@Array.length_toList
noncomputable abbrev YQ:=@List.length_cons
noncomputable abbrev YR:=@Nat.lt_succ_of_lt
noncomputable abbrev YS:=@List.length_range
noncomputable abbrev YT:=@List.map_cons
noncomputable abbrev YU:=@List.map_map
noncomputable abbrev YV:=@of_decide_eq_true
noncomputable abbrev YW:=@Nat.le_of_lt
noncomputable abbrev YX:=@Int.toNat_natCast
noncomputable abbrev YY:=@List.range_succ
noncomputable abbrev YZ:=@Int.eq_ofNat_of_zero_le
noncomputable abbrev Y2:=@Nat.le_succ
noncomputable abbrev Y3:=@List.length_filter_le
noncomputable abbrev Y4:=@List.map_append
noncomputable abbrev Y5:=@List.getElem_of_mem
noncomputable abbrev Y6:=@List.append_assoc
noncomputable abbrev Y7:=@List.length_take
noncomputable abbrev Y8:=@List.mem_singleton
noncomputable abbrev Y9:=@Nat.le_of_eq
noncomputable abbrev Ja:=@List.pairwise_cons
noncomputable abbrev Jb:=@List.length_drop
noncomputable abbrev Jc:=@List.take_add_one
noncomputable abbrev Jd:=@List.getElem_append_left
noncomputable abbrev Je:=@List.take_append_drop
noncomputable abbrev Jf:=@List.getElem_append_right
end
namespace L2
open PySem PySem.Spec PyProof.Rows
noncomputable abbrev Key:=Sum Int Str
noncomputable def keyIs:Key->Value->Bool
 |.inl k,v=>Value.isInt k v
 |.inr x,v=>Value.isStrOf x v
noncomputable def keyH (w:World):Key->Int
 |.inl k=>hashInt k
 |.inr x=>hashStr w x
theorem Z0:∀{k:Key}{v:Value},keyIs k v=true->(∃i t,k=Sum.inl i/\v=Value.int i t)\/(∃x t,k=Sum.inr x/\v=Value.str x t)
 |.inl i,v,h=>by
  obtain⟨t,e⟩:=Value.isInt_shape (k:=i) (v:=v) h
  exact .inl ⟨i,t,rfl,e⟩
 |.inr x,v,h=>by
  obtain⟨t,e⟩:=Value.isStrOf_shape (x:=x) (v:=v) h
  exact .inr ⟨x,t,rfl,e⟩
theorem key_ll (a b:Int):decide ((Sum.inl a:Key)=Sum.inl b)=(a==b):=by
 by_cases e:a=b
 ·subst e;simp
 ·have h:¬ (Sum.inl a:Key)=Sum.inl b:=λq=>e (Sum.inl.inj q)
  rw[YC h]
  exact(beq_eq_false_iff_ne.mpr e).symm
theorem key_rr (a b:Str):decide ((Sum.inr a:Key)=Sum.inr b)=decide (a=b):=by
 by_cases e:a=b
 ·subst e;simp
 ·have h:¬ (Sum.inr a:Key)=Sum.inr b:=λq=>e (Sum.inr.inj q)
  rw[YC h,YC e]
theorem key_lr (a:Int) (b:Str):decide ((Sum.inl a:Key)=Sum.inr b)=false:=YC (λq=>nomatch q)
theorem key_rl (a:Str) (b:Int):decide ((Sum.inr a:Key)=Sum.inl b)=false:=YC (λq=>nomatch q)
noncomputable def ZjD (prog:Program) (w:World):PySem.KeyKind prog w Key where
 is:=keyIs
 hash:=keyH w
 inj:=λv a b ha hb=>by
  rcases Z0 ha with⟨i,t,rfl,rfl⟩|⟨x,t,rfl,rfl⟩
  ·rcases Z0 hb with⟨j,u,rfl,e⟩|⟨y,u,rfl,e⟩
   ·injection e with e1 _;rw[e1]
   ·exact nomatch e
  ·rcases Z0 hb with⟨j,u,rfl,e⟩|⟨y,u,rfl,e⟩
   ·exact nomatch e
   ·injection e with e1 _;rw[e1]
 byValue:=λk v h=>by
  rcases Z0 h with⟨i,t,rfl,rfl⟩|⟨x,t,rfl,rfl⟩<;>rfl
 pyHash:=λhv h=>by
  rcases Z0 hv with⟨i,t,rfl,rfl⟩|⟨x,t,rfl,rfl⟩
  ·exact wpAny_pyHash_int h
  ·exact wpAny_pyHash_str h
 eqBool:=λhu hv h=>by
  rcases Z0 hu with⟨i,t,rfl,rfl⟩|⟨x,t,rfl,rfl⟩
  ·rcases Z0 hv with⟨j,u,rfl,rfl⟩|⟨y,u,rfl,rfl⟩
   ·rw[key_ll]at h;exact wpAny_eqBool_int h
   ·rw[key_lr]at h;exact SeqAt.EqAt.int_str i t y u _ _ _ _ h
  ·rcases Z0 hv with⟨j,u,rfl,rfl⟩|⟨y,u,rfl,rfl⟩
   ·rw[key_rl]at h;exact SeqAt.EqAt.str_int x t j u _ _ _ _ h
   ·rw[key_rr]at h;exact wpAny_eqBool_str h
 «strs»:=λk x t v h=>by
  rcases Z0 h with⟨i,u,rfl,e⟩|⟨y,u,rfl,e⟩
  ·exact nomatch e
  ·injection e with e1 _
   subst e1
   cases v<;>rfl
inductive V where
 |non|bl (b:Bool)|int (i:Int)|str (x:Str)|byt (b:Array UInt8)|flt (b:UInt64)|ref (a:Addr)|ty (n:String)
 deriving DecidableEq
noncomputable def RelV:V->Value->Prop
 |.non,u=>u=Value.none
 |.bl b,u=>u=Value.bool b
 |.int i,u=>∃t,u=Value.int i t
 |.str x,u=>∃t,u=Value.str x t
 |.byt b,u=>∃t,u=Value.bytes b t
 |.flt b,u=>∃t,u=Value.float b t
 |.ref a,u=>u=Value.ref a
 |.ty n,u=>u=Value.type n
noncomputable abbrev Vals:List V->List Value->Prop:=Paired RelV
theorem Vals.length {xs:List V}{us:List Value} (r:Vals xs us):xs.length=us.length:=Paired.length r
theorem Vals.get:∀{xs:List V}{us:List Value}{i:Nat}{x:V},Vals xs us->xs[i]?=some x->∃u,us[i]?=some u/\RelV x u
 |_,_,_,_,.nil,e=>by simp at e
 |_,_,0,_,.cons r _,e=>by simp at e;subst e;exact⟨_,rfl,r⟩
 |_,_,i+1,x,.cons _ t,e=>by
  obtain⟨u,h1,h2⟩:=Vals.get (i:=i) (x:=x) t (by simpa using e)
  exact⟨u,by simpa using h1,h2⟩
theorem Vals.set {x:V}{u:Value} (r:RelV x u):∀{xs:List V}{us:List Value} (i:Nat),Vals xs us->Vals (xs.set i x) (us.set i u)
 |_,_,_,.nil=>.nil
 |_,_,0,.cons _ t=>.cons r t
 |_,_,i+1,.cons q t=>.cons q (Vals.set r i t)
theorem Vals.append:∀{xs ys:List V}{us ws:List Value},Vals xs us->Vals ys ws->Vals (xs++ys) (us++ws)
 |_,_,_,_,.nil,s=>s
 |_,_,_,_,.cons r t,s=>.cons r (Vals.append t s)
theorem Vals.take:∀{xs:List V}{us:List Value} (n:Nat),Vals xs us->Vals (xs.take n) (us.take n)
 |_,_,0,_=>.nil
 |_,_,_+1,.nil=>.nil
 |_,_,n+1,.cons r t=>.cons r (Vals.take n t)
theorem Vals.drop:∀{xs:List V}{us:List Value} (n:Nat),Vals xs us->Vals (xs.drop n) (us.drop n)
 |_,_,0,r=>r
 |_,_,_+1,.nil=>.nil
 |_,_,n+1,.cons _ t=>Vals.drop n t
noncomputable def RelO:Option V->Option Value->Prop
 |some v,some u=>RelV v u
 |none,none=>True
 |_,_=>False
noncomputable def KV {κ:Type}:List (κ×V)->List (κ×Value)->Prop:=Paired λ(p:κ×V) (q:κ×Value)=>p.1=q.1/\RelV p.2 q.2
noncomputable def kV:Key->V
 |.inl i=>.int i
 |.inr x=>.str x
inductive HO where
 |lst (xs:List V)
 |tup (xs:List V)
 |dK (kvs:List (Key×V))|dT (kvs:List (List Key×V))
 |set (S:Int->Bool) (n:Nat)
 |ins (C dx:Addr) (fs:List (Str×V))
 |own (x:Addr)
 |xd (fs:List (Str×V))
 |met (f x:Addr)
 |rng (lo hi:Int)
 |frz (o:Obj) (u:HO)
 |tbl (ps:Array Value)
 |ext (φ:Heap->Prop)
noncomputable abbrev Hp:=Addr->Option HO
noncomputable def upd (H:Hp) (a:Addr) (o:HO):Hp:=λb=>if b=a then some o else H b
theorem Zc {H:Hp}{a:Addr}{o:HO}:upd H a o a=some o:=by unfold upd;rw[Ye rfl]
theorem Zh {H:Hp}{a b:Addr}{o:HO} (h:b≠a):upd H a o b=H b:=by unfold upd;rw[Yd h]
theorem Zu {H:Hp}{a b:Addr}{o:HO} (h:H a=some o) (h':H b=none):a≠b:=by
 intro e;subst e;rw[h]at h';cases h'
section
variable (P:Program) (w:World)
noncomputable def Zau (H:Hp) (h:Heap) (a:Addr):HO->Prop
 |.lst xs=>xs.length<=sizeLine/\∃(its:List Value) (n:Nat),Vals xs its/\h.get? a=some {cls:=.type "list",data:=.seq its.toArray n}
 |.tup xs=>xs.length<=sizeLine/\∃its:List Value,Vals xs its/\IsTup h a its.toArray
 |.dK kvs=>kvs.length<=sizeLine/\(a==sysModules)=false/\∃vs,KV kvs vs/\h.DictOf (ZjD P w) a vs
 |.dT kvs=>kvs.length<=sizeLine/\(a==sysModules)=false/\∃xs:List (List Key×Addr×Value),
   Paired (λ(p:List Key×V) (q:List Key×Addr×Value)=>p.1=q.1/\H q.2.1=some (.tup (p.1.map kV))/\RelV p.2 q.2.2) kvs xs /\
   ∃o es ep,h.get? a=some o/\o.ExactDict/\o.data=.dict es ep/\es.toList=xs.map (entryOfKey (tupleKind (ZjD P w)))/\(xs.map (·.1)).Nodup
 |.set S n=>h.SetOf (intKind P w) a S n
 |.ins C dx fs=>H dx=some (.own a)/\fs.length<=1000/\dx≠a/\h.get? a=some (PySem.W.instObj C dx) /\
   ∃mA,h.Ns1 dx mA/\(∀f,RelO (fs.lookup f) (mA f))/\PySem.Within mA (fs.map (·.1))
 |.own _=>∃o,h.get? a=some o
 |.xd fs=>∃mA,h.Ns1 a mA/\∀f,RelO (fs.lookup f) (mA f)
 |.rng lo hi=>∃t u v,h.get? a=some {cls:=.type "range",data:=.fields #[.int lo t,.int hi u,.int 1 v]}
 |.frz o u=>h.get? a=some o/\Zau H h a u
 |.tbl ps=>∃ts:Array Value,h.get? a=some {cls:=.none,data:=.fields ts}/\TriplesOk ts.toList/\∀pos cv,codeAmong pos ts.toList=some cv->∃c oc vs q t t',cv=.ref c/\H c=some (.frz oc (.own a))/\oc.data=.fields vs/\ps[0]?=some (.str q t)/\vs[1]?=some (.str q t')
 |.met f x=>h.get? a=some (PySem.W.methodObj (.ref f) (.ref x))
 |.ext φ=>φ h/\(∃o,h.get? a=some o)/\∀h1 h2:Heap,φ h1->(∀o,h1.get? a=some o->h2.get? a=some o)->φ h2
noncomputable def HOk (H:Hp) (h:Heap):Prop:=∀a o,H a=some o->Zau P w H h a o
end
section
variable {P:Program}{w:World}{H H':Hp}{h h':Heap}{a:Addr}{o:HO}
theorem Zau.lt (x:Zau P w H h a o):a<h.objs.size:=by
 cases o with
 |lst xs=>obtain⟨_,_,_,_,e⟩:=x;exact Yl e
 |tup xs=>obtain⟨_,_,_,p⟩:=x;exact p.lt
 |dK kvs=>obtain⟨_,_,_,_,o,_,_,e,_⟩:=x;exact Yl e
 |dT kvs=>obtain⟨_,_,_,_,o,_,_,e,_⟩:=x;exact Yl e
 |set S n=>obtain⟨o,_,_,_,e,_⟩:=x;exact Yl e
 |ins C dx fs=>obtain⟨_,_,_,e,_⟩:=x;exact Yl e
 |own y=>obtain⟨_,e⟩:=x;exact Yl e
 |xd fs=>obtain⟨_,⟨_,_,_,e,_⟩,_⟩:=x;exact Yl e
 |rng lo hi=>obtain⟨_,_,_,e⟩:=x;exact Yl e
 |frz ob u=>obtain⟨e,_⟩:=x;exact Yl e
 |tbl ps=>obtain⟨_,e,_⟩:=x;exact Yl e
 |met f y=>exact Yl (show h.get? a=some _ from x)
 |ext φ=>obtain⟨_,⟨_,e⟩,_⟩:=x;exact Yl e
theorem Paired.mapP {α β:Type}{F G:α->β->Prop}:∀{l₁:List α}{l₂:List β},Paired F l₁ l₂->(∀a b,F a b->G a b)->Paired G l₁ l₂
 |_,_,.nil,_=>.nil
 |_,_,.cons r t,f=>.cons (f _ _ r) (Paired.mapP t f)
theorem Zau.ZhH (x:Zau P w H h a o) (k:∀b u,(b=a\/H b=some (.own a))->h.get? b=some u->h'.get? b=some u)
  (ho:∀b,H b=some (.own a)->H' b=some (.own a)) (ht:∀b xs,H b=some (.tup xs)->H' b=some (.tup xs)) (hz:∀b o u,H b=some (.frz o u)->H' b=some (.frz o u)):Zau P w H' h' a o:=by
 induction o with
 |lst xs=>obtain⟨z,its,n,r,e⟩:=x;exact⟨z,its,n,r,k _ _ (.inl rfl) e⟩
 |tup xs=>obtain⟨z,its,r,ob,e,c⟩:=x;exact⟨z,its,r,ob,k _ _ (.inl rfl) e,c⟩
 |dK kvs=>obtain⟨z,y,vs,r,ob,es,ep,e,c⟩:=x;exact⟨z,y,vs,r,ob,es,ep,k _ _ (.inl rfl) e,c⟩
 |dT kvs =>
  obtain⟨z,y,xs,r,ob,es,ep,e,c⟩:=x
  exact⟨z,y,xs,Paired.mapP r λp q z=>⟨z.1,ht _ _ z.2.1,z.2.2⟩,ob,es,ep,k _ _ (.inl rfl) e,c⟩
 |set S n=>obtain⟨ob,es,ep,t,e,c⟩:=x;exact⟨ob,es,ep,t,k _ _ (.inl rfl) e,c⟩
 |ins C dx fs =>
  obtain⟨d,z,ne,e,mA,⟨od,es,ep,e2,c⟩,r⟩:=x
  exact⟨ho _ d,z,ne,k _ _ (.inl rfl) e,mA,⟨od,es,ep,k _ _ (.inr d) e2,c⟩,r⟩
 |own y=>obtain⟨ob,e⟩:=x;exact⟨ob,k _ _ (.inl rfl) e⟩
 |xd fs=>obtain⟨mA,⟨od,es,ep,e,c⟩,r⟩:=x;exact⟨mA,⟨od,es,ep,k _ _ (.inl rfl) e,c⟩,r⟩
 |rng lo hi=>obtain⟨t,u,v,e⟩:=x;exact⟨t,u,v,k _ _ (.inl rfl) e⟩
 |frz ob u ih=>obtain⟨e,q⟩:=x;exact⟨k _ _ (.inl rfl) e,ih q⟩
 |tbl ps =>
  obtain⟨ts,e,t3,z⟩:=x
  refine⟨ts,k a _ (.inl rfl) e,t3,λpos cv hc=>?_⟩
  obtain⟨c,oc,vs,q,t,t',e1,e2,r⟩:=z pos cv hc
  exact⟨c,oc,vs,q,t,t',e1,hz _ _ _ e2,r⟩
 |met f y =>
  have e:h.get? a=some (PySem.W.methodObj (.ref f) (.ref y)):=x
  show h'.get? a=some (PySem.W.methodObj (.ref f) (.ref y))
  exact k a _ (.inl rfl) e
 |ext φ=>obtain⟨p,⟨o,e⟩,st⟩:=x;exact⟨st _ _ p λo q=>k _ _ (.inl rfl) q,⟨o,k _ _ (.inl rfl) e⟩,st⟩
theorem HOk.lt (x:HOk P w H h) (e:H a=some o):a<h.objs.size:=(x a o e).lt
theorem HOk.fresh (x:HOk P w H h) (e:h.objs.size<=a):H a=none:=by
 cases q:H a with
 |none=>rfl
 |some u=>exact absurd (Yw (x.lt q) e) (Yu _)
theorem HOk.kept (x:HOk P w H h) (k:∀b u,h.get? b=some u->h'.get? b=some u):HOk P w H h':=λa o e =>
 (x a o e).ZhH (λb u _ q=>k b u q) (λ_ q=>q) (λ_ _ q=>q) λ_ _ _ q=>q
theorem HOk.laid (x:HOk P w H h) (k:∀b u,h.get? b=some u->h'.get? b=some u) (hp:h.objs.size<=a) (new:Zau P w (upd H a o) h' a o):HOk P w (upd H a o) h':=λb u e=>by
 have hn:=x.fresh hp
 by_cases hb:b=a
 ·subst hb;rw[Zc]at e;cases e;exact new
 ·rw[Zh hb]at e
  exact(x b u e).ZhH (λc v _ q=>k c v q) (λc q=>by rw[Zh (Zu q hn)];exact q) (λc xs q=>by rw[Zh (Zu q hn)];exact q) λc o u q=>by rw[Zh (Zu q hn)];exact q
end
noncomputable def Rd (H:Hp) (a:Addr) (u:HO):Prop:=H a=some u\/∃o,H a=some (.frz o u)
theorem Rd.ok {P:Program}{w:World}{H:Hp}{h:Heap}{a:Addr}{u:HO} (r:Rd H a u) (x:HOk P w H h):Zau P w H h a u:=by
 rcases r with r|⟨o,r⟩
 ·exact x a u r
 ·obtain⟨_,q⟩:=x a _ r
  exact q
noncomputable def Mut:Option HO->Prop
 |some (.lst _)=>True
 |some (.dK _)=>True
 |some (.dT _)=>True
 |some (.set _ _)=>True
 |some (.ins _ _ _)=>True
 |some (.ext _)=>True
 |_=>False
section
variable {P:Program}{w:World}{H:Hp}{h h':Heap}{x e:Addr}{o':HO}
theorem HOk.write (ok:HOk P w H h) (mu:Mut (H x)) (he:e=x\/H e=some (.own x)) (k:∀b u,b≠e->h.get? b=some u->h'.get? b=some u) (heo:∃u,h'.get? e=some u)
  (new:Zau P w (upd H x o') h' x o'):HOk P w (upd H x o') h':=λb u q=>by
 have nown:∀c y,H c=some (.own y)->c≠x:=λc y r z=>by subst z;rw[r]at mu;exact mu
 have ntup:∀c xs,H c=some (.tup xs)->c≠x:=λc xs r z=>by subst z;rw[r]at mu;exact mu
 have nfrz:∀c o u,H c=some (.frz o u)->c≠x:=λc o u r z=>by subst z;rw[r]at mu;exact mu
 by_cases hb:b=x
 ·subst hb;rw[Zc]at q;cases q;exact new
 ·rw[Zh hb]at q
  by_cases hbe:b=e
  ·have q':H b=some (.own x):=by
    rcases he with z|z
    ·exact absurd (hbe.trans z) hb
    ·rw[hbe];exact z
   rw[q]at q';cases q'
   obtain⟨v,hv⟩:=heo
   exact⟨v,by rw[hbe];exact hv⟩
  ·refine(ok b u q).ZhH (λc v hc r=>k c v ?_ r) (λc r=>by rw[Zh (nown c b r)];exact r) (λc xs r=>by rw[Zh (ntup c xs r)];exact r) λc o u r=>by rw[Zh (nfrz c o u r)];exact r
   rcases hc with rfl|hc
   ·exact hbe
   ·rintro rfl
    rcases he with z|z
    ·exact nown c b hc z
    ·rw[hc]at z;cases z;exact hb rfl
end
structure Un (fs ex:List Addr) (H H':Hp) (h h':Heap):Prop where
 keep:∀b o,h.get? b=some o->H b=none->b∉fs->b∉ex->h'.get? b=some o
 slot:∀b o,h.get? b=some o->H b=none->b∈fs->b∉ex->∃sl,h'.get? b=some {o with slots:=sl}
 free:∀b o,h.get? b=some o->H b=none->b∉ex->H' b=none
 there:∀b o,h.get? b=some o->b∉ex->∃o',h'.get? b=some o'
 tups:∀b xs,H b=some (.tup xs)->H' b=some (.tup xs)
 frzs:∀b o u,H b=some (.frz o u)->H' b=some (.frz o u)
 tbls:∀b ps,H b=some (.tbl ps)->∃more,H' b=some (.tbl (ps++more))
section
variable {fs fs' ex ex':List Addr}{H H1 H2:Hp}{h h1 h2 h':Heap}{a x e:Addr}{o:HO}
theorem Un.any (u:Un fs ex H H1 h h1) {b:Addr}{ob:Obj} (q:h.get? b=some ob) (n:H b=none) (hx:b∉ex):∃sl,h1.get? b=some {ob with slots:=sl}:=by
 by_cases hb:b∈fs
 ·exact u.slot b ob q n hb hx
 ·exact⟨ob.slots,u.keep b ob q n hb hx⟩
theorem Un.kept (k:∀b u,h.get? b=some u->h'.get? b=some u):Un fs ex H H h h' :=
 ⟨λb ob q _ _ _=>k b ob q,λb ob q _ _ _=>⟨ob.slots,k b ob q⟩,λ_ _ _ n _=>n,λb ob q _=>⟨ob,k b ob q⟩,λ_ _ q=>q,λ_ _ _ q=>q,λ_ ps q=>⟨#[],by rw[q];simp⟩⟩
theorem Un.refl:Un fs ex H H h h:=Un.kept λ_ _ q=>q
theorem Un.laid (k:∀b u,h.get? b=some u->h'.get? b=some u) (hp:h.objs.size<=a) (hn:H a=none):Un fs ex H (upd H a o) h h' where
 keep:=λb u q _ _ _=>k b u q
 slot:=λb u q _ _ _=>⟨u.slots,k b u q⟩
 free:=λb u q n _=>by rw[Zh (Yp (Yw (Yl q) hp))];exact n
 there:=λb u q _=>⟨u,k b u q⟩
 tups:=λb xs q=>by rw[Zh (Zu q hn)];exact q
 frzs:=λb u xs q=>by rw[Zh (Zu q hn)];exact q
 tbls:=λb ps q=>⟨#[],by rw[Zh (Zu q hn),q];simp⟩
theorem Un.write (mu:Mut (H x)) (he:e=x\/H e=some (.own x)) (k:∀b u,b≠e->h.get? b=some u->h'.get? b=some u) (heo:∃u,h'.get? e=some u):Un fs ex H (upd H x o) h h':=by
 have hx:∀b,H b=none->b≠x:=λb n z=>by subst z;rw[n]at mu;exact mu
 have hb:∀b,H b=none->b≠e:=λb n z=>by
  subst z
  rcases he with r|r
  ·exact hx b n r
  ·rw[n]at r;cases r
 have hm:∀b u,H b=some u->¬ Mut (some u)->b≠x:=λb u q nm z=>by subst z;rw[q]at mu;exact nm mu
 refine⟨λb u q n _ _=>k b u (hb b n) q,λb u q n _ _=>⟨u.slots,k b u (hb b n) q⟩,λb u q n _=>by rw[Zh (hx b n)];exact n,λb u q _=>?_,
  λb xs q=>by rw[Zh (hm b _ q λz=>z)];exact q,λb u xs q=>by rw[Zh (hm b _ q λz=>z)];exact q,λb ps q=>⟨#[],by rw[Zh (hm b _ q λz=>z),q];simp⟩⟩
 by_cases hbe:b=e
 ·subst hbe;exact heo
 ·exact⟨u,k b u hbe q⟩
end
noncomputable def trk (h:Heap) (H:Hp):List Addr:=(List.range h.objs.size).filter λa=>(H a).isSome
noncomputable def ZiD (h:Heap) (H:Hp):Heap:=PySem.W.hideAll h (trk h H)
theorem Znt (h:Heap) (H:Hp):(ZiD h H).objs.size=h.objs.size:=PySem.W.hideAll_size _ _
theorem Zos {h:Heap}{H:Hp}{b:Addr}{o:Obj} (e:h.get? b=some o) (n:H b=none):(ZiD h H).get? b=some o :=
 PySem.W.hideAll_get _ e λhm=>by
  have q:(H b).isSome=true:=(YG.mp hm).2
  rw[n]at q;simp at q
theorem ZqR {h:Heap}{H:Hp}{b:Addr}{o:Obj} (e:(ZiD h H).get? b=some o):h.get? b=some o/\H b=none:=by
 have e':h.get? b=some o:=PySem.W.of_hideAll (trk h H) e
 refine⟨e',?_⟩
 cases q:H b with
 |none=>rfl
 |some x =>
  have hm:b∈trk h H:=YG.mpr ⟨Yq.mpr (Yl e'),by simp[q]⟩
  have z:(ZiD h H).get? b=none:=PySem.W.hideAll_none (trk h H) hm
  rw[z]at e;cases e
noncomputable def ZqS (g h:Heap) (L:Addr):List (Addr×Obj):=(List.range h.objs.size).filterMap λa=>if a=L\/(g.get? a).isSome=true then none else (h.get? a).map λo=>(a,o)
noncomputable def rest (g h:Heap) (L d:Addr):List (Addr×Obj):=(ZqS g h L).filter λp=>decide (p.1≠d)
structure Mod (K:PySem.W.Frag) (mg:Str->Option Value) (base:Heap):Prop where
 kin:K.In base
 glob:base.Ns mainGlobals mg
 blt:∃mb,base.Ns builtinsNs mb/\∀x:Str,x≠"__name__"->mb x=bootBuiltins x
 nolimit:base.NoLimit
structure Cx where
 prog:Program
 w:World
 K:PySem.W.Frag
 mg:Str->Option Value
 base:Heap
 A:Around
 N:List Str
 s₀:Shared
 H₀:Hp
 env:Env
 outer:List Env
 stack:List Env
 ex:List Addr
 fn:Str->Bool
 calm:Bool
 pn:List (Addr×Obj)
 xe:Value->Shared->Prop
noncomputable def frs (l:List Env):List Addr:=l.filterMap (·.frame)
noncomputable abbrev Cx.fs (X:Cx):List Addr:=frs X.outer
noncomputable def Vis (sc:Scope) (x:Str):Prop:=sc.names.lookup x=some .local\/sc.names.lookup x=some .cell\/sc.names.lookup x=some .free
noncomputable def Loc (sc:Scope) (x:Str):Prop:=sc.names.lookup x=some .local\/sc.names.lookup x=some .cell
noncomputable def Look (env:Env) (h:Heap) (m:Str->Option Value) (x:Str) (u:Value):Prop :=
 (env.kindOf x=some .local/\m x=some u)\/((env.kindOf x=some .cell\/env.kindOf x=some .free)/\∃c,env.cells.lookup x=some c/\h.IsCell c (some u))
structure Cx.Ok (X:Cx):Prop where
 mod:Mod X.K X.mg X.base
 kind:X.env.scope.kind=.function
 glob:X.env.globals=mainGlobals
 blt:X.env.builtins=builtinsNs
 above:X.s₀.heap.objs.size<=X.env.locals
 inj:∀x y c,X.env.cells.lookup x=some c->X.env.cells.lookup y=some c->x=y
 has:∀x,(X.env.kindOf x=some .cell\/X.env.kindOf x=some .free)->∃c,X.env.cells.lookup x=some c
 cab:∀x c,X.fn x=true->X.env.cells.lookup x=some c->X.s₀.heap.objs.size<=c
 hd:X.calm=true->X.A.handled=none
 frames:X.A.frames=some X.stack
 stk:X.stack=X.outer\/(X.stack=X.env::X.outer/\X.env.frame=some X.env.locals)
 exf:∀b∈X.ex,b≠X.env.locals/\∀x c,X.env.cells.lookup x=some c->c≠b
 bs:∀b o,X.base.get? b=some o->X.s₀.heap.get? b=some o/\X.H₀ b=none
 bsz:X.base.objs.size<=X.s₀.heap.objs.size
 noex:∀b o,X.base.get? b=some o->b∉X.ex
 exfs:∀b∈X.ex,b∉X.fs
 funs:X.s₀.heap.FunFrames X.base X.outer
 frf:∀b∈X.fs,X.H₀ b=none
structure Inv (X:Cx) (pins:List (Addr×Obj)) (σ:List (Option V)) (H:Hp) (s:Shared):Prop where
 ok:X.Ok
 os:s.os=X.s₀.os
 bare:AllBare s.gens
 base:Un X.fs X.ex X.H₀ H X.s₀.heap s.heap
 loc:∃m,s.heap.Ns X.env.locals m/\∀(i:Nat) (x:Str) (v:V),X.N[i]?=some x->σ[i]?=some (some v)->Vis X.env.scope x->∃u,RelV v u/\Look X.env s.heap m x u
 cell:∀x c,X.env.cells.lookup x=some c->∃v,s.heap.IsCell c v
 free:H X.env.locals=none
 freeC:∀x c,X.env.cells.lookup x=some c->H c=none
 pin:∀p∈X.pn++pins,s.heap.get? p.1=some p.2/\H p.1=none/\p.1≠X.env.locals/\p.1∉X.fs/\∀v,p.2.data≠.cell v
 hok:HOk X.prog X.w H s.heap
 len:σ.length=X.N.length
section
variable {X:Cx}{pins:List (Addr×Obj)}{σ:List (Option V)}{H H':Hp}{s:Shared}{h':Heap}
theorem Cx.Ok.nofr (ok:X.Ok) {b:Addr}{o:Obj} (e:X.base.get? b=some o):b∉X.fs:=λhb=>by
 have:=(ok.funs.mem hb).1
 rw[e]at this;cases this
theorem Inv.bs (I:Inv X pins σ H s):∀b o,X.base.get? b=some o->s.heap.get? b=some o/\H b=none:=λb o e =>
 ⟨I.base.keep b o (I.ok.bs b o e).1 (I.ok.bs b o e).2 (I.ok.nofr e) (I.ok.noex b o e),I.base.free b o (I.ok.bs b o e).1 (I.ok.bs b o e).2 (I.ok.noex b o e)⟩
theorem Inv.bk (I:Inv X pins σ H s):∀b o,X.base.get? b=some o->s.heap.get? b=some o:=λb o e=>(I.bs b o e).1
theorem Inv.mod (I:Inv X pins σ H s):Mod X.K X.mg X.base:=I.ok.mod
theorem Inv.kIn (I:Inv X pins σ H s):X.K.In s.heap:=I.ok.mod.kin.keeps I.bk
theorem Inv.nolimit (I:Inv X pins σ H s):s.heap.NoLimit:=I.ok.mod.nolimit.keeps I.bk
theorem Inv.lt (I:Inv X pins σ H s):X.env.locals<s.heap.objs.size:=let ⟨_,hn,_⟩:=I.loc;hn.lt
theorem Inv.sz (I:Inv X pins σ H s):X.s₀.heap.objs.size<=s.heap.objs.size:=Ym I.ok.above (YW I.lt)
theorem Inv.ZkI (I:Inv X pins σ H s) {a:Addr} (h:s.heap.objs.size<=a):a∉X.fs:=λhb=>by
 obtain⟨_,o,ho,_⟩:=I.ok.funs.mem hb
 exact absurd (Yw (Yl ho) (Ym I.sz h)) (Yu _)
theorem Inv.cne (I:Inv X pins σ H s):∀x c,X.env.cells.lookup x=some c->c≠X.env.locals:=λx c e z=>by
 obtain⟨v,o,ho,hd⟩:=I.cell x c e
 obtain⟨m,⟨o',es,ep,ho',hd',_⟩,_⟩:=I.loc
 rw[z,ho']at ho;cases ho;rw[hd']at hd;cases hd
theorem Inv.funs (I:Inv X pins σ H s):s.heap.FunFrames X.base X.outer:=by
 have all:∀(l:List Env),(∀b∈frs l,b∈X.fs)->X.s₀.heap.FunFrames X.base l->s.heap.FunFrames X.base l:=by
  intro l
  induction l with
  |nil=>intro _ _;trivial
  |cons env r ih =>
   intro hs hl
   obtain⟨hk,⟨L,o,hf,hn,ho,hd⟩,hr⟩:=hl
   have hL:L∈X.fs:=hs L (by unfold frs;rw[List.filterMap_cons,hf];exact Yr)
   obtain⟨sl,e⟩:=I.base.slot L o ho (I.ok.frf L hL) hL λz=>I.ok.exfs L z hL
   exact⟨hk,⟨L,_,hf,hn,e,hd⟩,ih (λb hb=>hs b (by unfold frs;rw[List.filterMap_cons,hf];exact Ys _ hb)) hr⟩
 exact all X.outer (λ_ hb=>hb) I.ok.funs
theorem Inv.stack (I:Inv X pins σ H s):s.heap.FunFrames X.base X.stack:=by
 rcases I.ok.stk with e|⟨e,hf⟩
 ·rw[e];exact I.funs
 ·rw[e]
  obtain⟨m,hn,_⟩:=I.loc
  refine .cons (by rw[I.ok.kind];decide) hf hn ?_ I.funs
  exact Heap.get?_none_of_le (Ym I.ok.bsz I.ok.above)
theorem Inv.ZgE (I:Inv X pins σ H s):∀b∈frs X.stack,b∈X.env.locals::X.fs:=λb hb=>by
 rcases I.ok.stk with e|⟨e,hf⟩
 ·rw[e]at hb;exact Ys _ hb
 ·rw[e]at hb
  unfold frs at hb
  rw[List.filterMap_cons,hf]at hb
  exact hb
theorem Inv.Zhw (I:Inv X pins σ H s):∀b∈frs X.stack,H b=none:=λb hb=>by
 rcases Yk.mp (I.ZgE b hb)with e|hb
 ·rw[e];exact I.free
 ·obtain⟨_,o,ho,_⟩:=I.ok.funs.mem hb
  exact I.base.free b o ho (I.ok.frf b hb) λz=>I.ok.exfs b z hb
theorem Inv.step {g':Array GenState}{t':Nat}{d':Drawn}{ch:List Addr} (I:Inv X pins σ H s)
  (hch:∀b∈ch,(b∈X.ex\/X.s₀.heap.objs.size<=b)/\b≠X.env.locals/\(∀x c,X.env.cells.lookup x=some c->c≠b)/\∀p∈X.pn++pins,p.1≠b)
  (keep:∀b o,b≠X.env.locals->b∉X.fs->b∉ch->s.heap.get? b=some o->H b=none->h'.get? b=some o)
  (slot:∀b o,b≠X.env.locals->b∈X.fs->b∉ch->s.heap.get? b=some o->H b=none->∃sl,h'.get? b=some {o with slots:=sl}) (free:∀b o,b∉ch->s.heap.get? b=some o->H b=none->H' b=none)
  (there:∀b o,b∉ch->s.heap.get? b=some o->∃o',h'.get? b=some o')
  (tups:∀b xs,H b=some (.tup xs)->H' b=some (.tup xs)) (frzs:∀b o u,H b=some (.frz o u)->H' b=some (.frz o u)) (tbls:∀b ps,H b=some (.tbl ps)->∃more,H' b=some (.tbl (ps++more)))
  (ns:∀m,s.heap.Ns X.env.locals m->h'.Ns X.env.locals m) (hok:HOk X.prog X.w H' h') (hg:AllBare g') :
  Inv X pins σ H' {s with heap:=h',gens:=g',drawn:=d',toks:=t'}:=by
 have neL:∀b o,X.s₀.heap.get? b=some o->b≠X.env.locals:=λb o e=>Yp (Yw (Yl e) I.ok.above)
 have neC:∀b o,X.s₀.heap.get? b=some o->b∉X.ex->b∉ch:=λb o e hx hb=>by
  rcases(hch b hb).1 with z|z
  ·exact hx z
  ·exact absurd (Yw (Yl e) z) (Yu _)
 have cellK:∀x c,X.env.cells.lookup x=some c->∀v,s.heap.IsCell c v->h'.IsCell c v:=λx c e v ⟨o,ho,hd⟩=>by
  have nch:c∉ch:=λz=>(hch c z).2.2.1 x c e rfl
  by_cases hc:c∈X.fs
  ·obtain⟨sl,q⟩:=slot c o (I.cne x c e) hc nch ho (I.freeC x c e)
   exact⟨_,q,hd⟩
  ·exact⟨o,keep c o (I.cne x c e) hc nch ho (I.freeC x c e),hd⟩
 refine⟨I.ok,I.os,hg,⟨λb o e n hb hx=>?_,λb o e n hb hx=>?_,λb o e n hx=>?_,λb o e hx=>?_,λb xs e=>tups b xs (I.base.tups b xs e),λb o xs e=>frzs b o xs (I.base.frzs b o xs e),λb ps e=>?_⟩,?_,λx c e=>?_,?_,λx c e=>?_,λp hp=>?_,hok,I.len⟩
 ·exact keep b o (neL b o e) hb (neC b o e hx) (I.base.keep b o e n hb hx) (I.base.free b o e n hx)
 ·obtain⟨sl,e1⟩:=I.base.slot b o e n hb hx
  obtain⟨sl',e2⟩:=slot b _ (neL b o e) hb (neC b o e hx) e1 (I.base.free b o e n hx)
  exact⟨sl',e2⟩
 ·obtain⟨o',e1⟩:=I.base.there b o e hx
  exact free b o' (neC b o e hx) e1 (I.base.free b o e n hx)
 ·obtain⟨o',e1⟩:=I.base.there b o e hx
  exact there b o' (neC b o e hx) e1
 ·obtain⟨m1,e1⟩:=I.base.tbls b ps e
  obtain⟨m2,e2⟩:=tbls b _ e1
  exact⟨m1++m2,by rw[e2,Array.append_assoc]⟩
 ·obtain⟨m,hn,hl⟩:=I.loc
  refine⟨m,ns m hn,λi x v e1 e2 e3=>?_⟩
  obtain⟨u,r,l⟩:=hl i x v e1 e2 e3
  refine⟨u,r,?_⟩
  rcases l with l|⟨k,c,e,z⟩
  ·exact .inl l
  ·exact .inr ⟨k,c,e,cellK x c e _ z⟩
 ·obtain⟨v,z⟩:=I.cell x c e
  exact⟨v,cellK x c e v z⟩
 ·obtain⟨m,⟨o,_,_,ho,_⟩,_⟩:=I.loc
  exact free _ o (λz=>(hch _ z).2.1 rfl) ho I.free
 ·obtain⟨v,o,ho,hd⟩:=I.cell x c e
  exact free c o (λz=>(hch c z).2.2.1 x c e rfl) ho (I.freeC x c e)
 ·obtain⟨e,n,ne,nf,d⟩:=I.pin p hp
  have nch:p.1∉ch:=λz=>(hch p.1 z).2.2.2 p hp rfl
  exact⟨keep p.1 p.2 ne nf nch e n,free p.1 p.2 nch e n,ne,nf,d⟩
theorem Inv.un {t':Nat} (I:Inv X pins σ H s) (u:Un X.fs [] H H' s.heap h') (hok:HOk X.prog X.w H' h'):Inv X pins σ H' {s with heap:=h',toks:=t'}:=by
 obtain⟨m,⟨o,es,ep,ho,r⟩,_⟩:=id I.loc
 obtain⟨sl,hL⟩:=u.any ho I.free (by simp)
 exact I.step (g':=s.gens) (d':=s.drawn) (ch:=[]) (λ_ z=>nomatch z) (λb o _ hb _ e n=>u.keep b o e n hb (by simp)) (λb o _ hb _ e n=>u.slot b o e n hb (by simp)) (λb o _ e n=>u.free b o e n (by simp)) (λb o _ e=>u.there b o e (by simp)) u.tups u.frzs u.tbls (λm' hm=>by
  obtain⟨o',es',ep',ho',r'⟩:=hm
  rw[ho]at ho';cases ho'
  exact⟨_,es',ep',hL,r'⟩) hok I.bare
theorem Inv.call {g':Array GenState}{t':Nat}{d':Drawn}{ch:List Addr} (I:Inv X pins σ H s) (u:Un (frs X.stack) ch H H' s.heap h') (hok:HOk X.prog X.w H' h') (hg:AllBare g')
  (hch:∀b∈ch,(b∈X.ex\/X.s₀.heap.objs.size<=b)/\b≠X.env.locals/\(∀x c,X.env.cells.lookup x=some c->c≠b)/\∀p∈X.pn++pins,p.1≠b) :
  Inv X pins σ H' {s with heap:=h',gens:=g',drawn:=d',toks:=t'}:=by
 obtain⟨m,⟨o,es,ep,ho,r⟩,_⟩:=id I.loc
 obtain⟨sl,hL⟩:=u.any ho I.free λz=>(hch _ z).2.1 rfl
 exact I.step (ch:=ch) hch (λb o hL hb hc e n=>u.keep b o e n (λz=>(Yk.mp (I.ZgE b z)).elim hL hb) hc) (λb o _ _ hc e n=>u.any e n hc) (λb o hc e n=>u.free b o e n hc) (λb o hc e=>u.there b o e hc) u.tups u.frzs u.tbls (λm' hm=>by
  obtain⟨o',es',ep',ho',r'⟩:=hm
  rw[ho]at ho';cases ho'
  exact⟨_,es',ep',hL,r'⟩) hok hg
theorem Inv.turned {t':Nat}{it:Addr} (I:Inv X pins σ H s) (k:∀b o,b≠it->s.heap.get? b=some o->h'.get? b=some o) (hn:H it=none) (hL:it≠X.env.locals)
  (h1:it∈X.ex\/X.s₀.heap.objs.size<=it) (h2:∀x c,X.env.cells.lookup x=some c->c≠it) (h3:∀p∈X.pn++pins,p.1≠it):Inv X pins σ H {s with heap:=h',toks:=t'}:=by
 have nit:∀b u,H b=some u->b≠it:=λb u e z=>by rw[z,hn]at e;cases e
 refine I.step (g':=s.gens) (d':=s.drawn) (ch:=[it]) (λb hb=>?_) (λb o _ _ hc e _=>k b o (λz=>hc (by simp[z])) e) (λb o _ _ hc e _=>⟨o.slots,k b o (λz=>hc (by simp[z])) e⟩) (λ_ _ _ _ n=>n)
  (λb o hc e=>⟨o,k b o (λz=>hc (by simp[z])) e⟩) (λ_ _ e=>e) (λ_ _ _ e=>e) (λb ps e=>⟨#[],by rw[e];simp⟩) (λm hm=>?_) (λb u e=>?_) I.bare
 ·have e:b=it:=by simpa using hb
  subst e
  exact⟨h1,hL,h2,h3⟩
 ·obtain⟨o,es,ep,ho,r⟩:=hm
  exact⟨o,es,ep,k _ o (Ne.symm hL) ho,r⟩
 ·refine(I.hok b u e).ZhH (λc v hc q=>k c v ?_ q) (λ_ q=>q) (λ_ _ q=>q) λ_ _ _ q=>q
  rcases hc with z|z
  ·rw[z];exact nit b u e
  ·exact nit c _ z
theorem Inv.tok (I:Inv X pins σ H s) (t:Nat):Inv X pins σ H {s with toks:=t}:=I.un (h':=s.heap) (t':=t) Un.refl I.hok
theorem Inv.kept {t':Nat} (I:Inv X pins σ H s) (k:∀b u,s.heap.get? b=some u->h'.get? b=some u):Inv X pins σ H {s with heap:=h',toks:=t'}:=I.un (Un.kept k) (I.hok.kept k)
theorem Inv.laid {a:Addr}{o:HO}{t':Nat} (I:Inv X pins σ H s) (k:∀b u,s.heap.get? b=some u->h'.get? b=some u) (hp:s.heap.objs.size<=a) (new:Zau X.prog X.w (upd H a o) h' a o) :
  Inv X pins σ (upd H a o) {s with heap:=h',toks:=t'}:=I.un (Un.laid k hp (I.hok.fresh hp)) (I.hok.laid k hp new)
theorem Inv.write {x e:Addr}{o:HO}{t':Nat} (I:Inv X pins σ H s) (mu:Mut (H x)) (he:e=x\/H e=some (.own x)) (k:∀b u,b≠e->s.heap.get? b=some u->h'.get? b=some u) (heo:∃u,h'.get? e=some u)
  (new:Zau X.prog X.w (upd H x o) h' x o):Inv X pins σ (upd H x o) {s with heap:=h',toks:=t'}:=I.un (Un.write mu he k heo) (I.hok.write mu he k heo new)
theorem Inv.weak {σ':List (Option V)} (I:Inv X pins σ H s) (hl:σ'.length=σ.length) (w:∀(i:Nat) v,σ'[i]?=some (some v)->σ[i]?=some (some v)):Inv X pins σ' H s :=
 ⟨I.ok,I.os,I.bare,I.base,let ⟨m,hn,hl'⟩:=I.loc;⟨m,hn,λi x v e1 e2 e3=>hl' i x v e1 (w i v e2) e3⟩,I.cell,I.free,I.freeC,I.pin,I.hok,hl.trans I.len⟩
theorem Inv.ZI {pins':List (Addr×Obj)} (I:Inv X pins σ H s) (h:∀p∈pins',s.heap.get? p.1=some p.2/\H p.1=none/\p.1≠X.env.locals/\p.1∉X.fs/\∀v,p.2.data≠.cell v):Inv X pins' σ H s :=
 ⟨I.ok,I.os,I.bare,I.base,I.loc,I.cell,I.free,I.freeC,λp hp=>(Yy.mp hp).elim (λz=>I.pin p (YM _ z)) (h p),I.hok,I.len⟩
theorem ZkJ {N:List Str} (hN:N.Nodup) {i j:Nat}{x:Str} (a:N[i]?=some x) (b:N[j]?=some x):i=j:=by
 obtain⟨h1,e1⟩:=Yh.mp a
 obtain⟨h2,e2⟩:=Yh.mp b
 exact(List.getElem_inj hN).mp (e1.trans e2.symm)
theorem Znu {M:Model}{A:Around}{E:Value->Shared->Prop}{i:Nat}{x:Str}{v:V}{u:Value}{Q:Unit->Shared->Prop} (I:Inv X pins σ H s) (hN:X.N.Nodup) (hi:X.N[i]?=some x) (hx:Loc X.env.scope x) (r:RelV v u)
  (h:∀s',Inv X pins (σ.set i (some v)) H s'->(∃a,Heap.SameBut a s.heap s'.heap/\(a=X.env.locals\/X.env.cells.lookup x=some a))->Q () s') (hf:X.fn x=true\/X.env.scope.names.lookup x=some .local:=by first|exact .inl rfl|exact .inr rfl|assumption):wpAny M A (storeName X.env x u) Q E s:=by
 obtain⟨m,hn,hl⟩:=id I.loc
 have hcls:(X.env.scope.kind==.class||(X.env.scope.kind==.module&&X.env.locals != X.env.globals))=false:=by rw[I.ok.kind];rfl
 have hiσ:i < σ.length:=by rw[I.len];exact(Yh.mp hi).1
 have cne:=I.cne
 have tracked:∀{a:Addr}{h':Heap},(∃o,s.heap.get? a=some o/\H a=none)->Heap.SameBut a s.heap h'->HOk X.prog X.w H h':=λ{a h'} ha hs b ob e=>by
  obtain⟨_,_,hfree⟩:=ha
  refine(I.hok b ob e).ZhH (λc w' hc q=>(hs.2 c ?_).trans q) (λ_ q=>q) (λ_ _ q=>q) λ_ _ _ q=>q
  rintro rfl
  rcases hc with rfl|hc
  ·rw[hfree]at e;cases e
  ·rw[hfree]at hc;cases hc
 rcases hx with hk|hk
 ·refine wpAny_storeName_local hk hn (λh' hn' hs=>?_) hcls
  obtain⟨oL,_,_,hoL,_⟩:=id hn
  refine h _ ⟨I.ok,I.os,I.bare,⟨λb o e n hb hx=>?_,λb o e n hb hx=>?_,I.base.free,λb o e hx=>?_,I.base.tups,I.base.frzs,I.base.tbls⟩,⟨_,hn',λj y v' e1 e2 e3=>?_⟩,λy c e=>?_,I.free,I.freeC,λp hp=>?_,tracked ⟨oL,hoL,I.free⟩ hs,by simpa using I.len⟩ ⟨_,hs,.inl rfl⟩
  ·exact(hs.2 b (Yp (Yw (Yl e) I.ok.above))).trans (I.base.keep b o e n hb hx)
  ·obtain⟨sl,e1⟩:=I.base.slot b o e n hb hx
   exact⟨sl,(hs.2 b (Yp (Yw (Yl e) I.ok.above))).trans e1⟩
  ·obtain⟨o',e1⟩:=I.base.there b o e hx
   exact⟨o',(hs.2 b (Yp (Yw (Yl e) I.ok.above))).trans e1⟩
  ·by_cases hj:j=i
   ·subst hj
    rw[hi]at e1;cases e1
    rw[List.getElem?_set_self hiσ]at e2
    cases e2
    exact⟨u,r,.inl ⟨hk,by simp⟩⟩
   ·rw[List.getElem?_set_ne (Ne.symm hj)]at e2
    obtain⟨u',r',q⟩:=hl j y v' e1 e2 e3
    refine⟨u',r',?_⟩
    rcases q with⟨k,e⟩|⟨k,c,e,z⟩
    ·refine .inl ⟨k,?_⟩
     have:y≠x:=λe=>hj (ZkJ hN e1 (e▸hi))
     simp[this,e]
    ·exact .inr ⟨k,c,e,z.sameBut hs (cne y c e)⟩
  ·obtain⟨w',z⟩:=I.cell y c e
   exact⟨w',z.sameBut hs (cne y c e)⟩
  ·obtain⟨e,n,ne,nf,d⟩:=I.pin p hp
   exact⟨(hs.2 p.1 ne).trans e,n,ne,nf,d⟩
 ·have hfn:X.fn x=true:=by
   rcases hf with z|z
   ·exact z
   ·rw[z]at hk;cases hk
  obtain⟨c,hc⟩:=I.ok.has x (.inl hk)
  obtain⟨w',z⟩:=I.cell x c hc
  refine wpAny_storeName_cell I.ok.kind hk hc z (λh' hc' hs=>?_)
  obtain⟨oc,hoc,hocd⟩:=id z
  refine h {s with heap:=h'} ⟨I.ok,I.os,I.bare,⟨λb o e n hb hx=>?_,λb o e n hb hx=>?_,I.base.free,λb o e hx=>?_,I.base.tups,I.base.frzs,I.base.tbls⟩,⟨m,hn.sameBut hs (Ne.symm (cne x c hc)),λj y v' e1 e2 e3=>?_⟩,λy c' e=>?_,I.free,I.freeC,λp hp=>?_,tracked ⟨oc,hoc,I.freeC x c hc⟩ hs,by simpa using I.len⟩ ⟨c,hs,.inr hc⟩
  ·exact(hs.2 b (Yp (Yw (Yl e) (I.ok.cab x c hfn hc)))).trans (I.base.keep b o e n hb hx)
  ·obtain⟨sl,e1⟩:=I.base.slot b o e n hb hx
   exact⟨sl,(hs.2 b (Yp (Yw (Yl e) (I.ok.cab x c hfn hc)))).trans e1⟩
  ·obtain⟨o',e1⟩:=I.base.there b o e hx
   exact⟨o',(hs.2 b (Yp (Yw (Yl e) (I.ok.cab x c hfn hc)))).trans e1⟩
  ·by_cases hj:j=i
   ·subst hj
    rw[hi]at e1;cases e1
    rw[List.getElem?_set_self hiσ]at e2
    cases e2
    exact⟨u,r,.inr ⟨.inl hk,c,hc,hc'⟩⟩
   ·rw[List.getElem?_set_ne (Ne.symm hj)]at e2
    obtain⟨u',r',q⟩:=hl j y v' e1 e2 e3
    refine⟨u',r',?_⟩
    rcases q with q|⟨k,c',e,z'⟩
    ·exact .inl q
    ·refine .inr ⟨k,c',e,z'.sameBut hs ?_⟩
     rintro rfl
     exact hj (ZkJ hN e1 (I.ok.inj _ _ _ e hc▸hi))
  ·by_cases hcc:c'=c
   ·subst hcc;exact⟨_,hc'⟩
   ·obtain⟨w2,z2⟩:=I.cell y c' e
    exact⟨w2,z2.sameBut hs hcc⟩
  ·obtain⟨e,n,ne,nf,d⟩:=I.pin p hp
   refine⟨(hs.2 p.1 ?_).trans e,n,ne,nf,d⟩
   intro q
   rw[q,hoc]at e
   have q':oc=p.2:=YD e
   exact d w' (by rw[<-q'];exact hocd)
theorem ZhI {M:Model}{A:Around}{E:Value->Shared->Prop}{i:Nat}{x:Str}{v:V}{u:Value}{Q:Unit->Shared->Prop} (I:Inv X pins σ H s) (hN:X.N.Nodup) (hi:X.N[i]?=some x) (hx:Loc X.env.scope x) (r:RelV v u)
  (h:∀s',Inv X pins (σ.set i (some v)) H s'->Q () s') (hf:X.fn x=true\/X.env.scope.names.lookup x=some .local:=by first|exact .inl rfl|exact .inr rfl|assumption):wpAny M A (storeName X.env x u) Q E s :=
 Znu I hN hi hx r (λs' I' _=>h s' I') hf
theorem Inv.call' {s':Shared}{ch:List Addr} (I:Inv X pins σ H s) (ho:s'.os=s.os) (u:Un (frs X.stack) ch H H' s.heap s'.heap) (hok:HOk X.prog X.w H' s'.heap) (hg:AllBare s'.gens)
  (hch:∀b∈ch,(b∈X.ex\/X.s₀.heap.objs.size<=b)/\b≠X.env.locals/\(∀x c,X.env.cells.lookup x=some c->c≠b)/\∀p∈X.pn++pins,p.1≠b):Inv X pins σ H' s':=by
 obtain⟨h',g',d',t',o'⟩:=s'
 have e:o'=s.os:=ho
 subst e
 exact I.call (g':=g') (t':=t') (d':=d') u hok hg hch
end
noncomputable abbrev XK:=Value->Option Addr->Hp->Prop
noncomputable abbrev St:=List (Option V)
noncomputable abbrev VK:=V->Hp->Prop
noncomputable abbrev TE:=St->Hp->VK->Prop
noncomputable abbrev TT:=St->Hp->(Bool->Hp->Prop)->Prop
noncomputable abbrev TA:=St->Hp->(List V->Hp->Prop)->Prop
structure Ends where
 nx:St->Hp->Prop
 rt:VK
 bk:St->Hp->Prop:=λ_ _=>False
 ct:St->Hp->Prop:=λ_ _=>False
noncomputable abbrev TS:=Ends->St->Hp->Prop
noncomputable def EP (X:Cx) (pins:List (Addr×Obj)) (σ:St) (Q:VK) (u:Value) (s':Shared):Prop:=∃v H',Inv X pins σ H' s'/\RelV v u/\Q v H'
noncomputable def TP (X:Cx) (pins:List (Addr×Obj)) (σ:St) (Q:Bool->Hp->Prop) (b:Bool) (s':Shared):Prop:=∃H',Inv X pins σ H' s'/\Q b H'
noncomputable def AP (X:Cx) (pins:List (Addr×Obj)) (σ:St) (Q:List V->Hp->Prop) (us:List Value) (s':Shared):Prop:=∃vs H',Inv X pins σ H' s'/\Vals vs us/\Q vs H'
noncomputable def SP (X:Cx) (pins:List (Addr×Obj)) (D:Ends) (f:Flow) (s':Shared):Prop :=
 match f with
 |.next=>∃σ' H',Inv X pins σ' H' s'/\D.nx σ' H'
 |.brk=>∃σ' H',Inv X pins σ' H' s'/\D.bk σ' H'
 |.cont=>∃σ' H',Inv X pins σ' H' s'/\D.ct σ' H'
 |.ret u=>∃v σ' H',Inv X pins σ' H' s'/\RelV v u/\D.rt v H'
noncomputable def PE (X:Cx) (e:Expr) (t:TE):Prop :=
 ∀(pins:List (Addr×Obj)) (s:Shared) (σ:St) (H:Hp) (Q:VK),Inv X pins σ H s->t σ H Q->wpAny (model X.prog X.w) X.A (eval e X.env) (EP X pins σ Q) X.xe s
noncomputable def PT (X:Cx) (e:Expr) (t:TT):Prop :=
 ∀(pins:List (Addr×Obj)) (s:Shared) (σ:St) (H:Hp) (Q:Bool->Hp->Prop),Inv X pins σ H s->t σ H Q->wpAny (model X.prog X.w) X.A (isTrue e X.env (eval e X.env)) (TP X pins σ Q) X.xe s
noncomputable def PW (X:Cx) (e:Expr) (t:TT):Prop :=
 ∀(whole:Sem Value) (pins:List (Addr×Obj)) (s:Shared) (σ:St) (H:Hp) (Q:Bool->Hp->Prop),Inv X pins σ H s->t σ H Q->wpAny (model X.prog X.w) X.A (isTrue e X.env whole) (TP X pins σ Q) X.xe s
theorem PW.pt {X:Cx}{e:Expr}{t:TT} (h:PW X e t):PT X e t:=h _
noncomputable def PA (X:Cx) (es:List Expr) (t:TA):Prop :=
 ∀(pos:Pos) (pins:List (Addr×Obj)) (s:Shared) (σ:St) (H:Hp) (Q:List V->Hp->Prop),Inv X pins σ H s->t σ H Q->wpAny (model X.prog X.w) X.A (spliced (backTo pos (starEach es X.env))) (AP X pins σ Q) X.xe s
noncomputable def PS (X:Cx) (st:Stmt) (t:TS):Prop :=
 ∀(pins:List (Addr×Obj)) (s:Shared) (σ:St) (H:Hp) (D:Ends),Inv X pins σ H s->t D σ H->wpAny (model X.prog X.w) X.A (exec st X.env) (SP X pins D) X.xe s
noncomputable def PSs (X:Cx) (st:List Stmt) (t:TS):Prop :=
 ∀(pins:List (Addr×Obj)) (s:Shared) (σ:St) (H:Hp) (D:Ends),Inv X pins σ H s->t D σ H->wpAny (model X.prog X.w) X.A (execs st X.env) (SP X pins D) X.xe s
theorem thn {α:Type}{t:Sem α}{Q Q':α->Shared->Prop}{M:Model}{A:Around}{E:Value->Shared->Prop}{s:Shared} (h:wpAny M A t Q E s) (hQ:∀a s,Q a s->Q' a s):wpAny M A t Q' E s:=YN h hQ λ_ _ x=>x
section
variable {X:Cx}
noncomputable def ZiE (i:Nat):TE:=fun σ H Q=>∃v,σ[i]?=some (some v)/\Q v H
noncomputable def tC (v:V):TE:=λ_ H Q=>Q v H
theorem pe_var {i:Nat}{x:Str}{pos:Pos} (hN:X.N[i]?=some x) (hv:Vis X.env.scope x) (hd:(x==("__debug__":Str))=false:=by decide) (hcd:(x==("__classdict__":Str))=false:=by decide):PE X (.Name x pos) (ZiE i):=by
 intro pins s σ H Q I h
 obtain⟨v,e,h⟩:=h
 obtain⟨m,hn,hl⟩:=I.loc
 obtain⟨u,r,l⟩:=hl i x v hN e hv
 have fin:EP X pins σ Q u s:=⟨v,H,I,r,h⟩
 rcases l with⟨hk,hm⟩|⟨hk,c,hc,hcell⟩
 ·exact wpAny_Name (wpAny_loadName_local I.ok.kind hk hn hm fin) hd
 ·rcases hk with hk|hk
  ·exact wpAny_Name (wpAny_loadName_cell I.ok.kind hk hc hcell fin) hd
  ·exact wpAny_Name (wpAny_loadName_free I.ok.kind hk hc hcell fin hcd) hd
theorem Zf {i j pos}:PE X (.Constant (.int i) j pos) (tC (.int i)):=λ_ _ _ H _ I h=>wpAny_Constant_int ⟨.int i,H,I.tok _,⟨_,rfl⟩,h⟩
theorem Zg3 {b j pos}:PE X (.Constant (.bool b) j pos) (tC (.bl b)):=λ_ _ _ H _ I h=>Constant_bool ⟨.bl b,H,I,rfl,h⟩
theorem Z8 {j pos}:PE X (.Constant .none j pos) (tC .non):=λ_ _ _ H _ I h=>Constant_none ⟨.non,H,I,rfl,h⟩
noncomputable def Gl (X:Cx) (x:Str):Prop:=X.env.kindOf x=some .globalImplicit
theorem ZjE {E:Value->Shared->Prop}{pins:List (Addr×Obj)}{s:Shared}{σ:St}{H:Hp}{x:Str}{u:Value}{pos:Pos}{Q:Value->Shared->Prop} (I:Inv X pins σ H s) (hg:Gl X x) (hm:X.mg x=some u) (h:Q u s)
  (hd:(x==("__debug__":Str))=false:=by decide):wpAny (model X.prog X.w) X.A (eval (.Name x pos) X.env) Q E s :=
 Calls.Name_function_global I.ok.kind hg (Calls.loadGlobal_global (by rw[I.ok.glob];exact I.mod.glob.keeps I.bk) hm h) hd
theorem Zcg {E:Value->Shared->Prop}{pins:List (Addr×Obj)}{s:Shared}{σ:St}{H:Hp}{x:Str}{u:Value}{pos:Pos}{Q:Value->Shared->Prop} (I:Inv X pins σ H s) (hg:Gl X x) (hm:X.mg x=none) (hv:bootBuiltins x=some u) (h:Q u s)
  (hn:x≠"__name__":=by decide) (hd:(x==("__debug__":Str))=false:=by decide):wpAny (model X.prog X.w) X.A (eval (.Name x pos) X.env) Q E s:=by
 obtain⟨mb,h1,h2⟩:=I.mod.blt
 exact Calls.Name_function_global I.ok.kind hg (Calls.loadGlobal_builtin (by rw[I.ok.glob];exact I.mod.glob.keeps I.bk) hm (by rw[I.ok.blt];exact h1.keeps I.bk) ((h2 x hn).trans hv) h) hd
theorem Zhx {x:Str}{v:V}{u:Value}{pos:Pos} (hg:Gl X x) (hm:X.mg x=some u) (r:RelV v u) (hd:(x==("__debug__":Str))=false:=by decide):PE X (.Name x pos) (tC v) :=
 λ_ _ _ H _ I h=>ZjE I hg hm ⟨v,H,I,r,h⟩ hd
theorem ZjF {x:Str}{v:V}{u:Value}{pos:Pos} (hg:Gl X x) (hm:X.mg x=none) (hv:bootBuiltins x=some u) (r:RelV v u) (hn:x≠"__name__":=by decide) (hd:(x==("__debug__":Str))=false:=by decide):PE X (.Name x pos) (tC v) :=
 λ_ _ _ H _ I h=>Zcg I hg hm hv ⟨v,H,I,r,h⟩ hn hd
variable {a b:Expr}{ta tb:TE}{pos:Pos}
noncomputable def tB (t:TE):TT:=fun σ H Q=>t σ H λx H1=>∃c,x=.bl c/\Q c H1
theorem ZhJ {e:Expr}{t:TE} (h:PE X e t) (he:∀whole,isTrue e X.env whole=(do let v <-whole;standAt e.pos;holding [v] (truthy v)):=by intro _;rfl):PT X e (tB t):=by
 intro pins s σ H Q I hw
 refine isTrue_plain (thn (h pins s σ H _ I hw) λv s1 ⟨x,H1,I1,r1,q1⟩=>?_) (he _)
 obtain⟨d,rfl,q⟩:=q1
 cases r1
 exact wpAny_truthy_bool ⟨H1,I1,q⟩
variable {tA tB':TT}{rest:List Expr}
noncomputable def tAnd (t u:TT):TT:=fun σ H Q=>t σ H λc H1=>if c=true then u σ H1 Q else Q false H1
noncomputable def tOr (t u:TT):TT:=fun σ H Q=>t σ H λc H1=>if c=true then Q true H1 else u σ H1 Q
noncomputable def tNot (t:TT):TT:=fun σ H Q=>t σ H λc H1=>Q (!c) H1
theorem ZdJ (ha:PT X a tA):PW X (.BoolOp .And [a] pos) tA:=by
 intro wh pins s σ H Q I h
 refine isTrue_and (thn (ha pins s σ H Q I h) λc s1 e=>?_)
 cases c with
 |true=>exact isTrue_and_nil e
 |false=>exact e
theorem ZhK (ha:PT X a tA):PW X (.BoolOp .Or [a] pos) tA:=by
 intro wh pins s σ H Q I h
 refine isTrue_or (thn (ha pins s σ H Q I h) λc s1 e=>?_)
 cases c with
 |false=>exact isTrue_or_nil e
 |true=>exact e
theorem ZdK (ha:PT X a tA) (hb:PW X (.BoolOp .And (b::rest) pos) tB'):PW X (.BoolOp .And (a::b::rest) pos) (tAnd tA tB'):=by
 intro wh pins s σ H Q I h
 refine isTrue_and (thn (ha pins s σ H _ I h) λc s1 ⟨H1,I1,q1⟩=>?_)
 cases c with
 |true=>exact hb wh pins s1 σ H1 Q I1 q1
 |false=>exact⟨H1,I1,q1⟩
theorem Zi6 (ha:PT X a tA) (hb:PW X (.BoolOp .Or (b::rest) pos) tB'):PW X (.BoolOp .Or (a::b::rest) pos) (tOr tA tB'):=by
 intro wh pins s σ H Q I h
 refine isTrue_or (thn (ha pins s σ H _ I h) λc s1 ⟨H1,I1,q1⟩=>?_)
 cases c with
 |true=>exact⟨H1,I1,q1⟩
 |false=>exact hb wh pins s1 σ H1 Q I1 q1
theorem ZhL (ha:PT X a tA):PT X (.UnaryOp .Not a pos) (tNot tA):=by
 intro pins s σ H Q I h
 exact isTrue_not (ha pins s σ H (λc H1=>Q (!c) H1) I h)
noncomputable def Zot (ta tb:TE):TE:=fun σ H Q=>ta σ H λx H1=>∃c,x=.bl c/\if c=true then tb σ H1 Q else Q (.bl false) H1
noncomputable def tOrV (ta tb:TE):TE:=fun σ H Q=>ta σ H λx H1=>∃c,x=.bl c/\if c=true then Q (.bl true) H1 else tb σ H1 Q
theorem ZlE {op}{t:TE} (h:PE X a t):PE X (.BoolOp op [a] pos) t:=λpins s σ H Q I hw=>BoolOp_one (h pins s σ H Q I hw)
theorem Zou (ha:PE X a ta) (hb:PE X (.BoolOp .And (b::rest) pos) tb):PE X (.BoolOp .And (a::b::rest) pos) (Zot ta tb):=by
 intro pins s σ H Q I h
 refine BoolOp_and (thn (ha pins s σ H _ I h) λv s1 ⟨x,H1,I1,r1,q1⟩=>?_)
 obtain⟨c,rfl,q1⟩:=q1
 cases r1
 refine wpAny_truthy_bool ?_
 cases c with
 |true=>exact hb pins s1 σ H1 Q I1 q1
 |false=>exact⟨.bl false,H1,I1,rfl,q1⟩
theorem pe_or (ha:PE X a ta) (hb:PE X (.BoolOp .Or (b::rest) pos) tb):PE X (.BoolOp .Or (a::b::rest) pos) (tOrV ta tb):=by
 intro pins s σ H Q I h
 refine BoolOp_or (thn (ha pins s σ H _ I h) λv s1 ⟨x,H1,I1,r1,q1⟩=>?_)
 obtain⟨c,rfl,q1⟩:=q1
 cases r1
 refine wpAny_truthy_bool ?_
 cases c with
 |false=>exact hb pins s1 σ H1 Q I1 q1
 |true=>exact⟨.bl true,H1,I1,rfl,q1⟩
noncomputable def tIf (t:TT) (ta tb:TE):TE:=fun σ H Q=>t σ H λc H1=>if c=true then ta σ H1 Q else tb σ H1 Q
theorem Zov {c:Expr} (hc:PT X c tA) (ha:PE X a ta) (hb:PE X b tb):PE X (.IfExp c a b pos) (tIf tA ta tb):=by
 intro pins s σ H Q I h
 refine wpAny_IfExp (thn (hc pins s σ H _ I h) λd s1 ⟨H1,I1,q1⟩=>?_)
 cases d with
 |true=>exact ha pins s1 σ H1 Q I1 q1
 |false=>exact hb pins s1 σ H1 Q I1 q1
end
noncomputable def SqL (K:PySem.W.Frag) (H:Hp) (a:Addr) (xs:List V):Prop :=
 Rd H a (.lst xs) \/
  ∃(o:Obj) (its:Array Value) (n:Nat),K.lookup a=some o/\o.cls=.type "list"/\o.dict=none/\o.data=.seq its n/\its.size<=sizeLine/\Vals xs its.toList
noncomputable def SqT (K:PySem.W.Frag) (H:Hp) (a:Addr) (xs:List V):Prop :=
 Rd H a (.tup xs) \/
  ∃(o:Obj) (its:Array Value) (n:Nat),K.lookup a=some o/\o.cls=.type "tuple"/\o.data=.seq its n/\its.size<=sizeLine/\Vals xs its.toList
noncomputable def absV:Value->Option V
 |.none=>some .non
 |.bool b=>some (.bl b)
 |.int i _=>some (.int i)
 |.str x _=>some (.str x)
 |.bytes b _=>some (.byt b)
 |.float b _=>some (.flt b)
 |.ref a=>some (.ref a)
 |.type n=>some (.ty n)
 |_=>none
theorem RelV.abs {x:V}{u:Value} (r:RelV x u):absV u=some x:=by
 cases x with
 |non=>cases r;rfl
 |bl _=>cases r;rfl
 |int _=>obtain⟨t,rfl⟩:=r;rfl
 |str _=>obtain⟨t,rfl⟩:=r;rfl
 |byt _=>obtain⟨t,rfl⟩:=r;rfl
 |flt _=>obtain⟨t,rfl⟩:=r;rfl
 |ref _=>cases r;rfl
 |ty _=>cases r;rfl
theorem RelV.inj {x y:V}{u:Value} (r:RelV x u) (q:RelV y u):x=y:=YD (r.abs.symm.trans q.abs)
theorem Vals.inj:∀{xs ys:List V}{us:List Value},Vals xs us->Vals ys us->xs=ys
 |_,_,_,.nil,.nil=>rfl
 |_,_,_,.cons r t,.cons r' t'=>by rw[r.inj r',Vals.inj t t']
section
variable {X:Cx}{pins:List (Addr×Obj)}{σ:St}{H:Hp}{s:Shared}{a:Addr}{xs ys:List V}
theorem SqL.of {K:PySem.W.Frag} (h:H a=some (.lst xs)):SqL K H a xs:=.inl (.inl h)
theorem SqT.of {K:PySem.W.Frag} (h:H a=some (.tup xs)):SqT K H a xs:=.inl (.inl h)
theorem Inv.list (I:Inv X pins σ H s) (h:SqL X.K H a xs):∃its:List Value,Vals xs its/\PlainL s.heap a its.toArray/\xs.length<=sizeLine:=by
 rcases h with h|⟨o,its,n,hk,hc,hd,hs,hz,r⟩
 ·obtain⟨z,its,n,r,e⟩:=h.ok I.hok
  exact⟨its,r,⟨_,n,e,rfl,rfl,rfl⟩,z⟩
 ·refine⟨its.toList,r,⟨o,n,I.kIn a o hk,hc,hd,by simpa using hs⟩,?_⟩
  have e:=r.length
  simp only[YO]at e
  omega
theorem Inv.tuple (I:Inv X pins σ H s) (h:SqT X.K H a xs):∃its:List Value,Vals xs its/\IsTup s.heap a its.toArray/\xs.length<=sizeLine:=by
 rcases h with h|⟨o,its,n,hk,hc,hs,hz,r⟩
 ·obtain⟨z,its,r,p⟩:=h.ok I.hok
  exact⟨its,r,p,z⟩
 ·refine⟨its.toList,r,⟨o,I.kIn a o hk,hc,n,by simpa using hs⟩,?_⟩
  have e:=r.length
  simp only[YO]at e
  omega
theorem Inv.Zch (I:Inv X pins σ H s) (h:SqL X.K H a xs) (h':SqL X.K H a ys):xs=ys:=by
 obtain⟨its,r,⟨o,n,e,_,_,d⟩,_⟩:=I.list h
 obtain⟨its',r',⟨o',n',e',_,_,d'⟩,_⟩:=I.list h'
 rw[e]at e';cases e'
 rw[d]at d'
 injection d' with d1 _
 have:its=its':=by simpa using congrArg Array.toList d1
 subst this
 exact r.inj r'
theorem Inv.Zfd (I:Inv X pins σ H s) (h:SqT X.K H a xs) (h':SqT X.K H a ys):xs=ys:=by
 obtain⟨its,r,⟨o,e,_,n,d⟩,_⟩:=I.tuple h
 obtain⟨its',r',⟨o',e',_,n',d'⟩,_⟩:=I.tuple h'
 rw[e]at e';cases e'
 rw[d]at d'
 injection d' with d1 _
 have:its=its':=by simpa using congrArg Array.toList d1
 subst this
 exact r.inj r'
end
noncomputable abbrev Cx.ZiF (X:Cx) (E:Value->Shared->Prop):Cx:={X with xe:=E}
noncomputable abbrev Cx.nox (X:Cx):Cx:=X.ZiF λ_ _=>False
theorem Cx.Ok.ZiF {X:Cx} (ok:X.Ok) (E:Value->Shared->Prop):(X.ZiF E).Ok :=
 ⟨ok.mod,ok.kind,ok.glob,ok.blt,ok.above,ok.inj,ok.has,ok.cab,ok.hd,ok.frames,ok.stk,ok.exf,ok.bs,ok.bsz,ok.noex,ok.exfs,ok.funs,ok.frf⟩
theorem Cx.Ok.Zew {X:Cx}{E:Value->Shared->Prop} (ok:(X.ZiF E).Ok):X.Ok :=
 ⟨ok.mod,ok.kind,ok.glob,ok.blt,ok.above,ok.inj,ok.has,ok.cab,ok.hd,ok.frames,ok.stk,ok.exf,ok.bs,ok.bsz,ok.noex,ok.exfs,ok.funs,ok.frf⟩
section
variable {X:Cx}{pins:List (Addr×Obj)}{σ:St}{H:Hp}{s:Shared}{E:Value->Shared->Prop}
theorem Inv.ZiF (I:Inv X pins σ H s) (E:Value->Shared->Prop):Inv (X.ZiF E) pins σ H s:=⟨I.ok.ZiF E,I.os,I.bare,I.base,I.loc,I.cell,I.free,I.freeC,I.pin,I.hok,I.len⟩
theorem Inv.Zew (I:Inv (X.ZiF E) pins σ H s):Inv X pins σ H s:=⟨I.ok.Zew,I.os,I.bare,I.base,I.loc,I.cell,I.free,I.freeC,I.pin,I.hok,I.len⟩
theorem SP.Zew {D:Ends}{f:Flow}{s':Shared} (h:SP (X.ZiF E) pins D f s'):SP X pins D f s':=by
 cases f with
 |next=>obtain⟨σ',H',I,q⟩:=h;exact⟨σ',H',I.Zew,q⟩
 |brk=>obtain⟨σ',H',I,q⟩:=h;exact⟨σ',H',I.Zew,q⟩
 |cont=>obtain⟨σ',H',I,q⟩:=h;exact⟨σ',H',I.Zew,q⟩
 |ret u=>obtain⟨v,σ',H',I,r,q⟩:=h;exact⟨v,σ',H',I.Zew,r,q⟩
end
section
variable {X:Cx}{st:Stmt}{rest:List Stmt}{t u:TS}{e:Expr}{te:TE}{pos:Pos}
noncomputable def Zow:TS:=λD σ H=>D.nx σ H
noncomputable def tSeq (t u:TS):TS:=λD σ H=>t {D with nx:=u D} σ H
theorem ZH:PSs X [] Zow:=λ_ _ σ H _ I h=>wpAny_execs_nil ⟨σ,H,I,h⟩
theorem Zd (h1:PS X st t) (h2:PSs X rest u):PSs X (st::rest) (tSeq t u):=by
 intro pins s σ H D I h
 refine wpAny_execs_cons (thn (h1 pins s σ H {D with nx:=u D} I h) λf s1 q=>?_)
 cases f with
 |next =>
  obtain⟨σ',H',I',q⟩:=q
  exact h2 pins s1 σ' H' D I' q
 |ret v=>exact q
 |brk=>exact q
 |cont=>exact q
theorem Zg (h1:PS X st t):PSs X [st] t:=by
 intro pins s σ H D I h
 refine wpAny_execs_cons (thn (h1 pins s σ H D I h) λf s1 q=>?_)
 cases f with
 |next=>exact wpAny_execs_nil q
 |ret v=>exact q
 |brk=>exact q
 |cont=>exact q
theorem Inv.quiet {pins:List (Addr×Obj)}{σ:St}{H:Hp}{s:Shared} (I:Inv X pins σ H s):interactive X.env=false:=by simp[interactive,I.ok.kind]
noncomputable def Zox (te:TE):TS:=λD σ H=>te σ H λ_ H1=>D.nx σ H1
theorem Z1 (he:PE X e te) (hs:swapsWith e none pos.line X.env=pure false:=by rfl):PS X (.Expr e pos) (Zox te):=by
 intro pins s σ H D I h
 exact wpAny_Expr_any (thn (he pins s σ H _ I h) λv s1 ⟨x,H1,I1,r1,q1⟩=>⟨σ,H1,I1,q1⟩) I.quiet hs
noncomputable def tRet (te:TE):TS:=λD σ H=>te σ H D.rt
theorem Zz (he:PE X e te):PS X (.Return (some e) pos) (tRet te):=by
 intro pins s σ H D I h
 exact wpAny_Return_some (thn (he pins s σ H _ I h) λv s1 ⟨x,H1,I1,r1,q1⟩=>⟨x,σ,H1,I1,r1,q1⟩)
noncomputable def tIfS (c:TT) (t u:TS):TS:=λD σ H=>c σ H λb H1=>if b=true then t D σ H1 else u D σ H1
theorem Z2 {c:Expr}{a b:List Stmt}{tc:TT} (hc:PT X c tc) (ha:PSs X a t) (hb:PSs X b u):PS X (.If c a b pos) (tIfS tc t u):=by
 intro pins s σ H D I h
 refine wpAny_If (thn (hc pins s σ H _ I h) λd s1 ⟨H1,I1,q1⟩=>?_)
 cases d with
 |true=>exact ha pins s1 σ H1 D I1 q1
 |false=>exact hb pins s1 σ H1 D I1 q1
end
noncomputable abbrev TG:=V->St->Hp->(St->Hp->Prop)->Prop
noncomputable abbrev TGs:=List V->St->Hp->(St->Hp->Prop)->Prop
noncomputable def PG (X:Cx) (target:Expr) (t:TG):Prop :=
 ∀(pins:List (Addr×Obj)) (s:Shared) (σ:St) (H:Hp) (v:V) (u:Value) (Q:St->Hp->Prop),Inv X pins σ H s->RelV v u->t v σ H Q ->
  wpAny (model X.prog X.w) X.A (assign target X.env u) (λ_ s'=>∃σ' H',Inv X pins σ' H' s'/\Q σ' H') X.xe s
noncomputable def PGs (X:Cx) (ts:List Expr) (t:TGs):Prop :=
 ∀(pins:List (Addr×Obj)) (s:Shared) (σ:St) (H:Hp) (vs:List V) (us:List Value) (Q:St->Hp->Prop),Inv X pins σ H s->Vals vs us->t vs σ H Q ->
  wpAny (model X.prog X.w) X.A (assignInOrder ((assignEach ts X.env).map (·.2)) us) (λ_ s'=>∃σ' H',Inv X pins σ' H' s'/\Q σ' H') X.xe s
noncomputable abbrev TSet:=V->V->V->Hp->(Hp->Prop)->Prop
noncomputable def PSet (X:Cx) (t:TSet):Prop :=
 ∀(pins:List (Addr×Obj)) (s:Shared) (σ:St) (H:Hp) (o i v:V) (ov iv u:Value) (Q:Hp->Prop),Inv X pins σ H s->RelV o ov->RelV i iv->RelV v u->t o i v H Q ->
  wpAny (model X.prog X.w) X.A (setItem ov iv u) (λ_ s'=>∃H',Inv X pins σ H' s'/\Q H') X.xe s
noncomputable abbrev TIp:=V->V->Hp->VK->Prop
noncomputable def PIp (X:Cx) (op:Operator) (t:TIp):Prop :=
 ∀(pins:List (Addr×Obj)) (s:Shared) (σ:St) (H:Hp) (x y:V) (v u:Value) (Q:VK),Inv X pins σ H s->RelV x v->RelV y u->t x y H Q ->
  wpAny (model X.prog X.w) X.A (inplaceOp op v u) (EP X pins σ Q) X.xe s
section
variable {X:Cx}{pos:Pos}
noncomputable def Zex (i:Nat):TG:=λv σ H Q=>Q (σ.set i (some v)) H
theorem Zl {i:Nat}{x:Str} (hN:X.N.Nodup) (hi:X.N[i]?=some x) (hx:Loc X.env.scope x) (hf:X.fn x=true\/X.env.scope.names.lookup x=some .local:=by first|exact .inl rfl|exact .inr rfl|assumption):PG X (.Name x pos) (Zex i):=by
 intro pins s σ H v u Q I r h
 exact wpAny_assign_Name (ZhI I hN hi hx r (λs' I'=>⟨_,H,I',h⟩) hf)
noncomputable def gNil:TGs:=λvs σ H Q=>vs=[]/\Q σ H
noncomputable def Zoy (t:TG) (u:TGs):TGs:=λvs σ H Q=>∃v r,vs=v::r/\t v σ H fun σ' H'=>u r σ' H' Q
theorem Zhy:PGs X [] gNil:=by
 intro pins s σ H vs us Q I r h
 obtain⟨e,h⟩:=h
 subst e
 cases r
 exact assignInOrder_nil ⟨σ,H,I,h⟩
theorem ZbP {e:Expr}{es:List Expr}{t:TG}{u:TGs} (h1:PG X e t) (h2:PGs X es u)
  (hs:(assignEach (e::es) X.env).map (·.2)=assign e X.env::(assignEach es X.env).map (·.2):=by rfl):PGs X (e::es) (Zoy t u):=by
 intro pins s σ H vs us Q I r h
 obtain⟨v,vr,e1,h⟩:=h
 subst e1
 cases r with
 |cons r rr =>
  rw[hs]
  refine assignInOrder_cons (thn (h1 pins s σ H _ _ _ I r h) λ_ s1 ⟨σ1,H1,I1,q1⟩=>?_)
  exact h2 pins s1 σ1 H1 _ _ Q I1 rr q1
noncomputable def gTup (K:PySem.W.Frag) (n:Nat) (t:TGs):TG:=λv σ H Q=>∃a xs,v=.ref a/\SqT K H a xs/\xs.length=n/\t xs σ H Q
theorem ZlF {es:List Expr}{k:Nat}{t:TGs}{n:Nat} (hc:X.calm=true) (h:PGs X es t)
  (hn:(assignEach es X.env).length=n:=by rfl) (hst:(assignEach es X.env).findIdx? (·.1)=none:=by rfl):PG X (.Tuple es k pos) (gTup X.K n t):=by
 intro pins s σ H v u Q I r hw
 obtain⟨a,xs,e1,hq,hl,hw⟩:=hw
 subst e1
 cases r
 obtain⟨its,rv,ht,hz⟩:=I.tuple hq
 refine assign_Tuple_tuple (I.ok.hd hc) ht (by simp[hn,<-hl,rv.length]) hst λh' hx=>?_
 have I1:Inv X pins σ H {s with heap:=h'}:=I.kept (t':=s.toks) λb o e=>hx b o (Yp (Yl e)) e
 exact h pins _ σ H xs _ Q I1 (by simpa using rv) hw
noncomputable def gSub (to ti:TE) (t:TSet):TG:=λv σ H Q=>to σ H λo H1=>ti σ H1 λi H2=>t o i v H2 λH3=>Q σ H3
theorem ZfD {o i:Expr}{to ti:TE}{t:TSet} (ho:PE X o to) (hi:PE X i ti) (hs:PSet X t)
  (ha:∀v,assign (.Subscript o i pos) X.env v=(do
   let ov <-holding [v] (eval o X.env)
   let iv <-holding [v,ov] (eval i X.env)
   standAt pos
   holding [v,ov,iv] (setItem ov iv v)
   release [v,ov,iv] []):=by intro _;rfl):PG X (.Subscript o i pos) (gSub to ti t):=by
 intro pins s σ H v u Q I r h
 rw[ha]
 refine Ya (wpAny_holding (thn (ho pins s σ H _ I h) λov s1 ⟨x,H1,I1,r1,q1⟩=>?_))
 refine Ya (wpAny_holding (thn (hi pins s1 σ H1 _ I1 q1) λiv s2 ⟨y,H2,I2,r2,q2⟩=>?_))
 refine Ya (wpAny_standAt (Ya (wpAny_holding (thn (hs pins s2 σ H2 x y v ov iv u _ I2 r1 r2 r q2) λ_ s3 ⟨H3,I3,q3⟩=>?_))))
 exact wpAny_release ⟨σ,H3,I3,q3⟩
noncomputable def tAsg (te:TE) (g:TG):TS:=λD σ H=>te σ H λx H1=>g x σ H1 D.nx
theorem ZcT {tg e:Expr}{te:TE}{g:TG} (he:PE X e te) (hg:PG X tg g) (hs:swapsWithSole [tg] e pos.line X.env=pure false:=by rfl) (hw:swappedStores [tg] e X.env=pure none:=by rfl)
  (h1:(assignEach [tg] X.env).map (·.2)=[assign tg X.env]:=by rfl):PS X (.Assign [tg] e pos) (tAsg te g):=by
 intro pins s σ H D I h
 refine wpAny_Assign_stores (thn (he pins s σ H _ I h) λv s1 ⟨x,H1,I1,r1,q1⟩=>?_) hs hw
 rw[h1]
 exact thn (hg pins s1 σ H1 x v _ I1 r1 q1) λ_ s2 q=>q
theorem Zq {i:Nat}{x:Str}{e:Expr}{te:TE}{pos':Pos} (hN:X.N.Nodup) (hi:X.N[i]?=some x) (hx:Loc X.env.scope x) (he:PE X e te) (hs:swapsWith e (some (.Name x pos')) pos.line X.env=pure false:=by rfl) (hf:X.fn x=true\/X.env.scope.names.lookup x=some .local:=by first|exact .inl rfl|exact .inr rfl|assumption) :
  PS X (.Assign [.Name x pos'] e pos) (tAsg te (Zex i)):=by
 intro pins s σ H D I h
 refine wpAny_Assign_Name (thn (he pins s σ H _ I h) λv s1 ⟨y,H1,I1,r1,q1⟩=>?_) hs
 exact ZhI I1 hN hi hx r1 (λs2 I2=>⟨_,H1,I2,q1⟩) hf
noncomputable def tAug (i:Nat) (te:TE) (ti:TIp):TS:=λD σ H=>∃x,σ[i]?=some (some x)/\te σ H λy H1=>ti x y H1 λz H2=>D.nx (σ.set i (some z)) H2
theorem ps_aug {i:Nat}{x:Str}{e:Expr}{te:TE}{op:Operator}{ti:TIp}{pos':Pos} (hN:X.N.Nodup) (hi:X.N[i]?=some x) (hx:Loc X.env.scope x) (he:PE X e te) (ho:PIp X op ti) (hf:X.fn x=true\/X.env.scope.names.lookup x=some .local:=by first|exact .inl rfl|exact .inr rfl|assumption) :
  PS X (.AugAssign (.Name x pos') op e pos) (tAug i te ti):=by
 intro pins s σ H D I h
 obtain⟨v,e1,h⟩:=h
 obtain⟨m,hn,hl⟩:=I.loc
 have vis:Vis X.env.scope x:=by rcases hx with k|k;exact .inl k;exact .inr (.inl k)
 obtain⟨u,r,l⟩:=hl i x v hi e1 vis
 refine wpAny_AugAssign_Name ?_
 have go:wpAny (model X.prog X.w) X.A (eval e X.env) (λw s₂=>wpAny (model X.prog X.w) X.A (inplaceOp op u w) (λr s₃=>wpAny (model X.prog X.w) X.A (storeName X.env x r) (λ_=>SP X pins D .next) X.xe s₃) X.xe s₂) X.xe s:=by
  refine thn (he pins s σ H _ I h) λw s1 ⟨y,H1,I1,r1,q1⟩=>?_
  refine thn (ho pins s1 σ H1 v y u w _ I1 r r1 q1) λz s2 ⟨zv,H2,I2,r2,q2⟩=>?_
  exact ZhI I2 hN hi hx r2 (λs3 I3=>⟨_,H2,I3,q2⟩) hf
 rcases l with⟨hk,hm⟩|⟨hk,c,hc,hcell⟩
 ·exact wpAny_loadName_local I.ok.kind hk hn hm go
 ·rcases hk with hk|hk
  ·exact wpAny_loadName_cell I.ok.kind hk hc hcell go
  ·rcases hx with k|k
   ·have:X.env.scope.names.lookup x=some .free:=hk
    rw[k]at this;cases this
   ·have:X.env.scope.names.lookup x=some .free:=hk
    rw[k]at this;cases this
noncomputable def ipI (f:Int->Int->Int):TIp:=λx y H Q=>∃i j,x=.int i/\y=.int j/\Q (.int (f i j)) H
theorem ip_sub:PIp X .Sub (ipI λi j=>i-j):=by
 intro pins s σ H x y v u Q I r1 r2 h
 obtain⟨i,j,e1,e2,q⟩:=h
 subst e1;subst e2
 obtain⟨t,rfl⟩:=r1
 obtain⟨t',rfl⟩:=r2
 exact isub_int ⟨.int _,H,I.tok _,⟨_,rfl⟩,q⟩
end
section
variable {X:Cx}{pos:Pos}
noncomputable def ZlG (c:TT) (tb:TS):TS:=λD σ H=>∃W:Nat->St->Hp->Prop,(∃m,W m σ H)/\∀m σ H,W m σ H ->
 c σ H λb H1=>if b=true then ∃N:St->Hp->Prop,(∀σ' H',N σ' H'->∃m',m'<m/\W m' σ' H')/\tb {D with nx:=N,ct:=N,bk:=D.nx} σ H1 else D.nx σ H1
theorem ZhM {c:Expr}{body:List Stmt}{tc:TT}{tb:TS} (hp:PassesOwn (model X.prog X.w) X.A X.env X.xe) (hc:PT X c tc) (hb:PSs X body tb):PS X (.While c body [] pos) (ZlG tc tb):=by
 intro pins s σ H D I h
 obtain⟨W,⟨m0,w0⟩,turn⟩:=h
 refine wpAny_While (codeAny_whileLoop (λn s'=>∃σ' H',Inv X pins σ' H' s'/\W n σ' H') ?_ m0 ⟨σ,H,I,w0⟩)
 rintro n s1 ⟨σ1,H1,I1,w1⟩
 refine wpAny_passesOwn hp (thn (hc pins s1 σ1 H1 _ I1 (turn n σ1 H1 w1)) λb s2 ⟨H2,I2,q2⟩=>?_)
 cases b with
 |true =>
  obtain⟨N,hN,q2⟩:=q2
  rw[Ye rfl]
  refine wpAny_passesOwn hp (thn (hb pins s2 σ1 H2 _ I2 q2) λf s3 q3=>?_)
  cases f with
  |next =>
   obtain⟨σ3,H3,I3,n3⟩:=q3
   obtain⟨m',hm,w3⟩:=hN σ3 H3 n3
   exact⟨m',hm,σ3,H3,I3,w3⟩
  |cont =>
   obtain⟨σ3,H3,I3,n3⟩:=q3
   obtain⟨m',hm,w3⟩:=hN σ3 H3 n3
   exact⟨m',hm,σ3,H3,I3,w3⟩
  |brk=>exact q3
  |ret v=>exact q3
 |false =>
  rw[Yd YJ]
  exact wpAny_execs_nil ⟨σ1,H2,I2,q2⟩
end
structure It where
 go:Nat->Hp->Prop
 yld:Nat->Hp->V->Hp->Prop
 stop:Nat->Hp->Prop
noncomputable def FpOk (X:Cx) (pins:List (Addr×Obj)) (H:Hp) (b:Addr):Prop :=
 H b=none/\b≠X.env.locals/\b∉X.fs/\(b∈X.ex\/X.s₀.heap.objs.size<=b)/\(∀x c,X.env.cells.lookup x=some c->c≠b)/\∀p∈X.pn++pins,p.1≠b
theorem Inv.fpOk {X:Cx}{pins:List (Addr×Obj)}{σ:St}{H H':Hp}{s:Shared}{b:Addr} (I:Inv X pins σ H s) (hb:s.heap.objs.size<=b) (hn:H' b=none):FpOk X pins H' b:=by
 refine⟨hn,Nat.ne_of_gt (Yw I.lt hb),I.ZkI hb,.inr (Ym I.sz hb),λx c e z=>?_,λp hp z=>?_⟩
 ·obtain⟨v,q⟩:=I.cell x c e
  exact absurd (Yw q.lt (by rw[z];exact hb)) (Yu _)
 ·exact absurd (Yw (Yl (I.pin p hp).1) (by rw[z];exact hb)) (Yu _)
structure Turn (P:Program) (w:World) (K:PySem.W.Frag) (tg:Expr) (J:It) (fp:List Addr) (it:Addr) (tn:Nat->Heap->Prop):Prop where
 mem:it∈fp
 obj:∀i h,tn i h->∀b∈fp,∃o,h.get? b=some o/\∀v,o.data≠.cell v
 keep:∀i h h',tn i h->(∀b∈fp,∀o,h.get? b=some o->h'.get? b=some o)->tn i h'
 item:∀(X:Cx),X.prog=P->X.w=w->X.K=K->X.calm=true->∀(i:Nat) (pins:List (Addr×Obj)) (s:Shared) (σ:St) (H:Hp) (E:Value->Shared->Prop),Inv X pins σ H s->(∀b∈fp,FpOk X pins H b)->tn i s.heap->J.go i H ->
  wpAny (model P w) X.A (pyNext (.ref it)) (λr s1=>∃u,r=some u /\
   wpAny (model P w) X.A (letOwnedTupleGo tg (.ref it) u) (λ_ s2=>∃x H',Inv X pins σ H' s2/\RelV x u/\J.yld i H x H'/\tn (i+1) s2.heap/\∀b∈fp,H' b=none) E s1) E s
 done:∀(X:Cx),X.prog=P->X.w=w->X.K=K->X.calm=true->∀(i:Nat) (pins:List (Addr×Obj)) (s:Shared) (σ:St) (H:Hp) (E:Value->Shared->Prop),Inv X pins σ H s->(∀b∈fp,FpOk X pins H b)->tn i s.heap->J.stop i H ->
  wpAny (model P w) X.A (pyNext (.ref it)) (λr s1=>r=none/\Inv X pins σ H s1) E s
 self:∀(A:Around) (i:Nat) (s:Shared) (Q:Value->Shared->Prop) (E:Value->Shared->Prop),tn i s.heap->Q (.ref it) s->wpAny (model P w) A (pyIter (.ref it)) Q E s
noncomputable abbrev TI:=St->Hp->(It->Hp->Prop)->Prop
noncomputable def PIE (X:Cx) (pins:List (Addr×Obj)) (σ:St) (tg:Expr) (R:It->Hp->Prop) (itv:Value) (s2:Shared):Prop :=
 ∃(it:Addr) (fp:List Addr) (tn:Nat->Heap->Prop) (J:It) (H':Hp),itv=.ref it/\Inv X pins σ H' s2/\Turn X.prog X.w X.K tg J fp it tn/\tn 0 s2.heap/\(∀b∈fp,FpOk X pins H' b)/\R J H'
noncomputable def PI (X:Cx) (tg iter:Expr) (wi:TI):Prop :=
 ∀(pins:List (Addr×Obj)) (s:Shared) (σ:St) (H:Hp) (R:It->Hp->Prop),Inv X pins σ H s->wi σ H R ->
  wpAny (model X.prog X.w) X.A (eval iter X.env) (λv s1=>wpAny (model X.prog X.w) X.A (pyIter v) (PIE X pins σ tg R) X.xe s1) X.xe s
theorem Zoz {M : Model} {A : Around} {E : Value → Shared → Prop} {s : Shared} {tg : Expr} {it : Addr} {u : Value} {o : Obj} {n : String} {vs : Array Value} {Q : Unit → Shared → Prop} (ho : s.heap.get? it = some o) (hc : o.cls = .type n) (hd : o.data = .fields vs)
    (hn : ["enumerate", "zip", "dict_itemiterator", "dict_reverseitemiterator", "odict_iterator", "itertools.zip_longest", "itertools.pairwise"].contains n = false) (hQ : Q () s) : wpAny M A (letOwnedTupleGo tg (.ref it) u) Q E s := by
  unfold letOwnedTupleGo
  cases tg <;> first
    | exact Yg hQ
    | (cases u <;> first
        | exact Yg hQ
        | (refine Ya (wpAny_load ho ?_)
           rw [hc, hd]
           show wpAny M A (if (["enumerate", "zip", "dict_itemiterator", "dict_reverseitemiterator", "odict_iterator", "itertools.zip_longest", "itertools.pairwise"].contains n && vs[0]? == some (rawInt _)) = true then _ else _) Q E s
           rw [Yd (by intro h; rw [hn, Bool.false_and] at h; cases h)]
           exact Yg hQ))
noncomputable def Itl (K:PySem.W.Frag) (a:Addr):It :=
 ⟨λi H=>∃xs x,SqL K H a xs/\xs[i]?=some x,λi H x H'=>H'=H/\∀xs,SqL K H a xs->xs[i]?=some x,λi H=>∃xs,SqL K H a xs/\xs.length<=i⟩
noncomputable def Itt (K:PySem.W.Frag) (a:Addr):It :=
 ⟨λi H=>∃xs x,SqT K H a xs/\xs[i]?=some x,λi H x H'=>H'=H/\∀xs,SqT K H a xs->xs[i]?=some x,λi H=>∃xs,SqT K H a xs/\xs.length<=i⟩
noncomputable def Itr (lo:Int) (n:Nat):It:=⟨λi _=>i<n,λi H x H'=>H'=H/\x=.int (lo+i),λi _=>n<=i⟩
theorem Znv {P:Program}{w:World}{K:PySem.W.Frag}{tg:Expr} (a it:Addr):Turn P w K tg (Itl K a) [it] it (λi h=>h.IsListIter it a i) where
 mem:=by simp
 obj:=λi h st b hb=>by
  have e:b=it:=by simpa using hb
  subst e
  obtain⟨o,e,c,d⟩:=st
  exact⟨o,e,λv z=>by rw[d]at z;cases z⟩
 keep:=λi h h' st k=>st.at λo e=>k it (by simp) o e
 item:=by
  intro X hP hw hK hc i pins s σ H E I hf st hg
  subst hP hw hK
  obtain⟨xs,x,hq,hx⟩:=hg
  obtain⟨its,rv,p,hz⟩:=I.list hq
  obtain⟨u,hu,ru⟩:=rv.get hx
  obtain⟨f0,f1,f2,f3,f4,f5⟩:=hf it (by simp)
  refine wpAny_pyNext_list_item st p.isList (x:=u) (by simpa using hu) λh' st' sb=>?_
  have I1:Inv X pins σ H {s with heap:=h'}:=I.turned (t':=s.toks) (λb o hb e=>(sb.2 b hb).trans e) f0 f1 f3 f4 f5
  obtain⟨o,e,c,d⟩:=id st'
  exact⟨u,rfl,Zoz (s:={s with heap:=h'}) e c d (by decide) ⟨x,H,I1,ru,⟨rfl,λys hy=>by rw[I.Zch hy hq];exact hx⟩,st',λb hb=>(hf b hb).1⟩⟩
 done:=by
  intro X hP hw hK hc i pins s σ H E I hf st hg
  subst hP hw hK
  obtain⟨xs,hq,hx⟩:=hg
  obtain⟨its,rv,p,hz⟩:=I.list hq
  obtain⟨f0,f1,f2,f3,f4,f5⟩:=hf it (by simp)
  have hl:=rv.length
  exact wpAny_pyNext_list_end (I.ok.hd hc) st p.isList (by simp;omega) λh' eb=>⟨rfl,I.turned (t':=s.toks) (λb o hb e=>eb b o hb e) f0 f1 f3 f4 f5⟩
 self:=λ_ _ _ _ _ st h=>wpAny_pyIter_listiter st h
theorem ZlH {P:Program}{w:World}{K:PySem.W.Frag}{tg:Expr} (a it:Addr):Turn P w K tg (Itt K a) [it] it (λi h=>h.IsTupleIter it a i) where
 mem:=by simp
 obj:=λi h st b hb=>by
  have e:b=it:=by simpa using hb
  subst e
  obtain⟨o,e,c,d⟩:=st
  exact⟨o,e,λv z=>by rw[d]at z;cases z⟩
 keep:=λi h h' st k=>st.at λo e=>k it (by simp) o e
 item:=by
  intro X hP hw hK hc i pins s σ H E I hf st hg
  subst hP hw hK
  obtain⟨xs,x,hq,hx⟩:=hg
  obtain⟨its,rv,p,hz⟩:=I.tuple hq
  obtain⟨u,hu,ru⟩:=rv.get hx
  obtain⟨f0,f1,f2,f3,f4,f5⟩:=hf it (by simp)
  refine wpAny_pyNext_tuple_item st (show s.heap.IsTuple a its.toArray from p) (x:=u) (by simpa using hu) λh' st' sb=>?_
  have I1:Inv X pins σ H {s with heap:=h'}:=I.turned (t':=s.toks) (λb o hb e=>(sb.2 b hb).trans e) f0 f1 f3 f4 f5
  obtain⟨o,e,c,d⟩:=id st'
  exact⟨u,rfl,Zoz (s:={s with heap:=h'}) e c d (by decide) ⟨x,H,I1,ru,⟨rfl,λys hy=>by rw[I.Zfd hy hq];exact hx⟩,st',λb hb=>(hf b hb).1⟩⟩
 done:=by
  intro X hP hw hK hc i pins s σ H E I hf st hg
  subst hP hw hK
  obtain⟨xs,hq,hx⟩:=hg
  obtain⟨its,rv,p,hz⟩:=I.tuple hq
  obtain⟨f0,f1,f2,f3,f4,f5⟩:=hf it (by simp)
  have hl:=rv.length
  exact wpAny_pyNext_tuple_end (I.ok.hd hc) st (show s.heap.IsTuple a its.toArray from p) (by simp;omega) λh' eb=>⟨rfl,I.turned (t':=s.toks) (λb o hb e=>eb b o hb e) f0 f1 f3 f4 f5⟩
 self:=λ_ _ _ _ _ st h=>wpAny_pyIter_tupleiter st h
theorem ZlI {P:Program}{w:World}{K:PySem.W.Frag}{tg:Expr} (it:Addr) (lo:Int) (n:Nat):Turn P w K tg (Itr lo n) [it] it (λi h=>IsRangeIter h it (lo+(i:Nat)*1) ((n:Int)-(i:Nat)) 1) where
 mem:=by simp
 obj:=λi h st b hb=>by
  have e:b=it:=by simpa using hb
  subst e
  exact⟨_,st,λv z=>by
   have z':Data.fields _=Data.cell v:=z
   cases z'⟩
 keep:=λi h h' st k=>k it (by simp) _ st
 item:=by
  intro X hP hw hK hc i pins s σ H E I hf st hg
  subst hP hw hK
  obtain⟨f0,f1,f2,f3,f4,f5⟩:=hf it (by simp)
  have W:=Walks.range (prog:=X.prog) (w:=X.w) (I.ok.hd hc) it lo 1 n
  refine W.item i s _ _ hg st λv h' tk hv st' kk=>?_
  obtain⟨t,rfl⟩:=hv
  have I1:Inv X pins σ H {s with heap:=h',toks:=tk}:=I.turned (λb o hb e=>kk b o (by simpa using hb) e) f0 f1 f3 f4 f5
  refine⟨_,rfl,Zoz (s:={s with heap:=h',toks:=tk}) (n:="range_iterator") st' rfl rfl (by decide) ⟨.int (lo+i),H,I1,⟨t,?_⟩,⟨rfl,rfl⟩,st',λb hb=>(hf b hb).1⟩⟩
  rw[Int.mul_one]
 done:=by
  intro X hP hw hK hc i pins s σ H E I hf st hg
  subst hP hw hK
  obtain⟨f0,f1,f2,f3,f4,f5⟩:=hf it (by simp)
  exact wpAny_pyNext_range_end (I.ok.hd hc) st (by have:n<=i:=hg;omega) λh' eb=>⟨rfl,I.turned (t':=s.toks) (λb o hb e=>eb b o hb e) f0 f1 f3 f4 f5⟩
 self:=λ_ _ _ _ _ st h=>wpAny_pyIter_rangeiter st h
section
variable {X:Cx}{tg:Expr}
noncomputable def ZmJ (K:PySem.W.Frag) (tl:TE):TI:=fun σ H R=>tl σ H λx H1=>∃a,x=.ref a/\(∃xs,SqL K H1 a xs)/\R (Itl K a) H1
noncomputable def iTup (K:PySem.W.Frag) (tl:TE):TI:=fun σ H R=>tl σ H λx H1=>∃a,x=.ref a/\(∃xs,SqT K H1 a xs)/\R (Itt K a) H1
theorem Zav {l:Expr}{tl:TE} (hl:PE X l tl):PI X tg l (ZmJ X.K tl):=by
 intro pins s σ H R I h
 refine thn (hl pins s σ H _ I h) λv s1 ⟨x,H1,I1,r1,q1⟩=>?_
 obtain⟨a,e,⟨xs,hq⟩,q⟩:=q1
 subst e
 cases r1
 obtain⟨its,rv,p,hz⟩:=I1.list hq
 refine wpAny_pyIter_list p.isList ?_
 refine⟨s1.heap.objs.size,[s1.heap.objs.size],_,_,H1,rfl,I1.kept (t':=s1.toks) λb o e=>Yo _ e,Znv a _,⟨_,YE _ rfl,rfl,rfl⟩,λb hb=>?_,q⟩
 have e:b=s1.heap.objs.size:=by simpa using hb
 subst e
 exact I1.fpOk (Yc _) (I1.hok.fresh (Yc _))
theorem ZlJ {l:Expr}{tl:TE} (hl:PE X l tl):PI X tg l (iTup X.K tl):=by
 intro pins s σ H R I h
 refine thn (hl pins s σ H _ I h) λv s1 ⟨x,H1,I1,r1,q1⟩=>?_
 obtain⟨a,e,⟨xs,hq⟩,q⟩:=q1
 subst e
 cases r1
 obtain⟨its,rv,p,hz⟩:=I1.tuple hq
 refine wpAny_pyIter_tuple (show s1.heap.IsTuple a its.toArray from p) ?_
 refine⟨s1.heap.objs.size,[s1.heap.objs.size],_,_,H1,rfl,I1.kept (t':=s1.toks) λb o e=>Yo _ e,ZlH a _,⟨_,YE _ rfl,rfl,rfl⟩,λb hb=>?_,q⟩
 have e:b=s1.heap.objs.size:=by simpa using hb
 subst e
 exact I1.fpOk (Yc _) (I1.hok.fresh (Yc _))
theorem ZkK {pins:List (Addr×Obj)}{σ:St}{H:Hp}{s:Shared}{R:It->Hp->Prop}{E:Value->Shared->Prop}{lo hi:Int}{t u v:Tok}{tk:Nat} (I:Inv X pins σ H s) (h1:-(2 ^ 62)<=lo) (h2:lo<2 ^ 62) (h3:-(2 ^ 62)<=hi) (h4:hi<2 ^ 62)
  (q:R (Itr lo (hi-lo).toNat) H):wpAny (model X.prog X.w) X.A (pyIter (.ref s.heap.objs.size)) (PIE X pins σ tg R) E {s with heap:=s.heap.push {cls:=.type "range",data:=.fields #[.int lo t,.int hi u,.int 1 v]},toks:=tk}:=by
 refine wpAny_pyIter_range (IsRange.new ..) (small_one h1 h2 h3 h4) ?_
 have I1:Inv X pins σ H {s with heap:=s.heap.push {cls:=.type "range",data:=.fields #[.int lo t,.int hi u,.int 1 v]},toks:=tk}:=I.kept λb o e=>Yo _ e
 refine⟨(s.heap.push {cls:=.type "range",data:=.fields #[.int lo t,.int hi u,.int 1 v]}).objs.size,[(s.heap.push {cls:=.type "range",data:=.fields #[.int lo t,.int hi u,.int 1 v]}).objs.size],_,_,H,rfl,
  I1.kept (t':=tk) λb o e=>Yo _ e,ZlI _ lo (hi-lo).toNat,?_,λb hb=>?_,q⟩
 ·have e1:lo+((0:Nat):Int)*1=lo:=by simp
  have e2:(((hi-lo).toNat:Nat):Int)-((0:Nat):Int)=Builtin.Range.rangeSize lo hi 1:=by rw[rangeSize_one];split<;>omega
  show IsRangeIter _ _ (lo+((0:Nat):Int)*1) ((((hi-lo).toNat:Nat):Int)-((0:Nat):Int)) 1
  rw[e1,e2]
  exact YE _ rfl
 ·have e:b=(s.heap.push {cls:=.type "range",data:=.fields #[.int lo t,.int hi u,.int 1 v]}).objs.size:=by simpa using hb
  subst e
  exact I1.fpOk (Yc _) (I1.hok.fresh (Yc _))
noncomputable def ZoA (ta:TA):TI:=fun σ H R=>ta σ H λvs H1=>∃j:Int,vs=[.int j]/\-(2 ^ 62)<=j/\j<2 ^ 62/\R (Itr 0 j.toNat) H1
noncomputable def ZoB (ta:TA):TI:=fun σ H R=>ta σ H λvs H1=>∃i j:Int,vs=[.int i,.int j]/\(-(2 ^ 62)<=i/\i<2 ^ 62/\-(2 ^ 62)<=j/\j<2 ^ 62)/\R (Itr i (j-i).toNat) H1
theorem ZF {a:Expr}{ta:TA}{p pos:Pos} (hg:Gl X "range") (hm:X.mg "range"=none) (ha:PA X [a] ta) (hs:starEach [a] X.env=[(false,eval a X.env)]:=by rfl):PI X tg (.Call (.Name "range" p) [a] [] pos) (ZoA ta):=by
 intro pins s σ H R I h
 refine Call_ (Zcg I hg hm boot_range (PyProof.Rows.callWith_type1 (thn (ha pos pins s σ H _ I h) λus s1 ⟨vs,H1,I1,r1,q1⟩=>?_) hs rfl))
 obtain⟨j,e,q1,q2,q⟩:=q1
 subst e
 cases r1 with
 |cons r rr =>
  cases rr
  obtain⟨t,rfl⟩:=r
  exact call_range_1 (ZkK I1 (by omega) (by omega) q1 q2 (by simpa using q))
theorem Zfe {a b:Expr}{ta:TA}{p pos:Pos} (hg:Gl X "range") (hm:X.mg "range"=none) (ha:PA X [a,b] ta) (hs:starEach [a,b] X.env=[(false,eval a X.env),(false,eval b X.env)]:=by rfl) (hs2:starEach [b] X.env=[(false,eval b X.env)]:=by rfl) :
  PI X tg (.Call (.Name "range" p) [a,b] [] pos) (ZoB ta):=by
 intro pins s σ H R I h
 refine Call_ (Zcg I hg hm boot_range (PyProof.Rows.callWith_type1 (thn (ha pos pins s σ H _ I h) λus s1 ⟨vs,H1,I1,r1,q1⟩=>?_) (by rw[hs,hs2]) (by rw[hs2];rfl)))
 obtain⟨i,j,e,⟨q1,q2,q3,q4⟩,q⟩:=q1
 subst e
 cases r1 with
 |cons r rr =>
  cases rr with
  |cons r' rr =>
   cases rr
   obtain⟨t,rfl⟩:=r
   obtain⟨t',rfl⟩:=r'
   exact call_range_2 (ZkK I1 q1 q2 q3 q4 q)
noncomputable def tFor (wi:TI) (g:TG) (tb:TS):TS:=λD σ H=>wi σ H λJ H1=>∃W:Nat->Nat->St->Hp->Prop,(∃m,W 0 m σ H1)/\∀i m σ H,W i m σ H ->
 (J.stop i H/\D.nx σ H)\/(J.go i H/\∃N:St->Hp->Prop,(∀σ' H',N σ' H'->∃m',m'<m/\W (i+1) m' σ' H')/\∀x H',J.yld i H x H'->g x σ H' fun σ2 H2=>tb {D with nx:=N,ct:=N,bk:=D.nx} σ2 H2)
noncomputable def Zey (fp:List Addr) (h:Heap):List (Addr×Obj):=fp.filterMap λb=>(h.get? b).map λo=>(b,o)
theorem ZdL {fp:List Addr}{h:Heap}{b:Addr}{o:Obj} (hb:b∈fp) (e:h.get? b=some o):(b,o)∈Zey fp h:=List.mem_filterMap.mpr ⟨b,hb,by rw[e];rfl⟩
theorem Zi7 {fp:List Addr}{h:Heap}{p:Addr×Obj} (hp:p∈Zey fp h):p.1∈fp/\h.get? p.1=some p.2:=by
 obtain⟨b,hb,e⟩:=List.mem_filterMap.mp hp
 cases q:h.get? b with
 |none=>rw[q]at e;cases e
 |some o =>
  rw[q]at e
  have e':(b,o)=p:=YD e
  subst e'
  exact⟨hb,q⟩
theorem Inv.pinned {pins:List (Addr×Obj)}{σ:St}{H:Hp}{s:Shared}{fp:List Addr} (I:Inv X pins σ H s) (hf:∀b∈fp,FpOk X pins H b) (ho:∀b∈fp,∃o,s.heap.get? b=some o/\∀v,o.data≠.cell v):Inv X (pins++Zey fp s.heap) σ H s :=
 I.ZI λp hp=>(Yy.mp hp).elim (λz=>I.pin p (Yj _ z)) λz=>by
  obtain⟨hb,e⟩:=Zi7 z
  obtain⟨f0,f1,f2,_⟩:=hf p.1 hb
  obtain⟨o,e',d⟩:=ho p.1 hb
  rw[e]at e';cases e'
  exact⟨e,f0,f1,f2,d⟩
theorem Inv.Zez {pins pl:List (Addr×Obj)}{σ:St}{H:Hp}{s:Shared} (I:Inv X (pins++pl) σ H s):Inv X pins σ H s:=I.ZI λp hp=>I.pin p (Yj _ (YM _ hp))
theorem ZbS {iter:Expr}{body:List Stmt}{wi:TI}{g:TG}{tb:TS}{pos:Pos} (hp:PassesOwn (model X.prog X.w) X.A X.env X.xe) (hc:X.calm=true) (hi:PI X tg iter wi) (hg:PG X tg g) (hb:PSs X body tb)
  (hs:∀x,foldedSetIterable iter X.env x=pure x:=by intro _;rfl):PS X (.For tg iter body [] pos) (tFor wi g tb):=by
 intro pins s σ H D I h
 refine wpAny_For (thn (hi pins s σ H _ I h) λv s1 h1=>thn h1 λitv s2 h2=>?_) hs
 obtain⟨it,fp,tn,J,H2,e,I2,T,st2,f2,W,⟨m0,w0⟩,turn⟩:=h2
 subst e
 -- what stays true of the iterator's objects through the loop
 have stat:∀{H':Hp},(∀b∈fp,H' b=none)->∀b∈fp,FpOk X pins H' b:=λhn b hb=>⟨hn b hb,(f2 b hb).2⟩
 refine codeAny_forLoop_any (λn s'=>∃i σ' H',Inv X pins σ' H' s'/\tn i s'.heap/\(∀b∈fp,H' b=none)/\W i n σ' H') ?_ m0 ⟨0,σ,H2,I2,st2,λb hb=>(f2 b hb).1,w0⟩
 rintro n s3 ⟨i,σ3,H3,I3,st3,fr3,w3⟩
 rcases turn i n σ3 H3 w3 with⟨stop,qn⟩|⟨go,N,hN,step⟩
 ·refine wpAny_passesOwn hp (thn (T.done X rfl rfl rfl hc i pins s3 σ3 H3 X.xe I3 (stat fr3) st3 stop) λr s4 ⟨hr,I4⟩=>?_)
  subst hr
  exact wpAny_execs_nil ⟨σ3,H3,I4,qn⟩
 ·refine wpAny_passesOwn hp (thn (T.item X rfl rfl rfl hc i pins s3 σ3 H3 X.xe I3 (stat fr3) st3 go) λr s4 ⟨u,hr,h4⟩=>?_)
  subst hr
  refine wpAny_passesOwn hp (thn h4 λ_ s5 ⟨x,H5,I5,r5,y5,st5,fr5⟩=>?_)
  have I5':=I5.pinned (stat fr5) (T.obj _ _ st5)
  refine wpAny_passesOwn hp (thn (hg _ s5 σ3 H5 x u _ I5' r5 (step x H5 y5)) λ_ s6 ⟨σ6,H6,I6,q6⟩=>?_)
  refine wpAny_passesOwn hp (thn (hb _ s6 σ6 H6 _ I6 q6) λf s7 q7=>?_)
  have again:∀{σ7:St}{H7:Hp},Inv X (pins++Zey fp s5.heap) σ7 H7 s7->N σ7 H7->∃m,m<n/\∃i σ' H',Inv X pins σ' H' s7/\tn i s7.heap/\(∀b∈fp,H' b=none)/\W i m σ' H':=λ{σ7 H7} I7 n7=>by
   obtain⟨m',hm,w7⟩:=hN σ7 H7 n7
   refine⟨m',hm,i+1,σ7,H7,I7.Zez,T.keep _ _ _ st5 λb hb o e=>(I7.pin (b,o) (Yj _ (Yj _ (ZdL hb e)))).1,λb hb=>?_,w7⟩
   obtain⟨o,e,d⟩:=T.obj _ _ st5 b hb
   exact(I7.pin (b,o) (Yj _ (Yj _ (ZdL hb e)))).2.1
  cases f with
  |next=>obtain⟨σ7,H7,I7,n7⟩:=q7;exact again I7 n7
  |cont=>obtain⟨σ7,H7,I7,n7⟩:=q7;exact again I7 n7
  |brk=>obtain⟨σ7,H7,I7,q7⟩:=q7;exact⟨σ7,H7,I7.Zez,q7⟩
  |ret v=>obtain⟨x7,σ7,H7,I7,r7,q7⟩:=q7;exact⟨x7,σ7,H7,I7.Zez,r7,q7⟩
end
theorem ZhN {K:PySem.W.Frag}{a:Addr}{xs:List V}{g:TG}{tb:TS}{D:Ends}{σ:St}{H:Hp} (Pv:Nat->St->Hp->Prop) (h0:Pv 0 σ H) (hl:∀i σ H,i<=xs.length->Pv i σ H->SqL K H a xs)
  (hs:∀i x σ H,xs[i]?=some x->Pv i σ H->g x σ H fun σ2 H2=>tb {D with nx:=Pv (i+1),ct:=Pv (i+1),bk:=D.nx} σ2 H2) (hd:∀σ H,Pv xs.length σ H->D.nx σ H) :
  ∃W:Nat->Nat->St->Hp->Prop,(∃m,W 0 m σ H)/\∀i m σ H,W i m σ H ->
   ((Itl K a).stop i H/\D.nx σ H)\/((Itl K a).go i H/\∃N:St->Hp->Prop,(∀σ' H',N σ' H'->∃m',m'<m/\W (i+1) m' σ' H')/\∀x H',(Itl K a).yld i H x H'->g x σ H' fun σ2 H2=>tb {D with nx:=N,ct:=N,bk:=D.nx} σ2 H2):=by
 refine⟨λi m σ H=>m=xs.length-i/\i<=xs.length/\Pv i σ H,⟨xs.length,by simp,Yv _,h0⟩,?_⟩
 rintro i m σ H ⟨rfl,hi,p⟩
 have q:=hl i σ H hi p
 by_cases hlt:i<xs.length
 ·refine .inr ⟨⟨xs,xs[i],q,by simp[hlt]⟩,Pv (i+1),fun σ' H' p'=>⟨xs.length-(i+1),by omega,rfl,hlt,p'⟩,λx H' y=>?_⟩
  obtain⟨e,y⟩:=y
  subst e
  exact hs i x σ _ (y xs q) p
 ·have e:i=xs.length:=by omega
  subst e
  exact .inl ⟨⟨xs,q,Yc _⟩,hd σ H p⟩
theorem Zbi {lo:Int}{n:Nat}{g:TG}{tb:TS}{D:Ends}{σ:St}{H:Hp} (Pv:Nat->St->Hp->Prop) (h0:Pv 0 σ H)
  (hs:∀i σ H,i<n->Pv i σ H->g (.int (lo+i)) σ H fun σ2 H2=>tb {D with nx:=Pv (i+1),ct:=Pv (i+1),bk:=D.nx} σ2 H2) (hd:∀σ H,Pv n σ H->D.nx σ H) :
  ∃W:Nat->Nat->St->Hp->Prop,(∃m,W 0 m σ H)/\∀i m σ H,W i m σ H ->
   ((Itr lo n).stop i H/\D.nx σ H)\/((Itr lo n).go i H/\∃N:St->Hp->Prop,(∀σ' H',N σ' H'->∃m',m'<m/\W (i+1) m' σ' H')/\∀x H',(Itr lo n).yld i H x H'->g x σ H' fun σ2 H2=>tb {D with nx:=N,ct:=N,bk:=D.nx} σ2 H2):=by
 refine⟨λi m σ H=>m=n-i/\i<=n/\Pv i σ H,⟨n,by simp,Yv _,h0⟩,?_⟩
 rintro i m σ H ⟨rfl,hi,p⟩
 by_cases hlt:i<n
 ·refine .inr ⟨hlt,Pv (i+1),fun σ' H' p'=>⟨n-(i+1),by omega,rfl,hlt,p'⟩,λx H' y=>?_⟩
  obtain⟨e,y⟩:=y
  subst e y
  exact hs i σ _ hlt p
 ·have e:i=n:=by omega
  subst e
  exact .inl ⟨Yc _,hd σ H p⟩
noncomputable abbrev R2:=V->V->Hp->VK->Prop
noncomputable def OpR (X:Cx) (f:Value->Value->Sem Value) (r:R2):Prop :=
 ∀(pins:List (Addr×Obj)) (s:Shared) (σ:St) (H:Hp) (x y:V) (v u:Value) (Q:VK),Inv X pins σ H s->RelV x v->RelV y u->r x y H Q ->
  wpAny (model X.prog X.w) X.A (f v u) (EP X pins σ Q) X.xe s
noncomputable def UnR (X:Cx) (f:Value->Sem Value) (r:V->Hp->VK->Prop):Prop :=
 ∀(pins:List (Addr×Obj)) (s:Shared) (σ:St) (H:Hp) (x:V) (v:Value) (Q:VK),Inv X pins σ H s->RelV x v->r x H Q ->
  wpAny (model X.prog X.w) X.A (f v) (EP X pins σ Q) X.xe s
noncomputable def Zci (X:Cx) (f:Value) (r:List V->Hp->VK->Prop):Prop :=
 ∀(pins:List (Addr×Obj)) (s:Shared) (σ:St) (H:Hp) (xs:List V) (us:List Value) (Q:VK),Inv X pins σ H s->Vals xs us->r xs H Q ->
  wpAny (model X.prog X.w) X.A (call f us) (EP X pins σ Q) X.xe s
noncomputable def TruR (X:Cx) (r:V->Hp->(Bool->Hp->Prop)->Prop):Prop :=
 ∀(pins:List (Addr×Obj)) (s:Shared) (σ:St) (H:Hp) (x:V) (v:Value) (Q:Bool->Hp->Prop),Inv X pins σ H s->RelV x v->r x H Q ->
  wpAny (model X.prog X.w) X.A (truthy v) (TP X pins σ Q) X.xe s
noncomputable def tOp (r:R2) (ta tb:TE):TE:=fun σ H Q=>ta σ H λx H1=>tb σ H1 λy H2=>r x y H2 Q
noncomputable def tUn (r:V->Hp->VK->Prop) (ta:TE):TE:=fun σ H Q=>ta σ H λx H1=>r x H1 Q
noncomputable def rI (C:Int->Int->Prop) (g:Int->Int->V):R2:=λx y H Q=>∃i j,x=.int i/\y=.int j/\C i j/\Q (g i j) H
noncomputable def rI0 (g:Int->Int->V):R2:=λx y H Q=>∃i j,x=.int i/\y=.int j/\Q (g i j) H
noncomputable def rU (g:Int->V):V->Hp->VK->Prop:=λx H Q=>∃i,x=.int i/\Q (g i) H
section
variable {X:Cx}{a b c:Expr}{ta tb tc:TE}{pos:Pos}
theorem binT (ha:PE X a ta) (hb:PE X b tb) {pins:List (Addr×Obj)}{s:Shared}{σ:St}{H:Hp}{R:V->V->Hp->Prop} (I:Inv X pins σ H s)
  (h:ta σ H λx H1=>tb σ H1 λy H2=>R x y H2) {Q:Value->Shared->Prop}{f:Value->Value->Sem Value}
  (hf:∀v u s2 x y H2,Inv X pins σ H2 s2->RelV x v->RelV y u->R x y H2->wpAny (model X.prog X.w) X.A (f v u) Q X.xe s2) :
  wpAny (model X.prog X.w) X.A (eval a X.env) (λv s₁=>wpAny (model X.prog X.w) X.A (eval b X.env) (λu s₂=>wpAny (model X.prog X.w) X.A (f v u) Q X.xe s₂) X.xe s₁) X.xe s:=by
 refine thn (ha pins s σ H _ I h) λv s1 ⟨x,H1,I1,r1,q1⟩=>?_
 refine thn (hb pins s1 σ H1 _ I1 q1) λu s2 ⟨y,H2,I2,r2,q2⟩=>?_
 exact hf v u s2 x y H2 I2 r1 r2 q2
theorem Zw {op:Operator}{r:R2} (ho:OpR X (binaryOp op) r) (ha:PE X a ta) (hb:PE X b tb):PE X (.BinOp a op b pos) (tOp r ta tb):=by
 intro pins s σ H Q I h
 exact wpAny_BinOp (binT ha hb I h λv u s2 x y H2 I2 rx ry q=>ho pins s2 σ H2 x y v u Q I2 rx ry q)
theorem Zfr {op:UnaryOp}{r:V->Hp->VK->Prop} (ho:UnR X (unaryOp op) r) (ha:PE X a ta):PE X (.UnaryOp op a pos) (tUn r ta):=by
 intro pins s σ H Q I h
 exact UnaryOp_ (thn (ha pins s σ H _ I h) λv s1 ⟨x,H1,I1,r1,q1⟩=>ho pins s1 σ H1 x v Q I1 r1 q1)
theorem opI {f:Value->Value->Sem Value}{C:Int->Int->Prop}{g:Int->Int->Int}
  (rule:∀(i j:Int) (t u:Tok) (s:Shared) (Q:Value->Shared->Prop) (E:Value->Shared->Prop),C i j->Q (.int (g i j) s.toks) {s with toks:=s.toks+1}->wpAny (model X.prog X.w) X.A (f (.int i t) (.int j u)) Q E s) :
  OpR X f (rI C λi j=>.int (g i j)):=by
 intro pins s σ H x y v u Q I rx ry h
 obtain⟨i,j,rfl,rfl,hc,q⟩:=h
 obtain⟨t,rfl⟩:=rx
 obtain⟨t',rfl⟩:=ry
 exact rule i j t t' s _ _ hc ⟨.int (g i j),H,I.tok _,⟨_,rfl⟩,q⟩
theorem opI0 {f:Value->Value->Sem Value}{g:Int->Int->Int}
  (rule:∀(i j:Int) (t u:Tok) (s:Shared) (Q:Value->Shared->Prop) (E:Value->Shared->Prop),Q (.int (g i j) s.toks) {s with toks:=s.toks+1}->wpAny (model X.prog X.w) X.A (f (.int i t) (.int j u)) Q E s) :
  OpR X f (rI0 λi j=>.int (g i j)):=by
 intro pins s σ H x y v u Q I rx ry h
 obtain⟨i,j,rfl,rfl,q⟩:=h
 obtain⟨t,rfl⟩:=rx
 obtain⟨t',rfl⟩:=ry
 exact rule i j t t' s _ _ ⟨.int (g i j),H,I.tok _,⟨_,rfl⟩,q⟩
theorem opB0 {f:Value->Value->Sem Value}{g:Int->Int->Bool}
  (rule:∀(i j:Int) (t u:Tok) (s:Shared) (Q:Value->Shared->Prop) (E:Value->Shared->Prop),Q (.bool (g i j)) s->wpAny (model X.prog X.w) X.A (f (.int i t) (.int j u)) Q E s) :
  OpR X f (rI0 λi j=>.bl (g i j)):=by
 intro pins s σ H x y v u Q I rx ry h
 obtain⟨i,j,rfl,rfl,q⟩:=h
 obtain⟨t,rfl⟩:=rx
 obtain⟨t',rfl⟩:=ry
 exact rule i j t t' s _ _ ⟨.bl (g i j),H,I,rfl,q⟩
noncomputable def ZlK (i j:Int):Prop:=0<=j/\j<=1000000/\i.natAbs<2 ^ 64
theorem Zbj:OpR X (binaryOp .Add) (rI0 λi j=>.int (i+j)):=opI0 λ_ _ _ _ _ _ _ q=>add_int q
theorem ZgF:OpR X (binaryOp .Sub) (rI0 λi j=>.int (i-j)):=opI0 λ_ _ _ _ _ _ _ q=>sub_int q
theorem ZeA:OpR X (binaryOp .Mod) (rI (λ_ j=>0<j) λi j=>.int (i % j)):=opI λi j _ _ _ _ _ hc q=>by
 have h1:(0:Int)<j:=hc
 exact mod_int' (by omega) (by rw[Int.fmod_eq_emod_of_nonneg i (by omega)];exact q)
theorem ZfE:OpR X (binaryOp .Pow) (rI ZlK λi j=>.int (i ^ j.toNat)):=opI λ_ _ _ _ _ _ _ hc q=>pow_int_small hc.1 hc.2.1 hc.2.2 q
theorem unI {f:Value->Sem Value}{g:Int->Int}
  (rule:∀(i:Int) (t:Tok) (s:Shared) (Q:Value->Shared->Prop) (E:Value->Shared->Prop),Q (.int (g i) s.toks) {s with toks:=s.toks+1}->wpAny (model X.prog X.w) X.A (f (.int i t)) Q E s) :
  UnR X f (rU λi=>.int (g i)):=by
 intro pins s σ H x v Q I rx h
 obtain⟨i,rfl,q⟩:=h
 obtain⟨t,rfl⟩:=rx
 exact rule i t s _ _ ⟨.int (g i),H,I.tok _,⟨_,rfl⟩,q⟩
theorem ZcU:UnR X (unaryOp .USub) (rU λi=>.int (-i)):=unI λ_ _ _ _ _ q=>neg_int q
end
noncomputable def ZlL:V->V->Bool
 |.non,.non=>true|.non,.int _=>true|.int _,.non=>true|.non,.bl _=>true|.bl _,.non=>true|.non,.str _=>true|.str _,.non=>true
 |.int _,.int _=>true|.bl _,.bl _=>true|.str _,.str _=>true|.byt _,.byt _=>true
 |.int _,.str _=>true|.str _,.int _=>true|.bl _,.str _=>true|.str _,.bl _=>true
 |_,_=>false
noncomputable def rEq:R2:=λx y H Q=>ZlL x y=true/\Q (.bl (decide (x=y))) H
theorem ZqT {i j:Int}:decide (V.int i=V.int j)=(i==j):=by
 rw[Bool.eq_iff_iff]
 simp
theorem dec_bl {i j:Bool}:decide (V.bl i=V.bl j)=(i==j):=by
 rw[Bool.eq_iff_iff]
 simp
theorem ZqU {i j:Str}:decide (V.str i=V.str j)=(i==j):=by
 rw[Bool.eq_iff_iff]
 simp
theorem ZqV {i j:Array UInt8}:decide (V.byt i=V.byt j)=(i.toList==j.toList):=by
 rw[Bool.eq_iff_iff]
 cases i
 cases j
 simp
section
variable {X:Cx}{a b c:Expr}{ta tb tc:TE}{pos:Pos}
theorem Zaz {pins:List (Addr×Obj)}{σ:St}{H:Hp}{s:Shared}{Q:VK}{k k':Bool} (I:Inv X pins σ H s) (q:Q (.bl k) H) (e:k=k'):EP X pins σ Q (.bool k') s:=by
 subst e
 exact⟨.bl k,H,I,rfl,q⟩
theorem Zfs:OpR X (compareOp .Eq) rEq:=by
 intro pins s σ H x y v u Q I rx ry h
 obtain⟨hs,q⟩:=h
 cases x with
 |non =>
  cases rx
  cases y with
  |non=>cases ry;exact PySem.EqNone.eq_none_none (Zaz I q (by simp))
  |bl j=>cases ry;exact PySem.EqNone.eq_none_bool (Zaz I q (by simp))
  |int j=>obtain⟨t',rfl⟩:=ry;exact PySem.EqNone.eq_none_int (Zaz I q (by simp))
  |str j=>obtain⟨t',rfl⟩:=ry;exact PySem.EqNone.eq_none_str (Zaz I q (by simp))
  |_=>exact absurd (show false=true from hs) YJ
 |bl i =>
  cases rx
  cases y with
  |non=>cases ry;exact PySem.EqNone.eq_bool_none (Zaz I q (by simp))
  |bl j=>cases ry;exact eq_bool (Zaz I q dec_bl)
  |str j=>obtain⟨t',rfl⟩:=ry;exact PySem.EqMixed.eq_bool_str (Zaz I q (by simp))
  |_=>exact absurd (show false=true from hs) YJ
 |int i =>
  obtain⟨t,rfl⟩:=rx
  cases y with
  |non=>cases ry;exact PySem.EqNone.eq_int_none (Zaz I q (by simp))
  |int j=>obtain⟨t',rfl⟩:=ry;exact eq_int (Zaz I q ZqT)
  |str j=>obtain⟨t',rfl⟩:=ry;exact PySem.EqMixed.eq_int_str (Zaz I q (by simp))
  |_=>exact absurd (show false=true from hs) YJ
 |str i =>
  obtain⟨t,rfl⟩:=rx
  cases y with
  |non=>cases ry;exact PySem.EqNone.eq_str_none (Zaz I q (by simp))
  |bl j=>cases ry;exact PySem.EqMixed.eq_str_bool (Zaz I q (by simp))
  |int j=>obtain⟨t',rfl⟩:=ry;exact PySem.EqMixed.eq_str_int (Zaz I q (by simp))
  |str j=>obtain⟨t',rfl⟩:=ry;exact eq_str (Zaz I q ZqU)
  |_=>exact absurd (show false=true from hs) YJ
 |byt i =>
  obtain⟨t,rfl⟩:=rx
  cases y with
  |byt j=>obtain⟨t',rfl⟩:=ry;exact PySem.W.eq_bytes (Zaz I q ZqV)
  |_=>exact absurd (show false=true from hs) YJ
 |_=>cases y<;>exact absurd (show false=true from hs) YJ
theorem Zf3:OpR X (compareOp .Lt) (rI0 λi j=>.bl (decide (i<j))):=opB0 λ_ _ _ _ _ _ _ q=>lt_int q
theorem op_le:OpR X (compareOp .LtE) (rI0 λi j=>.bl (decide (i<=j))):=opB0 λ_ _ _ _ _ _ _ q=>le_int q
theorem Zeq:OpR X (compareOp .Gt) (rI0 λi j=>.bl (decide (j<i))):=opB0 λ_ _ _ _ _ _ _ q=>gt_int q
theorem ZkL:OpR X (compareOp .GtE) (rI0 λi j=>.bl (decide (j<=i))):=opB0 λ_ _ _ _ _ _ _ q=>ge_int q
theorem ZlM:OpR X (compareOp .Is) (λx y H Q=>y=.non/\Q (.bl (decide (x=.non))) H):=by
 intro pins s σ H x y v u Q I rx ry h
 obtain⟨rfl,q⟩:=h
 cases ry
 refine is_none_gen (Zaz I q ?_)
 cases x<;>first
  |(cases rx;rfl)
  |(obtain⟨t,rfl⟩:=rx;rfl)
theorem ZcC:OpR X (compareOp .IsNot) (λx y H Q=>y=.non/\Q (.bl (!decide (x=.non))) H):=by
 intro pins s σ H x y v u Q I rx ry h
 obtain⟨rfl,q⟩:=h
 cases ry
 refine isnot_none_gen (Zaz I q ?_)
 cases x<;>first
  |(cases rx;rfl)
  |(obtain⟨t,rfl⟩:=rx;rfl)
theorem Zn (b:Expr) {op:CmpOp} (h:op≠.In:=by decide) (h2:op≠.NotIn:=by decide):behindInMarks op b=false:=by
 have e1:(op==CmpOp.In)=false:=by cases op<;>first|rfl|exact absurd rfl h
 have e2:(op==CmpOp.NotIn)=false:=by cases op<;>first|rfl|exact absurd rfl h2
 cases b<;>simp[behindInMarks,e1,e2]
theorem Zf4 {op:CmpOp}{r:R2} (ho:OpR X (compareOp op) r) (ha:PE X a ta) (hb:PE X b tb) (hm:behindInMarks op b=false):PE X (.Compare a [op] [b] pos) (tOp r ta tb):=by
 intro pins s σ H Q I h
 exact wpAny_Compare1 (binT ha hb I h λv u s2 x y H2 I2 rx ry q=>ho pins s2 σ H2 x y v u Q I2 rx ry q) hm
noncomputable def ZmK (t:TE):TT:=fun σ H Q=>t σ H λx H'=>∃k,x=.bl k/\Q k H'
theorem Zj {op:CmpOp}{r:R2} (ho:OpR X (compareOp op) r) (ha:PE X a ta) (hb:PE X b tb) (hm:behindInMarks op b=false):PT X (.Compare a [op] [b] pos) (ZmK (tOp r ta tb)):=by
 intro pins s σ H Q I h
 refine wpAny_isTrue_Compare1 (thn (ha pins s σ H _ I h) λv s1 ⟨x,H1,I1,r1,q1⟩=>thn (hb pins s1 σ H1 _ I1 q1) λu s2 ⟨y,H2,I2,r2,q2⟩ =>
  thn (ho pins s2 σ H2 x y v u _ I2 r1 r2 q2) λc s3 ⟨z,H3,I3,r3,k,e,q3⟩=>?_) hm
 subst e
 cases r3
 exact wpAny_truthy_bool ⟨H3,I3,q3⟩
noncomputable def ZlN (r r':R2) (ta tb tc:TE):TE:=fun σ H Q=>ta σ H λx H1=>tb σ H1 λy H2=>r x y H2 λz H3=>∃k,z=.bl k /\
 (if k=true then tc σ H3 λw' H4=>r' y w' H4 Q else Q (.bl false) H3)
theorem ZoC {op op':CmpOp}{r r':R2} (ho:OpR X (compareOp op) r) (ho':OpR X (compareOp op') r') (ha:PE X a ta) (hb:PE X b tb) (hc:PE X c tc)
  (hm:lastMarks [op,op'] [b,c]=false:=by with_unfolding_all rfl):PT X (.Compare a [op,op'] [b,c] pos) (ZmK (ZlN r r' ta tb tc)):=by
 intro pins s σ H Q I h
 refine isTrue_chain (thn (ha pins s σ H _ I h) λv s1 ⟨x,H1,I1,r1,q1⟩=>test_link (thn (hb pins s1 σ H1 _ I1 q1) λu s2 ⟨y,H2,I2,r2,q2⟩ =>
  thn (ho pins s2 σ H2 x y v u _ I2 r1 r2 q2) λd s3 ⟨z,H3,I3,r3,k,e,q3⟩=>?_)) hm
 subst e
 cases r3
 refine wpAny_truthy_bool ?_
 cases k with
 |false =>
  obtain⟨k',e',q'⟩:=q3
  cases e'
  exact ite_ff ⟨H3,I3,q'⟩
 |true =>
  refine ite_tt (test_last (thn (hc pins s3 σ H3 _ I3 q3) λw' s4 ⟨z',H4,I4,r4,q4⟩=>thn (ho' pins s4 σ H4 y z' u w' _ I4 r2 r4 q4) λd' s5 ⟨z2,H5,I5,r5,k2,e2,q5⟩=>?_))
  subst e2
  cases r5
  exact wpAny_truthy_bool ⟨H5,I5,q5⟩
noncomputable def TruV (K:PySem.W.Frag) (x:V) (H:Hp) (k:Bool):Prop :=
 match x with
 |.non=>k=false
 |.bl b=>k=b
 |.int i=>k=(i != 0)
 |.str y=>y.length<=sizeLine/\k=((y.length:Int) != 0)
 |.byt y=>y.size<=sizeLine/\k=((y.size:Int) != 0)
 |.ref p=>(∃xs,SqL K H p xs/\k=!xs.isEmpty)\/(∃xs,SqT K H p xs/\k=!xs.isEmpty)\/∃kvs,H p=some (.dK kvs)/\k=!kvs.isEmpty
 |_=>False
theorem ZlO {κ:Type}{kvs:List (κ×V)}{vs:List (κ×Value)} (r:KV kvs vs):(!vs.isEmpty)=!kvs.isEmpty:=by
 cases r<;>rfl
theorem ZhO {xs:List V}{its:List Value} (r:Vals xs its):(!its.toArray.isEmpty)=!xs.isEmpty:=by
 cases r<;>simp
theorem ZhP:(sizeLine:Nat)<2 ^ 63:=by rw[sizeLine_eq];decide
theorem tru_ok:TruR X (λx H Q=>∃k,TruV X.K x H k/\Q k H):=by
 intro pins s σ H x v Q I rx h
 obtain⟨k,e,q⟩:=h
 have hl:=ZhP
 have hs:sizeLine=16777216:=sizeLine_eq
 cases x with
 |non =>
  cases rx
  have e':k=false:=e
  subst e'
  exact truthy_none ⟨H,I,q⟩
 |bl b =>
  cases rx
  have e':k=b:=e
  subst e'
  exact wpAny_truthy_bool ⟨H,I,q⟩
 |int i =>
  obtain⟨t,rfl⟩:=rx
  have e':k=(i != 0):=e
  subst e'
  exact PySem.P.truthy_int ⟨H,I,q⟩
 |str y =>
  obtain⟨t,rfl⟩:=rx
  obtain⟨hy,e'⟩:y.length<=sizeLine/\k=((y.length:Int) != 0):=e
  subst e'
  exact PySem.P.truthy_str (by omega) ⟨H,I.tok _,q⟩
 |byt y =>
  obtain⟨t,rfl⟩:=rx
  obtain⟨hy,e'⟩:y.size<=sizeLine/\k=((y.size:Int) != 0):=e
  subst e'
  exact PySem.W.truthy_bytes (by omega) ⟨H,I.tok _,q⟩
 |ref p =>
  cases rx
  have e':(∃xs,SqL X.K H p xs/\k=!xs.isEmpty)\/(∃xs,SqT X.K H p xs/\k=!xs.isEmpty)\/∃kvs,H p=some (.dK kvs)/\k=!kvs.isEmpty:=e
  rcases e' with⟨xs,hx,e'⟩|⟨xs,hx,e'⟩|⟨kvs,hx,e'⟩
  ·subst e'
   obtain⟨its,r,pl,hz⟩:=I.list hx
   have hlen:=r.length
   exact wpAny_truthy_list pl.isList (by simp only[Yn];omega) ⟨H,I.tok _,by rw[ZhO r];exact q⟩
  ·subst e'
   obtain⟨its,r,pl,hz⟩:=I.tuple hx
   have hlen:=r.length
   exact truthy_tuple pl (by simp only[Yn];omega) ⟨H,I.tok _,by rw[ZhO r];exact q⟩
  ·subst e'
   obtain⟨hz,hS,vs,r,m⟩:kvs.length<=sizeLine/\(p==sysModules)=false/\∃vs,KV kvs vs/\s.heap.DictOf (ZjD X.prog X.w) p vs:=I.hok p _ hx
   have hlen:kvs.length=vs.length:=Paired.length r
   exact wpAny_truthy_dict hS m (by omega) ⟨H,I.tok _,by rw[ZlO r];exact q⟩
 |_=>exact(show False from e).elim
theorem vals1 {x:V}{us:List Value} (r:Vals [x] us):∃u,us=[u]/\RelV x u:=by
 cases r with
 |cons r1 r2=>cases r2;exact⟨_,rfl,r1⟩
theorem vals2 {x y:V}{us:List Value} (r:Vals [x,y] us):∃u w',us=[u,w']/\RelV x u/\RelV y w':=by
 cases r with
 |cons r1 r2 =>
  cases r2 with
  |cons r3 r4=>cases r4;exact⟨_,_,rfl,r1,r3⟩
theorem Znw (hc:X.calm=true):Zci X (.builtin "max") (λxs H Q=>∃i j,xs=[.int i,.int j]/\Q (.int (if j>i then j else i)) H):=by
 intro pins s σ H xs us Q I r h
 obtain⟨i,j,rfl,q⟩:=h
 obtain⟨u,w',rfl,⟨t,rfl⟩,⟨t',rfl⟩⟩:=vals2 r
 refine max_two_ints (I.ok.hd hc) λh' tk k=>⟨_,H,I.kept k,?_,q⟩
 by_cases hj:j>i
 ·rw[Ye hj,Ye hj];exact⟨_,rfl⟩
 ·rw[Yd hj,Yd hj];exact⟨_,rfl⟩
theorem Znx (hc:X.calm=true):Zci X (.builtin "min") (λxs H Q=>∃i j,xs=[.int i,.int j]/\Q (.int (if j<i then j else i)) H):=by
 intro pins s σ H xs us Q I r h
 obtain⟨i,j,rfl,q⟩:=h
 obtain⟨u,w',rfl,⟨t,rfl⟩,⟨t',rfl⟩⟩:=vals2 r
 refine min_two_ints (I.ok.hd hc) λh' tk k=>⟨_,H,I.kept k,?_,q⟩
 by_cases hj:j<i
 ·rw[Ye hj,Ye hj];exact⟨_,rfl⟩
 ·rw[Yd hj,Yd hj];exact⟨_,rfl⟩
end
structure ObjM (h:Heap) (x dx C:Addr) (mA:Str->Option Value):Prop where
 obj:h.get? x=some (PySem.W.instObj C dx)
 ns:h.Ns1 dx mA
 ne:dx≠x
theorem Zny {h:Heap}{dx:Addr}{mA:Str->Option Value} (n:h.Ns1 dx mA):∃od,h.get? dx=some od/\∀name,PySem.W.lookIn name od=some (mA name):=by
 obtain⟨o,es,ep,ho,hd,hk,_,hm⟩:=n
 refine⟨o,ho,λname=>?_⟩
 have e:=hm name
 unfold nsFind findBy at e
 rw[<-Array.find?_toList]at e
 unfold PySem.W.lookIn
 rw[hd]
 dsimp only
 split
 ·rename_i y q
  rw[q]at e
  exact congrArg some e
 ·rename_i q
  rw[q]at e
  have a:es.toList.any (·.refKey)=false:=by
   rw[List.any_eq_false]
   intro y hy
   obtain⟨z,t,hkey⟩:=hk y (Array.mem_toList_iff.mp hy)
   simp[DictEntry.refKey,hkey]
  have a':¬ es.toList.any (·.refKey)=true:=by rw[a];exact YJ
  rw[Yd a']
  exact congrArg some e
theorem ObjM.look {h:Heap}{x dx C:Addr}{mA:Str->Option Value} (I:ObjM h x dx C mA):∃od,PySem.W.InstAt h x (PySem.W.instObj C dx) C (some od)/\∀name,PySem.W.lookIn name od=some (mA name) :=
 let ⟨od,ho,hl⟩:=Zny I.ns
 ⟨od,⟨I.obj,rfl,rfl,ho⟩,hl⟩
section
variable {P:Program}{w:World}{H H':Hp}{h h':Heap}{a C dx:Addr}{fs fs':List (Str×V)}
theorem ZqW (hok:HOk P w H h) (e:H a=some (.ins C dx fs)):∃mA,ObjM h a dx C mA/\(∀f,RelO (fs.lookup f) (mA f))/\PySem.Within mA (fs.map (·.1))/\fs.length<=1000/\H dx=some (.own a):=by
 obtain⟨d,z,ne,ob,mA,n,r,q⟩:=(show Zau P w H h a (.ins C dx fs)from hok a _ e)
 exact⟨mA,⟨ob,n,ne⟩,r,q,z,d⟩
end
structure Cls (K:PySem.W.Frag) (C:Addr):Prop where
 pg:PySem.W.plainGet K C Str.empty=true
 hd:PySem.W.hasDictIn K C=true
 po:PySem.W.plainOver K C=true
 sa:PySem.W.findIn K (.ref C) "__setattr__"=some (some (.builtin "object.__setattr__"))
theorem Cls.get {K:PySem.W.Frag}{C:Addr} (c:Cls K C) (f:Str):PySem.W.plainGet K C f=true:=c.pg
section
variable {X:Cx}{pins:List (Addr×Obj)}{σ:St}{H:Hp}{s:Shared}{A:Around}{E:Value->Shared->Prop}{Q:Value->Shared->Prop}{c:Value}{b:Bool}
inductive TyOf (K:PySem.W.Frag) (H:Hp):V->Value->Prop where
 |non:TyOf K H .non (.type "NoneType")
 |bl (x:Bool):TyOf K H (.bl x) (.type "bool")
 |int (i:Int):TyOf K H (.int i) (.type "int")
 |str (x:Str):TyOf K H (.str x) (.type "str")
 |flt (x:UInt64):TyOf K H (.flt x) (.type "float")
 |lst {a:Addr}{xs:List V} (e:H a=some (.lst xs)):TyOf K H (.ref a) (.type "list")
 |frz {a:Addr}{o:Obj}{xs:List V} (e:H a=some (.frz o (.lst xs))):TyOf K H (.ref a) (.type "list")
 |tup {a:Addr}{xs:List V} (e:H a=some (.tup xs)):TyOf K H (.ref a) (.type "tuple")
 |dK {a:Addr}{kvs:List (Key×V)} (e:H a=some (.dK kvs)):TyOf K H (.ref a) (.type "dict")
 |dT {a:Addr}{kvs:List (List Key×V)} (e:H a=some (.dT kvs)):TyOf K H (.ref a) (.type "dict")
 |ins {a C dx:Addr}{fs:List (Str×V)} (e:H a=some (.ins C dx fs)) (cl:Cls K C) (ha:PySem.W.findIn K (.ref C) "__class__"=some (some (.builtin "object.__class__")))
   (hn:PySem.W.specialIn K (.builtin "object.__class__") "__get__"=some (some (.builtin "getset_descriptor.__get__"))) (htk:PySem.W.takesIn K (.builtin "object.__class__")=some true)
   (hm:PySem.W.mroIn K C (.type "object")=some true):TyOf K H (.ref a) (.ref C)
theorem Znz {x:V}{u t:Value} (I:Inv X pins σ H s) (rx:RelV x u) (ty:TyOf X.K H x t) (e:PySem.W.kitOne X.K t c=some b) (h:∀tk,Q (.bool b) {s with toks:=tk}) :
  wpAny (model X.prog X.w) A (call (.builtin "isinstance") [u,c]) Q E s:=by
 cases ty with
 |non=>cases(show u=Value.none from rx);exact PySem.W.kia_one PySem.W.kitx_none I.kIn True.intro e (λz=>nomatch z) h
 |bl y=>cases(show u=Value.bool y from rx);exact PySem.W.kia_one PySem.W.kitx_bool I.kIn True.intro e (λz=>nomatch z) h
 |int i=>obtain⟨t,q⟩:=(show ∃t,u=Value.int i t from rx);cases q;exact PySem.W.kia_one PySem.W.kitx_int I.kIn True.intro e (λz=>nomatch z) h
 |str y=>obtain⟨t,q⟩:=(show ∃t,u=Value.str y t from rx);cases q;exact PySem.W.kia_one PySem.W.kitx_str I.kIn True.intro e (λz=>nomatch z) h
 |flt y=>obtain⟨t,q⟩:=(show ∃t,u=Value.float y t from rx);cases q;exact PySem.W.kia_one PySem.W.kitx_float I.kIn True.intro e (λz=>nomatch z) h
 |@lst a xs ea =>
  cases(show u=Value.ref a from rx)
  obtain⟨_,_,n,_,h1⟩:=(show Zau X.prog X.w H s.heap a (.lst xs)from I.hok a _ ea)
  exact PySem.W.kia_one PySem.W.kitx_list I.kIn ⟨_,h1,rfl⟩ e (λz=>nomatch z) h
 |@frz a ob xs ea =>
  cases(show u=Value.ref a from rx)
  obtain⟨_,_,_,n,_,h1⟩:=(show Zau X.prog X.w H s.heap a (.frz ob (.lst xs))from I.hok a _ ea)
  exact PySem.W.kia_one PySem.W.kitx_list I.kIn ⟨_,h1,rfl⟩ e (λz=>nomatch z) h
 |@tup a xs ea =>
  cases(show u=Value.ref a from rx)
  obtain⟨_,_,_,p⟩:=(show Zau X.prog X.w H s.heap a (.tup xs)from I.hok a _ ea)
  obtain⟨o,h1,h2,_⟩:=p
  exact PySem.W.kia_one PySem.W.kitx_tuple I.kIn ⟨o,h1,h2⟩ e (λz=>nomatch z) h
 |@dK a kvs ea =>
  cases(show u=Value.ref a from rx)
  obtain⟨_,_,vs,_,p⟩:=(show Zau X.prog X.w H s.heap a (.dK kvs)from I.hok a _ ea)
  obtain⟨o,es,ep,h1,h2,_⟩:=p
  exact PySem.W.kia_one PySem.W.kitx_dict I.kIn ⟨o,h1,h2.1⟩ e (λz=>nomatch z) h
 |@dT a kvs ea =>
  cases(show u=Value.ref a from rx)
  obtain⟨_,_,xs,_,o,es,ep,h1,h2,_⟩:=(show Zau X.prog X.w H s.heap a (.dT kvs)from I.hok a _ ea)
  exact PySem.W.kia_one PySem.W.kitx_dict I.kIn ⟨o,h1,h2.1⟩ e (λz=>nomatch z) h
 |@ins a C dx fs ea cl ha hn htk hm =>
  cases(show u=Value.ref a from rx)
  obtain⟨mA,O,_⟩:=ZqW I.hok ea
  obtain⟨od,J,_⟩:=O.look
  exact PySem.W.kia_one (PySem.W.kitx_own (cl.get _) cl.hd ha hn htk hm) I.kIn J e (λz=>nomatch z) h
end
structure Room (k:Nat) (A:Around):Prop where
 hd:A.handled=none
 dp:A.depth+3*k+5<recursionLimit
 un:A.units+16*k+200<cLine
theorem Room.mono {j k:Nat}{A:Around} (r:Room k A) (h:j<=k):Room j A:=⟨r.hd,by have:=r.dp;omega,by have:=r.un;omega⟩
theorem Room.deeper {k:Nat}{A:Around} (r:Room (k+1) A) (env:Env):Room k (A.deeper env) :=
 ⟨r.hd,by have:=r.dp;show A.depth+1+3*k+5 < _;omega,by have:=r.un;show A.units+3+16*k+200 < _;omega⟩
theorem Room.in1 {k:Nat}{A:Around} (r:Room (k+1) A):Room k A.in1 :=
 ⟨r.hd,by have:=r.dp;show A.depth+3*k+5 < _;omega,by have:=r.un;show A.units+1+16*k+200 < _;omega⟩
theorem Room.depth {k:Nat}{A:Around} (r:Room k A):A.depth<recursionLimit:=by have:=r.dp;omega
noncomputable def ZnA:TA:=λ_ H Q=>Q [] H
noncomputable def Zi8 (ta:TE) (tr:TA):TA:=fun σ H Q=>ta σ H λx H1=>tr σ H1 λxs H2=>Q (x::xs) H2
section
variable {X:Cx}{e:Expr}{es:List Expr}{te:TE}{t:TA}{pos:Pos}
theorem Zb:PA X [] ZnA:=λ_ _ _ _ H Q I h=>Calls.spliced_nil ⟨[],H,I,.nil,h⟩
theorem Za (ha:PE X e te) (hr:PA X es t) (hs:starEach (e::es) X.env=(false,eval e X.env)::starEach es X.env:=by rfl):PA X (e::es) (Zi8 te t):=by
 intro pos pins s σ H Q I h
 rw[hs]
 show wpAny _ _ (spliced ((false,eval e X.env)::backTo pos (starEach es X.env))) _ _ s
 refine Calls.spliced_cons (thn (ha pins s σ H _ I h) λu s1 ⟨x,H1,I1,r1,q1⟩=>?_)
 exact thn (hr pos pins s1 σ H1 _ I1 q1) λus s2 ⟨xs,H2,I2,r2,q2⟩=>⟨x::xs,H2,I2,.cons r1 r2,q2⟩
noncomputable def tTup (t:TA):TE:=fun σ H Q=>t σ H λxs H1=>xs.length<=sizeLine/\∀p,H1 p=none->Q (.ref p) (upd H1 p (.tup xs))
noncomputable def tLst (t:TA):TE:=fun σ H Q=>t σ H λxs H1=>xs.length<=sizeLine/\∀p,H1 p=none->Q (.ref p) (upd H1 p (.lst xs))
theorem ZcV {x1} (h:PA X es t):PE X (.Tuple es x1 pos) (tTup t):=by
 intro pins s σ H Q I hq
 refine wpAny_Tuple_spliced (thn (h pos pins s σ H _ I hq) λus s1 ⟨xs,H1,I1,r,z,q⟩=>⟨by rw[<-r.length];exact z,?_⟩)
 have hf:H1 s1.heap.objs.size=none:=I1.hok.fresh (Yc _)
 refine⟨.ref s1.heap.objs.size,upd H1 s1.heap.objs.size (.tup xs),I1.laid (t':=s1.toks) (λb u e=>Yo _ e) (Yc _) ?_,rfl,q _ hf⟩
 exact⟨z,us,r,⟨_,YE _ rfl,rfl,_,rfl⟩⟩
theorem ZM (h:PA X es t):PE X (.List es pos) (tLst t):=by
 intro pins s σ H Q I hq
 refine wpAny_List_spliced (thn (h pos pins s σ H _ I hq) λus s1 ⟨xs,H1,I1,r,z,q⟩=>⟨by rw[<-r.length];exact z,?_⟩)
 have hf:H1 s1.heap.objs.size=none:=I1.hok.fresh (Yc _)
 refine⟨.ref s1.heap.objs.size,upd H1 s1.heap.objs.size (.lst xs),I1.laid (t':=s1.toks) (λb u e=>Yo _ e) (Yc _) ?_,rfl,q _ hf⟩
 exact⟨z,us,0,r,YE _ rfl⟩
end
noncomputable abbrev Sp:=List V->Hp->VK->XK->Prop
noncomputable abbrev CXT:=List Env->Hp->Shared->XK->Value->Shared->Prop
structure Env0 (P:Program) (w:World) (K:PySem.W.Frag) (mg:Str->Option Value) (base:Heap) (A:Around) (outer:List Env) (s:Shared) (H:Hp):Prop where
 frames:A.frames=some outer
 mod:Mod K mg base
 bs:∀b o,base.get? b=some o->s.heap.get? b=some o/\H b=none
 bsz:base.objs.size<=s.heap.objs.size
 funs:s.heap.FunFrames base outer
 frf:∀b∈frs outer,H b=none
 hok:HOk P w H s.heap
 bare:AllBare s.gens
noncomputable def CE (outer:List Env) (P:Program) (w:World) (H:Hp) (s:Shared) (Q:VK) (u:Value) (s':Shared):Prop :=
 ∃v H',s'.os=s.os/\AllBare s'.gens/\Un (frs outer) [] H H' s.heap s'.heap/\HOk P w H' s'.heap/\RelV v u/\Q v H'
noncomputable def CR (CX:CXT) (outer:List Env) (P:Program) (w:World) (H:Hp) (s:Shared) (Q:VK) (E:XK) (r:Result) (s':Shared):Prop :=
 match r with
 |.ok (.ret u)=>CE outer P w H s Q u s'
 |.ok _=>False
 |.error e=>CX outer H s E e s'
structure FnOk (P:Program) (w:World) (K:PySem.W.Frag) (mg:Str->Option Value) (base:Heap) (CX:CXT) (k:Nat) (f:Addr) (fd:FuncData) (ps:List Str) (sp:Sp):Prop where
 len:∀vs H Q E,sp vs H Q E->vs.length=ps.length
 run:∀(A:Around) (outer:List Env) (s:Shared) (H:Hp) (args:Args) (us:List Value) (vs:List V) (Q:VK) (E:XK),Room k A->Env0 P w K mg base A outer s H->BindsTo s fd args (ps.zip us)->Vals vs us->sp vs H Q E ->
  codeAny (model P w) A (.call (.ref f) args) (CR CX outer P w H s Q E) s
section
variable {X:Cx}{pins:List (Addr×Obj)}{σ:St}{H:Hp}{s s':Shared}
theorem Inv.env0 (I:Inv X pins σ H s):Env0 X.prog X.w X.K X.mg X.base X.A X.stack s H :=
 ⟨I.ok.frames,I.ok.mod,I.bs,Ym I.ok.bsz I.sz,I.stack,I.Zhw,I.hok,I.bare⟩
theorem Inv.after {Q:VK}{u:Value} (I:Inv X pins σ H s) (h:CE X.stack X.prog X.w H s Q u s'):EP X pins σ Q u s':=by
 obtain⟨v,H',os,bare,un,hok,r,q⟩:=h
 obtain⟨hh,g,d,t,os'⟩:=s'
 obtain rfl:os'=s.os:=os
 exact⟨v,H',I.call (h':=hh) (g':=g) (d':=d) (t':=t) (ch:=[]) un hok bare (λb z=>absurd z (by simp)),r,q⟩
end
noncomputable def ZkM (sp:Sp) (dvs:List V) (E:XK) (t:TA):TE:=fun σ H Q=>t σ H λvs H1=>sp (vs++dvs) H1 Q E
noncomputable def Binds (K:PySem.W.Frag) (fd:FuncData) (ps:List Str) (ds:List Value):Prop :=
 ∀(s:Shared) (us:List Value),K.In s.heap->(us++ds).length=ps.length->BindsTo s fd ⟨us,[]⟩ (ps.zip (us++ds))
theorem Binds.all {K:PySem.W.Frag}{fd:FuncData}{ps:List Str} (h:∀us:List Value,us.length=ps.length->bindArgs fd ⟨us,[]⟩=pure (ps.zip us)):Binds K fd ps []:=λs us _ hl=>by
 rw[List.append_nil]at hl⊢
 exact .of_eq (h us hl)
noncomputable def Passes (CX:CXT) (X:Cx) (E:XK):Prop:=∀(pins:List (Addr×Obj)) (σ:St) (H:Hp) (s:Shared) (e:Value) (s':Shared),Inv X pins σ H s->CX X.stack H s E e s'->X.xe e s'
section
variable {X:Cx}{CX:CXT}{k:Nat}{f C:Addr}{fd:FuncData}{ps:List Str}{sp:Sp}{dvs:List V}{ds:List Value}{E:XK}{x m:Str}{p pos apos:Pos}{e o:Expr}{es:List Expr}{ta:TE}{t:TA}
theorem run_fn {pins:List (Addr×Obj)}{σ:St}{H:Hp}{s:Shared}{Q:VK}{us:List Value}{vs:List V} (F:FnOk X.prog X.w X.K X.mg X.base CX k f fd ps sp) (hr:Room k X.A) (hb:Binds X.K fd ps ds) (hd:Vals dvs ds) (hx:Passes CX X E)
  (I:Inv X pins σ H s) (r:Vals vs us) (h:sp (vs++dvs) H Q E):wpAny (model X.prog X.w) X.A (call (.ref f) us) (EP X pins σ Q) X.xe s:=by
 have r2:Vals (vs++dvs) (us++ds):=r.append hd
 have hl:(us++ds).length=ps.length:=by rw[<-r2.length];exact F.len _ _ _ _ h
 refine wpAny_call (codeAny_mono (F.run X.A X.stack s H ⟨us,[]⟩ (us++ds) (vs++dvs) Q E hr I.env0 (hb s us I.kIn hl) r2 h) λr s' hq=>?_)
 cases r with
 |error e=>exact hx pins σ H s e s' I hq
 |ok fl =>
  cases fl with
  |ret u=>exact I.after hq
  |next=>exact False.elim hq
  |brk=>exact False.elim hq
  |cont=>exact False.elim hq
theorem ZmL (F:FnOk X.prog X.w X.K X.mg X.base CX k f fd ps sp) (hr:Room k X.A) (hg:Gl X x) (hm:X.mg x=some (.ref f)) (hk:PySem.W.keepIn X.K (.ref f)=true) (hb:Binds X.K fd ps ds) (hd:Vals dvs ds) (hx:Passes CX X E)
  (ha:PA X (e::es) t) (hdb:(x==("__debug__":Str))=false:=by decide) (he:starEach (e::es) X.env=(false,eval e X.env)::starEach es X.env:=by rfl) (hpl:(backTo pos (starEach es X.env)).any (·.1)=false:=by rfl) :
  PE X (.Call (.Name x p) (e::es) [] pos) (ZkM sp dvs E t):=by
 intro pins s σ H Q I h
 refine wpAny_Call_Name_kw (ZjE I hg hm ?_ hdb)
 refine PySem.W.callWith_K (h₀:=X.base) I.ok.mod.kin hk (thn (ha pos pins s σ H _ I h) λus s1 ⟨vs,H1,I1,r,q⟩=>⟨I1.kIn,?_⟩) he hpl
 exact run_fn F hr hb hd hx I1 r q
end
noncomputable def PK (X:Cx) (kws:List Keyword) (t:TA):Prop :=
 ∀(pos:Pos) (pins:List (Addr×Obj)) (s:Shared) (σ:St) (H:Hp) (Q:List V->Hp->Prop),Inv X pins σ H s->t σ H Q->wpAny (model X.prog X.w) X.A (evalAll ((backToKw pos (keywordEach kws X.env)).map (·.2))) (AP X pins σ Q) X.xe s
section
variable {X:Cx}{CX:CXT}{k:Nat}{f C:Addr}{fd:FuncData}{ps ks:List Str}{sp:Sp}{E:XK}{x m:Str}{p pos apos kpos:Pos}{e o:Expr}{es:List Expr}{kws:List Keyword}{te ta:TE}{t tk:TA}{nm:Option Str}
theorem ZjG:PK X [] ZnA:=λ_ _ _ _ H Q I h=>wpAny_evalAll_nil ⟨[],H,I,.nil,h⟩
theorem ZdM (ha:PE X e te) (hr:PK X kws t):PK X (⟨nm,e,kpos⟩::kws) (Zi8 te t):=by
 intro pos pins s σ H Q I h
 show wpAny _ _ (evalAll ((do let v <-eval e X.env;standAt pos;pure v)::(backToKw pos (keywordEach kws X.env)).map (·.2))) _ _ s
 refine wpAny_evalAll_cons (Ya (thn (ha pins s σ H _ I h) λu s1 ⟨x,H1,I1,r1,q1⟩=>Ya (wpAny_standAt (Yg ?_))))
 exact thn (hr pos pins s1 σ H1 _ I1 q1) λus s2 ⟨xs,H2,I2,r2,q2⟩=>⟨x::xs,H2,I2,.cons r1 r2,q2⟩
variable {g:List Value->List Value->List Value}{gV:List V->List V->List V}
end
structure FnScope (N P:List Str) (sc:Scope):Prop where
 kind:sc.kind=.function
 co:sc.isCoroutine=false
 gen:sc.isGenerator=false
 nd:N.Nodup
 pre:N.take P.length=P
 par:∀x∈P,sc.names.lookup x=some .local\/sc.names.lookup x=some .cell
 nofree:∀y∈sc.names,y.2≠.free
theorem Zi9 {kindOf:Str->Option NameKind}{x:Str}:∀{binds:List (Str×Value)}{m:Str->Option Value},(∀v,(x,v)∉binds)->bindL kindOf binds m x=m x
 |[],_,_=>rfl
 |(n,v)::r,m,h=>by
  unfold bindL
  rw[Zi9 λw hw=>h w (Ys _ hw)]
  split
  ·have:x≠n:=by rintro rfl;exact h v Yr
   simp[this]
  ·rfl
theorem Zja {kindOf:Str->Option NameKind}{x:Str}:∀{binds:List (Str×Value)}{m:Str->Option Value},(∀v,(x,v)∉binds)->bindC kindOf binds m x=m x
 |[],_,_=>rfl
 |(n,v)::r,m,h=>by
  unfold bindC
  rw[Zja λw hw=>h w (Ys _ hw)]
  split
  ·rfl
  ·have:x≠n:=by rintro rfl;exact h v Yr
   simp[this]
theorem Zjb {kindOf:Str->Option NameKind}{x:Str}{v:Value}:∀{P:List Str}{vs:List Value}{i:Nat}{m:Str->Option Value},P.Nodup->P[i]?=some x->vs[i]?=some v->kindOf x=some .local ->
  bindL kindOf (P.zip vs) m x=some v
 |[],_,_,_,_,h,_,_=>by simp at h
 |_::_,[],_,_,_,_,h,_=>by simp at h
 |p::P,w::vs,0,m,nd,h1,h2,hk=>by
  simp at h1 h2;subst h1;subst h2
  show bindL kindOf ((p,w)::P.zip vs) m p=_
  unfold bindL
  rw[Zi9 λv hv=>(List.nodup_cons.mp nd).1 (List.of_mem_zip hv).1,Ye hk]
  simp
 |p::P,w::vs,i+1,m,nd,h1,h2,hk=>by
  show bindL kindOf ((p,w)::P.zip vs) m x=_
  unfold bindL
  exact Zjb (i:=i) (List.nodup_cons.mp nd).2 (by simpa using h1) (by simpa using h2) hk
theorem Zjc {kindOf:Str->Option NameKind}{x:Str}{v:Value}:∀{P:List Str}{vs:List Value}{i:Nat}{m:Str->Option Value},P.Nodup->P[i]?=some x->vs[i]?=some v->kindOf x≠some .local ->
  bindC kindOf (P.zip vs) m x=some v
 |[],_,_,_,_,h,_,_=>by simp at h
 |_::_,[],_,_,_,_,h,_=>by simp at h
 |p::P,w::vs,0,m,nd,h1,h2,hk=>by
  simp at h1 h2;subst h1;subst h2
  show bindC kindOf ((p,w)::P.zip vs) m p=_
  unfold bindC
  rw[Zja λv hv=>(List.nodup_cons.mp nd).1 (List.of_mem_zip hv).1,Yd hk]
  simp
 |p::P,w::vs,i+1,m,nd,h1,h2,hk=>by
  show bindC kindOf ((p,w)::P.zip vs) m x=_
  unfold bindC
  exact Zjc (i:=i) (List.nodup_cons.mp nd).2 (by simpa using h1) (by simpa using h2) hk
noncomputable def start (N:List Str) (vs:List V):St:=vs.map some++List.replicate (N.length-vs.length) none
noncomputable def ZfF (CX:CXT) (P:Program) (w:World) (K:PySem.W.Frag) (mg:Str->Option Value) (base:Heap) (N:List Str) (qual:Str) (scope:Scope) (f:Addr) (cd:Value) (A:Around) (outer:List Env) (s:Shared) (H:Hp) (E:XK):Cx where
 prog:=P
 w:=w
 K:=K
 mg:=mg
 base:=base
 A:=A.deeper (envOfC qual scope s.heap.objs.size f cd)
 N:=N
 s₀:=s
 H₀:=H
 env:=envOfC qual scope s.heap.objs.size f cd
 outer:=outer
 stack:=envOfC qual scope s.heap.objs.size f cd::outer
 ex:=[]
 calm:=true
 fn:=λ_=>true
 pn:=[]
 xe:=λe s'=>wpAny (model P w) (A.deeper (envOfC qual scope s.heap.objs.size f cd)) (leaving (envOfC qual scope s.heap.objs.size f cd) e) (λ_ s''=>CX outer H s E e s'') (λe' s''=>CX outer H s E e' s'') s'
theorem ZkN {sc:Scope}{n:Nat}{x:Str} (h:sc.names.lookup x=some .cell):∃c,(cellsFrom n sc.names []).lookup x=some c:=by
 have q:=PySem.W.cellsFrom_some sc.names n [] (.inl h)
 exact Option.isSome_iff_exists.mp q
theorem ZnB {CX:CXT}{P:Program}{w:World}{K:PySem.W.Frag}{mg:Str->Option Value}{base:Heap}{N ps:List Str}{qual:Str}{scope:Scope}{f:Addr}{cd:Value}{A:Around}{outer:List Env}{s s1:Shared}{H:Hp}{E:XK}{us:List Value}{vs:List V}
  (S:FnScope N ps scope) (hd:A.handled=none) (e0:Env0 P w K mg base A outer s H) (hl:vs.length=ps.length) (r:Vals vs us)
  (x:InCallC s s.heap.objs.size (bindL (envOfC qual scope s.heap.objs.size f cd).kindOf (ps.zip us) λ_=>none) (cellsFrom (s.heap.objs.size+1) scope.names []) (bindC (envOfC qual scope s.heap.objs.size f cd).kindOf (ps.zip us) λ_=>none) s1) :
  Inv (ZfF CX P w K mg base N qual scope f cd A outer s H E) [] (start N vs) H s1:=by
 have hpl:ps.length<=N.length:=by have:=congrArg List.length S.pre;rw[Y7]at this;omega
 obtain⟨h1,tk,rfl,hk⟩:=x.done
 have noA:∀b:Addr,b∉(ZfF CX P w K mg base N qual scope f cd A outer s H E).ex:=λb z=>absurd (show b∈([]:List Addr)from z) (by simp)
 refine⟨⟨e0.mod,S.kind,rfl,rfl,Yc _,λy z c h1 h2=>?_,λy hy=>?_,λy c _ h=>?_,λ_=>hd,Around.frames_deeper e0.frames,.inr ⟨rfl,rfl⟩,λb z=>absurd z (noA b),e0.bs,e0.bsz,λb _ _=>noA b,λb z=>absurd z (noA b),e0.funs,e0.frf⟩,
  rfl,e0.bare,Un.kept hk,⟨_,x.toInCall.ns,λi y v h1 h2 h3=>?_⟩,λy c h=>⟨_,x.cell y c h⟩,e0.hok.fresh (Yc _),λy c h=>?_,λp hp=>absurd (show p∈([]:List (Addr×Obj))from hp) (by simp),e0.hok.kept hk,?_⟩
 ·exact name_of_addr x.apart (PySem.mem_of_lookup h1) (PySem.mem_of_lookup h2)
 ·have hy:scope.names.lookup y=some .cell\/scope.names.lookup y=some .free:=hy
  rcases hy with hy|hy
  ·exact ZkN hy
  ·exact absurd rfl (S.nofree _ (PySem.mem_of_lookup hy))
 ·exact YW (x.above y c (PySem.mem_of_lookup h))
 ·have hi:i<vs.length:=by
   unfold start at h2
   by_cases hi:i<vs.length
   ·exact hi
   ·rw[YK (by simpa using hi)]at h2
    rw[List.getElem?_replicate]at h2
    split at h2<;>cases h2
  have ha:vs[i]?=some v:=by
   unfold start at h2
   rw[YL (by simpa using hi),YB]at h2
   cases e:vs[i]? with
   |none=>rw[e]at h2;cases h2
   |some a=>rw[e]at h2;cases h2;rfl
  obtain⟨u,hu,rv⟩:=r.get ha
  have hp:ps[i]?=some y:=by
   rw[<-S.pre,List.getElem?_take_of_lt (by omega)];exact h1
  have ndP:ps.Nodup:=by rw[<-S.pre];exact S.nd.sublist (List.take_sublist _ _)
  refine⟨u,rv,?_⟩
  rcases S.par y (List.mem_of_getElem? hp)with k|k
  ·exact .inl ⟨k,Zjb ndP hp hu k⟩
  ·obtain⟨c,e⟩:=ZkN (n:=s.heap.objs.size+1) k
   refine .inr ⟨.inl k,c,e,?_⟩
   have q:=x.cell y c e
   rw[Zjc ndP hp hu (by show scope.names.lookup y≠_;rw[k];decide)]at q
   exact q
 ·exact e0.hok.fresh (YW (x.above y c (PySem.mem_of_lookup h)))
 ·unfold start
  show _=N.length
  rw[YH,Yf,List.length_replicate]
  omega
theorem ZoD {CX:CXT}{P:Program}{w:World}{K:PySem.W.Frag}{mg:Str->Option Value}{base:Heap}{k:Nat}{f:Addr}{name qual:Str}{params:Arguments}{body:List Stmt}{scope:Scope}{dV kV doc pm cdv ct oc:Value}{an od:Option Addr}
  {osl:Array (Option Value)}{N ps:List Str}{sp:Sp} (lk:K.lookup f=some ⟨oc,od,.func (PySem.W.fnOf name qual params body scope dV kV doc pm an cdv ct),osl⟩) (hcd:PySem.W.codeIn K cdv qual=true) (S:FnScope N ps scope)
  (len:∀vs H Q E,sp vs H Q E->vs.length=ps.length)
  (hbody:∀(A:Around) (outer:List Env) (s:Shared) (H:Hp) (vs:List V) (Q:VK) (E:XK),Room k (A.deeper (envOfC qual scope s.heap.objs.size f cdv))->sp vs H Q E ->
   ∃t,PSs (ZfF CX P w K mg base N qual scope f cdv A outer s H E) body t/\t {nx:=λ_ H'=>Q .non H',rt:=Q} (start N vs) H) :
  FnOk P w K mg base CX (k+1) f (PySem.W.fnOf name qual params body scope dV kV doc pm an cdv ct) ps sp:=by
 refine⟨len,λA outer s H args us vs Q E hr e0 hb r hsp=>?_⟩
 have hl:=len _ _ _ _ hsp
 have KX:K.In s.heap:=e0.mod.kin.keeps λb o e=>(e0.bs b o e).1
 have lim:s.heap.NoLimit:=e0.mod.nolimit.keeps λb o e=>(e0.bs b o e).1
 have hkind:∀y∈ps.zip us,scope.names.lookup y.1=some .local\/(scope.names.lookup y.1=some .cell/\((cellsFrom (s.heap.objs.size+1) scope.names []).lookup y.1).isSome=true):=λ⟨n,v⟩ hy=>by
  rcases S.par n (List.of_mem_zip hy).1 with q|q
  ·exact .inl q
  ·exact .inr ⟨q,PySem.W.cellsFrom_some _ _ _ (.inl q)⟩
 refine codeAny_call_function hr.depth (KX _ _ lk) rfl S.co S.gen rfl (PySem.W.codeRec_of KX hcd) (hb _ _ _ _ ?_)
 refine wpAny_newFunctionEnv_cells S.kind hkind λenv he s1 x=>?_
 subst he
 refine⟨lim.keeps x.toInCall.keep,codeAny_func ?_⟩
 obtain⟨t,ht,hq⟩:=hbody A outer s H vs Q E (hr.deeper _) hsp
 have I:Inv (ZfF CX P w K mg base N qual scope f cdv A outer s H E) [] (start N vs) H s1:=ZnB S hr.hd e0 hl r x
 refine YN (ht [] s1 (start N vs) H _ I hq) (λfl s' hs=>?_) λe s' hs=>hs
 have fin:∀{σ':St}{H':Hp}{v:V}{u:Value},Inv (ZfF CX P w K mg base N qual scope f cdv A outer s H E) [] σ' H' s'->RelV v u->Q v H'->CE outer P w H s Q u s' :=
  λ{σ' H' v u} J rv q=>⟨v,H',J.os,J.bare,J.base,J.hok,rv,q⟩
 cases fl with
 |ret u =>
  obtain⟨v,σ',H',J,rv,q⟩:=hs
  exact fin J rv q
 |next =>
  obtain⟨σ',H',J,q⟩:=hs
  exact fin (v:=V.non) (u:=Value.none) J rfl q
 |brk =>
  obtain⟨_,_,_,q⟩:=hs
  exact False.elim q
 |cont =>
  obtain⟨_,_,_,q⟩:=hs
  exact False.elim q
section
variable {X:Cx}{x:Str}{p pos:Pos}{e:Expr}{es:List Expr}{t:TA}{id T:String}{r:List V->Hp->VK->Prop}
noncomputable def tCB (r:List V->Hp->VK->Prop) (t:TA):TE:=fun σ H Q=>t σ H λvs H1=>r vs H1 Q
theorem Zk (hc:Zci X (.builtin id) r) (hg:Gl X x) (hm:X.mg x=none) (hv:bootBuiltins x=some (.builtin id)) (ha:PA X (e::es) t) (hn:x≠"__name__":=by decide) (hdb:(x==("__debug__":Str))=false:=by decide)
  (he:starEach (e::es) X.env=(false,eval e X.env)::starEach es X.env:=by rfl) (hpl:(backTo pos (starEach es X.env)).any (·.1)=false:=by rfl):PE X (.Call (.Name x p) (e::es) [] pos) (tCB r t):=by
 intro pins s σ H Q I h
 refine wpAny_Call_Name_kw (Zcg I hg hm hv ?_ hn hdb)
 exact PyProof.Rows.callWith_builtin1 (thn (ha pos pins s σ H _ I h) λus s1 ⟨vs,H1,I1,r1,q1⟩=>hc pins s1 σ H1 vs us Q I1 r1 q1) he hpl
theorem Zcd (hc:Zci X (.type T) r) (hg:Gl X x) (hm:X.mg x=none) (hv:bootBuiltins x=some (.type T)) (ha:PA X (e::es) t) (hn:x≠"__name__":=by decide) (hdb:(x==("__debug__":Str))=false:=by decide)
  (he:starEach (e::es) X.env=(false,eval e X.env)::starEach es X.env:=by rfl) (hpl:(backTo pos (starEach es X.env)).any (·.1)=false:=by rfl):PE X (.Call (.Name x p) (e::es) [] pos) (tCB r t):=by
 intro pins s σ H Q I h
 refine wpAny_Call_Name_kw (Zcg I hg hm hv ?_ hn hdb)
 exact PyProof.Rows.callWith_type1 (thn (ha pos pins s σ H _ I h) λus s1 ⟨vs,H1,I1,r1,q1⟩=>hc pins s1 σ H1 vs us Q I1 r1 q1) he hpl
end
end L2
namespace HT
open PySem PyProof.Rows
section
open PySem.SeqAt
open PySem.AutoSeq1 (wpAny_loadPart')
open PySem.MeetsSeq PySem.MeetsSeq2 PySem.MeetsSeq3
end
section
variable {prog:Program}{w:World}{A:Around}{E:Value->Shared->Prop}{s:Shared}
theorem ZqX {t b:Addr}{vs ws:List Value}{Q:Value->Shared->Prop} (ht:IsTup s.heap t vs.toArray) (hb:IsTup s.heap b ws.toArray) (hv:vs≠[])
  (h1:ws=[]->Q (.ref t) s) (h2:ws≠[]->Q (.ref s.heap.objs.size) {s with heap:=s.heap.push {cls:=.type "tuple",data:=.seq (vs++ws).toArray}})
  (hsz:vs.length+ws.length<=sizeLine):wpAny (model prog w) A (binaryOp .Add (.ref t) (.ref b)) Q E s:=by
 obtain⟨⟨cls,dd,data,sl⟩,ho,hc,n,hd⟩:=id ht
 obtain⟨⟨cls2,dd2,data2,sl2⟩,ho2,hc2,n2,hd2⟩:=id hb
 simp only at hc hd hc2 hd2
 subst hc hd hc2 hd2
 have e:vs.toArray++ws.toArray=(vs++ws).toArray:=by simp
 by_cases hw:ws=[]
 ·exact concat_meets ⟨_,ho,rfl⟩ ⟨_,ho2,rfl⟩ noFill_tuple_add seq_tuple_add PySem.F.slot_tuple_add PySem.F.entry_tuple_add (PySem.F.args_tuple_add_2 _ _)
   (tuple_addW1 t b vs.toArray ws.toArray n n2 dd dd2 sl sl2 (by simpa using hv) (by simp[hw])) ⟨ho,ho2,h1 hw⟩
 ·refine concat_meets ⟨_,ho,rfl⟩ ⟨_,ho2,rfl⟩ noFill_tuple_add seq_tuple_add PySem.F.slot_tuple_add PySem.F.entry_tuple_add (PySem.F.args_tuple_add_2 _ _)
   (tuple_addW2 t b vs.toArray ws.toArray n n2 dd dd2 sl sl2 (by simpa using hv) (by simpa using hw) (by rw[Yn,Yn];exact hsz)) ⟨ho,ho2,?_⟩
  rw[e]
  exact h2 hw
noncomputable def sIx (n d:Nat):Option Int->Nat
 |none=>d
 |some v=>if v<0 then (v+(n:Int)).toNat else min v.toNat n
theorem ZmM (n d k:Nat):sIx n d (some (k:Int))=min k n:=by
 show(if (k:Int)<0 then ((k:Int)+(n:Int)).toNat else min (k:Int).toNat n)=min k n
 rw[Yd (by omega),YX]
end
end HT
namespace L2
open PySem PySem.Spec PyProof.Rows
noncomputable abbrev TO:=St->Hp->(Option Int->Hp->Prop)->Prop
noncomputable def PO (X:Cx) (e:Option Expr) (t:TO):Prop :=
 ∀(pins:List (Addr×Obj)) (s:Shared) (σ:St) (H:Hp) (Q:Option Int->Hp->Prop),Inv X pins σ H s->t σ H Q ->
  wpAny (model X.prog X.w) X.A (evalPart e X.env) (λu s'=>∃o H',Inv X pins σ H' s'/\IsPart u o/\Q o H') X.xe s
noncomputable def ZjH:TO:=λ_ H Q=>Q none H
noncomputable def ZoE (t:TE):TO:=fun σ H Q=>t σ H λx H1=>∃i,x=.int i/\Q (some i) H1
theorem intsAre_of {ns:List Int}:∀{us:List Value},Vals (ns.map V.int) us->IntsAre us ns:=by
 induction ns with
 |nil=>intro us r;rw[List.map_nil]at r;cases r;exact .nil
 |cons n ns ih =>
  intro us r
  rw[YT]at r
  cases r with
  |cons r1 r2 =>
   obtain⟨t,e⟩:=r1
   subst e
   exact .cons n t (ih r2)
section
variable {X:Cx}{e:Expr}{te:TE}{lo hi:Option Expr}{tl th:TO}{pos p2:Pos}
theorem ZjI:PO X none ZjH:=by
 intro pins s σ H Q I h
 rw[evalPart_none]
 exact Yg ⟨none,H,I,.none,h⟩
theorem Zf5 (h:PE X e te):PO X (some e) (ZoE te):=by
 intro pins s σ H Q I hw
 rw[evalPart_some]
 refine thn (h pins s σ H _ I hw) λu s1 ⟨x,H1,I1,r1,q1⟩=>?_
 obtain⟨i,rfl,q⟩:=q1
 obtain⟨t,rfl⟩:=r1
 exact⟨some i,H1,I1,.int i t,q⟩
noncomputable def SlR (X:Cx) (r:V->Option Int->Option Int->Hp->VK->Prop):Prop :=
 ∀(pins:List (Addr×Obj)) (s:Shared) (σ:St) (H:Hp) (x:V) (v vl vu:Value) (lo hi:Option Int) (sl:Addr) (Q:VK),Inv X pins σ H s->RelV x v->s.heap.IsSliceOf sl vl vu .none->IsPart vl lo->IsPart vu hi->r x lo hi H Q ->
  ∃T id,typeLookup (.type T) "__getitem__"=pure (some (.builtin id))/\s.TypeIs v T/\wpAny (model X.prog X.w) X.A (getItem v (.ref sl)) (EP X pins σ Q) X.xe s
noncomputable def tSl (r:V->Option Int->Option Int->Hp->VK->Prop) (te:TE) (tl th:TO):TE:=fun σ H Q=>te σ H λx H1=>tl σ H1 λl H2=>th σ H2 λu H3=>r x l u H3 Q
theorem Zf6 {r:V->Option Int->Option Int->Hp->VK->Prop} (hr:SlR X r) (he:PE X e te) (hl:PO X lo tl) (hu:PO X hi th):PE X (.Subscript e (.Slice lo hi none p2) pos) (tSl r te tl th):=by
 intro pins s σ H Q I h
 refine Subscript_ (thn (he pins s σ H _ I h) λv s1 ⟨x,H1,I1,r1,q1⟩=>?_)
 refine wpAny_Slice (thn (hl pins s1 σ H1 _ I1 q1) λvl s2 ⟨l,H2,I2,pl,q2⟩=>thn (hu pins s2 σ H2 _ I2 q2) λvu s3 ⟨u,H3,I3,pu,q3⟩=>?_)
 rw[evalPart_none]
 refine Yg ?_
 have I4:Inv X pins σ H3 {s3 with heap:=s3.heap.push {cls:=.type "slice",data:=.fields #[vl,vu,.none]}}:=I3.kept (t':=s3.toks) λb ob q=>Yo _ q
 obtain⟨T,id,hT,ht,hg⟩:=hr pins {s3 with heap:=s3.heap.push {cls:=.type "slice",data:=.fields #[vl,vu,.none]}} σ H3 x v vl vu l u s3.heap.objs.size Q I4 r1 (Heap.IsSliceOf.new ..) pl pu q3
 show wpAny (model X.prog X.w) X.A (subscriptTail e (.Slice lo hi none p2) v (.ref s3.heap.objs.size)) (EP X pins σ Q) X.xe {s3 with heap:=s3.heap.push {cls:=.type "slice",data:=.fields #[vl,vu,.none]}}
 exact tail_any (ops:=[.ref s3.heap.objs.size,v]) ht hT hg (by with_unfolding_all rfl)
noncomputable def Zfo (xs:List V) (lo hi:Option Int):List V:=(xs.drop (HT.sIx xs.length 0 lo)).take (HT.sIx xs.length xs.length hi-HT.sIx xs.length 0 lo)
theorem ZkO (xs:List V) (lo hi:Option Int):(Zfo xs lo hi).length<=xs.length:=by
 unfold Zfo
 rw[Y7,Jb]
 omega
theorem Vals.ZjJ {xs:List V}{us:List Value} (r:Vals xs us):us=[]↔xs=[]:=by
 cases r with
 |nil=>simp
 |cons _ _=>simp
end
noncomputable def ixN (n:Nat) (i:Int):Option Nat:=if 0<=i then (if i<n then some i.toNat else none)else if -(n:Int)<=i then some (i+n).toNat else none
noncomputable def atI {α:Type} (xs:List α) (i:Int):Option α:=(ixN xs.length i).bind λj=>xs[j]?
theorem ZmN {n:Nat}{i:Int}{j:Nat} (h:ixN n i=some j):seqIndex? i n=some j/\j<n/\-(n:Int)<=i/\i<n:=by
 unfold ixN at h
 by_cases h0:0<=i
 ·rw[Ye h0]at h
  by_cases h1:i<n
  ·rw[Ye h1]at h
   have e:i.toNat=j:=YD h
   exact⟨by rw[seqIndex_of h0 h1,e],by omega,by omega,h1⟩
  ·rw[Yd h1]at h;cases h
 ·rw[Yd h0]at h
  by_cases h1:-(n:Int)<=i
  ·rw[Ye h1]at h
   have e:(i+n).toNat=j:=YD h
   exact⟨by rw[seqIndex_neg (by omega) h1,e],by omega,h1,by omega⟩
  ·rw[Yd h1]at h;cases h
theorem ZjK {α:Type}{xs:List α}{i:Int}{v:α} (h:atI xs i=some v):∃j,seqIndex? i xs.length=some j/\xs[j]?=some v/\j<xs.length/\-(xs.length:Int)<=i/\i<xs.length:=by
 unfold atI at h
 cases e:ixN xs.length i with
 |none=>rw[e]at h;cases h
 |some j =>
  rw[e]at h
  obtain⟨h1,h2,h3,h4⟩:=ZmN e
  exact⟨j,h1,h,h2,h3,h4⟩
theorem Zf7 {α:Type}{xs:List α}{j:Nat}{v:α} (h:xs[j]?=some v):atI xs (j:Int)=some v:=by
 have hj:j<xs.length:=(Yh.mp h).1
 have e:ixN xs.length (j:Int)=some j:=by
  unfold ixN
  rw[Ye (by omega),Ye (by omega)];simp
 unfold atI;rw[e];exact h
theorem ZoF {α:Type} (xs:List α) (v:α):atI (xs++[v]) (-1)=some v:=by
 have hl:(xs++[v]).length=xs.length+1:=by simp
 have e:ixN (xs++[v]).length (-1)=some xs.length:=by
  unfold ixN
  rw[hl,Yd (by decide),Ye (by omega)]
  congr 1
  omega
 unfold atI
 rw[e]
 show(xs++[v])[xs.length]?=some v
 simp
noncomputable def ZqY (b:Expr):Prop:=∀o i,subscripted b false o i=operate [o,i] (getItem o i)
noncomputable def IxR (X:Cx) (r:R2):Prop :=
 ∀(value slice:Expr) (pins:List (Addr×Obj)) (s:Shared) (σ:St) (H:Hp) (x y:V) (v u:Value) (Q:VK),Inv X pins σ H s->RelV x v->RelV y u->r x y H Q ->
  subscripted slice false v u=operate [v,u] (getItem v u)->wpAny (model X.prog X.w) X.A (subscriptTail value slice v u) (EP X pins σ Q) X.xe s
noncomputable def MtR (X:Cx) (id:String) (r:V->List V->Hp->VK->Prop):Prop :=
 ∀(pins:List (Addr×Obj)) (s:Shared) (σ:St) (H:Hp) (x:V) (xs:List V) (v:Value) (us:List Value) (Q:VK),Inv X pins σ H s->RelV x v->Vals xs us->r x xs H Q ->
  wpAny (model X.prog X.w) X.A (call (.builtin id) (v::us)) (EP X pins σ Q) X.xe s
section
variable {X:Cx}{a b:Expr}{ta tb:TE}{pos:Pos}
theorem IxR.or {r r':R2} (h:IxR X r) (h':IxR X r'):IxR X (λx y H Q=>r x y H Q\/r' x y H Q):=by
 intro value slice pins s σ H x y v u Q I rx ry q hs
 rcases q with q|q
 ·exact h value slice pins s σ H x y v u Q I rx ry q hs
 ·exact h' value slice pins s σ H x y v u Q I rx ry q hs
theorem Zm {r:R2} (hr:IxR X r) (ha:PE X a ta) (hb:PE X b tb) (hs:ZqY b):PE X (.Subscript a b pos) (tOp r ta tb):=by
 intro pins s σ H Q I h
 exact Subscript_ (binT ha hb I h λv u s2 x y H2 I2 rx ry q=>hr a b pins s2 σ H2 x y v u Q I2 rx ry q (hs _ _))
noncomputable def ZcW (K:PySem.W.Frag):R2:=λx y H Q=>∃p xs i v,x=.ref p/\y=.int i/\SqL K H p xs/\atI xs i=some v/\Q v H
noncomputable def Zfp (K:PySem.W.Frag):R2:=λx y H Q=>∃p xs i v,x=.ref p/\y=.int i/\SqT K H p xs/\atI xs i=some v/\Q v H
theorem Zo:IxR X (ZcW X.K):=by
 intro value slice pins s σ H x y v u Q I rx ry h hs
 obtain⟨p,xs,i,z,rfl,rfl,hq,he,q⟩:=h
 cases rx
 obtain⟨t,rfl⟩:=ry
 obtain⟨its,r,pl,hz⟩:=I.list hq
 obtain⟨j,h1,h2,h3,h4,h5⟩:=ZjK he
 obtain⟨w,ew,rw'⟩:=r.get h2
 have hl:=r.length
 have hn:=ZhP
 have fin:EP X pins σ Q w s:=⟨z,H,I,rw',q⟩
 by_cases h0:0<=i
 ·have hj:i.toNat=j:=by
   rw[seqIndex_of h0 h5]at h1
   exact YD h1
  exact item_listR pl.isList h0 (by omega) (by rw[hj];simpa using ew) fin hs
 ·have hj:(i+(its.toArray.size:Int)).toNat=j:=by
   rw[seqIndex_neg (by omega) h4]at h1
   rw[Yn,<-hl]
   exact YD h1
  exact subscriptTail_builtinR (x:=w) pl.isList.typeIs slot_list_getitem.lookup
   (wpAny_getItem_list_neg (Q:=λr s'=>r=w/\EP X pins σ Q r s') pl.isList (by omega) (by rw[Yn]<;>omega) (by omega) (by rw[hj];simpa using ew) ⟨rfl,fin⟩) hs
theorem ZO:IxR X (Zfp X.K):=by
 intro value slice pins s σ H x y v u Q I rx ry h hs
 obtain⟨p,xs,i,z,rfl,rfl,hq,he,q⟩:=h
 cases rx
 obtain⟨t,rfl⟩:=ry
 obtain⟨its,r,pl,hz⟩:=I.tuple hq
 obtain⟨j,h1,h2,h3,h4,h5⟩:=ZjK he
 obtain⟨w,ew,rw'⟩:=r.get h2
 have hl:=r.length
 have hn:=ZhP
 have fin:EP X pins σ Q w s:=⟨z,H,I,rw',q⟩
 exact subscriptTail_builtinR (x:=w) pl.typeIs slot_tuple_getitem.lookup
  (getItem_tuple (j:=j) (Q:=λr s'=>r=w/\EP X pins σ Q r s') pl (by omega) (by omega) (by rw[Yn,<-hl];exact h1) (by simpa using ew) ⟨rfl,fin⟩) hs
theorem ZlP (its:List Value) (n j:Nat) (u:Value):Obj.mapSeq (·.setIfInBounds j u) {cls:=.type "list",data:=.seq its.toArray n}={cls:=.type "list",data:=.seq (its.set j u).toArray n}:=by
 simp[Obj.mapSeq]
theorem Inv.lst {pins:List (Addr×Obj)}{σ:St}{H:Hp}{s:Shared}{p:Addr}{xs:List V} (I:Inv X pins σ H s) (h:H p=some (.lst xs)) :
  ∃(its:List Value) (n:Nat),Vals xs its/\s.heap.get? p=some {cls:=.type "list",data:=.seq its.toArray n}/\xs.length<=sizeLine:=by
 obtain⟨z,its,n,r,e⟩:=I.hok p _ h
 exact⟨its,n,r,e,z⟩
theorem Inv.lstUpd {pins:List (Addr×Obj)}{σ:St}{H:Hp}{s:Shared}{p:Addr}{xs ys:List V}{its its':List Value}{n n':Nat}{f:Obj->Obj} (I:Inv X pins σ H s) (h:H p=some (.lst xs))
  (ho:s.heap.get? p=some {cls:=.type "list",data:=.seq its.toArray n}) (hf:f {cls:=.type "list",data:=.seq its.toArray n}={cls:=.type "list",data:=.seq its'.toArray n'}) (r:Vals ys its') (hz:ys.length<=sizeLine) (t:Nat) :
  Inv X pins σ (upd H p (.lst ys)) {s with heap:=s.heap.update p f,toks:=t}:=by
 have e:(s.heap.update p f).get? p=some {cls:=.type "list",data:=.seq its'.toArray n'}:=by
  rw[Heap.get?_update_self f ho (by rw[hf]<;>rfl),hf]
 refine I.write (x:=p) (e:=p) (by rw[h];trivial) (.inl rfl) (λb u hb q=>(Heap.get?_update_other _ _ (Ne.symm hb)).trans q) ⟨_,e⟩ ?_
 exact⟨hz,its',n',r,e⟩
noncomputable def ZoG:V->V->V->Hp->(Hp->Prop)->Prop:=λo i v H Q=>∃p xs k j,o=.ref p/\i=.int k/\H p=some (.lst xs)/\ixN xs.length k=some j/\Q (upd H p (.lst (xs.set j v)))
theorem set_list:PSet X ZoG:=by
 intro pins s σ H o i v ov iv u Q I ro ri rv h
 obtain⟨p,xs,k,j,rfl,rfl,hp,hj,q⟩:=h
 cases ro
 obtain⟨t,rfl⟩:=ri
 obtain⟨its,n,r,ho,hz⟩:=I.lst hp
 obtain⟨h1,h2,h3,h4⟩:=ZmN hj
 have hl:=r.length
 have hn:=ZhP
 have I':Inv X pins σ (upd H p (.lst (xs.set j v))) {s with heap:=s.heap.update p (Obj.mapSeq (·.setIfInBounds j u))} :=
  I.lstUpd hp ho (ZlP its n j u) (r.set rv j) (by rw[List.length_set];exact hz) s.toks
 by_cases h0:0<=k
 ·have hk:k.toNat=j:=by
   rw[seqIndex_of h0 h4]at h1
   exact YD h1
  exact PySem.W.ki_setAt ho h0 (by omega) (by rw[Yn,<-hl];exact h4) (by rw[hk];exact⟨_,I',q⟩)
 ·have hk:(k+(its.toArray.size:Int)).toNat=j:=by
   rw[seqIndex_neg (by omega) h3]at h1
   rw[Yn,<-hl]
   exact YD h1
  exact PySem.W.ki_setBack ho (by omega) (by rw[Yn,<-hl];exact h3) (by omega) (by rw[hk];exact⟨_,I',q⟩)
theorem ZjL (lo hi:Option Int) (n:Nat):(sliceBounds lo hi none n).1=((HT.sIx n 0 lo:Nat):Int)/\(sliceBounds lo hi none n).2.1=((HT.sIx n n hi:Nat):Int)/\(sliceBounds lo hi none n).2.2=1:=by
 refine⟨?_,?_,rfl⟩
 ·cases lo with
  |none=>simp[sliceBounds,HT.sIx]
  |some i =>
   simp only[sliceBounds,HT.sIx,Option.getD_none,show(1:Int)>0 by decide,if_true]
   by_cases h:i<0
   ·simp only[h,if_true]<;>omega
   ·simp only[h,if_false]<;>omega
 ·cases hi with
  |none=>simp[sliceBounds,HT.sIx]
  |some i =>
   simp only[sliceBounds,HT.sIx,Option.getD_none,show(1:Int)>0 by decide,if_true]
   by_cases h:i<0
   ·simp only[h,if_true]<;>omega
   ·simp only[h,if_false]<;>omega
theorem ZiG (its:List Value) (lo hi:Option Int):slicePick its.toArray lo hi none=((its.drop (HT.sIx its.length 0 lo)).take (HT.sIx its.length its.length hi-HT.sIx its.length 0 lo)).toArray:=by
 obtain⟨h1,h2,h3⟩:=ZjL lo hi its.toArray.size
 unfold slicePick
 rw[h1,h2,h3]
 simp only[sliceRange_one,pick_run,Yn]<;>rfl
noncomputable def rSlL (K:PySem.W.Frag):V->Option Int->Option Int->Hp->VK->Prop:=λx lo hi H Q=>∃a xs,x=.ref a/\SqL K H a xs/\∀p,H p=none->Q (.ref p) (upd H p (.lst (Zfo xs lo hi)))
theorem Zhz:SlR X (rSlL X.K):=by
 intro pins s σ H x v vl vu lo hi sl Q I rx hs pl pu h
 obtain⟨a,xs,rfl,hx,q⟩:=h
 cases rx
 obtain⟨its,r,ht,hz⟩:=I.list hx
 have hlen:=r.length
 refine⟨"list",_,slot_list_getitem.lookup,ht.isList.typeIs,?_⟩
 refine wpAny_getItem_list_slice ht.isList hs pl pu .none (by simp) ?_ (by rw[Yn]<;>omega)
 rw[ZiG,<-hlen]
 refine⟨.ref s.heap.objs.size,_,I.laid (t':=s.toks) (o:=.lst (Zfo xs lo hi)) (λb ob q=>Yo _ q) (Yc _) ?_,rfl,q _ (I.hok.fresh (Yc _))⟩
 exact⟨Ym (ZkO xs lo hi) hz,_,0,(r.drop (HT.sIx xs.length 0 lo)).take (HT.sIx xs.length xs.length hi-HT.sIx xs.length 0 lo),YE _ rfl⟩
noncomputable def flatV:V->Bool
 |.non=>true
 |.bl _=>true
 |.int _=>true
 |.str _=>true
 |_=>false
noncomputable def eqV:V->V->Bool
 |.non,.non=>true
 |.bl a,.bl b=>a==b
 |.bl a,.int b=>(if a then 1 else 0)==b
 |.int a,.bl b=>a==(if b then 1 else 0)
 |.int a,.int b=>a==b
 |.str a,.str b=>a==b
 |_,_=>false
theorem ZlQ {A:Around}{s:Shared}{y x:V}{u v:Value} (ry:RelV y u) (rx:RelV x v) (fy:flatV y=true) (fx:flatV x=true):SeqAt.EqAt A s u v (eqV y x):=by
 cases y with
 |non =>
  cases ry
  cases x with
  |non=>cases rx;exact SeqAt.EqAt.same _
  |bl b=>cases rx;exact SeqAt.EqAt.none_bool b
  |int b=>obtain⟨t,rfl⟩:=rx;exact SeqAt.EqAt.none_int b t
  |str b=>obtain⟨t,rfl⟩:=rx;exact SeqAt.EqAt.none_str b t
  |_=>exact absurd (show false=true from fx) YJ
 |bl a =>
  cases ry
  cases x with
  |non=>cases rx;exact SeqAt.EqAt.bool_none a
  |bl b=>cases rx;exact SeqAt.EqAt.bool_bool a b
  |int b=>obtain⟨t,rfl⟩:=rx;exact SeqAt.EqAt.bool_int a b t
  |str b=>obtain⟨t,rfl⟩:=rx;exact SeqAt.EqAt.bool_str a b t
  |_=>exact absurd (show false=true from fx) YJ
 |int a =>
  obtain⟨t',rfl⟩:=ry
  cases x with
  |non=>cases rx;exact SeqAt.EqAt.int_none a t'
  |bl b=>cases rx;exact SeqAt.EqAt.int_bool a t' b
  |int b=>obtain⟨t,rfl⟩:=rx;exact SeqAt.EqAt.int_int a t' b t
  |str b=>obtain⟨t,rfl⟩:=rx;exact SeqAt.EqAt.int_str a t' b t
  |_=>exact absurd (show false=true from fx) YJ
 |str a =>
  obtain⟨t',rfl⟩:=ry
  cases x with
  |non=>cases rx;exact SeqAt.EqAt.str_none a t'
  |bl b=>cases rx;exact SeqAt.EqAt.str_bool a t' b
  |int b=>obtain⟨t,rfl⟩:=rx;exact SeqAt.EqAt.str_int a t' b t
  |str b=>obtain⟨t,rfl⟩:=rx;exact SeqAt.EqAt.str_str a t' b t
  |_=>exact absurd (show false=true from fx) YJ
 |_=>exact absurd (show false=true from fy) YJ
noncomputable def eqU (x:V) (u:Value):Bool:=match u with
 |.none=>eqV .non x
 |.bool b=>eqV (.bl b) x
 |.int i _=>eqV (.int i) x
 |.str z _=>eqV (.str z) x
 |_=>false
theorem ZoH {x y:V}{u:Value} (r:RelV y u) (f:flatV y=true):eqU x u=eqV y x:=by
 cases y with
 |non=>cases r;rfl
 |bl b=>cases r;rfl
 |int i=>obtain⟨t,rfl⟩:=r;rfl
 |str z=>obtain⟨t,rfl⟩:=r;rfl
 |_=>exact absurd (show false=true from f) YJ
theorem ZjM {x:V}:∀{xs:List V}{us:List Value},Vals xs us->xs.all flatV=true->us.any (eqU x)=xs.any λy=>eqV y x
 |_,_,.nil,_=>rfl
 |y::xs,u::us,.cons r t,f=>by
  rw[List.all_cons,Bool.and_eq_true]at f
  rw[List.any_cons,List.any_cons,ZoH r f.1,ZjM t f.2]
theorem ZhQ {A:Around}{s:Shared}{x:V}{v:Value} (rx:RelV x v) (fx:flatV x=true):∀{xs:List V}{us:List Value},Vals xs us->xs.all flatV=true->∀u∈us,SeqAt.EqAt A s u v (eqU x u)
 |_,_,.nil,_=>λu hu=>by cases hu
 |y::xs,u::us,.cons r t,f=>λu' hu=>by
  rw[List.all_cons,Bool.and_eq_true]at f
  rcases Yk.mp hu with rfl|hu
  ·rw[ZoH r f.1];exact ZlQ r rx f.1 fx
  ·exact ZhQ rx fx t f.2 u' hu
noncomputable def inV (x:V) (xs:List V):Bool:=xs.any λy=>eqV y x
noncomputable def rIn (K:PySem.W.Frag) (neg:Bool):R2:=λx y H Q=>∃p xs,y=.ref p/\(SqL K H p xs\/SqT K H p xs)/\flatV x=true/\xs.all flatV=true/\Q (.bl (if neg then !inV x xs else inV x xs)) H
theorem ZnC:OpR X (compareOp .In) (rIn X.K false):=by
 intro pins s σ H x y v u Q I rx ry h
 obtain⟨p,xs,rfl,hq,fx,fs,q⟩:=h
 cases ry
 rcases hq with hq|hq
 ·obtain⟨its,r,pl,hz⟩:=I.list hq
  refine SeqAt.in_listAt (eqU x) pl.isList (λw hw=>ZhQ rx fx r fs w (by simpa using hw)) ⟨.bl _,H,I,rfl,?_⟩
  rw[show its.toArray.any (eqU x)=its.any (eqU x) by simp,ZjM r fs]
  exact q
 ·obtain⟨its,r,pl,hz⟩:=I.tuple hq
  refine SeqAt.in_tupleAt (eqU x) pl (λw hw=>ZhQ rx fx r fs w (by simpa using hw)) ⟨.bl _,H,I,rfl,?_⟩
  rw[show its.toArray.any (eqU x)=its.any (eqU x) by simp,ZjM r fs]
  exact q
theorem ZjN:Zci X (.builtin "len") (λxs H Q=>∃p ys,xs=[.ref p]/\(SqL X.K H p ys\/SqT X.K H p ys)/\Q (.int ys.length) H):=by
 intro pins s σ H xs us Q I r h
 obtain⟨p,ys,rfl,hq,q⟩:=h
 obtain⟨u,rfl,rx⟩:=vals1 r
 cases rx
 have hn:=ZhP
 rcases hq with hq|hq
 ·obtain⟨its,r',pl,hz⟩:=I.list hq
  have hlen:=r'.length
  exact Calls.call_len_list pl.isList (by simp only[Yn]<;>omega) ⟨.int ys.length,H,I.tok _,⟨s.toks+1,by rw[Yn,hlen]⟩,q⟩
 ·obtain⟨its,r',pl,hz⟩:=I.tuple hq
  have hlen:=r'.length
  exact len_tuple pl (by simp only[Yn]<;>omega) ⟨.int ys.length,H,I.tok _,⟨s.toks+1,by rw[Yn,hlen]⟩,q⟩
theorem ZjO:Zci X (.type "list") (λxs H Q=>∃p ys,xs=[.ref p]/\(SqL X.K H p ys\/SqT X.K H p ys)/\∀l,H l=none->Q (.ref l) (upd H l (.lst ys))):=by
 intro pins s σ H xs us Q I r h
 obtain⟨p,ys,rfl,hq,q⟩:=h
 obtain⟨u,rfl,rx⟩:=vals1 r
 cases rx
 have fin:∀(its:List Value),Vals ys its->ys.length<=sizeLine->∀(h':Heap) (c':Nat),(∀b o',s.heap.get? b=some o'->h'.get? b=some o') ->
   h'.get? s.heap.objs.size=some {cls:=.type "list",dict:=none,data:=.seq its.toArray c',slots:=#[]}->EP X pins σ Q (.ref s.heap.objs.size) {s with heap:=h'}:=λits r' hz h' c' kp e =>
  ⟨.ref s.heap.objs.size,_,I.laid (t':=s.toks) kp (Yc _) (show Zau X.prog X.w _ h' _ (.lst ys)from⟨hz,its,c',r',e⟩),rfl,q _ (I.hok.fresh (Yc _))⟩
 rcases hq with hq|hq
 ·obtain⟨its,r',pl,hz⟩:=I.list hq
  have hlen:=r'.length
  obtain⟨o,ho,hc,n,hd⟩:=pl.isList
  exact call_list_seq p (.inl rfl) ho hc hd (λh' c' kp e=>fin its r' hz h' c' kp e) (by simp only[Yn]<;>omega)
 ·obtain⟨its,r',pl,hz⟩:=I.tuple hq
  have hlen:=r'.length
  obtain⟨o,ho,hc,n,hd⟩:=pl
  exact call_list_seq p (.inr rfl) ho hc hd (λh' c' kp e=>fin its r' hz h' c' kp e) (by simp only[Yn]<;>omega)
theorem ZiH:Zci X (.type "tuple") (λxs H Q=>∃p ys,xs=[.ref p]/\((SqL X.K H p ys/\∀l,H l=none->Q (.ref l) (upd H l (.tup ys)))\/(SqT X.K H p ys/\Q (.ref p) H))):=by
 intro pins s σ H xs us Q I r h
 obtain⟨p,ys,rfl,h⟩:=h
 obtain⟨u,rfl,rx⟩:=vals1 r
 cases rx
 rcases h with⟨hq,q⟩|⟨hq,q⟩
 ·obtain⟨its,r',pl,hz⟩:=I.list hq
  have hlen:=r'.length
  refine call_tuple_list pl.isList (λh' kp=>?_) (by simp only[Yn]<;>omega)
  have I1:Inv X pins σ H {s with heap:=h'}:=I.kept (t':=s.toks) kp
  have I2:Inv X pins σ (upd H h'.objs.size (.tup ys)) {s with heap:=h'.push {cls:=.type "tuple",data:=.seq its.toArray}} :=
   I1.laid (t':=s.toks) (λb o e=>Yo _ e) (Yc _) (show Zau X.prog X.w _ _ _ (.tup ys)from⟨hz,its,r',IsTup.new _ _⟩)
  exact⟨.ref h'.objs.size,_,I2,rfl,q _ (I1.hok.fresh (Yc _))⟩
 ·obtain⟨its,r',pl,hz⟩:=I.tuple hq
  exact call_tuple_same pl ⟨.ref p,H,I,rfl,q⟩
noncomputable def tyV (K:PySem.W.Frag) (T:String) (x:V) (H:Hp):Prop:=match x with
 |.str _=>T="str"
 |.int _=>T="int"
 |.ref p=>(T="list"/\∃xs,SqL K H p xs)\/(T="tuple"/\∃o,K.lookup p=some o/\o.cls=.type "tuple"/\o.dict=none) \/
   (T="dict"/\((∃kvs,H p=some (.dK kvs))\/∃kvs,H p=some (.dT kvs)))\/(T="set"/\∃S n,H p=some (.set S n))
 |_=>False
theorem tyV_is {pins:List (Addr×Obj)}{σ:St}{H:Hp}{s:Shared}{T:String}{x:V}{v:Value} (I:Inv X pins σ H s) (r:RelV x v) (ty:tyV X.K T x H) :
  s.TypeIs v T/\∀a,v=.ref a->∃ob,s.heap.get? a=some ob/\ob.dict=none:=by
 cases x with
 |str z =>
  obtain⟨t,rfl⟩:=r
  cases(show T="str" from ty)
  exact⟨typeIs_str s z t,λ_ e=>nomatch e⟩
 |int i =>
  obtain⟨t,rfl⟩:=r
  cases(show T="int" from ty)
  exact⟨typeIs_int s i t,λ_ e=>nomatch e⟩
 |ref p =>
  cases r
  rcases ty with⟨rfl,xs,hq⟩|⟨rfl,o,hk,hc,hd⟩|⟨rfl,hk⟩|⟨rfl,S,n,hk⟩
  ·obtain⟨its,_,pl,_⟩:=I.list hq
   refine⟨pl.isList.typeIs,λa e=>?_⟩
   cases e
   obtain⟨o,n,e,c,hd,_⟩:=pl
   exact⟨o,e,hd⟩
  ·refine⟨⟨o,I.kIn p o hk,hc⟩,λa e=>?_⟩
   cases e
   exact⟨o,I.kIn _ o hk,hd⟩
  ·have z:∃o,s.heap.get? p=some o/\o.ExactDict:=by
    rcases hk with⟨kvs,hk⟩|⟨kvs,hk⟩
    ·obtain⟨_,_,_,_,o,_,_,e,ex,_⟩:=I.hok p _ hk
     exact⟨o,e,ex⟩
    ·obtain⟨_,_,_,_,o,_,_,e,ex,_⟩:=I.hok p _ hk
     exact⟨o,e,ex⟩
   obtain⟨o,e,ex⟩:=z
   refine⟨⟨o,e,ex.1⟩,λa e2=>?_⟩
   cases e2
   exact⟨o,e,ex.2.1⟩
  ·obtain⟨o,_,_,_,e,ex,_⟩:=I.hok p _ hk
   refine⟨⟨o,e,ex.1⟩,λa e2=>?_⟩
   cases e2
   exact⟨o,e,ex.2.1⟩
 |_=>exact False.elim ty
noncomputable def tBM (K:PySem.W.Frag) (T:String) (r:V->List V->Hp->VK->Prop) (to:TE) (t:TA):TE:=fun σ H Q=>to σ H λx H1=>tyV K T x H1/\t σ H1 λxs H2=>r x xs H2 Q
variable {o e:Expr}{es:List Expr}{to:TE}{t:TA}{name:Str}{apos cpos:Pos}{T id:String}{r:V->List V->Hp->VK->Prop}
theorem ZbW (pa:PlainAttrs T) (slot:Slot T name id) (hty:typeOf (.builtin id)=pure (.type "method_descriptor")) (hm:MtR X id r) (ho:PE X o to) (ha:PA X (e::es) t)
  (hbase:attributeBase o name X.env (eval o X.env)=eval o X.env:=by rfl)
  (hfew:((backTo cpos (starEach (e::es) X.env)).all (λx=>!x.1)&&(backToKw cpos (keywordEach [] X.env)).all (λx=>x.1.isSome)
   && decide ((e::es).length+([]:List Keyword).length+(if ([]:List Keyword).isEmpty then 0 else 1)<30))=true:=by rfl)
  (hline:(apos.endLine==cpos.line)=true:=by rfl) (hs:starEach (e::es) X.env=(false,eval e X.env)::starEach es X.env:=by rfl) (hplain:(backTo cpos (starEach es X.env)).any (·.1)=false:=by rfl) :
  PE X (.Call (.Attribute o name apos) (e::es) [] cpos) (tBM X.K T r to t):=by
 intro pins s σ H Q I h
 refine wpAny_Call_method_late hbase hfew hline rfl (thn (ho pins s σ H _ I h) λv s1 ⟨x,H1,I1,r1,ty,q1⟩=>?_)
 obtain⟨h1,h2⟩:=tyV_is I1 r1 ty
 refine⟨T,id,pa,slot,hty,h1,h2,?_⟩
 have hA:=ha cpos pins s1 σ H1 _ I1 q1
 rw[hs]at hA⊢
 refine Calls.callWith_builtin (by show(false||(backTo cpos (starEach es X.env)).any (·.1))=false;rw[hplain]<;>rfl) (Calls.evalArgs_plain ?_)
 exact thn hA λus s2 ⟨vs,H2,I2,r2,q2⟩=>hm pins s2 σ H2 x vs v us Q I2 r1 r2 q2
end
noncomputable def MtM (X:Cx) (id:String) (r:V->List V->Hp->VK->Prop):Prop :=
 ∀(pins:List (Addr×Obj)) (s:Shared) (σ:St) (H:Hp) (x:V) (xs:List V) (v:Value) (us:List Value) (Q:VK),Inv X pins σ H s->RelV x v->Vals xs us->r x xs H Q ->
  wpAny (model X.prog X.w) X.A (call (.builtin id) (v::us)) (EP X pins σ Q) X.xe s
theorem Vals.one:∀{x:V}{us:List Value},Vals [x] us->∃u,us=[u]/\RelV x u
 |_,_,.cons r .nil=>⟨_,rfl,r⟩
theorem Vals.two:∀{x y:V}{us:List Value},Vals [x,y] us->∃u v,us=[u,v]/\RelV x u/\RelV y v
 |_,_,_,.cons r (.cons q .nil)=>⟨_,_,rfl,r,q⟩
theorem Vals.rep {xs:List V}{us:List Value} (h:Vals xs us):∀k:Nat,Vals (List.replicate k xs).flatten (List.replicate k us).flatten
 |0=>.nil
 |k+1=>by
  rw[List.replicate_succ,List.replicate_succ,List.flatten_cons,List.flatten_cons]
  exact Vals.append h (Vals.rep h k)
theorem foldl_rep (its:List Value):∀(k:Nat) (acc:List Value),
  List.foldl (λx1 x2=>x1++x2) acc.toArray (List.replicate k its.toArray)=(acc++(List.replicate k its).flatten).toArray
 |0,acc=>by simp
 |k+1,acc=>by
  have e:acc.toArray++its.toArray=(acc++its).toArray:=by simp
  have e2:(acc++its)++(List.replicate k its).flatten=acc++(List.replicate (k+1) its).flatten:=by
   rw[List.replicate_succ,List.flatten_cons,Y6]
  rw[<-e2,<-foldl_rep its k (acc++its),<-e,List.replicate_succ,List.foldl_cons]
section
variable {X:Cx}{pins:List (Addr×Obj)}{σ:St}{H:Hp}{s:Shared}{l b:Addr}{xs ys zs:List V}
theorem Inv.lset {its its':List Value}{n:Nat}{f:Array Value->Array Value}{t':Nat} (I:Inv X pins σ H s) (hH:H l=some (.lst xs))
  (e:s.heap.get? l=some {cls:=.type "list",data:=.seq its.toArray n}) (hf:f its.toArray=its'.toArray) (hv:Vals ys its') (hz:ys.length<=sizeLine) :
  Inv X pins σ (upd H l (.lst ys)) {s with heap:=s.heap.update l (Obj.mapSeq f),toks:=t'}:=by
 have q:=PySem.IsL.update e f
 rw[hf]at q
 refine I.write (x:=l) (e:=l) (by rw[hH];exact trivial) (.inl rfl) (λb' u hb hu=>(Heap.get?_update_other s.heap (Obj.mapSeq f) (Ne.symm hb)).trans hu) ⟨_,q⟩ ?_
 exact⟨hz,its',_,hv,q⟩
theorem Inv.lnew {its:List Value}{t':Nat} (I:Inv X pins σ H s) (hv:Vals ys its) (hz:ys.length<=sizeLine) :
  Inv X pins σ (upd H s.heap.objs.size (.lst ys)) {s with heap:=s.heap.push {cls:=.type "list",data:=.seq its.toArray},toks:=t'} :=
 I.laid (λ_ _ q=>Yo _ q) (Yc _) ⟨hz,its,0,hv,YE _ rfl⟩
theorem Inv.fresh (I:Inv X pins σ H s):H s.heap.objs.size=none:=I.hok.fresh (Yc _)
theorem Inv.ZkP (I:Inv X pins σ H s) (hH:H l=some (.lst xs)):xs.length<=sizeLine/\∃(its:List Value) (n:Nat),Vals xs its/\xs.length=its.length/\s.heap.get? l=some {cls:=.type "list",data:=.seq its.toArray n}:=by
 obtain⟨z,its,n,r,e⟩:=I.hok l _ hH
 exact⟨z,its,n,r,r.length,e⟩
theorem ZkQ {n:Nat} (h:n<=sizeLine):Builtin.List.listTooLong n=false:=by
 unfold Builtin.List.listTooLong
 exact YC (by omega)
end
section
variable {X:Cx}
noncomputable def ZjP:V->List V->Hp->VK->Prop:=λx vs H Q=>∃l xs y,x=.ref l/\vs=[y]/\H l=some (.lst xs)/\xs.length<sizeLine/\Q .non (upd H l (.lst (xs++[y])))
theorem ZZ:MtM X "list.append" ZjP:=by
 intro pins s σ H x vs v us Q I rx rv h
 obtain⟨l,xs,y,rfl,rfl,hH,hz,q⟩:=h
 cases rx
 obtain⟨u,rfl,ru⟩:=rv.one
 obtain⟨z,its,n,r,hl,e⟩:=I.ZkP hH
 refine call_meets F.slot_list_append ⟨_,e,rfl⟩ F.entry_list_append (F.args_list_append_2 _ _) (PySem.list_append l its.toArray n u (by rw[Yn];omega)) ⟨e,?_⟩
 refine⟨.non,_,I.lset (its':=its++[u]) hH e (by simp) (r.append (.cons ru .nil)) ?_,rfl,q⟩
 rw[YH,List.length_singleton]
 omega
noncomputable def ZjQ:V->List V->Hp->VK->Prop:=λx vs H Q=>∃l b xs zs,x=.ref l/\vs=[.ref b]/\H l=some (.lst xs)/\H b=some (.lst zs)/\xs.length+zs.length<=sizeLine/\Q .non (upd H l (.lst (xs++zs)))
theorem ZnD:MtM X "list.extend" ZjQ:=by
 intro pins s σ H x vs v us Q I rx rv h
 obtain⟨l,b,xs,zs,rfl,rfl,hH,hB,hz,q⟩:=h
 cases rx
 obtain⟨u,rfl,ru⟩:=rv.one
 cases ru
 obtain⟨z,its,n,r,hl,e⟩:=I.ZkP hH
 obtain⟨z2,its2,n2,r2,hl2,e2⟩:=I.ZkP hB
 have hsz:its.toArray.size+its2.toArray.size<=sizeLine:=by rw[Yn,Yn];omega
 have hlong:¬ (!its.toArray.isEmpty&&Builtin.List.listTooLong (its.toArray.size+its2.toArray.size))=true:=by
  rw[ZkQ hsz,Bool.and_false]
  exact YJ
 refine call_meets F.slot_list_extend ⟨_,e,rfl⟩ F.entry_list_extend (F.args_list_extend_2 _ _)
  (AutoSeq1.list_extend_list_list_0 l its.toArray n b its2.toArray n2 hlong (by rw[Yn];omega) (by omega)) ⟨e,e2,?_⟩
 refine⟨.non,_,I.lset (its':=its++its2) hH e (by simp) (r.append r2) ?_,rfl,q⟩
 rw[YH]
 omega
noncomputable def rCat:R2:=λx y H Q=>∃l b xs zs,x=.ref l/\y=.ref b/\H l=some (.lst xs)/\H b=some (.lst zs)/\xs.length+zs.length<=sizeLine/\∀p,H p=none->Q (.ref p) (upd H p (.lst (xs++zs)))
theorem ZlR:OpR X (binaryOp .Add) rCat:=by
 intro pins s σ H x y v u Q I rx ry h
 obtain⟨l,b,xs,zs,rfl,rfl,hH,hB,hz,q⟩:=h
 cases rx
 cases ry
 obtain⟨z,its,n,r,hl,e⟩:=I.ZkP hH
 obtain⟨z2,its2,n2,r2,hl2,e2⟩:=I.ZkP hB
 refine PySem.P.add_list e e2 ?_ (by rw[Yn,Yn];omega)
 have ea:its.toArray++its2.toArray=(its++its2).toArray:=by simp
 rw[ea]
 exact⟨.ref _,_,I.lnew (t':=s.toks) (r.append r2) (by rw[YH];omega),rfl,q _ I.fresh⟩
noncomputable def rRep:R2:=λx y H Q=>∃l k xs,x=.ref l/\y=.int k/\H l=some (.lst xs)/\-(2 ^ 63)<=k/\k<2 ^ 63/\xs.length*k.toNat<=sizeLine /\
 ∀p,H p=none->Q (.ref p) (upd H p (.lst (List.replicate k.toNat xs).flatten))
theorem len_rep {α:Type} (xs:List α) (k:Nat):(List.replicate k xs).flatten.length=k*xs.length:=by
 induction k with
 |zero=>simp
 |succ k ih=>rw[List.replicate_succ,List.flatten_cons,YH,ih,Nat.succ_mul,Nat.add_comm]
theorem op_rep:OpR X (binaryOp .Mult) rRep:=by
 intro pins s σ H x y v u Q I rx ry h
 obtain⟨l,k,xs,rfl,rfl,hH,h1,h2,hz,q⟩:=h
 cases rx
 obtain⟨t,rfl⟩:=ry
 obtain⟨z,its,n,r,hl,e⟩:=I.ZkP hH
 have hlen:its.toArray.size*k.toNat<=sizeLine:=by rw[Yn,<-hl];exact hz
 have hcap:¬ its.toArray.size*k.toNat>(2 ^ 63-1) / 8:=by
  have:(sizeLine:Nat)<=(2 ^ 63-1) / 8:=by decide
  omega
 have hfit:¬ (!Builtin.List.listFitsIndex k)=true:=by
  rw[fitsIndex_both h1 h2]
  exact YJ
 have hlong:¬ Builtin.List.listTooLong (its.toArray.size*k.toNat)=true:=by
  rw[ZkQ hlen]
  exact YJ
 have hnew:List.foldl (λx1 x2=>x1++x2) #[] (List.replicate (if its.toArray.isEmpty=true then 0 else k.toNat) its.toArray)=(List.replicate k.toNat its).flatten.toArray:=by
  have f0:∀m:Nat,List.foldl (λx1 x2=>x1++x2) #[] (List.replicate m its.toArray)=(List.replicate m its).flatten.toArray:=λm=>by
   have:=foldl_rep its m []
   rw[List.nil_append]at this
   exact this
  rw[f0]
  cases its with
  |nil=>simp
  |cons a r'=>rw[Yd (by simp)]
 refine wpAny_binaryOp_repeat_ref (T:="list") (U:="int") (by decide) ⟨_,e,rfl⟩ (λs'=>typeIs_int s' k t) noFill_list_mul F.fills_int_mul F.slot_int_rmul repeat_list F.slot_int_index.lookup
  (call_meets F.slot_int_rmul (typeIs_int s k t) F.entry_int_rmul (F.args_int_rmul_2 _ _) (int___rmul___int_list k t l its.toArray n)
   ⟨e,rfl,⟨_,e,rfl⟩,call_meets F.slot_list_mul ⟨_,e,rfl⟩ F.entry_list_mul (F.args_list_mul_2 _ _) (AutoListH.list___mul___list_int_3 l its.toArray n k t hfit hcap hlong) ⟨e,?_⟩⟩)
 rw[hnew]
 exact⟨.ref _,_,I.lnew (t':=s.toks) (r.rep k.toNat) (by rw[len_rep,Nat.mul_comm];exact hz),rfl,q _ I.fresh⟩
end
end L2
namespace Att
open PySem PySem.W PySem.Calls PyProof.Rows
theorem Zho {P:Params}{h:Heap}:∀(ns:List Int) (vs:List Value),WellAll P h vs (ns.map WData.int)->IntsAre vs ns:=by
 intro ns
 induction ns with
 |nil =>
  intro vs w
  rw[List.map_nil]at w
  cases w
  exact .nil
 |cons n ns ih =>
  intro vs w
  rw[YT]at w
  cases w with
  |cons a b =>
   cases a
   exact .cons _ _ (ih _ b)
theorem ZnE {l:OpenLaw}{n:Nat} (hn:l.most=some n) {P:Params}{h:Heap}{args:List WData}{vals:List Value}
  (hpre:l.row.toRowW.claim.pre args=true) (hwl:WellAll P h vals args) :
  ∃a vs ns,vals=[Value.ref a]/\args=[WData.list (ns.map WData.int)]/\h.get? a=some {cls:=.type "list",data:=.seq vs.toArray}/\IntsAre vs ns/\ns.length<=n:=by
 have hsh:WShape.hasAll [] args [.list .int]=true:=(pre_splitW hpre).1
 have hc:l.pre.holds [] {args:=args}=true:=(pre_splitW hpre).2
 obtain⟨d,r,rfl,h1,h2⟩:=hasAllW_cons hsh
 obtain rfl:=hasAllW_nil h2
 obtain⟨xs,rfl,h3⟩:=hasW_list h1
 obtain⟨ns,rfl⟩:=items_int h3
 have hlen:ns.length<=n:=by
  unfold OpenLaw.pre at hc
  have h4:(WTm.not (.lt (.lit (.int (n:Int))) (.len (.arg 0)))).holds [] {args:=[.list (ns.map .int)]}=true:=by
   have h4:=(holds_andW hc).1
   rw[hn]at h4
   exact h4
  have h5:=condW_of h4 (w_not (w_lt w_lit (w_len_list (w_arg rfl))))
  rw[Yf]at h5
  refine Nat.le_of_not_lt λq=>?_
  have q':(n:Int)<((ns.length:Nat):Int):=by omega
  first
   |(rw[Yz q']at h5;exact absurd h5 (by decide))
   |(simp at h5;omega)
 cases hwl with
 |cons w1 w2 =>
  cases w2
  cases w1 with
  |list ho hall=>exact⟨_,_,ns,rfl,rfl,ho,Zho ns _ hall,hlen⟩
theorem ZnF (l:OpenLaw) (args:List WData):l.row.toRowW.claim.post args (.bool true) args=true :=
 postW_of (r:=l.row.toRowW) (X:=(true==true))
  (show WShape.has [] (.bool true) .bool=true by first|rfl|decide|simp[WShape.has,WShape.arms,WShape.armsAll])
  (show(WTm.eq .res (.lit (.bool true))).value [] {args:=args,res:=some (.bool true),after:=args}=some (.bool (true==true))from w_eq_bool (w_res rfl) w_lit) rfl
theorem ZkR {l:OpenLaw}{n:Nat}{q:Program}{loose:List Str}{XP:(Str->Option Value)->Heap->Prop}{YP:World->Heap->Prop}{d:DefRec}
  (hn:l.most=some n) (hdf:d.params.defaults=[])
  (call:∀(w:World) (s₀ s₁:Shared) (mg mb:Str->Option Value) (fa:Addr) (o:Obj) (pm cd doc:Value) (a:Addr) (vs:List Value) (ns:List Int),
   Ground q loose [] XP w s₀ mg mb s₁.heap->YP w s₁.heap ->
   s₁.heap.get? fa=some o->o.data=.func (docDef d.name d.params d.body d.scope pm cd doc)->s₁.heap.CodeRec cd d.name->mg d.name=some (.ref fa) ->
   s₁.heap.get? a=some {cls:=.type "list",data:=.seq vs.toArray}->IntsAre vs ns->ns.length<=n->s₁.gens=#[] ->
   codeAny (model l.prog w) callerA (.call (.ref fa) ⟨[.ref a],[]⟩) (λr s'=>r=.ok (.ret (.bool true))/\OldK s₁.heap s'.heap/\s'.os=s₁.os/\AllBare s'.gens) s₁) :
  WalkO q loose XP YP l.row.toRowW d [] (λf vs=>PySem.call f vs):=by
 intro w s₀ s₁ mg mb G Y fa o pm cd doc dV kV ho hd hcd hD hmg hg args vals as hpre hlay hrd hwl hlo
 obtain rfl:dV=.none:=Dflts.none hD hdf
 obtain rfl:kV=.none:=Dflts.noKw hD
 obtain⟨a,vs,ns,rfl,rfl,hobj,hints,hlen⟩:=ZnE hn hpre hwl
 refine enter_call (codeAny_mono (call w s₀ s₁ mg mb fa o pm cd doc a vs ns G Y ho (fd_plain hd) hcd hmg hobj hints hlen hg) λr s' hq=>?_)
 obtain⟨rfl,h2,h3,h4⟩:=hq
 exact⟨.inl ⟨.bool true,.bool true,[],rfl,λ_=>rfl,.bool true,ZnF l _,λ_=>⟨List.Pairwise.nil,λ_ hm=>(nomatch hm)⟩⟩,h2,h3,h4⟩
end Att
namespace L2
open PySem PySem.Spec PyProof.Rows
theorem ZgG:∀{vs:List Value}{ns:List Int},IntsAre vs ns->Vals (ns.map V.int) vs
 |_,_,.nil=>.nil
 |_,_,.cons n t h=>.cons ⟨t,rfl⟩ (ZgG h)
noncomputable def defArgs (s:Stmt):Arguments:=match s with
 |.FunctionDef _ a _ _ _ _ _ _ _ _=>a
 |_=>{posonlyargs:=[],args:=[],vararg:=none,kwonlyargs:=[],kw_defaults:=[],kwarg:=none,defaults:=[]}
noncomputable def defBody (s:Stmt):List Stmt:=match s with
 |.FunctionDef _ _ b _ _ _ _ _ _ _=>b
 |_=>[]
noncomputable def defScope (s:Stmt):Scope:=match s with
 |.FunctionDef _ _ _ _ _ _ sc _ _ _=>sc
 |_=>{kind:=.function,names:=[],isGenerator:=false,isCoroutine:=false}
noncomputable abbrev E0:XK:=λ_ _ _=>False
structure Fun (K:PySem.W.Frag) (x qual:Str) (st:Stmt) (f:Addr) (fd:FuncData):Prop where
 ex:∃(oc:Value) (od:Option Addr) (kV doc pm:Value) (an:Option Addr) (cdv ct:Value) (osl:Array (Option Value)),
  fd=PySem.W.fnOf x qual (defArgs st) (defBody st) (defScope st) .none kV doc pm an cdv ct/\K.lookup f=some ⟨oc,od,.func fd,osl⟩/\PySem.W.codeIn K cdv qual=true
 kp:PySem.W.keepIn K (.ref f)=true
section
variable {P:Program}{w:World}{K:PySem.W.Frag}{mg:Str->Option Value}{base:Heap}
theorem Fun.binds {x qual:Str}{st:Stmt}{f:Addr}{fd:FuncData}{ps:List Str} (F:Fun K x qual st f fd)
  (h:∀(kV doc pm:Value) (an:Option Addr) (cdv ct:Value) (us:List Value),us.length=ps.length->bindArgs (PySem.W.fnOf x qual (defArgs st) (defBody st) (defScope st) .none kV doc pm an cdv ct) ⟨us,[]⟩=pure (ps.zip us)):Binds K fd ps []:=by
 obtain⟨oc,od,kV,doc,pm,an,cdv,ct,osl,rfl,lk,hcd⟩:=F.ex
 exact .all (h kV doc pm an cdv ct)
theorem ZJ {x qual:Str}{st:Stmt}{f:Addr}{oc:Value}{od an:Option Addr}{osl:Array (Option Value)}{kV doc pm cdv ct:Value} (l:K.lookup f=some ⟨oc,od,.func (PySem.W.fnOf x qual (defArgs st) (defBody st) (defScope st) .none kV doc pm an cdv ct),osl⟩)
  (c:PySem.W.codeIn K cdv qual=true) (k:PySem.W.keepIn K (.ref f)=true):Fun K x qual st f (PySem.W.fnOf x qual (defArgs st) (defBody st) (defScope st) .none kV doc pm an cdv ct):=⟨⟨oc,od,kV,doc,pm,an,cdv,ct,osl,rfl,l,c⟩,k⟩
end
section
variable {X:Cx}
theorem pv (i:Nat) {x:Str}{pos:Pos} (hN:X.N[i]?=some x:=by rfl) (hv:Vis X.env.scope x:=by first|exact Or.inl rfl|exact Or.inr (Or.inl rfl)|exact Or.inr (Or.inr rfl)) (hd:(x==("__debug__":Str))=false:=by decide)
  (hcd:(x==("__classdict__":Str))=false:=by decide):PE X (.Name x pos) (ZiE i):=pe_var hN hv hd hcd
end
theorem ZD {c A B:Prop} [Decidable c] (h1:c->A) (h2:¬ c->B):if c then A else B:=by
 by_cases h:c
 ·rw[Ye h]
  exact h1 h
 ·rw[Yd h]
  exact h2 h
noncomputable def Ze (H H':Hp):Prop:=∀b o,H b=some o->H' b=some o
theorem Ze.refl (H:Hp):Ze H H:=λ_ _ h=>h
theorem Ze.trans {H H1 H2:Hp} (a:Ze H H1) (b:Ze H1 H2):Ze H H2:=λc o h=>b c o (a c o h)
theorem Ze.free {H H':Hp} (e:Ze H H') {l:Addr} (h:H' l=Option.none):H l=Option.none:=by
 cases q:H l with
 |none=>rfl
 |some o =>
  rw[e l o q]at h
  cases h
theorem Ze.seq {K:PySem.W.Frag}{H H':Hp}{a:Addr}{xs:List V} (e:Ze H H') (h:SqL K H a xs):SqL K H' a xs:=by
 rcases h with(h|⟨o,h⟩)|h
 ·exact .inl (.inl (e _ _ h))
 ·exact .inl (.inr ⟨o,e _ _ h⟩)
 ·exact .inr h
theorem ZdN {env:Env}:∀(names:List (Str×NameKind)) (cs0:List (Str×Addr)),(∀y∈names,y.2=.free->∃c,env.cells.lookup y.1=some c) ->
  ∃cl,(forIn names cs0 (λ(x:Str×NameKind) r=>(do
   match x with
   |(name,kind)=>if (kind==NameKind.free)=true then do let a <-cellOf env name;pure (ForInStep.yield ((name,a)::r))else pure (ForInStep.yield r)):_->_->Sem (ForInStep (List (Str×Addr)))))=pure cl /\
   (∀p∈cl,p∈cs0\/env.cells.lookup p.1=some p.2)/\(∀p∈cs0,p∈cl)/\(∀y∈names,y.2=.free->∃c,(y.1,c)∈cl)
 |[],cs0,_=>⟨cs0,rfl,λp h=>.inl h,λp h=>h,λy h=>by cases h⟩
 |(n,k)::r,cs0,h=>by
  by_cases hk:k=.free
  ·subst hk
   obtain⟨c,hc⟩:=h (n,.free) (.head _) rfl
   obtain⟨cl,e,h1,h2,h3⟩:=ZdN r ((n,c)::cs0) λy hy=>h y (.tail _ hy)
   refine⟨cl,?_,λp hp=>?_,λp hp=>h2 p (.tail _ hp),λy hy hf=>?_⟩
   ·rw[List.forIn_cons]
    have e1:cellOf env n=pure c:=by unfold cellOf;rw[hc]
    simp only[beq_self_eq_true,if_true,e1,pure_bind]
    exact e
   ·rcases h1 p hp with q|q
    ·rcases Yk.mp q with q|q
     ·subst q;exact .inr hc
     ·exact .inl q
    ·exact .inr q
   ·rcases Yk.mp hy with q|q
    ·subst q;exact⟨c,h2 _ (.head _)⟩
    ·exact h3 y q hf
  ·obtain⟨cl,e,h1,h2,h3⟩:=ZdN r cs0 λy hy=>h y (.tail _ hy)
   refine⟨cl,?_,h1,h2,λy hy hf=>?_⟩
   ·rw[List.forIn_cons]
    have e1:(k==NameKind.free)=false:=by cases k<;>first|rfl|exact absurd rfl hk
    simp only[e1,Bool.false_eq_true,if_false,pure_bind]
    exact e
   ·rcases Yk.mp hy with q|q
    ·subst q;exact absurd hf hk
    ·exact h3 y q hf
theorem ZlS {env:Env}{scope:Scope} (h:∀y∈scope.names,y.2=.free->∃c,env.cells.lookup y.1=some c) :
  ∃cl,closureFor scope env=pure cl/\(∀x c,cl.lookup x=some c->env.cells.lookup x=some c)/\(∀y∈scope.names,y.2=.free->∃c,cl.lookup y.1=some c/\env.cells.lookup y.1=some c):=by
 obtain⟨cl,e,h1,h2,h3⟩:=ZdN (env:=env) scope.names [] h
 have up:∀x c,cl.lookup x=some c->env.cells.lookup x=some c:=λx c q=>by
  rcases h1 _ (PySem.mem_of_lookup q)with z|z
  ·cases z
  ·exact z
 refine⟨cl,?_,up,λy hy hf=>?_⟩
 ·unfold closureFor
  simp only[bind_pure_comp]at e⊢
  rw[e]
  exact pure_bind _ _
 ·obtain⟨c,hc⟩:=h3 y hy hf
  cases q:cl.lookup y.1 with
  |none=>exact absurd (List.lookup_eq_none_iff.mp q _ hc) (by simp)
  |some c'=>exact⟨c',rfl,up _ _ q⟩
noncomputable def compOk (around scope:Scope):Bool :=
 scope.kind==.function&&around.kind==.function&&scope.names.all λy=>match y.2 with
  |.local=>scope.names.lookup y.1==some .local
  |.cell=>false
  |.free=>(scope.names.lookup y.1==some .free)&&(around.names.lookup y.1==some .cell||around.names.lookup y.1==some .free)
  |_=>true
theorem Zg4 {a s:Scope} (h:compOk a s=true):s.kind=.function:=by
 simp only[compOk,Bool.and_eq_true,beq_iff_eq]at h;exact h.1.1
theorem Zjd {a s:Scope} (h:compOk a s=true) {y:Str×NameKind} (hy:y∈s.names):(match y.2 with
  |.local=>s.names.lookup y.1==some .local
  |.cell=>false
  |.free=>(s.names.lookup y.1==some .free)&&(a.names.lookup y.1==some .cell||a.names.lookup y.1==some .free)
  |_=>true)=true:=by
 simp only[compOk,Bool.and_eq_true]at h
 exact List.all_eq_true.mp h.2 y hy
theorem Zg5 {a s:Scope} (h:compOk a s=true):∀y∈s.names,y.2≠.cell:=λy hy e=>by
 have q:=Zjd h hy
 rw[e]at q
 cases q
theorem Zg6 {a s:Scope} (h:compOk a s=true):∀y∈s.names,y.2=.free->a.names.lookup y.1=some .cell\/a.names.lookup y.1=some .free:=λy hy e=>by
 have q:=Zjd h hy
 rw[e]at q
 simp only[Bool.and_eq_true,Bool.or_eq_true,beq_iff_eq]at q
 exact q.2
theorem ZaR {env:Env}:∀{names:List (Str×NameKind)}{x:Str}{k:NameKind},(names.map λ(n,k)=>if (k==NameKind.free&&env.scope.kind==.function&&env.kindOf n==some .cell)then (n,NameKind.cell)else (n,k)).lookup x=some k ->
  ∃k',names.lookup x=some k'/\(k=k'\/(k'=.free/\k=.cell))
 |[],_,_,h=>by simp at h
 |(n,k0)::r,x,k,h=>by
  by_cases hx:x=n
  ·subst hx
   refine⟨k0,by simp,?_⟩
   simp only[YT]at h
   split at h
   ·rename_i hc
    simp only[Bool.and_eq_true,beq_iff_eq]at hc
    simp only[List.lookup_cons_self,Option.some.injEq]at h
    exact .inr ⟨hc.1.1,h.symm⟩
   ·simp only[List.lookup_cons_self,Option.some.injEq]at h
    exact .inl h.symm
  ·have hb:(x==n)=false:=by simpa using hx
   simp only[YT]at h
   have e2:∀k1,((n,k1)::r).lookup x=r.lookup x:=λk1=>by simp[List.lookup_cons,hb]
   split at h<;>(simp only[List.lookup_cons,hb]at h;obtain⟨k',h1,h2⟩:=ZaR h;exact⟨k',by rw[e2];exact h1,h2⟩)
noncomputable def ZoI (X:Cx) (Nc:List Str) (scope:Scope) (cl:List (Str×Addr)) (C:Addr) (s2:Shared) (H2:Hp) (fp:List Addr):Cx where
 prog:=X.prog
 w:=X.w
 K:=X.K
 mg:=X.mg
 base:=X.base
 A:=X.A
 N:=Nc
 s₀:=s2
 H₀:=H2
 env:=compEnvC scope cl C X.env
 outer:=X.stack
 stack:=X.stack
 ex:=fp
 fn:=λ_=>false
 calm:=X.calm
 pn:=[]
 xe:=λ_ _=>False
noncomputable def ZaO (js:List (Option Nat)) (σ:St):St:=js.map λj=>match j with
 |none=>none
 |some i=>(σ[i]?).join
noncomputable def takesC (N Nc:List Str) (scope:Scope):List (Option Nat)->Nat->Bool
 |[],i=>i==Nc.length
 |none::r,i=>takesC N Nc scope r (i+1)
 |some j::r,i=>(match Nc[i]?,N[j]? with
  |some x,some y=>x==y&&scope.names.lookup x==some .free
  |_,_=>false)&&takesC N Nc scope r (i+1)
theorem ZdO {N Nc:List Str}{scope:Scope}:∀{js:List (Option Nat)}{i:Nat},takesC N Nc scope js i=true->i+js.length=Nc.length
 |[],i,h=>by simpa[takesC]using h
 |none::r,i,h=>by
  have:=ZdO (js:=r) (i:=i+1) (by simpa[takesC]using h)
  simp only[YQ];omega
 |some j::r,i,h=>by
  simp only[takesC,Bool.and_eq_true]at h
  have:=ZdO (js:=r) (i:=i+1) h.2
  simp only[YQ];omega
theorem Zff {N Nc:List Str}{scope:Scope}:∀{js:List (Option Nat)}{i k j:Nat},takesC N Nc scope js i=true->js[k]?=some (some j)->∃x,Nc[i+k]?=some x/\N[j]?=some x/\scope.names.lookup x=some .free
 |[],i,k,j,h,e=>by simp at e
 |none::r,i,0,j,h,e=>by simp at e
 |none::r,i,k+1,j,h,e=>by
  obtain⟨x,h1,h2,h3⟩:=Zff (js:=r) (i:=i+1) (k:=k) (j:=j) (by simpa[takesC]using h) (by simpa using e)
  exact⟨x,by rw[<-h1];congr 1;omega,h2,h3⟩
 |some j0::r,i,0,j,h,e=>by
  simp only[takesC,Bool.and_eq_true]at h
  simp only[List.getElem?_cons_zero,Option.some.injEq]at e
  subst e
  cases e1:Nc[i]? with
  |none=>rw[e1]at h;simp at h
  |some x =>
   cases e2:N[j0]? with
   |none=>rw[e1,e2]at h;simp at h
   |some y =>
    rw[e1,e2]at h
    simp only[Bool.and_eq_true,beq_iff_eq]at h
    exact⟨x,by simpa using e1,by rw[h.1.1],h.1.2⟩
 |some j0::r,i,k+1,j,h,e=>by
  simp only[takesC,Bool.and_eq_true]at h
  obtain⟨x,h1,h2,h3⟩:=Zff (js:=r) (i:=i+1) (k:=k) (j:=j) h.2 (by simpa using e)
  exact⟨x,by rw[<-h1];congr 1;omega,h2,h3⟩
section
variable {X:Cx}
theorem lookup_mem {names:List (Str×NameKind)}{x:Str}{k:NameKind} (h:names.lookup x=some k):(x,k)∈names:=PySem.mem_of_lookup h
theorem ZeB {prog:Program}{w:World}{A:Around}{R:Result->Shared->Prop}{s:Shared}{elt target iter:Expr}{ifs:List Expr}{scope:Scope}{pos:Pos}{it acc:Value}{env:Env} (I:Nat->Shared->Prop)
  (turn:∀n s,I n s->wpAny (model prog w) A (pyNext it) (λr s₁=>match r with
   |none=>R (.ok .next) s₁
   |some v=>wpAny (model prog w) A (letOwnedTupleGo target it v) (λ_ s₁=>wpAny (model prog w) A (assign target env v) (λ_ s₂ =>
     wpAny (model prog w) A (forIn ifs true λc r=>if r=true then do let ok <-isTrue c env (eval c env);pure (ForInStep.yield ok)else pure (ForInStep.yield r)) (λok s₃ =>
      if ok=true then wpAny (model prog w) A (eval elt env) (λx s₄ =>
       wpAny (model prog w) A (call (.builtin "list.append") [acc,x]) (λ_ s₅=>∃m,m<n/\I m s₅) (λ_ _=>False) s₄) (λ_ _=>False) s₃
      else ∃m,m<n/\I m s₃) (λ_ _=>False) s₂) (λ_ _=>False) s₁) (λ_ _=>False) s₁) (λ_ _=>False) s)
  (n:Nat) (h:I n s) :
  codeAny (model prog w) A (.compLoop (.ListComp elt [⟨target,iter,ifs,0⟩] scope pos) 0 it acc env) R s:=by
 refine codeAny_loop rfl I (λn s hI=>?_) n h
 show wpAny _ A ((compTurn (.ListComp elt [⟨target,iter,ifs,0⟩] scope pos) 0 it acc env).onRaise (λx=>do noteFrame x env;theTreesLotGoes x)) _ _ s
 refine wpAny_noted ?_
 rw[compTurn_list]
 refine Ya (wpAny_standAt (Ya (YN (turn n s hI) (λr s₁ h₁=>?_) λ_ _ h'=>h'.elim)))
 cases r with
 |none=>exact Yg h₁
 |some v =>
  refine Ya (YN h₁ (λ_ s₁' h₁=>?_) λ_ _ h'=>h'.elim)
  refine Ya (YN h₁ (λ_ s₂ h₂=>Ya (YN h₂ (λok s₃ h₃=>?_) λ_ _ h'=>h'.elim)) λ_ _ h'=>h'.elim)
  cases ok with
  |false=>exact Yg ⟨rfl,h₃⟩
  |true =>
   exact Ya (Ya (YN h₃ (λx s₄ h₄=>Ya (YN h₄ (λ_ s₅ h₅=>Yg (Yg ⟨rfl,h₅⟩)) λ_ _ h'=>h'.elim)) λ_ _ h'=>h'.elim))
noncomputable def ZnG (X:Cx) (ifs:List Expr) (t:TT):Prop :=
 ∀(pins:List (Addr×Obj)) (s:Shared) (σ:St) (H:Hp) (Q:Bool->Hp->Prop),Inv X pins σ H s->t σ H Q ->
  wpAny (model X.prog X.w) X.A (forIn ifs true λc r=>if r=true then do let ok <-isTrue c X.env (eval c X.env);pure (ForInStep.yield ok)else pure (ForInStep.yield r)) (TP X pins σ Q) X.xe s
noncomputable def ZnH:TT:=λ_ H Q=>Q true H
theorem ZV:ZnG X [] ZnH:=λpins s σ H Q I h=>wpAny_tests_nil ⟨H,I,h⟩
theorem Zai {c:Expr}{t:TT} (h:PT X c t):ZnG X [c] t:=λpins s σ H Q I hq=>wpAny_tests_one (h pins s σ H Q I hq)
noncomputable def ZoJ (L:List Nat) (σ σ':St):Prop:=σ'.length=σ.length/\∀k,k∉L->σ'[k]?=σ[k]?
noncomputable def ZmO (g:TG) (L:List Nat):Prop:=∀v σ H (Q Q':St->Hp->Prop),(∀σ' H',ZoJ L σ σ'->Q σ' H'->Q' σ' H')->g v σ H Q->g v σ H Q'
theorem Zr {i:Nat}:ZmO (Zex i) [i]:=λv σ H Q Q' hq h=>hq _ _ ⟨by simp,λk hk=>by
 rw[List.getElem?_set_ne]
 intro z;subst z;exact hk (by simp)⟩ h
noncomputable def ZmP (wi:TI) (g:TG) (tt:TT) (te:TE) (js:List (Option Nat)):TE:=fun σ H Q=>wi σ H λJ H1=>∃W:Nat->Nat->List V->Hp->Prop,(∃m,W 0 m [] H1)/\∀i m acc H,W i m acc H ->
 (J.stop i H/\acc.length<=sizeLine/\∀p,H p=none->Q (.ref p) (upd H p (.lst acc))) \/
 (J.go i H/\acc.length<sizeLine/\∀x H',J.yld i H x H'->g x (ZaO js σ) H' fun σ2 H2=>tt σ2 H2 λb H3=>if b=true then te σ2 H3 λv H4=>∃m',m'<m/\W (i+1) m' (acc++[v]) H4 else ∃m',m'<m/\W (i+1) m' acc H3)
theorem ZjR {C:Addr}{h:Heap}:Heap.SameBut C h h:=by
 first|exact Heap.SameBut.refl|exact⟨rfl,λ_ _=>rfl⟩
end
end L2
namespace L2
open PySem PySem.Spec PyProof.Rows PySem.W PySem.Builtin.ObjectAttr PySem.Builtin.Getset_descriptor
noncomputable def ZkS (x C:Addr) (h:Heap):Prop:=∃o,h.get? x=some o/\o.cls=.ref C
structure ExK (K:Frag) (C:Addr):Prop where
 dk:hasDictIn K C=true
 ga:findIn K (.ref C) "__getattribute__"=some (some (.builtin "BaseException.__getattribute__"))
 gt:findIn K (.ref C) "__getattr__"=some none
 cl:findIn K (.ref C) "__class__"=some (some (.builtin "object.__class__"))
 gg:specialIn K (.builtin "object.__class__") "__get__"=some (some (.builtin "getset_descriptor.__get__"))
 tk:takesIn K (.builtin "object.__class__")=some true
 mo:mroIn K C (.type "object")=some true
 mb:mroIn K C (.type "BaseException")=some true
section
variable {K:Frag}{x C:Addr}
theorem ZkS.type {M:Model}{h:Heap} (I:ZkS x C h):Looks M h (typeOf (.ref x)) (.ref C):=by
 obtain⟨o,e,c⟩:=I
 exact c▸(Looks.ld e).andThen .now
theorem ZoK {M:Model}{h:Heap} (X:K.In h) (Z:ExK K C):Looks M h (find (.ref x) (.ref C) "__class__") (.bind (.builtin "getset_descriptor.__get__") (.builtin "object.__class__")):=by
 have L3:=looks_takesIn (M:=M) X Z.tk
 exact(looks_findIn (M:=M) X Z.cl).andThen ((looks_specialIn X Z.gg).andThen
  ((show Looks M h (dataDescriptor? (some (.builtin "object.__class__")) (some (.builtin "getset_descriptor.__get__"))) (some (.builtin "getset_descriptor.__get__",.builtin "object.__class__"))from L3.andThen .now).andThen (Looks.tag .now)))
theorem ZqZ {prog:Program}{w:World}{A:Around}{R:Result->Shared->Prop}{s:Shared}{tp:Value} (X:K.In s.heap) (I:ZkS x C s.heap) (Z:ExK K C) (hR:R (.ok (.ret (.ref C))) s) :
  codeAny (model prog w) A (.call (.builtin "getset_descriptor.__get__") ⟨[.builtin "object.__class__",.ref x,tp],[]⟩) R s:=by
 obtain⟨hp,gn,dw,tk,os⟩:=s
 have L0:=I.type (M:=model prog w)
 have L1:=looks_mroIn (M:=model prog w) X Z.mo
 refine codeAny_call_builtin KF.slot_gs.plain KF.entry_gs (KF.slot_gs.check _ _ _ _ _ _ _ _ KF.type_class (KF.args_gs _ _ _) ?_)
 unfold Builtin.«getset_descriptor.__get__» descrGet;rw[dga_obj];refine Ya (Yg ?_)
 unfold descrGetter descrCheckInstance descrNameAndClass isInstance;simp only[KF.owner_class]
 repeat lk
 refine⟨Code.quiet_builtin _ (by decide +kernel),codeAny_builtin KF.entry_class ?_⟩;unfold Builtin.«object.__class__» shownTypeOf
 repeat lk
 exact hR
theorem ZnI {prog:Program}{w:World}{A:Around}{E:Value->Shared->Prop}{s:Shared}{tk:Tok}{Q:Fin->Shared->Prop} (X:K.In s.heap) (I:ZkS x C s.heap) (Z:ExK K C) (hQ:Q (.done (.ret (.ref C))) s) :
  wpAny (model prog w) A (Builtin.«object.__getattribute__» ⟨[.ref x,.str "__class__" tk],[]⟩) Q E s:=by
 obtain⟨hp,gn,dw,t,os⟩:=s
 have L0:=I.type (M:=model prog w)
 have L2:=ZoK (M:=model prog w) (x:=x) X Z
 unfold Builtin.«object.__getattribute__»
 refine Ya (Yg (Ya (Yg (Ya (L0.at (Ya (L2.at ?_)))))))
 show wpAny _ _ (holding _ (call _ _) >>= ret) _ _ _
 exact Ya (wpAny_holding (wpAny_call (ZqZ (s:=⟨hp,gn,dw,t,os⟩) X I Z (Yg hQ))))
theorem ZnJ {M:Model}{A:Around}{E:Value->Shared->Prop}{s:Shared}{nameV:Value}{Q:Unit->Shared->Prop} (X:K.In s.heap) (I:ZkS x C s.heap) (Z:ExK K C) (hq:Q () s) :
  wpAny M A (checkBuiltinCall "BaseException.__getattribute__" ⟨[.ref x,nameV],[]⟩) Q E s:=by
 obtain⟨hp,gn,dw,t,os⟩:=s
 have hk:builtinKind "BaseException.__getattribute__"=some .slot:=by decide +kernel
 have hsplit:splitId "BaseException.__getattribute__"=some ("BaseException","__getattribute__"):=by decide +kernel
 have L0:=I.type (M:=M)
 have L1:=looks_mroIn (M:=M) X Z.mb
 have ha:=F.args_bexc_ga (.ref x) nameV
 simp only[checkBuiltinCall,hk,hsplit]
 refine Ya ?_
 unfold isInstance
 refine Ya (L0.at (L1.at ?_))
 repeat (first|assumption|wp_step)
theorem ZnK {prog:Program}{w:World}{A:Around}{E:Value->Shared->Prop}{s:Shared}{Q:Option Value->Shared->Prop} (X:K.In s.heap) (I:ZkS x C s.heap) (Z:ExK K C) (hQ:Q (some (.ref C)) {s with toks:=s.toks+1}) :
  wpAny (model prog w) A (getAttr? (.ref x) "__class__") Q E s:=by
 obtain⟨hp,gn,dw,tk,os⟩:=s
 have L0:=I.type (M:=model prog w)
 have L1:=looks_findIn (M:=model prog w) X Z.ga
 have L3:=looks_findIn (M:=model prog w) X Z.gt
 have hb:=(F.attrBase_ValueError.ga).bind (.ref x)
 unfold getAttr? getAttrBy? getAttrBy;refine Ya (wpAny_mkText (Ya (wpAny_attempt (wpAny_holding (Ya (L0.at (Ya (L1.at ?_))))))))
 show wpAny _ _ (getAttrByItsOwn _ _ _ _ _ _) _ _ _
 unfold getAttrByItsOwn hookBefore
 refine Ya (L3.at ?_)
 refine Ya (wpAny_attempt (wpAny_holding ?_))
 unfold callGetattribute
 show wpAny _ _ (boundAndCalled _ _ _) _ _ _
 unfold boundAndCalled
 rw[hb]
 refine Ya (Yg ?_)
 refine wpAny_call ?_
 refine codeAny_call_builtin F.attrBase_ValueError.ga.plain F.entry_bexc_ga (ZnJ (s:=⟨hp,gn,dw,tk+1,os⟩) X I Z (ZnI (s:=⟨hp,gn,dw,tk+1,os⟩) X I Z ?_))
 exact handed_on rfl (Yg hQ)
theorem Zq0 (Z:ExK K C):KitX K (.ref x) (.ref C) (ZkS x C) where
 ty:=λ_ _ _ I=>I.type
 it:=λ_ _ X _=>by
  obtain⟨cdD,hcD,_⟩:=any_some Z.dk
  unfold clsIn at hcD
  split at hcD
  ·rename_i c' d' cd' sl' ho
   intro A' Q' E' s' k q
   unfold isType loadHead;exact Ya (wpAny_loadPart (k _ _ (X _ _ ho)) (Yg q))
  ·cases hcD
 ne:=λh tp dd its n sl X htp=>by
  obtain⟨cdD,hcD,_⟩:=any_some Z.dk
  refine Bool.eq_false_iff.mpr λq=>?_
  have e:C=tp:=Value.ref.inj (beq_iff_eq.mp q);subst e
  unfold clsIn at hcD
  split at hcD
  ·rename_i c' d' cd' sl' ho
   have z:=(X _ _ ho).symm.trans htp;cases z
  ·cases hcD
 ca:=λX I k=>ZnK X I Z k
end
noncomputable def ExcO (e C:Addr):HO:=.ext (ZkS e C)
noncomputable def tyIs (K:Frag) (H:Hp) (x:V) (c:Value) (b:Bool):Prop :=
 (∃t,TyOf K H x t/\kitOne K t c=some b)\/∃e C,x=.ref e/\H e=some (ExcO e C)/\ExK K C/\kitOne K (.ref C) c=some b
noncomputable def cOf:V->Option Value
 |.ref a=>some (.ref a)
 |.ty n=>some (.type n)
 |_=>none
section
variable {X:Cx}
noncomputable def rIsi (K:Frag):List V->Hp->VK->Prop:=λxs H Q=>∃x v c b,xs=[x,v]/\cOf v=some c/\tyIs K H x c b/\Q (.bl b) H
theorem ZoL:Zci X (.builtin "isinstance") (rIsi X.K):=by
 intro pins s σ H xs us Q I r h
 obtain⟨x,v,c,b,rfl,hc,ht,q⟩:=h
 obtain⟨u,u2,rfl,ru,ru2⟩:=r.two
 have e2:u2=c:=by
  cases v with
  |ref a=>have:=(show u2=Value.ref a from ru2);cases hc;exact this
  |ty n=>have:=(show u2=Value.type n from ru2);cases hc;exact this
  |_=>cases hc
 subst e2
 have fin:∀tk,EP X pins σ Q (.bool b) {s with toks:=tk}:=λtk=>⟨.bl b,H,I.tok tk,rfl,q⟩
 rcases ht with⟨t,ty,e⟩|⟨e,C,rfl,hH,Z,e1⟩
 ·exact Znz I ru ty e fin
 ·cases(show u=Value.ref e from ru)
  obtain⟨p,_,_⟩:=(show Zau X.prog X.w H s.heap e (ExcO e C)from I.hok e _ hH)
  exact kia_one (Zq0 Z) I.kIn p e1 (λz=>nomatch z) fin
end
end L2
namespace L2
open PySem PySem.Spec PyProof.Rows
structure Fly (P:Program) (w:World) (outer:List Env) (H:Hp) (s:Shared) (H':Hp) (B:Heap) (e:Addr) (C a0:Value) (s':Shared):Prop where
 os:s'.os=s.os
 bare:AllBare s'.gens
 fly:Heap.FlyingW B outer e C a0 s'.heap
 hok:HOk P w H' B
 keep:∀b o,s.heap.get? b=some o->H b=none->b∉frs outer->B.get? b=some o
 slot:∀b o,s.heap.get? b=some o->b∈frs outer->(∀vs,o.data≠.fields vs)->∃sl,s'.heap.get? b=some {o with slots:=sl}
 free:∀b o,s.heap.get? b=some o->H b=none->H' b=none
 there:∀b o,s.heap.get? b=some o->b∉frs outer->∃o',B.get? b=some o'
 tups:∀b xs,H b=some (.tup xs)->H' b=some (.tup xs)
 frzs:∀b o u,H b=some (.frz o u)->H' b=some (.frz o u)
 tbls:∀b ps,H b=some (.tbl ps)->∃more,H' b=some (.tbl (ps++more))
noncomputable def CXE (P:Program) (w:World):CXT:=λouter H s E ev s'=>∃e C a0 H' B,ev=.ref e/\Fly P w outer H s H' B e C a0 s'/\E C none H'
theorem ZA {P:Program}{w:World}{X:Cx}:Passes (CXE P w) X E0:=λ_ _ _ _ _ _ _ ⟨_,_,_,_,_,_,_,z⟩=>z.elim
section
variable {P:Program}{w:World}{K:PySem.W.Frag}{mg:Str->Option Value}{base:Heap}{N:List Str}{qual:Str}{scope:Scope}{f:Addr}{cd:Value}{A:Around}{outer:List Env}{s:Shared}{H:Hp}{E:XK}
theorem ZjS {pins:List (Addr×Obj)}{σ:St}{H1:Hp}{s1:Shared}{h':Heap}{e:Addr}{C:Value}{vs:List Value} (I:Inv (ZfF (CXE P w) P w K mg base N qual scope f cd A outer s H E) pins σ H1 s1)
  (hx:Heap.MadeExcOf s1.heap h' e C vs) (hE:E C none H1):(ZfF (CXE P w) P w K mg base N qual scope f cd A outer s H E).xe (.ref e) {s1 with heap:=h'}:=by
 let env:=envOfC qual scope s.heap.objs.size f cd
 let B:=PySem.W.hideAll s1.heap (frs (env::outer))
 have hin:∀en∈(env::outer),∀b,en.frame=some b->b∈frs (env::outer):=λen he b hb=>List.mem_filterMap.mpr ⟨en,he,hb⟩
 have st:s1.heap.FunFrames base (env::outer):=I.stack
 have loc:∀b,b∈frs (env::outer)->b=s.heap.objs.size\/b∈frs outer:=λb hb=>Yk.mp (I.ZgE b hb)
 have old:∀b o,s.heap.get? b=some o->b∉frs outer->b∉frs (env::outer):=λb o q nb hb=>by
  rcases loc b hb with z|z
  ·exact absurd (Yl q) (by rw[z];exact Yu _)
  ·exact nb z
 have un:Un (frs outer) [] H H1 s.heap s1.heap:=I.base
 have hokB:HOk P w H1 B:=λa o q=>by
  have nf:∀b o,H1 b=some o->b∉frs (env::outer):=λb o z hb=>by
   have:=I.Zhw b hb
   rw[this]at z;cases z
  refine(I.hok a o q).ZhH (λb u hb z=>?_) (λ_ z=>z) (λ_ _ z=>z) λ_ _ _ z=>z
  rcases hb with hb|hb
  ·rw[hb]at z⊢;exact PySem.W.hideAll_get _ z (nf a o q)
  ·exact PySem.W.hideAll_get _ z (nf b _ hb)
 refine wpAny_leaves_madeW (base:=B) (h:=s1.heap) (env:=env) (outer:=outer) (L:=s.heap.objs.size) I.ok.frames rfl (λb o q=>PySem.W.of_hideAll _ q) (PySem.W.funFrames_hide st hin) hx λh2 t x1 x2 x3 x4=>?_
 refine⟨e,C,.ref t,H1,B,rfl,⟨I.os,I.bare,x1,hokB,λb o q n nb=>?_,λb o q hb hd=>?_,λb o q n=>un.free b o q n (by simp),λb o q nb=>?_,un.tups,un.frzs,un.tbls⟩,hE⟩
 ·exact PySem.W.hideAll_get _ (un.keep b o q n nb (by simp)) (old b o q nb)
 ·obtain⟨sl,z⟩:=un.slot b o q (I.ok.frf b hb) hb (by simp)
  obtain⟨sl2,z2⟩:=x4 b _ (hx.keeps _ _ z) hd
  exact⟨sl2,z2⟩
 ·obtain⟨o',z⟩:=un.there b o q (by simp)
  exact⟨o',PySem.W.hideAll_get _ z (old b o q nb)⟩
theorem ZhA:Passes (CXE P w) (ZfF (CXE P w) P w K mg base N qual scope f cd A outer s H E) E:=by
 intro pins σ H1 s1 ev s2 I h
 obtain⟨e,C,a0,H',B,rfl,F,hE⟩:=h
 let env:=envOfC qual scope s.heap.objs.size f cd
 have un:Un (frs outer) [] H H1 s.heap s1.heap:=I.base
 have loc:∀b,b∈frs (env::outer)->b=s.heap.objs.size\/b∈frs outer:=λb hb=>Yk.mp (I.ZgE b hb)
 have old:∀b o,s.heap.get? b=some o->b∉frs outer->b∉frs (env::outer):=λb o q nb hb=>by
  rcases loc b hb with z|z
  ·exact absurd (Yl q) (by rw[z];exact Yu _)
  ·exact nb z
 refine wpAny_leaves_onW (env:=env) (outer:=outer) (L:=s.heap.objs.size) I.ok.frames rfl F.fly λh2 x1 x2=>?_
 refine⟨e,C,a0,H',B,rfl,⟨F.os.trans I.os,F.bare,x1,F.hok,λb o q n nb=>F.keep b o (un.keep b o q n nb (by simp)) (un.free b o q n (by simp)) (old b o q nb),λb o q hb hd=>?_,λb o q n=>?_,λb o q nb=>?_,λb xs z=>F.tups b xs (un.tups b xs z),λb o u z=>F.frzs b o u (un.frzs b o u z),λb ps z=>?_⟩,hE⟩
 ·obtain⟨sl,z⟩:=un.slot b o q (I.ok.frf b hb) hb (by simp)
  obtain⟨en,he,hf⟩:=List.mem_filterMap.mp hb
  obtain⟨sl2,z2⟩:=F.slot b _ z (List.mem_filterMap.mpr ⟨en,.tail _ he,hf⟩) hd
  obtain⟨sl3,z3⟩:=x2 b _ z2 hd
  exact⟨sl3,z3⟩
 ·by_cases hb:b∈frs outer
  ·have h1:H1 b=none:=un.free b o q n (by simp)
   obtain⟨sl,z⟩:=un.slot b o q n hb (by simp)
   exact F.free b _ z h1
  ·exact F.free b o (un.keep b o q n hb (by simp)) (un.free b o q n (by simp))
 ·obtain⟨o',z⟩:=un.there b o q (by simp)
  exact F.there b o' z (old b o q nb)
 ·obtain⟨m1,z1⟩:=un.tbls b ps z
  obtain⟨m2,z2⟩:=F.tbls b _ z1
  exact⟨m1++m2,by rw[<-Array.append_assoc];exact z2⟩
end
abbrev bmV:List Value:=[.type "ValueError",.type "Exception",.type "BaseException",.type "object"]
abbrev newV:String:="ValueError.__new__"
theorem own_mk {K:PySem.W.Frag}{h:Heap}{mg:Str->Option Value}{x:Str}{C:Addr} (X:K.In h) (hm:mg x=some (.ref C)) (q:PySem.W.excIn K C bmV newV=true):OwnCls x C bmV newV mg h:=by
 refine⟨hm,?_⟩
 unfold PySem.W.excIn at q;split at q
 ·rename_i dd cd sl ho
  split at q
  ·rename_i C' bm k0 k1 k2 k3 n k5 hmm hs
   simp only[Bool.and_eq_true,beq_iff_eq,Bool.not_eq_true']at q;obtain⟨⟨⟨⟨⟨rfl,rfl⟩,hdel⟩,ht⟩,hok⟩,hni⟩:=q
   obtain⟨nm,bs,mro,ns,qn,hd,sn,sub,ab,col,del⟩:=cd;dsimp only at hmm hdel hok hni;subst hmm hdel
   have hsl:sl=#[k0,k1,k2,k3,some (.builtin newV),k5]:=by obtain⟨l⟩:=sl;simp only at hs;rw[hs]
   subst hsl;exact⟨bm,ns,nm,qn,bs,hd,sn,sub,ab,col,dd,k0,k1,k2,k3,k5,_,X _ _ ho,.of_isNs (PySem.W.isNs_of_in X hok),PySem.W.nsMap_none_of_in X hok hni,PySem.W.tail_of_in X ht⟩
  ·cases q
 ·cases q
section
variable {X:Cx}
noncomputable def ZlT (C:Addr) (E:XK) (t:TA):TS:=λ_ σ H=>t σ H λvs H1=>vs.length<=sizeLine/\E (.ref C) none H1
theorem ZhR {x:Str}{C:Addr}{np cpos pos:Pos}{e0:Expr}{es:List Expr}{t:TA}{E:XK} (hc:X.calm=true) (hg:Gl X x) (hm:X.mg x=some (.ref C)) (q:PySem.W.excIn X.K C bmV newV=true) (ha:PA X (e0::es) t)
  (hx:∀pins σ H s h' e vs,Inv X pins σ H s->Heap.MadeExcOf s.heap h' e (.ref C) vs->E (.ref C) none H->X.xe (.ref e) {s with heap:=h'})
  (he:starEach (e0::es) X.env=(false,eval e0 X.env)::starEach es X.env:=by rfl) (hpl:(backTo cpos (starEach es X.env)).any (·.1)=false:=by rfl) (hd:(x==("__debug__":Str))=false:=by decide) :
  PS X (.Raise (some (.Call (.Name x np) (e0::es) [] cpos)) none pos) (ZlT C E t):=by
 intro pins s σ H D I h
 obtain⟨tl,Nn,nm,qn,bs,hdct,sn,sub,ab,col,dd,k0,k1,k2,k3,k5,mN,hC,hN,hni,T⟩:=(own_mk (x:=x) I.mod.kin hm q).obj
 refine wpAny_Raise_call_subT (C:=C) (nm:=nm) (q:=qn) (N:=Nn) (bs:=bs) (bm:=tl) (hdct:=hdct) (sn:=sn) (sub:=sub) (ab:=ab) (col:=col) (dd:=dd) (k0:=k0) (k1:=k1) (k2:=k2) (k3:=k3) (k5:=k5)
  PySem.F.excBase_ValueError (mN:=mN) (T.hasType PySem.F.excBase_ValueError.hasBase) (I.ok.hd hc) (by rw[he];show(false||(backTo cpos (starEach es X.env)).any (·.1))=false;rw[hpl];rfl) hni (ZjE I hg hm ⟨rfl,?_⟩ hd)
 have h2:=ha cpos pins s σ H _ I h
 rw[he]at h2⊢
 exact Calls.evalArgs_plain (thn h2 λus s2 ⟨vs,H2,I2,r,z,q2⟩=>⟨rfl,by rw[<-r.length];exact z,I2.bk _ _ hC,hN.keeps I2.bk,T.keeps I2.bk,λh' e hm'=>hx pins σ H2 s2 h' e us I2 hm' q2⟩)
end
section
variable {P:Program}{w:World}{K:PySem.W.Frag}{mg:Str->Option Value}{base:Heap}
theorem Fun.okX {x qual:Str}{st:Stmt}{f:Addr}{fd:FuncData}{N ps:List Str}{k:Nat}{sp:Sp} (F:Fun K x qual st f fd) (S:FnScope N ps (defScope st)) (len:∀vs H Q E,sp vs H Q E->vs.length=ps.length)
  (hbody:∀(cdv:Value) (A:Around) (outer:List Env) (s:Shared) (H:Hp) (vs:List V) (Q:VK) (E:XK),Room k (A.deeper (envOfC qual (defScope st) s.heap.objs.size f cdv))->sp vs H Q E ->
   ∃t,PSs (ZfF (CXE P w) P w K mg base N qual (defScope st) f cdv A outer s H E) (defBody st) t/\t {nx:=λ_ H'=>Q .non H',rt:=Q} (start N vs) H):FnOk P w K mg base (CXE P w) (k+1) f fd ps sp:=by
 obtain⟨oc,od,kV,doc,pm,an,cdv,ct,osl,rfl,lk,hcd⟩:=F.ex
 exact ZoD lk hcd S len λA outer s H vs Q E hr hsp=>hbody cdv A outer s H vs Q E hr hsp
end
end L2
namespace L2
open PySem PySem.Spec PyProof.Rows PySem.W
theorem ZjT:∀{ns:List Int}{us:List Value},Vals (ns.map V.int) us->∃xs:Array (Int×Tok),us.toArray=intItems xs/\xs.toList.map (·.1)=ns
 |[],_,.nil=>⟨#[],by simp[intItems],rfl⟩
 |n::ns,_,.cons (b:=u) r t=>by
  obtain⟨tk,rfl⟩:=(show ∃t,u=Value.int n t from r)
  obtain⟨xs,e1,e2⟩:=ZjT t
  refine⟨#[(n,tk)]++xs,?_,by simp[e2]⟩
  have:∀(l:List Value),(Value.int n tk::l).toArray=#[Value.int n tk]++l.toArray:=λl=>by simp
  rw[this,e1]
  simp[intItems]
section
variable {X:Cx}
theorem ZcD:OpR X (binaryOp .Mult) (rI IntMulOk λi j=>.int (i*j)):=opI λ_ _ _ _ _ _ _ hc q=>mul_int q hc
theorem Zje (hc:X.calm=true):Zci X (.builtin "min") (λxs H Q=>∃(p:Addr) (ns:List Int),xs=[.ref p]/\SqL X.K H p (ns.map V.int)/\ns≠[]/\∀m,m∈ns->(∀a∈ns,m<=a)->Q (.int m) H):=by
 intro pins s σ H xs us Q I r h
 obtain⟨p,ns,rfl,hp,hne,q⟩:=h
 obtain⟨u,rfl,ru⟩:=r.one
 cases(show u=Value.ref p from ru)
 obtain⟨its,rv,pl,hz⟩:=I.list hp
 obtain⟨ys,e1,e2⟩:=ZjT rv
 have hsz:0<ys.size:=by
  have:=congrArg List.length e2
  rw[Yf,YO]at this
  cases ns with
  |nil=>exact absurd rfl hne
  |cons=>simp at this;omega
 refine min_intList (xs:=ys) (I.ok.hd hc) (e1▸pl.isList) hsz λv h' tk hv k=>?_
 obtain⟨t,rfl⟩:=intItems_at hv
 obtain⟨h1,h2⟩:=argBest_lt (numAt ys) (ys.size-1)
 refine⟨.int _,H,I.kept k,⟨t,rfl⟩,q _ ?_ λa ha=>?_⟩
 ·rw[numAt_eq,e2];exact getD_mem (by rw[<-e2,Yf,YO];omega)
 ·obtain⟨j,hj,rfl⟩:=mem_getD ha
  rw[<-e2,Yf,YO]at hj
  rw[<-e2,<-numAt_eq];exact h2 j (by omega)
noncomputable def PJ (X:Cx) (es:List (Sem Value)) (t:St->Hp->(Hp->Prop)->Prop):Prop :=
 ∀(out:Str) (pins:List (Addr×Obj)) (s:Shared) (σ:St) (H:Hp) (Q:Hp->Prop),out.length+2000*es.length<=100000->Inv X pins σ H s->t σ H Q ->
  wpAny (model X.prog X.w) X.A (joinParts out es) (λu s'=>∃y tk H',u=.str y tk/\Inv X pins σ H' s'/\Q H') X.xe s
theorem ZlU:PJ X [] (λ_ H Q=>Q H):=λout pins s σ H Q hl I h =>
 joinParts_nil ⟨out,_,H,rfl,I.tok _,h⟩ (by simp at hl;exact Ym hl (by decide))
theorem ZdP {x:Str}{j:Nat}{pos:Pos}{es:List (Sem Value)}{t:St->Hp->(Hp->Prop)->Prop} (hx:x.length<=2000) (h:PJ X es t):PJ X (eval (.Constant (.str x) j pos) X.env::es) t:=by
 intro out pins s σ H Q hl I hq
 have hl':(out++x).length+2000*es.length<=100000:=by rw[PySem.strLen_append];simp at hl;omega
 refine joinParts_cons (Calls.Constant_str ⟨Ym (Ym (Nat.le_add_right _ _) hl') (by decide),?_⟩)
 exact h _ pins _ σ H Q hl' (I.tok _) hq
theorem ZnL {i:Int} (h0:0<=i) (h1:i<10 ^ 18):i.natAbs.log2<1920:=by
 by_cases hz:i.natAbs=0
 ·rw[hz];decide
 ·have h3:i.natAbs<2 ^ 60:=by
   have:(2:Nat) ^ 60=1152921504606846976:=by decide
   have h2:(10:Int) ^ 18=1000000000000000000:=by decide
   omega
  exact Yw ((Nat.log2_lt hz).mpr h3) (by decide)
theorem ZjU {e:Expr}{pos:Pos}{es:List (Sem Value)}{te:TE}{t:St->Hp->(Hp->Prop)->Prop} (he:PE X e te) (h:PJ X es t):PJ X (eval (.FormattedValue e (-1) none pos) X.env::es) (fun σ H Q=>te σ H λx H1=>∃i:Int,x=.int i/\(0<=i/\i<10 ^ 18)/\t σ H1 Q):=by
 intro out pins s σ H Q hl I hq
 refine joinParts_cons (FormattedValue_plain (thn (he pins s σ H _ I hq) λu s1 ⟨x,H1,I1,r1,i,ex,⟨h0,h1⟩,q⟩=>?_))
 subst ex
 obtain⟨tk,rfl⟩:=(show ∃t,u=Value.int i t from r1)
 refine wpAny_formatField_int (ZnL h0 h1) ?_
 have hx:(Str.ofString (toString i)).length<=18:=toString_length_le h0 (by decide) h1
 have hl':(out++Str.ofString (toString i)).length+2000*es.length<=100000:=by rw[PySem.strLen_append];simp at hl;omega
 refine⟨Ym (Ym (Nat.le_add_right _ _) hl') (by decide),?_⟩
 exact h _ pins _ σ H1 Q hl' (I1.tok _) q
theorem ZkT (env:Env):∀l:List Expr,(evalEach l env).length=l.length
 |[]=>rfl
 |e::r=>by
  have:evalEach (e::r) env=eval e env::evalEach r env:=rfl
  rw[this,YQ,YQ,ZkT env r]
theorem ZgH {e1 e2:Expr}{rest:List Expr}{pos:Pos}{t:St->Hp->(Hp->Prop)->Prop} (h:PJ X (eval e1 X.env::eval e2 X.env::evalEach rest X.env) t) (hn:rest.length<=20:=by decide) :
  PE X (.JoinedStr (e1::e2::rest) pos) (fun σ H Q=>t σ H λH1=>∀y,Q (.str y) H1):=by
 intro pins s σ H Q I hq
 have hle:=ZkT X.env rest
 refine JoinedStr_many (thn (h Str.empty pins s σ H _ (by simp only[YQ,hle];show 0+_<=_;omega) I hq) λu s' ⟨y,tk,H',e,I',q⟩=>?_)
 subst e
 exact⟨.str y,H',I',⟨tk,rfl⟩,q y⟩
end
noncomputable def clsAt (mg:Str->Option Value) (x:Str):Addr:=match mg x with
 |some (.ref C)=>C
 |_=>0
noncomputable def tokAt (mg:Str->Option Value) (x:Str):Tok:=match mg x with
 |some (.int _ t)=>t
 |_=>default
noncomputable def Callee (P:Program) (w:World) (K:Frag) (mg:Str->Option Value) (base:Heap) (x:Str) (k:Nat) (ps:List Str) (sp:Sp):Prop :=
 ∃f fd,mg x=some (.ref f)/\keepIn K (.ref f)=true/\Binds K fd ps []/\FnOk P w K mg base (CXE P w) k f fd ps sp
section
variable {X:Cx}
theorem ZaS {st:Stmt}{t:TS} (h:PS X.nox st t):PS X st t:=λpins s σ H D I hw =>
 YN (h pins s σ H D (I.ZiF _) hw) (λ_ _ q=>q.Zew) λ_ _ z=>False.elim z
theorem Zi {x:Str}{k:Nat}{ps:List Str}{sp:Sp}{E:XK}{e:Expr}{es:List Expr}{t:TA}{p pos:Pos} (C:Callee X.prog X.w X.K X.mg X.base x k ps sp) (hr:Room k X.A) (hg:Gl X x) (hx:Passes (CXE X.prog X.w) X E)
  (ha:PA X (e::es) t) (hdb:(x==("__debug__":Str))=false:=by decide) (he:starEach (e::es) X.env=(false,eval e X.env)::starEach es X.env:=by rfl) (hpl:(backTo pos (starEach es X.env)).any (·.1)=false:=by rfl) :
  PE X (.Call (.Name x p) (e::es) [] pos) (ZkM sp [] E t):=by
 obtain⟨f,fd,hm,hk,hb,F⟩:=C
 exact ZmL F hr hg hm hk hb .nil hx ha hdb he hpl
theorem ZjV {P:Program}{w:World}{K:Frag}{mg:Str->Option Value}{base:Heap}{N:List Str}{qual:Str}{scope:Scope}{f:Addr}{cd:Value}{A:Around}{outer:List Env}{s0:Shared}{H0:Hp}{E:XK}{C:Addr} :
  ∀pins σ H s h' e vs,Inv (ZfF (CXE P w) P w K mg base N qual scope f cd A outer s0 H0 E) pins σ H s->Heap.MadeExcOf s.heap h' e (.ref C) vs->E (.ref C) none H->(ZfF (CXE P w) P w K mg base N qual scope f cd A outer s0 H0 E).xe (.ref e) {s with heap:=h'} :=
 λ_ _ _ _ _ _ _ I hx hE=>ZjS I hx hE
end
theorem ZjW:bootBuiltins "max"=some (.builtin "max"):=by decide +kernel
theorem ZjX:bootBuiltins "min"=some (.builtin "min"):=by decide +kernel
theorem ZcX:bootBuiltins "isinstance"=some (.builtin "isinstance"):=by decide +kernel
theorem Zf8:bootBuiltins "list"=some (.type "list"):=by decide +kernel
theorem Zf9:bootBuiltins "tuple"=some (.type "tuple"):=by decide +kernel
section
variable {X:Cx}{pins:List (Addr×Obj)}{σ:St}{H:Hp}{s:Shared}{h':Heap}
theorem Inv.Zq1 {t':Nat}{fp:List Addr} (I:Inv X pins σ H s) (k:∀b o,b∉fp->s.heap.get? b=some o->h'.get? b=some o) (hf:∀b∈fp,FpOk X pins H b):Inv X pins σ H {s with heap:=h',toks:=t'}:=by
 have nit:∀b u,H b=some u->b∉fp:=λb u e z=>by rw[(hf b z).1]at e;cases e
 refine I.step (g':=s.gens) (d':=s.drawn) (ch:=fp) (λb hb=>?_) (λb o _ _ hc e _=>k b o hc e) (λb o _ _ hc e _=>⟨o.slots,k b o hc e⟩) (λ_ _ _ _ n=>n)
  (λb o hc e=>⟨o,k b o hc e⟩) (λ_ _ e=>e) (λ_ _ _ e=>e) (λb ps e=>⟨#[],by rw[e];simp⟩) (λm hm=>?_) (λb u e=>?_) I.bare
 ·obtain⟨_,f1,_,f3,f4,f5⟩:=hf b hb
  exact⟨f3,f1,f4,f5⟩
 ·obtain⟨o,es,ep,ho,r⟩:=hm
  exact⟨o,es,ep,k _ o (λz=>(hf _ z).2.1 rfl) ho,r⟩
 ·refine(I.hok b u e).ZhH (λc v hc q=>k c v ?_ q) (λ_ q=>q) (λ_ _ q=>q) λ_ _ _ q=>q
  rcases hc with z|z
  ·rw[z];exact nit b u e
  ·exact nit c _ z
end
theorem cxK {CX:CXT}{P:Program}{w:World}{K:Frag}{mg:Str->Option Value}{base:Heap}{N:List Str}{qual:Str}{scope:Scope}{f:Addr}{cd:Value}{A:Around}{outer:List Env}{s:Shared}{H:Hp}{E:XK} :
  (ZfF CX P w K mg base N qual scope f cd A outer s H E).K=K:=rfl
theorem Ze.upd {H H1:Hp}{p:Addr}{o:HO} (h:H p=none) (e:Ze H H1):Ze H (upd H1 p o):=λb u z=>by
 rw[Zh (Zu z h)];exact e b u z
theorem Ze.Zay {H H1:Hp}{p:Addr}{o:HO} (e:Ze H H1) (h:H1 p=none):Ze H (L2.upd H1 p o):=e.upd (e.free h)
noncomputable def LoopR (J:It) (g:TG) (tb:TS) (D:Ends) (σ:St) (H1:Hp):Prop:=∃W:Nat->Nat->St->Hp->Prop,(∃m,W 0 m σ H1)/\∀i m σ H,W i m σ H ->
 (J.stop i H/\D.nx σ H)\/(J.go i H/\∃N:St->Hp->Prop,(∀σ' H',N σ' H'->∃m',m'<m/\W (i+1) m' σ' H')/\∀x H',J.yld i H x H'->g x σ H' fun σ2 H2=>tb {D with nx:=N,ct:=N,bk:=D.nx} σ2 H2)
theorem ZmQ {wi:TI}{g:TG}{tb:TS}{D:Ends}{σ:St}{H:Hp}:tFor wi g tb D σ H=wi σ H λJ H1=>LoopR J g tb D σ H1:=rfl
noncomputable def ZlV (c:TT) (tb:TS) (D:Ends) (σ:St) (H:Hp):Prop:=ZlG c tb D σ H
theorem Zjf {c:TT}{tb:TS}{D:Ends}{σ:St}{H:Hp}:ZlG c tb D σ H=ZlV c tb D σ H:=rfl
noncomputable def Zg7 (J:It) (g:TG) (tt:TT) (te:TE) (σ0:St) (Q:VK) (H1:Hp):Prop:=∃W:Nat->Nat->List V->Hp->Prop,(∃m,W 0 m [] H1)/\∀i m acc H,W i m acc H ->
 (J.stop i H/\acc.length<=sizeLine/\∀p,H p=none->Q (.ref p) (upd H p (.lst acc))) \/
 (J.go i H/\acc.length<sizeLine/\∀x H',J.yld i H x H'->g x σ0 H' fun σ2 H2=>tt σ2 H2 λb H3=>if b=true then te σ2 H3 λv H4=>∃m',m'<m/\W (i+1) m' (acc++[v]) H4 else ∃m',m'<m/\W (i+1) m' acc H3)
theorem ZkU {wi:TI}{g:TG}{tt:TT}{te:TE}{js:List (Option Nat)}{σ:St}{H:Hp}{Q:VK}:ZmP wi g tt te js σ H Q=wi σ H λJ H1=>Zg7 J g tt te (ZaO js σ) Q H1:=rfl
noncomputable def CW (n:Nat) (vals:Nat->V) (H1:Hp) (i m:Nat) (acc:List V) (H:Hp):Prop:=m=n-i/\i<=n/\acc=(List.range i).map vals/\Ze H1 H
theorem CW.next {n:Nat}{vals:Nat->V}{H1 H:Hp}{i:Nat}{v:V} (hi:i<n) (hv:v=vals i) (s:Ze H1 H):∃m',m'<n-i/\CW n vals H1 (i+1) m' ((List.range i).map vals++[v]) H :=
 ⟨n-(i+1),by omega,rfl,hi,by rw[YY,Y4,hv];rfl,s⟩
theorem comp_map {J:It}{n:Nat}{H1:Hp}{g:TG}{tt:TT}{te:TE}{σ0:St}{Q:VK} (vals:Nat->V) (hn:n<sizeLine) (hgo:∀i H,Ze H1 H->i<n->J.go i H) (hstop:∀H,Ze H1 H->J.stop n H)
  (hb:∀i x H H',i<n->Ze H1 H->J.yld i H x H'->g x σ0 H' fun σ2 H2=>tt σ2 H2 λb H3=>if b=true then te σ2 H3 λv H4=>∃m',m'<n-i/\CW n vals H1 (i+1) m' ((List.range i).map vals++[v]) H4 else ∃m',m'<n-i/\CW n vals H1 (i+1) m' ((List.range i).map vals) H3)
  (hk:∀l H',Ze H1 H'->H' l=none->Q (.ref l) (upd H' l (.lst ((List.range n).map vals)))) :
  Zg7 J g tt te σ0 Q H1:=by
 refine⟨CW n vals H1,⟨n,rfl,Yv _,rfl,Ze.refl _⟩,?_⟩
 rintro i m acc H ⟨rfl,hi,rfl,s⟩
 by_cases h:i<n
 ·refine .inr ⟨hgo i H s h,by simpa using Nat.lt_trans h hn,λx H' y=>hb i x H H' h s y⟩
 ·have e:i=n:=by omega
  subst e
  exact .inl ⟨hstop H s,by simpa using YW hn,λp hp=>hk p H s hp⟩
theorem ZeC {α:Type}{xs:List α}{i:Int}{j:Nat} (h:i=(j:Int)) (hj:j<xs.length):atI xs i=some xs[j]:=by
 subst h
 unfold atI ixN
 rw[Ye (by omega),Ye (by omega)]
 simp
theorem Zq2 {α:Type}{xs:List α}{i:Int} (C:α->Prop) (h0:0<=i) (h1:i<xs.length) (h:∀x∈xs,C x):∃v,atI xs i=some v/\C v:=by
 obtain⟨j,rfl⟩:=YZ h0
 have hj:j<xs.length:=by omega
 exact⟨xs[j],ZeC rfl hj,h _ (YI hj)⟩
theorem mul_r {a b:Int} (h1:-(2 ^ 64)<b) (h2:b<2 ^ 64):IntMulOk a b:=IntMulOk.of_right (intBits_le_64 h1 h2)
theorem ZmR {a b:Int} (h1:-(2 ^ 64)<a) (h2:a<2 ^ 64):IntMulOk a b:=IntMulOk.of_left (intBits_le_64 h1 h2)
theorem ZjY {a b:Int} (ha:Builtin.Int.intBits a<=2 ^ 20) (hb:Builtin.Int.intBits b<=2 ^ 20):IntMulOk a b:=IntMulOk.of_bits ha hb
theorem cp18:ZlK 10 18:=by unfold ZlK;decide
theorem cp59:ZlK 10 59:=by unfold ZlK;decide
noncomputable def Exc (p:Addr) (H H':Hp):Prop:=∀b o,b≠p->H b=some o->H' b=some o
theorem Ze.exc {H H1 H2:Hp}{p:Addr} (s:Ze H H1) (h:H p=none) (e:Exc p H1 H2):Ze H H2:=λb o z=>e b o (Zu z h) (s b o z)
theorem Ze.Zjg {H H':Hp}{p:Addr} (s:Ze H H'):Exc p H H':=λb o _ z=>s b o z
theorem Exc.upd {H:Hp}{p:Addr}{o:HO}:Exc p H (L2.upd H p o):=λb u n z=>by rw[Zh n];exact z
theorem ZP {K:Frag}{H:Hp}{p:Addr}{xs:List V} (h:H p=some (.lst xs)):tyV K "list" (.ref p) H:=.inl ⟨rfl,_,SqL.of h⟩
theorem ZmS {i j:Int}:ZlL (.int i) (.int j)=true:=rfl
theorem ZmT {i j:Bool}:ZlL (.bl i) (.bl j)=true:=rfl
theorem ZmU {i j:Str}:ZlL (.str i) (.str j)=true:=rfl
theorem ZmV:ZlL .non .non=true:=rfl
theorem ZmW {i:Int}:ZlL .non (.int i)=true:=rfl
theorem ZmX {i:Int}:ZlL (.int i) .non=true:=rfl
section
variable {X:Cx}
noncomputable def rLen (K:Frag):List V->Hp->VK->Prop:=λxs H Q=>∃p ys,xs=[.ref p]/\(SqL K H p ys\/SqT K H p ys)/\Q (.int ys.length) H
theorem Zp {K:Frag} (hK:X.K=K):Zci X (.builtin "len") (rLen K):=by subst hK;exact ZjN
noncomputable def rLof (K:Frag):List V->Hp->VK->Prop:=λxs H Q=>∃p ys,xs=[.ref p]/\(SqL K H p ys\/SqT K H p ys)/\∀l,H l=none->Q (.ref l) (upd H l (.lst ys))
theorem ZfG {K:Frag} (hK:X.K=K):Zci X (.type "list") (rLof K):=by subst hK;exact ZjO
noncomputable def rTof (K:Frag):List V->Hp->VK->Prop:=λxs H Q=>∃p ys,xs=[.ref p]/\((SqL K H p ys/\∀l,H l=none->Q (.ref l) (upd H l (.tup ys)))\/(SqT K H p ys/\Q (.ref p) H))
theorem ZgI {K:Frag} (hK:X.K=K):Zci X (.type "tuple") (rTof K):=by subst hK;exact ZiH
theorem ZgJ {K:Frag} (hK:X.K=K):Zci X (.builtin "isinstance") (rIsi K):=by subst hK;exact ZoL
end
theorem ZmY {a:Addr}{x:Value}:(cOf (.ref a)=some x)=(.ref a=x):=by simp[cOf]
theorem ZoM {n:String}{x:Value}:(cOf (.ty n)=some x)=(.type n=x):=by simp[cOf]
theorem Zq3 (xs:List V):Zfo xs none (some 1)=xs.take 1:=by
 unfold Zfo HT.sIx
 cases xs<;>simp
theorem ZmZ {xs:List Int}{z:Int} (h:xs.getLast?=some z):atI (xs.map V.int) (-1)=some (V.int z):=by
 unfold atI ixN
 cases xs with
 |nil=>cases h
 |cons x r =>
  have hl:((x::r).map V.int).length=r.length+1:=by simp
  rw[hl,Yd (by omega),Ye (by omega)]
  have e:(-1+((r.length+1:Nat):Int)).toNat=r.length:=by omega
  rw[List.getLast?_eq_getElem?]at h
  show((x::r).map V.int)[(-1+((r.length+1:Nat):Int)).toNat]?=_
  rw[e,YB]
  have e2:(x::r).length-1=r.length:=by simp
  rw[e2]at h
  rw[h];rfl
noncomputable def Rows (H:Hp) (l:Addr) (rs:List (List Int)):Prop:=∃as:List Addr,H l=some (.lst (as.map V.ref))/\l∉as/\as.length=rs.length/\∀i (h1:i<as.length) (h2:i<rs.length),H as[i]=some (.lst (rs[i].map V.int))
inductive EqD (K:Frag) (H:Hp):Nat->V->V->Bool->Prop
 |flat {n:Nat}{x y:V} (fx:flatV x=true) (fy:flatV y=true):EqD K H n x y (eqV x y)
 |lst {n:Nat}{a b:Addr}{xs ys:List V} (e:Nat->Bool) (hx:SqL K H a xs) (hy:SqL K H b ys) (hl:xs.length=ys.length) (h:∀j x y,xs[j]?=some x->ys[j]?=some y->EqD K H n x y (e j)):EqD K H (n+1) (.ref a) (.ref b) ((List.range xs.length).all e)
 |len {n:Nat}{a b:Addr}{xs ys:List V} (hx:SqL K H a xs) (hy:SqL K H b ys) (hl:xs.length≠ys.length):EqD K H (n+1) (.ref a) (.ref b) false
 |tup {n:Nat}{a b:Addr}{xs ys:List V} (e:Nat->Bool) (hx:SqT K H a xs) (hy:SqT K H b ys) (h:∀j x y,xs[j]?=some x->ys[j]?=some y->EqD K H n x y (e j)):EqD K H (n+1) (.ref a) (.ref b) ((List.range (min xs.length ys.length)).all e&&xs.length==ys.length)
theorem ZkV {x:V} (h:flatV x=true):eqV x x=true:=by
 cases x<;>first
  |rfl
  |(simp[eqV];done)
  |cases h
section
variable {X:Cx}{pins:List (Addr×Obj)}{σ:St}{H:Hp}{s:Shared}
theorem ZkW (I:Inv X pins σ H s) {n:Nat}{x y:V}{b:Bool} (h:EqD X.K H n x y b):x=y->b=true:=by
 induction h with
 |flat fx fy=>rintro rfl;exact ZkV fx
 |lst e hx hy hl h ih =>
  intro z
  cases z
  have:=I.Zch hx hy
  subst this
  refine List.all_eq_true.mpr λj hj=>?_
  have hj':=Yq.mp hj
  exact ih j _ _ (Yb hj') (Yb hj') rfl
 |len hx hy hl =>
  intro z
  cases z
  have:=I.Zch hx hy
  subst this
  exact absurd rfl hl
 |tup e hx hy h ih =>
  intro z
  cases z
  have:=I.Zfd hx hy
  subst this
  rw[Nat.min_self]
  have:(List.range _).all e=true:=List.all_eq_true.mpr λj hj=>by
   have hj':=Yq.mp hj
   exact ih j _ _ (Yb hj') (Yb hj') rfl
  rw[this];simp
theorem ZjZ (I:Inv X pins σ H s) {n:Nat}{x y:V}{b:Bool} (h:EqD X.K H n x y b):∀(A:Around) (u v:Value),A.units+n<cLine->RelV x u->RelV y v->SeqAt.EqAt A s u v b:=by
 induction h with
 |flat fx fy=>intro A u v _ ru rv;exact ZlQ ru rv fx fy
 |@lst n a b xs ys e hx hy hl h ih =>
  intro A u v hu ru rv
  have hb:=ZkW I (.lst e hx hy hl h)
  cases ru
  cases rv
  by_cases hab:a=b
  ·subst hab
   rw[hb rfl];exact SeqAt.EqAt.same _
  ·obtain⟨is1,r1,p1,_⟩:=I.list hx
   obtain⟨is2,r2,p2,_⟩:=I.list hy
   have e1:=r1.length
   have e2:=r2.length
   have key:=SeqAt.RcAt.lists (A:=A) (s:=s) (e:=e) p1.isList p2.isList (by simp;omega) (by omega) λj h1 h2=>by
    have h1':j<xs.length:=by simpa[e1]using h1
    have h2':j<ys.length:=by simpa[e2]using h2
    obtain⟨u,hu1,ru⟩:=r1.get (Yb h1')
    obtain⟨v,hv1,rv⟩:=r2.get (Yb h2')
    have eu:is1.toArray[j]=u:=by simpa using(Yh.mp hu1).2
    have ev:is2.toArray[j]=v:=by simpa using(Yh.mp hv1).2
    rw[eu,ev]
    exact ih j _ _ (Yb h1') (Yb h2') A.in1 u v (by show A.units+1+n<cLine;omega) ru rv
   have e3:is1.toArray.size=xs.length:=by simp[e1]
   rw[e3]at key
   exact SeqAt.EqAt.of_refs hab key
 |@len n a b xs ys hx hy hl =>
  intro A u v hu ru rv
  cases ru
  cases rv
  have hab:a≠b:=λz=>by subst z;exact hl (congrArg List.length (I.Zch hx hy))
  obtain⟨is1,r1,p1,_⟩:=I.list hx
  obtain⟨is2,r2,p2,_⟩:=I.list hy
  have e1:=r1.length
  have e2:=r2.length
  exact SeqAt.EqAt.of_refs hab (SeqAt.RcAt.lists_lengths p1.isList p2.isList (by simp;omega) (by omega))
 |@tup n a b xs ys e hx hy h ih =>
  intro A u v hu ru rv
  have hb:=ZkW I (.tup e hx hy h)
  cases ru
  cases rv
  by_cases hab:a=b
  ·subst hab
   rw[hb rfl];exact SeqAt.EqAt.same _
  ·obtain⟨is1,r1,p1,_⟩:=I.tuple hx
   obtain⟨is2,r2,p2,_⟩:=I.tuple hy
   have e1:=r1.length
   have e2:=r2.length
   have key:=SeqAt.RcAt.tuples (A:=A) (s:=s) (e:=e) p1 p2 (by omega) λj h1 h2=>by
    have h1':j<xs.length:=by simpa[e1]using h1
    have h2':j<ys.length:=by simpa[e2]using h2
    obtain⟨u,hu1,ru⟩:=r1.get (Yb h1')
    obtain⟨v,hv1,rv⟩:=r2.get (Yb h2')
    have eu:is1.toArray[j]=u:=by simpa using(Yh.mp hu1).2
    have ev:is2.toArray[j]=v:=by simpa using(Yh.mp hv1).2
    rw[eu,ev]
    exact ih j _ _ (Yb h1') (Yb h2') A.in1 u v (by show A.units+1+n<cLine;omega) ru rv
   have e3:is1.toArray.size=xs.length:=by simp[e1]
   have e4:is2.toArray.size=ys.length:=by simp[e2]
   rw[e3,e4]at key
   exact SeqAt.EqAt.of_refs hab key
end
noncomputable def rEqD (K:Frag) (neg:Bool):R2:=λx y H Q=>∃a b k,x=.ref a/\y=.ref b/\EqD K H 3 x y k/\Q (.bl (if neg then !k else k)) H
section
variable {X:Cx}
theorem ZhS {K:Frag} (hK:X.K=K) {k:Nat} (hr:Room k X.A):OpR X (compareOp .Eq) (rEqD K false):=by
 subst hK
 have hu0:=hr.un
 intro pins s σ H x y v u Q I rx ry h
 obtain⟨a,b,k,rfl,rfl,h,q⟩:=h
 cases rx
 cases ry
 cases h with
 |flat fx fy=>cases fx
 |@lst n _ _ xs ys e hx hy hl h =>
  obtain⟨is1,r1,p1,_⟩:=I.list hx
  obtain⟨is2,r2,p2,_⟩:=I.list hy
  have e1:=r1.length
  have e2:=r2.length
  have e3:is1.toArray.size=xs.length:=by simp[e1]
  refine SeqAt.eq_listAt (e:=e) p1.isList p2.isList (by simp;omega) (by omega) (λj h1 h2=>?_) ⟨.bl _,H,I,rfl,by rw[e3];exact q⟩
  have h1':j<xs.length:=by simpa[e1]using h1
  have h2':j<ys.length:=by simpa[e2]using h2
  obtain⟨u,hu1,ru⟩:=r1.get (Yb h1')
  obtain⟨v,hv1,rv⟩:=r2.get (Yb h2')
  have eu:is1.toArray[j]=u:=by simpa using(Yh.mp hu1).2
  have ev:is2.toArray[j]=v:=by simpa using(Yh.mp hv1).2
  rw[eu,ev]
  exact ZjZ I (h j _ _ (Yb h1') (Yb h2')) X.A.in1 u v (by show X.A.units+1+2<cLine;omega) ru rv
 |@len n _ _ xs ys hx hy hl =>
  obtain⟨is1,r1,p1,_⟩:=I.list hx
  obtain⟨is2,r2,p2,_⟩:=I.list hy
  have e1:=r1.length
  have e2:=r2.length
  exact SeqAt.eq_list_lengthsAt p1.isList p2.isList (by simp;omega) (by omega) ⟨.bl _,H,I,rfl,q⟩
 |@tup n _ _ xs ys e hx hy h =>
  obtain⟨is1,r1,p1,_⟩:=I.tuple hx
  obtain⟨is2,r2,p2,_⟩:=I.tuple hy
  have e1:=r1.length
  have e2:=r2.length
  have e3:is1.toArray.size=xs.length:=by simp[e1]
  have e4:is2.toArray.size=ys.length:=by simp[e2]
  refine SeqAt.eq_tupleAt (e:=e) p1 p2 (by omega) (λj h1 h2=>?_) ⟨.bl _,H,I,rfl,by rw[e3,e4];exact q⟩
  have h1':j<xs.length:=by simpa[e1]using h1
  have h2':j<ys.length:=by simpa[e2]using h2
  obtain⟨u,hu1,ru⟩:=r1.get (Yb h1')
  obtain⟨v,hv1,rv⟩:=r2.get (Yb h2')
  have eu:is1.toArray[j]=u:=by simpa using(Yh.mp hu1).2
  have ev:is2.toArray[j]=v:=by simpa using(Yh.mp hv1).2
  rw[eu,ev]
  exact ZjZ I (h j _ _ (Yb h1') (Yb h2')) X.A.in1 u v (by show X.A.units+1+2<cLine;omega) ru rv
theorem op_neD {K:Frag} (hK:X.K=K) {k:Nat} (hr:Room k X.A):OpR X (compareOp .NotEq) (rEqD K true):=by
 subst hK
 have hu0:=hr.un
 intro pins s σ H x y v u Q I rx ry h
 obtain⟨a,b,k,rfl,rfl,h,q⟩:=h
 cases rx
 cases ry
 cases h with
 |flat fx fy=>cases fx
 |@lst n _ _ xs ys e hx hy hl h =>
  obtain⟨is1,r1,p1,_⟩:=I.list hx
  obtain⟨is2,r2,p2,_⟩:=I.list hy
  have e1:=r1.length
  have e2:=r2.length
  have e3:is1.toArray.size=xs.length:=by simp[e1]
  refine SeqAt.RcNeAt.lists (e:=e) p1.isList p2.isList (by simp;omega) (by omega) (λj h1 h2=>?_) _ _ _ _ ⟨.bl _,H,I,rfl,by rw[e3];exact q⟩
  have h1':j<xs.length:=by simpa[e1]using h1
  have h2':j<ys.length:=by simpa[e2]using h2
  obtain⟨u,hu1,ru⟩:=r1.get (Yb h1')
  obtain⟨v,hv1,rv⟩:=r2.get (Yb h2')
  have eu:is1.toArray[j]=u:=by simpa using(Yh.mp hu1).2
  have ev:is2.toArray[j]=v:=by simpa using(Yh.mp hv1).2
  rw[eu,ev]
  exact ZjZ I (h j _ _ (Yb h1') (Yb h2')) X.A.in1 u v (by show X.A.units+1+2<cLine;omega) ru rv
 |@len n _ _ xs ys hx hy hl =>
  obtain⟨is1,r1,p1,_⟩:=I.list hx
  obtain⟨is2,r2,p2,_⟩:=I.list hy
  have e1:=r1.length
  have e2:=r2.length
  exact SeqAt.RcNeAt.lists_lengths p1.isList p2.isList (by simp;omega) (by omega) _ _ _ _ ⟨.bl _,H,I,rfl,q⟩
 |@tup n _ _ xs ys e hx hy h =>
  obtain⟨is1,r1,p1,_⟩:=I.tuple hx
  obtain⟨is2,r2,p2,_⟩:=I.tuple hy
  have e1:=r1.length
  have e2:=r2.length
  have e3:is1.toArray.size=xs.length:=by simp[e1]
  have e4:is2.toArray.size=ys.length:=by simp[e2]
  refine SeqAt.RcNeAt.tuples (e:=e) p1 p2 (by omega) (λj h1 h2=>?_) _ _ _ _ ⟨.bl _,H,I,rfl,by rw[e3,e4];exact q⟩
  have h1':j<xs.length:=by simpa[e1]using h1
  have h2':j<ys.length:=by simpa[e2]using h2
  obtain⟨u,hu1,ru⟩:=r1.get (Yb h1')
  obtain⟨v,hv1,rv⟩:=r2.get (Yb h2')
  have eu:is1.toArray[j]=u:=by simpa using(Yh.mp hu1).2
  have ev:is2.toArray[j]=v:=by simpa using(Yh.mp hv1).2
  rw[eu,ev]
  exact ZjZ I (h j _ _ (Yb h1') (Yb h2')) X.A.in1 u v (by show X.A.units+1+2<cLine;omega) ru rv
end
noncomputable def IsI (v:V) (i:Int):Prop:=v=.int i
noncomputable def IsL (K:Frag) (H:Hp) {α:Type} (P:V->α->Prop) (v:V) (as:List α):Prop:=∃a xs,v=.ref a/\SqL K H a xs/\xs.length=as.length/\∀(j:Nat) (x:V) (y:α),xs[j]?=some x->as[j]?=some y->P x y
noncomputable def IsT (K:Frag) (H:Hp) {α:Type} (P:V->α->Prop) (v:V) (as:List α):Prop:=∃a xs,v=.ref a/\SqT K H a xs/\xs.length=as.length/\∀(j:Nat) (x:V) (y:α),xs[j]?=some x->as[j]?=some y->P x y
noncomputable def EqP (K:Frag) (H:Hp) (n:Nat) {α:Type} [DecidableEq α] (P:V->α->Prop):Prop:=∀x y a b,P x a->P y b->EqD K H n x y (decide (a=b))
theorem Zj0 {K:Frag}{H:Hp}{n:Nat}:EqP K H n IsI:=by
 rintro x y a b rfl rfl
 have:=EqD.flat (K:=K) (H:=H) (n:=n) (x:=.int a) (y:=.int b) rfl rfl
 have e:eqV (.int a) (.int b)=decide (a=b):=by simp[eqV,Bool.beq_eq_decide_eq]
 rw[<-e];exact this
theorem all_eq {α:Type} [DecidableEq α] (as bs:List α) (h:as.length=bs.length):(List.range as.length).all (λj=>decide (as[j]?=bs[j]?))=decide (as=bs):=by
 rw[Bool.eq_iff_iff,List.all_eq_true,decide_eq_true_iff]
 constructor
 ·intro q
  refine List.ext_getElem? λj=>?_
  by_cases hj:j<as.length
  ·simpa using q j (Yq.mpr hj)
  ·rw[List.getElem?_eq_none (by omega),List.getElem?_eq_none (by omega)]
 ·rintro rfl j _;simp
theorem Zm0 {K:Frag}{H:Hp}{n:Nat}{α:Type} [DecidableEq α] {P:V->α->Prop} (h:EqP K H n P):EqP K H (n+1) (IsL K H P):=by
 rintro x y as bs ⟨a,xs,rfl,hx,lx,px⟩ ⟨b,ys,rfl,hy,ly,py⟩
 by_cases hl:as.length=bs.length
 ·rw[<-all_eq as bs hl,<-lx]
  refine .lst _ hx hy (by omega) λj x y h1 h2=>?_
  have j1:=(Yh.mp h1).1
  have j2:=(Yh.mp h2).1
  have ha:as[j]?=some as[j]:=Yb (by omega)
  have hb:bs[j]?=some bs[j]:=Yb (by omega)
  have:=h x y _ _ (px j _ _ h1 ha) (py j _ _ h2 hb)
  rw[ha,hb]
  simpa using this
 ·have e:decide (as=bs)=false:=by simp;intro z;exact hl (congrArg List.length z)
  rw[e]
  exact .len hx hy (by omega)
theorem Zm1 {K:Frag}{H:Hp}{n:Nat}{α:Type} [DecidableEq α] {P:V->α->Prop} (h:EqP K H n P):EqP K H (n+1) (IsT K H P):=by
 rintro x y as bs ⟨a,xs,rfl,hx,lx,px⟩ ⟨b,ys,rfl,hy,ly,py⟩
 have key:=EqD.tup (K:=K) (H:=H) (n:=n) (λj=>decide (as[j]?=bs[j]?)) hx hy λj x y h1 h2=>by
  have j1:=(Yh.mp h1).1
  have j2:=(Yh.mp h2).1
  have ha:as[j]?=some as[j]:=Yb (by omega)
  have hb:bs[j]?=some bs[j]:=Yb (by omega)
  have:=h x y _ _ (px j _ _ h1 ha) (py j _ _ h2 hb)
  rw[ha,hb]
  simpa using this
 have e:((List.range (min xs.length ys.length)).all (λj=>decide (as[j]?=bs[j]?))&&xs.length==ys.length)=decide (as=bs):=by
  rw[lx,ly]
  by_cases hl:as.length=bs.length
  ·rw[<-hl,Nat.min_self,all_eq as bs hl];simp
  ·have e:decide (as=bs)=false:=by simp;intro z;exact hl (congrArg List.length z)
   rw[e]
   simp[hl]
 rw[e]at key
 exact key
theorem Zdx {K:Frag}{H:Hp}{a:Addr}{ns:List Int} (h:SqL K H a (ns.map V.int)):IsL K H IsI (.ref a) ns:=⟨a,_,rfl,h,by simp,λj x y h1 h2=>by
 rw[YB,h2]at h1
 exact(YD h1).symm⟩
theorem Zga {K:Frag}{H:Hp}{a:Addr}{ns:List Int} (h:SqT K H a (ns.map V.int)):IsT K H IsI (.ref a) ns:=⟨a,_,rfl,h,by simp,λj x y h1 h2=>by
 rw[YB,h2]at h1
 exact(YD h1).symm⟩
section
variable {X:Cx}
noncomputable def ZoN (ta:TA):TE:=fun σ H Q=>ta σ H λvs H1=>∃j:Int,vs=[.int j]/\-(2 ^ 62)<=j/\j<2 ^ 62/\∀p,H1 p=none->Q (.ref p) (upd H1 p (.rng 0 j))
theorem Zjh {a:Expr}{ta:TA}{p pos:Pos} (hg:Gl X "range") (hm:X.mg "range"=none) (ha:PA X [a] ta) (hs:starEach [a] X.env=[(false,eval a X.env)]:=by rfl):PE X (.Call (.Name "range" p) [a] [] pos) (ZoN ta):=by
 intro pins s σ H Q I h
 refine wpAny_Call_Name_kw (Zcg I hg hm boot_range (PyProof.Rows.callWith_type1 (thn (ha pos pins s σ H _ I h) λus s1 ⟨vs,H1,I1,r1,q1⟩=>?_) hs rfl))
 obtain⟨j,e,q1,q2,q⟩:=q1
 subst e
 obtain⟨u,rfl,ru⟩:=r1.one
 obtain⟨t,rfl⟩:=ru
 refine call_range_1 ⟨.ref s1.heap.objs.size,_,I1.laid (λb o e=>Yo _ e) (Yc _) ?_,rfl,q _ (I1.hok.fresh (Yc _))⟩
 exact⟨_,_,_,YE _ rfl⟩
theorem Zq4 {g:Nat->V}{P:Nat->Value->Prop} (hP:∀i v,P i v->RelV (g i) v):∀(n:Nat) (us:List Value),us.length=n->(∀(j:Nat) (v:Value),us[j]?=some v->P j v)->Vals ((List.range n).map g) us:=by
 intro n
 induction n with
 |zero =>
  intro us hl _
  cases us with
  |nil=>exact .nil
  |cons _ _=>cases hl
 |succ n ih =>
  intro us hl h
  have hne:us≠[]:=λz=>by rw[z]at hl;cases hl
  rw[YY,Y4,<-List.dropLast_concat_getLast hne]
  have hl2:us.dropLast.length=n:=by rw[List.length_dropLast,hl];rfl
  refine(ih us.dropLast hl2 λj v hj=>?_).append (.cons ?_ .nil)
  ·have hj2:=(Yh.mp hj).1
   refine h j v ?_
   rw[List.getElem?_dropLast]at hj
   split at hj
   ·exact hj
   ·cases hj
  ·refine hP n _ (h n _ ?_)
   rw[List.getLast_eq_getElem]
   rw[Yh]
   refine⟨by omega,?_⟩
   congr 1
   omega
noncomputable def rAll (K:Frag):List V->Hp->VK->Prop:=λxs H Q=>∃(p:Addr) (bs:List Bool),xs=[.ref p]/\SqL K H p (bs.map V.bl)/\Q (.bl (bs.all id)) H
theorem all_ix (bs:List Bool):(List.range bs.length).all (λi=>bs.getD i false)=bs.all id:=by
 rw[Bool.eq_iff_iff,List.all_eq_true,List.all_eq_true]
 constructor
 ·intro h x hx
  obtain⟨j,hj,rfl⟩:=Y5 hx
  have:=h j (Yq.mpr hj)
  simpa[Yi,hj]using this
 ·intro h j hj
  have hj':=Yq.mp hj
  have:=h _ (YI hj')
  simpa[Yi,hj']using this
theorem ZkX {prog:Program}{w:World}{A:Around}{bs:List Bool}{its:List Value} (r:Vals (bs.map V.bl) its):TruthOf prog w A (λi v=>its.toArray[i]?=some v) (λi=>bs.getD i false):=by
 intro i v s Q E hv hq
 have hv':its[i]?=some v:=by simpa using hv
 have hl:=r.length
 have hi:i<bs.length:=by
  have:=(Yh.mp hv').1
  rw[Yf]at hl;omega
 obtain⟨u,hu,ru⟩:=r.get (i:=i) (x:=V.bl bs[i]) (by rw[YB,Yb hi];rfl)
 rw[hv']at hu
 cases hu
 cases ru
 refine wpAny_truthy_bool ?_
 simpa[Yi,hi]using hq
theorem ZhT {K:Frag} (hK:X.K=K) (hc:X.calm=true):Zci X (.builtin "all") (rAll K):=by
 subst hK
 intro pins s σ H xs us Q I r h
 obtain⟨p,bs,rfl,hp,q⟩:=h
 obtain⟨u,rfl,ru⟩:=r.one
 cases(show u=Value.ref p from ru)
 obtain⟨its,r',pl,hz⟩:=I.list hp
 have hl:=r'.length
 refine call_all_walk (wpAny_pyIter_list pl.isList ?_)
 have hne:p≠s.heap.objs.size:=by obtain⟨o,e,_⟩:=pl.isList;exact Yp (Yl e)
 refine⟨s.heap.objs.size,_,_,_,_,_,λi=>bs.getD i false,rfl,Walks.list (A:=X.A.in1) (show X.A.in1.handled=none from I.ok.hd hc) _ p hne its.toArray,⟨⟨_,YE _ rfl,rfl,rfl⟩,pl.isList.push _⟩,ZkX r',λh' tk kp=>?_⟩
 have e1:its.toArray.size=bs.length:=by rw[Yn];rw[Yf]at hl;omega
 rw[e1,all_ix]
 exact⟨.bl _,H,I.kept (t':=tk) λb o e=>kp b o (by simp;exact Yp (Yl e)) (Yo _ e),rfl,q⟩
noncomputable def rIxQ (K:Frag):R2:=λx y H Q=>∃p xs i v,x=.ref p/\y=.int i/\(SqL K H p xs\/SqT K H p xs)/\atI xs i=some v/\Q v H
theorem Zgb {K:Frag} (hK:X.K=K):IxR X (rIxQ K):=by
 subst hK
 intro value slice pins s σ H x y v u Q I rx ry h hs
 refine(Zo.or ZO) (value:=value) (slice:=slice) pins s σ H x y v u Q I rx ry ?_ hs
 obtain⟨p,xs,i,v,rfl,rfl,hq,ha,q⟩:=h
 rcases hq with hq|hq
 ·exact .inl ⟨p,xs,i,v,rfl,rfl,hq,ha,q⟩
 ·exact .inr ⟨p,xs,i,v,rfl,rfl,hq,ha,q⟩
theorem ZlW:bootBuiltins "all"=some (.builtin "all"):=by decide +kernel
end
noncomputable def ZK (f:Nat->Int) (a b p:Nat):Prop:=a<=p/\p<=b/\(∀q,a<=q->q<p->f p<f q)/\∀q,p<q->q<=b->f p<=f q
theorem ZK.unique {f:Nat->Int}{a b p q:Nat} (h:ZK f a b p) (k:ZK f a b q):p=q:=by
 obtain⟨h1,h2,h3,h4⟩:=h
 obtain⟨k1,k2,k3,k4⟩:=k
 rcases Nat.lt_trichotomy p q with z|z|z
 ·have:=k3 p h1 z
  have:=h4 q z k2
  omega
 ·exact z
 ·have:=h3 q k1 z
  have:=k4 p z h2
  omega
theorem ZK.join {f:Nat->Int}{a m a' b p q:Nat} (h:ZK f a m p) (k:ZK f a' b q) (h1:a<=a') (h2:a'<=m+1) (h3:m<=b):ZK f a b (if f q<f p then q else p):=by
 obtain⟨p1,p2,p3,p4⟩:=h
 obtain⟨q1,q2,q3,q4⟩:=k
 have pm:∀r,a<=r->r<=m->f p<=f r:=λr r1 r2=>by
  rcases Nat.lt_trichotomy r p with z|z|z
  ·exact Int.le_of_lt (p3 r r1 z)
  ·rw[z];exact Int.le_refl _
  ·exact p4 r z r2
 have qm:∀r,a'<=r->r<=b->f q<=f r:=λr r1 r2=>by
  rcases Nat.lt_trichotomy r q with z|z|z
  ·exact Int.le_of_lt (q3 r r1 z)
  ·rw[z];exact Int.le_refl _
  ·exact q4 r z r2
 split
 ·rename_i hlt
  refine⟨by omega,q2,λr r1 r2=>?_,λr r1 r2=>qm r (by omega) r2⟩
  by_cases z:a'<=r
  ·exact q3 r z r2
  ·have:=pm r r1 (by omega);omega
 ·rename_i hle
  refine⟨p1,by omega,p3,λr r1 r2=>?_⟩
  by_cases z:r<=m
  ·exact p4 r r1 z
  ·have:=qm r (by omega) r2;omega
noncomputable def ZgK (f:Nat->Int) (a:Nat):Nat->Nat
 |0=>a
 |c+1=>if f (a+c+1)<f (ZgK f a c)then a+c+1 else ZgK f a c
theorem Zji (f:Nat->Int) (a:Nat):ZK f a a a:=⟨Yc _,Yc _,λq h1 h2=>by omega,λq h1 h2=>by omega⟩
theorem ZaP (f:Nat->Int) (a c:Nat):ZK f a (a+c) (ZgK f a c):=by
 induction c with
 |zero=>exact Zji f a
 |succ c ih =>
  rw[ZgK]
  exact ih.join (Zji f (a+c+1)) (by omega) (by omega) (by omega)
noncomputable def nth (ns:List Int) (i:Nat):Int:=ns.getD i 0
theorem Z4 {ns:List Int}{i:Nat} (h:i<ns.length):atI (ns.map V.int) (i:Int)=some (V.int (nth ns i)):=by
 rw[ZeC rfl (by simpa using h)]
 simp[nth,Yi,h]
theorem Zm2 (f:Nat->Int) (a c:Nat):a<=ZgK f a c/\ZgK f a c<=a+c:=⟨(ZaP f a c).1,(ZaP f a c).2.1⟩
noncomputable def WI (N:Nat) (Pv:Nat->St->Hp->Prop) (m:Nat) (σ:St) (H:Hp):Prop:=∃i,m=N-i/\i<=N/\Pv i σ H
theorem WI.next {N:Nat}{Pv:Nat->St->Hp->Prop}{i:Nat}:∀σ' H',(i+1<=N/\Pv (i+1) σ' H')->∃m',m'<N-i/\WI N Pv m' σ' H':=fun σ' H' h=>⟨N-(i+1),by omega,i+1,rfl,h.1,h.2⟩
theorem Zm3 {c:TT}{tb:TS}{D:Ends}{σ:St}{H:Hp} (N:Nat) (Pv:Nat->St->Hp->Prop) (h0:Pv 0 σ H)
  (hs:∀i σ H,i<=N->Pv i σ H->c σ H λb H1=>if b=true then ∃Nx:St->Hp->Prop,(∀σ' H',Nx σ' H'->∃m',m'<N-i/\WI N Pv m' σ' H')/\tb {D with nx:=Nx,ct:=Nx,bk:=D.nx} σ H1 else D.nx σ H1):ZlV c tb D σ H:=by
 refine⟨WI N Pv,⟨N,0,rfl,Yv _,h0⟩,?_⟩
 rintro m σ H ⟨i,rfl,hi,p⟩
 exact hs i σ H hi p
theorem Ze.seqT {K:Frag}{H H':Hp}{a:Addr}{xs:List V} (e:Ze H H') (h:SqT K H a xs):SqT K H' a xs:=by
 rcases h with(h|⟨o,h⟩)|h
 ·exact .inl (.inl (e _ _ h))
 ·exact .inl (.inr ⟨o,e _ _ h⟩)
 ·exact .inr h
theorem Ze.q {K:Frag}{H H':Hp}{a:Addr}{xs:List V} (e:Ze H H') (h:SqL K H a xs\/SqT K H a xs):SqL K H' a xs\/SqT K H' a xs:=h.imp e.seq e.seqT
theorem Exc.trans {p:Addr}{H H1 H2:Hp} (a:Exc p H H1) (b:Exc p H1 H2):Exc p H H2:=λc o n z=>b c o n (a c o n z)
theorem Exc.free {p q:Addr}{H H':Hp} (e:Exc p H H') (n:q≠p) (h:H' q=none):H q=none:=by
 cases z:H q with
 |none=>rfl
 |some o=>rw[e q o n z]at h;cases h
theorem Exc.updN {p q:Addr}{H H':Hp}{o:HO} (e:Exc p H H') (h:H q=none):Exc p H (L2.upd H' q o):=λb u n z=>by
 rw[Zh (Zu z h)];exact e b u n z
theorem Exc.same {p:Addr}{H H1 H2:Hp} (a:Exc p H H1) (s:Ze H1 H2):Exc p H H2:=a.trans s.Zjg
noncomputable def CA (n:Nat) (Pv:Nat->List V->Hp->Prop) (i m:Nat) (acc:List V) (H:Hp):Prop:=m=n-i/\i<=n/\acc.length<=i/\Pv i acc H
theorem CA.take {n:Nat}{Pv:Nat->List V->Hp->Prop}{i:Nat}{acc:List V}{v:V}{H:Hp} (hi:i<n) (hl:acc.length<=i) (h:Pv (i+1) (acc++[v]) H):∃m',m'<n-i/\CA n Pv (i+1) m' (acc++[v]) H:=⟨n-(i+1),by omega,rfl,hi,by simp;omega,h⟩
theorem CA.skip {n:Nat}{Pv:Nat->List V->Hp->Prop}{i:Nat}{acc:List V}{H:Hp} (hi:i<n) (hl:acc.length<=i) (h:Pv (i+1) acc H):∃m',m'<n-i/\CA n Pv (i+1) m' acc H:=⟨n-(i+1),by omega,rfl,hi,by omega,h⟩
theorem Za0 {J:It}{n:Nat}{H1:Hp}{g:TG}{tt:TT}{te:TE}{σ0:St}{Q:VK} (Pv:Nat->List V->Hp->Prop) (hn:n<sizeLine) (h0:Pv 0 [] H1) (hgo:∀i acc H,Pv i acc H->i<n->J.go i H) (hstop:∀acc H,Pv n acc H->J.stop n H)
  (hb:∀i x acc H H',i<n->acc.length<=i->Pv i acc H->J.yld i H x H'->g x σ0 H' fun σ2 H2=>tt σ2 H2 λb H3=>if b=true then te σ2 H3 λv H4=>∃m',m'<n-i/\CA n Pv (i+1) m' (acc++[v]) H4 else ∃m',m'<n-i/\CA n Pv (i+1) m' acc H3)
  (hk:∀l acc H',Pv n acc H'->acc.length<=n->H' l=none->Q (.ref l) (upd H' l (.lst acc))):Zg7 J g tt te σ0 Q H1:=by
 refine⟨CA n Pv,⟨n,rfl,Yv _,Yc _,h0⟩,?_⟩
 rintro i m acc H ⟨rfl,hi,hl,p⟩
 by_cases h:i<n
 ·exact .inr ⟨hgo i acc H p h,by omega,λx H' y=>hb i x acc H H' h hl p y⟩
 ·have e:i=n:=by omega
  subst e
  exact .inl ⟨hstop acc H p,by omega,λq hq=>hk q acc H p hl hq⟩
section
variable {X:Cx}
noncomputable def Zj1:V->List V->Hp->VK->Prop:=λx vs H Q=>∃l xs i y,x=.ref l/\vs=[.int i,y]/\H l=some (.lst xs)/\0<=i/\i<2 ^ 62/\xs.length<sizeLine/\Q .non (upd H l (.lst (xs.take i.toNat++y::xs.drop i.toNat)))
theorem Vals.ZoO:∀{xs:List V}{us:List Value} (k:Nat),Vals xs us->Vals (xs.take k) (us.take k)
 |_,_,0,_=>by simp;exact .nil
 |_,_,_+1,.nil=>.nil
 |_,_,k+1,.cons r h=>.cons r (Vals.ZoO k h)
theorem Vals.dropN:∀{xs:List V}{us:List Value} (k:Nat),Vals xs us->Vals (xs.drop k) (us.drop k)
 |_,_,0,h=>by simpa using h
 |_,_,_+1,.nil=>.nil
 |_,_,k+1,.cons _ h=>Vals.dropN k h
theorem ZnM:MtM X "list.insert" Zj1:=by
 intro pins s σ H x vs v us Q I rx rv h
 obtain⟨l,xs,i,y,rfl,rfl,hH,h1,h2,hz,q⟩:=h
 cases rx
 obtain⟨u,u2,rfl,ru,ru2⟩:=rv.two
 obtain⟨t,rfl⟩:=ru
 obtain⟨z,its,n,r,hl,e⟩:=I.ZkP hH
 have hf:¬ (!Builtin.List.listFitsIndex i)=true:=by
  unfold Builtin.List.listFitsIndex
  have a1:decide (-(2 ^ 63:Int)<=i)=true:=Yz (by omega)
  have a2:decide (i<(2 ^ 63:Int))=true:=Yz (by omega)
  rw[a1,a2];decide
 refine call_meets F.slot_list_insert ⟨_,e,rfl⟩ F.entry_list_insert (F.args_list_insert_3 _ _ _) (AutoListH.list_insert_list_int_val_1 l its.toArray n i t u2 hf (by rw[Yn];omega)) ⟨e,?_⟩
 refine⟨.non,_,I.lset (its':=its.take i.toNat++u2::its.drop i.toNat) (ys:=xs.take i.toNat++y::xs.drop i.toNat) hH e ?_ ((r.ZoO _).append (.cons ru2 (r.dropN _))) ?_,rfl,q⟩
 ·show((its.toArray.extract 0 (if i<0 then (i+((its.toArray.size:Nat):Int)).toNat else min i.toNat its.toArray.size)).push u2++its.toArray.extract (if i<0 then (i+((its.toArray.size:Nat):Int)).toNat else min i.toNat its.toArray.size))=_
  rw[Yd (by omega)]
  have e1:its.take (min i.toNat its.length)=its.take i.toNat:=by
   by_cases hh:i.toNat<=its.length
   ·rw[Nat.min_eq_left hh]
   ·rw[Nat.min_eq_right (by omega),List.take_of_length_le (by omega),List.take_of_length_le (by omega)]
  have e2:its.drop (min i.toNat its.length)=its.drop i.toNat:=by
   by_cases hh:i.toNat<=its.length
   ·rw[Nat.min_eq_left hh]
   ·rw[Nat.min_eq_right (by omega),List.drop_of_length_le (by omega),List.drop_of_length_le (by omega)]
  apply Array.ext'
  simp[e1,e2]
  exact List.take_of_length_le (by rw[Jb];omega)
 ·rw[YH,YQ,Y7,Jb];omega
noncomputable def ZlX (K:Frag):V->List V->Hp->VK->Prop:=λx vs H Q=>∃(l:Addr) (ns:List Int) (k:Int),x=.ref l/\vs=[.int k]/\SqL K H l (ns.map V.int)/\ns.length<=100000/\k∈ns/\Q (.int (ns.idxOf k:Nat)) H
theorem ZkY {K:Frag} (hK:X.K=K):MtM X "list.index" (ZlX K):=by
 subst hK
 intro pins s σ H x vs v us Q I rx rv h
 obtain⟨l,ns,k,rfl,rfl,hH,hz,hk,q⟩:=h
 cases rx
 obtain⟨u,rfl,ru⟩:=rv.one
 obtain⟨t,rfl⟩:=ru
 obtain⟨its,r,pl,_⟩:=I.list hH
 have hi:IntsAre its ns:=intsAre_of r
 have hlen:=r.length
 rw[Yf]at hlen
 obtain⟨⟨cls,dd,data,sl⟩,ho,hc,n,hd⟩:=pl.isList
 simp only at hc hd
 subst hc hd
 have hj:ns.idxOf k<ns.length:=List.idxOf_lt_length_iff.mpr hk
 refine call_meets F.slot_list_index ⟨_,ho,rfl⟩ F.entry_list_index (F.args_list_index_2 _ _)
  (SeqAt.list_indexAt l its.toArray n dd sl (.int k t) (isInt k) (ns.idxOf k) (by rw[Yn];omega) (by omega) ?_ ?_) ⟨ho,λy hy=>(eq_isInt k t hi y (by simpa using hy)).at _ _,⟨.int _,H,I.tok _,⟨_,rfl⟩,q⟩⟩
 ·show isInt k its[ns.idxOf k]=true
  rw[isInt_at k hi _ (by omega) hj]
  simpa using List.getElem_idxOf hj
 ·intro j hjs hlt
  show isInt k its[j]=false
  rw[isInt_at k hi j (by simpa using hjs) (by omega)]
  exact ne_of_lt_idxOf hlt _
end
noncomputable def ZG (H:Hp) (p:Addr):Prop:=∃x:Int,H p=some (.lst [.int x])/\0<=x
theorem ZG.ne {H:Hp}{p q:Addr} (P:ZG H p) (h:H q=none):q≠p:=by
 obtain⟨x,e,_⟩:=P
 exact(Zu e h).symm
theorem ZG.same {H H':Hp}{p:Addr} (P:ZG H p) (s:Ze H H'):ZG H' p:=by
 obtain⟨x,e,r⟩:=P
 exact⟨x,s _ _ e,r⟩
theorem ZG.upd {H:Hp}{p q:Addr}{o:HO} (P:ZG H p) (h:H q=none):ZG (L2.upd H q o) p:=P.same ((Ze.refl H).upd h)
theorem ZG.updN {H:Hp}{p q:Addr}{o:HO} (P:ZG H p) (h:q≠p):ZG (L2.upd H q o) p:=by
 obtain⟨x,e,r⟩:=P
 exact⟨x,by rw[Zh h.symm];exact e,r⟩
theorem cp60:ZlK 10 60:=by unfold ZlK;decide
theorem qm1:IntMulOk (10 ^ Int.toNat 60) (10 ^ Int.toNat 60):=ZjY (by decide +kernel) (by decide +kernel)
theorem qm2:IntMulOk (10 ^ Int.toNat 60*10 ^ Int.toNat 60) (10 ^ Int.toNat 60):=ZjY (by decide +kernel) (by decide +kernel)
theorem qm3:IntMulOk (10 ^ Int.toNat 60*10 ^ Int.toNat 60*10 ^ Int.toNat 60) (10 ^ Int.toNat 60):=ZjY (by decide +kernel) (by decide +kernel)
theorem qm4:(0:Int)<10 ^ Int.toNat 60*10 ^ Int.toNat 60*10 ^ Int.toNat 60*10 ^ Int.toNat 60:=by decide +kernel
end L2
namespace L2
noncomputable def Z9 (f:Nat->Int) (p q:Nat):Prop:=q<p/\f q<=f p/\∀r,q<r->r<p->f p<f r
noncomputable def Z5 (f:Nat->Int) (n p r:Nat):Prop:=p<r/\r<n/\f r<f p/\∀s,p<s->s<r->f p<=f s
noncomputable def ZcY (f:Nat->Int) (p:Nat):Prop:=∀q,q<p->f p<f q
noncomputable def ZbT (f:Nat->Int) (n p:Nat):Prop:=∀r,p<r->r<n->f p<=f r
noncomputable def Zy (f:Nat->Int) (n p:Nat) (e:Int):Prop :=
 (ZcY f p/\ZbT f n p/\e=-1)\/(∃q,Z9 f p q/\ZbT f n p/\e=q)\/(∃r,ZcY f p/\Z5 f n p r/\e=r) \/
 ∃q r,Z9 f p q/\Z5 f n p r/\e=if f q<=f r then (r:Int)else q
theorem ZkZ {P:Nat->Prop} [DecidablePred P] (i:Nat):∀d r,r+d=i->P r->∃t,r<=t/\t<=i/\P t/\∀s,t<s->s<=i->¬ P s:=by
 intro d
 induction d with
 |zero=>intro r e h;exact⟨r,Yc _,by omega,h,λs h1 h2=>by omega⟩
 |succ d ih =>
  intro r e h
  by_cases hx:∃t,r<t/\t<=i/\P t
  ·obtain⟨t,h1,h2,h3⟩:=hx
   -- step to r+1 by cases
   by_cases h4:P (r+1)
   ·obtain⟨u,u1,u2,u3,u4⟩:=ih (r+1) (by omega) h4
    exact⟨u,by omega,u2,u3,u4⟩
   ·-- go on from the next one
    have gen:∀k t,t+k=i->r<t->P t->∃u,r<=u/\u<=i/\P u/\∀s,u<s->s<=i->¬ P s:=by
     intro k
     induction k with
     |zero=>intro t e h1 h3;exact⟨t,by omega,by omega,h3,λs h1 h2=>by omega⟩
     |succ k ihk =>
      intro t e h1 h3
      by_cases hy:∃s,t<s/\s<=i/\P s
      ·-- the last one of the rest
       have key:∀m,m<=i->(∃s,t<s/\s<=m/\P s)->∃u,t<u/\u<=m/\P u/\∀s,u<s->s<=m->¬ P s:=by
        intro m
        induction m with
        |zero=>rintro _ ⟨s,h5,h6,_⟩;omega
        |succ m ihm =>
         rintro hm ⟨s,h5,h6,h7⟩
         by_cases hp:P (m+1)
         ·exact⟨m+1,by omega,Yc _,hp,λs h1 h2=>by omega⟩
         ·have hs:s<=m:=by
           rcases Nat.lt_or_ge m s with z|z
           ·have:s=m+1:=by omega
            rw[this]at h7;exact absurd h7 hp
           ·exact z
          obtain⟨u,u1,u2,u3,u4⟩:=ihm (by omega) ⟨s,h5,hs,h7⟩
          refine⟨u,u1,by omega,u3,λs' h1 h2=>?_⟩
          by_cases e:s'=m+1
          ·rw[e];exact hp
          ·exact u4 s' h1 (by omega)
       obtain⟨u,u1,u2,u3,u4⟩:=key i (Yc _) hy
       exact⟨u,by omega,u2,u3,u4⟩
      ·exact⟨t,by omega,by omega,h3,λs h1 h2 h5=>hy ⟨s,h1,h2,h5⟩⟩
    exact gen (i-t) t (by omega) h1 h3
  ·exact⟨r,Yc _,by omega,h,λs h1 h2 h3=>hx ⟨s,h1,h2,h3⟩⟩
theorem ZlY {P:Nat->Prop} [DecidablePred P] {n r:Nat} (hr:r<n) (h:P r):∃t,r<=t/\t<n/\P t/\∀s,t<s->s<n->¬ P s:=by
 obtain⟨t,h1,h2,h3,h4⟩:=ZkZ (P:=P) (n-1) (n-1-r) r (by omega) h
 exact⟨t,h1,by omega,h3,λs a b=>h4 s a (by omega)⟩
noncomputable def ZhU (f:Nat->Int) (i:Nat) (sp:List Nat):Prop:=sp.Pairwise (· < ·)/\∀q,q∈sp↔q<i/\∀r,q<r->r<i->f q<=f r
theorem Zj2 (f:Nat->Int) (p:Nat):ZcY f p\/∃q,Z9 f p q:=by
 by_cases h:∃q,q<p/\f q<=f p
 ·obtain⟨q,h1,h2⟩:=h
  obtain⟨t,_,t2,t3,t4⟩:=ZlY (P:=λq=>f q<=f p) h1 h2
  exact .inr ⟨t,t2,t3,λr a b=>by have:=t4 r a b;omega⟩
 ·exact .inl λq hq=>by
   have:¬ (f q<=f p):=λz=>h ⟨q,hq,z⟩
   omega
theorem ZnN {f:Nat->Int}{i p q:Nat} (hp:p<i) (ho:∀r,p<r->r<i->f p<=f r) (h:Z9 f p q):(∀r,q<r->r<i->f q<=f r)/\∀s,q<s->s<p->¬ ∀r,s<r->r<i->f s<=f r:=by
 obtain⟨h1,h2,h3⟩:=h
 refine⟨λr a b=>?_,λs a b z=>?_⟩
 ·rcases Nat.lt_trichotomy r p with c|c|c
  ·have:=h3 r a c;omega
  ·rw[c];exact h2
  ·have:=ho r c b;omega
 ·have:=z p b hp
  have:=h3 s a b
  omega
theorem ZhV {f:Nat->Int}{i:Nat}{A B:List Nat} (hs:ZhU f i (A++B)) (hA:∀q∈A,f q<=f i) (hB:∀q∈B,f i<f q) :
  ZhU f (i+1) (A++[i])/\Zy f (i+1) i (match A.getLast? with|some q=>(q:Int)|none=>-1)/\∀p e,p<i->Zy f i p e->Zy f (i+1) p (if B.head?=some p then (i:Int)else e):=by
 obtain⟨hso,hm⟩:=hs
 have hAB:=List.pairwise_append.mp hso
 have noNx:ZbT f (i+1) i:=λr a b=>by omega
 refine⟨⟨?_,λq=>?_⟩,?_,λp e hp he=>?_⟩
 ·refine List.pairwise_append.mpr ⟨hAB.1,List.pairwise_singleton _ _,λa ha b hb=>?_⟩
  have:b=i:=by simpa using hb
  rw[this]
  exact((hm a).mp (YM _ ha)).1
 ·rw[Yy,Y8]
  constructor
  ·rintro(h|h)
   ·obtain⟨h1,h2⟩:=(hm q).mp (YM _ h)
    refine⟨by omega,λr a b=>?_⟩
    by_cases e:r=i
    ·rw[e];exact hA q h
    ·exact h2 r a (by omega)
   ·subst h;exact⟨by omega,λr a b=>by omega⟩
  ·rintro⟨h1,h2⟩
   by_cases e:q=i
   ·exact .inr e
   ·have hq:q∈A++B:=(hm q).mpr ⟨by omega,λr a b=>h2 r a (by omega)⟩
    rcases Yy.mp hq with h|h
    ·exact .inl h
    ·have:=hB q h
     have:=h2 i (by omega) (by omega)
     omega
 ·-- the elder of i
  rcases Zj2 f i with h|⟨q,h⟩
  ·have hA0:A=[]:=by
    cases A with
    |nil=>rfl
    |cons a r =>
     have h1:=((hm a).mp (by simp)).1
     have:=hA a (by simp)
     have:=h a h1
     omega
   rw[hA0]
   exact .inl ⟨h,noNx,rfl⟩
  ·have ho:∀r,q<r->r<i->f q<=f r:=λr a b=>by have:=h.2.2 r a b;have:=h.2.1;omega
   have hqA:q∈A:=by
    rcases Yy.mp ((hm q).mpr ⟨h.1,ho⟩)with z|z
    ·exact z
    ·have:=hB q z;have:=h.2.1;omega
   have hlast:A.getLast?=some q:=by
    have hne:A≠[]:=λz=>by rw[z]at hqA;cases hqA
    rw[List.getLast?_eq_some_getLast hne]
    congr 1
    have hl:A.getLast hne∈A:=List.getLast_mem hne
    -- q<=last,and last is not past q
    by_cases e:A.getLast hne=q
    ·exact e
    ·exfalso
     have hlt:q<A.getLast hne:=by
      have hd:=List.dropLast_concat_getLast hne
      have hq2:q∈A.dropLast:=by
       rw[<-hd]at hqA
       rcases Yy.mp hqA with z|z
       ·exact z
       ·exact absurd (by simpa using z) (Ne.symm e)
      have hp2:=hAB.1
      rw[<-hd]at hp2
      exact(List.pairwise_append.mp hp2).2.2 q hq2 _ (by simp)
     have h1:=((hm (A.getLast hne)).mp (YM _ hl)).1
     have:=h.2.2 _ hlt h1
     have:=hA _ hl
     omega
   rw[hlast]
   exact .inr (.inl ⟨q,h,noNx,rfl⟩)
 ·-- the elder of an earlier place
  have nxt:∀r,Z5 f i p r->Z5 f (i+1) p r:=λr ⟨a,b,c,d⟩=>⟨a,by omega,c,d⟩
  by_cases hop:ZbT f i p
  ·have hmem:p∈A++B:=(hm p).mpr ⟨hp,hop⟩
   by_cases hlt:f i<f p
   ·have hnx:Z5 f (i+1) p i:=⟨hp,by omega,hlt,λs a b=>hop s a b⟩
    have hpB:p∈B:=by
     rcases Yy.mp hmem with z|z
     ·have:=hA p z;omega
     ·exact z
    obtain⟨b0,Br,rfl⟩:∃b0 Br,B=b0::Br:=by
     cases B with
     |nil=>cases hpB
     |cons b0 Br=>exact⟨b0,Br,rfl⟩
    have hhead:(b0::Br).head?=some b0:=rfl
    rw[hhead]
    rcases Zj2 f p with hn|⟨q,hq⟩
    ·-- nothing ahead: p is the first of all
     have e0:b0=p:=by
      by_cases z:b0=p
      ·exact z
      ·exfalso
       have hpr:p∈Br:=by
        rcases Yk.mp hpB with y|y
        ·exact absurd y.symm z
        ·exact y
       have hlt2:b0<p:=(Ja.mp hAB.2.1).1 p hpr
       have:=((hm b0).mp (by simp)).2 p hlt2 hp
       have:=hn b0 hlt2
       omega
     rw[Ye (by rw[e0])]
     exact .inr (.inr (.inl ⟨i,hn,hnx,rfl⟩))
    ·obtain⟨hq1,hq2⟩:=ZnN hp hop hq
     have hqm:q∈A++b0::Br:=(hm q).mpr ⟨Nat.lt_trans hq.1 hp,hq1⟩
     by_cases hqi:f q<=f i
     ·-- q is kept: p is the first of B
      have e0:b0=p:=by
       by_cases z:b0=p
       ·exact z
       ·exfalso
        have hpr:p∈Br:=by
         rcases Yk.mp hpB with y|y
         ·exact absurd y.symm z
         ·exact y
        have hlt2:b0<p:=(Ja.mp hAB.2.1).1 p hpr
        have hb0:=(hm b0).mp (by simp)
        have hqA:q∈A:=by
         rcases Yy.mp hqm with y|y
         ·exact y
         ·have:=hB q y;omega
        have hqb:q<b0:=hAB.2.2 q hqA b0 (by simp)
        exact hq2 b0 hqb hlt2 hb0.2
      rw[Ye (by rw[e0])]
      refine .inr (.inr (.inr ⟨q,i,hq,hnx,?_⟩))
      rw[Ye hqi]
     ·-- q goes,too: the elder stays
      have hqB:q∈b0::Br:=by
       rcases Yy.mp hqm with y|y
       ·exact absurd (hA q y) hqi
       ·exact y
      have hne:b0≠p:=by
       intro z
       subst z
       rcases Yk.mp hqB with y|y
       ·have:=hq.1;omega
       ·have:=(Ja.mp hAB.2.1).1 q y
        have:=hq.1;omega
      rw[Yd (by intro z;exact hne (YD z))]
      have ee:e=q:=by
       rcases he with⟨h1,_,_⟩|⟨q',h1,_,h3⟩|⟨r,h1,_,_⟩|⟨q',r,_,h2,_⟩
       ·have:=h1 q hq.1;have:=hq.2.1;omega
       ·have:q'=q:=by
         rcases Nat.lt_trichotomy q' q with y|y|y
         ·have:=h1.2.2 q y hq.1;have:=hq.2.1;omega
         ·exact y
         ·have:=hq.2.2 q' y h1.1;have:=h1.2.1;omega
        rw[h3,this]
       ·have:=h1 q hq.1;have:=hq.2.1;omega
       ·have:=hop r h2.1 h2.2.1;have:=h2.2.2.1;omega
      refine .inr (.inr (.inr ⟨q,i,hq,hnx,?_⟩))
      rw[Yd hqi,ee]
   ·-- still open: not of B
    have hnn:ZbT f (i+1) p:=λr a b=>by
     by_cases z:r=i
     ·rw[z];omega
     ·exact hop r a (by omega)
    have hne:B.head?≠some p:=λz=>by
     have:p∈B:=List.mem_of_head? z
     have:=hB p this
     omega
    rw[Yd hne]
    rcases he with⟨h1,_,h3⟩|⟨q,h1,_,h3⟩|⟨r,_,h2,_⟩|⟨q,r,_,h2,_⟩
    ·exact .inl ⟨h1,hnn,h3⟩
    ·exact .inr (.inl ⟨q,h1,hnn,h3⟩)
    ·have:=hop r h2.1 h2.2.1;have:=h2.2.2.1;omega
    ·have:=hop r h2.1 h2.2.1;have:=h2.2.2.1;omega
  ·-- shut already
   have hne:B.head?≠some p:=λz=>hop ((hm p).mp (Yj _ (List.mem_of_head? z))).2
   rw[Yd hne]
   rcases he with⟨_,h2,_⟩|⟨q,_,h2,_⟩|⟨r,h1,h2,h3⟩|⟨q,r,h1,h2,h3⟩
   ·exact absurd h2 hop
   ·exact absurd h2 hop
   ·exact .inr (.inr (.inl ⟨r,h1,nxt r h2,h3⟩))
   ·exact .inr (.inr (.inr ⟨q,r,h1,nxt r h2,h3⟩))
end L2
namespace L2
open PySem PySem.Spec PyProof.Rows PySem.W
theorem ZhW {α β:Type}{f g:α->Option β}:∀{l:List α},(∀x∈l,f x=g x)->l.filterMap f=l.filterMap g
 |[],_=>rfl
 |x::r,h=>by rw[List.filterMap_cons,List.filterMap_cons,h x (Yr ..),ZhW λy hy=>h y (Ys _ hy)]
theorem ZnO (its:List Value) (k:Nat) (hk:k<=its.length) (start:Nat):(its.zipIdx start).filterMap (λxk=>if (decide (((start+k:Nat):Int)<=(xk.2:Int))&&decide ((xk.2:Int)<((start+its.length:Nat):Int))&&(((xk.2:Int)-((start+k:Nat):Int)) % 1==0))=true then none else some xk.1)=its.take k:=by
 induction its generalizing k start with
 |nil=>simp
 |cons x r ih =>
  rw[List.zipIdx_cons,List.filterMap_cons]
  cases k with
  |zero =>
   have h1:(decide (((start+0:Nat):Int)<=(start:Int))&&decide ((start:Int)<((start+(x::r).length:Nat):Int))&&(((start:Int)-((start+0:Nat):Int)) % 1==0))=true:=by
    simp;omega
   simp only[h1,if_true]
   have:=ih 0 (by omega) (start+1)
   rw[List.take_zero]at this⊢
   rw[<-this]
   refine ZhW λxk hxk=>?_
   have hm:=List.mem_zipIdx hxk
   have e1:(decide (((start+0:Nat):Int)<=(xk.2:Int)))=(decide (((start+1+0:Nat):Int)<=(xk.2:Int))):=by
    rw[decide_eq_decide];omega
   have e2:((start+(x::r).length:Nat):Int)=((start+1+r.length:Nat):Int):=by simp;omega
   have e3:(((xk.2:Int)-((start+0:Nat):Int)) % 1==0)=(((xk.2:Int)-((start+1+0:Nat):Int)) % 1==0):=by simp[Int.emod_one]
   rw[e1,e2,e3]
  |succ k =>
   have h1:(decide (((start+(k+1):Nat):Int)<=(start:Int))&&decide ((start:Int)<((start+(x::r).length:Nat):Int))&&(((start:Int)-((start+(k+1):Nat):Int)) % 1==0))=false:=by
    have:decide (((start+(k+1):Nat):Int)<=(start:Int))=false:=YC (by omega)
    rw[this];rfl
   simp only[h1,Bool.false_eq_true,if_false]
   rw[List.take_succ_cons]
   congr 1
   have:=ih k (by simpa using hk) (start+1)
   rw[<-this]
   refine ZhW λxk hxk=>?_
   have e1:((start+(k+1):Nat):Int)=((start+1+k:Nat):Int):=by omega
   have e2:((start+(x::r).length:Nat):Int)=((start+1+r.length:Nat):Int):=by simp;omega
   rw[e1,e2]
section
variable {X:Cx}{e st:Expr}{te ts:TE}{pos pos1 p2:Pos}
noncomputable def ZoP (te ts:TE):TS:=λD σ H=>te σ H λx H1=>ts σ H1 λz H2=>∃(l:Addr) (xs:List V) (k:Nat),x=.ref l/\z=.int k/\H2 l=some (.lst xs)/\k<=xs.length/\D.nx σ (upd H2 l (.lst (xs.take k)))
theorem ZlZ (he:PE X e te) (hs:PE X st ts):PS X (.Delete [.Subscript e (.Slice (some st) none none p2) pos1] pos) (ZoP te ts):=by
 intro pins s σ H D I h
 refine wpAny_Delete (wpAny_deleteEach_cons ?_)
 show wpAny _ _ (eval e X.env >>= λov=>holding [ov] (eval (.Slice (some st) none none p2) X.env) >>= λiv=>(do standAt pos1;holding [ov,iv] (delItem ov iv);release [ov,iv] [])) _ _ _
 refine Ya (thn (he pins s σ H _ I h) λv s1 ⟨x,H1,I1,r1,q1⟩=>?_)
 refine Ya (wpAny_holding ?_)
 refine wpAny_Slice ?_
 rw[evalPart_some]
 refine thn (hs pins s1 σ H1 _ I1 q1) λvs s2 ⟨z,H2,I2,r2,l,xs,k,e1,e2,hx,hk,q⟩=>?_
 subst e1 e2
 obtain⟨tk,rfl⟩:=r2
 cases r1
 rw[evalPart_none]
 refine Yg ?_
 refine Yg ?_
 have I4:Inv X pins σ H2 {s2 with heap:=s2.heap.push {cls:=.type "slice",data:=.fields #[.int k tk,.none,.none]}}:=I2.kept (t':=s2.toks) λb ob q=>Yo _ q
 have hsl:({s2 with heap:=s2.heap.push {cls:=.type "slice",data:=.fields #[.int k tk,.none,.none]}}:Shared).heap.get? s2.heap.objs.size=some {cls:=.type "slice",data:=.fields #[.int k tk,.none,.none]}:=YE _ rfl
 obtain⟨z,its,n,r,hlen,hob⟩:=I4.ZkP hx
 generalize ({s2 with heap:=s2.heap.push {cls:=.type "slice",data:=.fields #[.int k tk,.none,.none]}}:Shared)=s4 at I4 hsl hob⊢
 have hT:s4.TypeIs (.ref l) "list":=⟨_,hob,rfl⟩
 have hTs:s4.TypeIs (.ref s2.heap.objs.size) "slice":=⟨_,hsl,rfl⟩
 refine Ya (wpAny_standAt (Ya (wpAny_holding ?_)))
 refine wpAny_delItem_slot hT (by decide) F.slot_list_delitem (wpAny_call_entry F.slot_list_delitem hT F.entry_list_delitem ?_ (F.args_list_delitem_2 _ _))
 show wpAny _ _ (Builtin.List.listSubscript? (.ref s2.heap.objs.size) >>= _) _ _ s4
 refine Ya ?_;unfold Builtin.List.listSubscript?;refine Ya (wpAny_specialOf hTs slice_no_index ?_)
 simp only[Option.isNone_none,if_true];refine Yg ?_
 show wpAny _ _ (typeOf (.ref s2.heap.objs.size) >>= _) _ _ s4
 refine Ya (wpAny_typeOf hTs ?_);rw[Yd (by decide),listSliceParts_eq]
 refine Ya (Ya (wpAny_field hsl rfl (x:=.none) rfl (Ya (wpAny_listPart (k:=none) .none ?_))));rw[Yd (show ¬ ((rawPart none==rawInt 0)=true)from YJ)]
 refine Ya (wpAny_field hsl rfl (x:=.int k tk) rfl (Ya (wpAny_listPart (.int (k:Int) tk) ?_)))
 refine Ya (wpAny_field hsl rfl (x:=.none) rfl (Ya (wpAny_listPart (k:=none) .none (Yg ?_))))
 refine Ya (m:=Builtin.List.listItems (.ref l)) ?_;unfold Builtin.List.listItems
 refine Ya (wpAny_seqItems hob rfl (Yg ?_));refine Ya (wpAny_of_eq (sliceIndices_raw (some (k:Int)) none none its.toArray.size (by simp)) (Ya (wpAny_rule ?_)))
 have hb:sliceBounds (some (k:Int)) none none its.toArray.size=((k:Int),((its.length:Nat):Int),1):=by
  unfold sliceBounds
  simp
  omega
 rw[hb]
 have hf:∀f:Array Value->Array Value,(∀ys:Array Value,f ys=(ys.toList.zipIdx.filterMap λxk=>if (decide ((k:Int)<=(xk.2:Int))&&decide ((xk.2:Int)<((its.length:Nat):Int))&&(((xk.2:Int)-(k:Int)) % 1==0))=true then none else some xk.1).toArray)->f its.toArray=(its.take k).toArray:=λf h=>by
  rw[h]
  congr 1
  have:=ZnO its k (by omega) 0
  simpa using this
 refine Ya (m:=updateSeq l _) ?_
 refine wpAny_updateSeq (n:=n) hob rfl ?_ (by rw[Yn];omega) ?_
 ·refine Ya (wpAny_letGo (Yg ⟨_,rfl,?_⟩))
  refine wpAny_release (wpAny_deleteEach_nil ⟨σ,_,I4.lset hx hob (hf _ λys=>rfl) (r.ZoO k) ?_,q⟩)
  rw[Y7];omega
 ·rw[Yn]
  refine Ym (List.length_filterMap_le _ _) ?_
  rw[List.length_zipIdx]
  show its.length<=sizeLine+1
  omega
end
theorem Z9.unique {f:Nat->Int}{p q q':Nat} (h:Z9 f p q) (k:Z9 f p q'):q=q':=by
 rcases Nat.lt_trichotomy q q' with z|z|z
 ·have:=h.2.2 q' z k.1;have:=k.2.1;omega
 ·exact z
 ·have:=k.2.2 q z h.1;have:=h.2.1;omega
theorem Z5.unique {f:Nat->Int}{n p r r':Nat} (h:Z5 f n p r) (k:Z5 f n p r'):r=r':=by
 rcases Nat.lt_trichotomy r r' with z|z|z
 ·have:=k.2.2.2 r h.1 z;have:=h.2.2.1;omega
 ·exact z
 ·have:=h.2.2.2 r' k.1 z;have:=k.2.2.1;omega
theorem Z9.no {f:Nat->Int}{p q:Nat} (h:Z9 f p q) (k:ZcY f p):False:=by have:=k q h.1;have:=h.2.1;omega
theorem Z5.no {f:Nat->Int}{n p r:Nat} (h:Z5 f n p r) (k:ZbT f n p):False:=by have:=k r h.1 h.2.1;have:=h.2.2.1;omega
theorem Zy.unique {f:Nat->Int}{n p:Nat}{e e':Int} (h:Zy f n p e) (k:Zy f n p e'):e=e':=by
 rcases h with⟨h1,h2,h3⟩|⟨q,h1,h2,h3⟩|⟨r,h1,h2,h3⟩|⟨q,r,h1,h2,h3⟩ <;>
 rcases k with⟨k1,k2,k3⟩|⟨q',k1,k2,k3⟩|⟨r',k1,k2,k3⟩|⟨q',r',k1,k2,k3⟩
 ·rw[h3,k3]
 ·exact(k1.no h1).elim
 ·exact(k2.no h2).elim
 ·exact(k1.no h1).elim
 ·exact(h1.no k1).elim
 ·rw[h3,k3,h1.unique k1]
 ·exact(h1.no k1).elim
 ·exact(k2.no h2).elim
 ·exact(h2.no k2).elim
 ·exact(k1.no h1).elim
 ·rw[h3,k3,h2.unique k2]
 ·exact(k1.no h1).elim
 ·exact(h1.no k1).elim
 ·exact(h2.no k2).elim
 ·exact(h1.no k1).elim
 ·rw[h3,k3,h1.unique k1,h2.unique k2]
noncomputable def Zs (ns:List Int) (es:List Int):Prop:=es.length=ns.length/\∀p,p<ns.length->Zy (nth ns) ns.length p (es.getD p 0)
theorem Zs.unique {ns es es':List Int} (h:Zs ns es) (k:Zs ns es'):es=es':=by
 refine List.ext_getElem (by rw[h.1,k.1]) λj h1 h2=>?_
 have hj:j<ns.length:=by rw[<-h.1];exact h1
 have:=(h.2 j hj).unique (k.2 j hj)
 simpa[Yi,h1,h2]using this
theorem ZeD {f:Nat->Int}{n p:Nat} (hp:p<n):Zy f n p
  (match ((List.range p).filter λq=>decide (f q<=f p)).getLast?,((List.range (n-(p+1))).filter λj=>decide (f (p+1+j)<f p)).head? with
   |none,none=>-1
   |none,some j=>((p+1+j:Nat):Int)
   |some q,none=>q
   |some q,some j=>if f q<=f (p+1+j)then ((p+1+j:Nat):Int)else q):=by
 have hA:(((List.range p).filter λq=>decide (f q<=f p)).getLast?=none/\ZcY f p)\/∃q,((List.range p).filter λq=>decide (f q<=f p)).getLast?=some q/\Z9 f p q:=by
  induction p with
  |zero=>exact .inl ⟨rfl,λq hq=>by omega⟩
  |succ p _ =>
   generalize p+1=P
   have key:∀m,m<=P->(((List.range m).filter λq=>decide (f q<=f P)).getLast?=none/\∀q,q<m->f P<f q)\/∃q,((List.range m).filter λq=>decide (f q<=f P)).getLast?=some q/\q<m/\f q<=f P/\∀r,q<r->r<m->f P<f r:=by
    intro m
    induction m with
    |zero=>intro _;exact .inl ⟨rfl,λq hq=>by omega⟩
    |succ m ih =>
     intro hm
     rw[YY,List.filter_append]
     by_cases hle:f m<=f P
     ·refine .inr ⟨m,?_,by omega,hle,λr r1 r2=>by omega⟩
      simp[hle]
     ·have e:List.filter (λq=>decide (f q<=f P)) [m]=[]:=by simp[hle]
      rw[e,List.append_nil]
      rcases ih (by omega)with⟨i1,i2⟩|⟨q,i1,i2,i3,i4⟩
      ·refine .inl ⟨i1,λq hq=>?_⟩
       by_cases z:q=m
       ·rw[z];omega
       ·exact i2 q (by omega)
      ·refine .inr ⟨q,i1,by omega,i3,λr r1 r2=>?_⟩
       by_cases z:r=m
       ·rw[z];omega
       ·exact i4 r r1 (by omega)
   rcases key P (Yc _)with⟨i1,i2⟩|⟨q,i1,i2,i3,i4⟩
   ·exact .inl ⟨i1,i2⟩
   ·exact .inr ⟨q,i1,i2,i3,i4⟩
 have hB:(((List.range (n-(p+1))).filter λj=>decide (f (p+1+j)<f p)).head?=none/\ZbT f n p)\/∃j,((List.range (n-(p+1))).filter λj=>decide (f (p+1+j)<f p)).head?=some j/\Z5 f n p (p+1+j):=by
  have key:∀m,(((List.range m).filter λj=>decide (f (p+1+j)<f p)).head?=none/\∀j,j<m->f p<=f (p+1+j))\/∃j,((List.range m).filter λj=>decide (f (p+1+j)<f p)).head?=some j/\j<m/\f (p+1+j)<f p/\∀i,i<j->f p<=f (p+1+i):=by
   intro m
   induction m with
   |zero=>exact .inl ⟨rfl,λq hq=>by omega⟩
   |succ m ih =>
    rw[YY,List.filter_append]
    rcases ih with⟨i1,i2⟩|⟨j,i1,i2,i3,i4⟩
    ·have e0:List.filter (λj=>decide (f (p+1+j)<f p)) (List.range m)=[]:=List.head?_eq_none_iff.mp i1
     rw[e0,List.nil_append]
     by_cases hlt:f (p+1+m)<f p
     ·refine .inr ⟨m,by simp[hlt],by omega,hlt,λi hi=>i2 i hi⟩
     ·refine .inl ⟨by simp[hlt],λj hj=>?_⟩
      by_cases z:j=m
      ·rw[z];omega
      ·exact i2 j (by omega)
    ·refine .inr ⟨j,?_,by omega,i3,i4⟩
     rw[List.head?_append,i1];rfl
  rcases key (n-(p+1))with⟨i1,i2⟩|⟨j,i1,i2,i3,i4⟩
  ·refine .inl ⟨i1,λr r1 r2=>?_⟩
   have:=i2 (r-(p+1)) (by omega)
   have e:p+1+(r-(p+1))=r:=by omega
   rw[e]at this;exact this
  ·refine .inr ⟨j,i1,by omega,by omega,i3,λs s1 s2=>?_⟩
   have:=i4 (s-(p+1)) (by omega)
   have e:p+1+(s-(p+1))=s:=by omega
   rw[e]at this;exact this
 rcases hA with⟨a1,a2⟩|⟨q,a1,a2⟩<;>rcases hB with⟨b1,b2⟩|⟨j,b1,b2⟩<;>rw[a1,b1]
 ·exact .inl ⟨a2,b2,rfl⟩
 ·exact .inr (.inr (.inl ⟨_,a2,b2,rfl⟩))
 ·exact .inr (.inl ⟨_,a2,b2,rfl⟩)
 ·exact .inr (.inr (.inr ⟨_,_,a2,b2,rfl⟩))
theorem Zq5 {c:TT}{tb:TS}{D:Ends}{σ:St}{H:Hp} (Pv:Nat->St->Hp->Prop) (m0:Nat) (h0:Pv m0 σ H)
  (hs:∀m σ H,Pv m σ H->c σ H λb H1=>if b=true then ∃Nx:St->Hp->Prop,(∀σ' H',Nx σ' H'->∃m',m'<m/\Pv m' σ' H')/\tb {D with nx:=Nx,ct:=Nx,bk:=D.nx} σ H1 else D.nx σ H1):ZlV c tb D σ H:=⟨Pv,⟨m0,h0⟩,hs⟩
end L2
namespace L2
noncomputable def Over (f:Nat->Int) (o p:Nat):Prop:=(o<p/\∀r,o<r->r<=p->f o<=f r)\/(p<o/\∀r,p<=r->r<o->f o<f r)
theorem Over.irrefl {f:Nat->Int}{p:Nat}:¬ Over f p p:=by rintro(⟨h,_⟩|⟨h,_⟩)<;>omega
theorem Over.trans {f:Nat->Int}{o e p:Nat} (h:Over f o e) (k:Over f e p):Over f o p:=by
 rcases h with⟨h1,h2⟩|⟨h1,h2⟩<;>rcases k with⟨k1,k2⟩|⟨k1,k2⟩
 ·refine .inl ⟨by omega,λr r1 r2=>?_⟩
  by_cases z:r<=e
  ·exact h2 r r1 z
  ·have:=k2 r (by omega) r2;have:=h2 e h1 (Yc _);omega
 ·have he:=h2 e h1 (Yc _)
  rcases Nat.lt_trichotomy o p with z|z|z
  ·exact .inl ⟨z,λr r1 r2=>h2 r r1 (by omega)⟩
  ·have:=k2 p (Yc _) k1;subst z;omega
  ·exact .inr ⟨z,λr r1 r2=>by have:=k2 r r1 (by omega);omega⟩
 ·have he:=h2 e (Yc _) h1
  rcases Nat.lt_trichotomy o p with z|z|z
  ·exact .inl ⟨z,λr r1 r2=>by have:=k2 r (by omega) r2;omega⟩
  ·have:=k2 p k1 (Yc _);subst z;omega
  ·exact .inr ⟨z,λr r1 r2=>h2 r (by omega) r2⟩
 ·refine .inr ⟨by omega,λr r1 r2=>?_⟩
  by_cases z:r<e
  ·have:=k2 r r1 z;have:=h2 e (Yc _) h1;omega
  ·exact h2 r (by omega) r2
theorem Zcj {f:Nat->Int}{n p:Nat}{e:Int} (hp:p<n) (h:Zy f n p e):e=-1\/∃q:Nat,e=q/\q<n/\Over f q p:=by
 have pv:∀q,Z9 f p q->Over f q p:=λq h=>.inl ⟨h.1,λr r1 r2=>by
  by_cases z:r=p
  ·rw[z];exact h.2.1
  ·have:=h.2.2 r r1 (by omega);have:=h.2.1;omega⟩
 have nx:∀q,Z5 f n p q->Over f q p:=λq h=>.inr ⟨h.1,λr r1 r2=>by
  by_cases z:r=p
  ·rw[z];exact h.2.2.1
  ·have:=h.2.2.2 r (by omega) r2;have:=h.2.2.1;omega⟩
 rcases h with⟨_,_,h⟩|⟨q,h1,_,h⟩|⟨r,_,h1,h⟩|⟨q,r,h1,h2,h⟩
 ·exact .inl h
 ·exact .inr ⟨q,h,by have:=h1.1;omega,pv q h1⟩
 ·exact .inr ⟨r,h,h1.2.1,nx r h1⟩
 ·by_cases z:f q<=f r
  ·rw[Ye z]at h;exact .inr ⟨r,h,h2.2.1,nx r h2⟩
  ·rw[Yd z]at h;exact .inr ⟨q,h,by have:=h1.1;omega,pv q h1⟩
theorem Zjj {f:Nat->Int}{n p o:Nat}{e:Int} (hp:p<n) (ho:o<n) (h:Zy f n p e) (hO:Over f o p):∃q:Nat,e=q/\q<n/\(o=q\/Over f o q):=by
 rcases hO with⟨o1,o2⟩|⟨o1,o2⟩
 ·have op:=o2 p o1 (Yc _)
  have pv:∀q,Z9 f p q->o=q\/(o<q/\Over f o q/\f o<=f q):=λq h=>by
   rcases Nat.lt_trichotomy o q with z|z|z
   ·have:=h.1;exact .inr ⟨z,.inl ⟨z,λr r1 r2=>o2 r r1 (by omega)⟩,o2 q z (by omega)⟩
   ·exact .inl z
   ·have:=h.2.2 o z o1;omega
  rcases h with⟨h1,_,h⟩|⟨q,h1,_,h⟩|⟨r,h1,_,h⟩|⟨q,r,h1,h2,h⟩
  ·have:=h1 o o1;omega
  ·refine⟨q,h,by have:=h1.1;omega,?_⟩
   rcases pv q h1 with z|z
   ·exact .inl z
   ·exact .inr z.2.1
  ·have:=h1 o o1;omega
  ·by_cases z:f q<=f r
   ·rw[Ye z]at h
    refine⟨r,h,h2.2.1,.inr (.inl ⟨by have:=h2.1;omega,λs s1 s2=>?_⟩)⟩
    by_cases sp:s<=p
    ·exact o2 s s1 sp
    ·by_cases sr:s=r
     ·rw[sr]
      rcases pv q h1 with y|y
      ·rw[y];exact z
      ·have:=y.2.2;omega
     ·have:=h2.2.2.2 s (by omega) (by omega);omega
   ·rw[Yd z]at h
    refine⟨q,h,by have:=h1.1;omega,?_⟩
    rcases pv q h1 with z|z
    ·exact .inl z
    ·exact .inr z.2.1
 ·have op:=o2 p (Yc _) o1
  have nx:∀r,Z5 f n p r->o=r\/(r<o/\Over f o r/\f o<f r):=λr h=>by
   rcases Nat.lt_trichotomy o r with z|z|z
   ·have:=h.2.2.2 o o1 z;omega
   ·exact .inl z
   ·have:=h.1;exact .inr ⟨z,.inr ⟨z,λs s1 s2=>o2 s (by omega) s2⟩,o2 r (by omega) z⟩
  rcases h with⟨_,h1,h⟩|⟨q,_,h1,h⟩|⟨r,_,h1,h⟩|⟨q,r,h1,h2,h⟩
  ·have:=h1 o o1 ho;omega
  ·have:=h1 o o1 ho;omega
  ·refine⟨r,h,h1.2.1,?_⟩
   rcases nx r h1 with z|z
   ·exact .inl z
   ·exact .inr z.2.1
  ·by_cases z:f q<=f r
   ·rw[Ye z]at h
    refine⟨r,h,h2.2.1,?_⟩
    rcases nx r h2 with z|z
    ·exact .inl z
    ·exact .inr z.2.1
   ·rw[Yd z]at h
    refine⟨q,h,by have:=h1.1;omega,.inr (.inr ⟨by have:=h1.1;omega,λs s1 s2=>?_⟩)⟩
    by_cases sp:p<=s
    ·exact o2 s sp s2
    ·by_cases sq:s=q
     ·rw[sq]
      rcases nx r h2 with y|y
      ·rw[y];omega
      ·have:=y.2.2;omega
     ·have:=h1.2.2 s (by omega) (by omega);omega
theorem ZbQ {f:Nat->Int}{n p o q:Nat} (hp:p<n) (ho:o<n) (h:Zy f n p (q:Int)):Over f o p↔o=q\/Over f o q:=by
 refine⟨λk=>?_,λk=>?_⟩
 ·obtain⟨q',e,_,z⟩:=Zjj hp ho h k
  have:q'=q:=by omega
  rw[this]at z;exact z
 ·rcases Zcj hp h with z|⟨q',e,_,z⟩
  ·omega
  ·have:q'=q:=by omega
   rw[this]at z
   rcases k with k|k
   ·rw[k];exact z
   ·exact k.trans z
theorem Zjk {f:Nat->Int}{n p o:Nat} (hp:p<n) (ho:o<n) (h:Zy f n p (-1)):¬ Over f o p:=λk=>by
 obtain⟨q',e,_,z⟩:=Zjj hp ho h k
 omega
theorem ZhX {P Q:Nat->Bool}:∀n,(∀o,o<n->P o=Q o)->(List.range n).countP P=(List.range n).countP Q
 |0,_=>rfl
 |n+1,h=>by
  rw[YY,List.countP_append,List.countP_append,ZhX n (λo ho=>h o (by omega))]
  simp[List.countP_cons,h n (by omega)]
theorem ZfH {P Q:Nat->Bool}{e:Nat}:∀n,e<n->(∀o,o<n->(P o=true↔o=e\/Q o=true))->Q e=false->(List.range n).countP P=(List.range n).countP Q+1
 |0,h,_,_=>by omega
 |n+1,h,hi,hq=>by
  rw[YY,List.countP_append,List.countP_append]
  by_cases z:e=n
  ·have e1:(List.range n).countP P=(List.range n).countP Q:=ZhX n λo ho=>by
    have:=hi o (by omega)
    cases hP:P o<;>cases hQ:Q o<;>simp[hP,hQ]at this<;>first|rfl|omega
   have hPn:P n=true:=(hi n (by omega)).mpr (.inl z.symm)
   rw[z]at hq
   rw[e1];simp[List.countP_cons,hPn,hq]
  ·rw[ZfH n (by omega) (λo ho=>hi o (by omega)) hq]
   have:=hi n (by omega)
   have hn:P n=Q n:=by
    cases hP:P n<;>cases hQ:Q n<;>simp[hP,hQ]at this<;>first|rfl|omega
   simp[List.countP_cons,hn];omega
theorem ZoQ {P:Nat->Bool}{e n:Nat} (he:e<n) (h:P e=false):(List.range n).countP P<n:=by
 have h1:=ZfH (P:=λo=>decide (o=e)||P o) (Q:=P) n he (λo _=>by simp) h
 have h2:=List.countP_le_length (p:=λo=>decide (o=e)||P o) (l:=List.range n)
 rw[h1,YS]at h2
 omega
noncomputable def Z6 (T:List Int):Nat->Int->List Nat
 |0,_=>[]
 |k+1,at_=>if 0<=at_/\at_<T.length then at_.toNat::Z6 T k (nth T at_.toNat)else []
open Classical in
noncomputable def dep (f:Nat->Int) (n p:Nat):Nat:=(List.range n).countP λo=>decide (Over f o p)
theorem Zl0 {f:Nat->Int}{n p:Nat} (hp:p<n):dep f n p<n:=by
 classical
 exact ZoQ hp (by simpa using Over.irrefl)
theorem ZgL {f:Nat->Int}{n p q:Nat} (hp:p<n) (h:Zy f n p (q:Int)):dep f n p=dep f n q+1:=by
 classical
 have hq:q<n:=by
  rcases Zcj hp h with z|⟨q',e,z,_⟩<;>omega
 exact ZfH n hq (λo ho=>by simpa using ZbQ hp ho h) (by simpa using Over.irrefl)
theorem Zq6 {f:Nat->Int}{n p:Nat} (hp:p<n) (h:Zy f n p (-1)):dep f n p=0:=by
 classical
 unfold dep
 rw[List.countP_eq_zero]
 intro o ho
 simpa using Zjk hp (by simpa using ho) h
theorem ZhY {ns T:List Int} (hT:Zs ns T):∀k p,p<ns.length->dep (nth ns) ns.length p<=k->(∀o,o∈Z6 T k (nth T p)↔o<ns.length/\Over (nth ns) o p)/\(Z6 T k (nth T p)).length=dep (nth ns) ns.length p
 |k,p,hp,hk=>by
  have hE:Zy (nth ns) ns.length p (nth T p):=hT.2 p hp
  rcases Zcj hp hE with z|⟨q,e,hq,hO⟩
  ·have e0:Z6 T k (nth T p)=[]:=by
    cases k with
    |zero=>rfl
    |succ k=>rw[Z6,Yd (by omega)]
   rw[e0]
   rw[z]at hE
   exact⟨λo=>⟨λh=>by simp at h,λh=>absurd h.2 (Zjk hp h.1 hE)⟩,by rw[Zq6 hp hE];rfl⟩
  ·rw[e]at hE
   have hd:=ZgL hp hE
   obtain⟨k',rfl⟩:∃k',k=k'+1:=⟨k-1,by omega⟩
   have ih:=ZhY hT k' q hq (by omega)
   have eT:((q:Nat):Int).toNat=q:=by omega
   rw[Z6,e,Ye ⟨by omega,by rw[hT.1];omega⟩,eT]
   refine⟨λo=>?_,by simp[ih.2,hd]⟩
   rw[Yk,ih.1 o]
   refine⟨λh=>?_,λh=>?_⟩
   ·rcases h with h|h
    ·rw[h];exact⟨hq,hO⟩
    ·exact⟨h.1,h.2.trans hO⟩
   ·rcases(ZbQ hp h.1 hE).mp h.2 with z|z
    ·exact .inl z
    ·exact .inr ⟨h.1,z⟩
end L2
namespace L2
open PySem PySem.Spec PyProof.Rows PySem.W
noncomputable def Zfq (es:List Int) (A B:List Nat) (i:Nat):List Int:=match A.getLast? with
 |some q=>(match B.head? with|some b=>es.set b i|none=>es).set i (q:Int)
 |none=>match B.head? with|some b=>es.set b i|none=>es
noncomputable def ZC (l:List Nat):List V:=l.map λq=>V.int (q:Nat)
theorem ZbR (l:List Int) (a p:Nat) (v:Int) (h:p<l.length):(l.set a v).getD p 0=if a=p then v else l.getD p 0:=by
 rw[Yi,Yi]
 by_cases e:a=p
 ·subst e;rw[Ye rfl,List.getElem?_set_self h];rfl
 ·rw[Yd e,List.getElem?_set_ne e]
theorem Zk0 (es:List Int) (A B:List Nat) (i:Nat):(Zfq es A B i).length=es.length:=by
 unfold Zfq
 cases A.getLast?<;>cases B.head?<;>simp
theorem ZhB (es:List Int) (A B:List Nat) (i p:Nat) (hp:p<es.length) (hb:∀b,B.head?=some b->b≠i):(Zfq es A B i).getD p 0=if p=i then (match A.getLast? with|some q=>(q:Int)|none=>es.getD i 0)else if B.head?=some p then (i:Int)else es.getD p 0:=by
 unfold Zfq
 cases hA:A.getLast? with
 |none =>
  cases hB:B.head? with
  |none =>
   by_cases e:p=i
   ·rw[Ye e,e]
   ·rw[Yd e,Yd (by simp)]
  |some b =>
   show(es.set b i).getD p 0=_
   rw[ZbR _ _ _ _ hp]
   by_cases e:p=i
   ·rw[Ye e,Yd (by rw[e];exact hb b hB),e]
   ·rw[Yd e]
    by_cases e2:b=p
    ·rw[Ye e2,Ye (by rw[e2])]
    ·rw[Yd e2,Yd (by intro z;exact e2 (YD z))]
 |some q =>
  cases hB:B.head? with
  |none =>
   show(es.set i q).getD p 0=_
   rw[ZbR _ _ _ _ hp]
   by_cases e:p=i
   ·rw[Ye e,Ye e.symm]
   ·rw[Yd e,Yd (λz=>e z.symm),Yd (by simp)]
  |some b =>
   show((es.set b i).set i q).getD p 0=_
   rw[ZbR _ _ _ _ (by simpa using hp),ZbR _ _ _ _ hp]
   by_cases e:p=i
   ·rw[Ye e,Ye e.symm]
   ·rw[Yd e,Yd (λz=>e z.symm)]
    by_cases e2:b=p
    ·rw[Ye e2,Ye (by rw[e2])]
    ·rw[Yd e2,Yd (by intro z;exact e2 (YD z))]
theorem ZoR:∀(l:List Nat) (i lo:Nat),l.Pairwise (· < ·)->(∀q∈l,lo<=q/\q<i)->l.length+lo<=i\/l=[]
 |[],_,_,_,_=>.inr rfl
 |q::r,i,lo,h,hq=>by
  have h1:=hq q (by simp)
  have hr:=Ja.mp h
  rcases ZoR r i (q+1) hr.2 (λx hx=>⟨hr.1 x hx,(hq x (by simp[hx])).2⟩)with z|z
  ·left;simp;omega
  ·left;rw[z];simp;omega
theorem ZT (l:List Nat):(ZC l).length=l.length:=by simp[ZC]
theorem Zdy (a b:List Nat):ZC (a++b)=ZC a++ZC b:=by simp[ZC]
theorem Zgc {l:List Nat}{j q:Nat} (h:l[j]?=some q):atI (ZC l) (j:Int)=some (V.int (q:Nat)):=by
 have hj:=(Yh.mp h).1
 have e:=(Yh.mp h).2
 rw[ZeC rfl (by rw[ZT];exact hj)]
 simp[ZC,e]
theorem Zfg {n j:Nat} (h:j<n):ixN n (j:Int)=some j:=by
 unfold ixN
 rw[Ye (by omega),Ye (by omega)];simp
noncomputable def ZnP (T:List Int) (p:Nat):List Int:=(Z6 T T.length (nth T p)).map λq=>((q:Nat):Int)
noncomputable def Zdz (T:List Int):Prop:=T.length<=40/\∃ns,Zs ns T
theorem Zk1 (T:List Int):∀k a,(Z6 T k a).length<=k
 |0,_=>by simp[Z6]
 |k+1,a=>by
  rw[Z6]
  split
  ·have:=Zk1 T k (nth T a.toNat);simp;omega
  ·simp
noncomputable def ZaM (T:List Int):Nat->Int->Int
 |0,a=>a
 |j+1,a=>if 0<=a/\a<T.length then ZaM T j (nth T a.toNat)else a
theorem Zjl (T:List Int):∀j a,0<=ZaM T j a->ZaM T j a<T.length->(Z6 T j a).length=j->Z6 T (j+1) a=Z6 T j a++[(ZaM T j a).toNat]/\ZaM T (j+1) a=nth T (ZaM T j a).toNat
 |0,a,h0,h1,_=>by
  have h0':0<=a:=h0
  have h1':a<T.length:=h1
  constructor
  ·simp[Z6,ZaM,h0',h1']
  ·simp[ZaM,h0',h1']
 |j+1,a,h0,h1,hl=>by
  rw[Z6]at hl
  by_cases z:0<=a/\a<T.length
  ·rw[Ye z]at hl
   have e1:ZaM T (j+1) a=ZaM T j (nth T a.toNat):=by rw[ZaM,Ye z]
   rw[e1]at h0 h1
   have ih:=Zjl T j (nth T a.toNat) h0 h1 (by simpa using hl)
   constructor
   ·rw[Z6,Ye z,ih.1,Z6.eq_def T (j+1) a]
    simp only[Ye z,e1];simp
   ·rw[ZaM,Ye z,ih.2,e1]
  ·rw[Yd z]at hl;simp at hl
theorem Zjm (T:List Int):∀j k a,j<=k->(Z6 T j a).length=j->¬ (0<=ZaM T j a/\ZaM T j a<T.length)->Z6 T k a=Z6 T j a
 |0,k,a,_,_,h=>by
  have h':¬ (0<=a/\a<T.length):=h
  cases k with
  |zero=>rfl
  |succ k=>rw[show Z6 T 0 a=[]from rfl,Z6,Yd h']
 |j+1,k,a,hk,hl,h=>by
  rw[Z6]at hl
  by_cases z:0<=a/\a<T.length
  ·rw[Ye z]at hl
   rw[ZaM,Ye z]at h
   obtain⟨k',rfl⟩:∃k',k=k'+1:=⟨k-1,by omega⟩
   rw[Z6,Ye z,Zjm T j k' _ (by omega) (by simpa using hl) h,Z6,Ye z]
  ·rw[Yd z]at hl;simp at hl
section
variable {X:Cx}
theorem op_inK {K:Frag} (hK:X.K=K):OpR X (compareOp .In) (rIn K false):=hK▸ZnC
end
theorem ZnQ (xs:List Int):(xs.map V.int).all flatV=true:=by
 induction xs with
 |nil=>rfl
 |cons x r ih=>rw[YT,List.all_cons,ih];rfl
theorem Zq7 (x:Int) (xs:List Int):inV (.int x) (xs.map V.int)=decide (x∈xs):=by
 induction xs with
 |nil=>rfl
 |cons y r ih =>
  have:inV (.int x) ((y::r).map V.int)=(decide (y=x)||inV (.int x) (r.map V.int)):=rfl
  rw[this,ih]
  by_cases z:y=x
  ·simp[z]
  ·have:¬ x=y:=λh=>z h.symm
   simp[z,this]
theorem ZY {a b:TS}{D:Ends}{σ:St}{H:Hp} (Mid:St->Hp->Prop) (h1:∀R:St->Hp->Prop,(∀σ' H',Mid σ' H'->R σ' H')->a {D with nx:=R} σ H) (h2:∀σ' H',Mid σ' H'->b D σ' H'):tSeq a b D σ H:=h1 _ h2
theorem cut_to (xs:List V) (j:Nat):Zfo xs none (some (j:Int))=xs.take j:=by
 have h:¬ ((j:Int)<0):=by omega
 unfold Zfo HT.sIx
 simp only[Yd h,List.drop_zero,Nat.sub_zero]
 rw[List.take_eq_take_iff]
 omega
end L2
namespace L2
open PySem PySem.Spec PyProof.Rows
structure CellsOf (cl:List (Str×Addr)) (n0:Nat) (cs:List (Str×Addr)) (h0 h:Heap) (done:List (Str×NameKind)):Prop where
 old:∀b o,h0.get? b=some o->h.get? b=some o
 sz:n0<=h.objs.size
 mem:∀p∈cs,p∈cl\/(n0<=p.2/\p.2<h.objs.size/\h.IsCell p.2 none)
 inj:∀p∈cs,∀q∈cs,n0<=p.2->p.2=q.2->p.1=q.1
 own:∀y∈done,y.2=.cell->∃c,cs.lookup y.1=some c/\n0<=c
 oth:∀x,(∀y∈done,y.2=.cell->y.1≠x)->cs.lookup x=cl.lookup x
theorem ZgM {M:Model}{A:Around}{E:Value->Shared->Prop}{cl:List (Str×Addr)}{n0:Nat}{h0:Heap} (hcl:∀p∈cl,p.2<n0):∀(names:List (Str×NameKind)) (cs:List (Str×Addr)) (done:List (Str×NameKind)) (s:Shared),CellsOf cl n0 cs h0 s.heap done ->
  wpAny M A (forIn names cs λ(x:Str×NameKind) (r:List (Str×Addr))=>(match x with
   |(name,kind)=>if (kind==NameKind.cell)=true then do
     let a <-alloc {cls:=.type "cell",data:=.cell none}
     pure (ForInStep.yield ((name,a)::r))
    else pure (ForInStep.yield r):Sem (ForInStep (List (Str×Addr))))) (λcs' s'=>∃h',s'={s with heap:=h'}/\CellsOf cl n0 cs' h0 h' (done++names)) E s
 |[],cs,done,s,I=>by
  rw[List.forIn_nil,List.append_nil]
  exact Yg ⟨s.heap,rfl,I⟩
 |(n,k)::r,cs,done,s,I=>by
  rw[List.forIn_cons]
  by_cases hk:k=.cell
  ·subst hk
   simp only[beq_self_eq_true,if_true]
   refine Ya (Ya (wpAny_alloc (Yg ?_)))
   have hget:(s.heap.push {cls:=.type "cell",data:=.cell none}).get? s.heap.objs.size=some {cls:=.type "cell",data:=.cell none}:=YE _ rfl
   have I':CellsOf cl n0 ((n,s.heap.objs.size)::cs) h0 (s.heap.push {cls:=.type "cell",data:=.cell none}) (done++[(n,.cell)]):=by
    refine⟨λb o e=>Yo _ (I.old b o e),by rw[Heap.size_push];exact Nat.le_succ_of_le I.sz,λp hp=>?_,λp hp q hq hn e=>?_,λy hy hc=>?_,λx hx=>?_⟩
    ·rcases Yk.mp hp with z|z
     ·subst z
      exact .inr ⟨I.sz,by rw[Heap.size_push];exact Nat.lt_succ_self _,_,hget,rfl⟩
     ·rcases I.mem p z with w|⟨w1,w2,o,w3,w4⟩
      ·exact .inl w
      ·exact .inr ⟨w1,by rw[Heap.size_push];exact YR w2,o,Yo _ w3,w4⟩
    ·have lt:∀p∈cs,p.2<s.heap.objs.size:=λp hp=>by
      rcases I.mem p hp with w|w
      ·exact Yw (hcl p w) I.sz
      ·exact w.2.1
     rcases Yk.mp hp with z|z<;>rcases Yk.mp hq with z'|z'
     ·rw[z,z']
     ·subst z;exact absurd (show s.heap.objs.size<s.heap.objs.size from(show s.heap.objs.size=q.2 from e)▸lt q z') (Yu _)
     ·subst z';exact absurd (show s.heap.objs.size<s.heap.objs.size from(show p.2=s.heap.objs.size from e)▸lt p z) (Yu _)
     ·exact I.inj p z q z' hn e
    ·rcases Yy.mp hy with z|z
     ·obtain⟨c,e1,e2⟩:=I.own y z hc
      by_cases hx:y.1=n
      ·exact⟨s.heap.objs.size,by rw[hx];simp,I.sz⟩
      ·have hb:(y.1==n)=false:=by simpa using hx
       exact⟨c,by simp only[List.lookup_cons,hb];exact e1,e2⟩
     ·have:y=(n,.cell):=by simpa using z
      subst this
      exact⟨s.heap.objs.size,by simp,I.sz⟩
    ·have hxn:n≠x:=hx (n,.cell) (by simp) rfl
     have hb:(x==n)=false:=by simpa using hxn.symm
     simp only[List.lookup_cons,hb]
     exact I.oth x λy hy=>hx y (YM _ hy)
   refine thn (ZgM hcl r _ _ {s with heap:=s.heap.push {cls:=.type "cell",data:=.cell none}} I') λcs' s' ⟨h',e1,e2⟩=>⟨h',e1,?_⟩
   rw[Y6]at e2
   exact e2
  ·have e1:(k==NameKind.cell)=false:=by cases k<;>first|rfl|exact absurd rfl hk
   simp only[e1,Bool.false_eq_true,if_false]
   refine Ya (Yg ?_)
   have I':CellsOf cl n0 cs h0 s.heap (done++[(n,k)]):=by
    refine⟨I.old,I.sz,I.mem,I.inj,λy hy hc=>?_,λx hx=>I.oth x λy hy=>hx y (YM _ hy)⟩
    rcases Yy.mp hy with z|z
    ·exact I.own y z hc
    ·have:y=(n,k):=by simpa using z
     subst this
     exact absurd hc hk
   refine thn (ZgM hcl r _ _ s I') λcs' s' ⟨h',e1,e2⟩=>⟨h',e1,?_⟩
   rw[Y6]at e2
   exact e2
theorem Zl1 {M:Model}{A:Around}{E:Value->Shared->Prop}{s:Shared}{scope:Scope}{globals:Addr}{cl:List (Str×Addr)}{qual:Str}{around:Env}{Q:Env->Shared->Prop} (hcl:∀p∈cl,p.2<s.heap.objs.size)
  (h:∀cs h',CellsOf cl (s.heap.objs.size+1) cs (s.heap.push {cls:=.type "dict",data:=.dict #[]}) h' scope.names->Q {scope:=scope,locals:=s.heap.objs.size,globals:=globals,cells:=cs,qual:=qual,func:=none,code:=around.code,frame:=around.frame,builtins:=around.builtins} {s with heap:=h'}) :
  wpAny M A (newFunctionEnv scope globals cl [] qual none .none (some around)) Q E s:=by
 unfold newFunctionEnv
 refine Ya (wpAny_alloc ?_)
 refine Ya (thn (ZgM (cl:=cl) (n0:=s.heap.objs.size+1) (h0:=s.heap.push {cls:=.type "dict",data:=.dict #[]}) (λp hp=>YR (hcl p hp)) scope.names cl [] {s with heap:=s.heap.push {cls:=.type "dict",data:=.dict #[]}} ⟨λb o e=>e,by rw[Heap.size_push];exact Yc _,λp hp=>.inl hp,λp hp q hq hn e=>absurd (hcl p hp) (Nat.not_lt_of_le (Nat.le_of_succ_le hn)),λy hy=>(nomatch hy),λx hx=>rfl⟩) λcs s' ⟨h',e1,e2⟩=>?_)
 subst e1
 rw[List.nil_append]at e2
 exact Ya (Yg (Yg (h cs h' e2)))
noncomputable def Za1 (around scope:Scope):Bool :=
 scope.kind==.function&&around.kind==.function&&scope.names.all λy=>match y.2 with
  |.local=>scope.names.lookup y.1==some .local
  |.cell=>scope.names.lookup y.1==some .cell
  |.free=>(scope.names.lookup y.1==some .free)&&(around.names.lookup y.1==some .cell||around.names.lookup y.1==some .free)
  |_=>true
theorem Zgd {a s:Scope} (h:Za1 a s=true):s.kind=.function:=by
 simp only[Za1,Bool.and_eq_true,beq_iff_eq]at h;exact h.1.1
theorem ZfI {a s:Scope} (h:Za1 a s=true) {y:Str×NameKind} (hy:y∈s.names):(match y.2 with
  |.local=>s.names.lookup y.1==some .local
  |.cell=>s.names.lookup y.1==some .cell
  |.free=>(s.names.lookup y.1==some .free)&&(a.names.lookup y.1==some .cell||a.names.lookup y.1==some .free)
  |_=>true)=true:=by
 simp only[Za1,Bool.and_eq_true]at h
 exact List.all_eq_true.mp h.2 y hy
theorem ZiI {a s:Scope} (h:Za1 a s=true):∀y∈s.names,y.2=.local->s.names.lookup y.1=some .local:=λy hy e=>by
 have q:=ZfI h hy
 rw[e]at q
 exact beq_iff_eq.mp q
theorem Zj3 {a s:Scope} (h:Za1 a s=true):∀y∈s.names,y.2=.cell->s.names.lookup y.1=some .cell:=λy hy e=>by
 have q:=ZfI h hy
 rw[e]at q
 exact beq_iff_eq.mp q
theorem ZdQ {a s:Scope} (h:Za1 a s=true):∀y∈s.names,y.2=.free->s.names.lookup y.1=some .free/\(a.names.lookup y.1=some .cell\/a.names.lookup y.1=some .free):=λy hy e=>by
 have q:=ZfI h hy
 rw[e]at q
 simp only[Bool.and_eq_true,Bool.or_eq_true,beq_iff_eq]at q
 exact q
noncomputable def ZaC (X:Cx) (Nc:List Str) (scope:Scope) (cs:List (Str×Addr)) (C:Addr) (s2:Shared) (H2:Hp) (fp:List Addr):Cx :=
 {ZoI X Nc scope cs C s2 H2 fp with fn:=λx=>scope.names.lookup x==some .cell}
theorem Zk2 {env:Env}{scope:Scope} (h:∀y∈scope.names,y.2=.free->∃c,env.cells.lookup y.1=some c) :
  ∃cl,closureFor scope env=pure cl/\(∀p∈cl,env.cells.lookup p.1=some p.2)/\(∀y∈scope.names,y.2=.free->∃c,cl.lookup y.1=some c/\env.cells.lookup y.1=some c):=by
 obtain⟨cl,e,h1,h2,h3⟩:=ZdN (env:=env) scope.names [] h
 have up:∀p∈cl,env.cells.lookup p.1=some p.2:=λp q=>by
  rcases h1 _ q with z|z
  ·cases z
  ·exact z
 refine⟨cl,?_,up,λy hy hf=>?_⟩
 ·unfold closureFor
  simp only[bind_pure_comp]at e⊢
  rw[e]
  exact pure_bind _ _
 ·obtain⟨c,hc⟩:=h3 y hy hf
  cases q:cl.lookup y.1 with
  |none=>exact absurd (List.lookup_eq_none_iff.mp q _ hc) (by simp)
  |some c'=>exact⟨c',rfl,up _ (PySem.mem_of_lookup q)⟩
section
variable {X:Cx}
theorem Zk3 {pins:List (Addr×Obj)}{σ:St}{H2:Hp}{s2:Shared}{Nc:List Str}{js:List (Option Nat)}{scope:Scope}{cs:List (Str×Addr)}{fp:List Addr}{h1:Heap}{tk:Nat}{D C:Addr}{oD:Obj}{m:Str->Option Value}
  (I:Inv X pins σ H2 s2) (hok:Za1 X.env.scope scope=true) (htk:takesC X.N Nc scope js 0=true) (up:∀x c,cs.lookup x=some c->X.env.cells.lookup x=some c\/(C<c/\h1.IsCell c none)) (hinj:∀x y c,cs.lookup x=some c->cs.lookup y=some c->x=y) (hown:∀y∈scope.names,y.2=.cell->∃c,cs.lookup y.1=some c/\C<c) (hfr:∀y∈scope.names,y.2=.free->∃c,cs.lookup y.1=some c/\X.env.cells.lookup y.1=some c)
  (hfp:∀b∈fp,FpOk X pins H2 b) (hfl:∀b∈fp,b<s2.heap.objs.size) (hD:D=s2.heap.objs.size) (hC:C=s2.heap.objs.size+1) (old:∀b o,s2.heap.get? b=some o->h1.get? b=some o) (hns:h1.Ns C m) (hoD:h1.get? D=some oD) (hdD:∀v,oD.data≠.cell v) :
  Inv (ZaC X Nc scope cs C s2 H2 fp) [(D,oD)] (ZaO js σ) H2 {s2 with heap:=h1,toks:=tk}:=by
 have leC:s2.heap.objs.size<=C:=by rw[hC];exact Y2 _
 have leD:s2.heap.objs.size<=D:=Y9 hD.symm
 have kf:∀x,((compEnvC scope cs C X.env).kindOf x=some .cell\/(compEnvC scope cs C X.env).kindOf x=some .free)->∃c,cs.lookup x=some c:=λx hx=>by
  have:∃k,(compEnvC scope cs C X.env).kindOf x=some k/\(k=.cell\/k=.free):=hx.elim (λq=>⟨_,q,.inl rfl⟩) λq=>⟨_,q,.inr rfl⟩
  obtain⟨k,e,hk⟩:=this
  obtain⟨k',h1,h2⟩:=ZaR (show(scope.names.map _).lookup x=some k from e)
  have hm:=lookup_mem h1
  have:k'=.free\/k'=.cell:=by
   rcases h2 with q|q
   ·subst q
    exact hk.symm
   ·exact .inl q.1
  rcases this with z|z
  ·subst z
   obtain⟨c,q,_⟩:=hfr _ hm rfl
   exact⟨c,q⟩
  ·subst z
   obtain⟨c,q,_⟩:=hown _ hm rfl
   exact⟨c,q⟩
 have nC:∀c x,X.env.cells.lookup x=some c->c<s2.heap.objs.size:=λc x e=>by
  obtain⟨v,q⟩:=I.cell x c e
  exact q.lt
 have noB:∀b,b∈fp->b∉frs X.stack:=λb hb q=>by
  rcases Yk.mp (I.ZgE b q)with z|z
  ·exact(hfp b hb).2.1 z
  ·exact(hfp b hb).2.2.1 z
 have okX:(ZaC X Nc scope cs C s2 H2 fp).Ok:=by
  refine⟨I.ok.mod,(show scope.kind=.function from Zgd hok),I.ok.glob,I.ok.blt,?_,λx y c e1 e2=>hinj x y c e1 e2,λx hx=>?_,(λx c e1 e2=>?_),I.ok.hd,I.ok.frames,.inl rfl,λb hb=>⟨?_,λx c e=>(up _ _ e).elim (λz=>(hfp b hb).2.2.2.2.1 x c z) λz=>Nat.ne_of_gt (Nat.lt_trans (Yw (hfl b hb) leC) z.1)⟩,I.bs,Ym I.ok.bsz I.sz,λb o e hb=>?_,λb hb=>noB b hb,I.stack,I.Zhw⟩
  ·show s2.heap.objs.size<=C;exact leC
  ·exact kf x hx
  ·have hm:=lookup_mem (beq_iff_eq.mp (show(scope.names.lookup x==some NameKind.cell)=true from e1))
   obtain⟨c',q1,q2⟩:=hown _ hm rfl
   have:c=c':=YD ((show cs.lookup x=some c from e2).symm.trans q1)
   rw[this]
   exact Ym leC (YW q2)
  ·exact Yp (Yw (hfl b hb) leC)
  ·rcases(hfp b hb).2.2.2.1 with q|q
   ·exact I.ok.noex b o e q
   ·exact absurd (Yw (Yl e) (Ym I.ok.bsz q)) (Yu _)
 refine⟨okX,rfl,I.bare,Un.kept old,⟨m,hns,λi x v e1 e2 e3=>?_⟩,λx c e=>?_,I.hok.fresh leC,λx c e=>(up _ _ e).elim (λz=>I.freeC x c z) λz=>I.hok.fresh (Ym leC (YW z.1)),λp hp=>?_,I.hok.kept old,?_⟩
 ·have e2':(ZaO js σ)[i]?=some (some v):=e2
  unfold ZaO at e2'
  rw[YB]at e2'
  cases q:js[i]? with
  |none=>rw[q]at e2';cases e2'
  |some j0 =>
   cases j0 with
   |none=>rw[q]at e2';cases e2'
   |some j =>
    rw[q]at e2'
    simp only[Option.map_some,Option.some.injEq]at e2'
    have e4:σ[j]?=some (some v):=by
     cases z:σ[j]? with
     |none=>rw[z]at e2';cases e2'
     |some o=>rw[z]at e2';simp only[Option.join_some]at e2';rw[e2']
    obtain⟨y,y1,y2,y3⟩:=Zff htk q
    rw[Nat.zero_add]at y1
    have:x=y:=YD ((show Nc[i]?=some x from e1).symm.trans y1)
    subst this
    have hm:=lookup_mem y3
    obtain⟨c,c1,c2⟩:=hfr _ hm rfl
    have hk:=(ZdQ hok _ hm rfl).2
    obtain⟨m0,hn0,hl0⟩:=I.loc
    obtain⟨u,r,l⟩:=hl0 j x v y2 e4 (hk.elim (λz=>.inr (.inl z)) λz=>.inr (.inr z))
    refine⟨u,r,.inr ⟨?_,c,c1,?_⟩⟩
    ·rcases e3 with z|z|z
     ·obtain⟨k',w1,w2⟩:=ZaR (show(scope.names.map _).lookup x=some NameKind.local from z)
      rw[y3]at w1;cases w1
      rcases w2 with w|w
      ·cases w
      ·cases w.2
     ·exact .inl z
     ·exact .inr z
    ·rcases l with⟨lk,_⟩|⟨_,c',c3,c4⟩
     ·rcases hk with z|z
      ·rw[show X.env.kindOf x=some .cell from z]at lk;cases lk
      ·rw[show X.env.kindOf x=some .free from z]at lk;cases lk
     ·rw[c2]at c3;cases c3
      obtain⟨oc,w1,w2⟩:=c4
      exact⟨oc,old _ _ w1,w2⟩
 ·rcases up _ _ e with z|z
  ·obtain⟨v,oc,w1,w2⟩:=I.cell x c z
   exact⟨v,oc,old _ _ w1,w2⟩
  ·exact⟨_,z.2⟩
 ·have:p=(D,oD):=by
   have hp':p∈([]++[(D,oD)]:List (Addr×Obj)):=hp
   simpa using hp'
  subst this
  refine⟨hoD,I.hok.fresh leD,(by show D≠C;rw[hD,hC];exact Yp (Nat.lt_succ_self _)),λhb=>?_,hdD⟩
  have hb':D∈frs X.stack:=hb
  obtain⟨_,o,ho,_⟩:=I.stack.mem hb'
  exact absurd (Yw (Yl ho) leD) (Yu _)
 ·have:=ZdO htk
  show(ZaO js σ).length=Nc.length
  unfold ZaO;rw[Yf];omega
theorem Zjn {pins:List (Addr×Obj)}{σ:St}{H:Hp}{s:Shared}{tg elt iter:Expr}{ifs:List Expr}{scope:Scope}{pos:Pos}{wi:TI}{g:TG}{tt:TT}{te:TE}{Nc:List Str}{js:List (Option Nat)}{use:Option (Value->Sem Unit)}{Q:VK}{QQ:Value->Shared->Prop}
  (hc:X.calm=true) (hok:Za1 X.env.scope scope=true) (htk:takesC X.N Nc scope js 0=true) (hi:PI X tg iter wi)
  (hg:∀cl C s2 H2 fp,PG (ZaC X Nc scope cl C s2 H2 fp) tg g) (ht:∀cl C s2 H2 fp,ZnG (ZaC X Nc scope cl C s2 H2 fp) ifs tt) (he:∀cl C s2 H2 fp,PE (ZaC X Nc scope cl C s2 H2 fp) elt te)
  (hs:∀x,foldedSetIterable iter X.env x=pure x) {L:List Nat} (ho:ZmO g L) (hL:(L.all λk=>js[k]?==some none)=true) (I:Inv X pins σ H s) (h:ZmP wi g tt te js σ H Q)
  (fin:∀(D C:Addr) (H' H2:Hp) (s2 s':Shared) (xs:List V) (m:Str->Option Value),Inv X pins σ H2 s2->H' C=none->C=D+1->D=s2.heap.objs.size->s'.heap.Ns C m->(∀h',Heap.SameBut C s'.heap h'->Inv X pins σ (upd H' D (.lst xs)) {s' with heap:=h'})->Q (.ref D) (upd H' D (.lst xs)) ->
   compPost (model X.prog X.w) X.A X.xe use QQ (.ref D) C (.ok .next) s') :
  wpAny (model X.prog X.w) X.A (comprehension (.ListComp elt [⟨tg,iter,ifs,0⟩] scope pos) scope X.env (firstIterPos [⟨tg,iter,ifs,0⟩] pos) (newList []) false (eval iter X.env) use) QQ X.xe s:=by
 have hcells:∀y∈scope.names,y.2=.free->∃c,X.env.cells.lookup y.1=some c:=λy hy hf=>I.ok.has y.1 (ZdQ hok y hy hf).2
 obtain⟨cl,hcl,upM,hfr0⟩:=Zk2 hcells
 have hk:=Zgd hok
 refine wpAny_comprehension_free (use:=use) rfl hs hcl hk (ZiI hok) (thn (hi pins s σ H _ I h) λv s1 h1=>thn h1 λitv s2 h2=>?_)
 obtain⟨it,fp,tn,J,H2,e,I2,T,st2,f2,W,⟨m0,w0⟩,turn⟩:=h2
 subst e
 have clt:∀p∈cl,p.2<s2.heap.objs.size:=λp hp=>by
  obtain⟨v,q⟩:=I2.cell p.1 p.2 (upM p hp)
  exact q.lt
 refine wpAny_newObj_type (Zl1 (λp hp=>?_) λcs h₁ CO=>?_)
 ·show p.2<(s2.heap.push _).objs.size
  rw[Heap.size_push];exact YR (clt p hp)
 dsimp only at CO⊢
 generalize hH2:s2.heap.push {cls:=.type "list",dict:=none,data:=.seq ([]:List Value).toArray}=HH at CO⊢
 have hC:HH.objs.size=s2.heap.objs.size+1:=by rw[<-hH2,Heap.size_push]
 have hcl':∀p∈cl,p.2<HH.objs.size:=λp hp=>by rw[hC];exact YR (clt p hp)
 have hns₁:h₁.Ns HH.objs.size (λ_=>none):=⟨_,#[],_,CO.old _ _ (YE _ rfl),rfl,λe he=>absurd he (by simp),λn=>rfl⟩
 have up:∀x c,cs.lookup x=some c->X.env.cells.lookup x=some c\/(HH.objs.size<c/\h₁.IsCell c none):=λx c e=>by
  rcases CO.mem _ (PySem.mem_of_lookup e)with z|z
  ·exact .inl (upM _ z)
  ·exact .inr ⟨z.1,z.2.2⟩
 have hinj:∀x y c,cs.lookup x=some c->cs.lookup y=some c->x=y:=λx y c e1 e2=>by
  have m1:=PySem.mem_of_lookup e1
  have m2:=PySem.mem_of_lookup e2
  rcases CO.mem _ m1 with z|z
  ·rcases CO.mem _ m2 with z'|z'
   ·exact I2.ok.inj x y c (upM _ z) (upM _ z')
   ·exact absurd (hcl' _ z) (Nat.not_lt_of_le (Nat.le_of_succ_le z'.1))
  ·exact CO.inj _ m1 _ m2 z.1 rfl
 have hfr:∀y∈scope.names,y.2=.free->∃c,cs.lookup y.1=some c/\X.env.cells.lookup y.1=some c:=λy hy hf=>by
  obtain⟨c,q1,q2⟩:=hfr0 y hy hf
  refine⟨c,?_,q2⟩
  rw[CO.oth y.1 λy' hy' hc' z=>?_]
  ·exact q1
  ·have w1:=Zj3 hok y' hy' hc'
   have w2:=(ZdQ hok y hy hf).1
   rw[z,w2]at w1;cases w1
 have hfl:∀b∈fp,b<s2.heap.objs.size:=λb hb=>by
  obtain⟨o,ho,_⟩:=T.obj 0 _ st2 b hb
  exact Yl ho
 have hDC:s2.heap.objs.size≠HH.objs.size:=by rw[hC];exact Yp (Nat.lt_succ_self _)
 have old:∀b o,s2.heap.get? b=some o->h₁.get? b=some o:=λb o e=>CO.old b o (Yo _ (hH2▸Yo _ e))
 have hacc:h₁.get? s2.heap.objs.size=some {cls:=.type "list",dict:=none,data:=.seq ([]:List Value).toArray}:=CO.old _ _ (Yo _ (hH2▸YE _ rfl))
 have I4:=Zk3 (Nc:=Nc) (js:=js) (tk:=s2.toks) I2 hok htk up hinj (λy hy hc=>CO.own y hy hc) hfr f2 hfl rfl hC old hns₁ hacc (by intro v z;cases z)
 have st4:tn 0 h₁:=T.keep _ _ _ st2 λb _ o e=>old b o e
 generalize hXc:ZaC X Nc scope cs HH.objs.size s2 H2 fp=Xc at I4
 have hXA:Xc.A=X.A:=by rw[<-hXc];rfl
 have hXe:Xc.env=compEnvC scope cs HH.objs.size X.env:=by rw[<-hXc];rfl
 have hXp:Xc.prog=X.prog:=by rw[<-hXc];rfl
 have hXw:Xc.w=X.w:=by rw[<-hXc];rfl
 have hXx:Xc.xe=λ_ _=>False:=by rw[<-hXc];rfl
 have hXk:Xc.K=X.K:=by rw[<-hXc];rfl
 have hXcalm:Xc.calm=true:=by rw[<-hXc];exact hc
 have fpok:∀{pl:List (Addr×Obj)}{H':Hp},(∀p∈pl,s2.heap.objs.size<=p.1)->(∀b∈fp,H' b=none)->∀b∈fp,FpOk Xc pl H' b:=λ{pl H'} hpl hn b hb=>by
  have k1:b≠HH.objs.size:=Yp (by rw[hC];exact YR (hfl b hb))
  have k2:b∉frs X.stack:=λq=>by
   rcases Yk.mp (I2.ZgE b q)with z|z
   ·exact(f2 b hb).2.1 z
   ·exact(f2 b hb).2.2.1 z
  rw[<-hXc]
  refine⟨hn b hb,k1,k2,.inl hb,λx c e=>(up _ _ e).elim (λz=>(f2 b hb).2.2.2.2.1 x c z) λz=>Nat.ne_of_gt (Nat.lt_trans (by rw[hC];exact YR (hfl b hb)) z.1),λp hp=>?_⟩
  have hp':p∈pl:=by simpa[ZaC,ZoI]using hp
  exact Nat.ne_of_gt (Yw (hfl b hb) (hpl p hp'))
 have gX:PG Xc tg g:=hXc▸hg cs HH.objs.size s2 H2 fp
 have tX:ZnG Xc ifs tt:=hXc▸ht cs HH.objs.size s2 H2 fp
 have eX:PE Xc elt te:=hXc▸he cs HH.objs.size s2 H2 fp
 have hs0:Xc.s₀=s2:=by rw[<-hXc];rfl
 have hh0:Xc.H₀=H2:=by rw[<-hXc];rfl
 have hfs:Xc.fs=frs X.stack:=by rw[<-hXc];rfl
 have hex:Xc.ex=fp:=by rw[<-hXc];rfl
 have loop:codeAny (model X.prog X.w) X.A (.compLoop (.ListComp elt [⟨tg,iter,ifs,0⟩] scope pos) 0 (.ref it) (.ref s2.heap.objs.size) (compEnvC scope cs HH.objs.size X.env)) (compPost (model X.prog X.w) X.A X.xe use QQ (.ref s2.heap.objs.size) HH.objs.size)
   {s2 with heap:=h₁,toks:=s2.toks}:=by
  refine ZeB (λn s'=>∃i acc its nn H',Inv Xc [(s2.heap.objs.size,{cls:=.type "list",dict:=none,data:=.seq (its:List Value).toArray nn})] (ZaO js σ) H' s'/\Vals acc its/\acc.length<=sizeLine/\tn i s'.heap/\(∀b∈fp,H' b=none)/\W i n acc H') ?_ m0
   ⟨0,[],[],0,H2,I4,.nil,Yv _,st4,λb hb=>(f2 b hb).1,w0⟩
  rintro n s3 ⟨i,acc,its,nn,H3,I3,va,hlen,st3,fr3,w3⟩
  have pg:∀p∈([(s2.heap.objs.size,{cls:=.type "list",dict:=none,data:=.seq its.toArray nn})]:List (Addr×Obj)),s2.heap.objs.size<=p.1:=λp hp=>by
   simp only[Yk,List.not_mem_nil,or_false]at hp
   subst hp;exact Yc _
  rcases turn i n acc H3 w3 with⟨stop,hl,qn⟩|⟨go,hl,step⟩
  ·have q:=T.done Xc hXp hXw hXk hXcalm i _ s3 (ZaO js σ) H3 (λ_ _=>False) I3 (fpok pg fr3) st3 stop
   rw[hXA]at q
   refine thn q λr s4 ⟨hr,I5⟩=>?_
   subst hr
   have hpin:=I5.pin _ (Yj _ (.head _))
   obtain⟨m5,hn5,_⟩:=I5.loc
   rw[hXe]at hn5
   refine fin _ _ H3 H2 s2 s4 acc m5 I2 (by have:=I5.free;rw[hXe]at this;exact this) hC rfl hn5 (λh' hsb=>?_) (qn _ hpin.2.1)
   have same:∀b o,b≠HH.objs.size->s4.heap.get? b=some o->h'.get? b=some o:=λb o hb e=>hsb.extBut b o hb e
   have un:=I5.base
   rw[hfs,hex,hh0,hs0]at un
   have lt:∀b o,s2.heap.get? b=some o->b<s2.heap.objs.size:=λb o e=>Yl e
   have neC:∀b o,s2.heap.get? b=some o->b≠HH.objs.size:=λb o e=>Yp (by rw[hC];exact YR (lt b o e))
   have neD:∀b o,s2.heap.get? b=some o->b≠s2.heap.objs.size:=λb o e=>Yp (lt b o e)
   have trkC:∀b o,H3 b=some o->b≠HH.objs.size:=λb o e z=>by
    have:=I5.free;rw[hXe]at this;rw[z,show H3 HH.objs.size=none from this]at e;cases e
   refine I2.call' (s':={s4 with heap:=h'}) (ch:=fp) (I5.os.trans (by rw[hs0])) ⟨λb o e n hb hx=>same _ _ (neC b o e) (un.keep b o e n hb hx),λb o e n hb hx=>?_,λb o e n hx=>by rw[Zh (neD b o e)];exact un.free b o e n hx,λb o e hx=>?_,λb xs e=>?_,λb o u e=>?_,λb ps e=>?_⟩ (λa o e=>?_) I5.bare λb hb=>⟨(f2 b hb).2.2.2.1,(f2 b hb).2.1,(f2 b hb).2.2.2.2.1,(f2 b hb).2.2.2.2.2⟩
   ·obtain⟨sl,z⟩:=un.slot b o e n hb hx
    exact⟨sl,same _ _ (neC b o e) z⟩
   ·obtain⟨o',z⟩:=un.there b o e hx
    exact⟨o',same _ _ (neC b o e) z⟩
   ·rw[Zh (Yp (I2.hok.lt e))];exact un.tups b xs e
   ·rw[Zh (Yp (I2.hok.lt e))];exact un.frzs b o u e
   ·obtain⟨more,z⟩:=un.tbls b ps e
    exact⟨more,by rw[Zh (Yp (I2.hok.lt e))];exact z⟩
   ·by_cases ha:a=s2.heap.objs.size
    ·subst ha
     rw[Zc]at e;cases e
     exact⟨hl,its,nn,va,same _ _ hDC hpin.1⟩
    ·rw[Zh ha]at e
     have q:=I5.hok a o e
     rw[hXp,hXw]at q
     refine q.ZhH (λb u hb z=>same b u ?_ z) (λb z=>by rw[Zh];exact z;intro y;subst y;rw[hpin.2.1]at z;cases z) (λb xs z=>by rw[Zh];exact z;intro y;subst y;rw[hpin.2.1]at z;cases z) λb o u z=>by rw[Zh];exact z;intro y;subst y;rw[hpin.2.1]at z;cases z
     rcases hb with hb|hb
     ·subst hb;exact trkC _ _ e
     ·exact trkC _ _ hb
  ·have q:=T.item Xc hXp hXw hXk hXcalm i _ s3 (ZaO js σ) H3 (λ_ _=>False) I3 (fpok pg fr3) st3 go
   rw[hXA]at q
   refine thn q λr s4 ⟨u,hr,h4⟩=>?_
   subst hr
   refine thn h4 λ_ s5 ⟨x,H5,I5,r5,y5,st5,fr5⟩=>?_
   have I5':=I5.pinned (fpok pg fr5) (T.obj _ _ st5)
   have again:∀{σ7:St}{H7:Hp}{s7:Shared}{acc7:List V}{its7:List Value}{n7:Nat}{m:Nat},Inv Xc ([(s2.heap.objs.size,{cls:=.type "list",dict:=none,data:=.seq its7.toArray n7})]++Zey fp s5.heap) σ7 H7 s7->Vals acc7 its7->acc7.length<=sizeLine->W (i+1) m acc7 H7->σ7.length=(ZaO js σ).length->(∀(k:Nat) v,(ZaO js σ)[k]?=some (some v)->σ7[k]?=some (some v)) ->
     ∃i acc its nn H',Inv Xc [(s2.heap.objs.size,{cls:=.type "list",dict:=none,data:=.seq (its:List Value).toArray nn})] (ZaO js σ) H' s7/\Vals acc its/\acc.length<=sizeLine/\tn i s7.heap/\(∀b∈fp,H' b=none)/\W i m acc H':=λ{σ7 H7 s7 acc7 its7 n7 m} I7 v7 l7 w7 hl7 hw7=>by
    refine⟨i+1,acc7,its7,n7,H7,(I7.weak hl7.symm hw7).Zez,v7,l7,T.keep _ _ _ st5 λb hb o e=>(I7.pin (b,o) (Yj _ (Yj _ (ZdL hb e)))).1,λb hb=>?_,w7⟩
    obtain⟨o,e,d⟩:=T.obj _ _ st5 b hb
    exact(I7.pin (b,o) (Yj _ (Yj _ (ZdL hb e)))).2.1
   have keep:∀{σ6:St},ZoJ L (ZaO js σ) σ6->σ6.length=(ZaO js σ).length/\∀(k:Nat) v,(ZaO js σ)[k]?=some (some v)->σ6[k]?=some (some v):=λ{σ6} hk=>⟨hk.1,λk v e=>by
    rw[hk.2 k]
    ·exact e
    ·intro z
     have q:=List.all_eq_true.mp hL k z
     simp only[beq_iff_eq]at q
     unfold ZaO at e
     rw[YB,q]at e
     cases e⟩
   have q6:=gX _ s5 (ZaO js σ) H5 x u _ I5' r5 (ho _ _ _ _ _ (fun σ' H' kk z=>And.intro kk z) (step x H5 y5))
   rw[hXe,hXA,hXp,hXw,hXx]at q6
   refine thn q6 λ_ s6 ⟨σ6,H6,I6,k6,q6⟩=>?_
   obtain⟨kl,kv⟩:=keep k6
   have q7:=tX _ s6 σ6 H6 _ I6 q6
   rw[hXe,hXA,hXp,hXw,hXx]at q7
   refine thn q7 λb s7 ⟨H7,I7,q7⟩=>?_
   cases b with
   |false =>
    obtain⟨m',hm,w7⟩:=q7
    exact⟨m',hm,again I7 va hlen w7 kl kv⟩
   |true =>
    have q8:=eX _ s7 σ6 H7 _ I7 q7
    rw[hXe,hXA,hXp,hXw,hXx]at q8
    refine thn q8 λy s8 ⟨v8,H8,I8,r8,m',hm,w8⟩=>?_
    have pinD:=I8.pin _ (Yj _ (YM _ (.head _)))
    have hnf:∀p∈Zey fp s5.heap,p.1≠s2.heap.objs.size:=λp hp=>by
     obtain⟨z,_⟩:=Zi7 hp
     exact Yp (hfl _ z)
    have va':=va.length
    refine call_meets F.slot_list_append ⟨_,pinD.1,rfl⟩ F.entry_list_append (F.args_list_append_2 _ _) (PySem.list_append s2.heap.objs.size its.toArray nn y (by rw[Yn];omega)) ⟨pinD.1,?_⟩
    have e9:=PySem.IsL.update pinD.1 (λa=>a.push y)
    have e9':its.toArray.push y=(its++[y]).toArray:=by simp
    dsimp only at e9
    rw[e9']at e9
    have I8':Inv Xc (Zey fp s5.heap) σ6 H8 s8:=I8.ZI λp hp=>I8.pin p (Yj _ (Yj _ hp))
    have hXpn:Xc.pn=[]:=by rw[<-hXc];rfl
    have hXs:s2.heap.objs.size∉frs X.stack:=by rw[<-hfs];exact pinD.2.2.2.1
    have I9:=I8'.turned (t':=s8.toks) (it:=s2.heap.objs.size) (h':=s8.heap.update s2.heap.objs.size (Obj.mapSeq λa=>a.push y)) (λb o hb e=>(Heap.get?_update_other s8.heap _ (Ne.symm hb)).trans e) pinD.2.1 pinD.2.2.1
     (.inr (by rw[hs0];exact Yc _)) (λx c e=>by
      rw[hXe]at e
      intro z
      rcases up _ _ e with y|y
      ·obtain⟨v,q⟩:=I2.cell x c y
       exact absurd q.lt (by rw[z];exact Yu _)
      ·have:=y.1
       rw[z,hC]at this
       exact absurd this (Nat.not_lt_of_le (Y2 _))) (λp hp=>by rw[hXpn,List.nil_append]at hp;exact hnf p hp)
    have I10:=I9.ZI (pins':=[(s2.heap.objs.size,{cls:=.type "list",dict:=none,data:=.seq (its++[y]).toArray _})]++Zey fp s5.heap) λp hp=>by
     rcases Yy.mp hp with z|z
     ·simp only[Yk,List.not_mem_nil,or_false]at z
      subst z
      exact⟨e9,pinD.2.1,pinD.2.2.1,pinD.2.2.2.1,by intro v z;cases z⟩
     ·exact I9.pin p (Yj _ z)
    exact⟨m',hm,again I10 (va.append (.cons r8 .nil)) (by rw[YH,List.length_singleton];omega) w8 kl kv⟩
 exact codeAny_compStart_list loop (T.self _ 0 _ _ _ st4 loop)
theorem ZW {tg elt iter:Expr}{ifs:List Expr}{scope:Scope}{pos:Pos}{wi:TI}{g:TG}{tt:TT}{te:TE} (Nc:List Str) (js:List (Option Nat)) {L:List Nat}
  (hc:X.calm=true) (hok:Za1 X.env.scope scope=true) (htk:takesC X.N Nc scope js 0=true) (hi:PI X tg iter wi)
  (hg:∀cl C s2 H2 fp,PG (ZaC X Nc scope cl C s2 H2 fp) tg g) (ht:∀cl C s2 H2 fp,ZnG (ZaC X Nc scope cl C s2 H2 fp) ifs tt) (he:∀cl C s2 H2 fp,PE (ZaC X Nc scope cl C s2 H2 fp) elt te)
  (ho:ZmO g L) (hL:(L.all λk=>js[k]?==some none)=true:=by rfl) (hs:∀x,foldedSetIterable iter X.env x=pure x:=by intro _;rfl):PE X (.ListComp elt [⟨tg,iter,ifs,0⟩] scope pos) (ZmP wi g tt te js):=by
 intro pins s σ H Q I h
 rw[eval_ListComp]
 exact Zjn (use:=none) hc hok htk hi hg ht he hs ho hL I h λD C H' H2 s2 s' xs m I2 hHC e1 e2 hn hI q=>⟨m,hn,λh' hsb=>⟨.ref D,_,hI h' hsb,rfl,q⟩⟩
theorem Zaj {i:Nat}{x:Str}{pos' spos:Pos}{tg elt iter:Expr}{ifs:List Expr}{scope:Scope}{pos:Pos}{wi:TI}{g:TG}{tt:TT}{te:TE} (Nc:List Str) (js:List (Option Nat)) {L:List Nat}
  (hN:X.N.Nodup) (hxi:X.N[i]?=some x) (hx:Loc X.env.scope x)
  (hc:X.calm=true) (hok:Za1 X.env.scope scope=true) (htk:takesC X.N Nc scope js 0=true) (hi:PI X tg iter wi)
  (hg:∀cl C s2 H2 fp,PG (ZaC X Nc scope cl C s2 H2 fp) tg g) (ht:∀cl C s2 H2 fp,ZnG (ZaC X Nc scope cl C s2 H2 fp) ifs tt) (he:∀cl C s2 H2 fp,PE (ZaC X Nc scope cl C s2 H2 fp) elt te)
  (ho:ZmO g L) (hL:(L.all λk=>js[k]?==some none)=true:=by rfl) (hs:∀x,foldedSetIterable iter X.env x=pure x:=by intro _;rfl)
  (hsw:swapsWith (.ListComp elt [⟨tg,iter,ifs,0⟩] scope pos) (some (.Name x pos')) spos.line X.env=pure true:=by rfl)
  (hf:X.fn x=true\/X.env.scope.names.lookup x=some .local:=by first|exact .inl rfl|exact .inr rfl|assumption) :
  PS X (.Assign [.Name x pos'] (.ListComp elt [⟨tg,iter,ifs,0⟩] scope pos) spos) (tAsg (ZmP wi g tt te js) (Zex i)):=by
 intro pins s σ H D I h
 rw[exec_Assign_Name_used _ _ _ _ hsw]
 refine Ya (wpAny_standAt (Ya ?_))
 show wpAny _ _ (comprehension _ _ _ _ _ _ _ _ >>= _) _ _ _
 refine Ya (thn (Q:=λ_ s'=>∃σ' H',Inv X pins σ' H' s'/\D.nx σ' H') (Zjn (Q:=λv H1=>Zex i v σ H1 D.nx) (use:=some (assign (.Name x pos') X.env)) hc hok htk hi hg ht he hs ho hL I h ?_) λ_ s' ⟨σ',H',I',q⟩=>Yg (Yg ⟨σ',H',I',q⟩))
 intro D' C H' H2 s2 s' xs m I2 hHC e1 e2 hn hI q
 obtain⟨oC,es,ep,hoC,hdC,hrest⟩:=id hn
 have leC:s2.heap.objs.size<=C:=by rw[e1,e2];exact Y2 _
 have ltC:s2.heap.objs.size<C:=by rw[e1,e2];exact Nat.lt_succ_self _
 have neDC:C≠D':=by rw[e2];exact Nat.ne_of_gt ltC
 have fresh:s2.heap.get? C=none:=by
  cases e:s2.heap.get? C with
  |none=>rfl
  |some o=>exact absurd (Yw (Yl e) leC) (Yu _)
 have neL:C≠X.env.locals:=Nat.ne_of_gt (Yw I2.lt leC)
 have nfs:C∉X.fs:=I2.ZkI leC
 have ncl:∀x c,X.env.cells.lookup x=some c->c≠C:=λx c e z=>by
  obtain⟨v,q⟩:=I2.cell x c e
  exact absurd (Yw q.lt leC) (by rw[z];exact Yu _)
 have npn:∀p∈X.pn++pins,p.1≠C:=λp hp z=>by
  have:=(I2.pin p hp).1
  rw[z,fresh]at this;cases this
 have hH:(upd H' D' (HO.lst xs)) C=none:=by rw[Zh neDC];exact hHC
 have I0:=hI s'.heap ZjR
 have I1:Inv X (pins++[(C,oC)]) σ (upd H' D' (.lst xs)) s':=I0.ZI λp hp=>by
  rcases Yy.mp hp with z|z
  ·exact I0.pin p (Yj _ z)
  ·simp only[Yk,List.not_mem_nil,or_false]at z
   subst z
   exact⟨hoC,hH,neL,nfs,λv z=>by rw[hdC]at z;cases z⟩
 show wpAny _ _ _ _ _ _
 refine thn (Zl (X:=X) (i:=i) hN hxi hx hf (pins++[(C,oC)]) s' σ _ (.ref D') (.ref D') _ I1 rfl q) λ_ s3 ⟨σ3,H3,I3,q3⟩=>?_
 have pC:=I3.pin (C,oC) (Yj _ (Yj _ (.head _)))
 refine⟨m,⟨oC,es,ep,pC.1,hdC,hrest⟩,λh' hsb=>⟨σ3,H3,?_,q3⟩⟩
 exact I3.Zez.turned (t':=s3.toks) (it:=C) (λb o hb e=>hsb.extBut b o hb e) pC.2.1 neL (.inr (Ym I2.sz leC)) ncl npn
end
end L2
namespace L2
open PySem PySem.Spec PyProof.Rows PySem.W
noncomputable def CF (n:Nat) (P:Nat->Bool) (vals:Nat->V) (H1:Hp) (i m:Nat) (acc:List V) (H:Hp):Prop:=m=n-i/\i<=n/\acc=((List.range i).filter P).map vals/\Ze H1 H
theorem CF.take {n:Nat}{P:Nat->Bool}{vals:Nat->V}{H1 H:Hp}{i:Nat}{v:V} (hi:i<n) (hP:P i=true) (hv:v=vals i) (s:Ze H1 H):∃m',m'<n-i/\CF n P vals H1 (i+1) m' (((List.range i).filter P).map vals++[v]) H :=
 ⟨n-(i+1),by omega,rfl,hi,by rw[YY,List.filter_append,Y4,hv];simp[hP],s⟩
theorem CF.skip {n:Nat}{P:Nat->Bool}{vals:Nat->V}{H1 H:Hp}{i:Nat} (hi:i<n) (hP:P i=false) (s:Ze H1 H):∃m',m'<n-i/\CF n P vals H1 (i+1) m' (((List.range i).filter P).map vals) H :=
 ⟨n-(i+1),by omega,rfl,hi,by rw[YY,List.filter_append,Y4];simp[hP],s⟩
theorem Zan {J:It}{n:Nat}{H1:Hp}{g:TG}{tt:TT}{te:TE}{σ0:St}{Q:VK} (P:Nat->Bool) (vals:Nat->V) (hn:n<sizeLine) (hgo:∀i H,Ze H1 H->i<n->J.go i H) (hstop:∀H,Ze H1 H->J.stop n H)
  (hb:∀i x H H',i<n->Ze H1 H->J.yld i H x H'->g x σ0 H' fun σ2 H2=>tt σ2 H2 λb H3=>if b=true then te σ2 H3 λv H4=>∃m',m'<n-i/\CF n P vals H1 (i+1) m' (((List.range i).filter P).map vals++[v]) H4 else ∃m',m'<n-i/\CF n P vals H1 (i+1) m' (((List.range i).filter P).map vals) H3)
  (hk:∀l H',Ze H1 H'->H' l=none->Q (.ref l) (upd H' l (.lst (((List.range n).filter P).map vals)))) :
  Zg7 J g tt te σ0 Q H1:=by
 refine⟨CF n P vals H1,⟨n,rfl,Yv _,rfl,Ze.refl _⟩,?_⟩
 rintro i m acc H ⟨rfl,hi,rfl,s⟩
 have hlen:(((List.range i).filter P).map vals).length<=n:=by
  rw[Yf]
  have:=Y3 P (List.range i)
  rw[YS]at this
  omega
 by_cases h:i<n
 ·exact .inr ⟨hgo i H s h,by omega,λx H' y=>hb i x H H' h s y⟩
 ·have:i=n:=by omega
  subst this
  exact .inl ⟨hstop H s,by omega,λp hp=>hk p H s hp⟩
theorem ZK.over {f:Nat->Int}{a b lo p:Nat} (h:ZK f a b lo) (h1:a<=p) (h2:p<=b) (hne:p≠lo):Over f lo p:=by
 obtain⟨l1,l2,l3,l4⟩:=h
 rcases Nat.lt_or_gt_of_ne hne with z|z
 ·exact .inr ⟨z,λr r1 r2=>l3 r (by omega) r2⟩
 ·exact .inl ⟨z,λr r1 r2=>l4 r r1 (by omega)⟩
theorem ZoS {ns T:List Int}{g:Nat->Int} (hT:Zs ns T) (hg:∀q p,q<ns.length->p<ns.length->Over (nth ns) q p->(q<p->g q<=g p)/\(p<q->g q<g p)):∀p,p<ns.length->Zy g ns.length p (T.getD p 0):=by
 intro p hp
 have pv:∀q,Z9 (nth ns) p q->Z9 g p q:=λq h=>by
  refine⟨h.1,(hg q p (by have:=h.1;omega) hp (.inl ⟨h.1,λr r1 r2=>?_⟩)).1 h.1,λr r1 r2=>(hg p r hp (by omega) (.inr ⟨r2,λs s1 s2=>h.2.2 s (by omega) s2⟩)).2 r2⟩
  by_cases z:r=p
  ·rw[z];exact h.2.1
  ·have:=h.2.2 r r1 (by omega);have:=h.2.1;omega
 have nx:∀r,Z5 (nth ns) ns.length p r->Z5 g ns.length p r:=λq h=>by
  refine⟨h.1,h.2.1,(hg q p h.2.1 hp (.inr ⟨h.1,λr r1 r2=>?_⟩)).2 h.1,λs s1 s2=>(hg p s hp (by have:=h.2.1;omega) (.inl ⟨s1,λr r1 r2=>h.2.2.2 r r1 (by omega)⟩)).1 s1⟩
  by_cases z:r=p
  ·rw[z];exact h.2.2.1
  ·have:=h.2.2.2 r (by omega) r2;have:=h.2.2.1;omega
 have np:ZcY (nth ns) p->ZcY g p:=λh q hq=>(hg p q hp (by omega) (.inr ⟨hq,λr r1 r2=>h r r2⟩)).2 hq
 have nn:ZbT (nth ns) ns.length p->ZbT g ns.length p:=λh r r1 r2=>(hg p r hp r2 (.inl ⟨r1,λs s1 s2=>h s s1 (by omega)⟩)).1 r1
 have hE:Zy (nth ns) ns.length p (T.getD p 0):=hT.2 p hp
 rcases hE with⟨h1,h2,h⟩|⟨q,h1,h2,h⟩|⟨r,h1,h2,h⟩|⟨q,r,h1,h2,h⟩
 ·exact .inl ⟨np h1,nn h2,h⟩
 ·exact .inr (.inl ⟨q,pv q h1,nn h2,h⟩)
 ·exact .inr (.inr (.inl ⟨r,np h1,nx r h2,h⟩))
 ·refine .inr (.inr (.inr ⟨q,r,pv q h1,nx r h2,?_⟩))
  rw[h]
  have hq:q<ns.length:=by have:=h1.1;omega
  have hqr:q<r:=by have:=h1.1;have:=h2.1;omega
  by_cases z:nth ns q<=nth ns r
  ·have:=(hg q r hq h2.2.1 (.inl ⟨hqr,λs s1 s2=>by
    by_cases y:s=r
    ·rw[y];exact z
    ·by_cases y2:s=p
     ·rw[y2];exact h1.2.1
     ·have:=h1.2.1
      by_cases y3:s<p
      ·have:=h1.2.2 s s1 y3;omega
      ·have:=h2.2.2.2 s (by omega) (by omega);omega⟩)).1 hqr
   rw[Ye z,Ye (by omega)]
  ·have:=(hg r q h2.2.1 hq (.inr ⟨hqr,λs s1 s2=>by
    have:=h1.2.1;have:=h2.2.2.1
    by_cases y:s=q
    ·rw[y];omega
    ·by_cases y2:s=p
     ·rw[y2];omega
     ·by_cases y3:s<p
      ·have:=h1.2.2 s (by omega) y3;omega
      ·have:=h2.2.2.2 s (by omega) (by omega);omega⟩)).2 hqr
   rw[Yd z,Yd (by omega)]
theorem atI_m1 {xs:List V}{v:V} (h:0<xs.length) (hv:xs[xs.length-1]?=some v):atI xs (-1)=some v:=by
 have e:ixN xs.length (-1)=some (xs.length-1):=by
  unfold ixN
  rw[Yd (by omega),Ye (by omega)]
  congr 1
  omega
 unfold atI
 rw[e]
 exact hv
end L2
namespace HT
open PySem PyProof.Rows
section
open PySem.SeqAt
open PySem.AutoSeq1 (wpAny_loadPart')
open PySem.MeetsSeq PySem.MeetsSeq2 PySem.MeetsSeq3
variable {prog:Program}{w:World}{A:Around}{E:Value->Shared->Prop}{s:Shared}
end
end HT
namespace L2
open PySem PySem.Spec PyProof.Rows PySem.W
section
variable {X:Cx}{tg l:Expr}{tl:TE}
theorem ZoT {K:Frag} (hK:X.K=K) (hl:PE X l tl):PI X tg l (ZmJ K tl):=hK▸Zav hl
theorem Zq8 {K:Frag} (hK:X.K=K) (hl:PE X l tl):PI X tg l (iTup K tl):=hK▸ZlJ hl
end
theorem Zk4 (T:List Int):∀k a,(Z6 T k a).length<k->Z6 T (k+1) a=Z6 T k a
 |0,_,h=>by omega
 |k+1,a,h=>by
  rw[Z6]at h⊢
  by_cases z:0<=a/\a<T.length
  ·rw[Ye z]at h⊢
   rw[Zk4 T k _ (by simpa using h),Z6,Ye z]
  ·rw[Yd z]at h⊢
   rw[Z6,Yd z]
noncomputable def way (T:List Int) (p:Nat):List Nat:=Z6 T T.length (nth T p)
theorem Zm4 {T:List Int}{p:Nat} (h:nth T p=-1):way T p=[]:=by
 unfold way
 rw[h]
 cases T.length with
 |zero=>rfl
 |succ k=>rw[Z6,Yd (by omega)]
theorem ZdA {ns T:List Int} (hT:Zs ns T) {p q:Nat} (hp:p<ns.length) (h:nth T p=q):way T p=q::way T q:=by
 have hE:Zy (nth ns) ns.length p (q:Int):=h▸hT.2 p hp
 have hq:q<ns.length:=by
  rcases Zcj hp hE with z|⟨q',e,z,_⟩<;>omega
 have hd:=ZgL hp hE
 have hl:=Zl0 (f:=nth ns) hp
 unfold way
 rw[h,hT.1]
 obtain⟨k,hk⟩:∃k,ns.length=k+1:=⟨ns.length-1,by omega⟩
 rw[hk,Z6,Ye ⟨by omega,by rw[hT.1];omega⟩,show((q:Nat):Int).toNat=q by omega]
 rw[Zk4 T k (nth T q)]
 rw[(ZhY hT k q hq (by omega)).2]
 omega
theorem Zge (T:List Int) (p:Nat):ZnP T p=(way T p).map λq=>((q:Nat):Int):=rfl
theorem ZcE {ns T:List Int} (hT:Zs ns T) {p:Nat} (hp:p<ns.length):nth T p=-1\/∃q:Nat,nth T p=q/\q<ns.length/\Over (nth ns) q p/\dep (nth ns) ns.length p=dep (nth ns) ns.length q+1:=by
 rcases Zcj hp (hT.2 p hp)with z|⟨q,e,hq,hO⟩
 ·exact .inl z
 ·have e':nth T p=(q:Int):=e
  have hE:Zy (nth ns) ns.length p (q:Int):=e'▸hT.2 p hp
  exact .inr ⟨q,e,hq,hO,ZgL hp hE⟩
theorem ZeE {ns T:List Int} (hT:Zs ns T) {p o:Nat} (hp:p<ns.length):o∈way T p↔o<ns.length/\Over (nth ns) o p:=by
 unfold way
 rw[hT.1]
 exact(ZhY hT ns.length p hp (YW (Zl0 hp))).1 o
section
variable {X:Cx}{pins:List (Addr×Obj)}{σ:St}{H:Hp}{s:Shared}{h':Heap}
theorem Inv.Zq9 {t':Nat}{fp:List Addr}{T:Addr}{o:HO} (I:Inv X pins σ H s) (k:∀b u,b∉fp->s.heap.get? b=some u->h'.get? b=some u) (hf:∀b∈fp,FpOk X pins H b) (hT:s.heap.objs.size<=T) (new:Zau X.prog X.w (upd H T o) h' T o) :
  Inv X pins σ (upd H T o) {s with heap:=h',toks:=t'}:=by
 have nit:∀b u,H b=some u->b∉fp:=λb u e z=>by rw[(hf b z).1]at e;cases e
 have hfr:H T=none:=I.hok.fresh hT
 have neT:∀b u,s.heap.get? b=some u->b≠T:=λb u e z=>absurd (Yl e) (by rw[z];exact Nat.not_lt_of_le hT)
 have neH:∀b u,H b=some u->b≠T:=λb u e z=>by rw[z,hfr]at e;cases e
 refine I.step (g':=s.gens) (d':=s.drawn) (ch:=fp) (λb hb=>?_) (λb o _ _ hc e _=>k b o hc e) (λb o _ _ hc e _=>⟨o.slots,k b o hc e⟩) (λb u _ e n=>by rw[Zh (neT b u e)];exact n)
  (λb o hc e=>⟨o,k b o hc e⟩) (λb xs e=>by rw[Zh (neH b _ e)];exact e) (λb o u e=>by rw[Zh (neH b _ e)];exact e) (λb ps e=>⟨#[],by rw[Zh (neH b _ e),e];simp⟩) (λm hm=>?_) (λb u e=>?_) I.bare
 ·obtain⟨_,f1,_,f3,f4,f5⟩:=hf b hb
  exact⟨f3,f1,f4,f5⟩
 ·obtain⟨o,es,ep,ho,r⟩:=hm
  exact⟨o,es,ep,k _ o (λz=>(hf _ z).2.1 rfl) ho,r⟩
 ·by_cases z:b=T
  ·subst z
   rw[Zc]at e;cases e
   exact new
  ·rw[Zh z]at e
   refine(I.hok b u e).ZhH (λc v hc q=>k c v ?_ q) (λc q=>?_) (λc xs q=>?_) λc o u q=>?_
   ·rcases hc with y|y
    ·rw[y];exact nit b u e
    ·exact nit c _ y
   ·rw[Zh (neH _ _ q)];exact q
   ·rw[Zh (neH _ _ q)];exact q
   ·rw[Zh (neH _ _ q)];exact q
theorem Zl2:bootBuiltins "enumerate"=some (.type "enumerate"):=by decide +kernel
end
noncomputable def ZdR (f g:Nat->Int) (n:Nat):Prop:=∀a c,a+c<n->ZgK f a c=ZgK g a c
theorem ZdR.over {f g:Nat->Int}{n o p:Nat} (h:ZdR f g n) (ho:o<n) (hp:p<n) (k:Over f o p):Over g o p:=by
 rcases k with⟨z,k⟩|⟨z,k⟩
 ·have i1:ZK f o (o+(p-o)) o:=⟨Yc _,by omega,λq q1 q2=>by omega,λq q1 q2=>k q q1 (by omega)⟩
  have e:=h o (p-o) (by omega)
  rw[(ZaP f o (p-o)).unique i1]at e
  have i2:=ZaP g o (p-o)
  rw[<-e]at i2
  exact .inl ⟨z,λr r1 r2=>i2.2.2.2 r r1 (by omega)⟩
 ·have i1:ZK f p (p+(o-p)) o:=⟨by omega,by omega,λq q1 q2=>k q q1 q2,λq q1 q2=>by omega⟩
  have e:=h p (o-p) (by omega)
  rw[(ZaP f p (o-p)).unique i1]at e
  have i2:=ZaP g p (o-p)
  rw[<-e]at i2
  exact .inr ⟨z,λr r1 r2=>i2.2.2.1 r r1 (by omega)⟩
theorem ZdR.tree {ns ms T:List Int} (hT:Zs ns T) (hl:ms.length=ns.length) (h:ZdR (nth ns) (nth ms) ns.length):Zs ms T:=by
 refine⟨by rw[hl];exact hT.1,λp hp=>?_⟩
 rw[hl]at hp⊢
 refine ZoS hT (λq p hq hp hO=>?_) p hp
 rcases h.over hq hp hO with⟨z,k⟩|⟨z,k⟩
 ·exact⟨λ_=>k p z (Yc _),λy=>by omega⟩
 ·exact⟨λy=>by omega,λ_=>k p (Yc _) z⟩
theorem ZhZ {ns ms T:List Int} (h1:Zs ns T) (h2:Zs ms T) {o p:Nat} (ho:o<ns.length) (hp:p<ns.length) (k:Over (nth ns) o p):Over (nth ms) o p:=by
 have hl:ms.length=ns.length:=h2.1.symm.trans h1.1
 exact((ZeE h2 (by omega)).mp ((ZeE h1 hp).mpr ⟨ho,k⟩)).2
theorem Zl3 {ns ms T:List Int} (h1:Zs ns T) (h2:Zs ms T):ZdR (nth ns) (nth ms) ns.length:=by
 intro a c hac
 have hl:=ZaP (nth ns) a c
 have hlt:=Zm2 (nth ns) a c
 refine ZK.unique (f:=nth ms) (a:=a) (b:=a+c) ⟨hl.1,hl.2.1,λq q1 q2=>?_,λq q1 q2=>?_⟩ (ZaP (nth ms) a c)
 ·have:=ZhZ h1 h2 (by omega) (by omega) (hl.over (p:=q) (by omega) (by omega) (by omega))
  rcases this with⟨z,k⟩|⟨z,k⟩
  ·omega
  ·exact k q (Yc _) q2
 ·have:=ZhZ h1 h2 (by omega) (by omega) (hl.over (p:=q) (by omega) (by omega) (by omega))
  rcases this with⟨z,k⟩|⟨z,k⟩
  ·exact k q q1 (Yc _)
  ·omega
theorem Zm5 {ns ms S T:List Int} (h1:Zs ns S) (h2:Zs ms T):(ns.length=ms.length/\ZdR (nth ns) (nth ms) ns.length)↔(ns.length=ms.length/\S=T):=by
 refine⟨λh=>⟨h.1,?_⟩,λh=>⟨h.1,?_⟩⟩
 ·exact(ZdR.tree h1 h.1.symm h.2).unique h2
 ·rw[h.2]at h1;exact Zl3 h1 h2
noncomputable def Zl4 (ns:List Int) (a c:Nat):List Int:=(ns.drop a).take c
theorem ZoU {ns:List Int}{a c:Nat} (h:a+c<=ns.length):(Zl4 ns a c).length=c:=by
 unfold Zl4;rw[Y7,Jb];omega
theorem ZoV {ns:List Int}{a c i:Nat} (h:i<c):nth (Zl4 ns a c) i=nth ns (a+i):=by
 simp[nth,Zl4,Yi,List.getElem?_take,List.getElem?_drop,h]
theorem Zjo {P:Nat->Prop}:∀n,¬ (∀j,j<n->P j)->∃j,j<n/\¬ P j/\∀i,i<j->P i
 |0,h=>absurd (λj hj=>by omega) h
 |n+1,h=>by
  by_cases z:∀j,j<n->P j
  ·exact⟨n,by omega,λy=>h λj hj=>by
    by_cases e:j=n
    ·rw[e];exact y
    ·exact z j (by omega),z⟩
  ·obtain⟨j,h1,h2,h3⟩:=Zjo n z
   exact⟨j,by omega,h2,h3⟩
theorem ifR {c:TT}{t u:TS}{D:Ends}{σ:St}{H:Hp} (T U:Hp->Prop) (ht:∀H1,T H1->t D σ H1) (hu:∀H1,U H1->u D σ H1) (hc:∀B:Bool->Hp->Prop,(∀H1,T H1->B true H1)->(∀H1,U H1->B false H1)->c σ H B):tIfS c t u D σ H :=
 hc _ (λH1 h=>by rw[Ye rfl];exact ht H1 h) (λH1 h=>by rw[Yd (by simp)];exact hu H1 h)
section
variable {X:Cx}
theorem Zjp:bootBuiltins "sorted"=some (.builtin "sorted"):=by decide +kernel
end
section
variable {prog:Program}{w:World}{A:Around}{E Q:Value->Shared->Prop}{s:Shared}{it t:Addr}{i:Nat}{items:Array Value}
theorem Zgf {x:Value} (hi:s.heap.IsTupleIter it t i) (ht:s.heap.IsTuple t items) (hx:items[i]?=some x) (h:∀h',h'.IsTupleIter it t (i+1)->Heap.SameBut it s.heap h'->Q x {s with heap:=h'}):wpAny (model prog w) A (Builtin.SmallTypes.nextOf (.ref it)) Q E s:=by
 obtain⟨o,ho,hc,hd⟩:=id hi
 obtain⟨ot,hot,hct,n,hdt⟩:=id ht
 have hT:s.TypeIs (.ref it) "tuple_iterator":=⟨o,ho,hc⟩
 unfold Builtin.SmallTypes.nextOf
 refine Ya (wpAny_callSpecial?_slot hT F.slot_tuple_iterator_next (wpAny_call_entry F.slot_tuple_iterator_next hT F.entry_tuple_iterator_next ?_ (F.args_tuple_iterator_next_1 _)))
 show wpAny _ _ (_ >>= _) _ _ _
 refine Ya (wpAny_of_eq (show slotArgs "__next__" 0 {pos:=[.ref it]}=pure (.ref it,[])from rfl) ?_)
 refine Ya (wpAny_field ho hd (x:=.ref t) rfl ?_)
 rw[Yd (by simp)]
 refine Ya (wpAny_field ho hd (x:=.int (i:Int) 0) rfl ?_)
 refine Ya (wpAny_seqItems hot hdt ?_)
 dsimp only
 rw[YX,hx]
 refine Ya (wpAny_setField ho hd (by show 1<2;decide) (Yg ⟨x,rfl,?_⟩))
 refine Yg (h _ ?_ ⟨by simp,λb hb=>Heap.get?_update_other _ _ (Ne.symm hb)⟩)
 obtain⟨cls,dict,data,slots⟩:=o
 simp only at hc hd
 subst hc hd
 exact⟨_,Heap.get?_update_self _ ho rfl,rfl,rfl⟩
theorem ZgN (hA:A.handled=none) (hi:s.heap.IsTupleIter it t i) (ht:s.heap.IsTuple t items) (hx:items[i]?=none) (h:∀h' e,Heap.ExtBut it s.heap h'->(∃o,h'.get? e=some o/\o.cls=.type "StopIteration")->E (.ref e) {s with heap:=h'}):wpAny (model prog w) A (Builtin.SmallTypes.nextOf (.ref it)) Q E s:=by
 obtain⟨o,ho,hc,hd⟩:=id hi
 obtain⟨ot,hot,hct,n,hdt⟩:=id ht
 have hT:s.TypeIs (.ref it) "tuple_iterator":=⟨o,ho,hc⟩
 unfold Builtin.SmallTypes.nextOf
 refine Ya (wpAny_callSpecial?_slot hT F.slot_tuple_iterator_next (wpAny_call_entry F.slot_tuple_iterator_next hT F.entry_tuple_iterator_next ?_ (F.args_tuple_iterator_next_1 _)))
 show wpAny _ _ (_ >>= _) _ _ _
 refine Ya (wpAny_of_eq (show slotArgs "__next__" 0 {pos:=[.ref it]}=pure (.ref it,[])from rfl) ?_)
 refine Ya (wpAny_field ho hd (x:=.ref t) rfl ?_)
 rw[Yd (by simp)]
 refine Ya (wpAny_field ho hd (x:=.int (i:Int) 0) rfl ?_)
 refine Ya (wpAny_seqItems hot hdt ?_)
 dsimp only
 rw[YX,hx]
 refine Ya (wpAny_rule (Ya (wpAny_setField ho hd (by show 0<2;decide) ?_)))
 unfold Builtin.SmallTypes.stopIteration
 refine Ya ?_
 unfold newExc
 refine Ya (wpAny_newTuple ?_ (Yv _))
 refine Ya (wpAny_of_eq (show firstArgMember (.type "StopIteration") []=pure .none by first|rfl|(unfold firstArgMember;rfl)) ?_)
 refine wpAny_newObj_type (wpAny_raiseNew_none hA (h _ _ (λb o' hb e=>?_) ⟨_,YE _ rfl,rfl⟩))
 exact Yo _ (Yo _ ((Heap.get?_update_other _ _ (Ne.symm hb)).trans e))
theorem Zg8 (hA:A.handled=none) (it t:Addr) (hne:t≠it) (items:Array Value):Draws prog w A it [it,t] items.size (λi v=>items[i]?=some v) (λi h=>h.IsTupleIter it t i/\h.IsTuple t items) where
 live:=λi h st=>by obtain⟨⟨o,ho,_⟩,_⟩:=st;exact⟨o,ho⟩
 frame:=λi h h' st k=>by
  obtain⟨⟨o,ho,r⟩,⟨ot,hot,rt⟩⟩:=st
  exact⟨⟨o,k it (by simp) o ho,r⟩,⟨ot,k t (by simp) ot hot,rt⟩⟩
 item:=λi s Q E hi st h=>by
  obtain⟨ot,hot,rt⟩:=st.2
  refine Zgf st.1 st.2 (Array.getElem?_eq_getElem hi) λh' hit hs=>h _ h' s.toks (Array.getElem?_eq_getElem hi) ⟨hit,⟨ot,(hs.2 t hne).trans hot,rt⟩⟩ hs
 done:=λs Q E st h=>ZgN hA st.1 st.2 (Array.getElem?_eq_none (Yc _)) h
end
section
variable {X:Cx}{pins:List (Addr×Obj)}{σ:St}{H:Hp}{s:Shared}{h':Heap}
noncomputable def IteT (K : Frag) (a : Addr) : It :=
  ⟨fun i H => ∃ xs x, SqT K H a xs ∧ xs[i]? = some x,
   fun i H v H' => ∃ p x, H p = none ∧ v = .ref p ∧ H' = upd H p (.tup [.int (i : Int), x]) ∧ ∀ xs, SqT K H a xs → xs[i]? = some x,
   fun i H => ∃ xs, SqT K H a xs ∧ xs.length = i⟩
theorem Zl5 {P:Program}{w:World}{K:Frag}{elts:List Expr} {x1}{pos:Pos}{a e it:Addr} (h1:e≠it) (h2:a≠e) (h3:a≠it) :
  Turn P w K (.Tuple elts x1 pos) (IteT K a) [e,it] e (λi h=>(∃old,IsEnum h e it (i:Int) old)/\h.IsTupleIter it a i) where
 mem:=by simp
 obj:=λi h st c hc=>by
  obtain⟨⟨old,q1⟩,⟨o4,q4,_,d4⟩⟩:=st
  simp at hc
  rcases hc with rfl|rfl
  ·exact⟨_,q1,λv z=>by cases z⟩
  ·exact⟨_,q4,λv z=>by rw[d4]at z;cases z⟩
 keep:=λi h h' st k=>by
  obtain⟨⟨old,q1⟩,⟨o,ho,r⟩⟩:=st
  exact⟨⟨old,k e (by simp) _ q1⟩,⟨o,k it (by simp) o ho,r⟩⟩
 item:=by
  intro X hP hw hK hc i pins s σ H E I hf st hg
  subst hP hw hK
  obtain⟨xs,x,qa,hx⟩:=hg
  obtain⟨is1,r1,p1,hz1⟩:=I.tuple qa
  obtain⟨u,hu,ru⟩:=r1.get hx
  have W:=WalksT.enumerateD (prog:=X.prog) (w:=X.w) (A:=X.A) (Zg8 (A:=X.A.in1) (I.ok.hd hc) it a h3 is1.toArray) e h1 (by simp;exact⟨h1,h2.symm⟩) (by simp)
  have hi:i<is1.toArray.size:=by
   have:=(Yh.mp hu).1
   simpa using this
  refine W.item i s _ E hi ⟨st.1,st.2,p1⟩ λT vals h' tk Pt hT hTup Mid keep=>⟨_,rfl,W.go elts x1 pos i T _ _ E Mid λh2' St2 keep2=>?_⟩
  obtain⟨t,y,hy,rfl⟩:=Pt
  have hyu:y=u:=by
   have:is1[i]?=some y:=by simpa using hy
   rw[hu]at this;exact(YD this).symm
  subst hyu
  have nT:=W.apart i T h' Mid
  have hfr:H T=none:=I.hok.fresh hT
  have kk:∀b o,b∉[e,it]->s.heap.get? b=some o->h2'.get? b=some o:=λb o hb q=>keep2 b o hb (keep b o hb q)
  have nTe:∀c∈[e,it],c≠T:=λc hc z=>nT (z▸hc)
  refine⟨.ref T,_,Inv.Zq9 (s:=s) (t':=tk) (o:=.tup [.int (i:Int),x]) I kk hf hT ?_,rfl,⟨T,x,hfr,rfl,rfl,λxs' q'=>?_⟩,⟨?_,St2.2.1⟩,λc hc=>?_⟩
  ·obtain⟨oT,q1,q2,n,q3⟩:=hTup
   exact⟨by show 2<=sizeLine;decide,[.int (i:Int) t,y],.cons ⟨t,rfl⟩ (.cons ru .nil),⟨oT,keep2 T oT nT q1,q2,n,q3⟩⟩
  ·rw[I.Zfd q' qa];exact hx
  ·obtain⟨old,q⟩:=St2.1
   exact⟨old,by rw[show(((i+1:Nat)):Int)=(i:Int)+1 by omega]at *;exact q⟩
  ·rw[Zh (nTe c hc)];exact(hf c hc).1
 done:=by
  intro X hP hw hK hc i pins s σ H E I hf st hg
  subst hP hw hK
  obtain⟨xs,qa,hx⟩:=hg
  obtain⟨is1,r1,p1,_⟩:=I.tuple qa
  have W:=WalksT.enumerateD (prog:=X.prog) (w:=X.w) (A:=X.A) (Zg8 (A:=X.A.in1) (I.ok.hd hc) it a h3 is1.toArray) e h1 (by simp;exact⟨h1,h2.symm⟩) (by simp)
  have hi:i=is1.toArray.size:=by
   have:=r1.length
   simp;omega
  refine W.done s _ E ?_ λh' tk keep=>⟨rfl,I.Zq1 (t':=tk) (fp:=[e,it]) (λc o hc q=>keep c o hc q) hf⟩
  rw[<-hi]
  exact⟨st.1,st.2,p1⟩
 self:=λA i s Q E st h=>by
  obtain⟨⟨old,q⟩,_⟩:=st
  exact wpAny_pyIter_enum q h
theorem Zl6 {M:Model}{A:Around}{E:Value->Shared->Prop}{s:Shared} (cls:Value):wpAny M A (Builtin.SmallTypes.calledThroughType cls) (λ_ s'=>s'=s) E s:=by
 unfold Builtin.SmallTypes.calledThroughType
 exact Ya (wpAny_stack λst _ _ _=>Yg rfl)
theorem Zk5 {prog:Program}{w:World} (l:Addr) (items:Array Value):MeetsIn prog w (Builtin.«enumerate.__new__» {pos:=[.type "enumerate",.ref l]}) λA R s=>s.heap.IsTuple l items/\R (.ok (.ret (.ref (s.heap.objs.size+1)))) {s with heap:=(s.heap.push {cls:=.type "tuple_iterator",data:=.fields #[.ref l,.int 0 0]}).push {cls:=.type "enumerate",data:=.fields #[.none,.bool false,.ref s.heap.objs.size,rawInt 0,.none,.none]}}:=by
 intro A R s ⟨h,hR⟩
 unfold Builtin.«enumerate.__new__»
 refine Ya (wpAny_of_eq (show Builtin.SmallTypes.newClass "enumerate" {pos:=[.type "enumerate",.ref l]}=pure (.type "enumerate",[.ref l])from by first|rfl|(unfold Builtin.SmallTypes.newClass;rfl)) ?_)
 show wpAny _ _ (_ >>= _) _ _ _
 have hsz:(s.heap.push {cls:=.type "tuple_iterator",data:=.fields #[.ref l,.int 0 0]}).objs.size=s.heap.objs.size+1:=Heap.size_push _ _
 refine Ya (thn (Zl6 (.type "enumerate")) λb s' e=>?_)
 subst e
 cases b with
 |true =>
  show wpAny _ _ (_ >>= _) _ _ _
  refine Ya (wpAny_of_eq (show _=pure (.ref l,none)from rfl) ?_)
  show wpAny _ _ (_ >>= _) _ _ _
  refine Ya (wpAny_pyIter_tuple h ?_)
  show wpAny _ _ (newObj (.type "enumerate") (.fields #[.none,.bool false,.ref s'.heap.objs.size,rawInt 0,.none,.none]) >>= _) _ _ _
  refine Ya (wpAny_newObj_type (Yg ?_))
  rw[hsz];exact hR
 |false =>
  show wpAny _ _ (_ >>= _) _ _ _
  refine Ya (wpAny_of_eq (show _=pure (.ref l,none)from rfl) ?_)
  show wpAny _ _ (_ >>= _) _ _ _
  refine Ya (wpAny_pyIter_tuple h ?_)
  show wpAny _ _ (newObj (.type "enumerate") (.fields #[.none,.bool false,.ref s'.heap.objs.size,rawInt 0,.none,.none]) >>= _) _ _ _
  refine Ya (wpAny_newObj_type (Yg ?_))
  rw[hsz];exact hR
noncomputable def Zl7 (K:Frag) (ta:TA):TI:=fun σ H R=>ta σ H λvs H1=>∃a xs,vs=[.ref a]/\SqT K H1 a xs/\R (IteT K a) H1
theorem ZoW {K:Frag}{elts:List Expr} {x1}{tp:Pos}{e1:Expr}{ta:TA}{p pos:Pos} (hK:X.K=K) (hg:Gl X "enumerate") (hm:X.mg "enumerate"=none) (ha:PA X [e1] ta) (hs:starEach [e1] X.env=[(false,eval e1 X.env)]:=by rfl) :
  PI X (.Tuple elts x1 tp) (.Call (.Name "enumerate" p) [e1] [] pos) (Zl7 K ta):=by
 subst hK
 intro pins s σ H R I h
 refine wpAny_Call_Name_kw (Zcg I hg hm Zl2 ?_)
 refine PyProof.Rows.callWith_type1 (thn (ha pos pins s σ H _ I h) λus s1 ⟨vs,H1,I1,r1,a,xs,e1,qa,q⟩=>?_) hs rfl
 subst e1
 obtain⟨u,rfl,ru⟩:=r1.one
 cases(show u=Value.ref a from ru)
 obtain⟨is1,rr1,p1,_⟩:=I1.tuple qa
 have l1:a<s1.heap.objs.size:=by obtain⟨o,e,_⟩:=p1;exact Yl e
 have sm:∀b,s1.heap.objs.size<=b->FpOk X pins H1 b:=λb hb=>I1.fpOk hb (I1.hok.fresh hb)
 have n1:s1.heap.objs.size+1≠s1.heap.objs.size:=by show ¬ ((_:Nat)=_);omega
 have n2:a≠s1.heap.objs.size+1:=Yp (YR l1)
 have n3:a≠s1.heap.objs.size:=Yp l1
 have T:=Zl5 (P:=X.prog) (w:=X.w) (K:=X.K) (elts:=elts) (x1:=x1) (pos:=tp) n1 n2 n3
 have hsz:(s1.heap.push {cls:=.type "tuple_iterator",data:=.fields #[.ref a,.int 0 0]}).objs.size=s1.heap.objs.size+1:=Heap.size_push _ _
 have c1:IsEnum ((s1.heap.push {cls:=.type "tuple_iterator",data:=.fields #[.ref a,.int 0 0]}).push {cls:=.type "enumerate",data:=.fields #[.none,.bool false,.ref s1.heap.objs.size,rawInt 0,.none,.none]}) (s1.heap.objs.size+1) s1.heap.objs.size 0 .none:=by
  show Heap.get? _ _=_
  rw[<-hsz];exact YE _ rfl
 have c2:((s1.heap.push {cls:=.type "tuple_iterator",data:=.fields #[.ref a,.int 0 0]}).push {cls:=.type "enumerate",data:=.fields #[.none,.bool false,.ref s1.heap.objs.size,rawInt 0,.none,.none]}).IsTupleIter s1.heap.objs.size a 0:=⟨_,Yo _ (YE _ rfl),rfl,rfl⟩
 refine callType_newIn F.called_enumerate rfl (by first|rfl|decide) (F.newCall_enumerate_1 _) (λobj=>by first|rfl|decide) F.entry_enumerate_new (Zk5 a is1.toArray) ⟨p1,⟨_,c1,rfl⟩,?_⟩
 refine T.self _ 0 _ _ _ ⟨⟨_,c1⟩,c2⟩ ?_
 refine⟨_,[s1.heap.objs.size+1,s1.heap.objs.size],_,_,H1,rfl,I1.kept (t':=s1.toks) (λb o e=>Yo _ (Yo _ e)),T,⟨⟨_,c1⟩,c2⟩,λc hc=>?_,q⟩
 simp at hc
 rcases hc with rfl|rfl<;>exact sm _ (by omega)
end
open Classical in
noncomputable def ZfJ (f:Nat->Int) (p:Nat):Int:=if h:∃q,Z9 f p q then (Classical.choose h:Nat)else -1
open Classical in
noncomputable def ZgO (f:Nat->Int) (n p:Nat):Int:=if h:∃r,Z5 f n p r then (Classical.choose h:Nat)else (n:Int)
theorem ZdB {f:Nat->Int}{p q:Nat} (h:Z9 f p q):ZfJ f p=q:=by
 have hx:∃q,Z9 f p q:=⟨q,h⟩
 unfold ZfJ
 rw[dif_pos hx,(Classical.choose_spec hx).unique h]
theorem ZhC {f:Nat->Int}{p:Nat} (h:ZcY f p):ZfJ f p=-1:=by
 unfold ZfJ
 rw[dif_neg λ⟨q,hq⟩=>hq.no h]
theorem Zfh {f:Nat->Int}{n p r:Nat} (h:Z5 f n p r):ZgO f n p=r:=by
 have hx:∃r,Z5 f n p r:=⟨r,h⟩
 unfold ZgO
 rw[dif_pos hx,(Classical.choose_spec hx).unique h]
theorem Zj4 {f:Nat->Int}{n p:Nat} (h:ZbT f n p):ZgO f n p=n:=by
 unfold ZgO
 rw[dif_neg λ⟨q,hq⟩=>hq.no h]
theorem Zgg {f:Nat->Int}{n p:Nat}{e:Int} (h:Zy f n p e):(ZcY f p\/∃q,Z9 f p q)/\(ZbT f n p\/∃r,Z5 f n p r):=by
 rcases h with⟨h1,h2,_⟩|⟨q,h1,h2,_⟩|⟨r,h1,h2,_⟩|⟨q,r,h1,h2,_⟩
 ·exact⟨.inl h1,.inl h2⟩
 ·exact⟨.inr ⟨q,h1⟩,.inl h2⟩
 ·exact⟨.inl h1,.inr ⟨r,h2⟩⟩
 ·exact⟨.inr ⟨q,h1⟩,.inr ⟨r,h2⟩⟩
noncomputable def Zm6 (f:Nat->Int) (p:Nat):Int:=if 0<=ZfJ f p then (p:Int)-ZfJ f p else 0
theorem Zk6 {f:Nat->Int} (v:Int):∀S:List Nat,S.Pairwise (λa b=>f a<=f b)->∃A B,S=A++B/\(∀q∈A,f q<=v)/\∀q∈B,v<f q
 |[],_=>⟨[],[],rfl,λ_ h=>(nomatch h),λ_ h=>(nomatch h)⟩
 |q::r,h=>by
  have hr:=Ja.mp h
  by_cases z:f q<=v
  ·obtain⟨A,B,e,h1,h2⟩:=Zk6 v r hr.2
   refine⟨q::A,B,by rw[e];rfl,λx hx=>?_,h2⟩
   rcases Yk.mp hx with y|y
   ·rw[y];exact z
   ·exact h1 x y
  ·refine⟨[],q::r,rfl,λ_ h=>(nomatch h),λx hx=>?_⟩
   rcases Yk.mp hx with y|y
   ·rw[y];omega
   ·have:=hr.1 x y;omega
theorem ZhU.mono {f:Nat->Int}{i:Nat}{S:List Nat} (h:ZhU f i S):S.Pairwise (λa b=>f a<=f b):=by
 refine List.Pairwise.imp_of_mem ?_ h.1
 intro a b ha hb hab
 exact((h.2 a).mp ha).2 b hab ((h.2 b).mp hb).1
theorem ZoX {J:It}{n:Nat}{g:TG}{tb:TS}{D:Ends}{σ:St}{H:Hp} (Pv:Nat->St->Hp->Prop) (h0:Pv 0 σ H) (hgo:∀i σ H,i<n->Pv i σ H->J.go i H) (hstop:∀σ H,Pv n σ H->J.stop n H)
  (hs:∀i x σ H H',i<n->Pv i σ H->J.yld i H x H'->g x σ H' fun σ2 H2=>tb {D with nx:=Pv (i+1),ct:=Pv (i+1),bk:=D.nx} σ2 H2) (hd:∀σ H,Pv n σ H->D.nx σ H):LoopR J g tb D σ H:=by
 refine⟨λi m σ H=>m=n-i/\i<=n/\Pv i σ H,⟨n,by simp,Yv _,h0⟩,?_⟩
 rintro i m σ H ⟨rfl,hi,p⟩
 by_cases hlt:i<n
 ·exact .inr ⟨hgo i σ H hlt p,Pv (i+1),fun σ' H' p'=>⟨n-(i+1),by omega,rfl,hlt,p'⟩,λx H' y=>hs i x σ H H' hlt p y⟩
 ·have:i=n:=by omega
  subst this
  exact .inl ⟨hstop σ H p,hd σ H p⟩
end L2
namespace PySem
open Sem (wp)
end PySem
namespace L2
open PySem PySem.Spec PyProof.Rows PySem.W
section
variable {prog:Program}{w:World}{A:Around}{E:Value->Shared->Prop}{s:Shared}{z TI TO i1 i2 l1 l2:Addr}{k1 k2:Nat}{xs ys:Array Value}{a b:Value}
noncomputable def ZoY (h:Heap) (l:Addr):String:=match h.get? l with
 |some o=>if o.cls=.type "tuple" then "tuple_iterator" else "list_iterator"
 |none=>"list_iterator"
noncomputable abbrev zq1 (h:Heap) (l1:Addr):Heap:=h.push {cls:=.type (ZoY h l1),data:=.fields #[.ref l1,.int 0 0]}
noncomputable abbrev zq2 (h:Heap) (l1 l2:Addr):Heap:=(zq1 h l1).push {cls:=.type (ZoY (zq1 h l1) l2),data:=.fields #[.ref l2,.int 0 0]}
noncomputable abbrev zq3 (h:Heap) (l1 l2:Addr):Heap:=(zq2 h l1 l2).push {cls:=.type "tuple",data:=.seq #[.ref h.objs.size,.ref (zq1 h l1).objs.size]}
end
theorem cut_m1 (xs:List V):Zfo xs (some (-1)) none=xs.drop (xs.length-1):=by
 unfold Zfo HT.sIx
 cases xs with
 |nil=>simp
 |cons x r =>
  simp
  have e:(-1+((r.length:Int)+1)).toNat=r.length:=by omega
  rw[e]
  exact List.take_of_length_le (by simp)
theorem Zbk {f:Nat->Int}{n p:Nat} (hp:p<n) {a b:Nat} (hb:b<n):ZK f a b p↔ZfJ f p<a/\a<=p/\p<=b/\(b:Int)<ZgO f n p:=by
 obtain⟨hA,hB⟩:=Zgg (ZeD (f:=f) hp)
 constructor
 ·rintro⟨h1,h2,h3,h4⟩
  refine⟨?_,h1,h2,?_⟩
  ·rcases hA with hA|⟨q,hA⟩
   ·rw[ZhC hA];omega
   ·rw[ZdB hA]
    by_cases z:q<a
    ·omega
    ·have:=h3 q (by omega) hA.1;have:=hA.2.1;omega
  ·rcases hB with hB|⟨r,hB⟩
   ·rw[Zj4 hB];omega
   ·rw[Zfh hB]
    by_cases z:b<r
    ·omega
    ·have:=h4 r hB.1 (by omega);have:=hB.2.2.1;omega
 ·rintro⟨h1,h2,h3,h4⟩
  refine⟨h2,h3,λq q1 q2=>?_,λq q1 q2=>?_⟩
  ·rcases hA with hA|⟨r,hA⟩
   ·exact hA q q2
   ·rw[ZdB hA]at h1
    exact hA.2.2 q (by omega) q2
  ·rcases hB with hB|⟨r,hB⟩
   ·exact hB q q1 (by omega)
   ·rw[Zfh hB]at h4
    exact hB.2.2.2 q q1 (by omega)
theorem Zj5 {f:Nat->Int}{n p:Nat} (hp:p<n):-1<=ZfJ f p/\ZfJ f p<p/\(p:Int)<ZgO f n p/\ZgO f n p<=n:=by
 obtain⟨hA,hB⟩:=Zgg (ZeD (f:=f) hp)
 have a1:-1<=ZfJ f p/\ZfJ f p<p:=by
  rcases hA with hA|⟨q,hA⟩
  ·rw[ZhC hA];omega
  ·rw[ZdB hA];have:=hA.1;omega
 have a2:(p:Int)<ZgO f n p/\ZgO f n p<=n:=by
  rcases hB with hB|⟨q,hB⟩
  ·rw[Zj4 hB];omega
  ·rw[Zfh hB];have:=hB.1;have:=hB.2.1;omega
 exact⟨a1.1,a1.2,a2.1,a2.2⟩
noncomputable def Zck (T:List Int):Nat->Int->Prop
 |0,a=>a=-1
 |k+1,a=>a=-1\/(0<=a/\a<T.length/\Zck T k (nth T a.toNat))
theorem Zl8 (T:List Int) (k:Nat):Zck T k (-1):=by cases k<;>simp[Zck]
theorem Zg9 (T:List Int):∀k a,Zck T k a->Zck T (k+1) a
 |0,a,h=>.inl h
 |k+1,a,h=>by
  rcases h with h|⟨h1,h2,h3⟩
  ·exact .inl h
  ·exact .inr ⟨h1,h2,Zg9 T k _ h3⟩
theorem ZnR (T:List Int) {k m:Nat} (h:k<=m) {a:Int} (e:Zck T k a):Zck T m a:=by
 induction h with
 |refl=>exact e
 |step _ ih=>exact Zg9 T _ _ ih
theorem Zha {ns T:List Int} (hT:Zs ns T):∀d p,p<ns.length->dep (nth ns) ns.length p<=d->Zck T (d+1) (p:Int)
 |d,p,hp,hd=>by
  have e:=hT.1
  refine .inr ⟨by omega,by omega,?_⟩
  have ep:((p:Int)).toNat=p:=by omega
  rw[ep]
  rcases ZcE hT hp with z|⟨q,z,hq,_,hz⟩
  ·rw[z];exact Zl8 T d
  ·rw[z]
   cases d with
   |zero=>omega
   |succ d=>exact Zha hT d q hq (by omega)
theorem Zl9 {ns T:List Int} (hT:Zs ns T) {p:Nat} (hp:p<T.length):Zck T T.length (nth T p):=by
 have e:=hT.1
 have h:=Zha hT (dep (nth ns) ns.length p) p (by omega) (Yc _)
 rcases h with h|⟨_,_,h⟩
 ·omega
 ·have ep:((p:Int)).toNat=p:=by omega
  rw[ep]at h
  have:=Zl0 (f:=nth ns) (n:=ns.length) (p:=p) (by omega)
  exact ZnR T (by omega) h
theorem Zm7 {K:Frag}{Hx:Hp}{l q:Addr}{L:List Nat} (h1:Hx l=some (.lst (ZC L))) (h2:Hx q=some (.lst [])):EqD K Hx 3 (V.ref l) (V.ref q) (decide (L=[])):=by
 have hh:=Zm0 (n:=2) (K:=K) (H:=Hx) Zj0 (V.ref l) (V.ref q) (L.map λ(q:Nat)=>(q:Int)) [] (Zdx (SqL.of (by rw[h1];simp[ZC,Function.comp_def]))) (Zdx (ns:=[]) (SqL.of h2))
 have e:decide (L.map (λ(q:Nat)=>(q:Int))=[])=decide (L=[]):=by cases L<;>simp
 rw[e]at hh;exact hh
noncomputable def CDivL (i j:Int):Prop:=0<j/\j<18446744073709551616
theorem Zh0 {X:Cx}:OpR X (binaryOp .FloorDiv) (rI CDivL λi j=>.int (i / j)):=opI λi j _ _ _ _ _ hc q=>by
 have h1:(0:Int)<j:=hc.1
 have h2:j<18446744073709551616:=hc.2
 refine floordiv_int (by omega) (by rw[Int.fdiv_eq_ediv_of_nonneg i (by omega)];exact q) (.inl (PyProof.noPylong_of_log2 ?_))
 have h3:j.natAbs<2 ^ 64:=by omega
 have:j.natAbs.log2<64:=(Nat.log2_lt (by omega)).mpr h3
 omega
end L2
namespace L2
theorem snoc_cases {α:Type} (xs:List α):xs=[]\/∃ys y,xs=ys++[y]:=by
 rcases List.eq_nil_or_concat xs with h|⟨ys,y,h⟩
 ·exact .inl h
 ·exact .inr ⟨ys,y,by rw[h,List.concat_eq_append]⟩
end L2
namespace L2
open PySem PySem.Spec PyProof.Rows PySem.W
theorem ZoZ (xs:List V) {a c:Nat} (h1:a<=c) (h2:c<=xs.length):Zfo xs (some (a:Int)) (some (c:Int))=(xs.drop a).take (c-a):=by
 unfold Zfo
 rw[HT.ZmM,HT.ZmM,Nat.min_eq_left h2,Nat.min_eq_left (Ym h1 h2)]
theorem Zo0 (ns:List Int) {a c:Nat} (h1:a<=c) (h2:c<=ns.length):Zfo (ns.map V.int) (some (a:Int)) (some (c:Int))=(Zl4 ns a (c-a)).map V.int:=by
 rw[ZoZ _ h1 (by simpa using h2)]
 unfold Zl4
 rw[List.map_take,List.map_drop]
noncomputable def sw (d:Int) (k:Nat):Int:=if d<=k then d else 0
theorem Zk7 (f:Nat->Int) (p:Nat):(ZcY f p/\Zm6 f p=0)\/∃q,Z9 f p q/\Zm6 f p=(p:Int)-q:=by
 rcases Zj2 f p with h|⟨q,h⟩
 ·exact .inl ⟨h,by unfold Zm6;rw[ZhC h,Yd (by omega)]⟩
 ·exact .inr ⟨q,h,by unfold Zm6;rw[ZdB h,Ye (by omega)]⟩
end L2
namespace L2
open PySem PySem.Spec PyProof.Rows PySem.W
structure FunD (K:PySem.W.Frag) (x qual:Str) (st:Stmt) (f:Addr) (fd:FuncData) (dV:Value):Prop where
 ex:∃(oc:Value) (od:Option Addr) (kV doc pm:Value) (an:Option Addr) (cdv ct:Value) (osl:Array (Option Value)),
  fd=PySem.W.fnOf x qual (defArgs st) (defBody st) (defScope st) dV kV doc pm an cdv ct/\K.lookup f=some ⟨oc,od,.func fd,osl⟩/\PySem.W.codeIn K cdv qual=true
 kp:PySem.W.keepIn K (.ref f)=true
section
variable {P:Program}{w:World}{K:PySem.W.Frag}{mg:Str->Option Value}{base:Heap}
theorem FunD.okX {x qual:Str}{st:Stmt}{f:Addr}{fd:FuncData}{dV:Value}{N ps:List Str}{k:Nat}{sp:Sp} (F:FunD K x qual st f fd dV) (S:FnScope N ps (defScope st)) (len:∀vs H Q E,sp vs H Q E->vs.length=ps.length)
  (hbody:∀(cdv:Value) (A:Around) (outer:List Env) (s:Shared) (H:Hp) (vs:List V) (Q:VK) (E:XK),Room k (A.deeper (envOfC qual (defScope st) s.heap.objs.size f cdv))->sp vs H Q E ->
   ∃t,PSs (ZfF (CXE P w) P w K mg base N qual (defScope st) f cdv A outer s H E) (defBody st) t/\t {nx:=λ_ H'=>Q .non H',rt:=Q} (start N vs) H):FnOk P w K mg base (CXE P w) (k+1) f fd ps sp:=by
 obtain⟨oc,od,kV,doc,pm,an,cdv,ct,osl,rfl,lk,hcd⟩:=F.ex
 exact ZoD lk hcd S len λA outer s H vs Q E hr hsp=>hbody cdv A outer s H vs Q E hr hsp
theorem FunD.binds {x qual:Str}{st:Stmt}{f:Addr}{fd:FuncData}{D:Addr}{ps:List Str}{ds:List Value}{oc:Value}{od:Option Addr}{items:Array Value}{ep:Nat}{sl:Array (Option Value)} (F:FunD K x qual st f fd (.ref D))
  (lk:K.lookup D=some ⟨oc,od,.seq items ep,sl⟩)
  (h:∀(kV doc pm:Value) (an:Option Addr) (cdv ct:Value) (us:List Value),(us++ds).length=ps.length->∃k,bindArgs (PySem.W.fnOf x qual (defArgs st) (defBody st) (defScope st) (.ref D) kV doc pm an cdv ct) ⟨us,[]⟩=seqItems? (.ref D) >>= k/\k (some items)=pure (ps.zip (us++ds))):Binds K fd ps ds:=by
 obtain⟨oc,od,kV,doc,pm,an,cdv,ct,osl,rfl,lf,hcd⟩:=F.ex
 intro s us KX hl
 obtain⟨k,h1,h2⟩:=h kV doc pm an cdv ct us hl
 exact BindsTo.of_defaults rfl (KX _ _ lk) rfl h1 h2
theorem Zra {x qual:Str}{st:Stmt}{f:Addr}{oc:Value}{od an:Option Addr}{osl:Array (Option Value)}{dV kV doc pm cdv ct:Value} (l:K.lookup f=some ⟨oc,od,.func (PySem.W.fnOf x qual (defArgs st) (defBody st) (defScope st) dV kV doc pm an cdv ct),osl⟩)
  (c:PySem.W.codeIn K cdv qual=true) (k:PySem.W.keepIn K (.ref f)=true):FunD K x qual st f (PySem.W.fnOf x qual (defArgs st) (defBody st) (defScope st) dV kV doc pm an cdv ct) dV:=⟨⟨oc,od,kV,doc,pm,an,cdv,ct,osl,rfl,l,c⟩,k⟩
end
noncomputable def Zj6 (P:Program) (w:World) (K:Frag) (mg:Str->Option Value) (base:Heap) (x:Str) (k:Nat) (ps:List Str) (dvs:List V) (sp:Sp):Prop :=
 ∃f fd ds,mg x=some (.ref f)/\keepIn K (.ref f)=true/\Binds K fd ps ds/\Vals dvs ds/\FnOk P w K mg base (CXE P w) k f fd ps sp
theorem ZnS {X:Cx}{x:Str}{k:Nat}{ps:List Str}{dvs:List V}{sp:Sp}{E:XK}{e:Expr}{es:List Expr}{t:TA}{p pos:Pos} (C:Zj6 X.prog X.w X.K X.mg X.base x k ps dvs sp) (hr:Room k X.A) (hg:Gl X x) (hx:Passes (CXE X.prog X.w) X E)
  (ha:PA X (e::es) t) (hdb:(x==("__debug__":Str))=false:=by decide) (he:starEach (e::es) X.env=(false,eval e X.env)::starEach es X.env:=by rfl) (hpl:(backTo pos (starEach es X.env)).any (·.1)=false:=by rfl) :
  PE X (.Call (.Name x p) (e::es) [] pos) (ZkM sp dvs E t):=by
 obtain⟨f,fd,ds,hm,hk,hb,hv,F⟩:=C
 exact ZmL F hr hg hm hk hb hv hx ha hdb he hpl
theorem ZdC {f g:Nat->Int}{s n:Nat} (h:∀k,k<n->g k=f (s+k)) (a:Nat):∀c,a+c<n->ZgK f (s+a) c=s+ZgK g a c:=by
 intro c
 induction c with
 |zero=>intro _;rfl
 |succ c ih =>
  intro k
  have b:=(Zm2 g a c).2
  rw[ZgK,ZgK,ih (by omega),<-h (ZgK g a c) (by omega),show s+a+c+1=s+(a+c+1) by omega,<-h (a+c+1) (by omega)]
  split<;>rfl
noncomputable def Zx (H:Hp) (l:Addr) (rs:List (List Int)):Prop:=∃as:List Addr,H l=some (.lst (as.map V.ref))/\as.length=rs.length/\∀i (h1:i<as.length) (h2:i<rs.length),H as[i]=some (.tup (rs[i].map V.int))
theorem Zx.same {H H':Hp}{l:Addr}{rs:List (List Int)} (R:Zx H l rs) (s:Ze H H'):Zx H' l rs:=by
 obtain⟨as,h1,h2,h3⟩:=R
 exact⟨as,s _ _ h1,h2,λi i1 i2=>s _ _ (h3 i i1 i2)⟩
theorem Zx.nil {H:Hp}{l:Addr} (h:H l=some (.lst [])):Zx H l []:=⟨[],h,rfl,λi i1=>absurd i1 (by simp)⟩
theorem Zx.isL {K:Frag}{H:Hp}{l:Addr}{rs:List (List Int)} (R:Zx H l rs):IsL K H (IsT K H IsI) (.ref l) rs:=by
 obtain⟨as,h1,h2,h3⟩:=R
 refine⟨l,_,rfl,SqL.of h1,by simp[h2],λj x y e1 e2=>?_⟩
 have j2:=(Yh.mp e2).1
 have j1:j<as.length:=by omega
 rw[YB,Yb j1]at e1
 rw[Yb j2]at e2
 cases e1
 cases e2
 exact Zga (SqT.of (h3 j j1 j2))
noncomputable def Once (k:Nat) (ss ls:List Int):Prop:=ss=((List.range k).map λ(j:Nat)=>(j:Int)).filter (λj=>decide (j∉ls))/\ls=((List.range k).map λ(j:Nat)=>(j:Int)).filter (λj=>decide (j∈ls))
noncomputable instance (k:Nat) (ss ls:List Int):Decidable (Once k ss ls):=inferInstanceAs (Decidable (_/\_))
theorem Zx.walk {K:Frag}{H1:Hp}{d:Addr}{rs:List (List Int)} (R:Zx H1 d rs):(∀i H,Ze H1 H->i<rs.length->(Itl K d).go i H)/\(∀H,Ze H1 H->(Itl K d).stop rs.length H) /\
  ∀i x H H' (h:i<rs.length),Ze H1 H->(Itl K d).yld i H x H'->H'=H/\∃a,x=.ref a/\H a=some (.tup (rs[i].map V.int)):=by
 obtain⟨as,e,hl,hh⟩:=R
 refine⟨λi H s hi=>⟨_,V.ref (as[i]'(by omega)),SqL.of (s _ _ e),by simp[show i<as.length by omega]⟩,λH s=>⟨_,SqL.of (s _ _ e),by simp[hl]⟩,λi x H H' hi s y=>?_⟩
 obtain⟨e1,y⟩:=y
 have h1:=y _ (SqL.of (s _ _ e))
 rw[YB,Yb (show i<as.length by omega)]at h1
 cases h1
 exact⟨e1,_,rfl,s _ _ (hh i (by omega) hi)⟩
theorem Zx.sq {K:Frag}{H:Hp}{l:Addr}{rs:List (List Int)} (R:Zx H l rs):∃xs,SqL K H l xs:=by
 obtain⟨as,e,_⟩:=R
 exact⟨_,SqL.of e⟩
theorem Zjq {K:Frag}{H:Hp}{n:Nat}{a c:Addr}{xs:List V} (h1:H a=some (.lst xs)) (h2:H c=some (.lst [])):EqD K H (n+1) (.ref a) (.ref c) (decide (xs=[])):=by
 cases xs with
 |nil =>
  have:=EqD.lst (K:=K) (H:=H) (n:=n) (λ_=>true) (SqL.of h1) (SqL.of h2) rfl λj x y e1 e2=>by simp at e1
  simpa using this
 |cons x xs =>
  have:=EqD.len (K:=K) (H:=H) (n:=n) (SqL.of h1) (SqL.of h2) (by simp)
  simpa using this
theorem Zk8 {l m:List Int} (p:l.Perm m) (s:l.Pairwise (·<=·)) (t:m.Pairwise (·<=·)):l=m :=
 p.eq_of_pairwise (λa b _ _ h1 h2=>Int.le_antisymm h1 h2) s t
section
variable {N:Nat}{k:Nat->Int}{cmp:Nat->Nat->(Bool->Shared->Prop)->Shared->Prop}{s:Shared}{p:Array Nat}
noncomputable def kk (k:Nat->Int) (p:Array Nat) (i:Nat):Int:=k (p.getD i 0)
end
theorem Zx.keep {H H':Hp}{l:Addr}{rs:List (List Int)} (R:Zx H l rs) (h1:∀xs,H l=some (.lst xs)->H' l=some (.lst xs)) (h2:∀a xs,H a=some (.tup xs)->H' a=some (.tup xs)):Zx H' l rs:=by
 obtain⟨as,e,hl,h⟩:=R
 exact⟨as,h1 _ e,hl,λi i1 i2=>h2 _ _ (h i i1 i2)⟩
theorem Zjr {ns T:List Int} (hT:Zs ns T):∀k p o,p<ns.length->(way T p).length=k->o∈way T p->∃X,way T p=X++o::way T o:=by
 intro k
 induction k with
 |zero =>
  intro p o hp hk ho
  rw[List.length_eq_zero_iff.mp hk]at ho
  cases ho
 |succ k ih =>
  intro p o hp hk ho
  rcases ZcE hT hp with z|⟨q,e,hq,_,_⟩
  ·rw[Zm4 z]at ho;cases ho
  ·have hw:=ZdA hT hp e
   rw[hw]at ho hk⊢
   rcases Yk.mp ho with rfl|ho
   ·exact⟨[],rfl⟩
   ·obtain⟨X,hX⟩:=ih q o hq (by simpa using hk) ho
    exact⟨q::X,by rw[hX];rfl⟩
theorem ZnT (Y:List Int) (m:Int):atI ((Y++[m]).map V.int) (-1)=some (V.int m):=atI_m1 (by simp) (by simp)
theorem Zrb (f:Nat->Int) (n p:Nat):ZbT f n p\/∃r,Z5 f n p r:=by
 by_cases h:∀j,j<n-(p+1)->f p<=f (p+1+j)
 ·exact .inl λr h1 h2=>by
   have:=h (r-(p+1)) (by omega)
   rwa [show p+1+(r-(p+1))=r by omega]at this
 ·obtain⟨j,hj,h1,h2⟩:=Zjo _ h
  refine .inr ⟨p+1+j,by omega,by omega,by omega,λs s1 s2=>?_⟩
  have:=h2 (s-(p+1)) (by omega)
  rwa [show p+1+(s-(p+1))=s by omega]at this
noncomputable def Zo1 (f:Nat->Int) (p k:Nat):Prop:=p<k/\f k<f p/\∀s,p<s->s<k->f p<=f s
open Classical in
noncomputable def Zj7 (f:Nat->Int) (k:Nat):Nat:=(List.range k).countP λp=>decide (Zo1 f p k)
theorem ZnU {B:List Nat}{n:Nat} (hB:B.Nodup) (hlt:∀q∈B,q<n):(List.range n).countP (λp=>decide (p∈B))=B.length:=by
 rw[List.countP_eq_length_filter]
 refine List.Perm.length_eq ((List.perm_ext_iff_of_nodup (List.nodup_range.filter _) hB).mpr λa=>?_)
 rw[YG,Yq,decide_eq_true_iff]
 exact⟨λh=>h.2,λh=>⟨hlt a h,h⟩⟩
theorem Zma {f:Nat->Int}{i:Nat}{A B:List Nat} (hs:ZhU f i (A++B)) (hA:∀q∈A,f q<=f i) (hB:∀q∈B,f i<f q):Zj7 f i=B.length:=by
 have hm:∀p,Zo1 f p i↔p∈B:=λp=>by
  constructor
  ·rintro⟨h1,h2,h3⟩
   rcases Yy.mp ((hs.2 p).mpr ⟨h1,h3⟩)with z|z
   ·have:=hA p z;omega
   ·exact z
  ·intro z
   obtain⟨h1,h2⟩:=(hs.2 p).mp (Yj _ z)
   exact⟨h1,hB p z,h2⟩
 have nd:B.Nodup:=(List.pairwise_append.mp hs.1).2.1.imp λh=>Yp h
 have hlt:∀q∈B,q<i:=λq hq=>((hs.2 q).mp (Yj _ hq)).1
 unfold Zj7
 rw[<-ZnU nd hlt]
 refine List.countP_congr λp _=>?_
 simp[hm p]
noncomputable def Zae (ds:List Nat):Nat->List Nat×List Int
 |0=>([],List.replicate ds.length (-1))
 |i+1=>(((Zae ds i).1.take ((Zae ds i).1.length-ds.getD i 0))++[i],Zfq (Zae ds i).2 ((Zae ds i).1.take ((Zae ds i).1.length-ds.getD i 0)) ((Zae ds i).1.drop ((Zae ds i).1.length-ds.getD i 0)) i)
theorem Zk9 {ds:List Nat}{i:Nat}{A B:List Nat} (h:(Zae ds i).1=A++B) (hB:B.length=ds.getD i 0):Zae ds (i+1)=(A++[i],Zfq (Zae ds i).2 A B i):=by
 have e:(Zae ds i).1.length-ds.getD i 0=A.length:=by rw[h,YH];omega
 show(((Zae ds i).1.take ((Zae ds i).1.length-ds.getD i 0))++[i],Zfq (Zae ds i).2 ((Zae ds i).1.take ((Zae ds i).1.length-ds.getD i 0)) ((Zae ds i).1.drop ((Zae ds i).1.length-ds.getD i 0)) i)=_
 rw[e,h,List.take_left,List.drop_left]
noncomputable def ZeF (f:Nat->Int) (n:Nat):List Nat:=(List.range n).map (Zj7 f)
theorem Zh1 (f:Nat->Int) (n:Nat):(ZeF f n).length=n:=by simp[ZeF]
theorem ZnV {f:Nat->Int}{n k:Nat} (h:k<n):(ZeF f n).getD k 0=Zj7 f k:=by simp[ZeF,Yi,h]
end L2
namespace L2
open PySem PySem.Spec PyProof.Rows PySem.W
theorem Zh2 (ns:List Int):∀i,i<=ns.length->∃S es,Zae (ZeF (nth ns) ns.length) i=(S,es)/\ZhU (nth ns) i S/\es.length=ns.length/\(∀p,p<i->Zy (nth ns) i p (es.getD p 0))/\∀p,i<=p->p<ns.length->es.getD p 0=-1
 |0,_=>⟨[],List.replicate (ZeF (nth ns) ns.length).length (-1),rfl,⟨List.Pairwise.nil,λq=>by simp⟩,by simp[Zh1],λp hp=>by omega,λp _ hp=>by simp[Yi,Zh1,hp]⟩
 |i+1,hi=>by
  obtain⟨S,es,h1,hS,hl,hE,hE2⟩:=Zh2 ns i (by omega)
  obtain⟨A,B,rfl,hA,hB⟩:=Zk6 (f:=nth ns) (nth ns i) S hS.mono
  have SS:=ZhV hS hA hB
  have hB':B.length=(ZeF (nth ns) ns.length).getD i 0:=by rw[ZnV (by omega),Zma hS hA hB]
  have st:=Zk9 (ds:=ZeF (nth ns) ns.length) (i:=i) (A:=A) (B:=B) (by rw[h1]) hB'
  rw[h1]at st
  have hmem:∀q∈A++B,q<i:=λq hq=>((hS.2 q).mp hq).1
  have hbi:∀b,B.head?=some b->b≠i:=λb hb=>by
   have:=hmem b (Yj _ (List.mem_of_head? hb));omega
  refine⟨A++[i],Zfq es A B i,st,SS.1,by rw[Zk0];exact hl,λp hp=>?_,λp hp1 hp2=>?_⟩
  ·rw[ZhB _ _ _ _ _ (by omega) hbi]
   by_cases z:p=i
   ·subst z
    rw[Ye rfl,hE2 p (Yc _) (by omega)]
    exact SS.2.1
   ·rw[Yd z]
    exact SS.2.2 p _ (by omega) (hE p (by omega))
  ·rw[ZhB _ _ _ _ _ (by omega) hbi,Yd (by omega),Yd (λz=>?_)]
   ·exact hE2 p (by omega) hp2
   ·have:=hmem p (Yj _ (List.mem_of_head? z));omega
theorem Zm8 (ns:List Int):∃T,Zs ns T:=by
 obtain⟨S,es,_,_,hl,hE,_⟩:=Zh2 ns ns.length (Yc _)
 exact⟨es,hl,λp hp=>hE p hp⟩
end L2
namespace L2
noncomputable def Ok:Nat->List Nat->Prop
 |_,[]=>True
 |st,d::ds=>d<=st/\Ok (st-d+1) ds
end L2
namespace L2
open PySem PySem.Spec PyProof.Rows PySem.W
end L2
namespace L2
open PySem PySem.Spec PyProof.Rows PySem.W
end L2
namespace L2
open PySem PySem.Spec PyProof.Rows
end L2
namespace L2
open PySem PySem.Spec PyProof.Rows PySem.W PySem.Calls
end L2
namespace L2
open PySem PySem.Spec PyProof.Rows PySem.W
theorem Zrc {M:Program}{w:World}{A:Around}{E:Value->Shared->Prop}{s:Shared}{t b:Addr}{vs ws:List Value}{Q:Value->Shared->Prop} (ht:IsTup s.heap t vs.toArray) (hb:IsTup s.heap b ws.toArray) (hv:vs=[]) (h:Q (.ref b) s):wpAny (model M w) A (binaryOp .Add (.ref t) (.ref b)) Q E s:=by
 obtain⟨⟨k1,d1,x1,l1⟩,e1,c1,n1,y1⟩:=id ht
 obtain⟨⟨k2,d2,x2,l2⟩,e2,c2,n2,y2⟩:=id hb
 simp only at c1 y1 c2 y2
 subst c1 y1 c2 y2
 exact concat_meets ⟨_,e1,rfl⟩ ⟨_,e2,rfl⟩ noFill_tuple_add seq_tuple_add PySem.F.slot_tuple_add PySem.F.entry_tuple_add (PySem.F.args_tuple_add_2 _ _) (tuple_addW0 t b vs.toArray ws.toArray n1 n2 d1 d2 l1 l2 (by simp[hv])) ⟨e1,e2,h⟩
section
variable {X:Cx}
noncomputable def Zla:R2:=λx y H Q=>∃(a b:Addr) (xs ys:List V),x=.ref a/\y=.ref b/\H a=some (.tup xs)/\H b=some (.tup ys)/\xs.length+ys.length<=sizeLine/\∀(p:Addr) H',Ze H H'->H' p=some (.tup (xs++ys))->Q (.ref p) H'
theorem Zrd:OpR X (binaryOp .Add) Zla:=by
 intro pins s σ H x y v u Q I rx ry h
 obtain⟨a,b,xs,ys,rfl,rfl,ha,hb,hz,q⟩:=h
 cases rx
 cases ry
 obtain⟨its,r1,p1,_⟩:=I.tuple (SqT.of ha)
 obtain⟨its2,r2,p2,_⟩:=I.tuple (SqT.of hb)
 by_cases hx:xs=[]
 ·exact Zrc p1 p2 (r1.ZjJ.mpr hx) ⟨.ref b,H,I,rfl,q b H (Ze.refl H) (by rw[hx];exact hb)⟩
 refine HT.ZqX p1 p2 (λz=>hx (r1.ZjJ.mp z)) (λz=>⟨.ref a,H,I,rfl,q a H (Ze.refl H) (by rw[r2.ZjJ.mp z,List.append_nil];exact ha)⟩) (λz=>?_) (by rw[<-r1.length,<-r2.length];exact hz)
 refine⟨.ref s.heap.objs.size,_,I.laid (t':=s.toks) (o:=.tup (xs++ys)) (λb ob q=>Yo _ q) (Yc _) ?_,rfl,q _ _ ((Ze.refl H).upd (I.hok.fresh (Yc _))) Zc⟩
 exact⟨by rw[YH];exact hz,_,r1.append r2,IsTup.new _ _⟩
noncomputable def Zo2 (K:Frag):R2:=λx y H Q=>∃(a b:Addr) (xs ys:List V),x=.ref a/\y=.ref b/\SqL K H a xs/\SqL K H b ys/\xs.length+ys.length<=sizeLine/\∀p,H p=none->Q (.ref p) (upd H p (.lst (xs++ys)))
theorem Zre {K:Frag} (hK:X.K=K):OpR X (binaryOp .Add) (Zo2 K):=by
 subst hK
 intro pins s σ H x y v u Q I rx ry h
 obtain⟨a,b,xs,ys,rfl,rfl,ha,hb,hz,q⟩:=h
 cases rx
 cases ry
 obtain⟨its,r1,p1,_⟩:=I.list ha
 obtain⟨its2,r2,p2,_⟩:=I.list hb
 obtain⟨⟨c1,d1,x1,l1⟩,e1,k1,n1,y1⟩:=p1.isList
 obtain⟨⟨c2,d2,x2,l2⟩,e2,k2,n2,y2⟩:=p2.isList
 simp only at k1 y1 k2 y2
 subst k1 y1 k2 y2
 refine concat_meets ⟨_,e1,rfl⟩ ⟨_,e2,rfl⟩ noFill_list_add seq_list_add PySem.F.slot_list_add PySem.F.entry_list_add (PySem.F.args_list_add_2 _ _) (list_addW a b its.toArray its2.toArray n1 n2 d1 d2 l1 l2 (by rw[Yn,Yn,<-r1.length,<-r2.length];exact hz)) ⟨e1,e2,?_⟩
 have ea:its.toArray++its2.toArray=(its++its2).toArray:=by simp
 rw[ea]
 exact⟨.ref _,_,I.lnew (t':=s.toks) (r1.append r2) (by rw[YH];exact hz),rfl,q _ I.fresh⟩
end
noncomputable abbrev itO (l:Addr):Obj:={cls:=.type "list_iterator",data:=.fields #[.ref l,.int 0 0]}
noncomputable abbrev zA (h:Heap) (a:Addr):Heap:=h.push (itO a)
noncomputable abbrev zB (h:Heap) (a b:Addr):Heap:=(zA h a).push (itO b)
section
variable {X:Cx}
theorem Zjs (hc:X.calm=true):Zci X (.builtin "max") (λxs H Q=>∃(p:Addr) (ns:List Int),xs=[.ref p]/\SqL X.K H p (ns.map V.int)/\ns≠[]/\∀m,m∈ns->(∀a∈ns,a<=m)->Q (.int m) H):=by
 intro pins s σ H xs us Q I r h
 obtain⟨p,ns,rfl,hp,hne,q⟩:=h
 obtain⟨u,rfl,ru⟩:=r.one
 cases(show u=Value.ref p from ru)
 obtain⟨its,rv,pl,hz⟩:=I.list hp
 obtain⟨ys,e1,e2⟩:=ZjT rv
 have hsz:0<ys.size:=by
  have:=congrArg List.length e2
  rw[Yf,YO]at this
  cases ns with
  |nil=>exact absurd rfl hne
  |cons=>simp at this;omega
 refine max_intList (xs:=ys) (I.ok.hd hc) (e1▸pl.isList) hsz λv h' tk hv k=>?_
 obtain⟨tq,rfl⟩:=intItems_at hv
 obtain⟨h1,h2⟩:=argBest_gt (numAt ys) (ys.size-1)
 refine⟨.int _,H,I.kept k,⟨tq,rfl⟩,q _ ?_ λa ha=>?_⟩
 ·rw[numAt_eq,e2];exact getD_mem (by rw[<-e2,Yf,YO];omega)
 ·obtain⟨jq,hj,rfl⟩:=mem_getD ha
  rw[<-e2,Yf,YO]at hj
  rw[<-e2,<-numAt_eq];exact h2 jq (by omega)
end
section
variable {X:Cx}
theorem pe_bmK {K:Frag}{T:String}{id:String}{name:Str}{r:V->List V->Hp->VK->Prop}{o e:Expr}{es:List Expr}{to:TE}{t:TA}{apos cpos:Pos} (hK:X.K=K) (pa:PlainAttrs T) (slot:Slot T name id) (hty:typeOf (.builtin id)=pure (.type "method_descriptor")) (hm:MtM X id r) (ho:PE X o to) (ha:PA X (e::es) t)
  (hbase:attributeBase o name X.env (eval o X.env)=eval o X.env:=by rfl)
  (hfew:((backTo cpos (starEach (e::es) X.env)).all (λx=>!x.1)&&(backToKw cpos (keywordEach [] X.env)).all (λx=>x.1.isSome)
   && decide ((e::es).length+([]:List Keyword).length+(if ([]:List Keyword).isEmpty then 0 else 1)<30))=true:=by rfl)
  (hline:(apos.endLine==cpos.line)=true:=by rfl) (hs:starEach (e::es) X.env=(false,eval e X.env)::starEach es X.env:=by rfl) (hplain:(backTo cpos (starEach es X.env)).any (·.1)=false:=by rfl) :
  PE X (.Call (.Attribute o name apos) (e::es) [] cpos) (tBM K T r to t):=by
 subst hK
 exact ZbW pa slot hty hm ho ha hbase hfew hline hs hplain
end
end L2
namespace L2
open PySem PySem.Spec PyProof.Rows PySem.W PySem.Calls
end L2
namespace L2
open PySem PySem.Spec PyProof.Rows PySem.W
noncomputable def ZnW (K:Frag) (f:Addr):Option Addr:=match K.lookup f with
 |some ⟨_,_,.func fd,_⟩=>(match fd.code with|.ref c=>some c|_=>none)
 |_=>none
noncomputable def tabOf (K:Frag) (c:Addr):Addr:=match K.lookup c with
 |some ⟨_,_,.fields vs,_⟩=>(match (vs[11]?:Option Value)with|some (.ref P)=>P|_=>0)
 |_=>0
noncomputable def Zev (K:Frag) (mg:Str->Option Value) (x:Str):Addr:=match mg x with
 |some (.ref f)=>(match ZnW K f with|some c=>tabOf K c|none=>0)
 |_=>0
noncomputable def Zhp (q:Str):HO:=.tbl #[.str q 0]
noncomputable def BM (mg:Str->Option Value) (base:Heap):Prop :=
 ∃bm o,mg "__builtins__"=some (.ref bm)/\bm≠builtinsNs/\bm≠mainGlobals/\base.get? bm=some o/\o.cls=.type "module"/\o.dict=some builtinsNs/\o.data=.plain
noncomputable def ZiJ (env:Env) (P:Addr) (q:Str) (params:Arguments) (body:Expr) (scope:Scope) (H:Hp) (f:Addr):Prop :=
 ∃c oc vs t cl pm ctv,H f=some (.frz (kla_obj "<lambda>" q params body scope cl pm c ctv) (.own f))/\H c=some (.frz oc (.own P))/\oc.data=.fields vs/\vs[1]?=some (.str q t) /\
  (∀x c,cl.lookup x=some c->env.cells.lookup x=some c)/\(∀y∈scope.names,y.2=.free->∃c,cl.lookup y.1=some c/\env.cells.lookup y.1=some c)
theorem ZiJ.same {env:Env}{P:Addr}{q:Str}{params:Arguments}{body:Expr}{scope:Scope}{H H':Hp}{f:Addr} (h:ZiJ env P q params body scope H f) (s:Ze H H'):ZiJ env P q params body scope H' f:=by
 obtain⟨c,oc,vs,t,cl,pm,ctv,e1,e2,r⟩:=h
 exact⟨c,oc,vs,t,cl,pm,ctv,s _ _ e1,s _ _ e2,r⟩
structure LamIn (X:Cx) (P:Addr) (q:Str):Prop where
 code:∃c,X.env.code=.ref c/\codeHdIn X.K c P=true
 bm:BM X.mg X.base
 ql:X.env.qual++"<lambda>"=q
theorem Zmb {pos:Pos}{a b:Int}{c cv:Value}:∀(l:List Value),TriplesOk l->codeAmong pos (l++[rawInt a,rawInt b,c])=some cv->codeAmong pos l=some cv\/cv=c:=by
 intro l h e
 fun_induction TriplesOk l with
 |case1 =>
  simp only[List.nil_append,codeAmong,rawInt]at e
  split at e
  ·cases e;exact .inr rfl
  ·cases e
 |case2 a' t b' u x rest ih =>
  simp only[List.cons_append,codeAmong]at e⊢
  split at e
  ·rename_i hc;rw[Ye hc];exact .inl e
  ·rename_i hc;rw[Yd hc];exact ih h e
 |case3 l h1 h2=>exact h.elim
section
variable {X:Cx}
theorem Inv.lam {pins:List (Addr×Obj)}{σ:St}{H:Hp}{s:Shared}{h':Heap}{t':Nat}{P c f:Addr}{q:Str}{oc fo:Obj}{ts:Array Value}{vs:Array Value}{tq:Tok}
  (I:Inv X pins σ H s) (hP:H P=some (Zhp q)) (k:∀b o,b≠P->s.heap.get? b=some o->h'.get? b=some o) (hts:h'.get? P=some (tabObj ts)) (h3:TriplesOk ts.toList)
  (hc:H c=some (.frz oc (.own P))\/s.heap.objs.size<=c) (hcP:c≠P) (hoc:h'.get? c=some oc) (hd:oc.data=.fields vs) (hv:vs[1]?=some (.str q tq)) (hf:s.heap.objs.size<=f) (hfc:f≠c) (hfo:h'.get? f=some fo)
  (hcodes:∀pos cv,codeAmong pos ts.toList=some cv->cv=.ref c\/∃c2 oc vs t t',cv=.ref c2/\H c2=some (.frz oc (.own P))/\oc.data=.fields vs/\vs[1]?=some (.str q t)/\t'=(0:Tok)) :
  Inv X pins σ (upd (upd H c (.frz oc (.own P))) f (.frz fo (.own f))) {s with heap:=h',toks:=t'}:=by
 have hPlt:P<s.heap.objs.size:=I.hok.lt hP
 have hfP:f≠P:=λz=>by rw[z]at hf;exact absurd (Yw hPlt hf) (Yu _)
 have hfn:H f=none:=I.hok.fresh hf
 have up:∀b o,H b=some o->upd (upd H c (.frz oc (.own P))) f (.frz fo (.own f)) b=some o:=λb o e=>by
  have nf:b≠f:=Zu e hfn
  rw[Zh nf]
  rcases hc with hc|hc
  ·by_cases z:b=c
   ·subst z;rw[Zc,<-e,hc]
   ·rw[Zh z];exact e
  ·rw[Zh (Zu e (I.hok.fresh hc))];exact e
 have un:Un X.fs [] H (upd (upd H c (.frz oc (.own P))) f (.frz fo (.own f))) s.heap h':=by
  have nP:∀b,H b=none->b≠P:=λb n z=>by rw[z,hP]at n;cases n
  refine⟨λb o e n _ _=>k b o (nP b n) e,λb o e n _ _=>⟨o.slots,k b o (nP b n) e⟩,λb o e n _=>?_,λb o e _=>?_,λb xs e=>up _ _ e,λb o u e=>up _ _ e,λb ps e=>⟨#[],by rw[up _ _ e];simp⟩⟩
  ·have lt:=Yl e
   have nf:b≠f:=λz=>by rw[z]at lt;exact absurd (Yw lt hf) (Yu _)
   have nc:b≠c:=λz=>by
    rcases hc with hc|hc
    ·rw[z,hc]at n;cases n
    ·rw[z]at lt;exact absurd (Yw lt hc) (Yu _)
   rw[Zh nf,Zh nc];exact n
  ·by_cases z:b=P
   ·subst z;exact⟨_,hts⟩
   ·exact⟨o,k b o z e⟩
 refine I.un un λb o e=>?_
 by_cases zf:b=f
 ·subst zf
  rw[Zc]at e;cases e
  exact⟨hfo,_,hfo⟩
 rw[Zh zf]at e
 by_cases zc:b=c
 ·subst zc
  rw[Zc]at e;cases e
  exact⟨hoc,_,hoc⟩
 rw[Zh zc]at e
 by_cases zP:b=P
 ·subst zP
  rw[hP]at e;cases e
  refine⟨ts,hts,h3,λpos cv hcv=>?_⟩
  rcases hcodes pos cv hcv with rfl|⟨c2,oc2,vs2,t2,t2',e1,e2,e3,e4,_⟩
  ·exact⟨c,oc,vs,q,0,tq,rfl,by rw[Zh (Ne.symm hfc),Zc],hd,rfl,hv⟩
  ·exact⟨c2,oc2,vs2,q,0,t2,e1,up _ _ e2,e3,rfl,e4⟩
 ·refine(I.hok b o e).ZhH (λb2 u hb z=>k b2 u ?_ z) (λb2 z=>up _ _ z) (λb2 xs z=>up _ _ z) λb2 o2 u2 z=>up _ _ z
  rcases hb with rfl|hb
  ·exact zP
  ·intro z;rw[z,hP]at hb;cases hb
noncomputable def tLam (env:Env) (P:Addr) (q:Str) (params:Arguments) (body:Expr) (scope:Scope):TE:=λ_ H Q=>H P=some (Zhp q)/\∀f H',H f=none->Ze H H'->ZiJ env P q params body scope H' f->Q (.ref f) H'
theorem Zj8 {P:Addr}{q:Str}{params:Arguments}{body:Expr}{scope:Scope}{pos:Pos} (L:LamIn X P q) (hok:compOk X.env.scope scope=true) (hdef:defaultsOf params X.env=([],[]):=by rfl) :
  PE X (.Lambda params body scope pos) (tLam X.env P q params body scope):=by
 intro pins s σ H Q I h
 obtain⟨hP,h⟩:=h
 obtain⟨c0,hc0,hcd⟩:=L.code
 have C:CodeHd s.heap c0 P:=codeHd_of_K I.kIn hcd
 obtain⟨bm,ob,b1,b2,b3,b4,b5,b6,b7⟩:=L.bm
 have hbm:=I.bs bm ob b4
 have bP:bm≠P:=λz=>by rw[z,hP]at hbm;cases hbm.2
 have gP:mainGlobals≠P:=λz=>by
  obtain⟨o,es,ep,e,_⟩:=I.ok.mod.glob
  have:=(I.bs _ _ e).2
  rw[z,hP]at this;cases this
 have hg:s.heap.Ns mainGlobals X.mg:=I.ok.mod.glob.keeps I.bk
 have hb:s.heap.BuiltinsAt X.mg P:=⟨bm,ob,b1,b2,b3,bP,hbm.1,b5,b6,b7⟩
 obtain⟨ts,hts,h3,hco⟩:=I.hok P _ hP
 obtain⟨cl,hcl,up,hfr⟩:=ZlS (env:=X.env) (scope:=scope) λy hy hf=>I.ok.has y.1 ((Zg6 hok y hy hf).elim (λz=>.inl z) λz=>.inr z)
 have hco':∀pos cv,codeAmong pos ts.toList=some cv->∃c2 oc vs t t',cv=.ref c2/\H c2=some (.frz oc (.own P))/\oc.data=.fields vs/\vs[1]?=some (.str q t)/\t'=(0:Tok):=λpos cv e=>by
  obtain⟨c,oc,vs,q',t,t',e1,e2,e3,e4,e5⟩:=hco pos cv e
  have e4':some (Value.str q (0:Tok))=some (Value.str q' t):=e4
  cases e4'
  exact⟨c,oc,vs,t',0,e1,e2,e3,e5,rfl⟩
 refine kla_eval hdef ?_
 rw[L.ql]
 cases hca:codeAmong pos ts.toList with
 |some cv =>
  obtain⟨c,oc,vs,tq,t',rfl,e2,e3,e4,_⟩:=hco' pos cv hca
  refine kla_makeFunctionHit (mg:=X.mg) hcl I.ok.glob hg hc0 C hts h3 hca hb λctv h' tk hk hsz=>?_
  have hoc:s.heap.get? c=some oc:=(I.hok c _ e2).1
  have hcP:c≠P:=λz=>by rw[z,hP]at e2;cases e2
  have lt:=Yl hoc
  have kk:∀b o,s.heap.get? b=some o->(h'.push {cls:=.type "function",data:=.func (kla_fn "<lambda>" q params body scope cl ((X.mg "__name__").getD .none) (.ref c) ctv)}).get? b=some o:=λb o e=>Yo _ (hk b o e)
  have J:=I.lam (t':=tk) (f:=h'.objs.size) hP (λb o _ e=>kk b o e) (kk _ _ hts) h3 (.inl e2) hcP (kk _ _ hoc) e3 e4 hsz (λz=>by rw[<-z]at lt;exact absurd (Yw lt hsz) (Yu _)) (YE _ rfl) λp2 cv2 z=>.inr (hco' p2 cv2 z)
  have hfn:H h'.objs.size=none:=I.hok.fresh hsz
  have ne:c≠h'.objs.size:=Yp (Yw lt hsz)
  refine⟨.ref h'.objs.size,_,J,rfl,h _ _ hfn (λb o e=>?_) ⟨c,oc,vs,tq,cl,_,ctv,Zc,by rw[Zh ne,Zc],e3,e4,up,hfr⟩⟩
  rw[Zh (Zu e hfn)]
  by_cases z:b=c
  ·subst z;rw[Zc,<-e,e2]
  ·rw[Zh z];exact e
 |none =>
  refine kla_makeFunction (mg:=X.mg) hcl I.ok.glob hg hc0 C hts h3 hca gP hb λc ctv h' tk hx hge hlt hrec htb=>?_
  obtain⟨c2,oc,vs,tq,e2,hoc,e3,e4⟩:=hrec
  cases e2
  have hsz:s.heap.objs.size<=h'.objs.size:=Ym hge (YW hlt)
  have kk:∀b o,h'.get? b=some o->(h'.push (kla_obj "<lambda>" q params body scope cl ((X.mg "__name__").getD .none) c ctv)).get? b=some o:=λb o e=>Yo _ e
  have hPlt:P<s.heap.objs.size:=I.hok.lt hP
  have hcP:c≠P:=λz=>by rw[z]at hge;exact absurd (Yw hPlt hge) (Yu _)
  have tl:(ts++#[rawInt pos.line,rawInt pos.col,Value.ref c]).toList=ts.toList++[rawInt pos.line,rawInt pos.col,Value.ref c]:=by simp
  have J:=I.lam (t':=tk) (f:=h'.objs.size) (ts:=ts++#[rawInt pos.line,rawInt pos.col,.ref c]) hP (λb o nb e=>kk b o (hx b o nb e)) (kk _ _ htb) (by rw[tl];exact TriplesOk_snoc _ _ _ _ h3) (.inr hge) hcP (kk _ _ hoc) e3 e4 hsz (Nat.ne_of_gt hlt) (YE _ rfl) λp2 cv2 z=>by
   rw[tl]at z
   rcases Zmb ts.toList h3 z with y|y
   ·exact .inr (hco' p2 cv2 y)
   ·exact .inl y
  have hfn:H h'.objs.size=none:=I.hok.fresh hsz
  have hcn:H c=none:=I.hok.fresh hge
  refine⟨.ref h'.objs.size,_,J,rfl,h _ _ hfn (λb o e=>?_) ⟨c,oc,vs,tq,cl,_,ctv,Zc,by rw[Zh (Yp hlt),Zc],e3,e4,up,hfr⟩⟩
  rw[Zh (Zu e hfn),Zh (Zu e hcn)];exact e
end
noncomputable def Zhb (X:Cx) (A':Around) (Nc:List Str) (q:Str) (scope:Scope) (cl:List (Str×Addr)) (L f c:Addr) (s:Shared) (H:Hp):Cx where
 prog:=X.prog
 w:=X.w
 K:=X.K
 mg:=X.mg
 base:=X.base
 A:=A'.deeper (envX q scope L f (.ref c) cl)
 N:=Nc
 s₀:=s
 H₀:=H
 env:=envX q scope L f (.ref c) cl
 outer:=X.stack
 stack:=envX q scope L f (.ref c) cl::X.stack
 ex:=[]
 fn:=λ_=>false
 calm:=X.calm
 pn:=[]
 xe:=λ_ _=>False
section
variable {X:Cx}
theorem ZnX {pins:List (Addr×Obj)}{σ:St}{H:Hp}{s:Shared}{A':Around}{Nc:List Str}{js:List (Option Nat)}{q pn:Str}{scope:Scope}{cl:List (Str×Addr)}{h1:Heap}{tk:Nat}{f c:Addr}{v:V}{u:Value}
  (I:Inv X pins σ H s) (hA:A'.frames=some X.stack) (hh:X.calm=true->A'.handled=none) (hok:compOk X.env.scope scope=true) (htk:takesC X.N Nc scope js 0=true) (hp0:Nc[0]?=some pn) (hj0:js[0]?=some none) (hpl:scope.names.lookup pn=some .local)
  (up:∀x c,cl.lookup x=some c->X.env.cells.lookup x=some c) (hfr:∀y∈scope.names,y.2=.free->∃c,cl.lookup y.1=some c/\X.env.cells.lookup y.1=some c)
  (r:RelV v u) (old:∀b o,s.heap.get? b=some o->h1.get? b=some o) (hns:h1.Ns s.heap.objs.size λy=>[(pn,u)].reverse.lookup y) :
  Inv (Zhb X A' Nc q scope cl s.heap.objs.size f c s H) [] ((ZaO js σ).set 0 (some v)) H {s with heap:=h1,toks:=tk}:=by
 have noA:∀b:Addr,b∉(Zhb X A' Nc q scope cl s.heap.objs.size f c s H).ex:=λb z=>absurd (show b∈([]:List Addr)from z) (by simp)
 have kf:∀x,((envX q scope s.heap.objs.size f (.ref c) cl).kindOf x=some .cell\/(envX q scope s.heap.objs.size f (.ref c) cl).kindOf x=some .free)->∃c,cl.lookup x=some c:=λx hx=>by
  rcases hx with z|z
  ·exact absurd rfl (Zg5 hok _ (lookup_mem (show scope.names.lookup x=some .cell from z)))
  ·obtain⟨c,q,_⟩:=hfr _ (lookup_mem (show scope.names.lookup x=some .free from z)) rfl
   exact⟨c,q⟩
 refine⟨⟨I.ok.mod,Zg4 hok,rfl,rfl,Yc _,λx y c e1 e2=>I.ok.inj x y c (up _ _ e1) (up _ _ e2),λx hx=>kf x hx,(λx c e=>nomatch e),hh,Around.frames_deeper hA,.inr ⟨rfl,rfl⟩,λb z=>absurd z (noA b),I.bs,Ym I.ok.bsz I.sz,λb _ _=>noA b,λb z=>absurd z (noA b),I.stack,I.Zhw⟩,
  rfl,I.bare,Un.kept old,⟨_,hns,λi x v' e1 e2 e3=>?_⟩,λx c e=>?_,I.hok.fresh (Yc _),λx c e=>I.freeC x c (up _ _ e),λp hp=>absurd (show p∈([]:List (Addr×Obj))from hp) (by simp),I.hok.kept old,?_⟩
 ·by_cases hi:i=0
  ·subst hi
   have ex:x=pn:=YD ((show Nc[0]?=some x from e1).symm.trans hp0)
   subst ex
   have hl:0<(ZaO js σ).length:=by
    unfold ZaO
    rw[Yf]
    exact(Yh.mp hj0).1
   rw[List.getElem?_set_self hl]at e2
   cases e2
   exact⟨u,r,.inl ⟨hpl,by simp⟩⟩
  ·rw[List.getElem?_set_ne (Ne.symm hi)]at e2
   have e2':(ZaO js σ)[i]?=some (some v'):=e2
   unfold ZaO at e2'
   rw[YB]at e2'
   cases hq:js[i]? with
   |none=>rw[hq]at e2';cases e2'
   |some j0 =>
    cases j0 with
    |none=>rw[hq]at e2';cases e2'
    |some j =>
     rw[hq]at e2'
     simp only[Option.map_some,Option.some.injEq]at e2'
     have e4:σ[j]?=some (some v'):=by
      cases z:σ[j]? with
      |none=>rw[z]at e2';cases e2'
      |some o=>rw[z]at e2';simp only[Option.join_some]at e2';rw[e2']
     obtain⟨y,y1,y2,y3⟩:=Zff htk hq
     rw[Nat.zero_add]at y1
     have:x=y:=YD ((show Nc[i]?=some x from e1).symm.trans y1)
     subst this
     have hm:=lookup_mem y3
     obtain⟨c1,h1',h2'⟩:=hfr _ hm rfl
     have hk:=Zg6 hok _ hm rfl
     obtain⟨m0,hn0,hl0⟩:=I.loc
     obtain⟨u',r',l⟩:=hl0 j x v' y2 e4 (hk.elim (λz=>.inr (.inl z)) λz=>.inr (.inr z))
     refine⟨u',r',.inr ⟨.inr y3,c1,h1',?_⟩⟩
     rcases l with⟨lk,_⟩|⟨_,c',c3,c4⟩
     ·rcases hk with z|z
      ·rw[show X.env.kindOf x=some .cell from z]at lk;cases lk
      ·rw[show X.env.kindOf x=some .free from z]at lk;cases lk
     ·rw[h2']at c3;cases c3
      obtain⟨oc,w1,w2⟩:=c4
      exact⟨oc,old _ _ w1,w2⟩
 ·obtain⟨v,oc,w1,w2⟩:=I.cell x c (up _ _ e)
  exact⟨v,oc,old _ _ w1,w2⟩
 ·show((ZaO js σ).set 0 (some v)).length=Nc.length
  unfold ZaO
  have:=ZdO htk
  rw[List.length_set,Yf]
  omega
structure LamSc (X:Cx) (Nc:List Str) (js:List (Option Nat)) (params:Arguments) (body:Expr) (scope:Scope) (pn:Str):Prop where
 ok:compOk X.env.scope scope=true
 tk:takesC X.N Nc scope js 0=true
 p0:Nc[0]?=some pn
 j0:js[0]?=some none
 pl:scope.names.lookup pn=some .local
 co:scope.isCoroutine=false
 gen:scope.isGenerator=false
 bd:∀(q:Str) (cl:List (Str×Addr)) (pm cd ctv u:Value),bindArgs (kla_fn "<lambda>" q params body scope cl pm cd ctv) ⟨[u],[]⟩=pure [(pn,u)]
theorem Zh3 {pins:List (Addr×Obj)}{σ:St}{H:Hp}{s:Shared}{A':Around}{Nc:List Str}{js:List (Option Nat)}{q pn:Str}{params:Arguments}{body:Expr}{scope:Scope}{P f:Addr}{v:V}{u:Value}{tb:TE}{Q:VK}{E:Value->Shared->Prop}
  (S:LamSc X Nc js params body scope pn) (hbody:∀cl L f c s H,PE (Zhb X A' Nc q scope cl L f c s H) body tb) (I:Inv X pins σ H s) (hA:A'.frames=some X.stack) (hh:X.calm=true->A'.handled=none) (hroom:A'.depth<recursionLimit) (L:ZiJ X.env P q params body scope H f)
  (r:RelV v u) (h:tb ((ZaO js σ).set 0 (some v)) H Q):wpAny (model X.prog X.w) A' (call (.ref f) [u]) (EP X pins σ Q) E s:=by
 obtain⟨c,oc,vs,t,cl,pm,ctv,e1,e2,e3,e4,up,hfr⟩:=L
 have hfo:=(I.hok f _ e1).1
 have hoc:=(I.hok c _ e2).1
 refine wpAny_call (codeAny_mono (R:=λr s'=>∃u',r=.ok (.ret u')/\EP X pins σ Q u' s') (kla_callFunE hroom hfo rfl S.co S.gen rfl ⟨c,oc,vs,t,rfl,hoc,e3,e4⟩ ?_) λr s' ⟨u',hr,z⟩=>by subst hr;exact z)
 show wpAny _ _ (bindArgs (kla_fn "<lambda>" q params body scope cl pm (.ref c) ctv) ⟨[u],[]⟩) _ _ _
 rw[S.bd]
 refine Yg (wpAny_newFunctionEnv (λx hx=>Zg5 S.ok x hx) (λx hx=>?_) (λh₁ hns hsb=>⟨I.nolimit.fresh _ hsb,?_⟩) (Zg4 S.ok))
 ·have:x=(pn,u):=by simpa using hx
  subst this;exact S.pl
 show codeAny _ _ (.expr body (envX q scope s.heap.objs.size f (.ref c) cl)) _ _
 have old:∀b o,s.heap.get? b=some o->h₁.get? b=some o:=λb o e=>hsb.extBut b o (Yp (Yl e)) (Yo _ e)
 have J:=ZnX (q:=q) (f:=f) (c:=c) (tk:=s.toks+[(pn,u)].length) I hA hh S.ok S.tk S.p0 S.j0 S.pl up hfr r old hns
 refine kla_codeExpr (YN (hbody cl _ f c s H [] _ _ H Q J h) (λv' s' ⟨x,H',J',r',q'⟩=>⟨v',rfl,x,H',?_,r',q'⟩) λ_ _ z=>z.elim)
 exact I.call' (ch:=[]) J'.os J'.base J'.hok J'.bare λb z=>absurd z (by simp)
end
section
variable {prog:Program}{w:World}{A:Around}{E:Value->Shared->Prop}{s:Shared}
noncomputable def Zo3 (b:Bool) (st:SortSt):Array Value:=if b then ((arrOf st).map (·.2)).reverse else (arrOf st).map (·.2)
noncomputable def Zmc (h:Heap) (kS a:Addr) (out:Array Value):Heap:=(h.update kS (Obj.mapSeq λ_=>(#[]:Array Value))).update a (Obj.mapSeq λ_=>out)
theorem Zrf {a kS:Addr}{b:Bool}{e e1:Nat}{keys:Array Value}{st:SortSt}{R:PySem.Fin->Shared->Prop} (ok:s.heap.get? kS=some (seqObj "list" keys e)) (oa:s.heap.get? a=some (seqObj "list" #[] e1)) (ne:a≠kS) (z1:keys.size<=1000) (z2:(arrOf st).size<=1000) (hf:failedOf st=none)
  (h:R (.done (.ret .none)) {s with heap:=Zmc s.heap kS a (Zo3 b st)}):wpAny (model prog w) A (ksk_tail a b e1 (.ref kS) st) R E s:=by
 have oa1:(s.heap.update kS (Obj.mapSeq λ_=>(#[]:Array Value))).get? a=some (seqObj "list" #[] e1):=(Heap.get?_update_ne _ _ _ _ ne).trans oa
 have zo:(Zo3 b st).size<=sizeLine+1:=by
  unfold Zo3
  cases b
  ·rw[Yd YJ,Array.size_map];exact Nat.le_succ_of_le (Ym z2 (by decide))
  ·rw[Ye rfl,Array.size_reverse,Array.size_map];exact Nat.le_succ_of_le (Ym z2 (by decide))
 unfold ksk_tail
 dsimp only
 refine Ya (listUpdate_at ok rfl (Ya (wpAny_letGo (Ya (seqEpoch_at oa1 rfl (Ya (listUpdate_at oa1 rfl ?_ (Yv _) zo)))))) (Ym z1 (by decide)) (Yv _))
 rw[hf]
 simp only[bne_self_eq_false,Bool.false_eq_true,if_false]
 exact Yg h
theorem sk_end {a kS:Addr}{b:Bool}{e e1:Nat}{keys:Array Value}{vs:List Value}{kz:List Int}{R:PySem.Fin->Shared->Prop} (ok:s.heap.get? kS=some (seqObj "list" keys e)) (oa:s.heap.get? a=some (seqObj "list" #[] e1)) (ne:a≠kS) (hk:IntsAre keys.toList kz) (hl:kz.length=vs.length) (h64:vs.length<64)
  (h:∀out:Array Value,KskOut b kz vs out.toList->R (.done (.ret .none)) {s with heap:=Zmc s.heap kS a out}):wpAny (model prog w) A (ksk_end a b vs.toArray e1 (.ref kS) keys) R E s:=by
 have hz:keys.size=vs.length:=by
  have q:=hk.length
  rw[YO]at q;omega
 have hzz:(keys.zip vs.toArray).size=vs.length:=by rw[Array.size_zip,hz,Yn,Nat.min_self]
 have go:∀t:Sem PySem.Fin,wpAny (model prog w) A t R E s->wpAny (model prog w) A (if b=true then (rule "list.sort.reverse" >>= λ_=>t)else t) R E s:=λt ht=>by
  cases b
  ·exact ht
  ·exact Ya (wpAny_rule ht)
 have hst:(if b=true then (keys.zip vs.toArray).reverse else keys.zip vs.toArray).Perm (keys.zip vs.toArray):=by
  cases b
  ·exact .refl _
  ·exact Array.perm_iff_toList_perm.mpr (by rw[Ye rfl,Array.toList_reverse];exact List.reverse_perm _)
 have done:∀st:SortSt,(arrOf st).Perm (keys.zip vs.toArray)->failedOf st=none->SortedTo (arrOf st) (arrOf st).size->wpAny (model prog w) A (ksk_tail a b e1 (.ref kS) st) R E s:=λst q1 q2 q3 =>
  Zrf ok oa ne (by omega) (by rw[q1.size_eq,hzz];omega) q2 (h _ (ksk_out hk q1 q3))
 unfold ksk_end
 refine go _ ?_
 by_cases h2:vs.length<2
 ·have h2':vs.toArray.size<2:=by rw[Yn];exact h2
  rw[Ye h2',Ye h2']
  refine Ya (Yg ?_)
  dsimp only
  rw[StateT.run_pure]
  refine Ya (Yg (done (SortSt.mk' general' (if b=true then (keys.zip vs.toArray).reverse else keys.zip vs.toArray) #[] 7 none) hst rfl λi j hij hj=>?_))
  have hj':j<(if b=true then (keys.zip vs.toArray).reverse else keys.zip vs.toArray).size:=hj
  rw[hst.size_eq,hzz]at hj'
  rw[show i=j by omega]
  exact Int.le_refl _
 ·have h2':¬ vs.toArray.size<2:=by rw[Yn];exact h2
  rw[Yd h2',Yd h2',ksk_kind hk (by omega)]
  refine Ya (Yg (Ya (YN (wpS_sortRuns (a₀:=keys.zip vs.toArray) (st:=SortSt.mk' oneType' (if b=true then (keys.zip vs.toArray).reverse else keys.zip vs.toArray) #[] 7 none)
   (Q:=λ_ st=>(arrOf st).Perm (keys.zip vs.toArray)/\failedOf st=none/\SortedTo (arrOf st) (keys.zip vs.toArray).size) (ksk_intKeys hk) ⟨hst,rfl,rfl,rfl⟩ (by omega) (by omega) λst q1 q2 q3=>⟨q1,q2,q3⟩) ?_ λ_ _ z=>z)))
  rintro⟨⟨⟩,st⟩ s' ⟨rfl,q1,q2,q3⟩
  exact done st q1 q2 (by rw[q1.size_eq];exact q3)
end
section
variable {X:Cx}
theorem Inv.track {pins:List (Addr×Obj)}{σ:St}{H:Hp}{s:Shared}{a:Addr}{o:HO} (I:Inv X pins σ H s) (hn:H a=none) (hL:a≠X.env.locals) (h1:a∈X.ex\/X.s₀.heap.objs.size<=a) (h2:∀x c,X.env.cells.lookup x=some c->c≠a) (h3:∀p∈X.pn++pins,p.1≠a)
  (new:Zau X.prog X.w (upd H a o) s.heap a o):Inv X pins σ (upd H a o) s:=by
 have up:∀b u,H b=some u->upd H a o b=some u:=λb u e=>by rw[Zh (Zu e hn)];exact e
 have J:=I.step (g':=s.gens) (d':=s.drawn) (t':=s.toks) (h':=s.heap) (H':=upd H a o) (ch:=[a]) (λb hb=>?_) (λb o _ _ _ e _=>e) (λb o _ _ _ e _=>⟨o.slots,e⟩) (λb o hb e n=>?_) (λb o _ e=>⟨o,e⟩) (λb xs e=>up _ _ e) (λb o u e=>up _ _ e) (λb ps e=>⟨#[],by rw[up _ _ e];simp⟩) (λm hm=>hm) (λb u e=>?_) I.bare
 ·exact J
 ·have e:b=a:=by simpa using hb
  subst e
  exact⟨h1,hL,h2,h3⟩
 ·rw[Zh (λz=>hb (by simp[z]))];exact n
 ·by_cases z:b=a
  ·subst z;rw[Zc]at e;cases e;exact new
  ·rw[Zh z]at e
   exact(I.hok b u e).ZhH (λc v _ q=>q) (λc q=>up _ _ q) (λc xs q=>up _ _ q) λc o' u' q=>up _ _ q
theorem Zrg {pins:List (Addr×Obj)}{σ:St}{H:Hp}{s:Shared}{A':Around}{E:Value->Shared->Prop}{f:Value}{b:Bool}{a kS:Addr}{e1:Nat}{vs:List Value}{ns:List Int}{kz:Int->Int}{R:PySem.Fin->Shared->Prop}
  (I:Inv X ((kS,seqObj "list" #[] 0)::(a,seqObj "list" #[] e1)::pins) σ H s) (hk0:X.s₀.heap.objs.size<=kS) (ha0:X.s₀.heap.objs.size<=a) (ne:a≠kS) (hp:∀p∈X.pn++pins,p.1≠kS/\p.1≠a) (hv:IntsAre vs ns) (h64:vs.length<64)
  (turn:∀(H':Hp) (s':Shared) (pins':List (Addr×Obj)) (n:Int) (u:Value),n∈ns->Inv X pins' σ H' s'->Ze H H'->RelV (.int n) u->wpAny (model X.prog X.w) A' (call f [u]) (EP X pins' σ λv H2=>v=.int (kz n)/\Ze H' H2) (λ_ _=>False) s')
  (fin:∀(H':Hp) (s':Shared) (out:Array Value) (c:Nat),Inv X pins σ H' s'->Ze H H'->H' a=none->s'.heap.get? a=some (seqObj "list" out c)->KskOut b (ns.map kz) vs out.toList->R (.done (.ret .none)) s') :
  wpAny (model X.prog X.w) A' (ksk_rest a f b vs.toArray e1 (.ref kS)) R E s:=by
 have hlen:vs.length=ns.length:=hv.length
 have facts:∀{H':Hp}{s':Shared}{ps:List (Addr×Obj)}{x:Addr}{xs:Array Value}{c:Nat},Inv X ps σ H' s'->(x,seqObj "list" xs c)∈ps->s'.heap.get? x=some (seqObj "list" xs c)/\H' x=none/\x≠X.env.locals/\x∉X.fs/\∀y cc,X.env.cells.lookup y=some cc->cc≠x:=λ{H' s' ps x xs c} J hm=>by
  obtain⟨q1,q2,q3,q4,_⟩:=J.pin _ (Yj _ hm)
  refine⟨q1,q2,q3,q4,λy cc hc z=>?_⟩
  obtain⟨v,oc,w1,w2⟩:=J.cell y cc hc
  rw[z,q1]at w1;cases w1;cases w2
 unfold ksk_rest
 refine Ya (wpAny_rule ?_)
 first
  |rw[List.forIn_toArray]
  |(rw[<-Array.forIn_toList];simp only[List.toList_toArray])
 refine Ya (ksk_fold (λi s'=>∃H' kA e,Inv X ((kS,seqObj "list" kA e)::(a,seqObj "list" #[] e1)::pins) σ H' s'/\Ze H H'/\IntsAre kA.toList ((ns.take i).map kz)) vs 0 s ⟨H,#[],0,I,Ze.refl H,by simpa using IntsAre.nil⟩ ?step ?done)
 case step =>
  rintro j x s' hx ⟨H',kA,e,J,sm,hk⟩
  simp only[Nat.zero_add]at hk⊢
  have hj:j<vs.length:=(Yh.mp hx).1
  have hnj:ns[j]?=some ns[j]:=Yb (by omega)
  obtain⟨t,ht⟩:=hv.get j _ hnj
  rw[hx]at ht
  cases ht
  have hz:kA.size<=64:=by
   have h1:=hk.length
   rw[YO,Yf,Y7]at h1
   omega
  refine Ya (wpAny_attempt (YN (turn H' s' _ ns[j] _ (YI _) J sm ⟨t,rfl⟩) (λv s'' he=>?_) λ_ _ hF=>hF.elim))
  obtain⟨x2,H2,J2,r2,rfl,sm2⟩:=he
  obtain⟨t2,rfl⟩:=r2
  obtain⟨o1,n1,l1,_,c1⟩:=facts J2 (Yr ..)
  try dsimp only
  obtain⟨c2,hc2⟩:∃c2,(s''.heap.update kS (Obj.mapSeq (·.push (.int (kz ns[j]) t2)))).get? kS=some (seqObj "list" (kA.push (.int (kz ns[j]) t2)) c2):=⟨_,get?_update_seq o1 (·.push (.int (kz ns[j]) t2))⟩
  refine Ya (listUpdate_at o1 rfl ?_ (Ym hz (by decide)) (Ym (Y9 (Array.size_push ..)) (Nat.le_succ_of_le (Ym (Nat.succ_le_succ hz) (by decide)))))
  have J3:Inv X ((a,seqObj "list" #[] e1)::pins) σ H2 s'':=J2.ZI λp hp'=>by
   obtain⟨q1,q2,q3,q4,q5⟩:=J2.pin p (Yj _ (Ys _ hp'))
   exact⟨q1,q2,q3,q4,q5⟩
  have J4:=J3.turned (t':=s''.toks) (h':=s''.heap.update kS (Obj.mapSeq (·.push (.int (kz ns[j]) t2)))) (it:=kS) (λb o nb e=>(Heap.get?_update_ne _ _ _ _ nb).trans e) n1 l1 (.inr hk0) c1 (λp hp'=>by
   rcases Yy.mp hp' with z|z
   ·exact(hp p (YM _ z)).1
   ·rcases Yk.mp z with rfl|z
    ·exact ne
    ·exact(hp p (Yj _ z)).1)
  have o1f:=(facts J2 (Yr ..)).2.2.2.1
  have J5:Inv X ((kS,seqObj "list" (kA.push (.int (kz ns[j]) t2)) c2)::(a,seqObj "list" #[] e1)::pins) σ H2 {s'' with heap:=s''.heap.update kS (Obj.mapSeq (·.push (.int (kz ns[j]) t2)))}:=J4.ZI λp hp'=>by
   rcases Yk.mp hp' with rfl|hp'
   ·exact⟨hc2,n1,l1,o1f,λv z=>by cases z⟩
   ·exact J4.pin p (Yj _ hp')
  refine Yg ⟨rfl,H2,_,_,J5,sm.trans sm2,?_⟩
  have ek:(ns.take (j+1)).map kz=(ns.take j).map kz++[kz ns[j]]:=by rw[Jc,hnj,Y4];rfl
  have ea:(kA.push (Value.int (kz ns[j]) t2)).toList=kA.toList++[Value.int (kz ns[j]) t2]:=by simp
  rw[ea,ek];exact ksk_snoc hk
 case done =>
  rintro s' ⟨H',kA,e,J,sm,hk⟩
  have hk':IntsAre kA.toList (ns.map kz):=by
   rw[List.take_of_length_le (by omega)]at hk
   exact hk
  obtain⟨o1,n1,l1,f1,c1⟩:=facts J (Yr ..)
  obtain⟨o2,n2,l2,f2,c2⟩:=facts J (Ys _ (Yr ..))
  refine Ya (listItems_at o1 rfl ?_)
  refine sk_end o1 o2 ne hk' (by rw[Yf];exact hlen.symm) h64 λout ho=>?_
  have J3:Inv X pins σ H' s':=J.ZI λp hp'=>J.pin p (Yj _ (Ys _ (Ys _ hp')))
  have J4:=J3.turned (t':=s'.toks) (h':=s'.heap.update kS (Obj.mapSeq λ_=>(#[]:Array Value))) (it:=kS) (λb o nb e=>(Heap.get?_update_ne _ _ _ _ nb).trans e) n1 l1 (.inr hk0) c1 λp hp'=>(hp p hp').1
  have J5:=J4.turned (t':=s'.toks) (h':=Zmc s'.heap kS a out) (it:=a) (λb o nb e=>(Heap.get?_update_ne _ _ _ _ nb).trans e) n2 l2 (.inr ha0) c2 λp hp'=>(hp p hp').2
  have o3:(s'.heap.update kS (Obj.mapSeq λ_=>(#[]:Array Value))).get? a=some (seqObj "list" #[] e1):=(Heap.get?_update_ne _ _ _ _ ne).trans o2
  exact fin H' _ out _ J5 sm n2 (get?_update_seq o3 λ_=>out) ho
theorem Zrh {pins:List (Addr×Obj)}{σ:St}{H:Hp}{s:Shared}{A':Around}{E:Value->Shared->Prop}{f:Value}{b:Bool}{a:Addr}{e0:Nat}{vs:List Value}{ns:List Int}{kz:Int->Int}{R:PySem.Fin->Shared->Prop}
  (I:Inv X ((a,seqObj "list" vs.toArray e0)::pins) σ H s) (ha0:X.s₀.heap.objs.size<=a) (hp:∀p∈X.pn++pins,p.1≠a) (hv:IntsAre vs ns) (h64:vs.length<64)
  (turn:∀(H':Hp) (s':Shared) (pins':List (Addr×Obj)) (n:Int) (u:Value),n∈ns->Inv X pins' σ H' s'->Ze H H'->RelV (.int n) u->wpAny (model X.prog X.w) A' (call f [u]) (EP X pins' σ λv H2=>v=.int (kz n)/\Ze H' H2) (λ_ _=>False) s')
  (fin:∀(H':Hp) (s':Shared) (out:Array Value) (c:Nat),Inv X pins σ H' s'->Ze H H'->H' a=none->s'.heap.get? a=some (seqObj "list" out c)->KskOut b (ns.map kz) vs out.toList->R (.done (.ret .none)) s') :
  wpAny (model X.prog X.w) A' (ksk_tree a f b) R E s:=by
 obtain⟨oa,na,la,fa,da⟩:=I.pin _ (Yj _ (Yr ..))
 have ca:∀y cc,X.env.cells.lookup y=some cc->cc≠a:=λy cc hc z=>by
  obtain⟨v,oc,w1,w2⟩:=I.cell y cc hc
  rw[z,oa]at w1;cases w1;cases w2
 have lt:=Yl oa
 obtain⟨e1,oa1⟩:∃e1,(s.heap.update a (Obj.mapSeq λ_=>(#[]:Array Value))).get? a=some (seqObj "list" #[] e1):=⟨_,get?_update_seq oa λ_=>#[]⟩
 have I0:Inv X pins σ H s:=I.ZI λp hp'=>I.pin p (Yj _ (Ys _ hp'))
 have I1:=I0.turned (t':=s.toks) (h':=s.heap.update a (Obj.mapSeq λ_=>(#[]:Array Value))) (it:=a) (λb o nb e=>(Heap.get?_update_ne _ _ _ _ nb).trans e) na la (.inr ha0) ca hp
 have sz:(s.heap.update a (Obj.mapSeq λ_=>(#[]:Array Value))).objs.size=s.heap.objs.size:=Heap.size_update ..
 have I2:=I1.kept (h':=((s.heap.update a (Obj.mapSeq λ_=>(#[]:Array Value))).push (seqObj "tuple" vs.toArray 0)).push (seqObj "list" #[] 0)) (t':=s.toks) λb o e=>Yo _ (Yo _ e)
 have sz2:((s.heap.update a (Obj.mapSeq λ_=>(#[]:Array Value))).push (seqObj "tuple" vs.toArray 0)).objs.size=s.heap.objs.size+1:=(size_push' ..).trans (congrArg (·+1) sz)
 have hge:X.s₀.heap.objs.size<=s.heap.objs.size:=I.sz
 have hkL:X.env.locals<s.heap.objs.size:=I.lt
 have nk:H (s.heap.objs.size+1)=none:=I.hok.fresh (Y2 _)
 unfold ksk_tree
 refine Ya (listItems_at oa rfl (Ya (listUpdate_at oa rfl (Ya (seqEpoch_at oa1 rfl (Ya (wpAny_newTuple (Ya (wpAny_newList (wpAny_holding ?_) (Yv _))) ?_)))) ?_ (Yv _))))
 ·rw[sz2]
  refine Zrg (kS:=s.heap.objs.size+1) (e1:=e1) (I2.ZI λp hp'=>?_) (Nat.le_succ_of_le hge) ha0 (Yp (YR lt)) (λp hp'=>⟨?_,hp p hp'⟩) hv h64 turn fin
  ·rcases Yk.mp hp' with rfl|hp'
   ·exact⟨by rw[<-sz2];exact YE _ rfl,nk,Nat.ne_of_gt (YR hkL),I.ZkI (Y2 _),λv z=>by cases z⟩
   ·rcases Yk.mp hp' with rfl|hp'
    ·exact⟨Yo _ (Yo _ oa1),na,la,fa,λv z=>by cases z⟩
    ·exact I2.pin p (Yj _ hp')
  ·have:=Yl (I0.pin p hp').1
   exact Yp (YR this)
 ·exact Ym (show vs.length<=64 by omega) (by decide)
 ·rw[Yn];exact Ym (show vs.length<=64 by omega) (by decide)
end
theorem Zo4 {prog:Program}{w:World}{A:Around}{R:Result->Shared->Prop}{s:Shared}{r S:Addr}{a b c:Int}{t u v:Tok}{n c₀:Nat} (hh:A.handled=none) (hr:IsRange s.heap r a b c t u v) (hsmall:Builtin.Range.small a b c=true)
  (hn:Builtin.Range.rangeSize a b c=n) (hlen:n<=2 ^ 24) (hS:s.heap.get? S=some {cls:=.type "list",data:=.seq #[] c₀})
  (hR:∀h' tk acc' c',(∀b o,b≠S->s.heap.get? b=some o->h'.get? b=some o)->h'.get? S=some {cls:=.type "list",dict:=none,data:=.seq acc' c',slots:=#[]}->ItemsOf (λi v=>∃t,v=.int (a+i*c) t) acc' n->R (.ok (.ret (.ref S))) {s with heap:=h',toks:=tk}) :
  codeAny (model prog w) A (.builtin "list.__iadd__" ⟨[.ref S,.ref r],[]⟩) R s :=
 codeAny_builtin entry_list_iadd' (wpAny_extend_range hh hr hsmall hn hlen S (.ref S) c₀ hS hR)
theorem Zlb {prog:Program}{w:World}{A:Around}{E:Value->Shared->Prop}{s:Shared}{r:Addr}{a b c:Int}{t u v:Tok}{n:Nat}{Q:List Value->Shared->Prop} (hh:A.handled=none) (hr:IsRange s.heap r a b c t u v) (hsmall:Builtin.Range.small a b c=true)
  (hn:Builtin.Range.rangeSize a b c=n) (hlen:n<=2 ^ 24) (h:∀(h':Heap) (tk:Nat) (acc:Array Value),(∀b o,s.heap.get? b=some o->h'.get? b=some o)->ItemsOf (λi v=>∃t,v=.int (a+i*c) t) acc n->Q acc.toList {s with heap:=h',toks:=tk}) :
  wpAny (model prog w) A (collect (.ref r)) Q E s:=by
 unfold collect
 refine Ya (wpAny_runValue (codeAny_builtin entry_proto_collect' ?_))
 show wpAny _ _ (newList [] >>= λl=>again (.builtin "list.__iadd__" ⟨[l,.ref r],[]⟩)) _ _ s
 refine Ya (wpAny_newList (Yg ⟨Code.quiet_builtin _ (by decide +kernel),?_⟩))
 refine Zo4 (s:={s with heap:=s.heap.push (seqObj "list" #[] 0)}) hh (Yo _ hr) hsmall hn hlen (YE _ rfl) λh' tk acc c' hk hS hacc=>?_
 refine Ya (wpAny_load hS (Yg (h h' tk acc (λb o e=>hk b o (Yp (Yl e)) (Yo _ e)) hacc)))
theorem Zlc (g:Int->Int):∀vs:List Value,((vs.map numOf).map g).zip vs=vs.map λv=>(g (numOf v),v)
 |[]=>rfl
 |v::vs=>by
  simp only[YT,List.zip_cons_cons]
  rw[Zlc g vs]
theorem Zmd {b:Bool}{g:Int->Int}{vs out:List Value}{ns:List Int} (hv:IntsAre vs ns) (h:KskOut b (ns.map g) vs out):∃ns',IntsAre out ns'/\ns'.Perm ns/\ns'.Pairwise λx y=>if b then g y<=g x else g x<=g y:=by
 obtain⟨ps,hp,rfl,hs⟩:=h
 have en:ns=vs.map numOf:=hv.nums.symm
 rw[en,Zlc]at hp
 have mem:∀p∈ps,p.1=g (numOf p.2)/\p.2∈vs:=λp hp'=>by
  obtain⟨v,hv',rfl⟩:=YF.mp (hp.mem_iff.mp hp')
  exact⟨rfl,hv'⟩
 refine⟨(ps.map Prod.snd).map numOf,intsAre_map _ λv hv'=>?_,?_,?_⟩
 ·obtain⟨p,hp',rfl⟩:=YF.mp hv'
  exact hv.all _ (mem p hp').2
 ·have:=(hp.map Prod.snd).map numOf
  rw[YU (l:=vs),show(Prod.snd ∘ λv=>(g (numOf v),v))=(id:Value->Value)from rfl,List.map_id]at this
  rw[en];exact this
 ·rw[List.pairwise_map,List.pairwise_map]
  refine hs.imp_of_mem λ{p q} hp' hq' hr=>?_
  rw[<-(mem p hp').1,<-(mem q hq').1]
  exact hr
noncomputable def nats (n:Int):List Int:=(List.range n.toNat).map λ(i:Nat)=>(i:Int)
section
variable {X:Cx}
theorem Zh4 {pins:List (Addr×Obj)}{σ:St}{H:Hp}{s:Shared}{kw:List (Str×Value)}{f:Value}{b:Bool}{p:Addr}{n:Int}{kz:Int->Int}{Q:VK} (I:Inv X pins σ H s) (hc:X.calm=true) (hp:H p=some (.rng 0 n)) (h0:0<=n) (h64:n<64)
  (ha1:argsOk "sorted" ⟨[.ref p],kw⟩) (ha2:∀x,argsOk "list.sort" ⟨[.ref x],kw⟩) (ht:∀x,Builtin.«list.sort» ⟨[.ref x],kw⟩=ksk_tree x f b)
  (turn:∀(H':Hp) (s':Shared) (pins':List (Addr×Obj)) (i:Int) (u:Value),0<=i->i<n->Inv X pins' σ H' s'->Ze H H'->RelV (.int i) u->wpAny (model X.prog X.w) X.A.in1.in1 (call f [u]) (EP X pins' σ λv H2=>v=.int (kz i)/\Ze H' H2) (λ_ _=>False) s')
  (fin:∀(ns:List Int) (l:Addr) (H':Hp),ns.Perm (nats n)->(ns.Pairwise λx y=>if b then kz y<=kz x else kz x<=kz y)->Ze H H'->H l=none->H' l=some (.lst (ns.map V.int))->Q (.ref l) H') :
  wpAny (model X.prog X.w) X.A (call (.builtin "sorted") [.ref p] kw) (EP X pins σ Q) X.xe s:=by
 obtain⟨t,u,v,hob⟩:=(show ∃t u v,s.heap.get? p=some {cls:=.type "range",data:=.fields #[.int 0 t,.int n u,.int 1 v]}from I.hok p _ hp)
 refine call_function_entry_kw kind_sorted plain_sorted entry_sorted ha1 ?_
 unfold Builtin.«sorted»
 refine Ya (m:=checkCount "sorted" 1 1 _) (Yg (Ya (Zlb (n:=n.toNat) (I.ok.hd hc) hob (small_one (by omega) (by omega) (by omega) (by omega)) (by rw[rangeSize_one];split<;>omega) (by omega) λh1 tk acc k1 hacc=>Ya (wpAny_newList ?_ ?_))))
 case refine_2=>rw[YO,hacc.1];exact Ym (show n.toNat<=1000 by omega) (by decide)
 have hia:IntsAre acc.toList (nats n):=by
  have hv:Vals ((nats n).map V.int) acc.toList:=by
   unfold nats
   rw[YU]
   exact Zq4 (g:=λ(i:Nat)=>V.int (i:Int)) (P:=λ(i:Nat) v=>∃t,v=.int (0+(i:Int)*1) t) (λi v h=>by obtain⟨t,e⟩:=h;exact⟨t,by rw[e];simp⟩) _ _ (by rw[YO];exact hacc.1) λk v hk=>hacc.2 k v (by simpa using hk)
  exact intsAre_of hv
 have I1:=I.kept (t':=tk) k1
 show wpAny _ _ _ _ _ {s with heap:=h1.push (seqObj "list" acc.toList.toArray 0),toks:=tk}
 have oa:(h1.push (seqObj "list" acc.toList.toArray 0)).get? h1.objs.size=some (seqObj "list" acc.toList.toArray 0):=YE _ rfl
 have I2:=I1.kept (h':=h1.push (seqObj "list" acc.toList.toArray 0)) (t':=tk) λb o e=>Yo _ e
 have na:H h1.objs.size=none:=I1.hok.fresh (Yc _)
 have la:h1.objs.size≠X.env.locals:=Nat.ne_of_gt I1.lt
 have a0:X.s₀.heap.objs.size<=h1.objs.size:=I1.sz
 have hl:acc.toList.length<64:=by rw[YO,hacc.1];omega
 refine Ya (wpAny_holding (wpAny_call_entry_kw slot_list_sort ⟨_,oa,rfl⟩ entry_list_sort ?body (ha2 _)))
 case body =>
  show wpAny (model X.prog X.w) X.A.in1.in1 (Builtin.«list.sort» ⟨[.ref h1.objs.size],kw⟩) _ _ _
  rw[ht]
  refine Zrh (e0:=0) (pins:=pins) (ns:=nats n) (kz:=kz) (I2.ZI λq hq=>?_) a0 (λq hq=>?_) hia hl (λH' s' pins' i u hi J sm r=>?_) λH' s' out c J sm n2 o2 ko=>⟨_,rfl,Yg ⟨_,rfl,?_⟩⟩
  ·rcases Yk.mp hq with rfl|hq
   ·exact⟨oa,na,la,I1.ZkI (Yc _),λv z=>by cases z⟩
   ·exact I2.pin q (Yj _ hq)
  ·exact Yp (Yl (I1.pin q hq).1)
  ·obtain⟨k,hk,rfl⟩:=YF.mp hi
   have:=Yq.mp hk
   exact turn H' s' pins' _ u (by omega) (by omega) J sm r
  ·obtain⟨ns,hi,hpm,hpw⟩:=Zmd hia ko
   have ca:∀y cc,X.env.cells.lookup y=some cc->cc≠h1.objs.size:=λy cc hc' z=>by
    obtain⟨v,oc,w1,w2⟩:=I1.cell y cc hc'
    exact absurd (Yl w1) (by rw[z];exact Yu _)
   have K:=J.track (a:=h1.objs.size) (o:=.lst (ns.map V.int)) n2 la (.inr a0) ca (λq hq=>Yp (Yl (I1.pin q hq).1)) ⟨?_,out.toList,c,ZgG hi,by rw[Array.toArray_toList];exact o2⟩
   ·exact⟨.ref h1.objs.size,_,K,rfl,fin ns _ _ hpm hpw (λb o e=>by rw[Zh (Zu e na)];exact sm _ _ e) na Zc⟩
   ·rw[Yf,hpm.length_eq]
    unfold nats
    rw[Yf,YS]
    exact Ym (show n.toNat<=1000 by omega) (by decide)
noncomputable def Zj9 (ta td:TA) (tb:TE) (js:List (Option Nat)) (env:Env) (P:Addr) (q:Str) (params:Arguments) (body:Expr) (scope:Scope):TE:=fun σ H Q=>ta σ H λvs H1=>td σ H1 λzs H2=>∃(p f:Addr) (n:Int) (kz:Int->Int),
 vs=[.ref p]/\zs=[.ref f]/\H2 p=some (.rng 0 n)/\0<=n/\n<64/\ZiJ env P q params body scope H2 f /\
 (∀i H3,0<=i->i<n->Ze H2 H3->tb ((ZaO js σ).set 0 (some (.int i))) H3 λv H4=>v=.int (kz i)/\Ze H3 H4) /\
 ∀(ns:List Int) (l:Addr) (H3:Hp),ns.Perm (nats n)->(ns.Pairwise λx y=>kz x<=kz y)->Ze H2 H3->H2 l=none->H3 l=some (.lst (ns.map V.int))->Q (.ref l) H3
noncomputable def Zka (ta td:TA) (tb:TE) (js:List (Option Nat)) (env:Env) (P:Addr) (q:Str) (params:Arguments) (body:Expr) (scope:Scope):TE:=fun σ H Q=>ta σ H λvs H1=>td σ H1 λzs H2=>∃(p f:Addr) (n:Int) (kz:Int->Int),
 vs=[.ref p]/\zs=[.ref f,.bl true]/\H2 p=some (.rng 0 n)/\0<=n/\n<64/\ZiJ env P q params body scope H2 f /\
 (∀i H3,0<=i->i<n->Ze H2 H3->tb ((ZaO js σ).set 0 (some (.int i))) H3 λv H4=>v=.int (kz i)/\Ze H3 H4) /\
 ∀(ns:List Int) (l:Addr) (H3:Hp),ns.Perm (nats n)->(ns.Pairwise λx y=>kz y<=kz x)->Ze H2 H3->H2 l=none->H3 l=some (.lst (ns.map V.int))->Q (.ref l) H3
theorem Zld {pins':List (Addr×Obj)}{σ:St}{H':Hp}{s':Shared}{Nc:List Str}{js:List (Option Nat)}{q pn:Str}{params:Arguments}{body:Expr}{scope:Scope}{P f:Addr}{tb:TE}{Q:VK}{m:Nat}{i:Int}{u:Value} (hr:Room m X.A)
  (S:LamSc X Nc js params body scope pn) (hbody:∀cl L f c s H,PE (Zhb X X.A.in1.in1 Nc q scope cl L f c s H) body tb) (J:Inv X pins' σ H' s') (L:ZiJ X.env P q params body scope H' f) (r:RelV (.int i) u)
  (h:tb ((ZaO js σ).set 0 (some (.int i))) H' Q):wpAny (model X.prog X.w) X.A.in1.in1 (call (.ref f) [u]) (EP X pins' σ Q) (λ_ _=>False) s' :=
 Zh3 S hbody J J.ok.frames J.ok.hd hr.depth L r h
theorem ZnY {Nc:List Str}{js:List (Option Nat)}{q pn:Str}{params:Arguments}{body:Expr}{scope:Scope}{P:Addr}{ta td:TA}{tb:TE}{m:Nat}{e:Expr}{p pos lpos kp1:Pos} (hc:X.calm=true) (hr:Room m X.A) (S:LamSc X Nc js params body scope pn)
  (hbody:∀cl L f c s H,PE (Zhb X X.A.in1.in1 Nc q scope cl L f c s H) body tb) (hg:Gl X "sorted") (hm:X.mg "sorted"=none) (ha:PA X [e] ta) (hd:PK X [⟨some (Str.ofString "key"),.Lambda params body scope lpos,kp1⟩] td)
  (hpl:(backTo pos (starEach [e] X.env)).any (·.1)=false:=by rfl) (hall:(backToKw pos (keywordEach [⟨some (Str.ofString "key"),.Lambda params body scope lpos,kp1⟩] X.env)).all (·.1.isSome)=true:=by rfl)
  (hnn:(backToKw pos (keywordEach [⟨some (Str.ofString "key"),.Lambda params body scope lpos,kp1⟩] X.env)).any (·.1.isNone)=false:=by rfl) (hks:(backToKw pos (keywordEach [⟨some (Str.ofString "key"),.Lambda params body scope lpos,kp1⟩] X.env)).filterMap (·.1)=[Str.ofString "key"]:=by rfl) (hb:backTo pos (starEach [e] X.env)=(false,eval e X.env)::backTo pos (starEach [] X.env):=by rfl) :
  PE X (.Call (.Name "sorted" p) [e] [⟨some (Str.ofString "key"),.Lambda params body scope lpos,kp1⟩] pos) (Zj9 ta td tb js X.env P q params body scope):=by
 intro pins s σ H Q I h
 refine wpAny_Call_Name_kw (Zcg I hg hm Zjp ?_)
 refine PyProof.Rows.callWith_kw (thn (ha pos pins s σ H _ I h) λus s1 ⟨vs,H1,I1,r1,q1⟩=>?_) hb hpl hall hnn
 refine thn (hd pos pins s1 σ H1 _ I1 q1) λws s2 ⟨zs,H2,I2,r2,pp,f,n,kz,e1,e2,hp,h0,h64,L,tn,fin⟩=>?_
 subst e1 e2
 obtain⟨u,rfl,ru⟩:=r1.one
 cases(show u=Value.ref pp from ru)
 rw[hks]
 obtain⟨v,rfl,rv⟩:=r2.one
 cases(show v=Value.ref f from rv)
 exact Zh4 (f:=.ref f) (b:=false) (kz:=kz) I2 hc hp h0 h64 (ksk_s1 _ _) (λx=>ksk_l1 _ _) (λx=>ksk_t1 _ _) (λH' s' pins' i u hi0 hi1 J sm r=>Zld hr S hbody J (L.same sm) r (tn i H' hi0 hi1 sm)) (λns l H' a1 a2=>fin ns l H' a1 a2)
theorem ZnZ {Nc:List Str}{js:List (Option Nat)}{q pn:Str}{params:Arguments}{body:Expr}{scope:Scope}{P:Addr}{ta td:TA}{tb:TE}{m:Nat}{e:Expr}{e2:Expr}{p pos lpos kp1 kp2:Pos} (hc:X.calm=true) (hr:Room m X.A) (S:LamSc X Nc js params body scope pn)
  (hbody:∀cl L f c s H,PE (Zhb X X.A.in1.in1 Nc q scope cl L f c s H) body tb) (hg:Gl X "sorted") (hm:X.mg "sorted"=none) (ha:PA X [e] ta) (hd:PK X [⟨some (Str.ofString "key"),.Lambda params body scope lpos,kp1⟩,⟨some (Str.ofString "reverse"),e2,kp2⟩] td)
  (hpl:(backTo pos (starEach [e] X.env)).any (·.1)=false:=by rfl) (hall:(backToKw pos (keywordEach [⟨some (Str.ofString "key"),.Lambda params body scope lpos,kp1⟩,⟨some (Str.ofString "reverse"),e2,kp2⟩] X.env)).all (·.1.isSome)=true:=by rfl)
  (hnn:(backToKw pos (keywordEach [⟨some (Str.ofString "key"),.Lambda params body scope lpos,kp1⟩,⟨some (Str.ofString "reverse"),e2,kp2⟩] X.env)).any (·.1.isNone)=false:=by rfl) (hks:(backToKw pos (keywordEach [⟨some (Str.ofString "key"),.Lambda params body scope lpos,kp1⟩,⟨some (Str.ofString "reverse"),e2,kp2⟩] X.env)).filterMap (·.1)=[Str.ofString "key",Str.ofString "reverse"]:=by rfl) (hb:backTo pos (starEach [e] X.env)=(false,eval e X.env)::backTo pos (starEach [] X.env):=by rfl) :
  PE X (.Call (.Name "sorted" p) [e] [⟨some (Str.ofString "key"),.Lambda params body scope lpos,kp1⟩,⟨some (Str.ofString "reverse"),e2,kp2⟩] pos) (Zka ta td tb js X.env P q params body scope):=by
 intro pins s σ H Q I h
 refine wpAny_Call_Name_kw (Zcg I hg hm Zjp ?_)
 refine PyProof.Rows.callWith_kw (thn (ha pos pins s σ H _ I h) λus s1 ⟨vs,H1,I1,r1,q1⟩=>?_) hb hpl hall hnn
 refine thn (hd pos pins s1 σ H1 _ I1 q1) λws s2 ⟨zs,H2,I2,r2,pp,f,n,kz,e1,e2,hp,h0,h64,L,tn,fin⟩=>?_
 subst e1 e2
 obtain⟨u,rfl,ru⟩:=r1.one
 cases(show u=Value.ref pp from ru)
 rw[hks]
 obtain⟨v,v2,rfl,rv,rv2⟩:=r2.two
 cases(show v=Value.ref f from rv)
 cases(show v2=Value.bool true from rv2)
 exact Zh4 (f:=.ref f) (b:=true) (kz:=kz) I2 hc hp h0 h64 (ksk_s2 _ _ _) (λx=>ksk_l2 _ _ _) (λx=>ksk_t2 _ _ _) (λH' s' pins' i u hi0 hi1 J sm r=>Zld hr S hbody J (L.same sm) r (tn i H' hi0 hi1 sm)) (λns l H' a1 a2=>fin ns l H' a1 a2)
end
noncomputable def ZfK (x:Str):Str:=(x++".<locals>.")++"<lambda>"
noncomputable def ZX (K:Frag) (mg:Str->Option Value) (x:Str) (H:Hp):Prop:=H (Zev K mg x)=some (Zhp (ZfK x))
theorem ZX.same {K:Frag}{mg:Str->Option Value}{x:Str}{H H':Hp} (h:ZX K mg x H) (s:Ze H H'):ZX K mg x H':=s _ _ h
noncomputable def Zkb (K:Frag) (mg:Str->Option Value) (x:Str) (f:Addr):Prop:=∃c,ZnW K f=some c/\codeHdIn K c (Zev K mg x)=true
section
variable {P:Program}{w:World}{K:Frag}{mg:Str->Option Value}{base:Heap}
theorem Fun.okL {x qual:Str}{st:Stmt}{f:Addr}{fd:FuncData}{N ps:List Str}{k:Nat}{sp:Sp} (F:Fun K x qual st f fd) (L:Zkb K mg qual f) (B:BM mg base) (S:FnScope N ps (defScope st)) (len:∀vs H Q E,sp vs H Q E->vs.length=ps.length)
  (hbody:∀(cdv:Value) (A:Around) (outer:List Env) (s:Shared) (H:Hp) (vs:List V) (Q:VK) (E:XK),LamIn (ZfF (CXE P w) P w K mg base N qual (defScope st) f cdv A outer s H E) (Zev K mg qual) (ZfK qual)->Room k (A.deeper (envOfC qual (defScope st) s.heap.objs.size f cdv))->sp vs H Q E ->
   ∃t,PSs (ZfF (CXE P w) P w K mg base N qual (defScope st) f cdv A outer s H E) (defBody st) t/\t {nx:=λ_ H'=>Q .non H',rt:=Q} (start N vs) H):FnOk P w K mg base (CXE P w) (k+1) f fd ps sp:=by
 obtain⟨oc,od,kV,doc,pm,an,cdv,ct,osl,rfl,lk,hcd⟩:=F.ex
 obtain⟨c,h1,h2⟩:=L
 have e:cdv=.ref c:=by
  unfold ZnW at h1
  rw[lk]at h1
  dsimp only at h1
  cases cdv<;>first|(cases h1;rfl)|(cases h1;done)
 exact ZoD lk hcd S len λA outer s H vs Q E hr hsp=>hbody cdv A outer s H vs Q E ⟨⟨c,e,h2⟩,B,rfl⟩ hr hsp
end
theorem Zo5 {b:Addr}{q:Str}:∀{l:List (Addr×Str)},l.lookup b=some q->(b,q)∈l
 |[],e=>by cases e
 |(c,y)::r,e=>by
  rw[List.lookup_cons]at e
  cases hb:b==c with
  |true=>rw[hb]at e;cases e;rw[eq_of_beq hb];exact Yr
  |false=>rw[hb]at e;exact Ys _ (Zo5 e)
theorem ZhD {K:Frag}{mg:Str->Option Value}{x:Str}{f c T:Addr}{oc1 oc2:Value}{od1 od2:Option Addr}{fd:FuncData}{sl1 sl2:Array (Option Value)}{vs:Array Value} (hm:mg x=some (.ref f)) (l1:K.lookup f=some ⟨oc1,od1,.func fd,sl1⟩) (e:fd.code=.ref c) (l2:K.lookup c=some ⟨oc2,od2,.fields vs,sl2⟩) (h11:vs[11]?=some (.ref T)):Zev K mg x=T/\ZnW K f=some c:=by
 have h1:ZnW K f=some c:=by
  unfold ZnW
  rw[l1]
  dsimp only
  rw[e]
 refine⟨?_,h1⟩
 unfold Zev
 rw[hm]
 dsimp only
 rw[h1]
 dsimp only
 unfold tabOf
 rw[l2]
 dsimp only
 rw[h11]
theorem Zn0 {P:Program}{w:World}{K:Frag}{mg mb:Str->Option Value}{CX:CXT}{k:Nat}{fa a:Addr}{fd:FuncData}{x:Str}{sp:Sp}{s₁:Shared}{vs:List Value}{ns:List Int}{tabs:List (Addr×Str)}
  (KX:K.In s₁.heap) (hns:s₁.heap.Ns mainGlobals mg) (hb:s₁.heap.Ns builtinsNs mb) (hbb:∀x:Str,x≠"__name__"->mb x=bootBuiltins x) (hlim:s₁.heap.NoLimit) (hg:s₁.gens=#[]) (hbm:BM mg s₁.heap)
  (ha:s₁.heap.get? a=some {cls:=.type "list",data:=.seq vs.toArray}) (hi:IntsAre vs ns) (hl:ns.length<=sizeLine) (hr:Room k callerA)
  (hT:∀p∈tabs,s₁.heap.get? p.1=some (tabObj #[])/\K.lookup p.1=none/\∃c,codeHdIn K c p.1=true) (nd:(tabs.map (·.1)).Nodup)
  (F:∀base:Heap,K.In base->base.Ns mainGlobals mg->BM mg base->FnOk P w K mg base CX k fa fd [x] sp) (hbind:∀(s:Shared) (u:Value),BindsTo s fd ⟨[u],[]⟩ [(x,u)])
  (hsp:∀H:Hp,SqL K H a (ns.map V.int)->(∀p∈tabs,H p.1=some (Zhp p.2))->sp [.ref a] H (λv _=>v=.bl true) λ_ _ _=>False)
  (hCX:∀H e s',CX [] H s₁ (λ_ _ _=>False) e s'->False) :
  codeAny (model P w) callerA (.call (.ref fa) ⟨[.ref a],[]⟩) (λr s'=>r=.ok (.ret (.bool true))/\OldK s₁.heap s'.heap/\s'.os=s₁.os/\AllBare s'.gens) s₁:=by
 have rv:=ZgG hi
 have lenV:=hi.length
 have tmem:∀b q,tabs.lookup b=some q->(b,q)∈tabs:=λb q e=>Zo5 e
 have tlook:∀p∈tabs,tabs.lookup p.1=some p.2:=by
  clear hT hsp tmem
  induction tabs with
  |nil=>intro p hp;cases hp
  |cons t r ih =>
   intro p hp
   rw[YT,List.nodup_cons]at nd
   rcases Yk.mp hp with rfl|hp
   ·rw[List.lookup_cons,beq_self_eq_true]
   ·have:(p.1==t.1)=false:=beq_eq_false_iff_ne.mpr λz=>nd.1 (YF.mpr ⟨p,hp,z⟩)
    rw[List.lookup_cons,this]
    exact ih nd.2 p hp
 have core:∀H:Hp,SqL K H a (ns.map V.int)->HOk P w H s₁.heap->(∀b,H b=none\/(b=a/\K.lookup a=none/\∃o xs,H b=some (.frz o (.lst xs)))\/∃q,(b,q)∈tabs/\H b=some (Zhp q))->(∀p∈tabs,H p.1=some (Zhp p.2)) ->
   codeAny (model P w) callerA (.call (.ref fa) ⟨[.ref a],[]⟩) (λr s'=>r=.ok (.ret (.bool true))/\OldK s₁.heap s'.heap/\s'.os=s₁.os/\AllBare s'.gens) s₁:=by
  intro H hS hok hA hTb
  have base_of:∀{b:Addr}{o:Obj},s₁.heap.get? b=some o->H b=none->(ZiD s₁.heap H).get? b=some o:=λe n=>Zos e n
  have noA:∀{b:Addr}{o:Obj},s₁.heap.get? b=some o->o.cls≠.type "list"->o.cls≠.none->H b=none:=λ{b o} e d1 d2=>by
   rcases hA b with z|⟨z,_⟩|⟨q,z,_⟩
   ·exact z
   ·subst z;rw[ha]at e;cases e;exact absurd rfl d1
   ·rw[(hT _ z).1]at e;cases e;exact absurd rfl d2
  have noD:∀{b:Addr}{o:Obj}{es:Array DictEntry}{ep:Nat},s₁.heap.get? b=some o->o.data=.dict es ep->H b=none:=λ{b o es ep} e d=>by
   rcases hA b with z|⟨z,_⟩|⟨q,z,_⟩
   ·exact z
   ·subst z;rw[ha]at e;cases e;cases d
   ·rw[(hT _ z).1]at e;cases e;cases d
  have nsK:∀{b:Addr}{m:Str->Option Value},s₁.heap.Ns b m->(ZiD s₁.heap H).Ns b m:=λ{b m} ⟨o,es,ep,e,d,r⟩=>⟨o,es,ep,base_of e (noD e d),d,r⟩
  have hKb:K.In (ZiD s₁.heap H):=λb o e=>base_of (KX b o e) (by
   rcases hA b with z|⟨z,zk,_⟩|⟨q,z,_⟩
   ·exact z
   ·subst z;rw[zk]at e;cases e
   ·rw[(hT _ z).2.1]at e;cases e)
  have hM:Mod K mg (ZiD s₁.heap H):=⟨hKb,nsK hns,⟨mb,nsK hb,hbb⟩,let ⟨mc,h1,h2⟩:=hlim;⟨mc,nsK h1,h2⟩⟩
  have hB:BM mg (ZiD s₁.heap H):=by
   obtain⟨bm,ob,b1,b2,b3,b4,b5,b6,b7⟩:=hbm
   exact⟨bm,ob,b1,b2,b3,base_of b4 (noA b4 (by rw[b5];decide) (by rw[b5];nofun)),b5,b6,b7⟩
  have e0:Env0 P w K mg (ZiD s₁.heap H) callerA [] s₁ H:=⟨rfl,hM,λb o e=>ZqR e,Y9 (Znt _ _),trivial,λb hb=>absurd (show b∈([]:List Addr)from hb) (by simp),hok,.of_eq hg⟩
  refine codeAny_mono ((F _ hKb (nsK hns) hB).run callerA [] s₁ H ⟨[.ref a],[]⟩ [.ref a] [.ref a] _ _ hr e0 (hbind s₁ (.ref a)) (.cons rfl .nil) (hsp H hS hTb)) λr s' h=>?_
  cases r with
  |error e=>exact(hCX H e s' h).elim
  |ok fl =>
   cases fl with
   |next=>exact False.elim h
   |brk=>exact False.elim h
   |cont=>exact False.elim h
   |ret u =>
    obtain⟨v,H',os,bare,un,hok',r',q⟩:=h
    have q':v=.bl true:=q
    subst q'
    obtain rfl:u=Value.bool true:=r'
    have old:∀b o,s₁.heap.get? b=some o->asItWas s₁.heap s'.heap b o/\∃o',s'.heap.get? b=some o':=λb o e=>by
     rcases hA b with z|⟨_,_,ob,xs,z⟩|⟨q,zm,z⟩
     ·have:=un.keep b o e z (by intro y;exact absurd (show b∈([]:List Addr)from y) (by simp)) (by simp)
      exact⟨.inl this,o,this⟩
     ·have z2:=un.frzs b ob _ z
      obtain⟨e1,_⟩:=hok b _ z
      obtain⟨e2,_⟩:=hok' b _ z2
      rw[e]at e1;cases e1
      exact⟨.inl e2,o,e2⟩
     ·obtain⟨more,z2⟩:=un.tbls b _ z
      obtain⟨ts,e2,_⟩:=hok' b _ z2
      obtain⟨t1,_,c,t3⟩:=hT _ zm
      have t1':s₁.heap.get? b=some (tabObj #[]):=t1
      rw[e]at t1';cases t1'
      refine⟨.inr (.inl ⟨((codeHd_of_K KX t3).tab t1).isCodeTable,rfl,#[],ts,rfl,by rw[Array.empty_append];exact e2⟩),_,e2⟩
    exact⟨rfl,⟨λb o e=>(old b o e).1,λb o e=>(old b o e).2⟩,os,bare⟩
 have neA:∀q,(a,q)∉tabs:=λq z=>by
  have:=(hT _ z).1
  rw[show((a,q):Addr×Str).1=a from rfl,ha]at this;cases this
 have tabok:∀(H:Hp) (b:Addr) (q:Str),(b,q)∈tabs->Zau P w H s₁.heap b (Zhp q):=λH b q z=>⟨#[],(hT _ z).1,trivial,λpos cv e=>by cases e⟩
 cases hk:K.lookup a with
 |some o =>
  have e:=KX a o hk
  rw[ha]at e
  cases e
  refine core (λb=>(tabs.lookup b).map Zhp) (.inr ⟨_,vs.toArray,_,hk,rfl,rfl,rfl,by rw[Yn,lenV];exact hl,by simpa using rv⟩) (λb u z=>?_) (λb=>?_) λp hp=>by rw[tlook p hp];rfl
  ·dsimp only at z
   cases q:tabs.lookup b with
   |none=>rw[q]at z;cases z
   |some y=>rw[q]at z;cases z;exact tabok _ b y (tmem b y q)
  ·cases q:tabs.lookup b with
   |none=>exact .inl rfl
   |some y=>exact .inr (.inr ⟨y,tmem b y q,rfl⟩)
 |none =>
  refine core (λb=>if b=a then some (.frz {cls:=.type "list",data:=.seq vs.toArray} (.lst (ns.map V.int)))else (tabs.lookup b).map Zhp) (.inl (.inr ⟨{cls:=.type "list",data:=.seq vs.toArray},Ye rfl⟩)) (λb u z=>?_) (λb=>?_) λp hp=>?_
  ·by_cases hb:b=a
   ·have z':=(Ye hb).symm.trans z
    cases z'
    subst hb
    exact⟨ha,by rw[Yf];exact hl,vs,_,rv,ha⟩
   ·have z':=(Yd hb).symm.trans z
    cases q:tabs.lookup b with
    |none=>rw[q]at z';cases z'
    |some y=>rw[q]at z';cases z';exact tabok _ b y (tmem b y q)
  ·by_cases hb:b=a
   ·exact .inr (.inl ⟨hb,hk,_,_,Ye hb⟩)
   ·cases q:tabs.lookup b with
    |none=>exact .inl (by rw[Yd hb];rfl)
    |some y=>exact .inr (.inr ⟨y,tmem b y q,by rw[Yd hb];rfl⟩)
  ·have:p.1≠a:=λz=>neA p.2 (by rw[<-z];exact hp)
   rw[Yd this,tlook p hp];rfl
theorem Zo6 {l:OpenLaw}{n k:Nat}{q:Program}{loose:List Str}{XP:(Str->Option Value)->Heap->Prop}{YP:World->Heap->Prop}{d:DefRec}{K:Params->Frag}{CX:World->CXT}{sp:World->(Str->Option Value)->Sp}{x:Str}{ts:List Addr}{tabs:Frag->(Str->Option Value)->List (Addr×Str)}
  (hn:l.most=some n) (hn2:n<=sizeLine) (hdf:d.params.defaults=[]) (hr:Room k callerA)
  (hY:∀(w:World) (h:Heap),YP w h->(K w.params).In h) (hY2:∀(w:World) (h:Heap),YP w h->∀P∈ts,h.get? P=some (tabObj #[]))
  (F:∀(w:World) (mg:Str->Option Value) (fa:Addr) (h:Heap),(K w.params).In h->h.Ns mainGlobals mg->mg d.name=some (.ref fa) ->
   ∃fd:FuncData,(∀(s:Shared) (u:Value),BindsTo s fd ⟨[u],[]⟩ [(x,u)])/\(∀p∈tabs (K w.params) mg,p.1∈ts/\(K w.params).lookup p.1=none/\∃c,codeHdIn (K w.params) c p.1=true)/\((tabs (K w.params) mg).map (·.1)).Nodup /\
    ∀base:Heap,(K w.params).In base->base.Ns mainGlobals mg->BM mg base->FnOk l.prog w (K w.params) mg base (CX w) k fa fd [x] (sp w mg))
  (hsp:∀(w:World) (mg:Str->Option Value) (H:Hp) (a:Addr) (ns:List Int),ns.length<=n->SqL (K w.params) H a (ns.map V.int)->(∀p∈tabs (K w.params) mg,H p.1=some (Zhp p.2))->sp w mg [.ref a] H (λv _=>v=.bl true) λ_ _ _=>False)
  (hCX:∀(w:World) (H:Hp) (s:Shared) (e:Value) (s':Shared),CX w [] H s (λ_ _ _=>False) e s'->False) :
  WalkO q loose XP YP l.row.toRowW d [] (λf vs=>PySem.call f vs):=by
 refine Att.ZkR hn hdf λw s₀ s₁ mg mb fa o pm cd doc a vs ns G Y ho hd hcd hmg hobj hints hlen hg=>?_
 have KX:=hY w _ Y
 have TX:=hY2 w _ Y
 obtain⟨fd,hb,hT,nd,hF⟩:=F w mg fa _ KX G.T.g hmg
 have hbm:BM mg s₁.heap:=by
  obtain⟨bm,ob,b1,b2,b3,b4,b5,b6⟩:=G.T.bmain
  have bG:bm≠mainGlobals:=λz=>by
   obtain⟨o,es,ep,e,hd,_⟩:=G.T.g
   rw[z,e]at b3;cases b3;rw[hd]at b6;cases b6
  exact⟨bm,ob,b1,b2,bG,b3,b4,b5,b6⟩
 exact Zn0 KX G.T.g G.T.b G.T.builtins G.T.nolimit hg hbm hobj hints (Ym hlen hn2) hr (λp hp=>⟨TX _ (hT p hp).1,(hT p hp).2⟩) nd hF hb (λH hS hTb=>hsp w mg H a ns hlen hS hTb) λH e s'=>hCX w H s₁ e s'
theorem Zme (a v d:Value):argsOk "max" ⟨[a],[(Str.ofString "key",v),(Str.ofString "default",d)]⟩:=by unfold argsOk;kernel_rfl
noncomputable def ZdD (kz:Int->Int) (ns:List Int) (m i:Nat):Prop:=∀j,j<m->kz (nth ns j)<=kz (nth ns i)/\(j<i->kz (nth ns j)<kz (nth ns i))
theorem ZdD.one (kz:Int->Int) (ns:List Int):ZdD kz ns 1 0:=λj hj=>⟨by rw[show j=0 by omega];exact Int.le_refl _,λh=>absurd h (by omega)⟩
theorem ZdD.take {kz:Int->Int}{ns:List Int}{m i:Nat} (h:ZdD kz ns m i) (hi:i<m) (c:kz (nth ns m)>kz (nth ns i)):ZdD kz ns (m+1) m:=λj hj=>by
 by_cases e:j=m
 ·subst e;exact⟨Int.le_refl _,λh=>absurd h (by omega)⟩
 ·have:=(h j (by omega)).1
  exact⟨by omega,λ_=>by omega⟩
theorem ZdD.keep {kz:Int->Int}{ns:List Int}{m i:Nat} (h:ZdD kz ns m i) (hi:i<m) (c:¬ kz (nth ns m)>kz (nth ns i)):ZdD kz ns (m+1) i:=λj hj=>by
 by_cases e:j=m
 ·subst e;exact⟨by omega,λz=>absurd z (by omega)⟩
 ·exact h j (by omega)
section
variable {X:Cx}
theorem ZE {σ:St}{H':Hp}{s':Shared}{ps:List (Addr×Obj)}{x:Addr}{o:Obj} (J:Inv X ps σ H' s') (hm:(x,o)∈ps):s'.heap.get? x=some o/\H' x=none/\x≠X.env.locals/\x∉X.fs/\(∀v,o.data≠.cell v)/\∀y cc,X.env.cells.lookup y=some cc->cc≠x:=by
 obtain⟨q1,q2,q3,q4,q5⟩:=J.pin _ (Yj _ hm)
 refine⟨q1,q2,q3,q4,q5,λy cc hc z=>?_⟩
 obtain⟨v,oc,w1,w2⟩:=J.cell y cc hc
 rw[z,q1]at w1;cases w1;exact q5 _ w2
theorem Zn1 {pins:List (Addr×Obj)}{σ:St}{H:Hp}{A:Around}{R:Result->Shared->Prop}{d:Value}{dk:Str}{l I S q:Addr}{ns:List Int}{kz:Int->Int}
  (hh:A.handled=none) (hlI:l≠I) (hSI:S≠I) (hI0:X.s₀.heap.objs.size<=I) (hS0:X.s₀.heap.objs.size<=S) (hp:∀p∈X.pn++pins,p.1≠I/\p.1≠S) (hl:H l=some (.lst (ns.map V.int)))
  (turn:∀(H':Hp) (s':Shared) (pins':List (Addr×Obj)) (n:Int) (u:Value),n∈ns->Inv X pins' σ H' s'->Ze H H'->RelV (.int n) u->wpAny (model X.prog X.w) A.in1 (call (.ref q) [u]) (EP X pins' σ λv H2=>v=.int (kz n)/\Ze H' H2) (λ_ _=>False) s')
  (hR0:ns=[]->∀H' s',Inv X pins σ H' s'->Ze H H'->R (.ok (.ret d)) s')
  (hR:∀(i:Nat) (v:Value) H' s',i<ns.length->RelV (.int (nth ns i)) v->ZdD kz ns ns.length i->Inv X pins σ H' s'->Ze H H'->R (.ok (.ret v)) s') :
  ∀(r j:Nat) (H':Hp) (s':Shared) (buf:Array Value) (c:Nat) (oI:Obj),ns.length-j=r->j<=ns.length->Inv X ((S,seqObj "list" buf c)::(I,oI)::pins) σ H' s'->Ze H H'->s'.heap.IsListIter I l j ->
   ((j=0/\buf=#[])\/∃(i:Nat) (vb:Value) (tb:Tok),i<j/\buf=#[vb,.int (kz (nth ns i)) tb]/\RelV (.int (nth ns i)) vb/\ZdD kz ns j i) ->
   codeAny (model X.prog X.w) A (.builtin "max.loop" ⟨[.ref I,.ref q,.ref S],[(dk,d)]⟩) R s':=by
 have hname:(toString "max"++toString ".loop":String)="max.loop":=by decide
 intro r
 induction r with
 |zero =>
  intro j H' s' buf c oI hr hj J sm hit hb
  have hjn:j=ns.length:=by omega
  obtain⟨oS,nS,lS,fS,_,cS⟩:=ZE J (Yr ..)
  obtain⟨oI',nI,lI,fI,dI,cI⟩:=ZE J (Ys _ (Yr ..))
  obtain⟨its,rv,pl,_⟩:=J.list (SqL.of (sm _ _ hl))
  have hlen:its.length=ns.length:=by have:=rv.length;rw[Yf]at this;omega
  have hsz:its.toArray.size=its.length:=Yn ..
  have W:=Walks.list (prog:=X.prog) (w:=X.w) (A:=A.in1) hh I l hlI its.toArray
  have J0:Inv X pins σ H' s':=J.ZI λp hp'=>J.pin p (Yj _ (Ys _ (Ys _ hp')))
  refine codeAny_builtin PySem.F.entry_max_loop ?_
  rw[Around.under_plainId PySem.F.plain_max_loop _]
  show wpAny _ A.in1 (seqItems? (.ref S) >>= _) _ _ _
  refine Ya (wpAny_seqItems oS rfl ?_)
  rcases hb with⟨hj0,rfl⟩|⟨i,vb,tb,hi,rfl,rvb,hB⟩
  ·refine Ya (wpAny_tryCatch (W.done _ _ _ ⟨by rw[hsz,hlen,<-hjn];exact hit,pl.isList⟩ λh' tk' hk'=>?_))
   refine Ya (wpAny_rule (Yg ?_))
   exact hR0 (List.length_eq_zero_iff.mp (by omega)) H' _ (J0.turned (it:=I) (λb o nb e=>hk' b o (by simpa using nb) e) nI lI (.inr hI0) cI λp hp'=>(hp p hp').1) sm
  ·refine Ya (wpAny_tryCatch (W.done _ _ _ ⟨by rw[hsz,hlen,<-hjn];exact hit,pl.isList⟩ λh' tk' hk'=>?_))
   have hS':=hk' S _ (by simpa using hSI) oS
   have J1:=J0.turned (t':=tk') (h':=h') (it:=I) (λb o nb e=>hk' b o (by simpa using nb) e) nI lI (.inr hI0) cI λp hp'=>(hp p hp').1
   refine Ya (wpAny_updateSeq hS' rfl ?_ (show 2<=sizeLine by decide) (Yv _))
   refine Ya (wpAny_letGo (Yg ?_))
   have J2:=J1.turned (t':=tk') (h':=h'.update S (Obj.mapSeq λ_=>(#[]:Array Value))) (it:=S) (λb o nb e=>(Heap.get?_update_ne _ _ _ _ nb).trans e) nS lS (.inr hS0) cS λp hp'=>(hp p hp').2
   exact hR i vb H' _ (by omega) rvb (hjn▸hB) J2 sm
 |succ r ih =>
  intro j H' s' buf c oI hr hj J sm hit hb
  have hlt:j<ns.length:=by omega
  obtain⟨oS,nS,lS,fS,_,cS⟩:=ZE J (Yr ..)
  obtain⟨oI',nI,lI,fI,dI,cI⟩:=ZE J (Ys _ (Yr ..))
  obtain⟨its,rv,pl,_⟩:=J.list (SqL.of (sm _ _ hl))
  have hlen:its.length=ns.length:=by have:=rv.length;rw[Yf]at this;omega
  have hsz:its.toArray.size=its.length:=Yn ..
  have W:=Walks.list (prog:=X.prog) (w:=X.w) (A:=A.in1) hh I l hlI its.toArray
  have J0:Inv X ((S,seqObj "list" buf c)::pins) σ H' s':=J.ZI λp hp'=>J.pin p (Yj _ (by
   rcases Yk.mp hp' with z|z
   ·exact Yk.mpr (.inl z)
   ·exact Ys _ (Ys _ z)))
  refine codeAny_builtin PySem.F.entry_max_loop ?_
  rw[Around.under_plainId PySem.F.plain_max_loop _]
  show wpAny _ A.in1 (seqItems? (.ref S) >>= _) _ _ _
  refine Ya (wpAny_seqItems oS rfl ?_)
  have step:∀(v:Value) (h':Heap) (tk':Nat),its.toArray[j]?=some v->h'.IsListIter I l (j+1)/\h'.IsList l its.toArray->(∀b o,b∉[I]->s'.heap.get? b=some o->h'.get? b=some o)->RelV (.int (nth ns j)) v/\∃oI2,h'.get? I=some oI2/\Inv X ((S,seqObj "list" buf c)::(I,oI2)::pins) σ H' {s' with heap:=h',toks:=tk'}:=λv h' tk' hP hst hk'=>by
   refine⟨?_,?_⟩
   ·obtain⟨v',e1,e2⟩:=rv.get (i:=j) (x:=V.int (nth ns j)) (by unfold nth;rw[YB,Yi,Yb hlt];rfl)
    have:its[j]?=some v:=by simpa using hP
    rw[e1]at this;cases this;exact e2
   ·obtain⟨oI2,g2,hcls,hdat⟩:=id hst.1
    have J1:=J0.turned (t':=tk') (h':=h') (it:=I) (λb o nb e=>hk' b o (by simpa using nb) e) nI lI (.inr hI0) cI λp hp'=>by
     rcases Yy.mp hp' with z|z
     ·exact(hp p (YM _ z)).1
     ·rcases Yk.mp z with rfl|z
      ·exact hSI
      ·exact(hp p (Yj _ z)).1
    refine⟨oI2,g2,J1.ZI λp hp'=>?_⟩
    rcases Yk.mp hp' with rfl|hp'
    ·exact J1.pin _ (Yj _ (Yr ..))
    ·rcases Yk.mp hp' with rfl|hp'
     ·exact⟨g2,nI,lI,fI,λv z=>by rw[hdat]at z;cases z⟩
     ·exact J1.pin _ (Yj _ (Ys _ hp'))
  have write:∀{H2:Hp}{s2:Shared}{oI2:Obj} (v:Value) (t2:Tok) (b2:Array Value) (c0:Nat),Inv X ((S,seqObj "list" b2 c0)::(I,oI2)::pins) σ H2 s2->∃c2,Inv X ((S,seqObj "list" #[v,.int (kz (nth ns j)) t2] c2)::(I,oI2)::pins) σ H2 {s2 with heap:=s2.heap.update S (Obj.mapSeq λ_=>#[v,.int (kz (nth ns j)) t2])}:=λ{H2 s2 oI2} v t2 b2 c0 K=>by
   obtain⟨o2,n2,l2,f2,_,cc2⟩:=ZE K (Yr ..)
   obtain⟨c2,hc2⟩:∃c2,(s2.heap.update S (Obj.mapSeq λ_=>#[v,.int (kz (nth ns j)) t2])).get? S=some (seqObj "list" #[v,.int (kz (nth ns j)) t2] c2):=⟨_,get?_update_seq o2 λ_=>#[v,.int (kz (nth ns j)) t2]⟩
   have K0:Inv X ((I,oI2)::pins) σ H2 s2:=K.ZI λp hp'=>K.pin p (Yj _ (Ys _ hp'))
   have K1:=K0.turned (t':=s2.toks) (h':=s2.heap.update S (Obj.mapSeq λ_=>#[v,.int (kz (nth ns j)) t2])) (it:=S) (λb o nb e=>(Heap.get?_update_ne _ _ _ _ nb).trans e) n2 l2 (.inr hS0) cc2 λp hp'=>by
    rcases Yy.mp hp' with z|z
    ·exact(hp p (YM _ z)).2
    ·rcases Yk.mp z with rfl|z
     ·exact hSI.symm
     ·exact(hp p (Yj _ z)).2
   refine⟨c2,K1.ZI λp hp'=>?_⟩
   rcases Yk.mp hp' with rfl|hp'
   ·exact⟨hc2,n2,l2,f2,λv z=>by cases z⟩
   ·exact K1.pin p (Yj _ hp')
  have mem:nth ns j∈ns:=by unfold nth;rw[Yi,Yb hlt];exact YI hlt
  rcases hb with⟨hj0,rfl⟩|⟨i,vb,tb,hi,rfl,rvb,hB⟩
  ·refine Ya (wpAny_tryCatch (W.item j _ _ _ (by rw[hsz,hlen];exact hlt) ⟨hit,pl.isList⟩ λv h' tk' hP hst' hk'=>?_))
   obtain⟨rj,oI2,gI,J2⟩:=step v h' tk' hP hst' hk'
   obtain⟨oI3,gI3,hcls,hdat⟩:=id hst'.1
   rw[gI]at gI3;cases gI3
   refine Ya (wpAny_tryCatch (wpAny_holding (YN (turn H' _ _ _ v mem J2 sm rj) (λx s'' he=>?_) λ_ _ hF=>hF.elim)))
   obtain⟨x2,H2,J3,r2,rfl,sm2⟩:=he
   obtain⟨t2,rfl⟩:=r2
   obtain⟨oS3,_⟩:=ZE J3 (Yr ..)
   obtain⟨oI4,_⟩:=ZE J3 (Ys _ (Yr ..))
   obtain⟨c2,J4⟩:=write v t2 _ _ J3
   refine Ya (wpAny_updateSeq oS3 rfl ?_ (Yv _) (show 2<=sizeLine+1 by decide))
   rw[hname]
   refine Yg ⟨plainId_quiet PySem.F.plain_max_loop _,ih (j+1) H2 _ _ c2 oI2 (by omega) hlt J4 (sm.trans sm2) ⟨oI2,(Heap.get?_update_ne _ _ _ _ hSI.symm).trans oI4,hcls,hdat⟩ (.inr ⟨j,v,t2,by omega,rfl,rj,?_⟩)⟩
   subst hj0;exact ZdD.one kz ns
  ·refine Ya (wpAny_tryCatch (W.item j _ _ _ (by rw[hsz,hlen];exact hlt) ⟨hit,pl.isList⟩ λv h' tk' hP hst' hk'=>?_))
   obtain⟨rj,oI2,gI,J2⟩:=step v h' tk' hP hst' hk'
   obtain⟨oI3,gI3,hcls,hdat⟩:=id hst'.1
   rw[gI]at gI3;cases gI3
   refine Ya (wpAny_tryCatch (wpAny_holding (YN (turn H' _ _ _ v mem J2 sm rj) (λx s'' he=>?_) λ_ _ hF=>hF.elim)))
   obtain⟨x2,H2,J3,r2,rfl,sm2⟩:=he
   obtain⟨t2,rfl⟩:=r2
   obtain⟨oS3,_⟩:=ZE J3 (Yr ..)
   obtain⟨oI4,_⟩:=ZE J3 (Ys _ (Yr ..))
   refine Ya (wpAny_tryCatch (wpAny_holding (Ya (CmpOf.ints_gt (prog:=X.prog) (w:=X.w) (A:=A.in1) (P:=λi v=>∃t,v=.int (kz (nth ns i)) t) (λi=>kz (nth ns i)) (λi v h=>h) j i _ _ _ _ _ ⟨t2,rfl⟩ ⟨tb,rfl⟩ ?_))))
   refine Ya (wpAny_holding (wpAny_truthy_bool ?_))
   refine Ya (wpAny_letGo (Yg ?_))
   by_cases hb':kz (nth ns j)>kz (nth ns i)
   ·simp only[hb',decide_true,if_true]
    obtain⟨c2,J4⟩:=write v t2 _ _ J3
    refine Ya (wpAny_updateSeq oS3 rfl (Ya (wpAny_letGo ?_)) (show 2<=sizeLine by decide) (show 2<=sizeLine+1 by decide))
    rw[hname]
    exact Yg ⟨plainId_quiet PySem.F.plain_max_loop _,ih (j+1) H2 _ _ c2 oI2 (by omega) hlt J4 (sm.trans sm2) ⟨oI2,(Heap.get?_update_ne _ _ _ _ hSI.symm).trans oI4,hcls,hdat⟩ (.inr ⟨j,v,t2,by omega,rfl,rj,hB.take hi hb'⟩)⟩
   ·simp only[hb',decide_false,Bool.false_eq_true,if_false]
    refine Ya (wpAny_letGo ?_)
    rw[hname]
    exact Yg ⟨plainId_quiet PySem.F.plain_max_loop _,ih (j+1) H2 _ _ c oI2 (by omega) hlt J3 (sm.trans sm2) ⟨oI2,oI4,hcls,hdat⟩ (.inr ⟨i,vb,tb,by omega,rfl,rvb,hB.keep hi hb'⟩)⟩
theorem maxKD {pins:List (Addr×Obj)}{σ:St}{H:Hp}{s:Shared}{l q:Addr}{ns:List Int}{kz:Int->Int}{d:Value}{dv:V}{Q:VK} (I:Inv X pins σ H s) (hc:X.calm=true) (hl:H l=some (.lst (ns.map V.int))) (rd:RelV dv d)
  (turn:∀(H':Hp) (s':Shared) (pins':List (Addr×Obj)) (n:Int) (u:Value),n∈ns->Inv X pins' σ H' s'->Ze H H'->RelV (.int n) u->wpAny (model X.prog X.w) X.A.in1 (call (.ref q) [u]) (EP X pins' σ λv H2=>v=.int (kz n)/\Ze H' H2) (λ_ _=>False) s')
  (fin0:ns=[]->∀H',Ze H H'->Q dv H') (fin:∀i H',i<ns.length->ZdD kz ns ns.length i->Ze H H'->Q (.int (nth ns i)) H') :
  wpAny (model X.prog X.w) X.A (call (.builtin "max") [.ref l] [(Str.ofString "key",.ref q),(Str.ofString "default",d)]) (EP X pins σ Q) X.xe s:=by
 have hname:(toString "max"++toString ".loop":String)="max.loop":=by decide
 obtain⟨its,rv,pl,_⟩:=I.list (SqL.of hl)
 obtain⟨ol,hol,_⟩:=id pl.isList
 have hll:l<s.heap.objs.size:=Yl hol
 refine kmk_tree PySem.F.kind_max PySem.F.plain_max PySem.F.entry_max (Zme _ _ _) ?_
 show wpAny _ X.A.in1 (Builtin.Builtins.bindParams "max" ["key","default"] 0 ⟨[],[(Str.ofString "key",.ref q),(Str.ofString "default",d)]⟩ >>= _) _ _ s
 refine Ya (wpAny_of_eq (show Builtin.Builtins.bindParams "max" ["key","default"] 0 ⟨[],[(Str.ofString "key",.ref q),(Str.ofString "default",d)]⟩=pure [some (.ref q),some d]from rfl) ?_)
 refine Ya (Yg ?_)
 refine Ya (wpAny_pyIter_list pl.isList ?_)
 refine Ya (wpAny_newList ?_ (Yv _))
 rw[hname]
 refine Yg ⟨plainId_quiet PySem.F.plain_max_loop _,?_⟩
 have hS:(s.heap.push {cls:=.type "list_iterator",data:=.fields #[.ref l,.int 0 0]}).objs.size=s.heap.objs.size+1:=size_push' ..
 have I2:=I.kept (h':=(s.heap.push {cls:=.type "list_iterator",data:=.fields #[.ref l,.int 0 0]}).push (seqObj "list" #[] 0)) (t':=s.toks) λb o e=>Yo _ (Yo _ e)
 have gI:((s.heap.push {cls:=.type "list_iterator",data:=.fields #[.ref l,.int 0 0]}).push (seqObj "list" #[] 0)).get? s.heap.objs.size=some {cls:=.type "list_iterator",data:=.fields #[.ref l,.int 0 0]}:=Yo _ (YE _ rfl)
 have gS:((s.heap.push {cls:=.type "list_iterator",data:=.fields #[.ref l,.int 0 0]}).push (seqObj "list" #[] 0)).get? (s.heap.objs.size+1)=some (seqObj "list" #[] 0):=by rw[<-hS];exact YE _ rfl
 rw[hS]
 refine Zn1 (pins:=pins) (H:=H) (ns:=ns) (kz:=kz) (I.ok.hd hc) (Yp hll) (Nat.ne_of_gt (Nat.lt_succ_self _)) I.sz (Nat.le_succ_of_le I.sz) (λp hp=>?_) hl turn (λz H' s' J sm=>⟨dv,H',J,rd,fin0 z H' sm⟩) (λi v H' s' hi r hB J sm=>⟨.int (nth ns i),H',J,r,fin i H' hi hB sm⟩) _ 0 H _ #[] 0 {cls:=.type "list_iterator",data:=.fields #[.ref l,.int 0 0]} rfl (Yv _) (I2.ZI λp hp=>?_) (Ze.refl H) ⟨_,gI,rfl,rfl⟩ (.inl ⟨rfl,rfl⟩)
 ·have:=Yl (I.pin p hp).1
  exact⟨Yp this,Yp (YR this)⟩
 ·rcases Yk.mp hp with rfl|hp
  ·exact⟨gS,I.hok.fresh (Y2 _),Nat.ne_of_gt (YR I.lt),I.ZkI (Y2 _),λv z=>by cases z⟩
  ·rcases Yk.mp hp with rfl|hp
   ·exact⟨gI,I.hok.fresh (Yc _),Nat.ne_of_gt I.lt,I.ZkI (Yc _),λv z=>by cases z⟩
   ·exact I2.pin p (Yj _ hp)
noncomputable def Zmf (ta td:TA) (tb:TE) (js:List (Option Nat)) (env:Env) (P:Addr) (q:Str) (params:Arguments) (body:Expr) (scope:Scope):TE:=fun σ H Q=>ta σ H λvs H1=>td σ H1 λzs H2=>∃(p f:Addr) (dv:V) (ns:List Int) (kz:Int->Int),
 vs=[.ref p]/\zs=[.ref f,dv]/\H2 p=some (.lst (ns.map V.int))/\ZiJ env P q params body scope H2 f /\
 (∀n H3,n∈ns->Ze H2 H3->tb ((ZaO js σ).set 0 (some (.int n))) H3 λv H4=>v=.int (kz n)/\Ze H3 H4) /\
 (ns=[]->∀H3,Ze H2 H3->Q dv H3)/\∀i H3,i<ns.length->ZdD kz ns ns.length i->Ze H2 H3->Q (.int (nth ns i)) H3
theorem Zo7 {Nc:List Str}{js:List (Option Nat)}{q pn:Str}{params:Arguments}{body:Expr}{scope:Scope}{P:Addr}{ta td:TA}{tb:TE}{m:Nat}{e:Expr}{e2:Expr}{p pos lpos kp1 kp2:Pos} (hc:X.calm=true) (hr:Room m X.A) (S:LamSc X Nc js params body scope pn)
  (hbody:∀cl L f c s H,PE (Zhb X X.A.in1 Nc q scope cl L f c s H) body tb) (hg:Gl X "max") (hm:X.mg "max"=none) (ha:PA X [e] ta) (hd:PK X [⟨some (Str.ofString "key"),.Lambda params body scope lpos,kp1⟩,⟨some (Str.ofString "default"),e2,kp2⟩] td)
  (hpl:(backTo pos (starEach [e] X.env)).any (·.1)=false:=by rfl) (hall:(backToKw pos (keywordEach [⟨some (Str.ofString "key"),.Lambda params body scope lpos,kp1⟩,⟨some (Str.ofString "default"),e2,kp2⟩] X.env)).all (·.1.isSome)=true:=by rfl)
  (hnn:(backToKw pos (keywordEach [⟨some (Str.ofString "key"),.Lambda params body scope lpos,kp1⟩,⟨some (Str.ofString "default"),e2,kp2⟩] X.env)).any (·.1.isNone)=false:=by rfl) (hks:(backToKw pos (keywordEach [⟨some (Str.ofString "key"),.Lambda params body scope lpos,kp1⟩,⟨some (Str.ofString "default"),e2,kp2⟩] X.env)).filterMap (·.1)=[Str.ofString "key",Str.ofString "default"]:=by rfl) (hb:backTo pos (starEach [e] X.env)=(false,eval e X.env)::backTo pos (starEach [] X.env):=by rfl) :
  PE X (.Call (.Name "max" p) [e] [⟨some (Str.ofString "key"),.Lambda params body scope lpos,kp1⟩,⟨some (Str.ofString "default"),e2,kp2⟩] pos) (Zmf ta td tb js X.env P q params body scope):=by
 intro pins s σ H Q I h
 refine wpAny_Call_Name_kw (Zcg I hg hm ZjW ?_)
 refine PyProof.Rows.callWith_kw (thn (ha pos pins s σ H _ I h) λus s1 ⟨vs,H1,I1,r1,q1⟩=>?_) hb hpl hall hnn
 refine thn (hd pos pins s1 σ H1 _ I1 q1) λws s2 ⟨zs,H2,I2,r2,pp,f,dv,ns,kz,e1,e2,hp,L,tn,fin0,fin⟩=>?_
 subst e1 e2
 obtain⟨u,rfl,ru⟩:=r1.one
 cases(show u=Value.ref pp from ru)
 rw[hks]
 obtain⟨v,v2,rfl,rv,rv2⟩:=r2.two
 cases(show v=Value.ref f from rv)
 exact maxKD (kz:=kz) I2 hc hp rv2 (λH' s' pins' n u hn J sm r=>Zh3 S hbody J J.ok.frames J.ok.hd hr.depth (L.same sm) r (tn n H' hn sm)) fin0 fin
end
theorem Zmg (a v d:Value):argsOk "min" ⟨[a],[(Str.ofString "key",v),(Str.ofString "default",d)]⟩:=by unfold argsOk;kernel_rfl
noncomputable def Zbl (kz:Int->Int) (ns:List Int) (m i:Nat):Prop:=∀j,j<m->kz (nth ns i)<=kz (nth ns j)/\(j<i->kz (nth ns i)<kz (nth ns j))
theorem Zbl.one (kz:Int->Int) (ns:List Int):Zbl kz ns 1 0:=λj hj=>⟨by rw[show j=0 by omega];exact Int.le_refl _,λh=>absurd h (by omega)⟩
theorem Zbl.take {kz:Int->Int}{ns:List Int}{m i:Nat} (h:Zbl kz ns m i) (hi:i<m) (c:kz (nth ns m)<kz (nth ns i)):Zbl kz ns (m+1) m:=λj hj=>by
 by_cases e:j=m
 ·subst e;exact⟨Int.le_refl _,λh=>absurd h (by omega)⟩
 ·have:=(h j (by omega)).1
  exact⟨by omega,λ_=>by omega⟩
theorem Zbl.keep {kz:Int->Int}{ns:List Int}{m i:Nat} (h:Zbl kz ns m i) (hi:i<m) (c:¬ kz (nth ns m)<kz (nth ns i)):Zbl kz ns (m+1) i:=λj hj=>by
 by_cases e:j=m
 ·subst e;exact⟨by omega,λz=>absurd z (by omega)⟩
 ·exact h j (by omega)
section
variable {X:Cx}
theorem Zn2 {pins:List (Addr×Obj)}{σ:St}{H:Hp}{A:Around}{R:Result->Shared->Prop}{d:Value}{dk:Str}{l I S q:Addr}{ns:List Int}{kz:Int->Int}
  (hh:A.handled=none) (hlI:l≠I) (hSI:S≠I) (hI0:X.s₀.heap.objs.size<=I) (hS0:X.s₀.heap.objs.size<=S) (hp:∀p∈X.pn++pins,p.1≠I/\p.1≠S) (hl:H l=some (.lst (ns.map V.int)))
  (turn:∀(H':Hp) (s':Shared) (pins':List (Addr×Obj)) (n:Int) (u:Value),n∈ns->Inv X pins' σ H' s'->Ze H H'->RelV (.int n) u->wpAny (model X.prog X.w) A.in1 (call (.ref q) [u]) (EP X pins' σ λv H2=>v=.int (kz n)/\Ze H' H2) (λ_ _=>False) s')
  (hR0:ns=[]->∀H' s',Inv X pins σ H' s'->Ze H H'->R (.ok (.ret d)) s')
  (hR:∀(i:Nat) (v:Value) H' s',i<ns.length->RelV (.int (nth ns i)) v->Zbl kz ns ns.length i->Inv X pins σ H' s'->Ze H H'->R (.ok (.ret v)) s') :
  ∀(r j:Nat) (H':Hp) (s':Shared) (buf:Array Value) (c:Nat) (oI:Obj),ns.length-j=r->j<=ns.length->Inv X ((S,seqObj "list" buf c)::(I,oI)::pins) σ H' s'->Ze H H'->s'.heap.IsListIter I l j ->
   ((j=0/\buf=#[])\/∃(i:Nat) (vb:Value) (tb:Tok),i<j/\buf=#[vb,.int (kz (nth ns i)) tb]/\RelV (.int (nth ns i)) vb/\Zbl kz ns j i) ->
   codeAny (model X.prog X.w) A (.builtin "min.loop" ⟨[.ref I,.ref q,.ref S],[(dk,d)]⟩) R s':=by
 have hname:(toString "min"++toString ".loop":String)="min.loop":=by decide
 intro r
 induction r with
 |zero =>
  intro j H' s' buf c oI hr hj J sm hit hb
  have hjn:j=ns.length:=by omega
  obtain⟨oS,nS,lS,fS,_,cS⟩:=ZE J (Yr ..)
  obtain⟨oI',nI,lI,fI,dI,cI⟩:=ZE J (Ys _ (Yr ..))
  obtain⟨its,rv,pl,_⟩:=J.list (SqL.of (sm _ _ hl))
  have hlen:its.length=ns.length:=by have:=rv.length;rw[Yf]at this;omega
  have hsz:its.toArray.size=its.length:=Yn ..
  have W:=Walks.list (prog:=X.prog) (w:=X.w) (A:=A.in1) hh I l hlI its.toArray
  have J0:Inv X pins σ H' s':=J.ZI λp hp'=>J.pin p (Yj _ (Ys _ (Ys _ hp')))
  refine codeAny_builtin PySem.F.entry_min_loop ?_
  rw[Around.under_plainId PySem.F.plain_min_loop _]
  show wpAny _ A.in1 (seqItems? (.ref S) >>= _) _ _ _
  refine Ya (wpAny_seqItems oS rfl ?_)
  rcases hb with⟨hj0,rfl⟩|⟨i,vb,tb,hi,rfl,rvb,hB⟩
  ·refine Ya (wpAny_tryCatch (W.done _ _ _ ⟨by rw[hsz,hlen,<-hjn];exact hit,pl.isList⟩ λh' tk' hk'=>?_))
   refine Ya (wpAny_rule (Yg ?_))
   exact hR0 (List.length_eq_zero_iff.mp (by omega)) H' _ (J0.turned (it:=I) (λb o nb e=>hk' b o (by simpa using nb) e) nI lI (.inr hI0) cI λp hp'=>(hp p hp').1) sm
  ·refine Ya (wpAny_tryCatch (W.done _ _ _ ⟨by rw[hsz,hlen,<-hjn];exact hit,pl.isList⟩ λh' tk' hk'=>?_))
   have hS':=hk' S _ (by simpa using hSI) oS
   have J1:=J0.turned (t':=tk') (h':=h') (it:=I) (λb o nb e=>hk' b o (by simpa using nb) e) nI lI (.inr hI0) cI λp hp'=>(hp p hp').1
   refine Ya (wpAny_updateSeq hS' rfl ?_ (show 2<=sizeLine by decide) (Yv _))
   refine Ya (wpAny_letGo (Yg ?_))
   have J2:=J1.turned (t':=tk') (h':=h'.update S (Obj.mapSeq λ_=>(#[]:Array Value))) (it:=S) (λb o nb e=>(Heap.get?_update_ne _ _ _ _ nb).trans e) nS lS (.inr hS0) cS λp hp'=>(hp p hp').2
   exact hR i vb H' _ (by omega) rvb (hjn▸hB) J2 sm
 |succ r ih =>
  intro j H' s' buf c oI hr hj J sm hit hb
  have hlt:j<ns.length:=by omega
  obtain⟨oS,nS,lS,fS,_,cS⟩:=ZE J (Yr ..)
  obtain⟨oI',nI,lI,fI,dI,cI⟩:=ZE J (Ys _ (Yr ..))
  obtain⟨its,rv,pl,_⟩:=J.list (SqL.of (sm _ _ hl))
  have hlen:its.length=ns.length:=by have:=rv.length;rw[Yf]at this;omega
  have hsz:its.toArray.size=its.length:=Yn ..
  have W:=Walks.list (prog:=X.prog) (w:=X.w) (A:=A.in1) hh I l hlI its.toArray
  have J0:Inv X ((S,seqObj "list" buf c)::pins) σ H' s':=J.ZI λp hp'=>J.pin p (Yj _ (by
   rcases Yk.mp hp' with z|z
   ·exact Yk.mpr (.inl z)
   ·exact Ys _ (Ys _ z)))
  refine codeAny_builtin PySem.F.entry_min_loop ?_
  rw[Around.under_plainId PySem.F.plain_min_loop _]
  show wpAny _ A.in1 (seqItems? (.ref S) >>= _) _ _ _
  refine Ya (wpAny_seqItems oS rfl ?_)
  have step:∀(v:Value) (h':Heap) (tk':Nat),its.toArray[j]?=some v->h'.IsListIter I l (j+1)/\h'.IsList l its.toArray->(∀b o,b∉[I]->s'.heap.get? b=some o->h'.get? b=some o)->RelV (.int (nth ns j)) v/\∃oI2,h'.get? I=some oI2/\Inv X ((S,seqObj "list" buf c)::(I,oI2)::pins) σ H' {s' with heap:=h',toks:=tk'}:=λv h' tk' hP hst hk'=>by
   refine⟨?_,?_⟩
   ·obtain⟨v',e1,e2⟩:=rv.get (i:=j) (x:=V.int (nth ns j)) (by unfold nth;rw[YB,Yi,Yb hlt];rfl)
    have:its[j]?=some v:=by simpa using hP
    rw[e1]at this;cases this;exact e2
   ·obtain⟨oI2,g2,hcls,hdat⟩:=id hst.1
    have J1:=J0.turned (t':=tk') (h':=h') (it:=I) (λb o nb e=>hk' b o (by simpa using nb) e) nI lI (.inr hI0) cI λp hp'=>by
     rcases Yy.mp hp' with z|z
     ·exact(hp p (YM _ z)).1
     ·rcases Yk.mp z with rfl|z
      ·exact hSI
      ·exact(hp p (Yj _ z)).1
    refine⟨oI2,g2,J1.ZI λp hp'=>?_⟩
    rcases Yk.mp hp' with rfl|hp'
    ·exact J1.pin _ (Yj _ (Yr ..))
    ·rcases Yk.mp hp' with rfl|hp'
     ·exact⟨g2,nI,lI,fI,λv z=>by rw[hdat]at z;cases z⟩
     ·exact J1.pin _ (Yj _ (Ys _ hp'))
  have write:∀{H2:Hp}{s2:Shared}{oI2:Obj} (v:Value) (t2:Tok) (b2:Array Value) (c0:Nat),Inv X ((S,seqObj "list" b2 c0)::(I,oI2)::pins) σ H2 s2->∃c2,Inv X ((S,seqObj "list" #[v,.int (kz (nth ns j)) t2] c2)::(I,oI2)::pins) σ H2 {s2 with heap:=s2.heap.update S (Obj.mapSeq λ_=>#[v,.int (kz (nth ns j)) t2])}:=λ{H2 s2 oI2} v t2 b2 c0 K=>by
   obtain⟨o2,n2,l2,f2,_,cc2⟩:=ZE K (Yr ..)
   obtain⟨c2,hc2⟩:∃c2,(s2.heap.update S (Obj.mapSeq λ_=>#[v,.int (kz (nth ns j)) t2])).get? S=some (seqObj "list" #[v,.int (kz (nth ns j)) t2] c2):=⟨_,get?_update_seq o2 λ_=>#[v,.int (kz (nth ns j)) t2]⟩
   have K0:Inv X ((I,oI2)::pins) σ H2 s2:=K.ZI λp hp'=>K.pin p (Yj _ (Ys _ hp'))
   have K1:=K0.turned (t':=s2.toks) (h':=s2.heap.update S (Obj.mapSeq λ_=>#[v,.int (kz (nth ns j)) t2])) (it:=S) (λb o nb e=>(Heap.get?_update_ne _ _ _ _ nb).trans e) n2 l2 (.inr hS0) cc2 λp hp'=>by
    rcases Yy.mp hp' with z|z
    ·exact(hp p (YM _ z)).2
    ·rcases Yk.mp z with rfl|z
     ·exact hSI.symm
     ·exact(hp p (Yj _ z)).2
   refine⟨c2,K1.ZI λp hp'=>?_⟩
   rcases Yk.mp hp' with rfl|hp'
   ·exact⟨hc2,n2,l2,f2,λv z=>by cases z⟩
   ·exact K1.pin p (Yj _ hp')
  have mem:nth ns j∈ns:=by unfold nth;rw[Yi,Yb hlt];exact YI hlt
  rcases hb with⟨hj0,rfl⟩|⟨i,vb,tb,hi,rfl,rvb,hB⟩
  ·refine Ya (wpAny_tryCatch (W.item j _ _ _ (by rw[hsz,hlen];exact hlt) ⟨hit,pl.isList⟩ λv h' tk' hP hst' hk'=>?_))
   obtain⟨rj,oI2,gI,J2⟩:=step v h' tk' hP hst' hk'
   obtain⟨oI3,gI3,hcls,hdat⟩:=id hst'.1
   rw[gI]at gI3;cases gI3
   refine Ya (wpAny_tryCatch (wpAny_holding (YN (turn H' _ _ _ v mem J2 sm rj) (λx s'' he=>?_) λ_ _ hF=>hF.elim)))
   obtain⟨x2,H2,J3,r2,rfl,sm2⟩:=he
   obtain⟨t2,rfl⟩:=r2
   obtain⟨oS3,_⟩:=ZE J3 (Yr ..)
   obtain⟨oI4,_⟩:=ZE J3 (Ys _ (Yr ..))
   obtain⟨c2,J4⟩:=write v t2 _ _ J3
   refine Ya (wpAny_updateSeq oS3 rfl ?_ (Yv _) (show 2<=sizeLine+1 by decide))
   rw[hname]
   refine Yg ⟨plainId_quiet PySem.F.plain_min_loop _,ih (j+1) H2 _ _ c2 oI2 (by omega) hlt J4 (sm.trans sm2) ⟨oI2,(Heap.get?_update_ne _ _ _ _ hSI.symm).trans oI4,hcls,hdat⟩ (.inr ⟨j,v,t2,by omega,rfl,rj,?_⟩)⟩
   subst hj0;exact Zbl.one kz ns
  ·refine Ya (wpAny_tryCatch (W.item j _ _ _ (by rw[hsz,hlen];exact hlt) ⟨hit,pl.isList⟩ λv h' tk' hP hst' hk'=>?_))
   obtain⟨rj,oI2,gI,J2⟩:=step v h' tk' hP hst' hk'
   obtain⟨oI3,gI3,hcls,hdat⟩:=id hst'.1
   rw[gI]at gI3;cases gI3
   refine Ya (wpAny_tryCatch (wpAny_holding (YN (turn H' _ _ _ v mem J2 sm rj) (λx s'' he=>?_) λ_ _ hF=>hF.elim)))
   obtain⟨x2,H2,J3,r2,rfl,sm2⟩:=he
   obtain⟨t2,rfl⟩:=r2
   obtain⟨oS3,_⟩:=ZE J3 (Yr ..)
   obtain⟨oI4,_⟩:=ZE J3 (Ys _ (Yr ..))
   refine Ya (wpAny_tryCatch (wpAny_holding (Ya (CmpOf.ints_lt (prog:=X.prog) (w:=X.w) (A:=A.in1) (P:=λi v=>∃t,v=.int (kz (nth ns i)) t) (λi=>kz (nth ns i)) (λi v h=>h) j i _ _ _ _ _ ⟨t2,rfl⟩ ⟨tb,rfl⟩ ?_))))
   refine Ya (wpAny_holding (wpAny_truthy_bool ?_))
   refine Ya (wpAny_letGo (Yg ?_))
   by_cases hb':kz (nth ns j)<kz (nth ns i)
   ·simp only[hb',decide_true,if_true]
    obtain⟨c2,J4⟩:=write v t2 _ _ J3
    refine Ya (wpAny_updateSeq oS3 rfl (Ya (wpAny_letGo ?_)) (show 2<=sizeLine by decide) (show 2<=sizeLine+1 by decide))
    rw[hname]
    exact Yg ⟨plainId_quiet PySem.F.plain_min_loop _,ih (j+1) H2 _ _ c2 oI2 (by omega) hlt J4 (sm.trans sm2) ⟨oI2,(Heap.get?_update_ne _ _ _ _ hSI.symm).trans oI4,hcls,hdat⟩ (.inr ⟨j,v,t2,by omega,rfl,rj,hB.take hi hb'⟩)⟩
   ·simp only[hb',decide_false,Bool.false_eq_true,if_false]
    refine Ya (wpAny_letGo ?_)
    rw[hname]
    exact Yg ⟨plainId_quiet PySem.F.plain_min_loop _,ih (j+1) H2 _ _ c oI2 (by omega) hlt J3 (sm.trans sm2) ⟨oI2,oI4,hcls,hdat⟩ (.inr ⟨i,vb,tb,by omega,rfl,rvb,hB.keep hi hb'⟩)⟩
theorem minKD {pins:List (Addr×Obj)}{σ:St}{H:Hp}{s:Shared}{l q:Addr}{ns:List Int}{kz:Int->Int}{d:Value}{dv:V}{Q:VK} (I:Inv X pins σ H s) (hc:X.calm=true) (hl:H l=some (.lst (ns.map V.int))) (rd:RelV dv d)
  (turn:∀(H':Hp) (s':Shared) (pins':List (Addr×Obj)) (n:Int) (u:Value),n∈ns->Inv X pins' σ H' s'->Ze H H'->RelV (.int n) u->wpAny (model X.prog X.w) X.A.in1 (call (.ref q) [u]) (EP X pins' σ λv H2=>v=.int (kz n)/\Ze H' H2) (λ_ _=>False) s')
  (fin0:ns=[]->∀H',Ze H H'->Q dv H') (fin:∀i H',i<ns.length->Zbl kz ns ns.length i->Ze H H'->Q (.int (nth ns i)) H') :
  wpAny (model X.prog X.w) X.A (call (.builtin "min") [.ref l] [(Str.ofString "key",.ref q),(Str.ofString "default",d)]) (EP X pins σ Q) X.xe s:=by
 have hname:(toString "min"++toString ".loop":String)="min.loop":=by decide
 obtain⟨its,rv,pl,_⟩:=I.list (SqL.of hl)
 obtain⟨ol,hol,_⟩:=id pl.isList
 have hll:l<s.heap.objs.size:=Yl hol
 refine kmk_tree PySem.F.kind_min PySem.F.plain_min PySem.F.entry_min (Zmg _ _ _) ?_
 show wpAny _ X.A.in1 (Builtin.Builtins.bindParams "min" ["key","default"] 0 ⟨[],[(Str.ofString "key",.ref q),(Str.ofString "default",d)]⟩ >>= _) _ _ s
 refine Ya (wpAny_of_eq (show Builtin.Builtins.bindParams "min" ["key","default"] 0 ⟨[],[(Str.ofString "key",.ref q),(Str.ofString "default",d)]⟩=pure [some (.ref q),some d]from rfl) ?_)
 refine Ya (Yg ?_)
 refine Ya (wpAny_pyIter_list pl.isList ?_)
 refine Ya (wpAny_newList ?_ (Yv _))
 rw[hname]
 refine Yg ⟨plainId_quiet PySem.F.plain_min_loop _,?_⟩
 have hS:(s.heap.push {cls:=.type "list_iterator",data:=.fields #[.ref l,.int 0 0]}).objs.size=s.heap.objs.size+1:=size_push' ..
 have I2:=I.kept (h':=(s.heap.push {cls:=.type "list_iterator",data:=.fields #[.ref l,.int 0 0]}).push (seqObj "list" #[] 0)) (t':=s.toks) λb o e=>Yo _ (Yo _ e)
 have gI:((s.heap.push {cls:=.type "list_iterator",data:=.fields #[.ref l,.int 0 0]}).push (seqObj "list" #[] 0)).get? s.heap.objs.size=some {cls:=.type "list_iterator",data:=.fields #[.ref l,.int 0 0]}:=Yo _ (YE _ rfl)
 have gS:((s.heap.push {cls:=.type "list_iterator",data:=.fields #[.ref l,.int 0 0]}).push (seqObj "list" #[] 0)).get? (s.heap.objs.size+1)=some (seqObj "list" #[] 0):=by rw[<-hS];exact YE _ rfl
 rw[hS]
 refine Zn2 (pins:=pins) (H:=H) (ns:=ns) (kz:=kz) (I.ok.hd hc) (Yp hll) (Nat.ne_of_gt (Nat.lt_succ_self _)) I.sz (Nat.le_succ_of_le I.sz) (λp hp=>?_) hl turn (λz H' s' J sm=>⟨dv,H',J,rd,fin0 z H' sm⟩) (λi v H' s' hi r hB J sm=>⟨.int (nth ns i),H',J,r,fin i H' hi hB sm⟩) _ 0 H _ #[] 0 {cls:=.type "list_iterator",data:=.fields #[.ref l,.int 0 0]} rfl (Yv _) (I2.ZI λp hp=>?_) (Ze.refl H) ⟨_,gI,rfl,rfl⟩ (.inl ⟨rfl,rfl⟩)
 ·have:=Yl (I.pin p hp).1
  exact⟨Yp this,Yp (YR this)⟩
 ·rcases Yk.mp hp with rfl|hp
  ·exact⟨gS,I.hok.fresh (Y2 _),Nat.ne_of_gt (YR I.lt),I.ZkI (Y2 _),λv z=>by cases z⟩
  ·rcases Yk.mp hp with rfl|hp
   ·exact⟨gI,I.hok.fresh (Yc _),Nat.ne_of_gt I.lt,I.ZkI (Yc _),λv z=>by cases z⟩
   ·exact I2.pin p (Yj _ hp)
noncomputable def Zmh (ta td:TA) (tb:TE) (js:List (Option Nat)) (env:Env) (P:Addr) (q:Str) (params:Arguments) (body:Expr) (scope:Scope):TE:=fun σ H Q=>ta σ H λvs H1=>td σ H1 λzs H2=>∃(p f:Addr) (dv:V) (ns:List Int) (kz:Int->Int),
 vs=[.ref p]/\zs=[.ref f,dv]/\H2 p=some (.lst (ns.map V.int))/\ZiJ env P q params body scope H2 f /\
 (∀n H3,n∈ns->Ze H2 H3->tb ((ZaO js σ).set 0 (some (.int n))) H3 λv H4=>v=.int (kz n)/\Ze H3 H4) /\
 (ns=[]->∀H3,Ze H2 H3->Q dv H3)/\∀i H3,i<ns.length->Zbl kz ns ns.length i->Ze H2 H3->Q (.int (nth ns i)) H3
theorem Zo8 {Nc:List Str}{js:List (Option Nat)}{q pn:Str}{params:Arguments}{body:Expr}{scope:Scope}{P:Addr}{ta td:TA}{tb:TE}{m:Nat}{e:Expr}{e2:Expr}{p pos lpos kp1 kp2:Pos} (hc:X.calm=true) (hr:Room m X.A) (S:LamSc X Nc js params body scope pn)
  (hbody:∀cl L f c s H,PE (Zhb X X.A.in1 Nc q scope cl L f c s H) body tb) (hg:Gl X "min") (hm:X.mg "min"=none) (ha:PA X [e] ta) (hd:PK X [⟨some (Str.ofString "key"),.Lambda params body scope lpos,kp1⟩,⟨some (Str.ofString "default"),e2,kp2⟩] td)
  (hpl:(backTo pos (starEach [e] X.env)).any (·.1)=false:=by rfl) (hall:(backToKw pos (keywordEach [⟨some (Str.ofString "key"),.Lambda params body scope lpos,kp1⟩,⟨some (Str.ofString "default"),e2,kp2⟩] X.env)).all (·.1.isSome)=true:=by rfl)
  (hnn:(backToKw pos (keywordEach [⟨some (Str.ofString "key"),.Lambda params body scope lpos,kp1⟩,⟨some (Str.ofString "default"),e2,kp2⟩] X.env)).any (·.1.isNone)=false:=by rfl) (hks:(backToKw pos (keywordEach [⟨some (Str.ofString "key"),.Lambda params body scope lpos,kp1⟩,⟨some (Str.ofString "default"),e2,kp2⟩] X.env)).filterMap (·.1)=[Str.ofString "key",Str.ofString "default"]:=by rfl) (hb:backTo pos (starEach [e] X.env)=(false,eval e X.env)::backTo pos (starEach [] X.env):=by rfl) :
  PE X (.Call (.Name "min" p) [e] [⟨some (Str.ofString "key"),.Lambda params body scope lpos,kp1⟩,⟨some (Str.ofString "default"),e2,kp2⟩] pos) (Zmh ta td tb js X.env P q params body scope):=by
 intro pins s σ H Q I h
 refine wpAny_Call_Name_kw (Zcg I hg hm ZjX ?_)
 refine PyProof.Rows.callWith_kw (thn (ha pos pins s σ H _ I h) λus s1 ⟨vs,H1,I1,r1,q1⟩=>?_) hb hpl hall hnn
 refine thn (hd pos pins s1 σ H1 _ I1 q1) λws s2 ⟨zs,H2,I2,r2,pp,f,dv,ns,kz,e1,e2,hp,L,tn,fin0,fin⟩=>?_
 subst e1 e2
 obtain⟨u,rfl,ru⟩:=r1.one
 cases(show u=Value.ref pp from ru)
 rw[hks]
 obtain⟨v,v2,rfl,rv,rv2⟩:=r2.two
 cases(show v=Value.ref f from rv)
 exact minKD (kz:=kz) I2 hc hp rv2 (λH' s' pins' n u hn J sm r=>Zh3 S hbody J J.ok.frames J.ok.hd hr.depth (L.same sm) r (tn n H' hn sm)) fin0 fin
end
section
variable {prog:Program}{w:World}{A:Around}{E:Value->Shared->Prop}{s:Shared}
theorem Zjt {it t:Addr}{items:Array Value} (hh:A.handled=none) (hne:t≠it):∀(n i:Nat) (s:Shared) (Q:List Value->Shared->Prop),s.heap.IsListIter it t i->s.heap.IsList t items->i+n<=items.size ->
  (∀h' tk,h'.IsListIter it t (i+n)->h'.IsList t items->(∀b o,b≠it->s.heap.get? b=some o->h'.get? b=some o)->Q ((items.toList.drop i).take n) {s with heap:=h',toks:=tk})->wpAny (model prog w) A (draw (.ref it) n) Q E s
 |0,i,s,Q,hit,hl,_,hQ=>by
  show wpAny _ _ (pure []) Q E s
  exact Yg (by simpa using hQ s.heap s.toks hit hl λb o _ e=>e)
 |n+1,i,s,Q,hit,hl,hle,hQ=>by
  have hlt:i<items.size:=by omega
  have W:=Walks.list (prog:=prog) (w:=w) (A:=A) hh it t hne items
  show wpAny _ _ (pyNext (.ref it) >>= _) Q E s
  refine Ya (W.item i _ _ _ hlt ⟨hit,hl⟩ λv h₁ tk₁ hP hst hk=>?_)
  have hv:items[i]?=some v:=hP
  rw[getElem?_pos items i hlt]at hv
  cases hv
  refine Ya (wpAny_holding (Zjt hh hne n (i+1) _ _ hst.1 hst.2 (by omega) λh₂ tk₂ hit₂ hl₂ hk₂=>Yg ?_))
  have hd:items.toList.drop i=items[i]::items.toList.drop (i+1):=by simp[List.drop_eq_getElem_cons,hlt]
  have:=hQ h₂ tk₂ (by rw[show i+(n+1)=i+1+n by omega];exact hit₂) hl₂ λb o hb e=>hk₂ b o hb (hk b o (by simpa using hb) e)
  rw[hd,List.take_succ_cons]at this
  exact this
theorem ZgP {t:Addr}{items:Array Value}{Q:List Value->Shared->Prop} (hh:A.handled=none) (ht:s.heap.IsList t items)
  (hQ:∀h' tk,(∀b o,s.heap.get? b=some o->h'.get? b=some o)->Q items.toList {s with heap:=h',toks:=tk}):wpAny (model prog w) A (unpackItems (.ref t) items.size none) Q E s:=by
 have hlt:t≠s.heap.objs.size:=by obtain⟨o,ho,_⟩:=ht;exact Yp (Yl ho)
 have old:∀b o,s.heap.get? b=some o->b≠s.heap.objs.size:=λb o e=>Yp (Yl e)
 unfold unpackItems
 refine Ya ?_
 ·unfold notIterableAtAll
  refine Ya (wpAny_specialOf ht.typeIs slot_list_iter.lookup ?_)
  refine Yg ?_
  simp only[Bool.false_eq_true,if_false]
  refine Ya (wpAny_holding (wpAny_pyIter_list ht ?_))
  have hl2:(s.heap.push {cls:=.type "list_iterator",data:=.fields #[.ref t,.int 0 0]}).IsList t items:=by
   obtain⟨o,e,r⟩:=ht
   exact⟨o,Yo _ e,r⟩
  refine Ya (wpAny_holding (Zjt hh hlt items.size 0 _ _ ⟨_,YE _ rfl,rfl,rfl⟩ hl2 (by omega) λh₁ tk₁ hit₁ hl₁ hk₁=>?_))
  have hall:List.take items.size (List.drop 0 items.toList)=items.toList:=by
   rw[List.drop_zero];exact List.take_of_length_le (by simp)
  rw[hall]
  rw[Yd (by simp)]
  have W:=Walks.list (prog:=prog) (w:=w) (A:=A) hh s.heap.objs.size t hlt items
  refine Ya (wpAny_holding (W.done _ _ _ ⟨by rw[Nat.zero_add]at hit₁;exact hit₁,hl₁⟩ λh₂ tk₂ hk₂=>?_))
  simp only[Option.isSome_none,Bool.false_eq_true,if_false]
  exact Yg (hQ h₂ tk₂ λb o e=>hk₂ b o (by simpa using old b o e) (hk₁ b o (old b o e) (Yo _ e)))
end
section
variable {X:Cx}
noncomputable def gLst (K:PySem.W.Frag) (n:Nat) (t:TGs):TG:=λv σ H Q=>∃a xs,v=.ref a/\SqL K H a xs/\xs.length=n/\t xs σ H Q
theorem pg_lst {K:Frag}{es:List Expr}{pos:Pos}{k:Nat}{t:TGs}{n:Nat} (hK:X.K=K) (hc:X.calm=true) (h:PGs X es t)
  (hn:(assignEach es X.env).length=n:=by rfl) (hst:(assignEach es X.env).findIdx? (·.1)=none:=by rfl):PG X (.Tuple es k pos) (gLst K n t):=by
 subst hK
 intro pins s σ H v u Q I r hw
 obtain⟨a,xs,e1,hq,hl,hw⟩:=hw
 subst e1
 cases r
 obtain⟨its,rv,pl,hz⟩:=I.list hq
 have hlen:(assignEach es X.env).length=its.toArray.size:=by
  have:=rv.length
  rw[hn,Yn];omega
 rw[assign_Tuple]
 refine Ya (wpAny_standAt ?_)
 unfold unpack
 rw[hlen,hst]
 refine Ya (wpAny_holding (ZgP (I.ok.hd hc) pl.isList λh' tk kp=>?_))
 exact h pins _ σ H xs _ Q (I.kept kp) (by simpa using rv) hw
noncomputable def Zo9 (te:TE) (g g':TG):TS:=λD σ H=>te σ H λx H1=>g x σ H1 fun σ1 H2=>g' x σ1 H2 D.nx
theorem Zri {tg tg' e:Expr}{te:TE}{g g':TG}{pos:Pos} (he:PE X e te) (hg:PG X tg g) (hg':PG X tg' g') (h1:(assignEach [tg,tg'] X.env).map (·.2)=[assign tg X.env,assign tg' X.env]:=by rfl) (hw:swappedStores [tg,tg'] e X.env=pure none:=by rfl):PS X (.Assign [tg,tg'] e pos) (Zo9 te g g'):=by
 intro pins s σ H D I h
 refine wpAny_Assign_two (thn (he pins s σ H _ I h) λv s1 ⟨x,H1,I1,r1,q1⟩=>?_) h1 hw
 exact thn (hg pins s1 σ H1 x v _ I1 r1 q1) λ_ s2 ⟨σ2,H2,I2,q2⟩=>thn (hg' pins s2 σ2 H2 x v _ I2 r1 q2) λ_ s3 q=>q
end
inductive EqN (K:Frag) (H:Hp):Nat->V->V->Bool->Prop
 |flat {n:Nat}{x y:V} (fx:flatV x=true) (fy:flatV y=true):EqN K H n x y (eqV x y)
 |lst {n:Nat}{a b:Addr}{xs ys:List V} (e:Nat->Bool) (hx:SqL K H a xs) (hy:SqL K H b ys) (hl:xs.length=ys.length) (h:∀j x y,xs[j]?=some x->ys[j]?=some y->EqN K H n x y (e j)):EqN K H (n+1) (.ref a) (.ref b) ((List.range xs.length).all e)
 |len {n:Nat}{a b:Addr}{xs ys:List V} (hx:SqL K H a xs) (hy:SqL K H b ys) (hl:xs.length≠ys.length):EqN K H (n+1) (.ref a) (.ref b) false
 |tup {n:Nat}{a b:Addr}{xs ys:List V} (e:Nat->Bool) (hx:SqT K H a xs) (hy:SqT K H b ys) (h:∀j x y,xs[j]?=some x->ys[j]?=some y->EqN K H n x y (e j)):EqN K H (n+1) (.ref a) (.ref b) ((List.range (min xs.length ys.length)).all e&&xs.length==ys.length)
 |nonT {n:Nat}{a:Addr}{xs:List V} (hx:SqT K H a xs):EqN K H n .non (.ref a) false
 |tNon {n:Nat}{a:Addr}{xs:List V} (hx:SqT K H a xs):EqN K H n (.ref a) .non false
section
variable {X:Cx}{pins:List (Addr×Obj)}{σ:St}{H:Hp}{s:Shared}
theorem Zle (I:Inv X pins σ H s) {n:Nat}{x y:V}{b:Bool} (h:EqN X.K H n x y b):x=y->b=true:=by
 induction h with
 |flat fx fy=>rintro rfl;exact ZkV fx
 |lst e hx hy hl h ih =>
  intro z
  cases z
  have:=I.Zch hx hy
  subst this
  refine List.all_eq_true.mpr λj hj=>?_
  have hj':=Yq.mp hj
  exact ih j _ _ (Yb hj') (Yb hj') rfl
 |len hx hy hl =>
  intro z
  cases z
  have:=I.Zch hx hy
  subst this
  exact absurd rfl hl
 |tup e hx hy h ih =>
  intro z
  cases z
  have:=I.Zfd hx hy
  subst this
  rw[Nat.min_self]
  have:(List.range _).all e=true:=List.all_eq_true.mpr λj hj=>by
   have hj':=Yq.mp hj
   exact ih j _ _ (Yb hj') (Yb hj') rfl
  rw[this];simp
 |nonT hx=>intro z;cases z
 |tNon hx=>intro z;cases z
theorem Zkc (I:Inv X pins σ H s) {n:Nat}{x y:V}{b:Bool} (h:EqN X.K H n x y b):∀(A:Around) (u v:Value),A.units+n<cLine->RelV x u->RelV y v->SeqAt.EqAt A s u v b:=by
 induction h with
 |flat fx fy=>intro A u v _ ru rv;exact ZlQ ru rv fx fy
 |@lst n a b xs ys e hx hy hl h ih =>
  intro A u v hu ru rv
  have hb:=Zle I (.lst e hx hy hl h)
  cases ru
  cases rv
  by_cases hab:a=b
  ·subst hab
   rw[hb rfl];exact SeqAt.EqAt.same _
  ·obtain⟨is1,r1,p1,_⟩:=I.list hx
   obtain⟨is2,r2,p2,_⟩:=I.list hy
   have e1:=r1.length
   have e2:=r2.length
   have key:=SeqAt.RcAt.lists (A:=A) (s:=s) (e:=e) p1.isList p2.isList (by simp;omega) (by omega) λj h1 h2=>by
    have h1':j<xs.length:=by simpa[e1]using h1
    have h2':j<ys.length:=by simpa[e2]using h2
    obtain⟨u,hu1,ru⟩:=r1.get (Yb h1')
    obtain⟨v,hv1,rv⟩:=r2.get (Yb h2')
    have eu:is1.toArray[j]=u:=by simpa using(Yh.mp hu1).2
    have ev:is2.toArray[j]=v:=by simpa using(Yh.mp hv1).2
    rw[eu,ev]
    exact ih j _ _ (Yb h1') (Yb h2') A.in1 u v (by show A.units+1+n<cLine;omega) ru rv
   have e3:is1.toArray.size=xs.length:=by simp[e1]
   rw[e3]at key
   exact SeqAt.EqAt.of_refs hab key
 |@len n a b xs ys hx hy hl =>
  intro A u v hu ru rv
  cases ru
  cases rv
  have hab:a≠b:=λz=>by subst z;exact hl (congrArg List.length (I.Zch hx hy))
  obtain⟨is1,r1,p1,_⟩:=I.list hx
  obtain⟨is2,r2,p2,_⟩:=I.list hy
  have e1:=r1.length
  have e2:=r2.length
  exact SeqAt.EqAt.of_refs hab (SeqAt.RcAt.lists_lengths p1.isList p2.isList (by simp;omega) (by omega))
 |@tup n a b xs ys e hx hy h ih =>
  intro A u v hu ru rv
  have hb:=Zle I (.tup e hx hy h)
  cases ru
  cases rv
  by_cases hab:a=b
  ·subst hab
   rw[hb rfl];exact SeqAt.EqAt.same _
  ·obtain⟨is1,r1,p1,_⟩:=I.tuple hx
   obtain⟨is2,r2,p2,_⟩:=I.tuple hy
   have e1:=r1.length
   have e2:=r2.length
   have key:=SeqAt.RcAt.tuples (A:=A) (s:=s) (e:=e) p1 p2 (by omega) λj h1 h2=>by
    have h1':j<xs.length:=by simpa[e1]using h1
    have h2':j<ys.length:=by simpa[e2]using h2
    obtain⟨u,hu1,ru⟩:=r1.get (Yb h1')
    obtain⟨v,hv1,rv⟩:=r2.get (Yb h2')
    have eu:is1.toArray[j]=u:=by simpa using(Yh.mp hu1).2
    have ev:is2.toArray[j]=v:=by simpa using(Yh.mp hv1).2
    rw[eu,ev]
    exact ih j _ _ (Yb h1') (Yb h2') A.in1 u v (by show A.units+1+n<cLine;omega) ru rv
   have e3:is1.toArray.size=xs.length:=by simp[e1]
   have e4:is2.toArray.size=ys.length:=by simp[e2]
   rw[e3,e4]at key
   exact SeqAt.EqAt.of_refs hab key
 |nonT hx =>
  intro A u v hu ru rv
  cases ru
  cases rv
  obtain⟨is1,r1,p1,_⟩:=I.tuple hx
  exact SeqAt.EqAt.none_tuple p1 (by omega)
 |tNon hx =>
  intro A u v hu ru rv
  cases ru
  cases rv
  obtain⟨is1,r1,p1,_⟩:=I.tuple hx
  exact SeqAt.EqAt.tuple_none p1 (by omega)
end
noncomputable def rEqN (K:Frag) (neg:Bool):R2:=λx y H Q=>∃a b k,x=.ref a/\y=.ref b/\EqN K H 3 x y k/\Q (.bl (if neg then !k else k)) H
section
variable {X:Cx}
theorem Zmi {K:Frag} (hK:X.K=K) {k:Nat} (hr:Room k X.A):OpR X (compareOp .Eq) (rEqN K false):=by
 subst hK
 have hu0:=hr.un
 intro pins s σ H x y v u Q I rx ry h
 obtain⟨a,b,k,rfl,rfl,h,q⟩:=h
 cases rx
 cases ry
 cases h with
 |flat fx fy=>cases fx
 |@lst n _ _ xs ys e hx hy hl h =>
  obtain⟨is1,r1,p1,_⟩:=I.list hx
  obtain⟨is2,r2,p2,_⟩:=I.list hy
  have e1:=r1.length
  have e2:=r2.length
  have e3:is1.toArray.size=xs.length:=by simp[e1]
  refine SeqAt.eq_listAt (e:=e) p1.isList p2.isList (by simp;omega) (by omega) (λj h1 h2=>?_) ⟨.bl _,H,I,rfl,by rw[e3];exact q⟩
  have h1':j<xs.length:=by simpa[e1]using h1
  have h2':j<ys.length:=by simpa[e2]using h2
  obtain⟨u,hu1,ru⟩:=r1.get (Yb h1')
  obtain⟨v,hv1,rv⟩:=r2.get (Yb h2')
  have eu:is1.toArray[j]=u:=by simpa using(Yh.mp hu1).2
  have ev:is2.toArray[j]=v:=by simpa using(Yh.mp hv1).2
  rw[eu,ev]
  exact Zkc I (h j _ _ (Yb h1') (Yb h2')) X.A.in1 u v (by show X.A.units+1+2<cLine;omega) ru rv
 |@len n _ _ xs ys hx hy hl =>
  obtain⟨is1,r1,p1,_⟩:=I.list hx
  obtain⟨is2,r2,p2,_⟩:=I.list hy
  have e1:=r1.length
  have e2:=r2.length
  exact SeqAt.eq_list_lengthsAt p1.isList p2.isList (by simp;omega) (by omega) ⟨.bl _,H,I,rfl,q⟩
 |@tup n _ _ xs ys e hx hy h =>
  obtain⟨is1,r1,p1,_⟩:=I.tuple hx
  obtain⟨is2,r2,p2,_⟩:=I.tuple hy
  have e1:=r1.length
  have e2:=r2.length
  have e3:is1.toArray.size=xs.length:=by simp[e1]
  have e4:is2.toArray.size=ys.length:=by simp[e2]
  refine SeqAt.eq_tupleAt (e:=e) p1 p2 (by omega) (λj h1 h2=>?_) ⟨.bl _,H,I,rfl,by rw[e3,e4];exact q⟩
  have h1':j<xs.length:=by simpa[e1]using h1
  have h2':j<ys.length:=by simpa[e2]using h2
  obtain⟨u,hu1,ru⟩:=r1.get (Yb h1')
  obtain⟨v,hv1,rv⟩:=r2.get (Yb h2')
  have eu:is1.toArray[j]=u:=by simpa using(Yh.mp hu1).2
  have ev:is2.toArray[j]=v:=by simpa using(Yh.mp hv1).2
  rw[eu,ev]
  exact Zkc I (h j _ _ (Yb h1') (Yb h2')) X.A.in1 u v (by show X.A.units+1+2<cLine;omega) ru rv
theorem Zpa {K:Frag} (hK:X.K=K) {k:Nat} (hr:Room k X.A):OpR X (compareOp .NotEq) (rEqN K true):=by
 subst hK
 have hu0:=hr.un
 intro pins s σ H x y v u Q I rx ry h
 obtain⟨a,b,k,rfl,rfl,h,q⟩:=h
 cases rx
 cases ry
 cases h with
 |flat fx fy=>cases fx
 |@lst n _ _ xs ys e hx hy hl h =>
  obtain⟨is1,r1,p1,_⟩:=I.list hx
  obtain⟨is2,r2,p2,_⟩:=I.list hy
  have e1:=r1.length
  have e2:=r2.length
  have e3:is1.toArray.size=xs.length:=by simp[e1]
  refine SeqAt.RcNeAt.lists (e:=e) p1.isList p2.isList (by simp;omega) (by omega) (λj h1 h2=>?_) _ _ _ _ ⟨.bl _,H,I,rfl,by rw[e3];exact q⟩
  have h1':j<xs.length:=by simpa[e1]using h1
  have h2':j<ys.length:=by simpa[e2]using h2
  obtain⟨u,hu1,ru⟩:=r1.get (Yb h1')
  obtain⟨v,hv1,rv⟩:=r2.get (Yb h2')
  have eu:is1.toArray[j]=u:=by simpa using(Yh.mp hu1).2
  have ev:is2.toArray[j]=v:=by simpa using(Yh.mp hv1).2
  rw[eu,ev]
  exact Zkc I (h j _ _ (Yb h1') (Yb h2')) X.A.in1 u v (by show X.A.units+1+2<cLine;omega) ru rv
 |@len n _ _ xs ys hx hy hl =>
  obtain⟨is1,r1,p1,_⟩:=I.list hx
  obtain⟨is2,r2,p2,_⟩:=I.list hy
  have e1:=r1.length
  have e2:=r2.length
  exact SeqAt.RcNeAt.lists_lengths p1.isList p2.isList (by simp;omega) (by omega) _ _ _ _ ⟨.bl _,H,I,rfl,q⟩
 |@tup n _ _ xs ys e hx hy h =>
  obtain⟨is1,r1,p1,_⟩:=I.tuple hx
  obtain⟨is2,r2,p2,_⟩:=I.tuple hy
  have e1:=r1.length
  have e2:=r2.length
  have e3:is1.toArray.size=xs.length:=by simp[e1]
  have e4:is2.toArray.size=ys.length:=by simp[e2]
  refine SeqAt.RcNeAt.tuples (e:=e) p1 p2 (by omega) (λj h1 h2=>?_) _ _ _ _ ⟨.bl _,H,I,rfl,by rw[e3,e4];exact q⟩
  have h1':j<xs.length:=by simpa[e1]using h1
  have h2':j<ys.length:=by simpa[e2]using h2
  obtain⟨u,hu1,ru⟩:=r1.get (Yb h1')
  obtain⟨v,hv1,rv⟩:=r2.get (Yb h2')
  have eu:is1.toArray[j]=u:=by simpa using(Yh.mp hu1).2
  have ev:is2.toArray[j]=v:=by simpa using(Yh.mp hv1).2
  rw[eu,ev]
  exact Zkc I (h j _ _ (Yb h1') (Yb h2')) X.A.in1 u v (by show X.A.units+1+2<cLine;omega) ru rv
end
noncomputable def EqQ (K:Frag) (H:Hp) (n:Nat) {α:Type} [DecidableEq α] (P:V->α->Prop):Prop:=∀x y a b,P x a->P y b->EqN K H n x y (decide (a=b))
theorem Zkd {K:Frag}{H:Hp}{n:Nat}:EqQ K H n IsI:=by
 rintro x y a b rfl rfl
 have:=EqN.flat (K:=K) (H:=H) (n:=n) (x:=.int a) (y:=.int b) rfl rfl
 have e:eqV (.int a) (.int b)=decide (a=b):=by simp[eqV,Bool.beq_eq_decide_eq]
 rw[<-e];exact this
theorem ZhE {K:Frag}{H:Hp}{n:Nat}{α:Type} [DecidableEq α] {P:V->α->Prop} (h:EqQ K H n P):EqQ K H (n+1) (IsL K H P):=by
 rintro x y as bs ⟨a,xs,rfl,hx,lx,px⟩ ⟨b,ys,rfl,hy,ly,py⟩
 by_cases hl:as.length=bs.length
 ·rw[<-all_eq as bs hl,<-lx]
  refine .lst _ hx hy (by omega) λj x y h1 h2=>?_
  have j1:=(Yh.mp h1).1
  have j2:=(Yh.mp h2).1
  have ha:as[j]?=some as[j]:=Yb (by omega)
  have hb:bs[j]?=some bs[j]:=Yb (by omega)
  have:=h x y _ _ (px j _ _ h1 ha) (py j _ _ h2 hb)
  rw[ha,hb]
  simpa using this
 ·have e:decide (as=bs)=false:=by simp;intro z;exact hl (congrArg List.length z)
  rw[e]
  exact .len hx hy (by omega)
theorem Zrj {K:Frag}{H:Hp}{n:Nat}{α:Type} [DecidableEq α] {P:V->α->Prop} (h:EqQ K H n P):EqQ K H (n+1) (IsT K H P):=by
 rintro x y as bs ⟨a,xs,rfl,hx,lx,px⟩ ⟨b,ys,rfl,hy,ly,py⟩
 have key:=EqN.tup (K:=K) (H:=H) (n:=n) (λj=>decide (as[j]?=bs[j]?)) hx hy λj x y h1 h2=>by
  have j1:=(Yh.mp h1).1
  have j2:=(Yh.mp h2).1
  have ha:as[j]?=some as[j]:=Yb (by omega)
  have hb:bs[j]?=some bs[j]:=Yb (by omega)
  have:=h x y _ _ (px j _ _ h1 ha) (py j _ _ h2 hb)
  rw[ha,hb]
  simpa using this
 have e:((List.range (min xs.length ys.length)).all (λj=>decide (as[j]?=bs[j]?))&&xs.length==ys.length)=decide (as=bs):=by
  rw[lx,ly]
  by_cases hl:as.length=bs.length
  ·rw[<-hl,Nat.min_self,all_eq as bs hl];simp
  ·have e:decide (as=bs)=false:=by simp;intro z;exact hl (congrArg List.length z)
   rw[e]
   simp[hl]
 rw[e]at key
 exact key
section
variable {ky:Keyed->Int}
noncomputable def Srt (ky:Keyed->Int) (l:List Keyed):Prop:=l.Pairwise (λx y=>ky x<=ky y)
variable {a b out:List Keyed}{ia ib:Nat}
noncomputable def Gd (ky:Keyed->Int) (a b res:List Keyed):Prop:=res.Perm (a++b)/\Srt ky res
variable {prog:Program}{w:World}{A:Around}{E:Value->Shared->Prop}{s:Shared}{κ:SortKind}{P:Keyed->Prop}
end
section
variable {ky:Keyed->Int}
noncomputable def kp (ky:Keyed->Int) (a:Array Keyed) (i:Nat):Int:=ky (a.getD i (Value.none,Value.none))
theorem kp_at {a:Array Keyed}{i:Nat} (h:i<a.size):kp ky a i=ky a[i]:=by unfold kp;simp[Array.getD,h]
noncomputable def SoR (ky:Keyed->Int) (a:Array Keyed) (l r:Nat):Prop:=∀i j,l<=i->i<=j->j<r->kp ky a i<=kp ky a j
structure Chg (a a':Array Keyed) (l r:Nat):Prop where
 perm:a'.Perm a
 same:∀i,i<l\/r<=i->a'[i]?=a[i]?
variable {prog:Program}{w:World}{A:Around}{E:Value->Shared->Prop}{s:Shared}{κ:SortKind}{P:Keyed->Prop}
end
section
variable {ky:Keyed->Int}
variable {a a':Array Keyed}
theorem Zm9 (base:Nat):∀(m:List Keyed) (n:Nat) (a:Array Keyed),base+n+m.length<=a.size ->
  (List.foldl (λ(a:Array Keyed) (x:Keyed×Nat)=>a.setIfInBounds (base+x.2) x.1) a (m.zipIdx n)).toList=a.toList.take (base+n)++m++a.toList.drop (base+n+m.length)
 |[],n,a,h=>by simp
 |x::m,n,a,h=>by
  simp only[YQ]at h
  rw[List.zipIdx_cons,List.foldl_cons,Zm9 base m (n+1) _ (by simp;omega)]
  simp only[Array.toList_setIfInBounds,YQ]
  have e1:(a.toList.set (base+n) x).take (base+(n+1))=a.toList.take (base+n)++[x]:=by
   rw[<-Nat.add_assoc,Jc,List.take_set,List.getElem?_set]
   rw[List.set_eq_of_length_le (by simp;omega)]
   simp[show base+n<a.size by omega]
  have e2:(a.toList.set (base+n) x).drop (base+(n+1)+m.length)=a.toList.drop (base+n+(m.length+1)):=by
   rw[List.drop_set_of_lt (by omega)]
   congr 1;omega
  rw[e1,e2]
  simp
variable {prog:Program}{w:World}{A:Around}{E:Value->Shared->Prop}{s:Shared}{κ:SortKind}{P:Keyed->Prop}
theorem laid {base mid r:Nat}{res:Array Keyed} (h1:base<=mid) (h2:mid<=r) (h3:r<=a.size) (hg:Gd ky (a.extract base mid).toList (a.extract mid r).toList res.toList) :
  ∃a':Array Keyed,List.foldl (λ(a:Array Keyed) (x:Keyed×Nat)=>a.setIfInBounds (base+x.2) x.1) a res.toList.zipIdx=a'/\Chg a a' base r/\SoR ky a' base r/\∀j,base<=j->j<r->∃t,base<=t/\t<r/\kp ky a' j=kp ky a t:=by
 have hlen:res.toList.length=r-base:=by
  have:=hg.1.length_eq
  simp only[YH,YO,Array.size_extract]at this⊢;omega
 have key:=Zm9 base res.toList 0 a (by omega)
 have hb:base+0+res.toList.length=r:=by omega
 rw[hb,Nat.add_zero]at key
 refine⟨_,rfl,⟨?_,?_⟩,?_,?_⟩
 ·rw[Array.perm_iff_toList_perm,key]
  have e:a.toList=a.toList.take base++((a.extract base mid).toList++(a.extract mid r).toList)++a.toList.drop r:=by
   simp only[Array.toList_extract,List.extract_eq_drop_take]
   have:(a.toList.drop base).take (mid-base)++(a.toList.drop mid).take (r-mid)=(a.toList.drop base).take (r-base):=by
    have e2:r-base=(mid-base)+(r-mid):=by omega
    rw[e2,List.take_add,List.drop_drop]
    congr 3;omega
   rw[this]
   have e3:a.toList.drop r=(a.toList.drop base).drop (r-base):=by rw[List.drop_drop];congr 1;omega
   rw[e3,Y6,Je,Je]
  conv=>rhs;rw[e]
  exact List.Perm.append_right _ (List.Perm.append_left _ hg.1)
 ·intro i hi
  rw[<-Array.getElem?_toList,<-Array.getElem?_toList,key]
  have hl0:(a.toList.take base).length=base:=by simp;omega
  rcases hi with hi|hi
  ·rw[Y6,YL (by omega),List.getElem?_take_of_lt hi]
  ·rw[YK (by simp;simp at hlen;omega),List.getElem?_drop]
   congr 1
   simp only[YH,hl0,hlen];omega
 all_goals
  have atm:∀j,(hj0:base<=j)->(hj:j<r)->kp ky (List.foldl (λ(a:Array Keyed) (x:Keyed×Nat)=>a.setIfInBounds (base+x.2) x.1) a res.toList.zipIdx) j=ky (res.toList[j-base]'(by omega)):=by
   intro j j1 j2
   have hl0:(a.toList.take base).length=base:=by simp;omega
   have:(List.foldl (λ(a:Array Keyed) (x:Keyed×Nat)=>a.setIfInBounds (base+x.2) x.1) a res.toList.zipIdx)[j]?=some (res.toList[j-base]'(by omega)):=by
    rw[<-Array.getElem?_toList,key,Y6,YK (by omega),YL (by omega),hl0,Yb (by omega)]
   unfold kp
   rw[Array.getD_eq_getD_getElem?,this];rfl
 ·intro i j hi hij hj
  rw[atm i hi (by omega),atm j (by omega) hj]
  by_cases e:i=j
  ·subst e;exact Int.le_refl _
  ·exact List.pairwise_iff_getElem.mp hg.2 _ _ _ _ (by omega)
 ·intro j j1 j2
  rw[atm j j1 j2]
  have hm:(res.toList[j-base]'(by omega))∈(a.extract base mid).toList++(a.extract mid r).toList:=(List.Perm.mem_iff hg.1).mp (YI _)
  rcases Yy.mp hm with hm|hm
  ·obtain⟨t,ht,e⟩:=List.mem_iff_getElem.mp hm
   simp only[YO,Array.size_extract]at ht
   simp only[Array.getElem_toList,Array.getElem_extract]at e
   exact⟨base+t,by omega,by omega,by rw[kp_at (by omega),e,Array.getElem_toList]⟩
  ·obtain⟨t,ht,e⟩:=List.mem_iff_getElem.mp hm
   simp only[YO,Array.size_extract]at ht
   simp only[Array.getElem_toList,Array.getElem_extract]at e
   exact⟨mid+t,by omega,by omega,by rw[kp_at (by omega),e,Array.getElem_toList]⟩
end
end L2
namespace L2
open PySem PySem.Spec PyProof.Rows
end L2
namespace L2
open PySem PySem.Spec PyProof.Rows PySem.W
noncomputable def Za2 (H:Hp) (acc:List V) (rs:List (List Int)):Prop:=∃as:List Addr,acc=as.map V.ref/\as.length=rs.length/\∀i (h1:i<as.length) (h2:i<rs.length),H as[i]=some (.tup (rs[i].map V.int))
theorem Za2.nil {H:Hp}:Za2 H [] []:=⟨[],rfl,rfl,λi h=>absurd h (by simp)⟩
theorem Za2.same {H H':Hp}{acc:List V}{rs:List (List Int)} (h:Za2 H acc rs) (s:Ze H H'):Za2 H' acc rs:=by
 obtain⟨as,e,l,k⟩:=h
 exact⟨as,e,l,λi h1 h2=>s _ _ (k i h1 h2)⟩
theorem Za2.len {H:Hp}{acc:List V}{rs:List (List Int)} (h:Za2 H acc rs):acc.length=rs.length:=by
 obtain⟨as,e,l,k⟩:=h
 rw[e,Yf,l]
theorem Za2.snoc {H:Hp}{acc:List V}{rs:List (List Int)}{u:Addr}{r:List Int} (h:Za2 H acc rs) (hu:H u=some (.tup (r.map V.int))):Za2 H (acc++[V.ref u]) (rs++[r]):=by
 obtain⟨as,e,l,k⟩:=h
 refine⟨as++[u],by rw[e];simp,by simp[l],λi h1 h2=>?_⟩
 by_cases c:i<as.length
 ·rw[Jd c,Jd (by omega)];exact k i c (by omega)
 ·have:i=as.length:=by simp at h1;omega
  subst this
  rw[List.getElem_concat_length,Jf (by omega)]
  simpa[l]using hu
  rfl
theorem Za2.at {H:Hp}{acc:List V}{rs:List (List Int)}{l:Addr} (h:Za2 H acc rs) (hl:H l=none):Zx (upd H l (.lst acc)) l rs:=by
 obtain⟨as,e,ln,k⟩:=h
 refine⟨as,by rw[Zc,e],ln,λi h1 h2=>?_⟩
 rw[Zh (λz=>by have:=k i h1 h2;rw[z,hl]at this;cases this)]
 exact k i h1 h2
end L2
namespace L2
open PySem PySem.Spec PyProof.Rows PySem.W PySem.Calls
end L2
namespace L2
open PySem PySem.Spec PyProof.Rows PySem.W
section
variable {X:Cx}{a b:Expr}{rest:List Expr}{ta tb:TE}{pos:Pos}
noncomputable def tOrT (K:Frag) (ta tb:TE):TE:=fun σ H Q=>ta σ H λx H1=>∃k,TruV K x H1 k/\if k=true then Q x H1 else tb σ H1 Q
theorem pe_orT {K:Frag} (hK:X.K=K) (ha:PE X a ta) (hb:PE X (.BoolOp .Or (b::rest) pos) tb):PE X (.BoolOp .Or (a::b::rest) pos) (tOrT K ta tb):=by
 subst hK
 intro pins s σ H Q I h
 refine BoolOp_or (thn (ha pins s σ H _ I h) λv s1 ⟨x,H1,I1,r1,k,hk,q1⟩=>?_)
 refine thn (tru_ok pins s1 σ H1 x v (λc H'=>if c=true then Q x H' else tb σ H' Q) I1 r1 ⟨k,hk,q1⟩) λc s2 ⟨H2,I2,q2⟩=>?_
 cases c with
 |true=>exact⟨x,H2,I2,r1,q2⟩
 |false=>exact hb pins s2 σ H2 Q I2 q2
end
end L2
namespace K50
open PySem PySem.Spec PyProof.Rows L2
open PySem.W (nsIn mg_of fnOf keepIn codeIn mg_none_of)
local macro_rules | `(tactic| walk_at "rd") => `(tactic| simp only [tIfS, tNot, ZmK, ZlN, rI0, rI, rU, ZiE, tC, tB, tIf, Zot, tOrV, ZkM, Zi8, ZnA, tAsg, tSeq, tRet, Zow, tOp, tUn, tAnd, tOr, Zox, Zex, gSub, tAug, tCB, tSl, ZlT, tLst, tTup, L2.start, ZnH, gTup, Zoy, gNil, ZaO, Option.join_some, Option.join_none, rEq, ZmS, ZmT, ZmU, ZmV, ZmW, ZmX, tBM, Bool.true_eq_false, YT, List.map_nil, List.cons_append, List.nil_append, YQ, List.length_nil, List.replicate, List.append_nil, List.set_cons_zero, List.set_cons_succ, List.getElem?_cons_zero, List.getElem?_cons_succ, Option.some.injEq, V.int.injEq, V.bl.injEq, V.ref.injEq, List.cons.injEq, and_true, true_and, exists_eq_left, exists_eq_left', exists_and_left, exists_eq, decide_eq_true_eq, Bool.not_eq_true', decide_eq_false_iff_not, cxK, and_assoc, Bool.false_eq_true, ↓reduceIte, ZmQ, Zjf, ZkU, ZoA, ZoB, ZmJ, iTup, ZcW, Zfp, ZoG, rCat, rIsi, ZoP, Zj1, ZlX, rLen, rLof, rTof, rEqD, ZoN, rIn, Zl7, rAll, rIxQ, rSlL, ZoE, ZjH, tSl, ipI, ZjP, rRep, ZmY, ZoM, ZjQ, V.str.injEq, Zla, Zo2, tLam, Zj9, Zka, Zmf, Zmh, gLst, Zo9, rEqN, tOrT])
noncomputable def top (i:Nat):Stmt:=PySem.Challenge.pw_dipkin_k50_the_table_told.main.body.getD i (.Pass ⟨0,0,0,0⟩)
noncomputable abbrev Zaa:Stmt:=top 5
noncomputable abbrev ZdE:Stmt:=top 7
noncomputable abbrev Zce:Stmt:=top 8
noncomputable abbrev ZdF:Stmt:=top 9
noncomputable abbrev Zbm:Stmt:=top 10
noncomputable abbrev ZaD:Stmt:=top 11
noncomputable abbrev ZaE:Stmt:=top 15
noncomputable abbrev ZaF:Stmt:=top 16
noncomputable abbrev Zao:Stmt:=top 17
noncomputable abbrev Zcf:Stmt:=top 18
noncomputable abbrev Zbn:Stmt:=top 19
noncomputable abbrev Zbo:Stmt:=top 20
noncomputable abbrev ZaU:Stmt:=top 22
noncomputable abbrev ZaV:Stmt:=top 23
noncomputable abbrev Zbp:Stmt:=top 24
noncomputable abbrev ZaG:Stmt:=top 25
noncomputable abbrev ZaW:Stmt:=top 26
noncomputable abbrev ZaX:Stmt:=top 27
noncomputable abbrev Zap:Stmt:=top 28
noncomputable abbrev ZaY:Stmt:=top 29
noncomputable abbrev Zaq:Stmt:=top 30
noncomputable abbrev Zab:Stmt:=top 31
noncomputable abbrev ZaH:Stmt:=top 32
noncomputable abbrev ZaZ:Stmt:=top 33
noncomputable abbrev ZaI:Stmt:=top 34
noncomputable abbrev ZaJ:Stmt:=top 35
noncomputable abbrev ZU:Stmt:=top 36
noncomputable abbrev ZN:Stmt:=top 37
noncomputable abbrev Zgh:Stmt:=top 38
structure Txt (K:PySem.W.Frag) (mg:Str->Option Value):Prop where
 b_all:mg "all"=none
 b_enumerate:mg "enumerate"=none
 b_isinstance:mg "isinstance"=none
 b_len:mg "len"=none
 b_list:mg "list"=none
 b_max:mg "max"=none
 b_min:mg "min"=none
 b_range:mg "range"=none
 b_sorted:mg "sorted"=none
 b_tuple:mg "tuple"=none
 c_DipError:mg "DipError"=some (.ref (clsAt mg "DipError"))
 x_DipError:PySem.W.excIn K (clsAt mg "DipError") bmV newV=true
 c_Empty:mg "Empty"=some (.ref (clsAt mg "Empty"))
 x_Empty:PySem.W.excIn K (clsAt mg "Empty") bmV newV=true
 c_TooMany:mg "TooMany"=some (.ref (clsAt mg "TooMany"))
 x_TooMany:PySem.W.excIn K (clsAt mg "TooMany") bmV newV=true
 m_MOST_HELD:mg "MOST_HELD"=some (.int 6 (tokAt mg "MOST_HELD"))
 m_MOST_HOLDING:mg "MOST_HOLDING"=some (.int 16 (tokAt mg "MOST_HOLDING"))
noncomputable def Zer (K:PySem.W.Frag) (mg:Str->Option Value):List (Addr×Str):=[(Zev K mg "from_below",ZfK "from_below"),(Zev K mg "best_ahead",ZfK "best_ahead"),(Zev K mg "best_behind",ZfK "best_behind"),(Zev K mg "_law_table",ZfK "_law_table")]
noncomputable abbrev SpT:=PySem.W.Frag->(Str->Option Value)->Sp
noncomputable def Zna (K:PySem.W.Frag) (mg:Str->Option Value):Sp:=λvs H Q E=>∃(a:Addr) (ns:List Int),vs=[.ref a]/\SqL K H a (ns.map V.int)/\ns.length<=63/\(∀p∈Zer K mg,H p.1=some (Zhp p.2))/\∀H',Q (.bl true) H'
noncomputable def ZgQ:SpT:=λK mg vs H Q E=>∃(t:Addr) (T:List Int) (p:Nat),vs=[.ref t,.int p]/\(SqL K H t (T.map V.int)\/SqT K H t (T.map V.int))/\T.length<=1000/\p<T.length/\∀(w:Addr) H',H w=none->Ze H H'->H' w=some (.lst ((ZnP T p).map V.int))->Q (.ref w) H'
noncomputable def dpI (T:List Int) (i:Int):Int:=((ZnP T i.toNat).length:Int)
noncomputable def ZcZ:SpT:=λK mg vs H Q E=>∃(t:Addr) (T:List Int),vs=[.ref t]/\H t=some (.tup (T.map V.int))/\Zdz T/\ZX K mg "from_below" H/\∀(l:Addr) (ps:List Int) H',H l=none->Ze H H'->ps.Perm (nats (T.length:Int))->(ps.Pairwise λx y=>dpI T y<=dpI T x)->H' l=some (.lst (ps.map V.int))->Q (.ref l) H'
noncomputable abbrev Pt:=Option (Int×Int)
noncomputable def Zaf (H:Hp) (v:V):Pt->Prop
 |none=>v=.non
 |some z=>∃a:Addr,v=.ref a/\H a=some (.tup [.int z.1,.int z.2])
noncomputable def ZaN (H:Hp) (a:Addr) (ps:List Pt):Prop:=∃vals:List V,H a=some (.lst vals)/\vals.length=ps.length/\∀(i:Nat) (v:V) (p:Pt),vals[i]?=some v->ps[i]?=some p->Zaf H v p
noncomputable def Zak (H:Hp) (l:Addr) (tab:List (List Pt)):Prop:=∃as:List Addr,H l=some (.lst (as.map V.ref))/\l∉as/\as.length=tab.length/\∀(i:Nat) (a:Addr) (ps:List Pt),as[i]?=some a->tab[i]?=some ps->ZaN H a ps
noncomputable def optN:Option Nat->V
 |none=>.non
 |some j=>.int (j:Int)
noncomputable def ZR (ps:List Pt) (j:Nat):Int×Int:=(ps.getD j none).getD (0,0)
noncomputable def Zal (ts:List Int) (ps:List Pt) (i j:Nat):Prop:=j<i/\(ps.getD j none).isSome=true/\nth ts i<nth ts j/\(ZR ps j).2<i
noncomputable def Zam (ts:List Int) (ps:List Pt) (i j:Nat):Prop:=i<j/\j<ts.length/\(ps.getD j none).isSome=true/\nth ts i<=nth ts j/\(i:Int)<(ZR ps j).1
noncomputable def BestA (ts:List Int) (ps:List Pt) (i:Nat):Option Nat->Prop
 |none=>∀j,¬ Zal ts ps i j
 |some j=>Zal ts ps i j/\∀j',Zal ts ps i j'->(ZR ps j').1<=(ZR ps j).1
noncomputable def BestB (ts:List Int) (ps:List Pt) (i:Nat):Option Nat->Prop
 |none=>∀j,¬ Zam ts ps i j
 |some j=>Zam ts ps i j/\∀j',Zam ts ps i j'->(ZR ps j).2<=(ZR ps j').2
noncomputable def Zc0:SpT:=λK mg vs H Q E=>∃(x q:Addr) (ts:List Int) (ps:List Pt) (i:Nat),vs=[.ref x,.ref q,.int (i:Int)]/\(SqL K H x (ts.map V.int)\/SqT K H x (ts.map V.int))/\ZaN H q ps/\ps.length=ts.length/\ts.length<=16/\i<ts.length/\ZX K mg "best_ahead" H/\∀(r:Option Nat) H',Ze H H'->BestA ts ps i r->Q (optN r) H'
noncomputable def Zcl:SpT:=λK mg vs H Q E=>∃(x q:Addr) (ts:List Int) (ps:List Pt) (i:Nat),vs=[.ref x,.ref q,.int (i:Int)]/\(SqL K H x (ts.map V.int)\/SqT K H x (ts.map V.int))/\ZaN H q ps/\ps.length=ts.length/\ts.length<=16/\i<ts.length/\ZX K mg "best_behind" H/\∀(r:Option Nat) H',Ze H H'->BestB ts ps i r->Q (optN r) H'
noncomputable def Zbv (ts:List Int) (tab:List (List Pt)) (i:Nat) (ah:Option Nat) (r:Option Int):Prop:=match ah with
 |none=>r=some (i:Int)
 |some c=>match r with
  |none=>∀j,¬ Zal ts (tab.getD c []) i j
  |some m=>(∃j,Zal ts (tab.getD c []) i j/\m=(ZR (tab.getD c []) j).1)/\∀j,Zal ts (tab.getD c []) i j->(ZR (tab.getD c []) j).1<=m
noncomputable def Zc1 (ts:List Int) (tab:List (List Pt)) (i:Nat) (bh:Option Nat) (r:Option Int):Prop:=match bh with
 |none=>r=some (i:Int)
 |some c=>match r with
  |none=>∀j,¬ Zam ts (tab.getD c []) i j
  |some m=>(∃j,Zam ts (tab.getD c []) i j/\m=(ZR (tab.getD c []) j).2)/\∀j,Zam ts (tab.getD c []) i j->m<=(ZR (tab.getD c []) j).2
noncomputable def Zke:Option Int->Option Int->Pt
 |some a,some b=>some (a,b)
 |_,_=>none
noncomputable def Zbw (ts:List Int) (tab:List (List Pt)) (i:Nat) (ah bh:Option Nat) (p:Pt):Prop:=∃a b,Zbv ts tab i ah a/\Zc1 ts tab i bh b/\p=Zke a b
noncomputable def Znb (tab:List (List Pt)) (n:Nat):Option Nat->Prop
 |none=>True
 |some c=>c<tab.length/\(tab.getD c []).length=n
noncomputable def ZfL:SpT:=λK mg vs H Q E=>∃(x l y:Addr) (ts:List Int) (tab:List (List Pt)) (ah bh:Option Nat) (i:Nat),vs=[.ref x,.ref l,.ref y,.int (i:Int)]/\(SqL K H x (ts.map V.int)\/SqT K H x (ts.map V.int))/\Zak H l tab/\H y=some (.lst [optN ah,optN bh])/\Znb tab ts.length ah/\Znb tab ts.length bh/\ts.length<=16/\i<ts.length/\ZX K mg "best_ahead" H/\ZX K mg "best_behind" H/\∀(v:V) (p:Pt) H',Ze H H'->Zbw ts tab i ah bh p->Zaf H' v p->Q v H'
noncomputable def ZaQ:SpT:=λK mg vs H Q E=>∃(r:Addr) (ns:List Int) (k:Int),vs=[.ref r,.int k]/\(SqL K H r (ns.map V.int)\/SqT K H r (ns.map V.int))/\ns.length<=1000/\0<=k/\k<=1000/\(k<=ns.length->Q .non H)/\((ns.length:Int)<k->E (.ref (clsAt mg "Empty")) none H)
noncomputable def ZgR:SpT:=λK mg vs H Q E=>∃(el sp:Addr) (es:List Int) (A B:List Nat) (i:Nat),vs=[.ref el,.ref sp,.int i,.int A.length]/\H el=some (.lst (es.map V.int))/\H sp=some (.lst (ZC (A++B)))/\el≠sp/\i<es.length/\(∀q∈A++B,q<es.length)/\(A++B).length<=1000 /\
 ∀H',(∀b o,b≠el->b≠sp->H b=some o->H' b=some o)->H' el=some (.lst ((Zfq es A B i).map V.int))->H' sp=some (.lst (ZC (A++[i])))->Q .non H'
noncomputable def ZfM:SpT:=λK mg vs H Q E=>∃(r:Addr) (ns:List Int),vs=[.ref r]/\(SqL K H r (ns.map V.int)\/SqT K H r (ns.map V.int))/\ns.length<=1000/\∀(t:Addr) (es:List Int) H',Zs ns es->Ze H H'->H' t=some (.tup (es.map V.int))->Q (.ref t) H'
noncomputable def Z7 (T:List Int) (v:Nat):Option Nat->Prop
 |none=>∀c,c<v->c<T.length->nth T c≠v
 |some c=>c<v/\c<T.length/\nth T c=v
noncomputable def ZQ (T:List Int) (v:Nat):Option Nat->Prop
 |none=>∀c,v<c->c<T.length->nth T c≠v
 |some c=>v<c/\c<T.length/\nth T c=v
noncomputable def Znc (H:Hp) (y:Addr) (T:List Int):Prop:=∃as:List Addr,H y=some (.lst (as.map V.ref))/\as.length=T.length/\∀(v:Nat) (a:Addr),as[v]?=some a->∃ah bh,Z7 T v ah/\ZQ T v bh/\H a=some (.lst [optN ah,optN bh])
noncomputable def ZeG:SpT:=λK mg vs H Q E=>∃(t:Addr) (T:List Int),vs=[.ref t]/\H t=some (.tup (T.map V.int))/\Zdz T/\∀(y:Addr) H',H y=none->Znc H' y T->Ze H H'->Q (.ref y) H'
noncomputable def Zgi (T ts:List Int) (tab:List (List Pt)):Prop:=tab.length=T.length/\∀v,v<T.length->(tab.getD v []).length=ts.length/\∀i,i<ts.length->∃ah bh,Z7 T v ah/\ZQ T v bh/\Zbw ts tab i ah bh ((tab.getD v []).getD i none)
noncomputable def FrL (H H':Hp) (l:Addr):Prop:=∃as:List Addr,H' l=some (.lst (as.map V.ref))/\∀a∈as,H a=none
noncomputable def ZeH:SpT:=λK mg vs H Q E=>∃(t x:Addr) (T ts:List Int),vs=[.ref t,.ref x]/\H t=some (.tup (T.map V.int))/\(SqL K H x (ts.map V.int)\/SqT K H x (ts.map V.int))/\Zdz T/\ts.length<=16/\ZX K mg "from_below" H/\ZX K mg "best_ahead" H/\ZX K mg "best_behind" H/\∀(l:Addr) (tab:List (List Pt)) H',H l=none->Zak H' l tab->FrL H H' l->Zgi T ts tab->Ze H H'->Q (.ref l) H'
noncomputable def Zc2:SpT:=λK mg vs H Q E=>∃(r x:Addr) (ns ts:List Int),vs=[.ref r,.ref x]/\(SqL K H r (ns.map V.int)\/SqT K H r (ns.map V.int))/\(SqL K H x (ts.map V.int)\/SqT K H x (ts.map V.int))/\0<ns.length/\ns.length<=6/\ts.length<=16/\Q .non H
noncomputable def ZeI:SpT:=λK mg vs H Q E=>∃(r x:Addr) (ns ts:List Int),vs=[.ref r,.ref x]/\(SqL K H r (ns.map V.int)\/SqT K H r (ns.map V.int))/\(SqL K H x (ts.map V.int)\/SqT K H x (ts.map V.int))/\0<ns.length/\ns.length<=6/\ts.length<=16/\ZX K mg "from_below" H/\ZX K mg "best_ahead" H/\ZX K mg "best_behind" H/\∀(l:Addr) (T:List Int) (tab:List (List Pt)) H',H l=none->Zs ns T->Zak H' l tab->FrL H H' l->Zgi T ts tab->Ze H H'->Q (.ref l) H'
noncomputable def ZdS:SpT:=λK mg vs H Q E=>∃(a:Addr) (ns:List Int) (k:Int),vs=[.ref a,.int k]/\SqL K H a (ns.map V.int)/\0<=k/\k<=100/\∀p H',H p=none->Ze H H'->ZG H' p->Q (.ref p) H'
noncomputable def Za3:SpT:=λK mg vs H Q E=>∃(p:Addr) (many:Int),vs=[.ref p,.int many]/\0<many/\many<=1000000001/\ZG H p/\∀d H',0<=d->d<many->ZG H' p->Exc p H H'->Q (.int d) H'
noncomputable def ZeJ:SpT:=λK mg vs H Q E=>∃(p:Addr) (most:Int),vs=[.ref p,.int most]/\0<=most/\most<=1000/\ZG H p/\∀(r:Addr) (ns:List Int) H',H r=none->(ns.length:Int)<=most->H' r=some (.lst (ns.map V.int))->ZG H' p->Exc p H H'->Q (.ref r) H'
noncomputable def Zc3:SpT:=λK mg vs H Q E=>∃(r:Addr) (ns:List Int) (i:Nat),vs=[.ref r,.int (i:Int)]/\(SqL K H r (ns.map V.int)\/SqT K H r (ns.map V.int))/\ns.length<=1000/\i<ns.length/\∀(e:Int) H',Zy (nth ns) ns.length i e->Ze H H'->Q (.int e) H'
noncomputable def Za4:SpT:=λK mg vs H Q E=>∃(r:Addr) (ns:List Int),vs=[.ref r]/\(SqL K H r (ns.map V.int)\/SqT K H r (ns.map V.int))/\ns.length<=1000/\∀(t:Addr) (es:List Int) H',Zs ns es->Ze H H'->H' t=some (.tup (es.map V.int))->Q (.ref t) H'
noncomputable def ZdT:SpT:=λK mg vs H Q E=>∃(t:Addr) (T:List Int) (p:Nat),vs=[.ref t,.int p]/\H t=some (.tup (T.map V.int))/\T.length<=1000/\p<T.length/\Zck T T.length (nth T p)/\∀(w:Addr) H',H w=none->Ze H H'->H' w=some (.lst ((ZnP T p).map V.int))->Q (.ref w) H'
noncomputable def ZdU:SpT:=λK mg vs H Q E=>∃(t:Addr) (T:List Int) (v:Nat) (lt:Bool),vs=[.ref t,.int (v:Int),.bl lt]/\H t=some (.tup (T.map V.int))/\Zdz T/\v<T.length/\∀(o:Option Nat) H',(lt=false->Z7 T v o)->(lt=true->ZQ T v o)->Ze H H'->Q (optN o) H'
noncomputable def Zc4:SpT:=λK mg vs H Q E=>∃(t x l:Addr) (T ts:List Int) (tab:List (List Pt)) (v i:Nat),vs=[.ref t,.ref x,.ref l,.int (v:Int),.int (i:Int)]/\H t=some (.tup (T.map V.int))/\H x=some (.lst (ts.map V.int))/\Zak H l tab/\Zdz T/\v<T.length/\i<ts.length/\ts.length<=16/\(∀c,c<T.length->nth T c=v->c<tab.length/\(tab.getD c []).length=ts.length)/\∀(u:V) (p:Pt) (ah bh:Option Nat) H',Z7 T v ah->ZQ T v bh->Zbw ts tab i ah bh p->Zaf H' u p->Ze H H'->Q u H'
noncomputable def unN (T:List Int) (v:Nat):Nat:=((List.range T.length).filter λo=>decide (o=v\/v∈way T o)).length
noncomputable def unL (T:List Int) (v:Nat):List Int:=((List.range T.length).filter λo=>decide (o=v\/v∈way T o)).map λ(o:Nat)=>(o:Int)
noncomputable def Zbx:SpT:=λK mg vs H Q E=>∃(t:Addr) (T:List Int) (v:Nat),vs=[.ref t,.int (v:Int)]/\H t=some (.tup (T.map V.int))/\Zdz T/\∀(l:Addr) (us:List V) H',H l=none->H' l=some (.lst us)->us.length=unN T v/\us=(unL T v).map V.int->Ze H H'->Q (.ref l) H'
noncomputable def FsOk (ts:List Int) (tab:List (List Pt)) (i:Nat) (ah:Option Nat) (fs:List Int):Prop:=match ah with
 |none=>fs=[(i:Int)]
 |some c=>∀x,x∈fs↔∃j,Zal ts (tab.getD c []) i j/\x=(ZR (tab.getD c []) j).1
noncomputable def LsOk (ts:List Int) (tab:List (List Pt)) (i:Nat) (bh:Option Nat) (ls:List Int):Prop:=match bh with
 |none=>ls=[(i:Int)]
 |some c=>∀x,x∈ls↔∃j,Zam ts (tab.getD c []) i j/\x=(ZR (tab.getD c []) j).2
noncomputable def unI (T:List Int) (i:Int):Int:=(unN T i.toNat:Int)
noncomputable def Zc5:SpT:=λK mg vs H Q E=>∃(r x:Addr) (ns ts:List Int),vs=[.ref r,.ref x]/\H r=some (.lst (ns.map V.int))/\H x=some (.lst (ts.map V.int))/\ns.length<=6/\ts.length<=16/\ZX K mg "_law_table" H/\∀(l:Addr) (T:List Int) (tab:List (List Pt)) H',H l=none->Zs ns T->Zak H' l tab->Zgi T ts tab->Ze H H'->Q (.ref l) H'
noncomputable def Zcm:SpT:=λK mg vs H Q E=>∃(p r:Addr) (xs:List V),vs=[.ref p,.ref r]/\ZG H p/\r≠p/\H r=some (.lst xs)/\xs.length<=1000/\∀(u:Addr) H',H u=none->(H' u=some (.lst xs)\/H' u=some (.tup xs))->ZG H' p->Exc p H H'->Q (.ref u) H'
noncomputable def ZdV:SpT:=λK mg vs H Q E=>∃(p:Addr) (most wide:Int),vs=[.ref p,.int most,.int wide]/\1<=most/\most<=100/\0<=wide/\wide<=100/\ZG H p/\∀(t r x:Addr) (ns ts:List Int) H',H r=none->H x=none->0<ns.length->(ns.length:Int)<=most->(ts.length:Int)<=wide->H' r=some (.lst (ns.map V.int))->H' x=some (.lst (ts.map V.int))->H' t=some (.tup [.ref r,.ref x])->ZG H' p->Exc p H H'->Q (.ref t) H'
noncomputable def Ris (N:Nat) (r:List Int):Prop:=(∀x∈r,0<=x/\x<(N:Int))/\r.Pairwise (· < ·)
noncomputable def Zcn:SpT:=λK mg vs H Q E=>∃(many size:Nat),vs=[.int (many:Int),.int (size:Int)]/\many<=8/\size<=4/\∀(l:Addr) (rs:List (List Int)) H',H l=none->Zx H' l rs->rs.length<=4096->(∀r,r∈rs↔r.length=size/\Ris many r)->Ze H H'->Q (.ref l) H'
noncomputable def atL (ts r:List Int):List Int:=r.map λx=>nth ts x.toNat
noncomputable def Zh5 (ns ts r:List Int):Prop:=r.length=ns.length/\Ris ts.length r/\∃W,Zs ns W/\Zs (atL ts r) W
noncomputable def ZbU:SpT:=λK mg vs H Q E=>∃(r x:Addr) (ns ts:List Int),vs=[.ref r,.ref x]/\(SqL K H r (ns.map V.int)\/SqT K H r (ns.map V.int))/\H x=some (.lst (ts.map V.int))/\ns.length<=4/\ts.length<=8/\∀(l:Addr) (rs:List (List Int)) H',H l=none->Zx H' l rs->rs.length<=4096->(∀r,r∈rs↔Zh5 ns ts r)->Ze H H'->Q (.ref l) H'
noncomputable def Za5:SpT:=λK mg vs H Q E=>∃(r x:Addr) (ns ts:List Int),vs=[.ref r,.ref x]/\H r=some (.lst (ns.map V.int))/\H x=some (.lst (ts.map V.int))/\ns.length<=4/\ts.length<=8/\∀(l:Addr) (T:List Int) (tab:List (List Pt)) H',H l=none->Zs ns T->Zak H' l tab->Zgi T ts tab->Ze H H'->Q (.ref l) H'
noncomputable def ZaT:SpT:=λK mg vs H Q E=>∃(p r x d:Addr) (ns ts T:List Int) (tab:List (List Pt)),vs=[.ref p,.ref r,.ref x,.ref d]/\ZG H p/\r≠p/\x≠p/\H r=some (.lst (ns.map V.int))/\H x=some (.lst (ts.map V.int))/\0<ns.length/\ns.length<=6/\ts.length<=16/\Zs ns T/\Zgi T ts tab/\Zak H d tab/\ZX K mg "from_below" H/\ZX K mg "best_ahead" H/\ZX K mg "best_behind" H/\∀H',ZG H' p->Exc p H H'->Q (.bl true) H'
section
variable {P:Program}{w:World}{K:PySem.W.Frag}{mg:Str->Option Value}{base:Heap}
theorem Zhq:FnScope ["row","fewest"] ["row","fewest"] (defScope Zaa):=⟨rfl,rfl,rfl,by decide +kernel,rfl,by decide +kernel,by decide +kernel⟩
theorem Zn3:FnScope ["elders","spine","place","keep"] ["elders","spine","place","keep"] (defScope ZdE):=⟨rfl,rfl,rfl,by decide +kernel,rfl,by decide +kernel,by decide +kernel⟩
theorem Zbq:FnScope ["row","elders","spine","place","keep"] ["row"] (defScope Zce):=⟨rfl,rfl,rfl,by decide +kernel,rfl,by decide +kernel,by decide +kernel⟩
theorem Zfi:FnScope ["tree","place","way","at"] ["tree","place"] (defScope ZdF):=⟨rfl,rfl,rfl,by decide +kernel,rfl,by decide +kernel,by decide +kernel⟩
theorem ZcF:FnScope ["tree","young","place","elder"] ["tree"] (defScope Zbm):=⟨rfl,rfl,rfl,by decide +kernel,rfl,by decide +kernel,by decide +kernel⟩
theorem ZiK:FnScope ["tree"] ["tree"] (defScope ZaD):=⟨rfl,rfl,rfl,by decide +kernel,rfl,by decide +kernel,by decide +kernel⟩
theorem ZiL:FnScope ["row","text"] ["row","text"] (defScope ZaE):=⟨rfl,rfl,rfl,by decide +kernel,rfl,by decide +kernel,by decide +kernel⟩
theorem Zft:FnScope ["text","pairs","i","fit"] ["text","pairs","i"] (defScope ZaF):=⟨rfl,rfl,rfl,by decide +kernel,rfl,by decide +kernel,by decide +kernel⟩
theorem ZeK:FnScope ["text","pairs","i","fit"] ["text","pairs","i"] (defScope Zao):=⟨rfl,rfl,rfl,by decide +kernel,rfl,by decide +kernel,by decide +kernel⟩
theorem Zag:FnScope ["text","table","young","i","ahead","behind","first","last","j"] ["text","table","young","i"] (defScope Zcf):=⟨rfl,rfl,rfl,by decide +kernel,rfl,by decide +kernel,by decide +kernel⟩
theorem ZcG:FnScope ["tree","text","young","table","v"] ["tree","text"] (defScope Zbn):=⟨rfl,rfl,rfl,by decide +kernel,rfl,by decide +kernel,by decide +kernel⟩
theorem Zlf:FnScope ["row","text"] ["row","text"] (defScope Zbo):=⟨rfl,rfl,rfl,by decide +kernel,rfl,by decide +kernel,by decide +kernel⟩
theorem Z3:FnScope ["script","k","cell","seed","number","turn"] ["script","k"] (defScope ZaU):=⟨rfl,rfl,rfl,by decide +kernel,rfl,by decide +kernel,by decide +kernel⟩
theorem Zgj:FnScope ["pot","many","digit"] ["pot","many"] (defScope ZaV):=⟨rfl,rfl,rfl,by decide +kernel,rfl,by decide +kernel,by decide +kernel⟩
theorem ZaA:FnScope ["pot","most","many","kind","turn","row","k"] ["pot","most"] (defScope Zbp):=⟨rfl,rfl,rfl,by decide +kernel,rfl,by decide +kernel,by decide +kernel⟩
theorem Zc6:FnScope ["row","place","earlier","later"] ["row","place"] (defScope ZaG):=⟨rfl,rfl,rfl,by decide +kernel,rfl,by decide +kernel,by decide +kernel⟩
theorem Zkf:FnScope ["row"] ["row"] (defScope ZaW):=⟨rfl,rfl,rfl,by decide +kernel,rfl,by decide +kernel,by decide +kernel⟩
theorem ZbX:FnScope ["tree","place","way","here"] ["tree","place"] (defScope ZaX):=⟨rfl,rfl,rfl,by decide +kernel,rfl,by decide +kernel,by decide +kernel⟩
theorem Zh6:FnScope ["pot","some"] ["pot","some"] (defScope Zap):=⟨rfl,rfl,rfl,by decide +kernel,rfl,by decide +kernel,by decide +kernel⟩
theorem ZbY:FnScope ["pot","most","wide","row","text"] ["pot","most","wide"] (defScope ZaY):=⟨rfl,rfl,rfl,by decide +kernel,rfl,by decide +kernel,by decide +kernel⟩
theorem Zac:FnScope ["many","size","told","turn","longer","one"] ["many","size"] (defScope Zaq):=⟨rfl,rfl,rfl,by decide +kernel,rfl,by decide +kernel,by decide +kernel⟩
theorem Zes:FnScope ["row","text","tree"] ["row","text"] (defScope Zab):=⟨rfl,rfl,rfl,by decide +kernel,rfl,by decide +kernel,by decide +kernel⟩
theorem ZiM:FnScope ["tree","place"] ["tree","place"] (defScope ZaH):=⟨rfl,rfl,rfl,by decide +kernel,rfl,by decide +kernel,by decide +kernel⟩
theorem Zgk:FnScope ["tree","place","later","told"] ["tree","place","later"] (defScope ZaZ):=⟨rfl,rfl,rfl,by decide +kernel,rfl,by decide +kernel,by decide +kernel⟩
theorem ZL:FnScope ["tree","text","table","place","at","firsts","lasts","ahead","behind","pairs"] ["tree","text","table","place","at"] (defScope ZaI):=⟨rfl,rfl,rfl,by decide +kernel,rfl,by decide +kernel,by decide +kernel⟩
theorem Zby:FnScope ["row","text","tree","table","place"] ["row","text"] (defScope ZaJ):=⟨rfl,rfl,rfl,by decide +kernel,rfl,by decide +kernel,by decide +kernel⟩
theorem Zv:FnScope ["row","text","tree","table","place","under","spot","tuples","line","at","some"] ["row","text"] (defScope ZU):=⟨rfl,rfl,rfl,by decide +kernel,rfl,by decide +kernel,by decide +kernel⟩
theorem Zah:FnScope ["pot","row","text","due","handed","told","line"] ["pot","row","text","due"] (defScope ZN):=⟨rfl,rfl,rfl,by decide +kernel,rfl,by decide +kernel,by decide +kernel⟩
theorem ZeL:FnScope ["script","k","pot","row","text","table"] ["script"] (defScope Zgh):=⟨rfl,rfl,rfl,by decide +kernel,rfl,by decide +kernel,by decide +kernel⟩
theorem Zkg {f:Addr}{fd:FuncData} (F:Fun K "_law_deal" "_law_deal" ZaU f fd) (T:Txt K mg):FnOk P w K mg base (CXE P w) 1 f fd ["script","k"] (ZdS K mg):=by
 refine F.okX Z3 (λvs H Q E h=>?_) (λcdv A outer s H vs Q E hr h=>?_)
 ·obtain⟨a,ns,k,rfl,_⟩:=h;rfl
 obtain⟨a,ns,k,rfl,hS,h0,h1,k1⟩:=h
 refine⟨_,(Zd (Zq (i:=2) Z3.nd rfl (Or.inl rfl) Zf)
   (Zd (Z2 (Zj Zf3 (pv 1) (Zk (Zp (K:=K) rfl) rfl T.b_len YA (Za (pv 0) Zb)) (Zn _)) (Zg (Zq (i:=2) Z3.nd rfl (Or.inl rfl) (Zw ZeA (Zm Zo (pv 0) (pv 1) (λ_ _=>rfl)) (Zw ZcD (Zw ZcD (Zw ZcD (Zw ZfE Zf Zf) (Zw ZfE Zf Zf)) (Zw ZfE Zf Zf)) (Zw ZfE Zf Zf))))) ZH)
   (Zd (Z2 (Zj ZkL (pv 2) (Zw ZfE Zf Zf) (Zn _)) (Zg (Zz (ZM (Za (Zw ZgF (pv 2) (Zw ZfE Zf Zf)) Zb)))) ZH)
   (Zd (Zq (i:=3) Z3.nd rfl (Or.inl rfl) (Zw Zbj (Zw Zbj (Zw ZeA (pv 2) Zf) (Zw ZcD Zf (pv 1))) Zf))
   (Zd (Zq (i:=4) Z3.nd rfl (Or.inl rfl) Zf)
   (Zd (ZaS (ZbS PassesOwn.never rfl (ZF rfl T.b_range (Za Zf Zb)) (Zl (i:=5) Z3.nd rfl (Or.inl rfl)) (Zd (Zq (i:=3) Z3.nd rfl (Or.inl rfl) (Zw ZeA (Zw Zbj (Zw ZcD (pv 3) Zf) Zf) Zf))
   (Zg (Zq (i:=4) Z3.nd rfl (Or.inl rfl) (Zw Zbj (Zw ZcD (pv 4) Zf) (Zw ZeA (Zw Zh0 (Zw ZeA (Zw ZcD (pv 3) (pv 3)) Zf) Zf) Zf)))))))
   (Zg (Zz (ZM (Za (pv 4) Zb)))))))))),?_⟩
 simp only[tIfS,tNot,ZmK,ZlN,rI0,rI,rU,ZiE,tC,tB,tIf,Zot,tOrV,ZkM,Zi8,ZnA,tAsg,tSeq,tRet,Zow,tOp,tUn,tAnd,tOr,Zox,Zex,gSub,tAug,tCB,tSl,ZlT,tLst,tTup,L2.start,ZnH,gTup,Zoy,gNil,ZaO,Option.join_some,Option.join_none,rEq,ZmS,ZmT,ZmU,ZmV,ZmW,ZmX,tBM,Bool.true_eq_false,YT,List.map_nil,List.cons_append,List.nil_append,YQ,List.length_nil,List.replicate,List.append_nil,List.set_cons_zero,List.set_cons_succ,List.getElem?_cons_zero,List.getElem?_cons_succ,Option.some.injEq,V.int.injEq,V.bl.injEq,V.ref.injEq,List.cons.injEq,and_true,true_and,exists_eq_left,exists_eq_left',exists_and_left,exists_eq,decide_eq_true_eq,Bool.not_eq_true',decide_eq_false_iff_not,cxK,and_assoc,Bool.false_eq_true,↓reduceIte,ZmQ,Zjf,ZkU,ZoA,ZoB,ZmJ,iTup,ZcW,Zfp,ZoG,rCat,rIsi,ZoP,Zj1,ZlX,rLen,rLof,rTof,rEqD,ZoN,rIn,Zl7,rAll,rIxQ,rSlL,ZoE,ZjH,tSl,ipI,ZjP,rRep,ZmY,ZoM,ZjQ,V.str.injEq,Zla,Zo2,tLam,Zj9,Zka,Zmf,Zmh,gLst,Zo9,rEqN,tOrT,cp18,cp60,qm1,qm2,qm3,qm4]
 have fin:∀g:Int,0<=g->∀p,H p=none->Q (V.ref p) (upd H p (.lst [V.int g])):=λg hg p hp=>k1 p _ hp ((Ze.refl H).upd hp) ⟨_,Zc,hg⟩
 refine⟨_,.inl hS,ZD (λhk=>?_) (λhk=>?_)⟩
 case' refine_1 =>
  obtain⟨j,hj0⟩:=YZ h0
  have hj:j<(ns.map V.int).length:=by omega
  refine⟨_,hS,_,ZeC hj0 hj,ns[j]'(by simpa using hj),by simp,ZD (λc=>⟨by decide,fin _ (Int.sub_nonneg.mpr c)⟩) (λ_=>⟨by decide,ZmR (by decide) (by decide),by decide,by decide,?_⟩)⟩
 case' refine_2 =>
  refine ZD (λz=>absurd z (by decide)) (λ_=>⟨by decide,ZmR (by decide) (by decide),by decide,by decide,?_⟩)
 all_goals
  refine Zbi (λi σ H'=>∃v2 g o v5,σ=[some (.ref a),some (.int k),v2,some (.int o),some (.int g),v5]/\0<=g/\H'=H) ⟨_,0,_,none,rfl,Int.le_refl _,rfl⟩ ?_ ?_
  ·rintro i σ H' hi ⟨v2,g,o,v5,rfl,hg,rfl⟩
   walk_at "rd"
   have b1:=Int.emod_nonneg (o*48271+12345) (b:=2147483647) (by decide)
   have b2:=Int.emod_lt_of_pos (o*48271+12345) (b:=2147483647) (by decide)
   refine⟨mul_r (by decide) (by decide),by decide,mul_r (by decide) (by decide),ZmR (by omega) (by omega),by decide,⟨by decide,by decide⟩,by decide,?_⟩
   have b3:=Int.emod_nonneg ((o*48271+12345) % 2147483647*((o*48271+12345) % 2147483647) % 2147483629 / 64) (b:=16777216) (by decide)
   have b4:=Int.mul_nonneg hg (show(0:Int)<=16777216 by decide)
   omega
  ·rintro σ H' ⟨v2,g,o,v5,rfl,hg,rfl⟩
   walk_at "rd"
   exact⟨by decide,fin g hg⟩
theorem Zkh {f:Addr}{fd:FuncData} (F:Fun K "_law_take" "_law_take" ZaV f fd) (T:Txt K mg):FnOk P w K mg base (CXE P w) 1 f fd ["pot","many"] (Za3 K mg):=by
 refine F.okX Zgj (λvs H Q E h=>?_) (λcdv A outer s H vs Q E hr h=>?_)
 ·obtain⟨p,many,rfl,_⟩:=h;rfl
 obtain⟨p,many,rfl,h0,h1,⟨x,hp,hx⟩,k1⟩:=h
 refine⟨_,(Zd (Zq (i:=2) Zgj.nd rfl (Or.inl rfl) (Zw ZeA (Zm Zo (pv 0) Zf (λ_ _=>rfl)) (pv 1)))
   (Zd (ZcT (Zw Zh0 (Zm Zo (pv 0) Zf (λ_ _=>rfl)) (pv 1)) (ZfD (pv 0) Zf set_list (λ_=>rfl)))
   (Zg (Zz (pv 2))))),?_⟩
 walk_at "rd"
 refine⟨_,SqL.of hp,_,rfl,_,rfl,h0,?_⟩
 refine⟨_,SqL.of hp,_,rfl,_,rfl,⟨h0,by omega⟩,_,hp,_,rfl,?_⟩
 exact k1 _ _ (Int.emod_nonneg _ (by omega)) (Int.emod_lt_of_pos _ h0) ⟨_,Zc,Int.ediv_nonneg hx (by omega)⟩ Exc.upd
theorem Zlg {f:Addr}{fd:FuncData} (F:Fun K "_law_row" "_law_row" Zbp f fd) (Zt:Callee P w K mg base "_law_take" 1 ["pot","many"] (Za3 K mg)) (T:Txt K mg):FnOk P w K mg base (CXE P w) 2 f fd ["pot","most"] (ZeJ K mg):=by
 refine F.okX ZaA (λvs H Q E h=>?_) (λcdv A outer s H vs Q E hr h=>?_)
 ·obtain⟨p,most,rfl,_⟩:=h;rfl
 obtain⟨p,most,rfl,h0,h1,hP,k1⟩:=h
 refine⟨_,(Zd (Zq (i:=2) ZaA.nd rfl (Or.inl rfl) (Zi Zt (hr.mono (by decide)) rfl ZA (Za (pv 0) (Za (Zw Zbj (pv 1) Zf) Zb))))
   (Zd (Zq (i:=3) ZaA.nd rfl (Or.inl rfl) (Zi Zt (hr.mono (by decide)) rfl ZA (Za (pv 0) (Za Zf Zb))))
   (Zd (Zq (i:=4) ZaA.nd rfl (Or.inl rfl) (Zw Zbj Zf (Zi Zt (hr.mono (by decide)) rfl ZA (Za (pv 0) (Za Zf Zb)))))
   (Zd (Zq (i:=5) ZaA.nd rfl (Or.inr rfl) (ZM Zb))
   (Zd (ZaS (ZbS PassesOwn.never rfl (ZF rfl T.b_range (Za (pv 2) Zb)) (Zl (i:=6) ZaA.nd rfl (Or.inl rfl)) (Zg (Z2 (Zj Zf3 (pv 3) Zf (Zn _)) (Zg (Z1 (ZbW PySem.F.plainAttrs_list PySem.F.slot_list_append PySem.F.type_list_append ZZ (pv 5) (Za (Zi Zt (hr.mono (by decide)) rfl ZA (Za (pv 0) (Za (pv 4) Zb))) Zb)))) (Zg (Z2 (Zj Zfs (pv 3) Zf (Zn _)) (Zg (Z1 (ZbW PySem.F.plainAttrs_list PySem.F.slot_list_insert PySem.F.type_list_insert ZnM (pv 5) (Za (Zi Zt (hr.mono (by decide)) rfl ZA (Za (pv 0) (Za (Zw Zbj (pv 6) Zf) Zb))) (Za (pv 6) Zb))))) (Zg (Z2 (Zj Zfs (pv 3) Zf (Zn _)) (Zg (Z1 (ZbW PySem.F.plainAttrs_list PySem.F.slot_list_append PySem.F.type_list_append ZZ (pv 5) (Za (Zw ZgF (Zw ZeA (pv 6) (pv 4)) (Zw Zh0 (pv 6) (pv 4))) Zb)))) (Zg (Z2 (Zj Zfs (pv 3) Zf (Zn _)) (Zg (Z1 (ZbW PySem.F.plainAttrs_list PySem.F.slot_list_append PySem.F.type_list_append ZZ (pv 5) (Za (Zm Zo (ZM (Za (pv 6) (Za (Zfr ZcU (pv 6)) Zb))) (Zw ZeA (pv 4) Zf) (λ_ _=>rfl)) Zb)))) (Zg (Z2 (Zj Zfs (pv 3) Zf (Zn _)) (Zg (Z1 (ZbW PySem.F.plainAttrs_list PySem.F.slot_list_append PySem.F.type_list_append ZZ (pv 5) (Za (Zw ZcD (Zw ZgF (Zi Zt (hr.mono (by decide)) rfl ZA (Za (pv 0) (Za Zf Zb))) Zf) (Zw ZfE Zf Zf)) Zb)))) (Zg (Z1 (ZbW PySem.F.plainAttrs_list PySem.F.slot_list_append PySem.F.type_list_append ZZ (pv 5) (Za (Zw ZgF (Zi Zt (hr.mono (by decide)) rfl ZA (Za (pv 0) (Za Zf Zb))) Zf) Zb))))))))))))))))
   (Zd (Z2 (Zj Zfs (pv 3) Zf (Zn _)) (Zg (Zq (i:=5) ZaA.nd rfl (Or.inr rfl) (ZW ["k","row"] [none,some 5] rfl rfl rfl (ZF rfl T.b_range (Za (pv 2) Zb)) (λ_ _ _ _ _=>(Zl (i:=0) (show(["k","row"]:List Str).Nodup from by decide +kernel) rfl (Or.inl rfl))) (λ_ _ _ _ _=>ZV) (λ_ _ _ _ _=>(pe_bmK (K:=K) rfl PySem.F.plainAttrs_list PySem.F.slot_list_index PySem.F.type_list_index (ZkY (K:=K) rfl) (pv 1) (Za (pv 0) Zb))) Zr))) ZH)
   (Zg (Zz (pv 5))))))))),?_⟩
 refine ZY (fun σ Hx=>∃m:Int,σ=[some (.ref p),some (.int most),some (.int m),none,none,none,none]/\0<=m/\m<=most/\ZG Hx p/\Exc p H Hx) (λR hR=>?_) ?_
 ·walk_at "rd"
  exact⟨p,_,rfl,by omega,by omega,hP,λd H1 d0 d1 P1 e1=>hR _ _ ⟨d,rfl,d0,by omega,P1,e1⟩⟩
 rintro σ H1 ⟨many,rfl,m0,m1,P1,e1⟩
 refine ZY (fun σ Hx=>∃k:Int,σ=[some (.ref p),some (.int most),some (.int many),some (.int k),none,none,none]/\0<=k/\k<8/\ZG Hx p/\Exc p H Hx) (λR hR=>?_) ?_
 ·walk_at "rd"
  exact⟨p,_,rfl,by decide,by decide,P1,λd H2 d0 d1 P2 e2=>hR _ _ ⟨d,rfl,d0,d1,P2,e1.trans e2⟩⟩
 clear P1 e1 H1
 rintro σ H1 ⟨kd,rfl,d0,d1,P1,e1⟩
 refine ZY (fun σ Hx=>∃t:Int,σ=[some (.ref p),some (.int most),some (.int many),some (.int kd),some (.int t),none,none]/\2<=t/\t<6/\ZG Hx p/\Exc p H Hx) (λR hR=>?_) ?_
 ·walk_at "rd"
  exact⟨p,_,rfl,by decide,by decide,P1,λd H2 d0 d1 P2 e2=>⟨d,rfl,hR _ _ ⟨_,rfl,by omega,by omega,P2,e1.trans e2⟩⟩⟩
 clear P1 e1 H1
 rintro σ H1 ⟨tn,rfl,t0,t1,P1,e1⟩
 refine ZY (fun σ Hx=>∃q:Addr,σ=[some (.ref p),some (.int most),some (.int many),some (.int kd),some (.int tn),some (.ref q),none]/\H q=none/\q≠p/\Hx q=some (.lst [])/\ZG Hx p/\Exc p H Hx) (λR hR=>?_) ?_
 ·walk_at "rd"
  exact⟨Yv _,λq hq=>hR _ _ ⟨q,rfl,e1.free (P1.ne hq) hq,P1.ne hq,Zc,P1.upd hq,e1.same ((Ze.refl H1).upd hq)⟩⟩
 clear P1 e1 H1
 rintro σ H1 ⟨q,rfl,zq,nqp,hq1,P1,e1⟩
 refine ZY (fun σ Hx=>∃(ns:List Int) (v6:Option V),σ=[some (.ref p),some (.int most),some (.int many),some (.int kd),some (.int tn),some (.ref q),v6]/\(ns.length:Int)=many/\(kd=3->∀j:Nat,(j:Int)<many->(j:Int)∈ns)/\Hx q=some (.lst (ns.map V.int))/\ZG Hx p/\Exc p H Hx) (λR hR=>?_) ?_
 ·walk_at "rd"
  refine⟨by omega,by omega,?_⟩
  refine Zbi (λi σ Hx=>∃(ns:List Int) (v6:Option V),σ=[some (.ref p),some (.int most),some (.int many),some (.int kd),some (.int tn),some (.ref q),v6]/\ns.length=i/\(kd=3->∀j:Nat,j<i->(j:Int)∈ns)/\Hx q=some (.lst (ns.map V.int))/\ZG Hx p/\Exc p H Hx) ⟨[],none,rfl,rfl,(λ_ j hj=>absurd hj (by omega)),hq1,P1,e1⟩ ?_ ?_
  ·rintro i σ Hx hi ⟨ns,v6,rfl,hl,hin,hqx,Px,ex⟩
   have hi':i<1000:=by omega
   have hb:(ns.map V.int).length<sizeLine:=Yt (show _<=1000 by rw[Yf];omega) (by decide)
   have app:kd≠3->∀(y:Int) (Hy:Hp),Hy q=some (.lst (ns.map V.int))->ZG Hy p->Exc p H Hy->∃x_1,Hy q=some (HO.lst x_1)/\x_1.length<sizeLine/\∃ns':List Int,ns'.length=i+1/\(kd=3->∀(j:Nat),j<i+1->(j:Int)∈ns')/\upd Hy q (HO.lst (x_1++[V.int y])) q=some (HO.lst (List.map V.int ns'))/\ZG (upd Hy q (HO.lst (x_1++[V.int y]))) p/\Exc p H (upd Hy q (HO.lst (x_1++[V.int y]))):=λn3 y Hy hy Py ey =>
    ⟨_,hy,hb,ns++[y],by simp[hl],(λz=>absurd z n3),by rw[Zc];simp,Py.updN nqp,ey.updN zq⟩
   walk_at "rd"
   refine ZD (λk3=>⟨ZP hqx,p,_,rfl,by omega,by omega,Px,λd H2 d0 d1 P2 e2=>app (by omega) d H2 (e2 _ _ nqp hqx) P2 (ex.trans e2)⟩) λk3=>?_
   refine ZD (λk4=>⟨ZP hqx,p,_,rfl,by omega,by omega,Px,λd H2 d0 d1 P2 e2=>?_⟩) λk4=>?_
   ·refine⟨_,d,rfl,e2 _ _ nqp hqx,d0,by omega,hb,ns.take d.toNat++(0+(i:Int))::ns.drop d.toNat,by simp;omega,λ_ j hj=>?_,by rw[Zc];simp,P2.updN nqp,(ex.trans e2).updN zq⟩
    by_cases ej:j=i
    ·rw[ej];simp
    ·have hm:=hin k4 j (by omega)
     rw[<-Je d.toNat ns]at hm
     rcases Yy.mp hm with z|z
     ·exact YM _ z
     ·exact Yj _ (Ys _ z)
   refine ZD (λk5=>⟨ZP hqx,by omega,⟨by omega,by omega⟩,app k4 _ Hx hqx Px ex⟩) λk5=>?_
   refine ZD (λk6=>⟨ZP hqx,by decide,λu hu=>⟨by decide,?_⟩⟩) λk6=>?_
   ·obtain⟨v,hv,y,rfl⟩:=Zq2 (xs:=[V.int (0+(i:Int)),V.int (-(0+(i:Int)))]) (i:=tn % 2) (λv=>∃y:Int,v=V.int y) (by omega) (by show _<((2:Nat):Int);omega) (by
     intro x hx
     simp only[Yk,List.not_mem_nil,or_false]at hx
     rcases hx with rfl|rfl<;>exact⟨_,rfl⟩)
    have g:=(Ze.refl Hx).upd (o:=.lst [V.int (0+(i:Int)),V.int (-(0+(i:Int)))]) hu
    exact⟨_,SqL.of Zc,_,hv,app k4 y _ (g _ _ hqx) (Px.same g) (ex.same g)⟩
   exact ZD (λk7=>⟨ZP hqx,p,_,rfl,by decide,by decide,Px,λd H2 d0 d1 P2 e2=>⟨d,rfl,cp59,ZmR (by omega) (by omega),app k4 _ H2 (e2 _ _ nqp hqx) P2 (ex.trans e2)⟩⟩) λk7=>⟨ZP hqx,p,_,rfl,by decide,by decide,Px,λd H2 d0 d1 P2 e2=>⟨d,rfl,app k4 _ H2 (e2 _ _ nqp hqx) P2 (ex.trans e2)⟩⟩
  ·rintro σ Hx ⟨ns,v6,rfl,hl,hin,hqx,Px,ex⟩
   exact hR _ _ ⟨ns,v6,rfl,by omega,(λz j hj=>hin z j (by omega)),hqx,Px,ex⟩
 clear P1 e1 hq1 H1
 rintro σ H1 ⟨ns,v6,rfl,hl,hin,hq1,P1,e1⟩
 refine ZY (fun σ Hx=>∃(q:Addr) (ns:List Int) (v6:Option V),σ=[some (.ref p),some (.int most),some (.int many),some (.int kd),some (.int tn),some (.ref q),v6]/\H q=none/\(ns.length:Int)=many/\Hx q=some (.lst (ns.map V.int))/\ZG Hx p/\Exc p H Hx) (λR hR=>?_) ?_
 ·walk_at "rd"
  refine ZD (λk3=>⟨by omega,by omega,?_⟩) λk3=>hR _ _ ⟨q,ns,v6,rfl,zq,hl,hq1,P1,e1⟩
  refine comp_map (n:=many.toNat) (λj=>V.int ((ns.idxOf ((j:Nat):Int):Nat):Int)) (Yt (show _<=1000 by omega) (by decide)) (λj Hx s hj=>hj) (λHx s=>Yc _) ?_ ?_
  ·rintro j x Hx Hy hj s ⟨rfl,rfl⟩
   have e0:((0:Int)+(j:Int))=(j:Int):=by omega
   rw[e0]
   walk_at "rd"
   exact⟨ZP (s _ _ hq1),_,SqL.of (s _ _ hq1),by omega,hin k3 j (by omega),CW.next hj rfl s⟩
  ·intro l Hx s hlx
   have em:(List.range many.toNat).map (λj=>V.int ((ns.idxOf ((j:Nat):Int):Nat):Int))=((List.range many.toNat).map λj=>((ns.idxOf ((j:Nat):Int):Nat):Int)).map V.int:=by rw[YU];rfl
   rw[em]
   exact hR _ _ ⟨l,_,v6,rfl,e1.free ((P1.same s).ne hlx) (s.free hlx),by simp;omega,Zc,(P1.same s).upd hlx,(e1.same s).same ((Ze.refl Hx).upd hlx)⟩
 rintro σ H2 ⟨q2,ms,v6',rfl,zq2,hl2,hq2,P2,e2⟩
 walk_at "rd"
 exact k1 q2 ms _ zq2 (by omega) hq2 P2 e2
theorem ZiN {f:Addr}{fd:FuncData} (F:Fun K "_law_elder" "_law_elder" ZaG f fd) (T:Txt K mg):FnOk P w K mg base (CXE P w) 1 f fd ["row","place"] (Zc3 K mg):=by
 refine F.okX Zc6 (λvs H Q E h=>?_) (λcdv A outer s H vs Q E hr h=>?_)
 ·obtain⟨r,ns,i,rfl,_⟩:=h;rfl
 obtain⟨r,ns,i,rfl,hr1,hn,hi,k1⟩:=h
 refine⟨_,(Zd (Zaj (i:=2) ["other","row","place"] [none,some 0,some 1] Zc6.nd rfl (Or.inl rfl) rfl rfl rfl (ZF rfl T.b_range (Za (pv 1) Zb)) (λ_ _ _ _ _=>(Zl (i:=0) (show(["other","row","place"]:List Str).Nodup from by decide +kernel) rfl (Or.inl rfl))) (λ_ _ _ _ _=>Zai (Zj op_le (Zm (Zgb (K:=K) rfl) (pv 1) (pv 0) (λ_ _=>rfl)) (Zm (Zgb (K:=K) rfl) (pv 1) (pv 2) (λ_ _=>rfl)) (Zn _))) (λ_ _ _ _ _=>(pv 0)) Zr)
   (Zd (Zaj (i:=3) ["other","row","place"] [none,some 0,some 1] Zc6.nd rfl (Or.inl rfl) rfl rfl rfl (Zfe rfl T.b_range (Za (Zw Zbj (pv 1) Zf) (Za (Zk (Zp (K:=K) rfl) rfl T.b_len YA (Za (pv 0) Zb)) Zb))) (λ_ _ _ _ _=>(Zl (i:=0) (show(["other","row","place"]:List Str).Nodup from by decide +kernel) rfl (Or.inl rfl))) (λ_ _ _ _ _=>Zai (Zj Zf3 (Zm (Zgb (K:=K) rfl) (pv 1) (pv 0) (λ_ _=>rfl)) (Zm (Zgb (K:=K) rfl) (pv 1) (pv 2) (λ_ _=>rfl)) (Zn _))) (λ_ _ _ _ _=>(pv 0)) Zr)
   (Zd (Z2 (PW.pt (Zi6 (Zj (ZhS (K:=K) rfl hr) (pv 2) (ZM Zb) (Zn _)) (ZhK (Zj (ZhS (K:=K) rfl hr) (pv 3) (ZM Zb) (Zn _))))) (Zg (Zz (Zm Zo (Zw ZlR (Zw ZlR (Zf6 Zhz (pv 2) (Zf5 (Zfr ZcU Zf)) ZjI) (Zf6 Zhz (pv 3) ZjI (Zf5 Zf))) (ZM (Za (Zfr ZcU Zf) Zb))) Zf (λ_ _=>rfl)))) ZH)
   (Zd (Z2 (Zj Zeq (Zm (Zgb (K:=K) rfl) (pv 0) (Zm Zo (pv 2) (Zfr ZcU Zf) (λ_ _=>rfl)) (λ_ _=>rfl)) (Zm (Zgb (K:=K) rfl) (pv 0) (Zm Zo (pv 3) Zf (λ_ _=>rfl)) (λ_ _=>rfl)) (Zn _)) (Zg (Zz (Zm Zo (pv 2) (Zfr ZcU Zf) (λ_ _=>rfl)))) ZH)
   (Zg (Zz (Zm Zo (pv 3) Zf (λ_ _=>rfl)))))))),?_⟩
 have eL:(ns.map V.int).length=ns.length:=Yf ..
 have EE:=ZeD (f:=nth ns) hi
 generalize hA:((List.range i).filter λq=>decide (nth ns q<=nth ns i))=A at EE
 generalize hB:((List.range (ns.length-(i+1))).filter λj=>decide (nth ns (i+1+j)<nth ns i))=B at EE
 have hqa:∀q∈A,q<ns.length:=λq hq=>by
  rw[<-hA]at hq
  have:=Yq.mp (YG.mp hq).1;omega
 have hqb:∀j∈B,i+1+j<ns.length:=λj hq=>by
  rw[<-hB]at hq
  have:=Yq.mp (YG.mp hq).1;omega
 refine ZY (fun σ Hz=>∃a,σ=[some (.ref r),some (.int (i:Int)),some (.ref a),none]/\Ze H Hz/\Hz a=some (.lst (ZC A))) (λR hR=>?_) ?_
 ·walk_at "rd"
  refine⟨by omega,by omega,?_⟩
  have e1:((i:Int)).toNat=i:=by omega
  rw[e1]
  refine Zan (n:=i) (λq=>decide (nth ns q<=nth ns i)) (λq=>V.int ((q:Nat):Int)) (Yt (show _<=1000 by omega) (by decide)) (λj Hx s hj=>hj) (λHx s=>Yc _) ?_ ?_
  ·rintro j x Hx Hz hj s ⟨rfl,rfl⟩
   have e0:((0:Int)+(j:Int))=(j:Int):=by omega
   rw[e0]
   walk_at "rd"
   exact⟨_,s.q hr1,_,Z4 (by omega),_,s.q hr1,_,Z4 (by omega),_,rfl,_,rfl,ZD (λh=>CF.take hj (Yz h) rfl s) (λh=>CF.skip hj (YC h) s)⟩
  ·intro l1 H1 s1 hl1
   exact hR _ _ ⟨l1,rfl,s1.Zay hl1,by rw[Zc,hA];rfl⟩
 rintro σ Hx ⟨a,rfl,sx,hxa⟩
 refine ZY (fun σ Hy=>∃b,σ=[some (.ref r),some (.int (i:Int)),some (.ref a),some (.ref b)]/\Ze H Hy/\Hy a=some (.lst (ZC A))/\Hy b=some (.lst (ZC (B.map λj=>i+1+j)))) (λR hR=>?_) ?_
 ·walk_at "rd"
  refine⟨_,(sx.q hr1),by omega,by omega,by omega,by rw[eL];omega,?_⟩
  have e1:((((ns.map V.int).length:Nat):Int)-((i:Int)+1)).toNat=ns.length-(i+1):=by rw[eL];omega
  rw[e1]
  refine Zan (n:=ns.length-(i+1)) (λq=>decide (nth ns (i+1+q)<nth ns i)) (λq=>V.int ((i+1+q:Nat):Int)) (Yt (show _<=1000 by omega) (by decide)) (λj Hx s hj=>hj) (λHx s=>Yc _) ?_ ?_
  ·rintro j x Hy Hz hj s ⟨rfl,rfl⟩
   have e0:((i:Int)+1+(j:Int))=((i+1+j:Nat):Int):=by omega
   rw[e0]
   walk_at "rd"
   exact⟨_,(sx.trans s).q hr1,_,Z4 (by omega),_,(sx.trans s).q hr1,_,Z4 (by omega),_,rfl,_,rfl,ZD (λh=>CF.take hj (Yz h) rfl s) (λh=>CF.skip hj (YC h) s)⟩
  ·intro l1 H1 s1 hl1
   exact hR _ _ ⟨l1,rfl,(sx.trans s1).Zay hl1,(s1.Zay hl1) _ _ hxa,by rw[Zc,hB];simp[ZC,Function.comp_def]⟩
 clear sx hxa Hx
 rintro σ Hx ⟨b,rfl,sx,hxa,hxb⟩
 have ka:Zfo (ZC A) (some (-1)) none=ZC (A.drop (A.length-1)):=by rw[cut_m1,ZT];simp[ZC,List.map_drop]
 have kb:Zfo (ZC (B.map λj=>i+1+j)) none (some 1)=ZC ((B.take 1).map λj=>i+1+j):=by rw[Zq3];simp[ZC,List.map_take]
 have lA:A.length<=1000:=by rw[<-hA];exact Ym (Y3 _ _) (by simp;omega)
 refine ZY (fun σ Hy=>σ=[some (.ref r),some (.int (i:Int)),some (.ref a),some (.ref b)]/\Ze Hx Hy/\A≠[]/\B≠[]) (λR hR=>?_) ?_
 ·refine ifR (λH1=>Ze Hx H1/\(A=[]\/B=[])) (λH1=>Ze Hx H1/\A≠[]/\B≠[]) ?_ ?_ ?_
  ·rintro H1 ⟨s1,hc⟩
   have key:∃e:Int,atI (ZC (A.drop (A.length-1))++ZC ((B.take 1).map λj=>i+1+j)++[V.int (-1)]) 0=some (V.int e)/\Zy (nth ns) ns.length i e:=by
    rcases hc with rfl|rfl
    ·cases B with
     |nil=>exact⟨-1,rfl,by simpa using EE⟩
     |cons j B'=>exact⟨((i+1+j:Nat):Int),rfl,by simpa using EE⟩
    ·rcases snoc_cases A with rfl|⟨ys,y,rfl⟩
     ·exact⟨-1,rfl,by simpa using EE⟩
     ·refine⟨(y:Int),?_,by simpa using EE⟩
      have:(ys++[y]).drop ((ys++[y]).length-1)=[y]:=by simp
      rw[this];rfl
   obtain⟨e,he,hE⟩:=key
   have m1:=s1 _ _ hxa
   have m2:=s1 _ _ hxb
   walk_at "rd"
   refine⟨_,SqL.of m1,λc1 z1=>?_⟩
   rw[ka]
   have u1:=(Ze.refl H1).upd (o:=.lst (ZC (A.drop (A.length-1)))) z1
   refine⟨_,SqL.of (u1 _ _ m2),λc2 z2=>?_⟩
   rw[kb]
   have u2:=(Ze.refl _).upd (o:=.lst (ZC ((B.take 1).map λj=>i+1+j))) z2
   refine⟨_,u2 _ _ Zc,_,Zc,Ym (show _<=1001 by rw[ZT,ZT];simp;omega) (by decide),λc3 z3=>⟨by decide,λc4 z4=>?_⟩⟩
   have u4:=(Ze.refl _).upd (o:=.lst [V.int (-1)]) z4
   refine⟨_,u4 _ _ Zc,_,Zc,Ym (show _<=1003 by rw[YH,ZT,ZT];simp;omega) (by decide),λc5 z5=>⟨_,SqL.of Zc,_,he,k1 e _ hE (((((((sx.trans s1).trans u1).trans u2).Zay z3).trans u4).Zay z5))⟩⟩
  ·rintro H1 ⟨s1,hc⟩
   walk_at "rd"
   exact hR _ _ ⟨rfl,s1,hc⟩
  ·intro B0 hT hU
   walk_at "rd"
   refine⟨Yv _,λc hc=>?_⟩
   have u1:=(Ze.refl Hx).upd (o:=.lst []) hc
   refine⟨_,Zm7 (u1 _ _ hxa) Zc,?_⟩
   by_cases zA:A=[]
   ·exact ZD (λ_=>hT _ ⟨u1,.inl zA⟩) λz=>absurd (Yz zA) z
   refine ZD (λz=>absurd (YV z) zA) λ_=>⟨Yv _,λd hd=>?_⟩
   have u2:=u1.Zay (o:=.lst []) hd
   refine⟨_,Zm7 (u2 _ _ hxb) Zc,?_⟩
   by_cases zB:B=[]
   ·have:decide (B.map (λj=>i+1+j)=[])=true:=Yz (by rw[zB];rfl)
    rw[this];exact hT _ ⟨u2,.inr zB⟩
   ·have:decide (B.map (λj=>i+1+j)=[])=false:=YC (by simpa using zB)
    rw[this];exact hU _ ⟨u2,zA,zB⟩
 rintro σ Hy ⟨rfl,sy,nA,nB⟩
 replace hxa:=sy _ _ hxa
 replace hxb:=sy _ _ hxb
 replace sx:=sx.trans sy
 rcases snoc_cases A with rfl|⟨ys,y,rfl⟩
 ·exact absurd rfl nA
 cases B with
 |nil=>exact absurd rfl nB
 |cons j B' =>
  have hy:y<ns.length:=hqa y (by simp)
  have hj:i+1+j<ns.length:=hqb j (by simp)
  have el:atI (ZC (ys++[y])) (-1)=some (V.int (y:Int)):=by rw[Zdy];exact ZoF _ _
  have ej:atI (ZC ((j::B').map λj=>i+1+j)) 0=some (V.int ((i+1+j:Nat):Int)):=Zgc (j:=0) rfl
  have eg:(ys++[y]).getLast?=some y:=by simp
  rw[eg]at EE
  walk_at "rd"
  refine⟨_,SqL.of hxa,_,el,_,_,rfl,sx.q hr1,_,Z4 hy,_,SqL.of hxb,_,ej,_,_,rfl,sx.q hr1,_,Z4 hj,_,rfl,_,rfl,ZD (λz=>⟨_,SqL.of hxa,_,el,k1 _ _ ?_ sx⟩) λz=>⟨_,SqL.of hxb,_,ej,k1 _ _ ?_ sx⟩⟩
  ·simp only[List.head?_cons,Yd (show ¬ nth ns y<=nth ns (i+1+j) by omega)]at EE
   exact EE
  ·simp only[List.head?_cons,Ye (show nth ns y<=nth ns (i+1+j) by omega)]at EE
   exact EE
theorem Zki {f:Addr}{fd:FuncData} (F:Fun K "_law_tree" "_law_tree" ZaW f fd) (ZdX:Callee P w K mg base "_law_elder" 1 ["row","place"] (Zc3 K mg)) (T:Txt K mg):FnOk P w K mg base (CXE P w) 2 f fd ["row"] (Za4 K mg):=by
 refine F.okX Zkf (λvs H Q E h=>?_) (λcdv A outer s H vs Q E hr h=>?_)
 ·obtain⟨r,ns,rfl,_⟩:=h;rfl
 obtain⟨r,ns,rfl,hr0,hn,k1⟩:=h
 refine⟨_,(Zg (Zz (Zcd (ZgI (K:=K) rfl) rfl T.b_tuple Zf9 (Za (ZW ["place","row"] [none,some 0] rfl rfl rfl (ZF rfl T.b_range (Za (Zk (Zp (K:=K) rfl) rfl T.b_len YA (Za (pv 0) Zb)) Zb)) (λ_ _ _ _ _=>(Zl (i:=0) (show(["place","row"]:List Str).Nodup from by decide +kernel) rfl (Or.inl rfl))) (λ_ _ _ _ _=>ZV) (λ_ _ _ _ _=>(Zi ZdX (hr.mono (by decide)) rfl ZA (Za (pv 1) (Za (pv 0) Zb)))) Zr) Zb)))),?_⟩
 walk_at "rd"
 have eL:(ns.map V.int).length=ns.length:=Yf ..
 refine⟨_,hr0,by omega,by omega,?_⟩
 have e1:(((ns.map V.int).length:Nat):Int).toNat=ns.length:=by rw[eL];omega
 rw[e1]
 refine Za0 (n:=ns.length) (λi acc Hx=>∃es:List Int,acc=es.map V.int/\es.length=i/\(∀p,p<i->Zy (nth ns) ns.length p (es.getD p 0))/\Ze H Hx) (Yt (show _<=1000 by omega) (by decide)) ⟨[],rfl,rfl,(λp hp=>absurd hp (by omega)),Ze.refl _⟩ (λi acc Hx _ hi=>hi) (λacc Hx _=>Yc _) ?_ ?_
 ·rintro i x acc Hx Hy hi hla ⟨es,rfl,hl,hE,sx⟩ ⟨rfl,rfl⟩
  walk_at "rd"
  refine⟨r,ns,i,by rw[Int.zero_add],sx.q hr0,hn,hi,λe H2 he s2=>CA.take hi hla ⟨es++[e],by simp,by simp[hl],λp hp=>?_,sx.trans s2⟩⟩
  by_cases z:p<es.length
  ·rw[show(es++[e]).getD p 0=es.getD p 0 by simp[Yi,YL z]]
   exact hE p (by omega)
  ·have ep:p=es.length:=by omega
   rw[show(es++[e]).getD p 0=e by rw[ep];simp[Yi],ep,hl]
   exact he
 ·rintro l acc Hx ⟨es,rfl,hl,hE,sx⟩ _ hlx
  refine⟨l,rfl,_,.inl ⟨SqL.of Zc,λt ht=>k1 t es _ ⟨hl,hE⟩ ((sx.Zay hlx).Zay ht) Zc⟩⟩
theorem Zn4 {f:Addr}{fd:FuncData} (F:Fun K "settle" "settle" ZdE f fd) (T:Txt K mg):FnOk P w K mg base (CXE P w) 1 f fd ["elders","spine","place","keep"] (ZgR K mg):=by
 refine F.okX Zn3 (λvs H Q E h=>?_) (λcdv A outer s H vs Q E hr h=>?_)
 ·obtain⟨el,sp,es,A,B,i,rfl,_⟩:=h;rfl
 obtain⟨el,sp,es,A',B,i,rfl,hel,hsp,hne,hi,hq,hlen,k1⟩:=h
 refine⟨_,(Zd (Z2 (Zj Zf3 (pv 3) (Zk (Zp (K:=K) rfl) rfl T.b_len YA (Za (pv 1) Zb)) (Zn _)) (Zg (ZcT (pv 2) (ZfD (pv 0) (Zm Zo (pv 1) (pv 3) (λ_ _=>rfl)) set_list (λ_=>rfl)))) ZH)
   (Zd (Z2 (Zj Zeq (pv 3) Zf (Zn _)) (Zg (ZcT (Zm Zo (pv 1) (Zw ZgF (pv 3) Zf) (λ_ _=>rfl)) (ZfD (pv 0) (pv 2) set_list (λ_=>rfl)))) ZH)
   (Zd (ZlZ (pv 1) (pv 3))
   (Zg (Z1 (ZbW PySem.F.plainAttrs_list PySem.F.slot_list_append PySem.F.type_list_append ZZ (pv 1) (Za (pv 2) Zb))))))),?_⟩
 walk_at "rd"
 have hb1:(ZC A').length<sizeLine:=by
  rw[ZT]
  rw[YH]at hlen
  exact Yt (show _<=1000 by omega) (by decide)
 have etk:List.take A'.length (ZC (A'++B))=ZC A':=by
  rw[Zdy]
  have:A'.length=(ZC A').length:=(ZT A').symm
  rw[this,List.take_left]
 have hle:A'.length<=(ZC (A'++B)).length:=by rw[ZT,YH];omega
 have esn:ZC A'++[V.int (i:Nat)]=ZC (A'++[i]):=by rw[Zdy];rfl
 refine⟨_,.inl (SqL.of hsp),?_⟩
 rw[ZT,YH]
 -- the end: behind the two stores
 have fin:∀(es1:List Int) (Hx:Hp),(∀b o,b≠el->b≠sp->H b=some o->Hx b=some o)->Hx el=some (.lst (es1.map V.int))->Hx sp=some (.lst (ZC (A'++B)))->es1=Zfq es A' B i ->
   ∃(xs:List V) (k:Nat),(A'.length:Int)=(k:Int)/\Hx sp=some (HO.lst xs)/\k<=xs.length/\tyV K "list" (V.ref sp) (upd Hx sp (HO.lst (List.take k xs)))/\∃x,upd Hx sp (HO.lst (List.take k xs)) sp=some (HO.lst x)/\x.length<sizeLine/\Q V.non (upd (upd Hx sp (HO.lst (List.take k xs))) sp (HO.lst (x++[V.int (i:Nat)]))):=by
  intro es1 Hx h1 h2 h3 h4
  refine⟨_,A'.length,rfl,h3,hle,ZP Zc,_,Zc,by rw[etk];exact hb1,k1 _ (λb o n1 n2 z=>by rw[Zh n2,Zh n2];exact h1 b o n1 n2 z) (by rw[Zh hne,Zh hne,h2,h4]) (by rw[Zc,etk,esn])⟩
 -- elders[place]=spine[keep-1]
 have mid:∀(es1:List Int) (Hx:Hp),(∀b o,b≠el->b≠sp->H b=some o->Hx b=some o)->Hx el=some (.lst (es1.map V.int))->es1.length=es.length->Hx sp=some (.lst (ZC (A'++B)))->∀q,A'.getLast?=some q->es1.set i (q:Int)=Zfq es A' B i ->
   ∃x,SqL K Hx sp x/\∃x_1,atI x ((A'.length:Int)-1)=some x_1/\∃x,Hx el=some (HO.lst x)/\∃x_2,ixN x.length (i:Int)=some x_2/\∃(xs:List V) (k:Nat),(A'.length:Int)=(k:Int)/\upd Hx el (HO.lst (x.set x_2 x_1)) sp=some (HO.lst xs)/\k<=xs.length/\tyV K "list" (V.ref sp) (upd (upd Hx el (HO.lst (x.set x_2 x_1))) sp (HO.lst (List.take k xs))) /\
    ∃x_3,upd (upd Hx el (HO.lst (x.set x_2 x_1))) sp (HO.lst (List.take k xs)) sp=some (HO.lst x_3)/\x_3.length<sizeLine/\Q V.non (upd (upd (upd Hx el (HO.lst (x.set x_2 x_1))) sp (HO.lst (List.take k xs))) sp (HO.lst (x_3++[V.int (i:Nat)]))):=by
  intro es1 Hx h1 h2 hl1 h3 q hq h4
  have hpos:0<A'.length:=by
   cases A' with
   |nil=>cases hq
   |cons _ _=>simp
  have hat:(A'++B)[A'.length-1]?=some q:=by
   rw[YL (by omega)]
   rw[List.getLast?_eq_getElem?]at hq;exact hq
  have ei:((A'.length:Int)-1)=((A'.length-1:Nat):Int):=by omega
  refine⟨_,SqL.of h3,_,by rw[ei];exact Zgc hat,_,h2,i,by rw[Yf,hl1];exact Zfg hi,?_⟩
  have em:(es1.map V.int).set i (V.int (q:Nat))=(es1.set i (q:Int)).map V.int:=by rw[List.map_set]
  rw[em]
  exact fin _ _ (λb o n1 n2 z=>by rw[Zh n1];exact h1 b o n1 n2 z) Zc (by rw[Zh hne.symm];exact h3) h4
 cases B with
 |nil =>
  rw[Yd (by simp)]
  cases hq:A'.getLast? with
  |none =>
   have:A'=[]:=List.getLast?_eq_none_iff.mp hq
   rw[Yd (by rw[this];simp)]
   exact fin es H (λb o _ _ z=>z) hel hsp (by unfold Zfq;rw[hq];rfl)
  |some q =>
   have:A'≠[]:=λz=>by rw[z]at hq;cases hq
   rw[Ye (by have:=List.length_pos_iff.mpr this;omega)]
   exact mid es H (λb o _ _ z=>z) hel rfl hsp q hq (by unfold Zfq;rw[hq];rfl)
 |cons b Br =>
  rw[Ye (by simp;omega)]
  have hat:(A'++b::Br)[A'.length]?=some b:=by rw[YK (Yc _)];simp
  have hbn:b<es.length:=hq b (by simp)
  refine⟨_,SqL.of hsp,_,Zgc hat,_,_,rfl,hel,b,by rw[Yf];exact Zfg hbn,?_⟩
  have em:(es.map V.int).set b (V.int (i:Nat))=(es.set b (i:Int)).map V.int:=by rw[List.map_set]
  rw[em]
  cases hq2:A'.getLast? with
  |none =>
   have:A'=[]:=List.getLast?_eq_none_iff.mp hq2
   rw[Yd (by rw[this];simp)]
   exact fin (es.set b i) _ (λc o n1 n2 z=>by rw[Zh n1];exact z) Zc (by rw[Zh hne.symm];exact hsp) (by unfold Zfq;rw[hq2];rfl)
  |some q =>
   have:A'≠[]:=λz=>by rw[z]at hq2;cases hq2
   rw[Ye (by have:=List.length_pos_iff.mpr this;omega)]
   exact mid (es.set b i) _ (λc o n1 n2 z=>by rw[Zh n1];exact z) Zc (by simp) (by rw[Zh hne.symm];exact hsp) q hq2 (by unfold Zfq;rw[hq2];rfl)
theorem Zmj {f:Addr}{fd:FuncData} (F:Fun K "tree_of" "tree_of" Zce f fd) (Zig:Callee P w K mg base "settle" 1 ["elders","spine","place","keep"] (ZgR K mg)) (T:Txt K mg):FnOk P w K mg base (CXE P w) 2 f fd ["row"] (ZfM K mg):=by
 refine F.okX Zbq (λvs H Q E h=>?_) (λcdv A outer s H vs Q E hr h=>?_)
 ·obtain⟨r,ns,rfl,_⟩:=h;rfl
 obtain⟨r,ns,rfl,hS,hn,k1⟩:=h
 refine⟨_,(Zd (Zq (i:=1) Zbq.nd rfl (Or.inl rfl) (Zw op_rep (ZM (Za (Zfr ZcU Zf) Zb)) (Zk (Zp (K:=K) rfl) rfl T.b_len YA (Za (pv 0) Zb))))
   (Zd (Zq (i:=2) Zbq.nd rfl (Or.inl rfl) (ZM Zb))
   (Zd (ZaS (ZbS PassesOwn.never rfl (ZF rfl T.b_range (Za (Zk (Zp (K:=K) rfl) rfl T.b_len YA (Za (pv 0) Zb)) Zb)) (Zl (i:=3) Zbq.nd rfl (Or.inl rfl)) (Zd (Zq (i:=4) Zbq.nd rfl (Or.inl rfl) (Zk (Zp (K:=K) rfl) rfl T.b_len YA (Za (pv 2) Zb)))
   (Zd (ZaS (ZhM PassesOwn.never (PW.pt (ZdK (Zj Zeq (pv 4) Zf (Zn _)) (ZdJ (Zj Zeq (Zm (Zgb (K:=K) rfl) (pv 0) (Zm Zo (pv 2) (Zw ZgF (pv 4) Zf) (λ_ _=>rfl)) (λ_ _=>rfl)) (Zm (Zgb (K:=K) rfl) (pv 0) (pv 3) (λ_ _=>rfl)) (Zn _))))) (Zg (ps_aug (i:=4) Zbq.nd rfl (Or.inl rfl) Zf ip_sub))))
   (Zg (Z1 (Zi Zig (hr.mono (by decide)) rfl ZA (Za (pv 1) (Za (pv 2) (Za (pv 3) (Za (pv 4) Zb)))))))))))
   (Zg (Zz (Zcd (ZgI (K:=K) rfl) rfl T.b_tuple Zf9 (Za (pv 1) Zb))))))),?_⟩
 walk_at "rd"
 have eL:(ns.map V.int).length=ns.length:=Yf ..
 refine⟨by decide,λp hp=>⟨_,((Ze.refl H).upd hp).q hS,_,Zc,by omega,by rw[eL];omega,?_,λel hel=>⟨Yv _,λsp hsp=>?_⟩⟩⟩
 ·exact Ym (show _<=1000 by simp;omega) (by decide)
 have s0:Ze H (upd (upd (upd H p (.lst [V.int (-1)])) el (.lst (List.replicate (((ns.map V.int).length:Nat):Int).toNat [V.int (-1)]).flatten)) sp (.lst [])):=(((Ze.refl H).upd hp).Zay hel).Zay hsp
 refine⟨_,s0.q hS,by omega,by rw[eL];omega,?_⟩
 have en:(((ns.map V.int).length:Nat):Int).toNat=ns.length:=by rw[eL];omega
 have hel0:(upd (upd (upd H p (.lst [V.int (-1)])) el (.lst (List.replicate (((ns.map V.int).length:Nat):Int).toNat [V.int (-1)]).flatten)) sp (.lst [])) el=some (.lst ((List.replicate ns.length (-1:Int)).map V.int)):=by
  have:=((Ze.refl _).Zay (o:=.lst []) hsp) el _ Zc
  rw[this,en];simp
 have hsp0:(upd (upd (upd H p (.lst [V.int (-1)])) el (.lst (List.replicate (((ns.map V.int).length:Nat):Int).toNat [V.int (-1)]).flatten)) sp (.lst [])) sp=some (.lst (ZC [])):=Zc
 have nes:el≠sp:=λz=>by
  subst z
  rw[Zc]at hsp;cases hsp
 have zel:H el=none:=((Ze.refl H).upd hp).free hel
 have zsp:H sp=none:=(((Ze.refl H).upd hp).Zay hel).free hsp
 rw[en]at hel0 hsp0 s0⊢
 generalize (upd (upd (upd H p (.lst [V.int (-1)])) el (.lst (List.replicate ns.length [V.int (-1)]).flatten)) sp (.lst []))=H0 at s0 hel0 hsp0⊢
 refine Zbi (λi σ Hx=>∃(es:List Int) (S:List Nat) (v3 v4:Option V),σ=[some (.ref r),some (.ref el),some (.ref sp),v3,v4]/\Ze H Hx/\Hx el=some (.lst (es.map V.int))/\Hx sp=some (.lst (ZC S))/\es.length=ns.length/\ZhU (nth ns) i S/\(∀p e,p<i->e=es.getD p 0->Zy (nth ns) i p e)/\∀p,i<=p->p<ns.length->es.getD p 0=-1)
  ⟨List.replicate ns.length (-1),[],none,none,rfl,s0,hel0,hsp0,by simp,⟨List.Pairwise.nil,λq=>by simp⟩,λp e hp=>by omega,λp _ hp=>by simp[Yi,hp]⟩ ?_ ?_
 ·rintro i σ Hx hi ⟨es,S,v3,v4,rfl,sx,hxe,hxs,hesl,hS2,hE,hE2⟩
  walk_at "rd"
  have hin:i<ns.length:=by omega
  have hSl:S.length<=1000:=by
   rcases ZoR S i 0 hS2.1 (λq hq=>⟨Yv _,((hS2.2 q).mp hq).1⟩)with z|z
   ·omega
   ·rw[z];simp
  refine⟨_,.inl (SqL.of hxs),?_⟩
  rw[ZT]
  refine Zm3 S.length (λj σ Hy=>∃A B,S=A++B/\B.length=j/\(∀q∈B,nth ns i<nth ns q)/\σ=[some (.ref r),some (.ref el),some (.ref sp),some (.int (0+(i:Int))),some (.int (A.length:Nat))]/\Hy=Hx) ⟨S,[],by simp,rfl,(λq hq=>absurd hq (by simp)),rfl,rfl⟩ ?_
  rintro j σ Hy hj ⟨A,B,hAB,hBl,hBg,rfl,rfl⟩
  walk_at "rd"
  have hmem:∀q,q∈A++B->q<i:=λq hq=>((hS2.2 q).mp (by rw[hAB];exact hq)).1
  have hix:(0+(i:Int))=(i:Int):=by omega
  rw[hix]
  by_cases hA0:A=[]
  case' pos =>
   rw[Yd (by rw[hA0];simp)]
   have hA:∀q∈A,nth ns q<=nth ns i:=λq hq=>absurd hq (by rw[hA0];simp)
  case' neg =>
   obtain⟨q,Al,rfl⟩:∃q Al,A=Al++[q]:=⟨A.getLast hA0,A.dropLast,(List.dropLast_concat_getLast hA0).symm⟩
   have hal:(Al++[q]).length=Al.length+1:=by simp
   rw[Ye (by rw[hal];omega)]
   have eiA:(((Al++[q]).length:Nat):Int)-1=(Al.length:Int):=by rw[hal];omega
   have hat:S[Al.length]?=some q:=by
    rw[hAB,Y6,YK (Yc _)];simp
   have hqi:q<i:=hmem q (by simp)
   refine⟨_,SqL.of hxs,_,by rw[eiA];exact Zgc hat,_,_,rfl,sx.q hS,_,Z4 (by omega),_,sx.q hS,_,Z4 hin,_,rfl,_,rfl,ZD (λhlt=>?_) (λhge=>?_)⟩
   ·have hj2:j+1<=S.length:=by rw[hAB,YH,hal];omega
    refine⟨_,WI.next,hj2,Al,q::B,by rw[hAB];simp,by simp[hBl],λx hx=>?_,by rw[eiA],rfl⟩
    rcases Yk.mp hx with z|z
    ·rw[z];exact hlt
    ·exact hBg x z
   have hA:∀x∈Al++[q],nth ns x<=nth ns i:=λx hx=>by
    by_cases z:x=q
    ·rw[z];omega
    ·have hxa:x∈Al:=by
      rcases Yy.mp hx with y|y
      ·exact y
      ·exact absurd (by simpa using y) z
     have hpw:=hS2.1
     rw[hAB]at hpw
     have hxq:x<q:=(List.pairwise_append.mp (List.pairwise_append.mp hpw).1).2.2 x hxa q (by simp)
     have:=((hS2.2 x).mp (by rw[hAB];exact YM _ hx)).2 q hxq hqi
     omega
   generalize Al++[q]=A at hA hAB hmem hA0⊢
  all_goals
   have SS:=ZhV (f:=nth ns) (i:=i) (A:=A) (B:=B) (by rw[<-hAB];exact hS2) hA hBg
   refine⟨el,sp,es,A,B,i,rfl,hxe,by rw[<-hAB];exact hxs,nes,by omega,λq hq=>by have:=hmem q hq;omega,by rw[<-hAB];exact hSl,λH' q1 q2 q3=>?_⟩
   have hbi:∀b,B.head?=some b->b≠i:=λb hb=>by
    have:=hmem b (Yj _ (List.mem_of_head? hb));omega
   refine⟨λb o z=>q1 b o (Zu z zel) (Zu z zsp) (sx b o z),Zfq es A B i,q2,A++[i],q3,by rw[Zk0];exact hesl,SS.1,λp e hp he=>?_,λp hp1 hp2=>?_⟩
   ·rw[ZhB _ _ _ _ _ (by omega) hbi]at he
    by_cases z:p=i
    ·subst z
     rw[Ye rfl,hE2 p (Yc _) (by omega)]at he
     rw[he];exact SS.2.1
    ·rw[Yd z]at he
     rw[he]
     exact SS.2.2 p _ (by omega) (hE p _ (by omega) rfl)
   ·rw[ZhB _ _ _ _ _ (by omega) hbi,Yd (by omega),Yd (λz=>?_)]
    ·exact hE2 p (by omega) hp2
    ·have:=hmem p (Yj _ (List.mem_of_head? z));omega
 ·rintro σ Hx ⟨es,S,v3,v4,rfl,sx,hxe,hxs,hesl,hS2,hE,hE2⟩
  walk_at "rd"
  exact⟨_,.inl ⟨SqL.of hxe,λt ht=>k1 t es _ ⟨hesl,λp hp=>hE p _ hp rfl⟩ (sx.Zay ht) Zc⟩⟩
theorem Zn5 {f:Addr}{fd:FuncData} (F:Fun K "way_up" "way_up" ZdF f fd) (T:Txt K mg):FnOk P w K mg base (CXE P w) 1 f fd ["tree","place"] (ZgQ K mg):=by
 refine F.okX Zfi (λvs H Q E h=>?_) (λcdv A outer s H vs Q E hr h=>?_)
 ·obtain⟨t,T,p,rfl,_⟩:=h;rfl
 obtain⟨t,T',p,rfl,ht,hn,hp,k1⟩:=h
 have hQ:∀Hx,Ze H Hx->(SqL K Hx t (T'.map V.int)\/SqT K Hx t (T'.map V.int)):=λHx sx=>ht.elim (λz=>.inl (sx.seq z)) λz=>.inr (sx.seqT z)
 refine⟨_,(Zd (Zq (i:=2) Zfi.nd rfl (Or.inl rfl) (ZM Zb))
   (Zd (Zq (i:=3) Zfi.nd rfl (Or.inl rfl) (Zm (Zgb (K:=K) rfl) (pv 0) (pv 1) (λ_ _=>rfl)))
   (Zd (ZaS (ZhM PassesOwn.never (PW.pt (ZdK (ZoC op_le Zf3 Zf (pv 3) (Zk (Zp (K:=K) rfl) rfl T.b_len YA (Za (pv 0) Zb))) (ZdJ (Zj Zf3 (Zk (Zp (K:=K) rfl) rfl T.b_len YA (Za (pv 2) Zb)) (Zk (Zp (K:=K) rfl) rfl T.b_len YA (Za (pv 0) Zb)) (Zn _))))) (Zd (Z1 (ZbW PySem.F.plainAttrs_list PySem.F.slot_list_append PySem.F.type_list_append ZZ (pv 2) (Za (pv 3) Zb)))
   (Zg (Zq (i:=3) Zfi.nd rfl (Or.inl rfl) (Zm (Zgb (K:=K) rfl) (pv 0) (pv 3) (λ_ _=>rfl)))))))
   (Zg (Zz (pv 2)))))),?_⟩
 walk_at "rd"
 refine⟨Yv _,λl hl=>⟨_,hQ _ ((Ze.refl H).upd hl),_,Z4 hp,?_⟩⟩
 refine Zm3 T'.length (λj σ Hx=>Ze H Hx/\Hx l=some (.lst (ZC (Z6 T' j (nth T' p))))/\(Z6 T' j (nth T' p)).length=j/\σ=[some (.ref t),some (.int p),some (.ref l),some (.int (ZaM T' j (nth T' p)))]) ⟨(Ze.refl H).upd hl,Zc,rfl,rfl⟩ ?_
 rintro j σ Hx hj ⟨sx,hxl,hjl,rfl⟩
 walk_at "rd"
 have hlen:(ZC (Z6 T' j (nth T' p))).length=j:=by rw[ZT];exact hjl
 have eL:(T'.map V.int).length=T'.length:=Yf ..
 have done:(j=T'.length\/¬ (0<=ZaM T' j (nth T' p)/\ZaM T' j (nth T' p)<T'.length))->Q (.ref l) Hx:=λz=>by
  refine k1 l Hx hl sx ?_
  have:Z6 T' T'.length (nth T' p)=Z6 T' j (nth T' p):=by
   rcases z with z|z
   ·rw[<-z]
   ·exact Zjm T' j _ _ hj hjl z
  rw[hxl];unfold ZnP;rw[this];simp[ZC]
 refine ZD (λh0=>⟨_,hQ _ sx,ZD (λh1=>⟨_,.inl (SqL.of hxl),_,hQ _ sx,ZD (λh2=>?_) λh2=>done (.inl (by rw[hlen,eL]at h2;omega))⟩) λh1=>done (.inr (by rw[eL]at h1;omega))⟩) λh0=>done (.inr (by omega))
 rw[eL]at h1;rw[hlen,eL]at h2
 obtain⟨a1,a2⟩:=Zjl T' j (nth T' p) h0 h1 hjl
 have ei:ZaM T' j (nth T' p)=(((ZaM T' j (nth T' p)).toNat:Nat):Int):=by omega
 refine⟨_,WI.next,ZP hxl,_,hxl,by rw[hlen];exact Yt (show _<=1000 by omega) (by decide),_,hQ _ (sx.upd hl),_,(congrArg (atI _) ei).trans (Z4 (by omega)),by omega,sx.upd hl,?_,?_,?_⟩
 ·rw[Zc,a1,Zdy]
  have:ZC [(ZaM T' j (nth T' p)).toNat]=[V.int (ZaM T' j (nth T' p))]:=by rw[ei];simp[ZC]
  rw[this]
 ·rw[a1];simp[hjl]
 ·rw[a2]
theorem Zet {f:Addr}{fd:FuncData}{dV:Value} (F:FunD K "need_numbers" "need_numbers" Zaa f fd dV) (T:Txt K mg):FnOk P w K mg base (CXE P w) 1 f fd ["row","fewest"] (ZaQ K mg):=by
 refine F.okX Zhq (λvs H Q E h=>?_) (λcdv A outer s H vs Q E hr h=>?_)
 ·obtain⟨r,ns,k,rfl,_⟩:=h;rfl
 obtain⟨r,ns,k,rfl,hS,hn,h0,h1,k1,k2⟩:=h
 refine⟨_,(Zg (Z2 (Zj Zf3 (Zk (Zp (K:=K) rfl) rfl T.b_len YA (Za (pv 0) Zb)) (pv 1) (Zn _)) (Zg (ZhR rfl rfl T.c_Empty T.x_Empty (Za (ZgH (ZdP (by decide) (ZjU (Zk (Zp (K:=K) rfl) rfl T.b_len YA (Za (pv 0) Zb)) (ZdP (by decide) (ZjU (pv 1) (ZdP (by decide) ZlU)))))) Zb) ZjV)) ZH)),?_⟩
 walk_at "rd"
 have eN:(ns.map V.int).length=ns.length:=Yf ..
 exact⟨_,hS,ZD (λz=>⟨_,hS,by omega,by rw[eN];omega,h0,by omega,λy=>⟨by decide,k2 (by rw[eN]at z;exact z)⟩⟩) λz=>k1 (by rw[eN]at z;omega)⟩
theorem Zkj {f:Addr}{fd:FuncData} (F:Fun K "_law_over" "_law_over" ZaX f fd) (T:Txt K mg):FnOk P w K mg base (CXE P w) 1 f fd ["tree","place"] (ZdT K mg):=by
 refine F.okX ZbX (λvs H Q E h=>?_) (λcdv A outer s H vs Q E hr h=>?_)
 ·obtain⟨t,T,p,rfl,_⟩:=h;rfl
 obtain⟨t,T',p,rfl,ht,hn,hp,hen,k1⟩:=h
 refine⟨_,(Zd (Zq (i:=2) ZbX.nd rfl (Or.inl rfl) (ZM Zb))
   (Zd (Zq (i:=3) ZbX.nd rfl (Or.inl rfl) (Zm ZO (pv 0) (pv 1) (λ_ _=>rfl)))
   (Zd (ZaS (ZhM PassesOwn.never (Zj ZkL (pv 3) Zf (Zn _)) (Zd (Z1 (ZbW PySem.F.plainAttrs_list PySem.F.slot_list_append PySem.F.type_list_append ZZ (pv 2) (Za (pv 3) Zb)))
   (Zg (Zq (i:=3) ZbX.nd rfl (Or.inl rfl) (Zm ZO (pv 0) (pv 3) (λ_ _=>rfl)))))))
   (Zg (Zz (pv 2)))))),?_⟩
 walk_at "rd"
 have eL:(T'.map V.int).length=T'.length:=Yf ..
 refine⟨Yv _,λl hl=>⟨_,SqT.of (((Ze.refl H).upd hl) _ _ ht),_,Z4 hp,?_⟩⟩
 have nlt:t≠l:=Zu ht hl
 refine Zq5 (λm σ Hx=>∃(h:Int) (L:List Nat),m+L.length=T'.length/\Zck T' m h/\L++Z6 T' m h=way T' p/\Ze H Hx/\Hx l=some (.lst (ZC L))/\σ=[some (.ref t),some (.int p),some (.ref l),some (.int h)]) T'.length ⟨nth T' p,[],by simp,hen,rfl,(Ze.refl H).upd hl,Zc,rfl⟩ ?_
 rintro m σ Hx ⟨h,L,hm,he,hw,sx,hxl,rfl⟩
 walk_at "rd"
 refine ZD (λz=>?_) λz=>?_
 ·cases m with
  |zero=>exact absurd (show h=-1 from he) (by omega)
  |succ m =>
   rcases he with he|⟨he1,he2,he3⟩
   ·omega
   ·obtain⟨j,rfl⟩:=YZ he1
    have ej:((j:Int)).toNat=j:=by omega
    rw[ej]at he3
    simp only[Z6,Ye (And.intro he1 he2),ej]at hw
    refine⟨_,fun σ' H' z=>z,ZP hxl,_,hxl,Yt (show _<=1000 by rw[ZT];omega) (by decide),_,SqT.of (by rw[Zh nlt];exact sx _ _ ht),_,Z4 (by omega),m,by omega,nth T' j,L++[j],by simp;omega,he3,by rw[<-hw];simp,sx.upd hl,?_,rfl⟩
    rw[Zc,Zdy];rfl
 ·refine k1 l Hx hl sx ?_
  have:Z6 T' m h=[]:=by
   cases m with
   |zero=>rfl
   |succ m=>simp only[Z6];rw[Yd (by omega)]
  rw[this,List.append_nil]at hw
  rw[hxl,Zge,hw];simp[ZC]
theorem ZiO {f:Addr}{fd:FuncData} (F:Fun K "from_below" "from_below" ZaD f fd) (Zih:Callee P w K mg base "way_up" 1 ["tree","place"] (ZgQ K mg)) (L:Zkb K mg "from_below" f) (B:BM mg base) (T:Txt K mg):FnOk P w K mg base (CXE P w) 5 f fd ["tree"] (ZcZ K mg):=by
 refine F.okL L B ZiK (λvs H Q E h=>?_) (λcdv A outer s H vs Q E LI hr h=>?_)
 ·obtain⟨t,T,rfl,_⟩:=h;rfl
 obtain⟨t,T',rfl,ht,hG,hTb,k1⟩:=h
 refine⟨_,(Zg (Zz (ZnZ (Nc:=["place","tree"]) (js:=[none,some 0]) (pn:="place") (q:=ZfK "from_below") (P:=Zev K mg "from_below") rfl hr ⟨rfl,rfl,rfl,rfl,rfl,rfl,rfl,λ_ _ _ _ _ _=>rfl⟩ (λ_ _ _ _ _ _=>(Zk (Zp (K:=K) rfl) rfl T.b_len YA (Za (Zi Zih ((hr.in1.in1.deeper _).mono (by decide)) rfl ZA (Za (pv 1) (Za (pv 0) Zb))) Zb))) rfl T.b_sorted (Za (Zjh rfl T.b_range (Za (Zk (Zp (K:=K) rfl) rfl T.b_len YA (Za (pv 0) Zb)) Zb)) Zb) (ZdM (Zj8 ⟨LI.code,LI.bm,LI.ql⟩ rfl) (ZdM Zg3 ZjG))))),?_⟩
 walk_at "rd"
 have eL:(T'.map V.int).length=T'.length:=Yf ..
 have h40:=hG.1
 refine⟨_,.inr (SqT.of ht),by omega,by omega,λp1 hp1=>?_⟩
 rw[eL]
 have g1:=(Ze.refl H).Zay (o:=.rng 0 (T'.length:Int)) hp1
 have h1:=Zc (H:=H) (a:=p1) (o:=.rng 0 (T'.length:Int))
 generalize upd H p1 (.rng 0 (T'.length:Int))=H4 at g1 h1⊢
 refine⟨g1 _ _ hTb,λf1 H5 zf s5 LO=>⟨_,s5 _ _ h1,by omega,by omega,LO,dpI T',λi H6 i0 i1 s6=>?_,λps l H6 hpm hpw s6 zl hl=>k1 l ps H6 ((g1.trans s5).free zl) ((g1.trans s5).trans s6) hpm hpw hl⟩⟩
 obtain⟨j,rfl⟩:=YZ i0
 have g6:=(g1.trans s5).trans s6
 exact⟨t,T',j,rfl,.inr (SqT.of (g6 _ _ ht)),by omega,by omega,λw H7 zw s7 hw=>⟨w,rfl,_,.inl (SqL.of hw),by rw[Yf];rfl,s7⟩⟩
theorem ZiP {ns:List Int}{i:Nat} (h:i<ns.length):(ns.map V.int)[i]?=some (V.int (nth ns i)):=by
 unfold nth
 rw[YB,Yb h,Yi,Yb h];rfl
noncomputable instance (ts:List Int) (ps:List Pt) (i j:Nat):Decidable (Zal ts ps i j):=by unfold Zal;exact inferInstance
noncomputable instance (ts:List Int) (ps:List Pt) (i j:Nat):Decidable (Zam ts ps i j):=by unfold Zam;exact inferInstance
theorem Zaf.same {H H':Hp}{v:V}{pr:Pt} (h:Zaf H v pr) (s:Ze H H'):Zaf H' v pr:=by
 cases pr with
 |none=>exact h
 |some z=>obtain⟨a,e,h⟩:=h;exact⟨a,e,s _ _ h⟩
theorem ZaN.same {H H':Hp}{a:Addr}{ps:List Pt} (h:ZaN H a ps) (s:Ze H H'):ZaN H' a ps:=by
 obtain⟨vals,h1,h2,h3⟩:=h
 exact⟨vals,s _ _ h1,h2,λi v p e1 e2=>(h3 i v p e1 e2).same s⟩
theorem Zak.same {H H':Hp}{a:Addr}{tab:List (List Pt)} (h:Zak H a tab) (s:Ze H H'):Zak H' a tab:=by
 obtain⟨as,h1,h0,h2,h3⟩:=h
 exact⟨as,s _ _ h1,h0,h2,λi v p e1 e2=>(h3 i v p e1 e2).same s⟩
theorem Zc7 {H:Hp}{vals:List V}{ps:List Pt} (hl:vals.length=ps.length) (h:∀(i:Nat) (v:V) (p:Pt),vals[i]?=some v->ps[i]?=some p->Zaf H v p) {j:Nat} (hj:j<ps.length):∃v,atI vals (j:Int)=some v/\Zaf H v (ps.getD j none):=by
 refine⟨vals[j]'(by omega),ZeC rfl (by omega),h j _ _ (Yb (by omega)) ?_⟩
 rw[Yi,Yb hj];rfl
theorem ZcH {H:Hp}{v:V}{ps:List Pt}{j:Nat} (h:Zaf H v (ps.getD j none)) (hs:(ps.getD j none).isSome=true):∃a,v=.ref a/\H a=some (.tup [.int (ZR ps j).1,.int (ZR ps j).2]):=by
 unfold ZR
 cases e:ps.getD j none with
 |none=>rw[e]at hs;cases hs
 |some z=>rw[e]at h;exact h
theorem ZeM {H:Hp}{v:V}{ps:List Pt}{j:Nat} (h:Zaf H v (ps.getD j none)):v=.non↔(ps.getD j none).isSome=false:=by
 cases e:ps.getD j none with
 |none=>rw[e]at h;exact⟨λ_=>rfl,λ_=>h⟩
 |some z=>rw[e]at h;obtain⟨a,rfl,_⟩:=h;exact⟨λz=>absurd z (λy=>by cases y),λz=>absurd z (by simp)⟩
theorem Znd {ps:List Pt}{ns:List Int}{i:Nat}{P:Nat->Prop} (hm:∀x,x∈ns↔∃j:Nat,x=j/\P j) (hi:i<ns.length):∃j:Nat,nth ns i=j/\P j:=(hm _).mp (by unfold nth;rw[Yi,Yb hi];exact YI hi)
theorem Zmk (P:Nat->Prop) (f:Nat->Int):∀n,(∀j,j<n->¬ P j)\/∃j,(j<n/\P j)/\∀j',j'<n->P j'->f j'<=f j
 |0=>.inl λj h=>absurd h (by omega)
 |n+1=>by
  classical
  rcases Zmk P f n with h|⟨j,hj,h⟩
  ·by_cases c:P n
   ·refine .inr ⟨n,⟨by omega,c⟩,λj' h1 h2=>?_⟩
    by_cases e:j'=n
    ·subst e;exact Int.le_refl _
    ·exact absurd h2 (h j' (by omega))
   ·refine .inl λj' h1 h2=>?_
    by_cases e:j'=n
    ·subst e;exact c h2
    ·exact h j' (by omega) h2
  ·by_cases c:P n/\f j<f n
   ·refine .inr ⟨n,⟨by omega,c.1⟩,λj' h1 h2=>?_⟩
    by_cases e:j'=n
    ·subst e;exact Int.le_refl _
    ·have:=h j' (by omega) h2;omega
   ·refine .inr ⟨j,⟨by omega,hj.2⟩,λj' h1 h2=>?_⟩
    by_cases e:j'=n
    ·subst e
     exact Int.not_lt.mp λz=>c ⟨h2,z⟩
    ·exact h j' (by omega) h2
theorem Zlh (ts:List Int) (tab:List (List Pt)) (i:Nat) (ah:Option Nat):∃r,Zbv ts tab i ah r:=by
 cases ah with
 |none=>exact⟨_,rfl⟩
 |some c =>
  rcases Zmk (Zal ts (tab.getD c []) i) (λj=>(ZR (tab.getD c []) j).1) i with h|⟨j,hj,h⟩
  ·exact⟨none,λj hj=>h j hj.1 hj⟩
  ·exact⟨some _,⟨j,hj.2,rfl⟩,λj' hj'=>h j' hj'.1 hj'⟩
theorem Zkk (ts:List Int) (tab:List (List Pt)) (i:Nat) (bh:Option Nat):∃r,Zc1 ts tab i bh r:=by
 cases bh with
 |none=>exact⟨_,rfl⟩
 |some c =>
  rcases Zmk (Zam ts (tab.getD c []) i) (λj=>-(ZR (tab.getD c []) j).2) ts.length with h|⟨j,hj,h⟩
  ·exact⟨none,λj hj=>h j hj.2.1 hj⟩
  ·exact⟨some _,⟨j,hj.2,rfl⟩,λj' hj'=>by have:=h j' hj'.2.1 hj';omega⟩
theorem ZhF {H:Hp}{as:List Addr}{tab:List (List Pt)} (hl:as.length=tab.length) (h:∀(i:Nat) (a:Addr) (ps:List Pt),as[i]?=some a->tab[i]?=some ps->ZaN H a ps) {c:Nat} (hc:c<tab.length):∃a,atI (as.map V.ref) (c:Int)=some (V.ref a)/\ZaN H a (tab.getD c []):=by
 refine⟨as[c]'(by omega),?_,h c _ _ (Yb (by omega)) ?_⟩
 ·rw[ZeC rfl (by rw[Yf];omega)];simp
 ·rw[Yi,Yb hc];rfl
theorem ZhG {vals:List V}{j:Nat}{w:V} (h:atI vals (j:Int)=some w):vals.getD j .non=w:=by
 by_cases hj:j<vals.length
 ·unfold atI at h
  rw[Zfg hj]at h
  rw[Yi,show vals[j]?=some w from h];rfl
 ·obtain⟨_,_,_,_,_,z⟩:=ZjK h
  omega
noncomputable def Zgl (T:List Int) (j v:Nat):Option Nat->Prop
 |none=>∀c,c<v->c<j->nth T c≠v
 |some c=>c<v/\c<j/\nth T c=v
noncomputable def ZeN (T:List Int) (j v:Nat):Option Nat->Prop
 |none=>∀c,v<c->c<j->nth T c≠v
 |some c=>v<c/\c<j/\nth T c=v
noncomputable def YTo (H:Hp) (as:List Addr) (T:List Int) (j:Nat):Prop:=∀(v:Nat) (a:Addr),as[v]?=some a->∃ah bh,Zgl T j v ah/\ZeN T j v bh/\H a=some (.lst [optN ah,optN bh])
theorem Zgl.skip {T:List Int}{j v:Nat}{o:Option Nat} (h:Zgl T j v o) (n:¬ (j<v/\nth T j=v)):Zgl T (j+1) v o:=by
 cases o with
 |none =>
  intro c c1 c2 e
  by_cases z:c=j
  ·subst z;exact n ⟨c1,e⟩
  ·exact h c c1 (by omega) e
 |some c=>exact⟨h.1,by have:=h.2.1;omega,h.2.2⟩
theorem ZeN.skip {T:List Int}{j v:Nat}{o:Option Nat} (h:ZeN T j v o) (n:¬ (v<j/\nth T j=v)):ZeN T (j+1) v o:=by
 cases o with
 |none =>
  intro c c1 c2 e
  by_cases z:c=j
  ·subst z;exact n ⟨c1,e⟩
  ·exact h c c1 (by omega) e
 |some c=>exact⟨h.1,by have:=h.2.1;omega,h.2.2⟩
theorem YTo.same {H H':Hp}{as:List Addr}{T:List Int}{j:Nat} (h:YTo H as T j) (s:Ze H H'):YTo H' as T j:=λv a e=>by
 obtain⟨ah,bh,h1,h2,h3⟩:=h v a e
 exact⟨ah,bh,h1,h2,s _ _ h3⟩
theorem YTo.skip {H:Hp}{as:List Addr}{T:List Int}{j:Nat} (h:YTo H as T j) (n:∀v:Nat,v<as.length->nth T j≠v):YTo H as T (j+1):=λv a e=>by
 obtain⟨ah,bh,h1,h2,h3⟩:=h v a e
 have hv:=(Yh.mp e).1
 exact⟨ah,bh,h1.skip λz=>n v hv z.2,h2.skip λz=>n v hv z.2,h3⟩
theorem YTo.set {H:Hp}{as:List Addr}{T:List Int}{j q:Nat}{a:Addr}{ah bh:Option Nat} (h:YTo H as T j) (nd:as.Nodup) (ea:as[q]?=some a) (hA:Zgl T (j+1) q ah) (hB:ZeN T (j+1) q bh) (eq:nth T j=q):YTo (upd H a (.lst [optN ah,optN bh])) as T (j+1):=λv b e=>by
 by_cases c:v=q
 ·subst c
  rw[ea]at e;cases e
  exact⟨ah,bh,hA,hB,Zc⟩
 ·have nb:b≠a:=λz=>by
   subst z
   obtain⟨h1,e1⟩:=Yh.mp ea
   obtain⟨h2,e2⟩:=Yh.mp e
   exact c ((List.getElem_inj nd (h₀:=h2) (h₁:=h1)).mp (e2.trans e1.symm))
  obtain⟨ah',bh',h1,h2,h3⟩:=h v b e
  exact⟨ah',bh',h1.skip λz=>c (by have:=z.2;omega),h2.skip λz=>c (by have:=z.2;omega),by rw[Zh nb];exact h3⟩
theorem Zrk {ts:List Int}{tab:List (List Pt)}{i:Nat}{ah:Option Nat} (h:FsOk ts tab i ah []):Zbv ts tab i ah none:=by
 cases ah with
 |none=>exact absurd (show([]:List Int)=[(i:Int)]from h) (by simp)
 |some c=>exact λj hj=>absurd ((h _).mpr ⟨j,hj,rfl⟩) (by simp)
theorem Zrl {ts fs:List Int}{tab:List (List Pt)}{i:Nat}{ah:Option Nat}{m:Int} (h:FsOk ts tab i ah fs) (hm:m∈fs) (hx:∀a∈fs,a<=m):Zbv ts tab i ah (some m):=by
 cases ah with
 |none =>
  have e:fs=[(i:Int)]:=h
  rw[e]at hm
  exact congrArg some (Y8.mp hm)
 |some c =>
  obtain⟨j,hj,e⟩:=(h m).mp hm
  exact⟨⟨j,hj,e⟩,λj' hj'=>hx _ ((h _).mpr ⟨j',hj',rfl⟩)⟩
theorem Zrm {ts:List Int}{tab:List (List Pt)}{i:Nat}{bh:Option Nat} (h:LsOk ts tab i bh []):Zc1 ts tab i bh none:=by
 cases bh with
 |none=>exact absurd (show([]:List Int)=[(i:Int)]from h) (by simp)
 |some c=>exact λj hj=>absurd ((h _).mpr ⟨j,hj,rfl⟩) (by simp)
theorem Zrn {ts fs:List Int}{tab:List (List Pt)}{i:Nat}{bh:Option Nat}{m:Int} (h:LsOk ts tab i bh fs) (hm:m∈fs) (hx:∀a∈fs,m<=a):Zc1 ts tab i bh (some m):=by
 cases bh with
 |none =>
  have e:fs=[(i:Int)]:=h
  rw[e]at hm
  exact congrArg some (Y8.mp hm)
 |some c =>
  obtain⟨j,hj,e⟩:=(h m).mp hm
  exact⟨⟨j,hj,e⟩,λj' hj'=>hx _ ((h _).mpr ⟨j',hj',rfl⟩)⟩
theorem Zju {a:Option Int}:Zke none a=none:=by cases a<;>rfl
theorem Zml {a:Option Int}:Zke a none=none:=by cases a<;>rfl
theorem Zli {K:PySem.W.Frag}{H:Hp}{a:Addr}{x y:Int} (h:H a=some (.tup [.int x,.int y])):IsT K H IsI (.ref a) [x,y]:=Zga (SqT.of (show H a=some (.tup ([x,y].map V.int))from h))
theorem eqq_pt {K:PySem.W.Frag}{H:Hp}{n:Nat}:EqQ K H (n+1) (Zaf H):=by
 intro x y a b ha hb
 cases a with
 |none =>
  have ea:x=.non:=ha
  subst ea
  cases b with
  |none =>
   have eb:y=.non:=hb
   subst eb
   exact EqN.flat (x:=.non) (y:=.non) rfl rfl
  |some z =>
   obtain⟨q,rfl,hq⟩:=hb
   exact EqN.nonT (SqT.of hq)
 |some w =>
  obtain⟨p,rfl,hp⟩:=ha
  cases b with
  |none =>
   have eb:y=.non:=hb
   subst eb
   exact EqN.tNon (SqT.of hp)
  |some z =>
   obtain⟨q,rfl,hq⟩:=hb
   have:=Zrj (K:=K) (H:=H) (n:=n) Zkd (V.ref p) (V.ref q) [w.1,w.2] [z.1,z.2] (Zli hp) (Zli hq)
   rw[show decide ([w.1,w.2]=[z.1,z.2])=decide (some w=some z)from decide_eq_decide.mpr ⟨λe=>by
    have h1:w.1=z.1:=by simpa using congrArg (λl=>l.getD 0 0) e
    have h2:w.2=z.2:=by simpa using congrArg (λl=>l.getD 1 0) e
    rw[Prod.ext h1 h2],λe=>by rw[YD e]⟩]at this
   exact this
theorem Zro {K:PySem.W.Frag}{H:Hp}{a:Addr}{ps:List Pt} (h:ZaN H a ps):IsL K H (Zaf H) (.ref a) ps:=by
 obtain⟨vals,h1,h2,h3⟩:=h
 exact⟨a,vals,rfl,SqL.of h1,h2,h3⟩
theorem Zne {K:PySem.W.Frag}{H:Hp}{l:Addr}{as:List Addr}{tab:List (List Pt)} (h1:H l=some (.lst (as.map V.ref))) (h2:as.length=tab.length) (h3:∀(i:Nat) (a:Addr) (ps:List Pt),as[i]?=some a->tab[i]?=some ps->ZaN H a ps):IsL K H (IsL K H (Zaf H)) (.ref l) tab:=by
 refine⟨l,_,rfl,SqL.of h1,by rw[Yf];exact h2,λj x ps e1 e2=>?_⟩
 rw[YB]at e1
 cases e:as[j]? with
 |none=>rw[e]at e1;cases e1
 |some a=>rw[e]at e1;cases e1;exact Zro (h3 j a ps e e2)
theorem tbl_eq {K:PySem.W.Frag}{H:Hp}{l m:Addr}{as bs:List Addr}{tab tb:List (List Pt)} (h1:H l=some (.lst (as.map V.ref))) (h2:as.length=tab.length) (h3:∀(i:Nat) (a:Addr) (ps:List Pt),as[i]?=some a->tab[i]?=some ps->ZaN H a ps) (g1:H m=some (.lst (bs.map V.ref))) (g2:bs.length=tb.length) (g3:∀(i:Nat) (a:Addr) (ps:List Pt),bs[i]?=some a->tb[i]?=some ps->ZaN H a ps):EqN K H 3 (.ref l) (.ref m) (decide (tab=tb)) :=
 ZhE (n:=2) (ZhE (n:=1) (eqq_pt (n:=0))) _ _ tab tb (Zne h1 h2 h3) (Zne g1 g2 g3)
theorem ZgS {ns T:List Int} (hT:Zs ns T) {p q:Nat} (hp:p<ns.length) (h:nth T p=q):dpI T (p:Int)=dpI T (q:Int)+1:=by
 unfold dpI
 simp only[YX,Zge,Yf]
 rw[ZdA hT hp h,YQ];omega
theorem Zh7 (n:Int):(nats n).Nodup:=by
 unfold nats
 exact List.Pairwise.map _ (λa b (h:a≠b)=>λ(e:(a:Int)=(b:Int))=>h (by omega)) List.nodup_range
theorem Zjv {ns T qs:List Int} (hT:Zs ns T) (hpm:qs.Perm (nats (T.length:Int))) (hpw:qs.Pairwise λx y=>dpI T y<=dpI T x) {k c v:Nat} (e:qs[k]?=some (v:Int)) (hc:c<T.length) (h:nth T c=v):(c:Int)∈qs.take k:=by
 have eT:=hT.1
 have hd:=ZgS hT (p:=c) (by omega) h
 have hm:(c:Int)∈qs:=hpm.mem_iff.mpr (YF.mpr ⟨c,Yq.mpr (by omega),rfl⟩)
 obtain⟨m,hm1,em⟩:=Y5 hm
 obtain⟨hk,ek⟩:=Yh.mp e
 by_cases hlt:m<k
 ·exact List.mem_take_iff_getElem.mpr ⟨m,by omega,em⟩
 ·exfalso
  by_cases he:m=k
  ·subst he
   rw[em]at ek
   rw[ek]at hd;omega
  ·have:=List.pairwise_iff_getElem.mp hpw k m hk hm1 (by omega)
   rw[em,ek]at this
   omega
noncomputable def Za6 (T ts:List Int) (tab:List (List Pt)) (v:Nat):Prop:=(tab.getD v []).length=ts.length/\∀i,i<ts.length->∃ah bh,Z7 T v ah/\ZQ T v bh/\Zbw ts tab i ah bh ((tab.getD v []).getD i none)
theorem ZbR {tab:List (List Pt)}{v c:Nat}{rs:List Pt} (h:c≠v):(tab.set v rs).getD c []=tab.getD c []:=by
 rw[Yi,Yi,List.getElem?_set_ne (Ne.symm h)]
theorem Zjw {tab:List (List Pt)}{v:Nat}{rs:List Pt} (h:v<tab.length):(tab.set v rs).getD v []=rs:=by
 rw[Yi,List.getElem?_set_self h];rfl
theorem ZgT {T ts:List Int}{tab:List (List Pt)}{v w i:Nat}{rs:List Pt}{ah bh:Option Nat}{p:Pt} (hA:Z7 T w ah) (hB:ZQ T w bh) (hk:∀c,c<T.length->nth T c=w->c≠v) (h:Zbw ts tab i ah bh p):Zbw ts (tab.set v rs) i ah bh p:=by
 obtain⟨a,b,h1,h2,h3⟩:=h
 refine⟨a,b,?_,?_,h3⟩
 ·cases ah with
  |none=>exact h1
  |some c =>
   unfold Zbv at h1⊢
   dsimp only at h1⊢
   rw[ZbR (hk c hA.2.1 hA.2.2)];exact h1
 ·cases bh with
  |none=>exact h2
  |some c =>
   unfold Zc1 at h2⊢
   dsimp only at h2⊢
   rw[ZbR (hk c hB.2.1 hB.2.2)];exact h2
theorem Za6.set {T ts:List Int}{tab:List (List Pt)}{v w:Nat}{rs:List Pt} (h:Za6 T ts tab w) (hw:w≠v) (hk:∀c,c<T.length->nth T c=w->c≠v):Za6 T ts (tab.set v rs) w:=by
 unfold Za6
 rw[ZbR hw]
 refine⟨h.1,λi hi=>?_⟩
 obtain⟨ah,bh,hA,hB,hR⟩:=h.2 i hi
 exact⟨ah,bh,hA,hB,ZgT hA hB hk hR⟩
theorem Za6.new {T ts:List Int}{tab:List (List Pt)}{v:Nat}{rs:List Pt}{ah bh:Option Nat} (hv:v<tab.length) (hl:rs.length=ts.length) (hA:Z7 T v ah) (hB:ZQ T v bh) (hk:∀c,c<T.length->nth T c=v->c≠v) (h:∀i,i<ts.length->Zbw ts tab i ah bh (rs.getD i none)):Za6 T ts (tab.set v rs) v:=by
 unfold Za6
 rw[Zjw hv]
 exact⟨hl,λi hi=>⟨ah,bh,hA,hB,ZgT hA hB hk (h i hi)⟩⟩
theorem Zaf.excL {H H':Hp}{v:V}{pr:Pt}{l:Addr}{xs:List V} (h:Zaf H v pr) (hl:H l=some (.lst xs)) (s:Exc l H H'):Zaf H' v pr:=by
 cases pr with
 |none=>exact h
 |some z =>
  obtain⟨a,e,h⟩:=h
  exact⟨a,e,s _ _ (λy=>by rw[y,hl]at h;cases h) h⟩
theorem lmin (f:Nat->Int) (a:Nat):∀d,∃m,a<=m/\m<=a+d/\(∀r,a<=r->r<=a+d->f m<=f r)/\∀r,a<=r->r<m->f m<f r
 |0=>⟨a,by omega,by omega,λr h1 h2=>by rw[show r=a by omega];exact Int.le_refl _,λr h1 h2=>absurd h2 (by omega)⟩
 |d+1=>by
  obtain⟨m,h1,h2,h3,h4⟩:=lmin f a d
  by_cases c:f (a+(d+1))<f m
  ·refine⟨a+(d+1),by omega,by omega,λr r1 r2=>?_,λr r1 r2=>?_⟩
   ·by_cases e:r=a+(d+1)
    ·rw[e];exact Int.le_refl _
    ·have:=h3 r r1 (by omega);omega
   ·have:=h3 r r1 (by omega);omega
  ·refine⟨m,h1,by omega,λr r1 r2=>?_,h4⟩
   by_cases e:r=a+(d+1)
   ·rw[e];omega
   ·exact h3 r r1 (by omega)
theorem Zfj {ns T:List Int} (hT:Zs ns T) {c1 c2 v:Nat} (h12:c1<c2) (h2v:c2<v) (hv:v<ns.length) (e1:nth T c1=v) (e2:nth T c2=v):False:=by
 obtain⟨m,m1,m2,m3,m4⟩:=lmin (nth ns) c1 (c2-c1)
 have E1:Zy (nth ns) ns.length c1 (v:Int):=e1▸hT.2 c1 (by omega)
 have E2:Zy (nth ns) ns.length c2 (v:Int):=e2▸hT.2 c2 (by omega)
 have hv1:Over (nth ns) v c1:=(ZbQ (by omega) hv E1).mpr (.inl rfl)
 have lt:nth ns v<nth ns m:=by
  rcases hv1 with h|h
  ·omega
  ·exact h.2 m (by omega) (by omega)
 have hm:Over (nth ns) m v:=by
  by_cases c:m=c1
  ·have:Over (nth ns) m c2:=.inl ⟨by omega,λr r1 r2=>m3 r (by omega) (by omega)⟩
   exact((ZbQ (by omega) (by omega) E2).mp this).resolve_left (by omega)
  ·have:Over (nth ns) m c1:=.inr ⟨by omega,λr r1 r2=>m4 r r1 r2⟩
   exact((ZbQ (by omega) (by omega) E1).mp this).resolve_left (by omega)
 rcases hm with h|h
 ·have:=h.2 v (by omega) (by omega);omega
 ·omega
theorem ZdW {ns T:List Int} (hT:Zs ns T) {c1 c2 v:Nat} (hv1:v<c1) (h12:c1<c2) (hc:c2<ns.length) (e1:nth T c1=v) (e2:nth T c2=v):False:=by
 obtain⟨m,m1,m2,m3,m4⟩:=lmin (nth ns) c1 (c2-c1)
 have E1:Zy (nth ns) ns.length c1 (v:Int):=e1▸hT.2 c1 (by omega)
 have E2:Zy (nth ns) ns.length c2 (v:Int):=e2▸hT.2 c2 (by omega)
 have hv2:Over (nth ns) v c2:=(ZbQ (by omega) (by omega) E2).mpr (.inl rfl)
 have le:nth ns v<=nth ns m:=by
  rcases hv2 with h|h
  ·exact h.2 m (by omega) (by omega)
  ·omega
 have hm:Over (nth ns) m v:=by
  by_cases c:m=c1
  ·have:Over (nth ns) m c2:=.inl ⟨by omega,λr r1 r2=>m3 r (by omega) (by omega)⟩
   exact((ZbQ (by omega) (by omega) E2).mp this).resolve_left (by omega)
  ·have:Over (nth ns) m c1:=.inr ⟨by omega,λr r1 r2=>m4 r r1 r2⟩
   exact((ZbQ (by omega) (by omega) E1).mp this).resolve_left (by omega)
 rcases hm with h|h
 ·omega
 ·have:=h.2 v (by omega) (by omega);omega
theorem Zmm {T:List Int} (hG:Zdz T) {v:Nat}{o1 o2:Option Nat} (hv:v<T.length) (h1:Z7 T v o1) (h2:Z7 T v o2):o1=o2:=by
 obtain⟨_,ns,hT⟩:=hG
 have eT:=hT.1
 cases o1 with
 |none =>
  cases o2 with
  |none=>rfl
  |some c=>exact absurd h2.2.2 (h1 c h2.1 h2.2.1)
 |some c =>
  cases o2 with
  |none=>exact absurd h1.2.2 (h2 c h1.1 h1.2.1)
  |some d =>
   by_cases z:c=d
   ·rw[z]
   ·exfalso
    rcases Nat.lt_or_gt_of_ne z with z|z
    ·exact Zfj hT z h2.1 (by omega) h1.2.2 h2.2.2
    ·exact Zfj hT z h1.1 (by omega) h2.2.2 h1.2.2
theorem Zlj {T:List Int} (hG:Zdz T) {v:Nat}{o1 o2:Option Nat} (h1:ZQ T v o1) (h2:ZQ T v o2):o1=o2:=by
 obtain⟨_,ns,hT⟩:=hG
 have eT:=hT.1
 cases o1 with
 |none =>
  cases o2 with
  |none=>rfl
  |some c=>exact absurd h2.2.2 (h1 c h2.1 h2.2.1)
 |some c =>
  cases o2 with
  |none=>exact absurd h1.2.2 (h2 c h1.1 h1.2.1)
  |some d =>
   by_cases z:c=d
   ·rw[z]
   ·exfalso
    rcases Nat.lt_or_gt_of_ne z with z|z
    ·exact ZdW hT h1.1 z (by have:=h2.2.1;omega) h1.2.2 h2.2.2
    ·exact ZdW hT h2.1 z (by have:=h1.2.1;omega) h2.2.2 h1.2.2
theorem Zmn {ts:List Int}{t1 t2:List (List Pt)}{i:Nat}{ah:Option Nat}{r1 r2:Option Int} (he:∀c,ah=some c->t1.getD c []=t2.getD c []) (h1:Zbv ts t1 i ah r1) (h2:Zbv ts t2 i ah r2):r1=r2:=by
 cases ah with
 |none=>exact(show r1=_ from h1).trans (show r2=_ from h2).symm
 |some c =>
  unfold Zbv at h1 h2
  dsimp only at h1 h2
  rw[he c rfl]at h1
  cases r1 with
  |none =>
   cases r2 with
   |none=>rfl
   |some b=>obtain⟨⟨j,hj,_⟩,_⟩:=h2;exact absurd hj (h1 j)
  |some a =>
   cases r2 with
   |none=>obtain⟨⟨j,hj,_⟩,_⟩:=h1;exact absurd hj (h2 j)
   |some b =>
    obtain⟨⟨j,hj,ej⟩,hj'⟩:=h1
    obtain⟨⟨k,hk,ek⟩,hk'⟩:=h2
    have x1:=hj' k hk
    have x2:=hk' j hj
    rw[show a=b by omega]
theorem Zn6 {ts:List Int}{t1 t2:List (List Pt)}{i:Nat}{ah:Option Nat}{r1 r2:Option Int} (he:∀c,ah=some c->t1.getD c []=t2.getD c []) (h1:Zc1 ts t1 i ah r1) (h2:Zc1 ts t2 i ah r2):r1=r2:=by
 cases ah with
 |none=>exact(show r1=_ from h1).trans (show r2=_ from h2).symm
 |some c =>
  unfold Zc1 at h1 h2
  dsimp only at h1 h2
  rw[he c rfl]at h1
  cases r1 with
  |none =>
   cases r2 with
   |none=>rfl
   |some b=>obtain⟨⟨j,hj,_⟩,_⟩:=h2;exact absurd hj (h1 j)
  |some a =>
   cases r2 with
   |none=>obtain⟨⟨j,hj,_⟩,_⟩:=h1;exact absurd hj (h2 j)
   |some b =>
    obtain⟨⟨j,hj,ej⟩,hj'⟩:=h1
    obtain⟨⟨k,hk,ek⟩,hk'⟩:=h2
    have x1:=hj' k hk
    have x2:=hk' j hj
    rw[show a=b by omega]
theorem Zh8 {T ts:List Int}{t1 t2:List (List Pt)} (hG:Zdz T) (h1:Zgi T ts t1) (h2:Zgi T ts t2):t1=t2:=by
 obtain⟨h40,ns,hT⟩:=id hG
 have eT:=hT.1
 have row:∀n v:Nat,v<T.length->T.length<dpI T (v:Int)+n->t1.getD v []=t2.getD v []:=λn=>by
  induction n with
  |zero =>
   intro v hv hn
   exfalso
   have:=Zk1 T T.length (nth T v)
   unfold dpI at hn
   rw[YX,Zge,Yf]at hn
   unfold way at hn
   omega
  |succ n ih =>
   intro v hv hn
   have kid:∀c,c<T.length->nth T c=v->t1.getD c []=t2.getD c []:=λc hc e=>by
    have:=ZgS hT (p:=c) (by omega) e
    exact ih c hc (by omega)
   obtain⟨l1,q1⟩:=h1.2 v hv
   obtain⟨l2,q2⟩:=h2.2 v hv
   refine List.ext_getElem (by omega) λi i1 i2=>?_
   obtain⟨a1,b1,A1,B1,f1,g1,F1,G1,e1⟩:=q1 i (by omega)
   obtain⟨a2,b2,A2,B2,f2,g2,F2,G2,e2⟩:=q2 i (by omega)
   have ea:=Zmm hG hv A1 A2
   have eb:=Zlj hG B1 B2
   subst ea eb
   have ef:=Zmn (λc z=>by subst z;exact kid c A1.2.1 A1.2.2) F1 F2
   have eg:=Zn6 (λc z=>by subst z;exact kid c B1.2.1 B1.2.2) G1 G2
   subst ef eg
   have:=e1.trans e2.symm
   rw[Yi,Yi (l:=t2.getD v []),Yb i1,Yb i2]at this
   exact this
 refine List.ext_getElem (by rw[h1.1,h2.1]) λv v1 v2=>?_
 have hv:v<T.length:=by rw[<-h1.1];exact v1
 have:=row (T.length+1) v hv (by unfold dpI;omega)
 rw[Yi,Yi,Yb v1,Yb v2]at this
 exact this
theorem ZiQ {f:Addr}{fd:FuncData} (F:Fun K "best_ahead" "best_ahead" ZaF f fd) (L:Zkb K mg "best_ahead" f) (B:BM mg base) (T:Txt K mg):FnOk P w K mg base (CXE P w) 1 f fd ["text","pairs","i"] (Zc0 K mg):=by
 refine F.okL L B Zft (λvs H Q E h=>?_) (λcdv A outer s H vs Q E LI hr h=>?_)
 ·obtain⟨x,q,ts,ps,i,rfl,_⟩:=h;rfl
 obtain⟨x,q,ts,ps,i,rfl,hx,hq,hl,h16,hi,hTb,k1⟩:=h
 refine⟨_,(Zd (Zaj (i:=3) ["j","i","pairs","text"] [none,some 2,some 1,some 0] Zft.nd rfl (Or.inl rfl) rfl rfl rfl (ZF rfl T.b_range (Za (pv 2) Zb)) (λ_ _ _ _ _=>(Zl (i:=0) (show(["j","i","pairs","text"]:List Str).Nodup from by decide +kernel) rfl (Or.inl rfl))) (λ_ _ _ _ _=>Zai (PW.pt (ZdK (Zj ZcC (Zm (r:=ZcW K) Zo (pv 2) (pv 0) (λ_ _=>rfl)) Z8 (Zn _)) (ZdK (Zj Zeq (Zm (Zgb (K:=K) rfl) (pv 3) (pv 0) (λ_ _=>rfl)) (Zm (Zgb (K:=K) rfl) (pv 3) (pv 1) (λ_ _=>rfl)) (Zn _)) (ZdJ (Zj Zf3 (Zm (r:=Zfp K) ZO (Zm (r:=ZcW K) Zo (pv 2) (pv 0) (λ_ _=>rfl)) Zf (λ_ _=>rfl)) (pv 1) (Zn _))))))) (λ_ _ _ _ _=>(pv 0)) Zr)
   (Zg (Zz (Zo7 (Nc:=["j","pairs"]) (js:=[none,some 1]) (pn:="j") (q:=ZfK "best_ahead") (P:=Zev K mg "best_ahead") rfl hr ⟨rfl,rfl,rfl,rfl,rfl,rfl,rfl,λ_ _ _ _ _ _=>rfl⟩ (λ_ _ _ _ _ _=>(Zm (r:=Zfp K) ZO (Zm (r:=ZcW K) Zo (pv 1) (pv 0) (λ_ _=>rfl)) Zf (λ_ _=>rfl))) rfl T.b_max (Za (pv 3) Zb) (ZdM (Zj8 ⟨LI.code,LI.bm,LI.ql⟩ rfl) (ZdM Z8 ZjG)))))),?_⟩
 walk_at "rd"
 obtain⟨vals,hqv,hvl,hvp⟩:=hq
 refine⟨by omega,by omega,?_⟩
 rw[show((i:Nat):Int).toNat=i by omega]
 refine Zan (n:=i) (λj=>decide (Zal ts ps i j)) (λj=>V.int (j:Int)) (Yt (show _<=1000 by omega) (by decide)) (λj Hz s hj=>hj) (λHz s=>Yc _) ?_ ?_
 ·rintro j y Hz Hw hj sz ⟨rfl,rfl⟩
  rw[show(0:Int)+(j:Int)=((j:Nat):Int) by omega]
  walk_at "rd"
  obtain⟨v,ev,hv⟩:=Zc7 hvl hvp (show j<ps.length by omega)
  have hv:=hv.same sz
  refine⟨_,SqL.of (sz _ _ hqv),_,ev,ZD (λc=>?_) λc=>?_⟩
  ·have hs:(ps.getD j none).isSome=true:=by
    cases e:(ps.getD j none).isSome with
    |true=>rfl
    |false=>exact absurd ((ZeM hv).mpr e) c
   obtain⟨a,rfl,ha⟩:=ZcH hv hs
   refine⟨_,sz.q hx,_,Z4 (by omega),_,sz.q hx,_,Z4 (by omega),_,rfl,_,rfl,ZD (λc2=>?_) λc2=>CF.skip hj (YC λz=>c2 z.2.2.1) sz⟩
   refine⟨_,SqL.of (sz _ _ hqv),_,ev,a,rfl,_,SqT.of ha,_,rfl,_,rfl,?_⟩
   exact ZD (λc3=>CF.take hj (Yz ⟨hj,hs,c2,c3⟩) rfl sz) λc3=>CF.skip hj (YC λz=>c3 z.2.2.2) sz
  ·refine CF.skip hj (YC λz=>?_) sz
   have z1:=z.2.1
   rw[(ZeM hv).mp (Decidable.of_not_not c)]at z1
   cases z1
 ·intro lf Hz sz hlf
  have eN:(((List.range i).filter λj=>decide (Zal ts ps i j)).map λ(j:Nat)=>V.int (j:Int))=(((List.range i).filter λj=>decide (Zal ts ps i j)).map λ(j:Nat)=>(j:Int)).map V.int:=by rw[YU];rfl
  rw[eN]
  have hmem:∀y,y∈(((List.range i).filter λj=>decide (Zal ts ps i j)).map λ(j:Nat)=>(j:Int))↔∃j:Nat,y=j/\Zal ts ps i j:=λy=>by
   rw[YF]
   constructor
   ·rintro⟨j,hj,rfl⟩
    exact⟨j,rfl,YV (YG.mp hj).2⟩
   ·rintro⟨j,rfl,hj⟩
    exact⟨j,YG.mpr ⟨Yq.mpr hj.1,Yz hj⟩,rfl⟩
  generalize (((List.range i).filter λj=>decide (Zal ts ps i j)).map λ(j:Nat)=>(j:Int))=ns at hmem⊢
  have g1:=sz.Zay (o:=.lst (ns.map V.int)) hlf
  have h1:=Zc (H:=Hz) (a:=lf) (o:=.lst (ns.map V.int))
  generalize upd Hz lf (.lst (ns.map V.int))=H1 at g1 h1⊢
  refine⟨ZX.same hTb g1,λf1 H5 zf s5 LO=>⟨lf,rfl,ns,s5 _ _ h1,LO,λn=>(ZR ps n.toNat).1,λn H6 hn s6=>?_,λhns H6 s6=>?_,λa H6 ha hB s6=>?_⟩⟩
  ·obtain⟨j,rfl,hj⟩:=(hmem n).mp hn
   obtain⟨v,ev,hv⟩:=Zc7 hvl hvp (show j<ps.length by have:=hj.1;omega)
   have sA:=g1.trans (s5.trans s6)
   obtain⟨a,rfl,ha⟩:=ZcH (hv.same sA) hj.2.1
   exact⟨_,SqL.of (sA _ _ hqv),_,ev,a,rfl,_,SqT.of ha,_,rfl,by simp,Ze.refl _⟩
  ·exact k1 none H6 (g1.trans (s5.trans s6)) λj hj=>by
    have:=(hmem (j:Int)).mpr ⟨j,rfl,hj⟩
    rw[hns]at this;cases this
  ·obtain⟨j,e,hj⟩:=Znd (ps:=ps) hmem ha
   rw[e]
   refine k1 (some j) H6 (g1.trans (s5.trans s6)) ⟨hj,λj' hj'=>?_⟩
   obtain⟨b,hb,eb⟩:=Y5 ((hmem (j':Int)).mpr ⟨j',rfl,hj'⟩)
   have:=(hB b hb).1
   rw[e,show nth ns b=(j':Int) by unfold nth;rw[Yi,Yb hb,eb];rfl]at this
   simpa using this
theorem Zh9 {f:Addr}{fd:FuncData} (F:Fun K "best_behind" "best_behind" Zao f fd) (L:Zkb K mg "best_behind" f) (B:BM mg base) (T:Txt K mg):FnOk P w K mg base (CXE P w) 1 f fd ["text","pairs","i"] (Zcl K mg):=by
 refine F.okL L B ZeK (λvs H Q E h=>?_) (λcdv A outer s H vs Q E LI hr h=>?_)
 ·obtain⟨x,q,ts,ps,i,rfl,_⟩:=h;rfl
 obtain⟨x,q,ts,ps,i,rfl,hx,hq,hl,h16,hi,hTb,k1⟩:=h
 refine⟨_,(Zd (Zaj (i:=3) ["j","i","pairs","text"] [none,some 2,some 1,some 0] ZeK.nd rfl (Or.inl rfl) rfl rfl rfl (Zfe rfl T.b_range (Za (Zw Zbj (pv 2) Zf) (Za (Zk (Zp (K:=K) rfl) rfl T.b_len YA (Za (pv 0) Zb)) Zb))) (λ_ _ _ _ _=>(Zl (i:=0) (show(["j","i","pairs","text"]:List Str).Nodup from by decide +kernel) rfl (Or.inl rfl))) (λ_ _ _ _ _=>Zai (PW.pt (ZdK (Zj ZcC (Zm (r:=ZcW K) Zo (pv 2) (pv 0) (λ_ _=>rfl)) Z8 (Zn _)) (ZdK (Zj ZkL (Zm (Zgb (K:=K) rfl) (pv 3) (pv 0) (λ_ _=>rfl)) (Zm (Zgb (K:=K) rfl) (pv 3) (pv 1) (λ_ _=>rfl)) (Zn _)) (ZdJ (Zj Zeq (Zm (r:=Zfp K) ZO (Zm (r:=ZcW K) Zo (pv 2) (pv 0) (λ_ _=>rfl)) Zf (λ_ _=>rfl)) (pv 1) (Zn _))))))) (λ_ _ _ _ _=>(pv 0)) Zr)
   (Zg (Zz (Zo8 (Nc:=["j","pairs"]) (js:=[none,some 1]) (pn:="j") (q:=ZfK "best_behind") (P:=Zev K mg "best_behind") rfl hr ⟨rfl,rfl,rfl,rfl,rfl,rfl,rfl,λ_ _ _ _ _ _=>rfl⟩ (λ_ _ _ _ _ _=>(Zm (r:=Zfp K) ZO (Zm (r:=ZcW K) Zo (pv 1) (pv 0) (λ_ _=>rfl)) Zf (λ_ _=>rfl))) rfl T.b_min (Za (pv 3) Zb) (ZdM (Zj8 ⟨LI.code,LI.bm,LI.ql⟩ rfl) (ZdM Z8 ZjG)))))),?_⟩
 walk_at "rd"
 obtain⟨vals,hqv,hvl,hvp⟩:=hq
 have eX:(ts.map V.int).length=ts.length:=Yf ..
 refine⟨_,hx,by omega,by omega,by omega,by omega,?_⟩
 rw[eX,show(((ts.length:Nat):Int)-((i:Int)+1)).toNat=ts.length-(i+1) by omega]
 refine Zan (n:=ts.length-(i+1)) (λk=>decide (Zam ts ps i (i+1+k))) (λk=>V.int ((i+1+k:Nat):Int)) (Yt (show _<=1000 by omega) (by decide)) (λj Hz s hj=>hj) (λHz s=>Yc _) ?_ ?_
 ·rintro k y Hz Hw hk sz ⟨rfl,rfl⟩
  rw[show(i:Int)+1+(k:Int)=((i+1+k:Nat):Int) by omega]
  have hj1:i<i+1+k:=by omega
  have hj2:i+1+k<ts.length:=by omega
  generalize hjg:i+1+k=j at hj1 hj2⊢
  walk_at "rd"
  obtain⟨v,ev,hv⟩:=Zc7 hvl hvp (show j<ps.length by omega)
  have hv:=hv.same sz
  refine⟨_,SqL.of (sz _ _ hqv),_,ev,ZD (λc=>?_) λc=>?_⟩
  ·have hs:(ps.getD j none).isSome=true:=by
    cases e:(ps.getD j none).isSome with
    |true=>rfl
    |false=>exact absurd ((ZeM hv).mpr e) c
   obtain⟨a,rfl,ha⟩:=ZcH hv hs
   refine⟨_,sz.q hx,_,Z4 (by omega),_,sz.q hx,_,Z4 (by omega),_,rfl,_,rfl,ZD (λc2=>?_) λc2=>CF.skip hk (YC λz=>c2 (hjg▸z).2.2.2.1) sz⟩
   refine⟨_,SqL.of (sz _ _ hqv),_,ev,a,rfl,_,SqT.of ha,_,rfl,_,rfl,?_⟩
   exact ZD (λc3=>CF.take hk (Yz (by rw[hjg];exact⟨hj1,hj2,hs,c2,c3⟩)) (by rw[hjg]) sz) λc3=>CF.skip hk (YC λz=>c3 (hjg▸z).2.2.2.2) sz
  ·refine CF.skip hk (YC λz=>?_) sz
   rw[hjg]at z
   have z1:=z.2.2.1
   rw[(ZeM hv).mp (Decidable.of_not_not c)]at z1
   cases z1
 ·intro lf Hz sz hlf
  have eN:(((List.range (ts.length-(i+1))).filter λk=>decide (Zam ts ps i (i+1+k))).map λ(k:Nat)=>V.int ((i+1+k:Nat):Int))=(((List.range (ts.length-(i+1))).filter λk=>decide (Zam ts ps i (i+1+k))).map λ(k:Nat)=>((i+1+k:Nat):Int)).map V.int:=by rw[YU];rfl
  rw[eN]
  have hmem:∀y,y∈(((List.range (ts.length-(i+1))).filter λk=>decide (Zam ts ps i (i+1+k))).map λ(k:Nat)=>((i+1+k:Nat):Int))↔∃j:Nat,y=j/\Zam ts ps i j:=λy=>by
   rw[YF]
   constructor
   ·rintro⟨k,hk,rfl⟩
    exact⟨i+1+k,rfl,YV (YG.mp hk).2⟩
   ·rintro⟨j,rfl,hj⟩
    have h1:=hj.1
    have h2:=hj.2.1
    refine⟨j-(i+1),YG.mpr ⟨Yq.mpr (by omega),Yz ?_⟩,by omega⟩
    rw[show i+1+(j-(i+1))=j by omega];exact hj
  generalize (((List.range (ts.length-(i+1))).filter λk=>decide (Zam ts ps i (i+1+k))).map λ(k:Nat)=>((i+1+k:Nat):Int))=ns at hmem⊢
  have g1:=sz.Zay (o:=.lst (ns.map V.int)) hlf
  have h1:=Zc (H:=Hz) (a:=lf) (o:=.lst (ns.map V.int))
  generalize upd Hz lf (.lst (ns.map V.int))=H1 at g1 h1⊢
  refine⟨ZX.same hTb g1,λf1 H5 zf s5 LO=>⟨lf,rfl,ns,s5 _ _ h1,LO,λn=>(ZR ps n.toNat).2,λn H6 hn s6=>?_,λhns H6 s6=>?_,λa H6 ha hB s6=>?_⟩⟩
  ·obtain⟨j,rfl,hj⟩:=(hmem n).mp hn
   obtain⟨v,ev,hv⟩:=Zc7 hvl hvp (show j<ps.length by have:=hj.2.1;omega)
   have sA:=g1.trans (s5.trans s6)
   obtain⟨a,rfl,ha⟩:=ZcH (hv.same sA) hj.2.2.1
   exact⟨_,SqL.of (sA _ _ hqv),_,ev,a,rfl,_,SqT.of ha,_,rfl,by simp,Ze.refl _⟩
  ·exact k1 none H6 (g1.trans (s5.trans s6)) λj hj=>by
    have:=(hmem (j:Int)).mpr ⟨j,rfl,hj⟩
    rw[hns]at this;cases this
  ·obtain⟨j,e,hj⟩:=Znd (ps:=ps) hmem ha
   rw[e]
   refine k1 (some j) H6 (g1.trans (s5.trans s6)) ⟨hj,λj' hj'=>?_⟩
   obtain⟨b,hb,eb⟩:=Y5 ((hmem (j':Int)).mpr ⟨j',rfl,hj'⟩)
   have:=(hB b hb).1
   rw[e,show nth ns b=(j':Int) by unfold nth;rw[Yi,Yb hb,eb];rfl]at this
   simpa using this
theorem Zmo {f:Addr}{fd:FuncData} (F:Fun K "pair_at" "pair_at" Zcf f fd) (ZdY:Callee P w K mg base "best_ahead" 1 ["text","pairs","i"] (Zc0 K mg)) (Zc8:Callee P w K mg base "best_behind" 1 ["text","pairs","i"] (Zcl K mg)) (T:Txt K mg):FnOk P w K mg base (CXE P w) 2 f fd ["text","table","young","i"] (ZfL K mg):=by
 refine F.okX Zag (λvs H Q E h=>?_) (λcdv A outer s H vs Q E hr h=>?_)
 ·obtain⟨x,l,y,ts,tab,ah,bh,i,rfl,_⟩:=h;rfl
 obtain⟨x,l,y,ts,tab,ah,bh,i,rfl,hx,hl,hy,ka,kb,h16,hi,hT1,hT2,k1⟩:=h
 refine⟨_,(Zd (ZcT (pv 2) (pg_lst (K:=K) rfl (n:=2) rfl (ZbP (Zl (i:=4) Zag.nd rfl (Or.inl rfl)) (ZbP (Zl (i:=5) Zag.nd rfl (Or.inl rfl)) Zhy))))
   (Zd (Zri (pv 3) (Zl (i:=6) Zag.nd rfl (Or.inl rfl)) (Zl (i:=7) Zag.nd rfl (Or.inl rfl)))
   (Zd (Z2 (Zj ZcC (pv 4) Z8 (Zn _)) (Zd (Zq (i:=8) Zag.nd rfl (Or.inl rfl) (Zi ZdY (hr.mono (by decide)) rfl ZA (Za (pv 0) (Za (Zm Zo (pv 1) (pv 4) (λ_ _=>rfl)) (Za (pv 3) Zb)))))
   (Zd (Z2 (Zj ZlM (pv 8) Z8 (Zn _)) (Zg (Zz Z8)) ZH)
   (Zg (Zq (i:=6) Zag.nd rfl (Or.inl rfl) (Zm ZO (Zm Zo (Zm Zo (pv 1) (pv 4) (λ_ _=>rfl)) (pv 8) (λ_ _=>rfl)) Zf (λ_ _=>rfl)))))) ZH)
   (Zd (Z2 (Zj ZcC (pv 5) Z8 (Zn _)) (Zd (Zq (i:=8) Zag.nd rfl (Or.inl rfl) (Zi Zc8 (hr.mono (by decide)) rfl ZA (Za (pv 0) (Za (Zm Zo (pv 1) (pv 5) (λ_ _=>rfl)) (Za (pv 3) Zb)))))
   (Zd (Z2 (Zj ZlM (pv 8) Z8 (Zn _)) (Zg (Zz Z8)) ZH)
   (Zg (Zq (i:=7) Zag.nd rfl (Or.inl rfl) (Zm ZO (Zm Zo (Zm Zo (pv 1) (pv 5) (λ_ _=>rfl)) (pv 8) (λ_ _=>rfl)) Zf (λ_ _=>rfl)))))) ZH)
   (Zg (Zz (ZcV (Za (pv 6) (Za (pv 7) Zb))))))))),?_⟩
 obtain⟨as,hla,_,hal,hap⟩:=hl
 refine ZY (fun σ Hx=>σ=[some (.ref x),some (.ref l),some (.ref y),some (.int (i:Int)),some (optN ah),some (optN bh),none,none,none]/\Hx=H) (λR hR=>?_) ?_
 ·walk_at "rd"
  exact⟨_,SqL.of hy,rfl,_,_,rfl,_,_,rfl,rfl,hR _ _ ⟨rfl,rfl⟩⟩
 rintro σ Hx ⟨rfl,rfl⟩
 refine ZY (fun σ Hy=>σ=[some (.ref x),some (.ref l),some (.ref y),some (.int (i:Int)),some (optN ah),some (optN bh),some (.int (i:Int)),some (.int (i:Int)),none]/\Hy=Hx) (λR hR=>?_) ?_
 ·walk_at "rd"
  exact hR _ _ ⟨rfl,rfl⟩
 rintro σ Hz ⟨rfl,rfl⟩
 refine ZY (fun σ Hy=>∃(a:Int) (v8:Option V),σ=[some (.ref x),some (.ref l),some (.ref y),some (.int (i:Int)),some (optN ah),some (optN bh),some (.int a),some (.int (i:Int)),v8]/\Zbv ts tab i ah (some a)/\Ze Hz Hy) (λR hR=>?_) ?_
 ·walk_at "rd"
  cases ah with
  |none=>exact ZD (λz=>absurd rfl z) λ_=>hR _ _ ⟨_,none,rfl,rfl,Ze.refl Hz⟩
  |some c =>
   obtain⟨a,ea,ha⟩:=ZhF hal hap ka.1
   refine ZD (λ_=>⟨_,_,rfl,SqL.of hla,_,ea,x,a,ts,tab.getD c [],i,rfl,hx,ha,ka.2,h16,hi,hT1,λr H1 s1 hB=>?_⟩) λz=>absurd z (by simp[optN])
   cases r with
   |none =>
    refine ZD (λ_=>?_) λz=>absurd rfl z
    obtain⟨b,hb⟩:=Zkk ts tab i bh
    exact k1 .non none H1 s1 ⟨none,b,hB,hb,by cases b<;>rfl⟩ rfl
   |some j =>
    refine ZD (λz=>by cases z) λ_=>?_
    have ha1:=ha.same s1
    obtain⟨vals,hqv,hvl,hvp⟩:=ha1
    obtain⟨v,ev,hv⟩:=Zc7 hvl hvp (show j<(tab.getD c []).length by have:=hB.1.1;have:=ka.2;omega)
    obtain⟨u,rfl,hu⟩:=ZcH hv hB.1.2.1
    exact⟨_,_,rfl,SqL.of (s1 _ _ hla),_,ea,a,rfl,_,_,rfl,SqL.of hqv,_,ev,u,rfl,_,SqT.of hu,_,rfl,hR _ _ ⟨_,_,rfl,⟨⟨j,hB.1,rfl⟩,hB.2⟩,s1⟩⟩
 rintro σ H1 ⟨a,v8,rfl,hFa,s1⟩
 refine ZY (fun σ Hy=>∃(b:Int) (v8:Option V),σ=[some (.ref x),some (.ref l),some (.ref y),some (.int (i:Int)),some (optN ah),some (optN bh),some (.int a),some (.int b),v8]/\Zc1 ts tab i bh (some b)/\Ze Hz Hy) (λR hR=>?_) ?_
 ·walk_at "rd"
  cases bh with
  |none=>exact ZD (λz=>absurd rfl z) λ_=>hR _ _ ⟨_,v8,rfl,rfl,s1⟩
  |some c =>
   obtain⟨d,ea,ha⟩:=ZhF hal hap kb.1
   refine ZD (λ_=>⟨_,_,rfl,SqL.of (s1 _ _ hla),_,ea,x,d,ts,tab.getD c [],i,rfl,s1.q hx,ha.same s1,kb.2,h16,hi,ZX.same hT2 s1,λr H2 s2 hB=>?_⟩) λz=>absurd z (by simp[optN])
   cases r with
   |none =>
    refine ZD (λ_=>?_) λz=>absurd rfl z
    exact k1 .non none H2 (s1.trans s2) ⟨some a,none,hFa,hB,rfl⟩ rfl
   |some j =>
    refine ZD (λz=>by cases z) λ_=>?_
    have ha1:=(ha.same s1).same s2
    obtain⟨vals,hqv,hvl,hvp⟩:=ha1
    obtain⟨v,ev,hv⟩:=Zc7 hvl hvp (show j<(tab.getD c []).length by have:=hB.1.2.1;have:=kb.2;omega)
    obtain⟨u,rfl,hu⟩:=ZcH hv hB.1.2.2.1
    exact⟨_,_,rfl,SqL.of ((s1.trans s2) _ _ hla),_,ea,d,rfl,_,_,rfl,SqL.of hqv,_,ev,u,rfl,_,SqT.of hu,_,rfl,hR _ _ ⟨_,_,rfl,⟨⟨j,hB.1,rfl⟩,hB.2⟩,s1.trans s2⟩⟩
 rintro σ H2 ⟨b,v8',rfl,hLb,s2⟩
 walk_at "rd"
 exact⟨by decide,λq zq=>k1 (.ref q) (some (a,b)) _ (s2.Zay zq) ⟨some a,some b,hFa,hLb,rfl⟩ ⟨q,rfl,Zc⟩⟩
theorem Zlk {f:Addr}{fd:FuncData} (F:Fun K "young_of" "young_of" Zbm f fd) (T:Txt K mg):FnOk P w K mg base (CXE P w) 1 f fd ["tree"] (ZeG K mg):=by
 refine F.okX ZcF (λvs H Q E h=>?_) (λcdv A outer s H vs Q E hr h=>?_)
 ·obtain⟨t,T,rfl,_⟩:=h;rfl
 obtain⟨t,T',rfl,ht,hG,k1⟩:=h
 refine⟨_,(Zd (Zaj (i:=1) ["place"] [none] ZcF.nd rfl (Or.inl rfl) rfl rfl rfl (ZlJ (pv 0)) (λ_ _ _ _ _=>(Zl (i:=0) (show(["place"]:List Str).Nodup from by decide +kernel) rfl (Or.inl rfl))) (λ_ _ _ _ _=>ZV) (λ_ _ _ _ _=>(ZM (Za Z8 (Za Z8 Zb)))) Zr)
   (Zd (ZaS (ZbS PassesOwn.never rfl (ZoW (K:=K) rfl rfl T.b_enumerate (Za (pv 0) Zb)) (ZlF (n:=2) rfl (ZbP (Zl (i:=2) ZcF.nd rfl (Or.inl rfl)) (ZbP (Zl (i:=3) ZcF.nd rfl (Or.inl rfl)) Zhy))) (Zg (Z2 (Zj ZkL (pv 3) Zf (Zn _)) (Zg (ZcT (pv 2) (ZfD (Zm Zo (pv 1) (pv 3) (λ_ _=>rfl)) (Zov (Zj Zeq (pv 2) (pv 3) (Zn _)) Zf Zf) set_list (λ_=>rfl)))) ZH))))
   (Zg (Zz (pv 1))))),?_⟩
 have h40:=hG.1
 obtain⟨_,nsT,hT⟩:=id hG
 have eT:=hT.1
 have eL:(T'.map V.int).length=T'.length:=Yf ..
 walk_at "rd"
 refine⟨⟨_,SqT.of ht⟩,Za0 (n:=T'.length) (λj acc Hz=>∃as:List Addr,acc=as.map V.ref/\as.length=j/\as.Nodup/\(∀a∈as,Hz a=some (.lst [.non,.non])/\H a=none)/\Ze H Hz) (Yt (show _<=1000 by omega) (by decide)) ⟨[],rfl,rfl,List.nodup_nil,(λa ha=>absurd ha (by simp)),Ze.refl H⟩ (λj acc Hz ⟨_,_,_,_,_,e⟩ hj=>⟨_,_,SqT.of (e _ _ ht),ZiP hj⟩) (λacc Hz ⟨_,_,_,_,_,e⟩=>⟨_,SqT.of (e _ _ ht),Y9 eL⟩) ?_ ?_⟩
 ·rintro j x acc Hz Hw hj hla ⟨as,rfl,hal,hnd,has,sz⟩ ⟨rfl,hx⟩
  walk_at "rd"
  refine⟨by decide,λp zp=>CA.take hj hla ⟨as++[p],by simp,by simp[hal],?_,λa ha=>?_,sz.Zay zp⟩⟩
  ·rw[List.nodup_append]
   refine⟨hnd,by simp,λa ha b hb=>?_⟩
   have:b=p:=by simpa using hb
   subst this
   exact λz=>by rw[z]at ha;rw[(has _ ha).1]at zp;cases zp
  ·rcases Yy.mp ha with z|z
   ·exact⟨((Ze.refl _).upd zp) _ _ (has a z).1,(has a z).2⟩
   ·have:a=p:=by simpa using z
    subst this
    exact⟨Zc,sz.free zp⟩
 rintro y acc Hz ⟨as,rfl,hal,hnd,has,sz⟩ _ zy
 have gy:=(Ze.refl Hz).upd (o:=.lst (as.map V.ref)) zy
 have hyy:=Zc (H:=Hz) (a:=y) (o:=.lst (as.map V.ref))
 have s1:=sz.trans gy
 have zy0:=sz.free zy
 have ny:y∉as:=λz=>by rw[(has _ z).1]at zy;cases zy
 have Y0:YTo (upd Hz y (.lst (as.map V.ref))) as T' 0:=λv a e=>⟨none,none,(λc _ h=>absurd h (by omega)),(λc _ h=>absurd h (by omega)),gy _ _ (has a (List.mem_of_getElem? e)).1⟩
 generalize upd Hz y (.lst (as.map V.ref))=H1 at gy hyy s1 Y0⊢
 refine⟨_,SqT.of (s1 _ _ ht),?_⟩
 refine ZoX (n:=T'.length) (λj σ Hx=>∃v2 v3:Option V,σ=[some (.ref t),some (.ref y),v2,v3]/\Hx y=some (.lst (as.map V.ref))/\YTo Hx as T' j/\Ze H Hx) ⟨none,none,rfl,hyy,Y0,s1⟩ (λj σ Hx hj ⟨_,_,_,_,_,e⟩=>⟨_,_,SqT.of (e _ _ ht),ZiP hj⟩) (fun σ Hx ⟨_,_,_,_,_,e⟩=>⟨_,SqT.of (e _ _ ht),eL⟩) ?_ ?_
 ·rintro j x σ Hx Hw hj ⟨v2,v3,rfl,hyx,Yx,sx⟩ ⟨p,w,zp,rfl,rfl,hx⟩
  have ex:=hx _ (SqT.of (sx _ _ ht))
  rw[ZiP hj]at ex
  cases ex
  walk_at "rd"
  have gp:=(Ze.refl Hx).upd (o:=.tup [V.int (j:Int),V.int (nth T' j)]) zp
  have hp:=Zc (H:=Hx) (a:=p) (o:=.tup [V.int (j:Int),V.int (nth T' j)])
  generalize upd Hx p (.tup [V.int (j:Int),V.int (nth T' j)])=H2 at gp hp⊢
  refine⟨_,SqT.of hp,rfl,_,_,rfl,_,_,rfl,rfl,_,rfl,?_⟩
  have sx2:=sx.trans gp
  have hyx2:=gp _ _ hyx
  have Yx2:=Yx.same gp
  refine ZD (λc0=>?_) λc0=>⟨hyx2,Yx2.skip λv _=>by omega,sx2⟩
  have hq:∃q:Nat,nth T' j=q/\q<T'.length/\q≠j:=by
   rcases ZcE hT (p:=j) (by omega)with z|⟨q,ez,hq,hO,hd⟩
   ·omega
   ·refine⟨q,ez,by omega,λe=>?_⟩
    subst e;omega
  obtain⟨q,eq,hqT,nqj⟩:=hq
  obtain⟨a,ea⟩:∃a,as[q]?=some a:=⟨_,Yb (by omega)⟩
  obtain⟨ah,bh,hA,hB,ha⟩:=Yx2 q a ea
  have na:a≠y:=λz=>ny (z▸List.mem_of_getElem? ea)
  have za:H a=none:=(has a (List.mem_of_getElem? ea)).2
  refine⟨_,_,rfl,SqL.of hyx2,V.ref a,by rw[eq];exact Zf7 (by rw[YB,ea];rfl),_,rfl,_,rfl,ZD (λc1=>?_) λc1=>?_⟩
  ·refine⟨a,rfl,_,ha,1,rfl,by rw[Zh na.symm];exact hyx2,?_,sx2.upd za⟩
   exact Yx2.set (ah:=ah) (bh:=some j) hnd ea (hA.skip λz=>by omega) ⟨by omega,by omega,eq⟩ eq
  ·refine⟨a,rfl,_,ha,0,rfl,by rw[Zh na.symm];exact hyx2,?_,sx2.upd za⟩
   exact Yx2.set (ah:=some j) (bh:=bh) hnd ea ⟨by omega,by omega,eq⟩ (hB.skip λz=>by omega) eq
 ·rintro σ Hx ⟨v2,v3,rfl,hyx,Yx,sx⟩
  walk_at "rd"
  refine k1 y Hx zy0 ⟨as,hyx,hal,λv a e=>?_⟩ sx
  obtain⟨ah,bh,h1,h2,h3⟩:=Yx v a e
  refine⟨ah,bh,?_,?_,h3⟩
  ·cases ah with
   |none=>exact h1
   |some c=>exact h1
  ·cases bh with
   |none=>exact h2
   |some c=>exact h2
theorem Zll {f:Addr}{fd:FuncData} (F:Fun K "table_by" "table_by" Zbn f fd) (ZfO:Callee P w K mg base "young_of" 1 ["tree"] (ZeG K mg)) (ZdZ:Callee P w K mg base "from_below" 5 ["tree"] (ZcZ K mg)) (ZgU:Callee P w K mg base "pair_at" 2 ["text","table","young","i"] (ZfL K mg)) (T:Txt K mg):FnOk P w K mg base (CXE P w) 6 f fd ["tree","text"] (ZeH K mg):=by
 refine F.okX ZcG (λvs H Q E h=>?_) (λcdv A outer s H vs Q E hr h=>?_)
 ·obtain⟨t,x,T,ts,rfl,_⟩:=h;rfl
 obtain⟨t,x,T',ts,rfl,ht,hx,hG,h16,hT1,hT2,hT3,k1⟩:=h
 refine⟨_,(Zd (Zq (i:=2) ZcG.nd rfl (Or.inr rfl) (Zi ZfO (hr.mono (by decide)) rfl ZA (Za (pv 0) Zb)))
   (Zd (Zq (i:=3) ZcG.nd rfl (Or.inr rfl) (ZW ["v"] [none] rfl rfl rfl (ZlJ (pv 0)) (λ_ _ _ _ _=>(Zl (i:=0) (show(["v"]:List Str).Nodup from by decide +kernel) rfl (Or.inl rfl))) (λ_ _ _ _ _=>ZV) (λ_ _ _ _ _=>(ZM Zb)) Zr))
   (Zd (ZaS (ZbS PassesOwn.never rfl (Zav (Zi ZdZ (hr.mono (by decide)) rfl ZA (Za (pv 0) Zb))) (Zl (i:=4) ZcG.nd rfl (Or.inr rfl)) (Zg (ZcT (ZW ["i","text","table","young","v"] [none,some 1,some 3,some 2,some 4] rfl rfl rfl (ZF rfl T.b_range (Za (Zk (Zp (K:=K) rfl) rfl T.b_len YA (Za (pv 1) Zb)) Zb)) (λ_ _ _ _ _=>(Zl (i:=0) (show(["i","text","table","young","v"]:List Str).Nodup from by decide +kernel) rfl (Or.inl rfl))) (λ_ _ _ _ _=>ZV) (λ_ _ _ _ _=>(Zi ZgU (hr.mono (by decide)) rfl ZA (Za (pv 1) (Za (pv 2) (Za (Zm (r:=ZcW K) Zo (pv 3) (pv 4) (λ_ _=>rfl)) (Za (pv 0) Zb)))))) Zr) (ZfD (pv 3) (pv 4) set_list (λ_=>rfl))))))
   (Zg (Zz (pv 3)))))),?_⟩
 have h40:=hG.1
 obtain⟨_,nsT,hT⟩:=id hG
 have eT:=hT.1
 have eL:(T'.map V.int).length=T'.length:=Yf ..
 have eX:(ts.map V.int).length=ts.length:=Yf ..
 refine ZY (fun σ Hx=>∃y:Addr,σ=[some (.ref t),some (.ref x),some (.ref y),none,none]/\Znc Hx y T'/\Ze H Hx) (λR hR=>?_) ?_
 ·walk_at "rd"
  exact⟨t,T',rfl,ht,hG,λy H1 zy Y1 s1=>hR _ _ ⟨y,rfl,Y1,s1⟩⟩
 rintro σ H1 ⟨y,rfl,Y1,s1⟩
 obtain⟨ys,hys,hyl,hyp⟩:=Y1
 refine ZY (fun σ Hx=>∃(l:Addr) (tab:List (List Pt)),σ=[some (.ref t),some (.ref x),some (.ref y),some (.ref l),none]/\H1 l=none/\Zak Hx l tab/\tab.length=T'.length/\FrL H1 Hx l/\Ze H1 Hx) (λR hR=>?_) ?_
 ·walk_at "rd"
  refine⟨⟨_,SqT.of (s1 _ _ ht)⟩,Za0 (n:=T'.length) (λj acc Hz=>∃as:List Addr,acc=as.map V.ref/\as.length=j/\(∀a∈as,Hz a=some (.lst [])/\H1 a=none)/\Ze H1 Hz) (Yt (show _<=1000 by omega) (by decide)) ⟨[],rfl,rfl,(λa ha=>absurd ha (by simp)),Ze.refl H1⟩ (λj acc Hz ⟨_,_,_,_,e⟩ hj=>⟨_,_,SqT.of ((s1.trans e) _ _ ht),ZiP hj⟩) (λacc Hz ⟨_,_,_,_,e⟩=>⟨_,SqT.of ((s1.trans e) _ _ ht),Y9 eL⟩) ?_ ?_⟩
  ·rintro j w acc Hz Hw hj hla ⟨as,rfl,hal,has,sz⟩ ⟨rfl,hx⟩
   walk_at "rd"
   refine⟨Yv _,λp zp=>CA.take hj hla ⟨as++[p],by simp,by simp[hal],λa ha=>?_,sz.Zay zp⟩⟩
   rcases Yy.mp ha with z|z
   ·exact⟨((Ze.refl _).upd zp) _ _ (has a z).1,(has a z).2⟩
   ·have:a=p:=by simpa using z
    subst this
    exact⟨Zc,sz.free zp⟩
  ·rintro l acc Hz ⟨as,rfl,hal,has,sz⟩ _ zl
   have gl:=(Ze.refl Hz).upd (o:=.lst (as.map V.ref)) zl
   refine hR _ _ ⟨l,List.replicate T'.length [],rfl,sz.free zl,⟨as,Zc,(λz=>by rw[(has _ z).1]at zl;cases zl),by simp[hal],λi a ps e1 e2=>?_⟩,by simp,⟨as,Zc,λa ha=>(has a ha).2⟩,sz.trans gl⟩
   have:ps=[]:=by
    rw[List.getElem?_replicate]at e2
    split at e2
    ·cases e2;rfl
    ·cases e2
   subst this
   exact⟨[],gl _ _ (has a (List.mem_of_getElem? e1)).1,rfl,λi v p h=>by simp at h⟩
 rintro σ H2 ⟨l,tab0,rfl,zl,TB,htl,FB,s2⟩
 walk_at "rd"
 have s02:=s1.trans s2
 refine⟨t,T',rfl,s02 _ _ ht,hG,ZX.same hT1 s02,λo ps H3 zo s3 hpm hpw ho=>⟨o,rfl,⟨_,SqL.of ho⟩,?_⟩⟩
 have s03:=s02.trans s3
 have zl0:H l=none:=s1.free zl
 have nd:ps.Nodup:=hpm.nodup_iff.mpr (Zh7 _)
 obtain⟨as0,hla0,_⟩:=id TB
 have nlo:o≠l:=λz=>by rw[z,hla0]at zo;cases zo
 have nly:y≠l:=λz=>by rw[z,zl]at hys;cases hys
 refine ZhN (xs:=ps.map V.int) (λk σ Hx=>∃(v4:Option V) (tab:List (List Pt)),σ=[some (.ref t),some (.ref x),some (.ref y),some (.ref l),v4]/\Zak Hx l tab/\tab.length=T'.length/\FrL H Hx l/\(∀v:Nat,(v:Int)∈ps.take k->Za6 T' ts tab v)/\Exc l H3 Hx) ⟨none,tab0,rfl,TB.same s3,htl,(by obtain⟨as,h1,h2⟩:=FB;exact⟨as,s3 _ _ h1,λa ha=>s1.free (h2 a ha)⟩),(λv h=>absurd h (by simp)),(Ze.refl H3).Zjg⟩ (λk σ Hx _ ⟨_,_,_,_,_,_,_,e⟩=>SqL.of (e _ _ nlo ho)) ?_ ?_
 ·rintro k w σ Hx hw ⟨v4,tab,rfl,TBx,htx,FBx,hdone,ex⟩
  obtain⟨v,rfl,hpk,hvT⟩:∃v:Nat,w=V.int (v:Int)/\ps[k]?=some (v:Int)/\v<T'.length:=by
   rw[YB]at hw
   cases e:ps[k]? with
   |none=>rw[e]at hw;cases hw
   |some u =>
    rw[e]at hw;cases hw
    obtain⟨v,hv,rfl⟩:=YF.mp (hpm.mem_iff.mp (List.mem_of_getElem? e))
    exact⟨v,rfl,rfl,by have:=Yq.mp hv;omega⟩
  have hv0:(v:Int)∉ps.take k:=λz=>by
   obtain⟨m,hm,em⟩:=List.mem_take_iff_getElem.mp z
   obtain⟨hi,ei⟩:=Yh.mp hpk
   have:=(List.getElem_inj nd (h₀:=by omega) (h₁:=hi)).mp (em.trans ei.symm)
   omega
  have kidT:∀c,c<T'.length->nth T' c=v->(c:Int)∈ps.take k:=λc hc e=>Zjv hT hpm hpw hpk hc e
  have kidV:∀c,c<T'.length->nth T' c=v->c≠v:=λc hc e z=>hv0 (z▸kidT c hc e)
  obtain⟨a,ea⟩:∃a,ys[v]?=some a:=⟨_,Yb (by omega)⟩
  obtain⟨ah,bh,hA,hB,ha⟩:=hyp v a ea
  have nla:a≠l:=λz=>by rw[z,zl]at ha;cases ha
  have s3x:∀b u,b≠l->H1 b=some u->Hx b=some u:=λb u n e=>ex _ _ n ((s2.trans s3) _ _ e)
  have sHx:Ze H Hx:=s03.exc zl0 ex
  have kA:Znb tab ts.length ah:=by
   cases ah with
   |none=>trivial
   |some c=>exact⟨by have:=hA.2.1;omega,(hdone c (kidT c hA.2.1 hA.2.2)).1⟩
  have kB:Znb tab ts.length bh:=by
   cases bh with
   |none=>trivial
   |some c=>exact⟨by have:=hB.2.1;omega,(hdone c (kidT c hB.2.1 hB.2.2)).1⟩
  have hyx:Hx y=some (.lst (ys.map V.ref)):=s3x _ _ nly hys
  have hax:Hx a=some (.lst [optN ah,optN bh]):=s3x _ _ nla ha
  walk_at "rd"
  refine⟨_,sHx.q hx,by omega,by omega,?_⟩
  rw[eX,show((ts.length:Nat):Int).toNat=ts.length by omega]
  refine Za0 (n:=ts.length) (λj acc Hz=>∃rs:List Pt,acc.length=j/\rs.length=j/\(∀(i:Nat) (u:V) (p:Pt),acc[i]?=some u->rs[i]?=some p->Zaf Hz u p)/\(∀i,i<j->Zbw ts tab i ah bh (rs.getD i none))/\Ze Hx Hz) (Yt (show _<=1000 by omega) (by decide)) ⟨[],rfl,rfl,(λi u p h=>by simp at h),(λi h=>absurd h (by omega)),Ze.refl Hx⟩ (λj acc Hz _ hj=>hj) (λacc Hz _=>Yc _) ?_ ?_
  ·rintro j u acc Hz Hw hj hla ⟨rs,hal,hrl,hpr,hru,sz⟩ ⟨rfl,rfl⟩
   rw[show(0:Int)+(j:Int)=((j:Nat):Int) by omega]
   walk_at "rd"
   refine⟨_,SqL.of (sz _ _ hyx),V.ref a,Zf7 (by rw[YB,ea];rfl),x,l,a,ts,tab,ah,bh,j,rfl,(sHx.trans sz).q hx,TBx.same sz,sz _ _ hax,kA,kB,h16,hj,ZX.same hT2 (sHx.trans sz),ZX.same hT3 (sHx.trans sz),λu p H5 s5 hR hP=>CA.take hj hla ⟨by simp[hal],rs++[p],by simp[hrl],λi u' p' e1 e2=>?_,λi hi=>?_,sz.trans s5⟩⟩
   ·by_cases c:i<j
    ·rw[YL (by omega)]at e1 e2
     exact(hpr i u' p' e1 e2).same s5
    ·have h1:=(Yh.mp e1).1
     have:i=j:=by simp at h1;omega
     subst this
     rw[YK (by omega),hal,Nat.sub_self]at e1
     rw[YK (by omega),hrl,Nat.sub_self]at e2
     cases e1;cases e2;exact hP
   ·by_cases c:i<j
    ·rw[Yi,YL (by omega),<-Yi]
     exact hru i c
    ·have:i=j:=by omega
     subst this
     rw[Yi,YK (by omega),hrl,Nat.sub_self]
     exact hR
  ·rintro r acc Hz ⟨rs,hal,hrl,hpr,hru,sz⟩ _ zr
   have gr:=(Ze.refl Hz).upd (o:=.lst acc) zr
   obtain⟨as,hla,hasn,hasl,hasp⟩:=TBx
   have hlz:=gr _ _ (sz _ _ hla)
   have hrr:=Zc (H:=Hz) (a:=r) (o:=.lst acc)
   have nrl:r≠l:=λz=>by rw[z,sz _ _ hla]at zr;cases zr
   have szr:=sz.trans gr
   generalize upd Hz r (.lst acc)=H6 at gr hlz hrr szr⊢
   refine⟨_,hlz,v,Zfg (by rw[Yf];omega),tab.set v rs,⟨as.set v r,by rw[Zc,List.map_set],λz=>?_,by simp[hasl],λi b qs e1 e2=>?_⟩,by simp[htx],?_,λw hw=>?_,(ex.same szr).trans Exc.upd⟩
   ·rcases List.mem_or_eq_of_mem_set z with z|z
    ·exact hasn z
    ·exact nrl z.symm
   ·by_cases c:i=v
    ·subst c
     rw[List.getElem?_set_self (by omega)]at e1 e2
     cases e1;cases e2
     exact⟨acc,by rw[Zh nrl];exact hrr,by omega,λi u p f1 f2=>((hpr i u p f1 f2).same gr).excL hlz Exc.upd⟩
    ·rw[List.getElem?_set_ne (Ne.symm c)]at e1 e2
     obtain⟨vals,g1,g2,g3⟩:=(hasp i b qs e1 e2).same szr
     have nb:b≠l:=λz=>hasn (z▸List.mem_of_getElem? e1)
     exact⟨vals,by rw[Zh nb];exact g1,g2,λi u p f1 f2=>(g3 i u p f1 f2).excL hlz Exc.upd⟩
   ·obtain⟨as',f1,f2⟩:=FBx
    rw[hla]at f1
    have ea':as=as':=by
     have:=HO.lst.inj (YD f1)
     exact(List.map_inj_right (λ_ _ h=>V.ref.inj h)).mp this
    subst ea'
    refine⟨as.set v r,by rw[Zc,List.map_set],λb hb=>?_⟩
    rcases List.mem_or_eq_of_mem_set hb with hb|rfl
    ·exact f2 b hb
    ·exact(sHx.trans sz).free zr
   ·rw[List.take_succ,hpk]at hw
    rcases Yy.mp hw with hw|hw
    ·refine(hdone w hw).set (λz=>hv0 (z▸hw)) λc hc e z=>?_
     obtain⟨m,hm,em⟩:=List.mem_take_iff_getElem.mp hw
     have:=Zjv hT hpm hpw (k:=m) (c:=c) (v:=w) (Yh.mpr ⟨by omega,em⟩) hc e
     obtain⟨m2,hm2,em2⟩:=List.mem_take_iff_getElem.mp this
     exact hv0 (z▸List.mem_take_iff_getElem.mpr ⟨m2,by omega,em2⟩)
    ·have:w=v:=by simp at hw;omega
     subst this
     exact Za6.new (by omega) hrl hA hB kidV hru
 ·rintro σ Hx ⟨v4,tab,rfl,TBx,htx,FBx,hdone,ex⟩
  walk_at "rd"
  refine k1 l tab Hx zl0 TBx FBx ⟨htx,λv hv=>hdone v ?_⟩ (s03.exc zl0 ex)
  rw[List.take_of_length_le (by simp)]
  exact hpm.mem_iff.mpr (YF.mpr ⟨v,Yq.mpr (by omega),rfl⟩)
theorem ZiR {f:Addr}{fd:FuncData} (F:Fun K "need_loose" "need_loose" ZaE f fd) (ZbV:Zj6 P w K mg base "need_numbers" 1 ["row","fewest"] [V.int 1] (ZaQ K mg)) (T:Txt K mg):FnOk P w K mg base (CXE P w) 2 f fd ["row","text"] (Zc2 K mg):=by
 refine F.okX ZiL (λvs H Q E h=>?_) (λcdv A outer s H vs Q E hr h=>?_)
 ·obtain⟨r,x,ns,ts,rfl,_⟩:=h;rfl
 obtain⟨r,x,ns,ts,rfl,hr1,hx,h0,h6,h16,k1⟩:=h
 refine⟨_,(Zd (Z1 (ZnS ZbV (hr.mono (by decide)) rfl ZhA (Za (pv 0) Zb)))
   (Zd (Z2 (Zj Zeq (Zk (Zp (K:=K) rfl) rfl T.b_len YA (Za (pv 0) Zb)) (Zhx (v:=.int 6) rfl T.m_MOST_HELD ⟨_,rfl⟩) (Zn _)) (Zg (ZhR rfl rfl T.c_TooMany T.x_TooMany (Za (ZgH (ZdP (by decide) (ZjU (Zhx (v:=.int 6) rfl T.m_MOST_HELD ⟨_,rfl⟩) (ZdP (by decide) ZlU)))) Zb) ZjV)) ZH)
   (Zg (Z2 (Zj Zeq (Zk (Zp (K:=K) rfl) rfl T.b_len YA (Za (pv 1) Zb)) (Zhx (v:=.int 16) rfl T.m_MOST_HOLDING ⟨_,rfl⟩) (Zn _)) (Zg (ZhR rfl rfl T.c_TooMany T.x_TooMany (Za (ZgH (ZdP (by decide) (ZjU (Zhx (v:=.int 16) rfl T.m_MOST_HOLDING ⟨_,rfl⟩) (ZdP (by decide) ZlU)))) Zb) ZjV)) ZH)))),?_⟩
 walk_at "rd"
 have e1:(ns.map V.int).length=ns.length:=Yf ..
 have e2:(ts.map V.int).length=ts.length:=Yf ..
 exact⟨r,ns,1,rfl,hr1,by omega,by decide,by decide,λ_=>⟨_,hr1,ZD (λz=>absurd z (by omega)) λ_=>⟨_,hx,ZD (λz=>absurd z (by omega)) λ_=>k1⟩⟩,λz=>absurd z (by omega)⟩
theorem Zlm {f:Addr}{fd:FuncData} (F:Fun K "table_of" "table_of" Zbo f fd) (ZgV:Callee P w K mg base "tree_of" 2 ["row"] (ZfM K mg)) (Zd0:Callee P w K mg base "need_loose" 2 ["row","text"] (Zc2 K mg)) (ZfP:Callee P w K mg base "table_by" 6 ["tree","text"] (ZeH K mg)) (T:Txt K mg):FnOk P w K mg base (CXE P w) 7 f fd ["row","text"] (ZeI K mg):=by
 refine F.okX Zlf (λvs H Q E h=>?_) (λcdv A outer s H vs Q E hr h=>?_)
 ·obtain⟨r,x,ns,ts,rfl,_⟩:=h;rfl
 obtain⟨r,x,ns,ts,rfl,hr1,hx,h0,h6,h16,hT1,hT2,hT3,k1⟩:=h
 refine⟨_,(Zd (Z1 (Zi Zd0 (hr.mono (by decide)) rfl ZhA (Za (pv 0) (Za (pv 1) Zb))))
   (Zg (Zz (Zi ZfP (hr.mono (by decide)) rfl ZA (Za (Zi ZgV (hr.mono (by decide)) rfl ZA (Za (pv 0) Zb)) (Za (pv 1) Zb)))))),?_⟩
 walk_at "rd"
 exact⟨r,x,ns,ts,rfl,hr1,hx,h0,h6,h16,r,ns,rfl,hr1,by omega,λt es H1 hE s1 ht=>⟨t,x,es,ts,rfl,ht,s1.q hx,⟨by have:=hE.1;omega,ns,hE⟩,h16,ZX.same hT1 s1,ZX.same hT2 s1,ZX.same hT3 s1,λl tab H2 zl hTB ⟨as,f1,f2⟩ hTI s2=>k1 l es tab H2 (s1.free zl) hE hTB ⟨as,f1,λa ha=>s1.free (f2 a ha)⟩ hTI (s1.trans s2)⟩⟩
theorem Zkl {f:Addr}{fd:FuncData} (F:Fun K "_law_hand" "_law_hand" ZaZ f fd) (T:Txt K mg):FnOk P w K mg base (CXE P w) 1 f fd ["tree","place","later"] (ZdU K mg):=by
 refine F.okX Zgk (λvs H Q E h=>?_) (λcdv A outer s H vs Q E hr h=>?_)
 ·obtain⟨t,T,v,lt,rfl,_⟩:=h;rfl
 obtain⟨t,T',v,lt,rfl,ht,hG,hv,k1⟩:=h
 refine⟨_,(Zd (Zaj (i:=3) ["other","place","later","tree"] [none,some 1,some 2,some 0] Zgk.nd rfl (Or.inl rfl) rfl rfl rfl (ZF rfl T.b_range (Za (Zk (Zp (K:=K) rfl) rfl T.b_len YA (Za (pv 0) Zb)) Zb)) (λ_ _ _ _ _=>(Zl (i:=0) (show(["other","place","later","tree"]:List Str).Nodup from by decide +kernel) rfl (Or.inl rfl))) (λ_ _ _ _ _=>Zai (PW.pt (ZdK (Zj Zfs (Zm (r:=Zfp K) ZO (pv 3) (pv 0) (λ_ _=>rfl)) (pv 1) (Zn _)) (ZdJ (Zj Zfs (Zf4 Zeq (pv 0) (pv 1) (Zn _)) (pv 2) (Zn _)))))) (λ_ _ _ _ _=>(pv 0)) Zr)
   (Zg (Zz (Zm Zo (Zw (Zre (K:=K) rfl) (pv 3) (ZM (Za Z8 Zb))) Zf (λ_ _=>rfl))))),?_⟩
 walk_at "rd"
 have h40:=hG.1
 have eL:(T'.map V.int).length=T'.length:=Yf ..
 refine⟨_,.inr (SqT.of ht),by omega,by omega,?_⟩
 rw[eL,show((T'.length:Nat):Int).toNat=T'.length by omega]
 refine Zan (n:=T'.length) (λo=>decide (nth T' o=v/\decide (v<o)=lt)) (λo=>V.int (o:Int)) (Yt (show _<=1000 by omega) (by decide)) (λj Hz s hj=>hj) (λHz s=>Yc _) ?_ ?_
 ·rintro j y Hz Hw hj sz ⟨rfl,rfl⟩
  rw[show(0:Int)+(j:Int)=((j:Nat):Int) by omega]
  walk_at "rd"
  refine⟨_,SqT.of (sz _ _ ht),_,Z4 hj,rfl,ZD (λc1=>?_) λc1=>CF.skip hj (YC λz=>c1 (by rw[z.1])) sz⟩
  have e1:nth T' j=v:=V.int.inj c1
  have e2:decide ((v:Int)<(j:Int))=decide (v<j):=decide_eq_decide.mpr (by omega)
  rw[e2]
  exact ZD (λc2=>CF.take hj (Yz ⟨e1,c2⟩) rfl sz) λc2=>CF.skip hj (YC λz=>c2 z.2) sz
 ·intro lf Hz sz hlf
  have gl:=(Ze.refl Hz).upd (o:=.lst (((List.range T'.length).filter λo=>decide (nth T' o=v/\decide (v<o)=lt)).map λ(o:Nat)=>V.int (o:Int))) hlf
  have hlf2:=Zc (H:=Hz) (a:=lf) (o:=.lst (((List.range T'.length).filter λo=>decide (nth T' o=v/\decide (v<o)=lt)).map λ(o:Nat)=>V.int (o:Int)))
  have s1:=sz.trans gl
  generalize upd Hz lf (.lst (((List.range T'.length).filter λo=>decide (nth T' o=v/\decide (v<o)=lt)).map λ(o:Nat)=>V.int (o:Int)))=H1 at gl hlf2 s1⊢
  refine⟨by decide,λp zp=>?_⟩
  have g2:=(Ze.refl H1).upd (o:=.lst [V.non]) zp
  refine⟨lf,rfl,_,SqL.of (g2 _ _ hlf2),_,SqL.of Zc,Ym (show _<=1000 by
   have:=Y3 (λo=>decide (nth T' o=v/\decide (v<o)=lt)) (List.range T'.length)
   rw[YS]at this
   rw[Yf];simp only[YQ,List.length_nil];omega) (by decide),λp2 zp2=>?_⟩
  have g3:=(s1.trans g2).Zay (o:=.lst ((((List.range T'.length).filter λo=>decide (nth T' o=v/\decide (v<o)=lt)).map λ(o:Nat)=>V.int (o:Int))++[V.non])) zp2
  refine⟨_,SqL.of Zc,?_⟩
  have nov:∀o,o<T'.length->nth T' o=v->o≠v:=λo ho e z=>by
   obtain⟨_,nsT,hT⟩:=id hG
   have eT:=hT.1
   have:=ZgS hT (p:=o) (by omega) e
   rw[z]at this;omega
  have hmem:∀o:Nat,o∈((List.range T'.length).filter λo=>decide (nth T' o=v/\decide (v<o)=lt))↔o<T'.length/\nth T' o=v/\decide (v<o)=lt:=λo=>by rw[YG,Yq,decide_eq_true_iff]
  cases hF:((List.range T'.length).filter λo=>decide (nth T' o=v/\decide (v<o)=lt))with
  |nil =>
   rw[hF]at hmem
   rw[hF]at g3
   refine⟨V.non,rfl,k1 none _ (λhl c c1 c2 e=>?_) (λhl c c1 c2 e=>?_) g3⟩
   ·exact absurd ((hmem c).mpr ⟨c2,e,by rw[hl];exact YC (by omega)⟩) (by simp)
   ·exact absurd ((hmem c).mpr ⟨c2,e,by rw[hl];exact Yz c1⟩) (by simp)
  |cons o os =>
   rw[hF]at hmem
   rw[hF]at g3
   obtain⟨o1,o2,o3⟩:=(hmem o).mp Yr
   refine⟨V.int (o:Int),ZeC (j:=0) rfl (by simp),k1 (some o) _ (λhl=>⟨?_,o1,o2⟩) (λhl=>⟨?_,o1,o2⟩) g3⟩
   ·have:=nov o o1 o2
    rw[hl]at o3
    have:=of_decide_eq_false o3
    omega
   ·rw[hl]at o3
    exact YV o3
theorem ZiS {f:Addr}{fd:FuncData} (F:Fun K "_law_under" "_law_under" ZaH f fd) (ZeP:Callee P w K mg base "_law_over" 1 ["tree","place"] (ZdT K mg)) (T:Txt K mg):FnOk P w K mg base (CXE P w) 2 f fd ["tree","place"] (Zbx K mg):=by
 refine F.okX ZiM (λvs H Q E h=>?_) (λcdv A outer s H vs Q E hr h=>?_)
 ·obtain⟨t,T,v,rfl,_⟩:=h;rfl
 obtain⟨t,T',v,rfl,ht,hG,k1⟩:=h
 refine⟨_,(Zg (Zz (ZW ["other","place","tree"] [none,some 1,some 0] rfl rfl rfl (ZF rfl T.b_range (Za (Zk (Zp (K:=K) rfl) rfl T.b_len YA (Za (pv 0) Zb)) Zb)) (λ_ _ _ _ _=>(Zl (i:=0) (show(["other","place","tree"]:List Str).Nodup from by decide +kernel) rfl (Or.inl rfl))) (λ_ _ _ _ _=>Zai (PW.pt (Zi6 (Zj Zfs (pv 0) (pv 1) (Zn _)) (ZhK (Zj (op_inK (K:=K) rfl) (pv 1) (Zi ZeP (hr.mono (by decide)) rfl ZA (Za (pv 2) (Za (pv 0) Zb))) (by with_unfolding_all rfl)))))) (λ_ _ _ _ _=>(pv 0)) Zr))),?_⟩
 walk_at "rd"
 have h40:=hG.1
 obtain⟨_,nsT,hT⟩:=id hG
 have eL:(T'.map V.int).length=T'.length:=Yf ..
 refine⟨_,.inr (SqT.of ht),by omega,by omega,?_⟩
 rw[eL,show((T'.length:Nat):Int).toNat=T'.length by omega]
 refine Zan (n:=T'.length) (λo=>decide (o=v\/v∈way T' o)) (λo=>V.int (o:Int)) (Yt (show _<=1000 by omega) (by decide)) (λj Hz s hj=>hj) (λHz s=>Yc _) ?_ ?_
 ·rintro j y Hz Hw hj sz ⟨rfl,rfl⟩
  rw[show(0:Int)+(j:Int)=((j:Nat):Int) by omega]
  walk_at "rd"
  refine ZD (λc=>CF.take hj (Yz (.inl (by omega))) rfl sz) λc=>⟨t,T',j,rfl,sz _ _ ht,by omega,hj,Zl9 hT hj,λw H2 zw s2 hw=>⟨w,rfl,_,.inl (SqL.of hw),rfl,ZnQ _,?_⟩⟩
  rw[Zq7]
  have ew:(v:Int)∈ZnP T' j↔v∈way T' j:=by
   rw[Zge,YF]
   exact⟨λ⟨q,hq,e⟩=>by rw[<-show q=v by omega];exact hq,λh=>⟨v,h,rfl⟩⟩
  exact ZD (λc2=>CF.take hj (Yz (.inr (ew.mp (YV c2)))) rfl (sz.trans s2)) λc2=>CF.skip hj (YC λz=>z.elim (λy=>c (by omega)) λy=>c2 (Yz (ew.mpr y))) (sz.trans s2)
 ·intro lf Hz sz hlf
  exact k1 lf _ _ (sz.free hlf) Zc ⟨by rw[Yf];rfl,by unfold unL;rw[YU];rfl⟩ (sz.Zay hlf)
theorem ZiT {f:Addr}{fd:FuncData} (F:Fun K "_law_ruled" "_law_ruled" ZaI f fd) (ZcJ:Callee P w K mg base "_law_hand" 1 ["tree","place","later"] (ZdU K mg)) (T:Txt K mg):FnOk P w K mg base (CXE P w) 2 f fd ["tree","text","table","place","at"] (Zc4 K mg):=by
 refine F.okX ZL (λvs H Q E h=>?_) (λcdv A outer s H vs Q E hr h=>?_)
 ·obtain⟨t,x,l,T,ts,tab,v,i,rfl,_⟩:=h;rfl
 obtain⟨t,x,l,T',ts,tab,v,i,rfl,ht,hx,hl,hG,hv,hi,h16,hk,k1⟩:=h
 refine⟨_,(Zd (Zq (i:=5) ZL.nd rfl (Or.inl rfl) (ZM (Za (pv 4) Zb)))
   (Zd (Zq (i:=6) ZL.nd rfl (Or.inl rfl) (ZM (Za (pv 4) Zb)))
   (Zd (Zq (i:=7) ZL.nd rfl (Or.inr rfl) (Zi ZcJ (hr.mono (by decide)) rfl ZA (Za (pv 0) (Za (pv 3) (Za Zg3 Zb)))))
   (Zd (Zq (i:=8) ZL.nd rfl (Or.inr rfl) (Zi ZcJ (hr.mono (by decide)) rfl ZA (Za (pv 0) (Za (pv 3) (Za Zg3 Zb)))))
   (Zd (Z2 (Zj ZcC (pv 7) Z8 (Zn _)) (Zd (Zaj (i:=9) ["j","table","ahead","text","at"] [none,some 2,some 7,some 1,some 4] ZL.nd rfl (Or.inl rfl) rfl rfl rfl (ZF rfl T.b_range (Za (pv 4) Zb)) (λ_ _ _ _ _=>(Zl (i:=0) (show(["j","table","ahead","text","at"]:List Str).Nodup from by decide +kernel) rfl (Or.inl rfl))) (λ_ _ _ _ _=>Zai (PW.pt (ZdK (Zj Zeq (Zm (r:=ZcW K) Zo (pv 3) (pv 0) (λ_ _=>rfl)) (Zm (r:=ZcW K) Zo (pv 3) (pv 4) (λ_ _=>rfl)) (Zn _)) (ZdJ (Zj ZcC (Zm (r:=ZcW K) Zo (Zm (r:=ZcW K) Zo (pv 1) (pv 2) (λ_ _=>rfl)) (pv 0) (λ_ _=>rfl)) Z8 (Zn _)))))) (λ_ _ _ _ _=>(Zm (r:=ZcW K) Zo (Zm (r:=ZcW K) Zo (pv 1) (pv 2) (λ_ _=>rfl)) (pv 0) (λ_ _=>rfl))) Zr)
   (Zg (Zaj (i:=5) ["pair","at"] [none,some 4] ZL.nd rfl (Or.inl rfl) rfl rfl rfl (Zav (pv 9)) (λ_ _ _ _ _=>(Zl (i:=0) (show(["pair","at"]:List Str).Nodup from by decide +kernel) rfl (Or.inl rfl))) (λ_ _ _ _ _=>Zai (Zj Zf3 (Zm (r:=Zfp K) ZO (pv 0) Zf (λ_ _=>rfl)) (pv 1) (Zn _))) (λ_ _ _ _ _=>(Zm (r:=Zfp K) ZO (pv 0) Zf (λ_ _=>rfl))) Zr))) ZH)
   (Zd (Z2 (Zj ZcC (pv 8) Z8 (Zn _)) (Zd (Zaj (i:=9) ["j","table","behind","text","at"] [none,some 2,some 8,some 1,some 4] ZL.nd rfl (Or.inl rfl) rfl rfl rfl (Zfe rfl T.b_range (Za (Zw Zbj (pv 4) Zf) (Za (Zk (Zp (K:=K) rfl) rfl T.b_len YA (Za (pv 1) Zb)) Zb))) (λ_ _ _ _ _=>(Zl (i:=0) (show(["j","table","behind","text","at"]:List Str).Nodup from by decide +kernel) rfl (Or.inl rfl))) (λ_ _ _ _ _=>Zai (Zj ZkL (Zm (r:=ZcW K) Zo (pv 3) (pv 0) (λ_ _=>rfl)) (Zm (r:=ZcW K) Zo (pv 3) (pv 4) (λ_ _=>rfl)) (Zn _))) (λ_ _ _ _ _=>(Zm (r:=ZcW K) Zo (Zm (r:=ZcW K) Zo (pv 1) (pv 2) (λ_ _=>rfl)) (pv 0) (λ_ _=>rfl))) Zr)
   (Zg (Zaj (i:=6) ["pair","at"] [none,some 4] ZL.nd rfl (Or.inl rfl) rfl rfl rfl (Zav (pv 9)) (λ_ _ _ _ _=>(Zl (i:=0) (show(["pair","at"]:List Str).Nodup from by decide +kernel) rfl (Or.inl rfl))) (λ_ _ _ _ _=>Zai (PW.pt (ZdK (Zj ZcC (pv 0) Z8 (Zn _)) (ZdJ (Zj Zeq (Zm (r:=Zfp K) ZO (pv 0) Zf (λ_ _=>rfl)) (pv 1) (Zn _)))))) (λ_ _ _ _ _=>(Zm (r:=Zfp K) ZO (pv 0) Zf (λ_ _=>rfl))) Zr))) ZH)
   (Zd (Z2 (PW.pt (Zi6 (Zj (ZhS (K:=K) rfl hr) (pv 5) (ZM Zb) (Zn _)) (ZhK (Zj (ZhS (K:=K) rfl hr) (pv 6) (ZM Zb) (Zn _))))) (Zg (Zz Z8)) ZH)
   (Zg (Zz (ZcV (Za (Zk (Zjs rfl) rfl T.b_max ZjW (Za (pv 5) Zb)) (Za (Zk (Zje rfl) rfl T.b_min ZjX (Za (pv 6) Zb)) Zb)))))))))))),?_⟩
 have eX:(ts.map V.int).length=ts.length:=Yf ..
 refine ZY (fun σ Hx=>∃fa,σ=[some (.ref t),some (.ref x),some (.ref l),some (.int (v:Int)),some (.int (i:Int)),some (.ref fa),none,none,none,none]/\Hx fa=some (.lst ([(i:Int)].map V.int))/\Ze H Hx) (λR hR=>?_) ?_
 ·walk_at "rd"
  exact⟨by decide,λq zq=>hR _ _ ⟨q,rfl,Zc,(Ze.refl H).upd zq⟩⟩
 rintro σ H1 ⟨fa,rfl,hfa,s1⟩
 refine ZY (fun σ Hx=>∃la,σ=[some (.ref t),some (.ref x),some (.ref l),some (.int (v:Int)),some (.int (i:Int)),some (.ref fa),some (.ref la),none,none,none]/\Hx la=some (.lst ([(i:Int)].map V.int))/\Ze H1 Hx) (λR hR=>?_) ?_
 ·walk_at "rd"
  exact⟨by decide,λq zq=>hR _ _ ⟨q,rfl,Zc,(Ze.refl H1).upd zq⟩⟩
 rintro σ H2 ⟨la,rfl,hla,s2⟩
 replace hfa:=s2 _ _ hfa
 replace s1:=s1.trans s2
 clear s2 H1
 refine ZY (fun σ Hx=>∃ah,σ=[some (.ref t),some (.ref x),some (.ref l),some (.int (v:Int)),some (.int (i:Int)),some (.ref fa),some (.ref la),some (optN ah),none,none]/\Z7 T' v ah/\Ze H2 Hx) (λR hR=>?_) ?_
 ·walk_at "rd"
  exact⟨t,T',v,false,rfl,s1 _ _ ht,hG,hv,λo H3 a1 _ s3=>hR _ _ ⟨o,rfl,a1 rfl,s3⟩⟩
 rintro σ H3 ⟨ah,rfl,hA,s3⟩
 refine ZY (fun σ Hx=>∃bh,σ=[some (.ref t),some (.ref x),some (.ref l),some (.int (v:Int)),some (.int (i:Int)),some (.ref fa),some (.ref la),some (optN ah),some (optN bh),none]/\ZQ T' v bh/\Ze H3 Hx) (λR hR=>?_) ?_
 ·walk_at "rd"
  exact⟨t,T',v,true,rfl,(s1.trans s3) _ _ ht,hG,hv,λo H4 _ a2 s4=>hR _ _ ⟨o,rfl,a2 rfl,s4⟩⟩
 rintro σ H4 ⟨bh,rfl,hB,s4⟩
 replace hfa:=s4 _ _ (s3 _ _ hfa)
 replace hla:=s4 _ _ (s3 _ _ hla)
 replace s1:=s1.trans (s3.trans s4)
 clear s3 s4 H2 H3
 refine ZY (fun σ Hx=>∃fb fs v9,σ=[some (.ref t),some (.ref x),some (.ref l),some (.int (v:Int)),some (.int (i:Int)),some (.ref fb),some (.ref la),some (optN ah),some (optN bh),v9]/\Hx fb=some (.lst (fs.map V.int))/\fs.length<=16/\FsOk ts tab i ah fs/\Ze H4 Hx) (λR hR=>?_) ?_
 ·walk_at "rd"
  cases ah with
  |none=>exact ZD (λz=>absurd rfl z) λ_=>hR _ _ ⟨fa,_,none,rfl,hfa,by simp,rfl,Ze.refl H4⟩
  |some c =>
   refine ZD (λ_=>?_) λz=>absurd (λy=>nomatch y) z
   obtain⟨c1,c2,c3⟩:=hA
   obtain⟨hc,hcl⟩:=hk c c2 c3
   obtain⟨as,l1,_,l3,l4⟩:=hl.same s1
   obtain⟨a,ea,ha⟩:=ZhF l3 l4 hc
   obtain⟨vals,p1,p2,p3⟩:=ha
   have hx4:=s1 _ _ hx
   refine⟨by omega,by omega,?_⟩
   rw[show((i:Nat):Int).toNat=i by omega]
   refine Zan (n:=i) (λj=>decide (nth ts i<nth ts j/\((tab.getD c []).getD j none).isSome=true)) (λj=>vals.getD j .non) (Yt (show _<=1000 by omega) (by decide)) (λj Hz s hj=>hj) (λHz s=>Yc _) ?_ ?_
   ·rintro j y Hz Hw hj sz ⟨rfl,rfl⟩
    rw[show(0:Int)+(j:Int)=((j:Nat):Int) by omega]
    walk_at "rd"
    obtain⟨w,ew,hw⟩:=Zc7 p2 p3 (show j<(tab.getD c []).length by omega)
    have hw':=hw.same sz
    have evg:=ZhG ew
    refine⟨_,SqL.of (sz _ _ hx4),_,Z4 (by omega),_,SqL.of (sz _ _ hx4),_,Z4 (by omega),_,rfl,_,rfl,ZD (λc1=>?_) λc1=>CF.skip hj (YC λz=>c1 z.1) sz⟩
    refine⟨_,_,rfl,SqL.of (sz _ _ l1),_,ea,a,rfl,_,SqL.of (sz _ _ p1),_,ew,ZD (λc2=>⟨_,_,rfl,SqL.of (sz _ _ l1),_,ea,a,rfl,_,SqL.of (sz _ _ p1),_,ew,CF.take hj (Yz ⟨c1,?_⟩) evg.symm sz⟩) λc2=>CF.skip hj (YC λz=>?_) sz⟩
    ·cases e:((tab.getD c []).getD j none).isSome with
     |true=>rfl
     |false=>exact absurd ((ZeM hw').mpr e) c2
    ·have z1:=z.2
     rw[(ZeM hw').mp (Decidable.of_not_not c2)]at z1
     cases z1
   ·intro lf Hz sz hlf
    have hjs:∀j,j∈((List.range i).filter λj=>decide (nth ts i<nth ts j/\((tab.getD c []).getD j none).isSome=true))↔j<i/\nth ts i<nth ts j/\((tab.getD c []).getD j none).isSome=true:=λj=>by
     rw[YG,Yq,decide_eq_true_iff]
    have hjl:((List.range i).filter λj=>decide (nth ts i<nth ts j/\((tab.getD c []).getD j none).isSome=true)).length<=i:=by
     have:=Y3 (λj=>decide (nth ts i<nth ts j/\((tab.getD c []).getD j none).isSome=true)) (List.range i)
     rwa [YS]at this
    generalize ((List.range i).filter λj=>decide (nth ts i<nth ts j/\((tab.getD c []).getD j none).isSome=true))=js at hjs hjl⊢
    have g1:=sz.Zay (o:=.lst (js.map λj=>vals.getD j .non)) hlf
    have h1:=Zc (H:=Hz) (a:=lf) (o:=.lst (js.map λj=>vals.getD j .non))
    generalize upd Hz lf (.lst (js.map λj=>vals.getD j .non))=H5 at g1 h1⊢
    refine⟨lf,rfl,⟨_,SqL.of h1⟩,?_⟩
    refine Zan (n:=js.length) (λk=>decide ((ZR (tab.getD c []) (js.getD k 0)).2<i)) (λk=>V.int (ZR (tab.getD c []) (js.getD k 0)).1) (Yt (show _<=1000 by omega) (by decide)) (λk Hz s hk=>⟨_,_,SqL.of (s _ _ h1),Yb (by simpa using hk)⟩) (λHz s=>⟨_,SqL.of (s _ _ h1),by simp⟩) ?_ ?_
    ·rintro k y Hz Hw hk sz ⟨rfl,hy⟩
     have ey:=hy _ (SqL.of (sz _ _ h1))
     rw[YB,Yb hk]at ey
     cases ey
     have ejk:js.getD k 0=js[k]:=by rw[Yi,Yb hk];rfl
     obtain⟨q1,q2,q3⟩:=(hjs js[k]).mp (YI hk)
     obtain⟨w,ew,hw⟩:=Zc7 p2 p3 (show js[k]<(tab.getD c []).length by omega)
     have eb:(λj=>vals.getD j V.non) js[k]=w:=ZhG ew
     rw[eb]
     obtain⟨b,rfl,hb⟩:=ZcH (hw.same (g1.trans sz)) q3
     walk_at "rd"
     refine⟨_,SqT.of hb,_,rfl,_,rfl,?_⟩
     rw[<-ejk]at hb⊢
     exact ZD (λc2=>⟨_,SqT.of hb,_,rfl,CF.take hk (Yz c2) rfl sz⟩) λc2=>CF.skip hk (YC c2) sz
    ·intro lg Hw sw hlg
     have e:(((List.range js.length).filter λk=>decide ((ZR (tab.getD c []) (js.getD k 0)).2<i)).map λk=>V.int (ZR (tab.getD c []) (js.getD k 0)).1)=(((List.range js.length).filter λk=>decide ((ZR (tab.getD c []) (js.getD k 0)).2<i)).map λk=>(ZR (tab.getD c []) (js.getD k 0)).1).map V.int:=by rw[YU];rfl
     rw[e]
     refine hR _ _ ⟨lg,_,_,rfl,Zc,?_,λy=>?_,g1.trans (sw.Zay hlg)⟩
     ·have:=Y3 (λk=>decide ((ZR (tab.getD c []) (js.getD k 0)).2<i)) (List.range js.length)
      rw[YS]at this
      rw[Yf];omega
     ·rw[YF]
      constructor
      ·rintro⟨k,hk,rfl⟩
       obtain⟨k1',k2'⟩:=YG.mp hk
       have k3:=Yq.mp k1'
       have ejk:js.getD k 0=js[k]:=by rw[Yi,Yb k3];rfl
       obtain⟨q1,q2,q3⟩:=(hjs js[k]).mp (YI k3)
       rw[ejk]at k2'⊢
       exact⟨js[k],⟨q1,q3,q2,YV k2'⟩,rfl⟩
      ·rintro⟨j,⟨f1,f2,f3,f4⟩,rfl⟩
       obtain⟨k,hk,ek⟩:=List.mem_iff_getElem.mp ((hjs j).mpr ⟨f1,f3,f2⟩)
       have ejk:js.getD k 0=j:=by rw[Yi,Yb hk];exact ek
       exact⟨k,YG.mpr ⟨Yq.mpr hk,Yz (by rw[ejk];exact f4)⟩,by rw[ejk]⟩
 rintro σ H5 ⟨fb,fs,v9,rfl,hfb,hfl,hFs,s5⟩
 replace hla:=s5 _ _ hla
 replace s1:=s1.trans s5
 clear hfa s5 H4
 refine ZY (fun σ Hx=>∃lb ls v9,σ=[some (.ref t),some (.ref x),some (.ref l),some (.int (v:Int)),some (.int (i:Int)),some (.ref fb),some (.ref lb),some (optN ah),some (optN bh),v9]/\Hx lb=some (.lst (ls.map V.int))/\ls.length<=16/\LsOk ts tab i bh ls/\Ze H5 Hx) (λR hR=>?_) ?_
 ·walk_at "rd"
  cases bh with
  |none=>exact ZD (λz=>absurd rfl z) λ_=>hR _ _ ⟨la,_,_,rfl,hla,by simp,rfl,Ze.refl H5⟩
  |some c =>
   refine ZD (λ_=>?_) λz=>absurd (λy=>nomatch y) z
   obtain⟨c1,c2,c3⟩:=hB
   obtain⟨hc,hcl⟩:=hk c c2 c3
   obtain⟨as,l1,_,l3,l4⟩:=hl.same s1
   obtain⟨a,ea,ha⟩:=ZhF l3 l4 hc
   obtain⟨vals,p1,p2,p3⟩:=ha
   have hx4:=s1 _ _ hx
   refine⟨_,.inl (SqL.of hx4),by omega,by omega,by omega,by omega,?_⟩
   rw[eX,show((ts.length:Int)-((i:Int)+1)).toNat=ts.length-(i+1) by omega]
   refine Zan (n:=ts.length-(i+1)) (λk=>decide (nth ts i<=nth ts (i+1+k))) (λk=>vals.getD (i+1+k) .non) (Yt (show _<=1000 by omega) (by decide)) (λj Hz s hj=>hj) (λHz s=>Yc _) ?_ ?_
   ·rintro k y Hz Hw hk' sz ⟨rfl,rfl⟩
    rw[show(i:Int)+1+(k:Int)=((i+1+k:Nat):Int) by omega]
    walk_at "rd"
    obtain⟨w,ew,hw⟩:=Zc7 p2 p3 (show i+1+k<(tab.getD c []).length by omega)
    have evg:=ZhG ew
    refine⟨_,SqL.of (sz _ _ hx4),_,Z4 (by omega),_,SqL.of (sz _ _ hx4),_,Z4 (by omega),_,rfl,_,rfl,ZD (λc1=>?_) λc1=>CF.skip hk' (YC c1) sz⟩
    exact⟨_,_,rfl,SqL.of (sz _ _ l1),_,ea,a,rfl,_,SqL.of (sz _ _ p1),_,ew,CF.take hk' (Yz c1) evg.symm sz⟩
   ·intro lf Hz sz hlf
    have eJ:(((List.range (ts.length-(i+1))).filter λk=>decide (nth ts i<=nth ts (i+1+k))).map λk=>vals.getD (i+1+k) V.non)=(((List.range (ts.length-(i+1))).filter λk=>decide (nth ts i<=nth ts (i+1+k))).map λk=>i+1+k).map λj=>vals.getD j V.non:=by rw[YU];rfl
    rw[eJ]
    have hjs:∀j,j∈(((List.range (ts.length-(i+1))).filter λk=>decide (nth ts i<=nth ts (i+1+k))).map λk=>i+1+k)↔i<j/\j<ts.length/\nth ts i<=nth ts j:=λj=>by
     rw[YF]
     constructor
     ·rintro⟨k,hk',rfl⟩
      obtain⟨z1,z2⟩:=YG.mp hk'
      have:=Yq.mp z1
      exact⟨by omega,by omega,YV z2⟩
     ·rintro⟨z1,z2,z3⟩
      refine⟨j-(i+1),YG.mpr ⟨Yq.mpr (by omega),Yz ?_⟩,by omega⟩
      rw[show i+1+(j-(i+1))=j by omega];exact z3
    have hjl:(((List.range (ts.length-(i+1))).filter λk=>decide (nth ts i<=nth ts (i+1+k))).map λk=>i+1+k).length<=16:=by
     have:=Y3 (λk=>decide (nth ts i<=nth ts (i+1+k))) (List.range (ts.length-(i+1)))
     rw[YS]at this
     rw[Yf];omega
    generalize (((List.range (ts.length-(i+1))).filter λk=>decide (nth ts i<=nth ts (i+1+k))).map λk=>i+1+k)=js at hjs hjl⊢
    have g1:=sz.Zay (o:=.lst (js.map λj=>vals.getD j .non)) hlf
    have h1:=Zc (H:=Hz) (a:=lf) (o:=.lst (js.map λj=>vals.getD j .non))
    generalize upd Hz lf (.lst (js.map λj=>vals.getD j .non))=H6 at g1 h1⊢
    refine⟨lf,rfl,⟨_,SqL.of h1⟩,?_⟩
    refine Zan (n:=js.length) (λk=>decide (((tab.getD c []).getD (js.getD k 0) none).isSome=true/\(i:Int)<(ZR (tab.getD c []) (js.getD k 0)).1)) (λk=>V.int (ZR (tab.getD c []) (js.getD k 0)).2) (Yt (show _<=1000 by omega) (by decide)) (λk Hz s hk=>⟨_,_,SqL.of (s _ _ h1),Yb (by simpa using hk)⟩) (λHz s=>⟨_,SqL.of (s _ _ h1),by simp⟩) ?_ ?_
    ·rintro k y Hz Hw hk sz ⟨rfl,hy⟩
     have ey:=hy _ (SqL.of (sz _ _ h1))
     rw[YB,Yb hk]at ey
     cases ey
     have ejk:js.getD k 0=js[k]:=by rw[Yi,Yb hk];rfl
     obtain⟨q1,q2,q3⟩:=(hjs js[k]).mp (YI hk)
     obtain⟨w,ew,hw⟩:=Zc7 p2 p3 (show js[k]<(tab.getD c []).length by omega)
     have eb:(λj=>vals.getD j V.non) js[k]=w:=ZhG ew
     rw[eb]
     have hw':=hw.same (g1.trans sz)
     walk_at "rd"
     refine ZD (λc2=>?_) λc2=>CF.skip hk (YC λz=>?_) sz
     ·have hs:((tab.getD c []).getD js[k] none).isSome=true:=by
       cases e:((tab.getD c []).getD js[k] none).isSome with
       |true=>rfl
       |false=>exact absurd ((ZeM hw').mpr e) c2
      obtain⟨b,rfl,hb⟩:=ZcH hw' hs
      refine⟨b,rfl,_,SqT.of hb,_,rfl,_,rfl,?_⟩
      rw[<-ejk]at hb hs⊢
      exact ZD (λc3=>⟨b,rfl,_,SqT.of hb,_,rfl,CF.take hk (Yz ⟨hs,c3⟩) rfl sz⟩) λc3=>CF.skip hk (YC λz=>c3 z.2) sz
     ·have z1:=z.1
      rw[ejk,(ZeM hw').mp (Decidable.of_not_not c2)]at z1
      cases z1
    ·intro lg Hw sw hlg
     have e:(((List.range js.length).filter λk=>decide (((tab.getD c []).getD (js.getD k 0) none).isSome=true/\(i:Int)<(ZR (tab.getD c []) (js.getD k 0)).1)).map λk=>V.int (ZR (tab.getD c []) (js.getD k 0)).2)=(((List.range js.length).filter λk=>decide (((tab.getD c []).getD (js.getD k 0) none).isSome=true/\(i:Int)<(ZR (tab.getD c []) (js.getD k 0)).1)).map λk=>(ZR (tab.getD c []) (js.getD k 0)).2).map V.int:=by rw[YU];rfl
     rw[e]
     refine hR _ _ ⟨lg,_,_,rfl,Zc,?_,λy=>?_,g1.trans (sw.Zay hlg)⟩
     ·have:=Y3 (λk=>decide (((tab.getD c []).getD (js.getD k 0) none).isSome=true/\(i:Int)<(ZR (tab.getD c []) (js.getD k 0)).1)) (List.range js.length)
      rw[YS]at this
      rw[Yf];omega
     ·rw[YF]
      constructor
      ·rintro⟨k,hk,rfl⟩
       obtain⟨k1',k2'⟩:=YG.mp hk
       have k3:=Yq.mp k1'
       have ejk:js.getD k 0=js[k]:=by rw[Yi,Yb k3];rfl
       obtain⟨q1,q2,q3⟩:=(hjs js[k]).mp (YI k3)
       rw[ejk]at k2'⊢
       have k4:=YV k2'
       exact⟨js[k],⟨q1,q2,k4.1,q3,k4.2⟩,rfl⟩
      ·rintro⟨j,⟨f1,f2,f3,f4,f5⟩,rfl⟩
       obtain⟨k,hk,ek⟩:=List.mem_iff_getElem.mp ((hjs j).mpr ⟨f1,f2,f4⟩)
       have ejk:js.getD k 0=j:=by rw[Yi,Yb hk];exact ek
       exact⟨k,YG.mpr ⟨Yq.mpr hk,Yz (by rw[ejk];exact⟨f3,f5⟩)⟩,by rw[ejk]⟩
 rintro σ H6 ⟨lb,ls,v9,rfl,hlb,hll,hLs,s6⟩
 replace hfb:=s6 _ _ hfb
 replace s1:=s1.trans s6
 clear hla s6 H5
 walk_at "rd"
 refine⟨Yv _,λp zp=>?_⟩
 have g1:=(Ze.refl H6).upd (o:=.lst []) zp
 refine⟨_,Zjq (g1 _ _ hfb) Zc,ZD (λz=>?_) λz=>⟨Yv _,λp2 zp2=>?_⟩⟩
 ·have e:fs=[]:=by simpa using z
  subst e
  obtain⟨b,hb⟩:=Zkk ts tab i bh
  exact k1 .non none ah bh _ hA hB ⟨none,b,Zrk hFs,hb,Zju.symm⟩ rfl (s1.trans g1)
 have nf:fs≠[]:=by simpa using z
 have g2:=(Ze.refl (upd H6 p (.lst []))).upd (o:=.lst []) zp2
 have gA:=g1.trans g2
 refine⟨_,Zjq (gA _ _ hlb) Zc,ZD (λz=>?_) λz=>?_⟩
 ·have e:ls=[]:=by simpa using z
  subst e
  obtain⟨a,ha⟩:=Zlh ts tab i ah
  exact k1 .non none ah bh _ hA hB ⟨a,none,ha,Zrm hLs,Zml.symm⟩ rfl (s1.trans gA)
 have nl:ls≠[]:=by simpa using z
 refine⟨fs,SqL.of (gA _ _ hfb),nf,λm hm hmx=>⟨ls,SqL.of (gA _ _ hlb),nl,λm2 hm2 hmx2=>⟨by decide,λq zq=>?_⟩⟩⟩
 exact k1 (.ref q) (some (m,m2)) ah bh _ hA hB ⟨some m,some m2,Zrl hFs hm hmx,Zrn hLs hm2 hmx2,rfl⟩ ⟨q,rfl,Zc⟩ ((s1.trans gA).Zay zq)
theorem Zfu {α:Type}{p q:α->Bool}{a:α}:∀{l:List α},(∀x∈l,p x=true->q x=true)->a∈l->q a=true->p a=false->(l.filter p).length<(l.filter q).length
 |[],_,h,_,_=>absurd h (by simp)
 |b::l,hpq,h,h1,h2=>by
  have le:(l.filter p).length<=(l.filter q).length:=by
   clear h h1 h2 a
   induction l with
   |nil=>exact Yc _
   |cons c l ih =>
    have ih:=ih λx hx=>hpq x (by simp only[Yk]at hx⊢;rcases hx with z|z<;>simp[z])
    by_cases c1:p c=true
    ·rw[List.filter_cons_of_pos c1,List.filter_cons_of_pos (hpq c (by simp) c1)];simpa using ih
    ·rw[List.filter_cons_of_neg c1]
     by_cases c2:q c=true
     ·rw[List.filter_cons_of_pos c2];simp only[YQ];omega
     ·rw[List.filter_cons_of_neg c2];exact ih
  rcases Yk.mp h with z|z
  ·subst z
   rw[List.filter_cons_of_neg (by rw[h2];decide),List.filter_cons_of_pos h1];simp only[YQ];omega
  ·have ih:=Zfu (λx hx=>hpq x (Ys _ hx)) z h1 h2
   by_cases c1:p b=true
   ·rw[List.filter_cons_of_pos c1,List.filter_cons_of_pos (hpq b (by simp) c1)];simpa using ih
   ·rw[List.filter_cons_of_neg c1]
    by_cases c2:q b=true
    ·rw[List.filter_cons_of_pos c2];simp only[YQ];omega
    ·rw[List.filter_cons_of_neg c2];exact ih
theorem Zrp {ns T:List Int} (hT:Zs ns T) {c v:Nat} (hc:c<T.length) (hv:v<T.length) (h:nth T c=v):unI T (c:Int)<unI T (v:Int):=by
 have eT:=hT.1
 have wc:=ZdA hT (p:=c) (by omega) h
 have key:unN T c<unN T v:=by
  unfold unN
  refine Zfu (a:=v) (λo ho z=>?_) (Yq.mpr hv) (Yz (.inl rfl)) (YC λz=>?_)
  ·have ho:=Yq.mp ho
   refine Yz (.inr ?_)
   rcases YV z with z|z
   ·subst z;rw[wc];simp
   ·obtain⟨X,e⟩:=Zjr hT _ o c (by omega) rfl z
    rw[e,wc];simp
  ·rcases z with z|z
   ·subst z
    have:=congrArg List.length wc
    simp at this
   ·obtain⟨X,e⟩:=Zjr hT _ v c (by omega) rfl z
    have:=congrArg List.length e
    rw[wc]at this
    simp at this
    omega
 unfold unI
 simp only[YX]
 omega
theorem Zia {ns T qs:List Int} (hT:Zs ns T) (hpm:qs.Perm (nats (T.length:Int))) (hpw:qs.Pairwise λx y=>unI T x<=unI T y) {k c v:Nat} (e:qs[k]?=some (v:Int)) (hc:c<T.length) (h:nth T c=v):(c:Int)∈qs.take k:=by
 have eT:=hT.1
 have hvm:=hpm.mem_iff.mp (List.mem_of_getElem? e)
 obtain⟨v',hv',ev'⟩:=YF.mp hvm
 have hvT:v<T.length:=by have:=Yq.mp hv';omega
 have hd:=Zrp hT hc hvT h
 have hm:(c:Int)∈qs:=hpm.mem_iff.mpr (YF.mpr ⟨c,Yq.mpr (by omega),rfl⟩)
 obtain⟨m,hm1,em⟩:=Y5 hm
 obtain⟨hk,ek⟩:=Yh.mp e
 by_cases hlt:m<k
 ·exact List.mem_take_iff_getElem.mpr ⟨m,by omega,em⟩
 ·exfalso
  by_cases he:m=k
  ·subst he
   rw[em]at ek
   rw[ek]at hd;omega
  ·have:=List.pairwise_iff_getElem.mp hpw k m hk hm1 (by omega)
   rw[em,ek]at this
   omega
theorem Za6.newE {T ts:List Int}{tab:List (List Pt)}{v:Nat}{rs:List Pt} (hv:v<tab.length) (hl:rs.length=ts.length) (hk:∀c,c<T.length->nth T c=v->c≠v) (h:∀i,i<ts.length->∃ah bh,Z7 T v ah/\ZQ T v bh/\Zbw ts tab i ah bh (rs.getD i none)):Za6 T ts (tab.set v rs) v:=by
 unfold Za6
 rw[Zjw hv]
 refine⟨hl,λi hi=>?_⟩
 obtain⟨ah,bh,hA,hB,hR⟩:=h i hi
 exact⟨ah,bh,hA,hB,ZgT hA hB hk hR⟩
theorem ZiU {f:Addr}{fd:FuncData} (F:Fun K "_law_table" "_law_table" ZaJ f fd) (ZS:Callee P w K mg base "_law_tree" 2 ["row"] (Za4 K mg)) (ZaK:Callee P w K mg base "_law_under" 2 ["tree","place"] (Zbx K mg)) (Zd1:Callee P w K mg base "_law_ruled" 2 ["tree","text","table","place","at"] (Zc4 K mg)) (L:Zkb K mg "_law_table" f) (B:BM mg base) (T:Txt K mg):FnOk P w K mg base (CXE P w) 6 f fd ["row","text"] (Zc5 K mg):=by
 refine F.okL L B Zby (λvs H Q E h=>?_) (λcdv A outer s H vs Q E LI hr h=>?_)
 ·obtain⟨t,x,T,ts,rfl,_⟩:=h;rfl
 obtain⟨r,x,ns,ts,rfl,hr0,hx,h6,h16,hTb,k1⟩:=h
 refine⟨_,(Zd (Zq (i:=2) Zby.nd rfl (Or.inr rfl) (Zi ZS (hr.mono (by decide)) rfl ZA (Za (pv 0) Zb)))
   (Zd (Zq (i:=3) Zby.nd rfl (Or.inr rfl) (ZW ["place"] [none] rfl rfl rfl (Zav (pv 0)) (λ_ _ _ _ _=>(Zl (i:=0) (show(["place"]:List Str).Nodup from by decide +kernel) rfl (Or.inl rfl))) (λ_ _ _ _ _=>ZV) (λ_ _ _ _ _=>(ZM Zb)) Zr))
   (Zd (ZaS (ZbS PassesOwn.never rfl (Zav (ZnY (Nc:=["place","tree"]) (js:=[none,some 2]) (pn:="place") (q:=ZfK "_law_table") (P:=Zev K mg "_law_table") rfl hr ⟨rfl,rfl,rfl,rfl,rfl,rfl,rfl,λ_ _ _ _ _ _=>rfl⟩ (λ_ _ _ _ _ _=>(Zk (Zp (K:=K) rfl) rfl T.b_len YA (Za (Zi ZaK ((hr.in1.in1.deeper _).mono (by decide)) rfl ZA (Za (pv 1) (Za (pv 0) Zb))) Zb))) rfl T.b_sorted (Za (Zjh rfl T.b_range (Za (Zk (Zp (K:=K) rfl) rfl T.b_len YA (Za (pv 0) Zb)) Zb)) Zb) (ZdM (Zj8 ⟨LI.code,LI.bm,LI.ql⟩ rfl) ZjG))) (Zl (i:=4) Zby.nd rfl (Or.inr rfl)) (Zg (ZcT (ZW ["at","tree","text","table","place"] [none,some 2,some 1,some 3,some 4] rfl rfl rfl (ZF rfl T.b_range (Za (Zk (Zp (K:=K) rfl) rfl T.b_len YA (Za (pv 1) Zb)) Zb)) (λ_ _ _ _ _=>(Zl (i:=0) (show(["at","tree","text","table","place"]:List Str).Nodup from by decide +kernel) rfl (Or.inl rfl))) (λ_ _ _ _ _=>ZV) (λ_ _ _ _ _=>(Zi Zd1 (hr.mono (by decide)) rfl ZA (Za (pv 1) (Za (pv 2) (Za (pv 3) (Za (pv 4) (Za (pv 0) Zb))))))) Zr) (ZfD (pv 3) (pv 4) set_list (λ_=>rfl))))))
   (Zg (Zz (pv 3)))))),?_⟩
 have eX:(ts.map V.int).length=ts.length:=Yf ..
 have eN:(ns.map V.int).length=ns.length:=Yf ..
 walk_at "rd"
 refine⟨r,ns,rfl,.inl (SqL.of hr0),by omega,λt T' H1 hT s1 ht=>⟨⟨_,SqL.of (s1 _ _ hr0)⟩,?_⟩⟩
 have eT:=hT.1
 have hG:Zdz T':=⟨by omega,ns,hT⟩
 refine Za0 (n:=ns.length) (λj acc Hz=>∃as:List Addr,acc=as.map V.ref/\as.length=j/\(∀a∈as,Hz a=some (.lst []))/\Ze H1 Hz) (Yt (show _<=1000 by omega) (by decide)) ⟨[],rfl,rfl,(λa ha=>absurd ha (by simp)),Ze.refl H1⟩ (λj acc Hz ⟨_,_,_,_,e⟩ hj=>⟨_,_,SqL.of ((s1.trans e) _ _ hr0),ZiP hj⟩) (λacc Hz ⟨_,_,_,_,e⟩=>⟨_,SqL.of ((s1.trans e) _ _ hr0),Y9 eN⟩) ?_ ?_
 ·rintro j w acc Hz Hw hj hla ⟨as,rfl,hal,has,sz⟩ ⟨rfl,hx⟩
  walk_at "rd"
  refine⟨Yv _,λp zp=>CA.take hj hla ⟨as++[p],by simp,by simp[hal],λa ha=>?_,sz.Zay zp⟩⟩
  rcases Yy.mp ha with z|z
  ·exact((Ze.refl _).upd zp) _ _ (has a z)
  ·have:a=p:=by simpa using z
   subst this
   exact Zc
 rintro l acc Hz ⟨as,rfl,hal,has,sz⟩ _ zl
 have gl:=(Ze.refl Hz).upd (o:=.lst (as.map V.ref)) zl
 have TB:Zak (upd Hz l (.lst (as.map V.ref))) l (List.replicate T'.length []):=⟨as,Zc,(λz=>by rw[has _ z]at zl;cases zl),by simp[hal,eT],λi a ps e1 e2=>by
  have:ps=[]:=by
   rw[List.getElem?_replicate]at e2
   split at e2
   ·cases e2;rfl
   ·cases e2
  subst this
  exact⟨[],gl _ _ (has a (List.mem_of_getElem? e1)),rfl,λi v p h=>by simp at h⟩⟩
 have s2:=sz.trans gl
 have zl1:H1 l=none:=sz.free zl
 have htl:(List.replicate T'.length ([]:List Pt)).length=T'.length:=by simp
 generalize upd Hz l (.lst (as.map V.ref))=H2 at TB s2⊢
 generalize List.replicate T'.length ([]:List Pt)=tab0 at TB htl
 have s02:=s1.trans s2
 have zl0:H l=none:=s1.free zl1
 refine⟨_,.inl (SqL.of (s02 _ _ hr0)),by omega,by omega,λp1 hp1=>?_⟩
 rw[eN]
 have g1:=(Ze.refl H2).Zay (o:=.rng 0 (ns.length:Int)) hp1
 have h1:=Zc (H:=H2) (a:=p1) (o:=.rng 0 (ns.length:Int))
 generalize upd H2 p1 (.rng 0 (ns.length:Int))=H4 at g1 h1⊢
 refine⟨g1 _ _ (s02 _ _ hTb),λf1 H5 zf s5 LO=>⟨_,s5 _ _ h1,by omega,by omega,LO,unI T',λi H6 i0 i1 s6=>?_,λps o H3 hpm hpw s6 zo ho=>?_⟩⟩
 ·obtain⟨j,rfl⟩:=YZ i0
  have g6:=(g1.trans s5).trans s6
  exact⟨t,T',j,rfl,g6 _ _ (s2 _ _ ht),hG,λw us H7 zw hw hl s7=>⟨w,rfl,_,.inl (SqL.of hw),by rw[hl.1];rfl,s7⟩⟩
 have s3:Ze H2 H3:=(g1.trans s5).trans s6
 have s03:=s02.trans s3
 have nd:ps.Nodup:=hpm.nodup_iff.mpr (Zh7 _)
 rw[show((ns.length:Nat):Int)=(T'.length:Int) by omega]at hpm
 obtain⟨as0,hla0,_⟩:=id TB
 have nlo:o≠l:=λz=>by rw[z,(g1.trans s5) _ _ hla0]at zo;cases zo
 refine⟨⟨_,SqL.of ho⟩,?_⟩
 refine ZhN (xs:=ps.map V.int) (λk σ Hx=>∃(v4:Option V) (tab:List (List Pt)),σ=[some (.ref r),some (.ref x),some (.ref t),some (.ref l),v4]/\Zak Hx l tab/\tab.length=T'.length/\(∀v:Nat,(v:Int)∈ps.take k->Za6 T' ts tab v)/\Exc l H3 Hx) ⟨none,tab0,rfl,TB.same s3,htl,(λv h=>absurd h (by simp)),(Ze.refl H3).Zjg⟩ (λk σ Hx _ ⟨_,_,_,_,_,_,e⟩=>SqL.of (e _ _ nlo ho)) ?_ ?_
 ·rintro k w σ Hx hw ⟨v4,tab,rfl,TBx,htx,hdone,ex⟩
  obtain⟨v,rfl,hpk,hvT⟩:∃v:Nat,w=V.int (v:Int)/\ps[k]?=some (v:Int)/\v<T'.length:=by
   rw[YB]at hw
   cases e:ps[k]? with
   |none=>rw[e]at hw;cases hw
   |some u =>
    rw[e]at hw;cases hw
    obtain⟨v,hv,rfl⟩:=YF.mp (hpm.mem_iff.mp (List.mem_of_getElem? e))
    exact⟨v,rfl,rfl,by have:=Yq.mp hv;omega⟩
  have hv0:(v:Int)∉ps.take k:=λz=>by
   obtain⟨m,hm,em⟩:=List.mem_take_iff_getElem.mp z
   obtain⟨hi,ei⟩:=Yh.mp hpk
   have:=(List.getElem_inj nd (h₀:=by omega) (h₁:=hi)).mp (em.trans ei.symm)
   omega
  have kidT:∀c,c<T'.length->nth T' c=v->(c:Int)∈ps.take k:=λc hc e=>Zia hT hpm hpw hpk hc e
  have kidV:∀c,c<T'.length->nth T' c=v->c≠v:=λc hc e z=>hv0 (z▸kidT c hc e)
  have sHx:Ze H Hx:=s03.exc zl0 ex
  have s1x:Ze H1 Hx:=(s2.trans s3).exc zl1 ex
  have kC:∀c,c<T'.length->nth T' c=v->c<tab.length/\(tab.getD c []).length=ts.length:=λc hc e=>⟨by omega,(hdone c (kidT c hc e)).1⟩
  walk_at "rd"
  refine⟨_,.inl (SqL.of (sHx _ _ hx)),by omega,by omega,?_⟩
  rw[eX,show((ts.length:Nat):Int).toNat=ts.length by omega]
  refine Za0 (n:=ts.length) (λj acc Hz=>∃rs:List Pt,acc.length=j/\rs.length=j/\(∀(i:Nat) (u:V) (p:Pt),acc[i]?=some u->rs[i]?=some p->Zaf Hz u p)/\(∀i,i<j->∃ah bh,Z7 T' v ah/\ZQ T' v bh/\Zbw ts tab i ah bh (rs.getD i none))/\Ze Hx Hz) (Yt (show _<=1000 by omega) (by decide)) ⟨[],rfl,rfl,(λi u p h=>by simp at h),(λi h=>absurd h (by omega)),Ze.refl Hx⟩ (λj acc Hz _ hj=>hj) (λacc Hz _=>Yc _) ?_ ?_
  ·rintro j u acc Hz Hw hj hla ⟨rs,hal,hrl,hpr,hru,sz⟩ ⟨rfl,rfl⟩
   rw[show(0:Int)+(j:Int)=((j:Nat):Int) by omega]
   walk_at "rd"
   refine⟨t,x,l,T',ts,tab,v,j,rfl,(s1x.trans sz) _ _ ht,(sHx.trans sz) _ _ hx,TBx.same sz,hG,hvT,hj,h16,kC,λu p ah bh H5 hA hB hR hP s5=>CA.take hj hla ⟨by simp[hal],rs++[p],by simp[hrl],λi u' p' e1 e2=>?_,λi hi=>?_,sz.trans s5⟩⟩
   ·by_cases c:i<j
    ·rw[YL (by omega)]at e1 e2
     exact(hpr i u' p' e1 e2).same s5
    ·have h1:=(Yh.mp e1).1
     have:i=j:=by simp at h1;omega
     subst this
     rw[YK (by omega),hal,Nat.sub_self]at e1
     rw[YK (by omega),hrl,Nat.sub_self]at e2
     cases e1;cases e2;exact hP
   ·by_cases c:i<j
    ·rw[Yi,YL (by omega),<-Yi]
     obtain⟨ah',bh',hA',hB',hR'⟩:=hru i c
     exact⟨ah',hA',bh',hB',hR'⟩
    ·have:i=j:=by omega
     subst this
     rw[Yi,YK (by omega),hrl,Nat.sub_self]
     exact⟨ah,hA,bh,hB,hR⟩
  ·rintro r2 acc Hz ⟨rs,hal,hrl,hpr,hru,sz⟩ _ zr
   have gr:=(Ze.refl Hz).upd (o:=.lst acc) zr
   obtain⟨as,hla,hasn,hasl,hasp⟩:=TBx
   have hlz:=gr _ _ (sz _ _ hla)
   have hrr:=Zc (H:=Hz) (a:=r2) (o:=.lst acc)
   have nrl:r2≠l:=λz=>by rw[z,sz _ _ hla]at zr;cases zr
   have szr:=sz.trans gr
   generalize upd Hz r2 (.lst acc)=H6 at gr hlz hrr szr⊢
   refine⟨_,hlz,v,Zfg (by rw[Yf];omega),tab.set v rs,⟨as.set v r2,by rw[Zc,List.map_set],λz=>?_,by simp[hasl],λi b qs e1 e2=>?_⟩,by simp[htx],λw hw=>?_,(ex.same szr).trans Exc.upd⟩
   ·rcases List.mem_or_eq_of_mem_set z with z|z
    ·exact hasn z
    ·exact nrl z.symm
   ·by_cases c:i=v
    ·subst c
     rw[List.getElem?_set_self (by omega)]at e1 e2
     cases e1;cases e2
     exact⟨acc,by rw[Zh nrl];exact hrr,by omega,λi u p f1 f2=>((hpr i u p f1 f2).same gr).excL hlz Exc.upd⟩
    ·rw[List.getElem?_set_ne (Ne.symm c)]at e1 e2
     obtain⟨vals,g1,g2,g3⟩:=(hasp i b qs e1 e2).same szr
     have nb:b≠l:=λz=>hasn (z▸List.mem_of_getElem? e1)
     exact⟨vals,by rw[Zh nb];exact g1,g2,λi u p f1 f2=>(g3 i u p f1 f2).excL hlz Exc.upd⟩
   ·rw[List.take_succ,hpk]at hw
    rcases Yy.mp hw with hw|hw
    ·refine(hdone w hw).set (λz=>hv0 (z▸hw)) λc hc e z=>?_
     obtain⟨m,hm,em⟩:=List.mem_take_iff_getElem.mp hw
     have:=Zia hT hpm hpw (k:=m) (c:=c) (v:=w) (Yh.mpr ⟨by omega,em⟩) hc e
     obtain⟨m2,hm2,em2⟩:=List.mem_take_iff_getElem.mp this
     exact hv0 (z▸List.mem_take_iff_getElem.mpr ⟨m2,by omega,em2⟩)
    ·have:w=v:=by simp at hw;omega
     subst this
     exact Za6.newE (by omega) hrl kidV hru
 ·rintro σ Hx ⟨v4,tab,rfl,TBx,htx,hdone,ex⟩
  walk_at "rd"
  refine k1 l T' tab Hx zl0 hT TBx ⟨htx,λv hv=>hdone v ?_⟩ (s03.exc zl0 ex)
  rw[List.take_of_length_le (by simp)]
  exact hpm.mem_iff.mpr (YF.mpr ⟨v,Yq.mpr (by omega),rfl⟩)
theorem Zib {f:Addr}{fd:FuncData} (F:Fun K "_law_either" "_law_either" Zap f fd) (Zt:Callee P w K mg base "_law_take" 1 ["pot","many"] (Za3 K mg)) (T:Txt K mg):FnOk P w K mg base (CXE P w) 2 f fd ["pot","some"] (Zcm K mg):=by
 refine F.okX Zh6 (λvs H Q E h=>?_) (λcdv A outer s H vs Q E hr h=>?_)
 ·obtain⟨p,r,xs,rfl,_⟩:=h;rfl
 obtain⟨p,r,xs,rfl,hP,nrp,hr1,hn,k1⟩:=h
 refine⟨_,(Zg (Zz (Zm ZO (ZcV (Za (Zcd (ZfG (K:=K) rfl) rfl T.b_list Zf8 (Za (pv 1) Zb)) (Za (Zcd (ZgI (K:=K) rfl) rfl T.b_tuple Zf9 (Za (pv 1) Zb)) Zb))) (Zi Zt (hr.mono (by decide)) rfl ZA (Za (pv 0) (Za Zf Zb))) (λ_ _=>rfl)))),?_⟩
 walk_at "rd"
 refine⟨_,.inl (SqL.of hr1),λl hl=>?_⟩
 have g1:=(Ze.refl H).upd (o:=.lst xs) hl
 refine⟨_,.inl ⟨SqL.of (g1 _ _ hr1),λl2 hl2=>⟨by decide,λc hc=>?_⟩⟩⟩
 have g2:=(Ze.refl _).upd (o:=.tup xs) hl2
 have g3:=(Ze.refl _).upd (o:=.tup [V.ref l,V.ref l2]) hc
 have gg:=(g1.trans g2).trans g3
 have hl3:=(g2.trans g3) _ _ (Zc (H:=H) (a:=l) (o:=.lst xs))
 have hl23:=g3 _ _ (Zc (a:=l2) (o:=.tup xs) (H:=upd H l (.lst xs)))
 have nlp:l≠p:=hP.ne hl
 have nl2p:l2≠p:=(hP.same g1).ne hl2
 have ncp:c≠p:=(hP.same (g1.trans g2)).ne hc
 refine⟨p,_,rfl,by decide,by decide,hP.same gg,λd H2 d0 d1 P2 e2=>⟨_,d,rfl,SqT.of (e2 _ _ ncp Zc),?_⟩⟩
 have ex:=(Ze.refl H).Zjg.same gg |>.trans e2
 rcases(by omega:d=0\/d=1)with rfl|rfl
 ·exact⟨_,rfl,k1 l H2 hl (.inl (e2 _ _ nlp hl3)) P2 ex⟩
 ·exact⟨_,rfl,k1 l2 H2 (g1.free hl2) (.inr (e2 _ _ nl2p hl23)) P2 ex⟩
theorem Zkm {f:Addr}{fd:FuncData} (F:Fun K "_law_pair" "_law_pair" ZaY f fd) (Zt:Callee P w K mg base "_law_take" 1 ["pot","many"] (Za3 K mg)) (Zd2:Callee P w K mg base "_law_row" 2 ["pot","most"] (ZeJ K mg)) (T:Txt K mg):FnOk P w K mg base (CXE P w) 3 f fd ["pot","most","wide"] (ZdV K mg):=by
 refine F.okX ZbY (λvs H Q E h=>?_) (λcdv A outer s H vs Q E hr h=>?_)
 ·obtain⟨p,m,w,rfl,_⟩:=h;rfl
 obtain⟨p,most,wide,rfl,m1,m2,w1,w2,hP,k1⟩:=h
 refine⟨_,(Zd (Zq (i:=3) ZbY.nd rfl (Or.inl rfl) (Zf6 Zhz (Zw ZlR (Zi Zd2 (hr.mono (by decide)) rfl ZA (Za (pv 0) (Za (pv 1) Zb))) (ZM (Za (Zi Zt (hr.mono (by decide)) rfl ZA (Za (pv 0) (Za Zf Zb))) Zb))) ZjI (Zf5 (pv 1))))
   (Zd (Zq (i:=4) ZbY.nd rfl (Or.inl rfl) (Zi Zd2 (hr.mono (by decide)) rfl ZA (Za (pv 0) (Za (pv 2) Zb))))
   (Zd (Z2 (Zj Zfs (Zi Zt (hr.mono (by decide)) rfl ZA (Za (pv 0) (Za Zf Zb))) Zf (Zn _)) (Zg (Zaj (i:=4) ["turn","pot"] [none,some 0] ZbY.nd rfl (Or.inl rfl) rfl rfl rfl (ZF rfl T.b_range (Za (Zi Zt (hr.mono (by decide)) rfl ZA (Za (pv 0) (Za (Zw Zbj (pv 2) Zf) Zb))) Zb)) (λ_ _ _ _ _=>(Zl (i:=0) (show(["turn","pot"]:List Str).Nodup from by decide +kernel) rfl (Or.inl rfl))) (λ_ _ _ _ _=>ZV) (λ_ _ _ _ _=>(Zi Zt (hr.mono (by decide)) rfl ZA (Za (pv 1) (Za Zf Zb)))) Zr)) ZH)
   (Zg (Zz (ZcV (Za (pv 3) (Za (pv 4) Zb)))))))),?_⟩
 walk_at "rd"
 refine⟨p,most,rfl,by omega,by omega,hP,λr0 ns0 H1 z0 l0 h0 P1 e1=>⟨p,3,rfl,by decide,by decide,P1,λd H2 d0 d1 P2 e2=>⟨by decide,λq1 hq1=>⟨r0,rfl,ns0.map V.int,?_,[V.int d],Zc,?_,λq2 hq2=>⟨_,SqL.of Zc,λq3 hq3=>?_⟩⟩⟩⟩⟩
 ·have h2:=e2 _ _ (hP.ne z0) h0
  rw[Zh (λz=>by rw[z,hq1]at h2;cases h2)];exact h2
 ·exact YW (Yt (show _<=1000 by simp;omega) (by decide))
 have ec:Zfo (ns0.map V.int++[V.int d]) none (some most)=((ns0++[d]).take most.toNat).map V.int:=by
  have:=cut_to (ns0.map V.int++[V.int d]) most.toNat
  rw[show((most.toNat:Nat):Int)=most by omega]at this
  rw[this];simp[List.map_take]
 rw[ec]
 have g1:=(Ze.refl H2).upd (o:=.lst [V.int d]) hq1
 have g2:=(Ze.refl _).upd (o:=.lst (ns0.map V.int++[V.int d])) hq2
 have g3:=(Ze.refl _).upd (o:=.lst (((ns0++[d]).take most.toNat).map V.int)) hq3
 have gg:=(g1.trans g2).trans g3
 have h3:upd (upd (upd H2 q1 (.lst [V.int d])) q2 (.lst (ns0.map V.int++[V.int d]))) q3 (.lst (((ns0++[d]).take most.toNat).map V.int)) q3=some (.lst (((ns0++[d]).take most.toNat).map V.int)):=Zc
 have zq3:H2 q3=none:=(g1.trans g2).free hq3
 have ee:Exc p H H2:=e1.trans e2
 have zq0:H q3=none:=ee.free (P2.ne zq3) zq3
 have nq3:q3≠p:=P2.ne zq3
 have l1:0<((ns0++[d]).take most.toNat).length:=by simp;omega
 have l2:(((ns0++[d]).take most.toNat).length:Int)<=most:=by simp;omega
 generalize (ns0++[d]).take most.toNat=ns at h3 l1 l2 gg⊢
 generalize upd (upd (upd H2 q1 (.lst [V.int d])) q2 (.lst (ns0.map V.int++[V.int d]))) q3 (.lst (ns.map V.int))=H3 at h3 gg⊢
 have P3:=P2.same gg
 have e3:Exc p H H3:=ee.same gg
 refine⟨p,wide,rfl,by omega,by omega,P3,λx0 ts0 H4 zx lx hx P4 e4=>⟨p,3,rfl,by decide,by decide,P4,λd2 H5 _ _ P5 e5=>⟨rfl,?_⟩⟩⟩
 have e35:=e4.trans e5
 have e05:=e3.trans e35
 have h5:=e35 _ _ nq3 h3
 have nxp:x0≠p:=P3.ne zx
 have zx0:H x0=none:=e3.free nxp zx
 refine ZD (λ_=>?_) λ_=>?_
 ·refine⟨p,wide+1,rfl,by omega,by omega,P5,λd3 H6 d4 d5 P6 e6=>⟨d3,rfl,by omega,by omega,?_⟩⟩
  obtain⟨n3,rfl⟩:=YZ d4
  rw[show((n3:Nat):Int).toNat=n3 by omega]
  refine Za0 (n:=n3) (λj acc Hz=>∃ts:List Int,acc=ts.map V.int/\ts.length=j/\ZG Hz p/\Exc p H6 Hz) (Yt (show _<=1000 by omega) (by decide)) ⟨[],rfl,rfl,P6,(Ze.refl _).Zjg⟩ (λj acc Hz _ hj=>hj) (λacc Hz _=>Yc _) ?_ ?_
  ·rintro j u acc Hz Hw hj hla ⟨ts,rfl,htl,Pz,ez⟩ ⟨rfl,rfl⟩
   walk_at "rd"
   exact⟨p,4,rfl,by decide,by decide,Pz,λd6 H7 _ _ P7 e7=>CA.take hj hla ⟨ts++[d6],by simp,by simp[htl],P7,ez.trans e7⟩⟩
  ·rintro x1 acc Hz ⟨ts,rfl,htl,Pz,ez⟩ _ zx1
   have gl:=(Ze.refl Hz).upd (o:=.lst (ts.map V.int)) zx1
   refine⟨by decide,λq4 hq4=>?_⟩
   have g4:=(Ze.refl _).upd (o:=.tup [V.ref q3,V.ref x1]) hq4
   have e0z:=(e05.trans e6).trans ez
   exact k1 q4 q3 x1 ns ts _ zq0 (e0z.free (Pz.ne zx1) zx1) l1 l2 (by omega) ((gl.trans g4) _ _ (ez _ _ nq3 (e6 _ _ nq3 h5))) (g4 _ _ Zc) Zc (Pz.same (gl.trans g4)) (e0z.same (gl.trans g4))
 ·refine⟨by decide,λq4 hq4=>?_⟩
  have g4:=(Ze.refl _).upd (o:=.tup [V.ref q3,V.ref x0]) hq4
  exact k1 q4 q3 x0 ns ts0 _ zq0 zx0 l1 l2 lx (g4 _ _ h5) (g4 _ _ (e5 _ _ nxp hx)) Zc (P5.same g4) (e05.same g4)
noncomputable def Zkn (f h:Nat->Int) (a b:Nat):Prop:=∀x y p,a<=x->y<=b->ZK f x y p->ZK h x y p
theorem Zko (f:Nat->Int) {x y:Nat} (h:x<=y):∃p,ZK f x y p:=by
 obtain⟨m,h1,h2,h3,h4⟩:=lmin f x (y-x)
 exact⟨m,h1,by omega,h4,λq q1 q2=>h3 q (by omega) (by omega)⟩
theorem Znf {f:Nat->Int}{a b x y v:Nat} (h:ZK f a b v) (h1:a<=x) (h2:x<=v) (h3:v<=y) (h4:y<=b):ZK f x y v:=⟨h2,h3,λq q1 q2=>h.2.2.1 q (by omega) q2,λq q1 q2=>h.2.2.2 q q1 (by omega)⟩
theorem Zjx {f:Nat->Int}{a b v o:Nat} (h:ZK f a b v) (h1:a<=o) (h2:o<=b):f v<=f o:=by
 rcases Nat.lt_trichotomy o v with z|z|z
 ·exact Int.le_of_lt (h.2.2.1 o h1 z)
 ·rw[z];exact Int.le_refl _
 ·exact h.2.2.2 o z h2
theorem Zic {f h:Nat->Int}{a b v:Nat} (hv:ZK f a b v):Zkn f h a b↔(ZK h a b v/\(a<v->Zkn f h a (v-1))/\(v<b->Zkn f h (v+1) b)):=by
 constructor
 ·intro k
  exact⟨k a b v (Yc _) (Yc _) hv,λ_ x y p h1 h2=>k x y p h1 (by have:=hv.2.1;omega),λ_ x y p h1 h2=>k x y p (by have:=hv.1;omega) h2⟩
 ·rintro⟨k0,k1,k2⟩ x y p h1 h2 hp
  have hxy:x<=y:=Ym hp.1 hp.2.1
  by_cases c1:y<v
  ·exact k1 (by omega) x y p h1 (by omega) hp
  ·by_cases c2:v<x
   ·exact k2 (by omega) x y p (by omega) h2 hp
   ·have z:=Znf hv (x:=x) (y:=y) h1 (by omega) (by omega) h2
    rw[hp.unique z]
    exact Znf k0 h1 (by omega) (by omega) h2
noncomputable def ZdG (f:Nat->Int) (ts:List Int) (a b:Nat) (g:Nat->Nat):Prop:=(∀x,a<=x->x<b->g x<g (x+1))/\(∀x,a<=x->x<=b->g x<ts.length)/\Zkn f (λo=>nth ts (g o)) a b
theorem ZdG.congr {f:Nat->Int}{ts:List Int}{a b:Nat}{g g':Nat->Nat} (h:ZdG f ts a b g) (e:∀x,a<=x->x<=b->g' x=g x):ZdG f ts a b g':=by
 obtain⟨h1,h2,h3⟩:=h
 refine⟨λx x1 x2=>by rw[e x x1 (by omega),e (x+1) (by omega) (by omega)];exact h1 x x1 x2,λx x1 x2=>by rw[e x x1 x2];exact h2 x x1 x2,λx y p x1 y1 hp=>?_⟩
 have z:=h3 x y p x1 y1 hp
 have hxy:=Ym hp.1 hp.2.1
 refine⟨z.1,z.2.1,λq q1 q2=>?_,λq q1 q2=>?_⟩
 ·have:=z.2.2.1 q q1 q2
  simp only at this⊢
  rw[e p (by have:=z.1;omega) (by have:=z.2.1;omega),e q (by omega) (by have:=z.2.1;omega)];exact this
 ·have:=z.2.2.2 q q1 q2
  simp only at this⊢
  rw[e p (by have:=z.1;omega) (by have:=z.2.1;omega),e q (by have:=z.1;omega) (by omega)];exact this
theorem ZdG.mono {f:Nat->Int}{ts:List Int}{a b:Nat}{g:Nat->Nat} (h:ZdG f ts a b g):∀{x y},a<=x->x<y->y<=b->g x<g y:=by
 intro x y h1 h2 h3
 obtain⟨d,rfl⟩:=Nat.exists_eq_add_of_lt h2
 clear h2
 induction d with
 |zero=>exact h.1 x h1 (by omega)
 |succ d ih=>exact Nat.lt_trans (ih (by omega)) (h.1 (x+d+1) (by omega) (by omega))
theorem Zco {f:Nat->Int}{ts:List Int}{a b v:Nat}{g:Nat->Nat} (hv:ZK f a b v):ZdG f ts a b g↔(g v<ts.length/\(a<v->ZdG f ts a (v-1) g/\g (v-1)<g v/\∀o,a<=o->o<v->nth ts (g v)<nth ts (g o))/\(v<b->ZdG f ts (v+1) b g/\g v<g (v+1)/\∀o,v<o->o<=b->nth ts (g v)<=nth ts (g o))):=by
 have hva:=hv.1
 have hvb:=hv.2.1
 constructor
 ·rintro⟨h1,h2,h3⟩
  obtain⟨k0,k1,k2⟩:=(Zic hv).mp h3
  refine⟨h2 v hva hvb,λc=>⟨⟨λx x1 x2=>h1 x x1 (by omega),λx x1 x2=>h2 x x1 (by omega),k1 c⟩,?_,λo o1 o2=>k0.2.2.1 o o1 o2⟩,λc=>⟨⟨λx x1 x2=>h1 x (by omega) x2,λx x1 x2=>h2 x (by omega) x2,k2 c⟩,h1 v hva c,λo o1 o2=>k0.2.2.2 o o1 o2⟩⟩
  have:=h1 (v-1) (by omega) (by omega)
  rwa [show v-1+1=v by omega]at this
 ·rintro⟨h0,hl,hr⟩
  refine⟨λx x1 x2=>?_,λx x1 x2=>?_,(Zic hv).mpr ⟨⟨hva,hvb,λq q1 q2=>(hl (by omega)).2.2 q q1 q2,λq q1 q2=>(hr (by omega)).2.2 q q1 q2⟩,λc=>(hl c).1.2.2,λc=>(hr c).1.2.2⟩⟩
  ·by_cases c1:x+1<v
   ·exact(hl (by omega)).1.1 x x1 (by omega)
   ·by_cases c2:x+1=v
    ·have:=(hl (by omega)).2.1
     rw[show v-1=x by omega]at this
     rwa [c2]
    ·by_cases c3:x=v
     ·subst c3;exact(hr x2).2.1
     ·exact(hr (by omega)).1.1 x (by omega) x2
  ·rcases Nat.lt_trichotomy x v with z|z|z
   ·exact(hl (by omega)).1.2.1 x x1 (by omega)
   ·rw[z];exact h0
   ·exact(hr (by omega)).1.2.1 x z x2
noncomputable def Zbz (f:Nat->Int) (ts:List Int) (a b v i:Nat):Pt->Prop
 |none=>∀g,ZdG f ts a b g->g v≠i
 |some (l,r)=>(∃g,ZdG f ts a b g/\g v=i/\(g a:Int)=l/\(g b:Int)=r)/\∀g,ZdG f ts a b g->g v=i->(g a:Int)<=l/\r<=(g b:Int)
theorem Zbz.uniq {f:Nat->Int}{ts:List Int}{a b v i:Nat}{p q:Pt} (h:Zbz f ts a b v i p) (k:Zbz f ts a b v i q):p=q:=by
 match p,q,h,k with
 |none,none,_,_=>rfl
 |none,some (l,r),h,k=>obtain⟨⟨g,h1,h2,_⟩,_⟩:=k;exact absurd h2 (h g h1)
 |some (l,r),none,h,k=>obtain⟨⟨g,h1,h2,_⟩,_⟩:=h;exact absurd h2 (k g h1)
 |some (l,r),some (l',r'),h,k =>
  obtain⟨⟨g,h1,h2,h3,h4⟩,h5⟩:=h
  obtain⟨⟨g',k1,k2,k3,k4⟩,k5⟩:=k
  have z1:=h5 g' k1 k2
  have z2:=k5 g h1 h2
  have el:l=l':=by omega
  have er:r=r':=by omega
  rw[el,er]
noncomputable def ZeO (f:Nat->Int) (ts:List Int) (a v i:Nat) (g:Nat->Nat):Prop:=a<v->ZdG f ts a (v-1) g/\g (v-1)<i/\∀o,a<=o->o<v->nth ts i<nth ts (g o)
noncomputable def ZcI (f:Nat->Int) (ts:List Int) (v b i:Nat) (g:Nat->Nat):Prop:=v<b->ZdG f ts (v+1) b g/\i<g (v+1)/\∀o,v<o->o<=b->nth ts i<=nth ts (g o)
noncomputable def Zpb (f:Nat->Int) (ts:List Int) (a v i:Nat):Option Int->Prop
 |none=>a<v/\∀g,¬ ZeO f ts a v i g
 |some m=>(a=v/\m=i)\/(a<v/\(∃g,ZeO f ts a v i g/\(g a:Int)=m)/\∀g,ZeO f ts a v i g->(g a:Int)<=m)
noncomputable def Zng (f:Nat->Int) (ts:List Int) (v b i:Nat):Option Int->Prop
 |none=>v<b/\∀g,¬ ZcI f ts v b i g
 |some m=>(v=b/\m=i)\/(v<b/\(∃g,ZcI f ts v b i g/\(g b:Int)=m)/\∀g,ZcI f ts v b i g->m<=(g b:Int))
theorem Zmp {f:Nat->Int}{ts:List Int}{a b v i:Nat}{r1 r2:Option Int} (hv:ZK f a b v) (hi:i<ts.length) (h1:Zpb f ts a v i r1) (h2:Zng f ts v b i r2):Zbz f ts a b v i (Zke r1 r2):=by
 have hva:=hv.1
 have hvb:=hv.2.1
 have parts:∀g,ZdG f ts a b g->g v=i->ZeO f ts a v i g/\ZcI f ts v b i g:=λg hg e=>by
  obtain⟨_,hl,hr⟩:=(Zco hv).mp hg
  rw[e]at hl hr
  exact⟨hl,hr⟩
 match r1,r2,h1,h2 with
 |none,r2,h1,_ =>
  rw[Zju]
  exact λg hg e=>h1.2 g (parts g hg e).1
 |some l,none,_,h2=>exact λg hg e=>h2.2 g (parts g hg e).2
 |some l,some r,h1,h2 =>
  have glue:∀g1 g2,ZeO f ts a v i g1->ZcI f ts v b i g2->ZdG f ts a b (λx=>if x<v then g1 x else if x=v then i else g2 x):=λg1 g2 k1 k2=>by
   refine(Zco hv).mpr ⟨?_,λc=>?_,λc=>?_⟩
   ·simp only[Yu,if_false,if_true];exact hi
   ·obtain⟨z1,z2,z3⟩:=k1 c
    refine⟨z1.congr λx x1 x2=>by rw[Ye (by omega)],?_,λo o1 o2=>?_⟩
    ·simp only[Yu,if_false,if_true]
     rw[Ye (by omega)];exact z2
    ·simp only[Yu,if_false,if_true]
     rw[Ye o2];exact z3 o o1 o2
   ·obtain⟨z1,z2,z3⟩:=k2 c
    refine⟨z1.congr λx x1 x2=>by rw[Yd (by omega),Yd (by omega)],?_,λo o1 o2=>?_⟩
    ·simp only[Yu,if_false,if_true]
     rw[Yd (by omega),Yd (by omega)];exact z2
    ·simp only[Yu,if_false,if_true]
     rw[Yd (by omega),Yd (by omega)];exact z3 o o1 o2
  have lft:∃g1,ZeO f ts a v i g1/\((if a<v then g1 a else i:Nat):Int)=l:=by
   rcases h1 with⟨e,z⟩|⟨c,⟨g,k,z⟩,_⟩
   ·exact⟨λ_=>0,λc=>absurd c (by omega),by rw[Yd (by omega),z]⟩
   ·exact⟨g,k,by rw[Ye c];exact z⟩
  have rgt:∃g2,ZcI f ts v b i g2/\((if v<b then g2 b else i:Nat):Int)=r:=by
   rcases h2 with⟨e,z⟩|⟨c,⟨g,k,z⟩,_⟩
   ·exact⟨λ_=>0,λc=>absurd c (by omega),by rw[Yd (by omega),z]⟩
   ·exact⟨g,k,by rw[Ye c];exact z⟩
  obtain⟨g1,k1,e1⟩:=lft
  obtain⟨g2,k2,e2⟩:=rgt
  refine⟨⟨_,glue g1 g2 k1 k2,by simp,?_,?_⟩,λg hg e=>?_⟩
  ·rw[<-e1]
   by_cases c:a<v
   ·simp[c]
   ·have:a=v:=by omega
    subst this;simp
  ·rw[<-e2]
   by_cases c:v<b
   ·simp only[c,if_true]
    rw[Yd (by omega),Yd (by omega)]
   ·have:b=v:=by omega
    subst this;simp
  ·obtain⟨z1,z2⟩:=parts g hg e
   constructor
   ·rcases h1 with⟨e',z⟩|⟨c,_,z⟩
    ·rw[z,e',e];exact Int.le_refl _
    ·exact z g z1
   ·rcases h2 with⟨e',z⟩|⟨c,_,z⟩
    ·rw[z,<-e',e];exact Int.le_refl _
    ·exact z g z2
theorem Zcp {ns T:List Int} (hT:Zs ns T) {v:Nat} (hv:v<ns.length):∃a b,a<=v/\v<=b/\b<ns.length/\(a:Int)=ZfJ (nth ns) v+1/\(b:Int)=ZgO (nth ns) ns.length v-1/\ZK (nth ns) a b v/\∀o,o<ns.length->((o=v\/v∈way T o)↔a<=o/\o<=b):=by
 obtain⟨f1,f2,f3,f4⟩:=Zj5 (f:=nth ns) hv
 obtain⟨a,ea⟩:=YZ (show 0<=ZfJ (nth ns) v+1 by omega)
 obtain⟨b,eb⟩:=YZ (show 0<=ZgO (nth ns) ns.length v-1 by omega)
 refine⟨a,b,by omega,by omega,by omega,ea.symm,eb.symm,(Zbk hv (by omega)).mpr ⟨by omega,by omega,by omega,by omega⟩,λo ho=>?_⟩
 rw[ZeE hT ho]
 constructor
 ·rintro(rfl|⟨_,h|h⟩)
  ·omega
  ·have:=(Zbk hv (a:=v) (b:=o) ho).mp ⟨Yc _,by omega,λq q1 q2=>by omega,λq q1 q2=>h.2 q q1 q2⟩
   omega
  ·have:=(Zbk hv (a:=o) (b:=v) hv).mp ⟨by omega,Yc _,λq q1 q2=>h.2 q q1 q2,λq q1 q2=>by omega⟩
   omega
 ·rintro⟨h1,h2⟩
  rcases Nat.lt_trichotomy o v with z|z|z
  ·have:=(Zbk (f:=nth ns) hv (a:=o) (b:=v) hv).mpr ⟨by omega,by omega,by omega,by omega⟩
   exact .inr ⟨hv,.inr ⟨z,λr r1 r2=>this.2.2.1 r r1 r2⟩⟩
  ·exact .inl z
  ·have:=(Zbk (f:=nth ns) hv (a:=v) (b:=o) ho).mpr ⟨by omega,by omega,by omega,by omega⟩
   exact .inr ⟨hv,.inl ⟨z,λr r1 r2=>this.2.2.2 r r1 r2⟩⟩
theorem Zfk {ns T:List Int} (hT:Zs ns T) {v a b x y c:Nat} (hv:v<ns.length) (hb:b<ns.length) (hl:ZK (nth ns) a b v) (hs:∀o,o<ns.length->v∈way T o->a<=o/\o<=b) (hxy:(x=a/\y+1=v)\/(x=v+1/\y=b)) (hc:ZK (nth ns) x y c):nth T c=v:=by
 have eT:=hT.1
 have c1:=hc.1
 have c2:=hc.2.1
 have l1:=hl.1
 have l2:=hl.2.1
 have hcn:c<ns.length:=by omega
 have hvc:Over (nth ns) v c:=by
  rcases hxy with⟨rfl,e⟩|⟨e,rfl⟩
  ·exact .inr ⟨by omega,λr r1 r2=>hl.2.2.1 r (by omega) r2⟩
  ·exact .inl ⟨by omega,λr r1 r2=>hl.2.2.2 r r1 (by omega)⟩
 have hwv:=(ZeE hT hcn).mpr ⟨hv,hvc⟩
 rcases ZcE hT hcn with z|⟨e,ez,he,heO,_⟩
 ·rw[Zm4 z]at hwv;cases hwv
 rw[ZdA hT hcn ez]at hwv
 rcases Yk.mp hwv with rfl|hve
 ·exact ez
 exfalso
 obtain⟨s1,s2⟩:=hs e he hve
 have hve:=((ZeE hT he).mp hve).2
 rcases hxy with⟨rfl,ey⟩|⟨ex,rfl⟩
 ·rcases heO with⟨o1,o2⟩|⟨o1,o2⟩
  ·have:=hc.2.2.1 e s1 o1
   have:=o2 c o1 (Yc _)
   omega
  ·rcases hve with⟨p1,p2⟩|⟨p1,p2⟩
   ·have:=o2 v (by omega) p1
    have:=p2 e p1 (Yc _)
    omega
   ·have:=hc.2.2.2 e o1 (by omega)
    have:=o2 c (Yc _) o1
    omega
 ·rcases heO with⟨o1,o2⟩|⟨o1,o2⟩
  ·rcases hve with⟨p1,p2⟩|⟨p1,p2⟩
   ·have:=hc.2.2.1 e (by omega) o1
    have:=o2 c o1 (Yc _)
    omega
   ·have:=o2 v p1 (by omega)
    have:=p2 e (Yc _) p1
    omega
  ·have:=hc.2.2.2 e o1 s2
   have:=o2 c (Yc _) o1
   omega
noncomputable def Za7 (T ns:List Int) (v a b:Nat):Prop:=a<=v/\v<=b/\b<ns.length/\(a:Int)=ZfJ (nth ns) v+1/\(b:Int)=ZgO (nth ns) ns.length v-1/\ZK (nth ns) a b v/\∀o,o<ns.length->((o=v\/v∈way T o)↔a<=o/\o<=b)
theorem Za7.uniq {T ns:List Int}{v a b a' b':Nat} (h:Za7 T ns v a b) (k:Za7 T ns v a' b'):a=a'/\b=b':=by
 have h4:=h.2.2.2.1
 have h5:=h.2.2.2.2.1
 have k4:=k.2.2.2.1
 have k5:=k.2.2.2.2.1
 omega
theorem Zmq {ns T:List Int} (hT:Zs ns T) {v a b:Nat} (h:Za7 T ns v a b):(Z7 T v none->a=v)/\∀c,Z7 T v (some c)->a<v/\Za7 T ns c a (v-1):=by
 obtain⟨h1,h2,h3,h4,h5,h6,h7⟩:=h
 have eT:=hT.1
 have hv:v<ns.length:=by omega
 have hs:∀o,o<ns.length->v∈way T o->a<=o/\o<=b:=λo ho hw=>(h7 o ho).mp (.inr hw)
 constructor
 ·intro hn
  refine Nat.le_antisymm h1 (Nat.not_lt.mp λz=>?_)
  obtain⟨c,hc⟩:=Zko (nth ns) (show a<=v-1 by omega)
  have c2:=hc.2.1
  exact hn c (by omega) (by omega) (Zfk hT hv h3 h6 hs (.inl ⟨rfl,by omega⟩) hc)
 ·intro c hc
  have hcv:c<v:=hc.1
  have ec:nth T c=v:=hc.2.2
  have hcn:c<ns.length:=by omega
  have hcs:=hs c hcn (by rw[ZdA hT hcn ec];exact Yr)
  obtain⟨c',hc'⟩:=Zko (nth ns) (show a<=v-1 by omega)
  have e':=Zfk hT hv h3 h6 hs (.inl ⟨rfl,by omega⟩) hc'
  have c2:=hc'.2.1
  have:c'=c:=by
   rcases Nat.lt_trichotomy c' c with z|z|z
   ·exact(Zfj hT z hcv hv e' ec).elim
   ·exact z
   ·exact(Zfj hT z (by omega) hv ec e').elim
  subst this
  obtain⟨a',b',g1,g2,g3,g4,g5,g6,g7⟩:=Zcp hT hcn
  have n1:=(Zbk (f:=nth ns) hcn (a:=a) (b:=v-1) (by omega)).mp hc'
  have n2:¬ ((b':Int) ≥ v):=λz=>by
   have:=g6.2.2.2 v hcv (by omega)
   have:=h6.2.2.1 c' (by omega) hcv
   omega
  have n3:¬ (a'<a):=λz=>by
   have hA:ZfJ (nth ns) v=((a-1:Nat):Int):=by omega
   have hp:Z9 (nth ns) v (a-1):=by
    rcases Zk7 (nth ns) v with⟨hno,_⟩|⟨q,hq,_⟩
    ·rw[ZhC hno]at hA;omega
    ·rw[ZdB hq]at hA
     rwa [show a-1=q by omega]
   have q1:=hp.2.1
   have:=g6.2.2.1 (a-1) (by omega) (by omega)
   have:=h6.2.2.1 c' (by omega) hcv
   omega
  have ea:a'=a:=by omega
  have eb:b'=v-1:=by omega
  subst ea;subst eb
  exact⟨by omega,g1,g2,g3,g4,g5,g6,g7⟩
theorem Zln {ns T:List Int} (hT:Zs ns T) {v a b:Nat} (h:Za7 T ns v a b):(ZQ T v none->b=v)/\∀c,ZQ T v (some c)->v<b/\Za7 T ns c (v+1) b:=by
 obtain⟨h1,h2,h3,h4,h5,h6,h7⟩:=h
 have eT:=hT.1
 have hv:v<ns.length:=by omega
 have hs:∀o,o<ns.length->v∈way T o->a<=o/\o<=b:=λo ho hw=>(h7 o ho).mp (.inr hw)
 constructor
 ·intro hn
  refine Nat.le_antisymm (Nat.not_lt.mp λz=>?_) h2
  obtain⟨c,hc⟩:=Zko (nth ns) (show v+1<=b by omega)
  have c1:=hc.1
  have c2:=hc.2.1
  exact hn c (by omega) (by omega) (Zfk hT hv h3 h6 hs (.inr ⟨rfl,rfl⟩) hc)
 ·intro c hc
  have hcv:v<c:=hc.1
  have hcT:c<T.length:=hc.2.1
  have ec:nth T c=v:=hc.2.2
  have hcn:c<ns.length:=by omega
  have hcs:=hs c hcn (by rw[ZdA hT hcn ec];exact Yr)
  obtain⟨c',hc'⟩:=Zko (nth ns) (show v+1<=b by omega)
  have e':=Zfk hT hv h3 h6 hs (.inr ⟨rfl,rfl⟩) hc'
  have c1:=hc'.1
  have c2:=hc'.2.1
  have:c'=c:=by
   rcases Nat.lt_trichotomy c' c with z|z|z
   ·exact(ZdW hT (by omega) z hcn e' ec).elim
   ·exact z
   ·exact(ZdW hT hcv z (by omega) ec e').elim
  subst this
  obtain⟨a',b',g1,g2,g3,g4,g5,g6,g7⟩:=Zcp hT hcn
  have n1:=(Zbk (f:=nth ns) hcn (a:=v+1) (b:=b) h3).mp hc'
  have n2:¬ (a'<=v):=λz=>by
   have:=g6.2.2.1 v z hcv
   have:=h6.2.2.2 c' hcv (by omega)
   omega
  have n3:¬ (b<b'):=λz=>by
   have hB:ZgO (nth ns) ns.length v=((b+1:Nat):Int):=by omega
   have hp:Z5 (nth ns) ns.length v (b+1):=by
    rcases Zrb (nth ns) ns.length v with hno|⟨q,hq⟩
    ·rw[Zj4 hno]at hB;omega
    ·rw[Zfh hq]at hB
     rwa [show b+1=q by omega]
   have q1:=hp.2.2.1
   have:=g6.2.2.2 (b+1) (by omega) (by omega)
   have:=h6.2.2.2 c' hcv (by omega)
   omega
  have ea:a'=v+1:=by omega
  have eb:b'=b:=by omega
  subst ea;subst eb
  exact⟨by omega,g1,g2,g3,g4,g5,g6,g7⟩
noncomputable def Zgm (T ns ts:List Int) (tab:List (List Pt)):Prop:=tab.length=T.length/\∀v,v<T.length->(tab.getD v []).length=ts.length/\∀a b,Za7 T ns v a b->∀i,i<ts.length->Zbz (nth ns) ts a b v i ((tab.getD v []).getD i none)
noncomputable def FirstP (ts:List Int) (ps:List Pt) (i:Nat):Option Int->Prop
 |none=>∀j,¬ Zal ts ps i j
 |some m=>(∃j,Zal ts ps i j/\m=(ZR ps j).1)/\∀j,Zal ts ps i j->(ZR ps j).1<=m
noncomputable def LastP (ts:List Int) (ps:List Pt) (i:Nat):Option Int->Prop
 |none=>∀j,¬ Zam ts ps i j
 |some m=>(∃j,Zam ts ps i j/\m=(ZR ps j).2)/\∀j,Zam ts ps i j->m<=(ZR ps j).2
theorem Zrq {ns T ts:List Int}{tab:List (List Pt)} (hT:Zs ns T) (hS:Zgm T ns ts tab) {v a b i:Nat} (hv:Za7 T ns v a b) {ah:Option Nat} (hA:Z7 T v ah) {r:Option Int} (hF:Zbv ts tab i ah r) (hi:i<ts.length):Zpb (nth ns) ts a v i r:=by
 have eT:=hT.1
 obtain⟨s1,s2⟩:=Zmq hT hv
 cases ah with
 |none =>
  have e:=s1 hA
  have hF:r=some (i:Int):=hF
  subst hF
  exact .inl ⟨e,rfl⟩
 |some c =>
  obtain⟨hav,hc⟩:=s2 c hA
  have hcT:c<T.length:=hA.2.1
  obtain⟨hlen,hE⟩:=hS.2 c hcT
  have hE:=hE a (v-1) hc
  have hcl:ZK (nth ns) a (v-1) c:=hc.2.2.2.2.2.1
  have c1:=hcl.1
  have c2:=hcl.2.1
  replace hF:FirstP ts (tab.getD c []) i r:=by cases r<;>exact hF
  generalize tab.getD c []=ps at *
  -- a part ahead is one that some j fits
  have key:∀g,ZeO (nth ns) ts a v i g->Zal ts ps i (g c)/\(g a:Int)<=(ZR ps (g c)).1:=λg hg=>by
   obtain⟨k1,k2,k3⟩:=hg hav
   have hj:g c<ts.length:=k1.2.1 c c1 c2
   have e:=hE (g c) hj
   unfold Zal ZR
   cases hp:ps.getD (g c) none with
   |none=>rw[hp]at e;exact absurd rfl (e g k1)
   |some p =>
    rw[hp]at e
    obtain⟨_,e2⟩:=e
    have:=e2 g k1 rfl
    have:g c<i:=by
     by_cases z:c=v-1
     ·rw[z];exact k2
     ·exact Nat.lt_trans (k1.mono c1 (by omega) (Yc _)) k2
    refine⟨⟨this,rfl,k3 c c1 (by omega),?_⟩,?_⟩
    ·simp only[Option.getD_some];omega
    ·simp only[Option.getD_some];omega
  have back:∀j,Zal ts ps i j->∃g,ZeO (nth ns) ts a v i g/\g c=j/\(g a:Int)=(ZR ps j).1:=λj hj=>by
   obtain⟨j1,j2,j3,j4⟩:=hj
   have e:=hE j (by omega)
   unfold ZR at j4⊢
   cases hp:ps.getD j none with
   |none=>rw[hp]at j2;cases j2
   |some p =>
    rw[hp]at e j4
    obtain⟨⟨g,k1,k2,k3,k4⟩,_⟩:=e
    simp only[Option.getD_some]at j4⊢
    refine⟨g,λ_=>⟨k1,by omega,λo o1 o2=>?_⟩,k2,k3⟩
    have:=Zjx (k1.2.2 a (v-1) c (Yc _) (Yc _) hcl) o1 (by omega)
    simp only[k2]at this
    omega
  cases r with
  |none =>
   have hF:∀j,¬ Zal ts ps i j:=hF
   exact⟨hav,λg hg=>hF _ (key g hg).1⟩
  |some m =>
   have hF:(∃j,Zal ts ps i j/\m=(ZR ps j).1)/\∀j,Zal ts ps i j->(ZR ps j).1<=m:=hF
   obtain⟨⟨j,hj,em⟩,hmax⟩:=hF
   obtain⟨g,hg,_,e⟩:=back j hj
   exact .inr ⟨hav,⟨g,hg,by omega⟩,λg' hg'=>by
    obtain⟨z1,z2⟩:=key g' hg'
    have:=hmax _ z1
    omega⟩
theorem right_of {ns T ts:List Int}{tab:List (List Pt)} (hT:Zs ns T) (hS:Zgm T ns ts tab) {v a b i:Nat} (hv:Za7 T ns v a b) {bh:Option Nat} (hA:ZQ T v bh) {r:Option Int} (hF:Zc1 ts tab i bh r) (hi:i<ts.length):Zng (nth ns) ts v b i r:=by
 have eT:=hT.1
 obtain⟨s1,s2⟩:=Zln hT hv
 cases bh with
 |none =>
  have e:=s1 hA
  have hF:r=some (i:Int):=hF
  subst hF
  exact .inl ⟨e.symm,rfl⟩
 |some c =>
  obtain⟨hav,hc⟩:=s2 c hA
  have hcT:c<T.length:=hA.2.1
  obtain⟨hlen,hE⟩:=hS.2 c hcT
  have hE:=hE (v+1) b hc
  have hcl:ZK (nth ns) (v+1) b c:=hc.2.2.2.2.2.1
  have c1:=hcl.1
  have c2:=hcl.2.1
  replace hF:LastP ts (tab.getD c []) i r:=by cases r<;>exact hF
  generalize tab.getD c []=ps at *
  have key:∀g,ZcI (nth ns) ts v b i g->Zam ts ps i (g c)/\(ZR ps (g c)).2<=(g b:Int):=λg hg=>by
   obtain⟨k1,k2,k3⟩:=hg hav
   have hj:g c<ts.length:=k1.2.1 c c1 c2
   have e:=hE (g c) hj
   unfold Zam ZR
   cases hp:ps.getD (g c) none with
   |none=>rw[hp]at e;exact absurd rfl (e g k1)
   |some p =>
    rw[hp]at e
    obtain⟨_,e2⟩:=e
    have:=e2 g k1 rfl
    have:i<g c:=by
     by_cases z:c=v+1
     ·rw[z];exact k2
     ·exact Nat.lt_trans k2 (k1.mono (Yc _) (by omega) c2)
    refine⟨⟨this,hj,rfl,k3 c (by omega) c2,?_⟩,?_⟩
    ·simp only[Option.getD_some];omega
    ·simp only[Option.getD_some];omega
  have back:∀j,Zam ts ps i j->∃g,ZcI (nth ns) ts v b i g/\g c=j/\(g b:Int)=(ZR ps j).2:=λj hj=>by
   obtain⟨j1,j0,j2,j3,j4⟩:=hj
   have e:=hE j j0
   unfold ZR at j4⊢
   cases hp:ps.getD j none with
   |none=>rw[hp]at j2;cases j2
   |some p =>
    rw[hp]at e j4
    obtain⟨⟨g,k1,k2,k3,k4⟩,_⟩:=e
    simp only[Option.getD_some]at j4⊢
    refine⟨g,λ_=>⟨k1,by omega,λo o1 o2=>?_⟩,k2,k4⟩
    have:=Zjx (k1.2.2 (v+1) b c (Yc _) (Yc _) hcl) o1 o2
    simp only[k2]at this
    omega
  cases r with
  |none =>
   have hF:∀j,¬ Zam ts ps i j:=hF
   exact⟨hav,λg hg=>hF _ (key g hg).1⟩
  |some m =>
   have hF:(∃j,Zam ts ps i j/\m=(ZR ps j).2)/\∀j,Zam ts ps i j->m<=(ZR ps j).2:=hF
   obtain⟨⟨j,hj,em⟩,hmax⟩:=hF
   obtain⟨g,hg,_,e⟩:=back j hj
   exact .inr ⟨hav,⟨g,hg,by omega⟩,λg' hg'=>by
    obtain⟨z1,z2⟩:=key g' hg'
    have:=hmax _ z1
    omega⟩
theorem Zpc (T:List Int) (v:Nat):∃o,Z7 T v o:=by
 by_cases h:∃c,c<v/\c<T.length/\nth T c=v
 ·obtain⟨c,h1,h2,h3⟩:=h;exact⟨some c,h1,h2,h3⟩
 ·exact⟨none,λc h1 h2 h3=>h ⟨c,h1,h2,h3⟩⟩
theorem Zn7 (T:List Int) (v:Nat):∃o,ZQ T v o:=by
 by_cases h:∃c,v<c/\c<T.length/\nth T c=v
 ·obtain⟨c,h1,h2,h3⟩:=h;exact⟨some c,h1,h2,h3⟩
 ·exact⟨none,λc h1 h2 h3=>h ⟨c,h1,h2,h3⟩⟩
theorem Zgm.tab {ns T ts:List Int}{tab:List (List Pt)} (hT:Zs ns T) (hS:Zgm T ns ts tab):Zgi T ts tab:=by
 refine⟨hS.1,λv hv=>⟨(hS.2 v hv).1,λi hi=>?_⟩⟩
 have eT:=hT.1
 obtain⟨a,b,hsp⟩:=Zcp hT (v:=v) (by omega)
 have hsp:Za7 T ns v a b:=hsp
 obtain⟨ah,hA⟩:=Zpc T v
 obtain⟨bh,hB⟩:=Zn7 T v
 obtain⟨r1,h1⟩:=Zlh ts tab i ah
 obtain⟨r2,h2⟩:=Zkk ts tab i bh
 exact⟨ah,bh,hA,hB,r1,r2,h1,h2,((hS.2 v hv).2 a b hsp i hi).uniq (Zmp hsp.2.2.2.2.2.1 hi (Zrq hT hS hsp hA h1 hi) (right_of hT hS hsp hB h2 hi))⟩
theorem Zmr {f:Nat->Int}{ts:List Int}{a b v i:Nat}{l r:Int} (hv:ZK f a b v) (h1:∃g,ZdG f ts a b g/\g v=i/\(g a:Int)=l) (h2:∃g,ZdG f ts a b g/\g v=i/\(g b:Int)=r) (h3:∀g,ZdG f ts a b g->g v=i->(g a:Int)<=l/\r<=(g b:Int)):Zbz f ts a b v i (some (l,r)):=by
 obtain⟨g1,p1,p2,p3⟩:=h1
 obtain⟨g2,q1,q2,q3⟩:=h2
 have hva:=hv.1
 have hvb:=hv.2.1
 refine⟨⟨λx=>if x<v then g1 x else g2 x,(Zco hv).mpr ⟨?_,λc=>?_,λc=>?_⟩,?_,?_,?_⟩,h3⟩
 ·simp only[Yu,if_false];exact q1.2.1 v hva hvb
 ·obtain⟨_,z,_⟩:=(Zco hv).mp p1
  obtain⟨z1,z2,z3⟩:=z c
  refine⟨z1.congr λx x1 x2=>by rw[Ye (by omega)],?_,λo o1 o2=>?_⟩
  ·simp only[Yu,if_false]
   rw[Ye (by omega),q2,<-p2];exact z2
  ·simp only[Yu,if_false]
   rw[Ye o2,q2,<-p2];exact z3 o o1 o2
 ·obtain⟨_,_,z⟩:=(Zco hv).mp q1
  obtain⟨z1,z2,z3⟩:=z c
  refine⟨z1.congr λx x1 x2=>by rw[Yd (by omega)],?_,λo o1 o2=>?_⟩
  ·simp only[Yu,if_false]
   rw[Yd (by omega)];exact z2
  ·simp only[Yu,if_false]
   rw[Yd (by omega)];exact z3 o o1 o2
 ·simp only[Yu,if_false];exact q2
 ·by_cases c:a<v
  ·simp only[c,if_true];exact p3
  ·have:a=v:=by omega
   subst this
   simp only[Yu,if_false]
   rw[q2,<-p2];exact p3
 ·simp only[show ¬ b<v by omega,if_false];exact q3
noncomputable def Znh (ns ms:List Int) (a b:Nat):Prop:=ms.length=b-a+1/\∀j,j<ms.length->nth ms j=nth ns (a+j)
theorem ZdC {f h:Nat->Int}{a n x y p:Nat} (e:∀j,j<n->h j=f (a+j)) (hx:a<=x) (hy:y<a+n) (hxy:x<=y):ZK f x y p↔a<=p/\ZK h (x-a) (y-a) (p-a):=by
 constructor
 ·rintro⟨h1,h2,h3,h4⟩
  refine⟨by omega,by omega,by omega,λq q1 q2=>?_,λq q1 q2=>?_⟩
  ·rw[e _ (by omega),e _ (by omega),show a+(p-a)=p by omega]
   exact h3 _ (by omega) (by omega)
  ·rw[e _ (by omega),e _ (by omega),show a+(p-a)=p by omega]
   exact h4 _ (by omega) (by omega)
 ·rintro⟨h0,h1,h2,h3,h4⟩
  refine⟨by omega,by omega,λq q1 q2=>?_,λq q1 q2=>?_⟩
  ·have:=h3 (q-a) (by omega) (by omega)
   rwa [e _ (by omega),e _ (by omega),show a+(p-a)=p by omega,show a+(q-a)=q by omega]at this
  ·have:=h4 (q-a) (by omega) (by omega)
   rwa [e _ (by omega),e _ (by omega),show a+(p-a)=p by omega,show a+(q-a)=q by omega]at this
theorem Zlo {f h:Nat->Int}{n:Nat}:ZdR f h n↔∀x y p,y<n->ZK f x y p->ZK h x y p:=by
 constructor
 ·intro k x y p hy hp
  have hxy:=Ym hp.1 hp.2.1
  obtain⟨c,rfl⟩:=Nat.exists_eq_add_of_le hxy
  have e:=hp.unique (ZaP f x c)
  have z:=ZaP h x c
  rw[<-k x c hy,<-e]at z
  exact z
 ·intro k a c hc
  exact(k a (a+c) _ hc (ZaP f a c)).unique (ZaP h a c)
theorem Zni {ts r:List Int}{j:Nat} (h:j<r.length):nth (atL ts r) j=nth ts (nth r j).toNat:=by
 unfold atL
 show((r.map λx=>nth ts x.toNat).getD j 0)=_
 rw[Yi,YB,Yb h]
 unfold nth
 simp[Yi,h]
theorem Zkp {N:Nat}{r:List Int}:Ris N r↔(∀j,j<r.length->0<=nth r j/\nth r j<(N:Int))/\∀i j,i<j->j<r.length->nth r i<nth r j:=by
 have en:∀j (h:j<r.length),nth r j=r[j]:=λj h=>by unfold nth;rw[Yi,Yb h];rfl
 unfold Ris
 rw[List.pairwise_iff_getElem]
 constructor
 ·rintro⟨h1,h2⟩
  exact⟨λj hj=>by rw[en j hj];exact h1 _ (YI hj),λi j hij hj=>by rw[en i (by omega),en j hj];exact h2 i j (by omega) hj hij⟩
 ·rintro⟨h1,h2⟩
  refine⟨λx hx=>?_,λi j hi hj hij=>?_⟩
  ·obtain⟨j,hj,rfl⟩:=Y5 hx
   rw[<-en j hj];exact h1 j hj
  ·rw[<-en i hi,<-en j hj];exact h2 i j hij hj
theorem Zlp {ns ms ts r:List Int}{a b:Nat} (hab:a<=b) (hc:Znh ns ms a b) (h:Zh5 ms ts r):ZdG (nth ns) ts a b (λx=>(nth r (x-a)).toNat):=by
 obtain⟨h1,h2,W,h3,h4⟩:=h
 obtain⟨c1,c2⟩:=hc
 obtain⟨r1,r2⟩:=Zkp.mp h2
 have hl:ms.length=(atL ts r).length:=by simp[atL,h1]
 have hk:=(Zlo.mp ((Zm5 h3 h4).mpr ⟨hl,rfl⟩).2)
 refine⟨λx x1 x2=>?_,λx x1 x2=>?_,λx y p x1 y1 hp=>?_⟩
 ·have:=r2 (x-a) (x+1-a) (by omega) (by omega)
  have:=(r1 (x-a) (by omega)).1
  show(nth r (x-a)).toNat<(nth r (x+1-a)).toNat
  omega
 ·have:=r1 (x-a) (by omega)
  show(nth r (x-a)).toNat < _
  omega
 ·have hxy:=Ym hp.1 hp.2.1
  obtain⟨p0,z⟩:=(ZdC (h:=nth ms) (n:=ms.length) c2 x1 (by omega) hxy).mp hp
  have z:=hk _ _ _ (by omega) z
  have e:∀j,j<ms.length->nth (atL ts r) j=(λo=>nth ts ((λx=>(nth r (x-a)).toNat) o)) (a+j):=λj hj=>by
   rw[Zni (by omega)]
   simp only
   rw[show a+j-a=j by omega]
  exact(ZdC (f:=λo=>nth ts ((λx=>(nth r (x-a)).toNat) o)) (h:=nth (atL ts r)) (n:=ms.length) e x1 (by omega) hxy).mpr ⟨p0,z⟩
theorem Zid {ns ms ts:List Int}{a b:Nat}{g:Nat->Nat} (hab:a<=b) (hc:Znh ns ms a b) (h:ZdG (nth ns) ts a b g):∃r,Zh5 ms ts r/\∀x,a<=x->x<=b->nth r (x-a)=(g x:Int):=by
 obtain⟨c1,c2⟩:=hc
 have en:∀j,j<ms.length->nth ((List.range ms.length).map λj=>((g (a+j):Nat):Int)) j=(g (a+j):Int):=λj hj=>by
  show((List.range ms.length).map λj=>((g (a+j):Nat):Int)).getD j 0=_
  rw[Yi,YB,List.getElem?_range hj];rfl
 have lr:((List.range ms.length).map λj=>((g (a+j):Nat):Int)).length=ms.length:=by simp
 generalize ((List.range ms.length).map λj=>((g (a+j):Nat):Int))=r at en lr
 have hr:Ris ts.length r:=Zkp.mpr ⟨λj hj=>by
  rw[en j (by omega)]
  have:=h.2.1 (a+j) (by omega) (by omega)
  omega,λi j hij hj=>by
  rw[en i (by omega),en j (by omega)]
  have:=h.mono (x:=a+i) (y:=a+j) (by omega) (by omega) (by omega)
  omega⟩
 obtain⟨W,hW⟩:=Zm8 ms
 refine⟨r,⟨lr,hr,W,hW,?_⟩,λx x1 x2=>by rw[en _ (by omega),show a+(x-a)=x by omega]⟩
 obtain⟨V',hV⟩:=Zm8 (atL ts r)
 have hl:ms.length=(atL ts r).length:=by simp[atL,lr]
 have:ZdR (nth ms) (nth (atL ts r)) ms.length:=Zlo.mpr λx y p hy hp=>by
  have hxy:=Ym hp.1 hp.2.1
  have z:=(ZdC (f:=nth ns) (h:=nth ms) (n:=ms.length) (x:=a+x) (y:=a+y) (p:=a+p) c2 (by omega) (by omega) (by omega)).mpr ⟨by omega,by rwa [show a+x-a=x by omega,show a+y-a=y by omega,show a+p-a=p by omega]⟩
  have z:=h.2.2 _ _ _ (by omega) (by omega) z
  have e:∀j,j<ms.length->nth (atL ts r) j=(λo=>nth ts (g o)) (a+j):=λj hj=>by
   rw[Zni (by omega),en j hj]
   simp
  have:=((ZdC (f:=λo=>nth ts (g o)) (h:=nth (atL ts r)) (n:=ms.length) e (by omega) (by omega) (by omega)).mp z).2
  rwa [show a+x-a=x by omega,show a+y-a=y by omega,show a+p-a=p by omega]at this
 have:=((Zm5 hW hV).mp ⟨hl,this⟩).2
 rw[this];exact hV
theorem Zgn {N:Nat}{r:List Int}{x:Int}:Ris N (r++[x])↔Ris N r/\(0<=x/\x<(N:Int))/\∀y∈r,y<x:=by
 unfold Ris
 rw[List.pairwise_append]
 constructor
 ·rintro⟨h1,h2,_,h3⟩
  exact⟨⟨λy hy=>h1 y (YM _ hy),h2⟩,h1 x (by simp),λy hy=>h3 y hy x (by simp)⟩
 ·rintro⟨⟨h1,h2⟩,h3,h4⟩
  refine⟨λy hy=>?_,h2,by simp,λy hy z hz=>?_⟩
  ·rcases Yy.mp hy with hy|hy
   ·exact h1 y hy
   ·rw[Y8.mp hy];exact h3
  ·rw[Y8.mp hz];exact h4 y hy
noncomputable def Zcq:List Int->Int
 |[]=>-1
 |[x]=>x
 |_::y::r=>Zcq (y::r)
theorem Zie {r:List Int}{x:Int}:Zcq (r++[x])=x:=by
 induction r with
 |nil=>rfl
 |cons y r ih =>
  cases r with
  |nil=>rfl
  |cons z r=>exact ih
theorem Zfl {N:Nat}{r:List Int} (h:Ris N r):-1<=Zcq r/\Zcq r<N/\∀x,0<=x->((∀y∈r,y<x)↔Zcq r<x):=by
 rcases List.eq_nil_or_concat r with rfl|⟨r,z,rfl⟩
 ·exact⟨by decide,by show(-1:Int) < _;omega,λx hx=>⟨λ_=>by show(-1:Int)<x;omega,λ_ y hy=>nomatch hy⟩⟩
 ·rw[List.concat_eq_append]at h⊢
  obtain⟨h1,h2,h3⟩:=Zgn.mp h
  rw[Zie]
  refine⟨by omega,h2.2,λx hx=>⟨λk=>k z (by simp),λk y hy=>?_⟩⟩
  rcases Yy.mp hy with hy|hy
  ·have:=h3 y hy;omega
  ·rw[Y8.mp hy];exact k
noncomputable def onL (N:Nat) (r:List Int):List (List Int):=(List.range ((N:Int)-(Zcq r+1)).toNat).map λ(j:Nat)=>r++[Zcq r+1+(j:Int)]
theorem Znj {N:Nat}{r q:List Int} (h:Ris N r):q∈onL N r↔∃x,q=r++[x]/\Ris N q:=by
 obtain⟨l1,l2,l3⟩:=Zfl h
 unfold onL
 rw[YF]
 constructor
 ·rintro⟨j,hj,rfl⟩
  have:=Yq.mp hj
  exact⟨_,rfl,Zgn.mpr ⟨h,⟨by omega,by omega⟩,(l3 _ (by omega)).mpr (by omega)⟩⟩
 ·rintro⟨x,rfl,hq⟩
  obtain⟨_,h2,h3⟩:=Zgn.mp hq
  have:=(l3 x h2.1).mp h3
  exact⟨(x-(Zcq r+1)).toNat,Yq.mpr (by omega),by congr 2;omega⟩
theorem Znk {N:Nat}{r:List Int} (h:Ris N r):(onL N r).length<=N:=by
 obtain⟨l1,l2,_⟩:=Zfl h
 unfold onL
 rw[Yf,YS];omega
theorem Zx.app {H:Hp}{g:Addr}{gs qs:List (List Int)}{acc:List V}{xs:List V} (hg:H g=some (.lst xs)) (h:Zx H g gs) (t:Za2 H acc qs):Zx (upd H g (.lst (xs++acc))) g (gs++qs):=by
 obtain⟨as,e1,l1,k1⟩:=h
 obtain⟨bs,rfl,l2,k2⟩:=t
 rw[hg]at e1
 cases e1
 have ng:∀c ys,H c=some (.tup ys)->c≠g:=λc ys e z=>by rw[z,hg]at e;cases e
 refine⟨as++bs,by rw[Zc,Y4],by simp[l1,l2],λi h1 h2=>?_⟩
 by_cases c:i<as.length
 ·rw[Jd c,Jd (by omega)]
  have:=k1 i c (by omega)
  rw[Zh (ng _ _ this)];exact this
 ·rw[Jf (by omega),Jf (by omega)]
  simp at h1 h2
  have:=k2 (i-as.length) (by omega) (by omega)
  rw[Zh (ng _ _ this)]
  simp only[l1]at this⊢
  exact this
theorem Zms {l g:Addr}{rs:List (List Int)}{xs:List V}{H2 Hz:Hp} (tl:Zx H2 l rs) (nlg:l≠g) (hg:H2 g=some (.lst xs)) (ez:Exc g H2 Hz):(∀i H,Ze Hz H->i<rs.length->(Itl K l).go i H)/\(∀H,Ze Hz H->(Itl K l).stop rs.length H)/\∀i x H H' (h:i<rs.length),Ze Hz H->(Itl K l).yld i H x H'->H'=H/\∃a,x=.ref a/\H a=some (.tup (rs[i].map V.int)):=by
 refine Zx.walk (K:=K) ?_
 obtain⟨as,e,h1,h2⟩:=tl
 refine⟨as,ez _ _ nlg e,h1,λi i1 i2=>ez _ _ (λz=>?_) (h2 i i1 i2)⟩
 have:=h2 i i1 i2
 rw[z,hg]at this;cases this
theorem Zrr {a:Addr}{r:List Int}{many:Nat}{H1:Hp}{Q:VK} (ha:H1 a=some (.tup (r.map V.int))) (hr:r.length<=10) (hm:many<=8) (hR:Ris many r) (hk:∀b acc H5,Ze H1 H5->H5 b=some (.lst acc)->Za2 H5 acc (onL many r)->Q (.ref b) H5):Zg7 (Itr (Zcq r+1) ((many:Int)-(Zcq r+1)).toNat) (Zex 0) ZnH (tOp Zla (ZiE 1) (tTup (Zi8 (ZiE 0) ZnA))) [none,some (V.ref a)] Q H1:=by
 obtain⟨l1,l2,_⟩:=Zfl hR
 refine Za0 (n:=((many:Int)-(Zcq r+1)).toNat) (λj acc Hz=>Za2 Hz acc ((List.range j).map λ(j:Nat)=>r++[Zcq r+1+(j:Int)])/\Ze H1 Hz) (Yt (show _<=1000 by omega) (by decide)) ⟨Za2.nil,Ze.refl _⟩ (λj acc Hz _ hj=>hj) (λacc Hz _=>Yc _) ?_ ?_
 ·rintro j y acc Hz Hw hj hla ⟨tv,sz⟩ ⟨rfl,rfl⟩
  walk_at "rd"
  refine⟨by decide,λq zq=>?_⟩
  have gq:=(Ze.refl Hw).upd (o:=.tup [V.int (Zcq r+1+(j:Int))]) zq
  refine⟨_,gq _ _ (sz _ _ ha),_,Zc,Ym (show _<=100 by simp;omega) (by decide),λu H4 s4 hu=>CA.take hj hla ⟨?_,sz.trans (gq.trans s4)⟩⟩
  rw[YY,Y4]
  refine(tv.same (gq.trans s4)).snoc ?_
  rw[hu,Y4];rfl
 ·rintro b acc Hz ⟨tv,sz⟩ _ zb
  exact hk b acc _ (sz.Zay zb) Zc (tv.same ((Ze.refl Hz).upd zb))
theorem Zif {f:Addr}{fd:FuncData} (F:Fun K "_law_tuples" "_law_tuples" Zaq f fd) (T:Txt K mg):FnOk P w K mg base (CXE P w) 1 f fd ["many","size"] (Zcn K mg):=by
 refine F.okX Zac (λvs H Q E h=>?_) (λcdv A outer s H vs Q E hr h=>?_)
 ·obtain⟨many,size,rfl,_⟩:=h;rfl
 obtain⟨many,size,rfl,hm,hs,k1⟩:=h
 refine⟨_,(Zd (Zq (i:=2) Zac.nd rfl (Or.inl rfl) (ZM (Za (ZcV Zb) Zb)))
   (Zd (ZaS (ZbS PassesOwn.never rfl (ZF rfl T.b_range (Za (pv 1) Zb)) (Zl (i:=3) Zac.nd rfl (Or.inl rfl)) (Zd (Zq (i:=4) Zac.nd rfl (Or.inl rfl) (ZM Zb))
   (Zd (ZaS (ZbS PassesOwn.never rfl (Zav (pv 2)) (Zl (i:=5) Zac.nd rfl (Or.inr rfl)) (Zg (Z1 (ZbW PySem.F.plainAttrs_list PySem.F.slot_list_extend PySem.F.type_list_extend ZnD (pv 4) (Za (ZW ["place","one"] [none,some 5] rfl rfl rfl (Zfe rfl T.b_range (Za (Zw Zbj (Zm ZO (pe_orT (K:=K) rfl (pv 5) (ZlE (ZcV (Za (Zfr ZcU Zf) Zb)))) (Zfr ZcU Zf) (λ_ _=>rfl)) Zf) (Za (pv 0) Zb))) (λ_ _ _ _ _=>(Zl (i:=0) (show(["place","one"]:List Str).Nodup from by decide +kernel) rfl (Or.inl rfl))) (λ_ _ _ _ _=>ZV) (λ_ _ _ _ _=>(Zw Zrd (pv 1) (ZcV (Za (pv 0) Zb)))) Zr) Zb))))))
   (Zg (Zq (i:=2) Zac.nd rfl (Or.inl rfl) (pv 4)))))))
   (Zg (Zz (pv 2))))),?_⟩
 refine ZY (fun σ Hx=>∃l,σ=[some (.int (many:Int)),some (.int (size:Int)),some (.ref l),none,none,none]/\H l=none/\Zx Hx l [[]]/\Ze H Hx) (λR hR=>?_) ?_
 ·walk_at "rd"
  refine⟨by decide,λp zp=>⟨by decide,λl zl=>hR _ _ ⟨l,rfl,((Ze.refl H).upd zp).free zl,⟨[p],Zc,rfl,λi h1 h2=>?_⟩,((Ze.refl H).upd zp).Zay zl⟩⟩⟩
  have:i=0:=by simp at h1;omega
  subst this
  exact((Ze.refl _).upd zl) _ _ Zc
 rintro σ H1 ⟨l,rfl,zl,tl,s1⟩
 refine ZY (fun σ Hx=>∃(l:Addr) (rs:List (List Int)) (v3 v4 v5:Option V),σ=[some (.int (many:Int)),some (.int (size:Int)),some (.ref l),v3,v4,v5]/\H l=none/\Zx Hx l rs/\rs.length<=4096/\(∀r,r∈rs↔r.length=size/\Ris many r)/\Ze H Hx) (λR hR=>?_) ?_
 ·walk_at "rd"
  refine⟨by omega,by omega,?_⟩
  rw[YX]
  refine Zbi (λi σ Hx=>∃(l:Addr) (rs:List (List Int)) (v3 v4 v5:Option V),σ=[some (.int (many:Int)),some (.int (size:Int)),some (.ref l),v3,v4,v5]/\H l=none/\Zx Hx l rs/\rs.length<=8 ^ i/\(∀r,r∈rs↔r.length=i/\Ris many r)/\Ze H Hx) ⟨l,[[]],_,_,_,rfl,zl,tl,by decide,λr=>?_,s1⟩ ?_ ?_
  ·constructor
   ·intro h
    have:r=[]:=by simpa using h
    subst this
    exact⟨rfl,⟨λx hx=>absurd hx (by simp),List.Pairwise.nil⟩⟩
   ·rintro⟨h,_⟩
    rw[List.length_eq_zero_iff.mp h];simp
  ·clear tl s1 zl l H1
   rintro i σ H1 hi ⟨l,rs,v3,v4,v5,rfl,zl,tl,lr,hrs,s1⟩
   have l4096:8 ^ i<=512:=Nat.pow_le_pow_right (by decide) (show i<=3 by omega)
   refine ZY (fun σ Hx=>∃g,σ=[some (.int (many:Int)),some (.int (size:Int)),some (.ref l),some (.int (0+(i:Int))),some (.ref g),v5]/\H1 g=none/\Hx g=some (.lst [])/\Ze H1 Hx) (λR hR=>?_) ?_
   ·walk_at "rd"
    exact⟨by decide,λg zg=>hR _ _ ⟨g,rfl,zg,Zc,(Ze.refl H1).upd zg⟩⟩
   rintro σ H2 ⟨g,rfl,zg,hg,s2⟩
   have zg0:H g=none:=s1.free zg
   refine ZY (fun σ Hx=>∃v5,σ=[some (.int (many:Int)),some (.int (size:Int)),some (.ref l),some (.int (0+(i:Int))),some (.ref g),v5]/\Zx Hx g (rs.flatMap (onL many))/\Ze H Hx) (λR hR=>?_) ?_
   ·walk_at "rd"
    have tl2:=tl.same s2
    refine⟨tl2.sq,?_⟩
    have nlg:l≠g:=λz=>by
     obtain⟨as,e,_⟩:=tl
     rw[z,zg]at e;cases e
    refine ZoX (n:=rs.length) (λk σ Hz=>∃v5,σ=[some (.int (many:Int)),some (.int (size:Int)),some (.ref l),some (.int (0+(i:Int))),some (.ref g),v5]/\Zx Hz g ((rs.take k).flatMap (onL many))/\((rs.take k).flatMap (onL many)).length<=8*k/\Exc g H2 Hz) ⟨_,rfl,by simpa using Zx.nil hg,by simp,(Ze.refl H2).Zjg⟩ (λk σ Hz hk ⟨_,_,_,_,ez⟩=>(Zms tl2 nlg hg ez).1 k Hz (Ze.refl _) hk) (fun σ Hz ⟨_,_,_,_,ez⟩=>(Zms tl2 nlg hg ez).2.1 Hz (Ze.refl _)) ?_ ?_
    ·rintro k x σ Hz Hz' hk ⟨v5,rfl,tg,lg,ez⟩ y
     obtain⟨rfl,a,rfl,ha⟩:=(Zms (K:=K) tl2 nlg hg ez).2.2 k x Hz Hz' hk (Ze.refl _) y
     have hR':=((hrs rs[k]).mp (YI hk)).2
     have hl4:=((hrs rs[k]).mp (YI hk)).1
     have etk:rs.take (k+1)=rs.take k++[rs[k]]:=by rw[Jc,Yb hk];rfl
     generalize rs[k]=r at hR' hl4 ha etk
     obtain⟨as,eg,l1',k1'⟩:=id tg
     have ngt:∀c ys,Hz' c=some (.tup ys)->c≠g:=λc ys e z=>by rw[z,eg]at e;cases e
     obtain⟨lb1,lb2,_⟩:=Zfl hR'
     have lon:=Znk hR'
     -- what is gathered from here on,in any heap that has grown
     have fin:∀(H5:Hp) (b:Addr) (acc:List V),Ze Hz' H5->H5 b=some (.lst acc)->Za2 H5 acc (onL many r)->∃(xs zs:List V),H5 g=some (.lst xs)/\H5 b=some (.lst zs)/\xs.length+zs.length<=sizeLine/\(Zx (upd H5 g (.lst (xs++zs))) g ((rs.take (k+1)).flatMap (onL many))/\((rs.take (k+1)).flatMap (onL many)).length<=8*(k+1)/\Exc g H2 (upd H5 g (.lst (xs++zs)))):=λH5 b acc s5 hb tv=>by
      refine⟨as.map V.ref,acc,s5 _ _ eg,hb,Ym (show _<=10000 by rw[Yf,l1',tv.len];omega) (by decide),?_,?_,?_⟩
      ·rw[etk,List.flatMap_append]
       have:=Zx.app (s5 _ _ eg) (tg.same s5) tv
       simpa using this
      ·rw[etk,List.flatMap_append,YH,List.flatMap_singleton]
       omega
      ·exact(ez.same s5).trans Exc.upd
     walk_at "rd"
     have tail:∀(H3:Hp),Ze Hz' H3->Zg7 (Itr (Zcq r+1) ((many:Int)-(Zcq r+1)).toNat) (Zex 0) ZnH (tOp Zla (ZiE 1) (tTup (Zi8 (ZiE 0) ZnA))) [none,some (V.ref a)] (λx H1=>∃x_2,x=V.ref x_2/\∃x,H1 g=some (HO.lst x)/\∃x_3,H1 x_2=some (HO.lst x_3)/\x.length+x_3.length<=sizeLine/\Zx (upd H1 g (HO.lst (x++x_3))) g (List.flatMap (onL many) (List.take (k+1) rs))/\(List.flatMap (onL many) (List.take (k+1) rs)).length<=8*(k+1)/\Exc g H2 (upd H1 g (HO.lst (x++x_3)))) H3:=λH3 s3=>by
      refine Zrr (s3 _ _ ha) (by omega) hm hR' λb acc H5 s5 hb tv=>?_
      obtain⟨xs,zs,f1,f2,f3,f4⟩:=fin H5 b acc (s3.trans s5) hb tv
      exact⟨b,rfl,xs,f1,zs,f2,f3,f4⟩
     refine⟨ZP eg,_,.inr (.inl ⟨_,SqT.of ha,rfl⟩),ZD (λz=>?_) λz=>?_⟩
     ·rcases List.eq_nil_or_concat r with rfl|⟨q,x,rfl⟩
      ·cases z
      ·rw[List.concat_eq_append]at *
       rw[Zie]at tail lb1 lb2
       exact⟨_,SqT.of ha,_,ZnT q x,x,rfl,by omega,by omega,by omega,by omega,tail _ (Ze.refl _)⟩
     ·have er:r=[]:=by
       cases r with
       |nil=>rfl
       |cons x r=>exact absurd rfl z
      subst er
      exact⟨by decide,λp zp=>⟨_,SqT.of Zc,_,rfl,-1,rfl,by decide,by decide,by omega,by omega,tail _ ((Ze.refl _).upd zp)⟩⟩
    ·rintro σ Hz ⟨v5,rfl,tg,lg,ez⟩
     rw[List.take_length]at tg
     exact hR _ _ ⟨_,rfl,tg,(s1.trans s2).exc zg0 ez⟩
   clear s2 hg H2
   rintro σ H2 ⟨v5,rfl,tg,s2⟩
   walk_at "rd"
   refine⟨zg0,_,tg,?_,λr=>?_,s2⟩
   ·have:∀l:List (List Int),(∀r∈l,r∈rs)->(l.flatMap (onL many)).length<=8*l.length:=by
     intro l
     induction l with
     |nil=>intro _;simp
     |cons r l ih =>
      intro h
      have h1:=ih λq hq=>h q (Ys _ hq)
      have h2:=Znk ((hrs r).mp (h r Yr)).2
      rw[List.flatMap_cons,YH,YQ]
      omega
    have:=this rs λ_ h=>h
    rw[Nat.pow_succ];omega
   ·rw[List.mem_flatMap]
    constructor
    ·rintro⟨q,hq,hr'⟩
     obtain⟨h1,h2⟩:=(hrs q).mp hq
     obtain⟨x,rfl,h3⟩:=(Znj h2).mp hr'
     exact⟨by simp[h1],h3⟩
    ·rintro⟨h1,h2⟩
     rcases List.eq_nil_or_concat r with rfl|⟨q,x,rfl⟩
     ·simp at h1
     ·rw[List.concat_eq_append]at h1 h2⊢
      have h3:=(Zgn.mp h2).1
      exact⟨q,(hrs q).mpr ⟨by simp at h1;omega,h3⟩,(Znj h3).mpr ⟨x,rfl,h2⟩⟩
  ·rintro σ Hx ⟨l,rs,v3,v4,v5,rfl,zl,tl,lr,hrs,sx⟩
   exact hR _ _ ⟨l,rs,_,_,_,rfl,zl,tl,Ym lr (Nat.pow_le_pow_right (by decide) hs),hrs,sx⟩
 rintro σ Hx ⟨l,rs,v3,v4,v5,rfl,zl,tl,lr,hrs,sx⟩
 walk_at "rd"
 exact k1 l rs Hx zl tl lr hrs sx
theorem Zjy {l:Addr}{rs:List (List Int)}{H1:Hp}{Q:VK}{tt:TT}{σr:L2.St} (P:List Int->Bool) (tl:Zx H1 l rs) (hn:rs.length<=5000)
  (ht:∀(a:Addr) (r:List Int) (H:Hp) (R:Bool->Hp->Prop),r∈rs->Ze H1 H->H a=some (.tup (r.map V.int))->(∀H',Ze H H'->R (P r) H')->tt (some (V.ref a)::σr) H R)
  (hk:∀g H',Ze H1 H'->H1 g=none->Zx H' g (rs.filter P)->Q (.ref g) H'):Zg7 (Itl K l) (Zex 0) tt (ZiE 0) (none::σr) Q H1:=by
 obtain⟨w1,w2,w3⟩:=tl.walk (K:=K)
 refine Za0 (n:=rs.length) (λj acc Hz=>Za2 Hz acc ((rs.take j).filter P)/\Ze H1 Hz) (Yt hn (by decide)) ⟨by simpa using Za2.nil,Ze.refl _⟩ (λj acc Hz ⟨_,s⟩ hj=>w1 j Hz s hj) (λacc Hz ⟨_,s⟩=>w2 Hz s) ?_ ?_
 ·rintro j x acc Hz Hw hj hla ⟨tv,sz⟩ y
  obtain⟨rfl,a,rfl,ha⟩:=w3 j x Hz Hw hj sz y
  have etk:rs.take (j+1)=rs.take j++[rs[j]]:=by rw[Jc,Yb hj];rfl
  refine ht a rs[j] Hw _ (YI hj) sz ha λH' s'=>?_
  refine ZD (λc=>?_) λc=>CA.skip hj hla ⟨?_,sz.trans s'⟩
  ·walk_at "rd"
   refine CA.take hj hla ⟨?_,sz.trans s'⟩
   rw[etk,List.filter_append,List.filter_cons_of_pos c,List.filter_nil]
   exact(tv.same s').snoc (s' _ _ ha)
  ·rw[etk,List.filter_append,List.filter_cons_of_neg c,List.filter_nil,List.append_nil]
   exact tv.same s'
 ·rintro g acc Hz ⟨tv,sz⟩ _ zg
  rw[List.take_length]at tv
  exact hk g _ (sz.Zay zg) (sz.free zg) (tv.at zg)
theorem Zhr {f:Addr}{fd:FuncData} (F:Fun K "_law_holding" "_law_holding" Zab f fd) (ZS:Callee P w K mg base "_law_tree" 2 ["row"] (Za4 K mg)) (Zc9:Callee P w K mg base "_law_tuples" 1 ["many","size"] (Zcn K mg)) (T:Txt K mg):FnOk P w K mg base (CXE P w) 3 f fd ["row","text"] (ZbU K mg):=by
 refine F.okX Zes (λvs H Q E h=>?_) (λcdv A outer s H vs Q E hr h=>?_)
 ·obtain⟨r,x,ns,ts,rfl,_⟩:=h;rfl
 obtain⟨r,x,ns,ts,rfl,hr1,hx,n1,n2,k1⟩:=h
 refine⟨_,(Zd (Zq (i:=2) Zes.nd rfl (Or.inr rfl) (Zi ZS (hr.mono (by decide)) rfl ZA (Za (pv 0) Zb)))
   (Zg (Zz (ZW ["one","tree","text"] [none,some 2,some 1] rfl rfl rfl (Zav (Zi Zc9 (hr.mono (by decide)) rfl ZA (Za (Zk (Zp (K:=K) rfl) rfl T.b_len YA (Za (pv 1) Zb)) (Za (Zk (Zp (K:=K) rfl) rfl T.b_len YA (Za (pv 0) Zb)) Zb)))) (λ_ _ _ _ _=>(Zl (i:=0) (show(["one","tree","text"]:List Str).Nodup from by decide +kernel) rfl (Or.inl rfl))) (λ_ _ _ _ _=>Zai (Zj (ZhS (K:=K) rfl hr) (Zi ZS (hr.mono (by decide)) rfl ZA (Za (ZW ["place","text"] [none,some 2] rfl rfl rfl (Zq8 (K:=K) rfl (pv 0)) (λ_ _ _ _ _=>(Zl (i:=0) (show(["place","text"]:List Str).Nodup from by decide +kernel) rfl (Or.inl rfl))) (λ_ _ _ _ _=>ZV) (λ_ _ _ _ _=>(Zm (r:=ZcW K) Zo (pv 1) (pv 0) (λ_ _=>rfl))) Zr) Zb)) (pv 1) (Zn _))) (λ_ _ _ _ _=>(pv 0)) Zr)))),?_⟩
 walk_at "rd"
 refine⟨r,ns,rfl,hr1,by omega,λt es H1 hT s1 ht=>⟨_,.inl (SqL.of (s1 _ _ hx)),_,s1.q hr1,ts.length,ns.length,by rw[Yf,Yf],n2,n1,λl rs H2 zl tl ll hrs s2=>⟨l,rfl,tl.sq,?_⟩⟩⟩
 have hin:∀q∈rs,∀y∈q,∃k:Nat,y=k/\k<ts.length:=λq hq y hy=>by
  obtain⟨h1,h2⟩:=((hrs q).mp hq).2.1 y hy
  obtain⟨k,rfl⟩:=YZ h1
  exact⟨k,rfl,by omega⟩
 refine Zjy (λq=>@decide (Zs (atL ts q) es) (Classical.propDecidable _)) tl (by omega) ?_ ?_
 ·intro a q H3 R hq s3 ha hR
  have lq:=((hrs q).mp hq).1
  walk_at "rd"
  refine⟨⟨_,SqT.of ha⟩,?_⟩
  refine comp_map (n:=q.length) (λj=>V.int (nth (atL ts q) j)) (Yt (show _<=1000 by omega) (by decide)) (λj Hx s hj=>⟨_,_,SqT.of (s _ _ ha),ZiP hj⟩) (λHx s=>⟨_,SqT.of (s _ _ ha),by rw[Yf];exact Yc _⟩) ?_ ?_
  ·rintro j y Hx Hy hj s ⟨rfl,hy⟩
   have:=hy _ (SqT.of (s _ _ ha))
   rw[ZiP hj]at this
   cases this
   have ej:nth q j=q[j]:=by unfold nth;rw[Yi,Yb hj];rfl
   obtain⟨k,ek,hk⟩:=hin q hq (nth q j) (by rw[ej];exact YI hj)
   have ea:nth (atL ts q) j=nth ts k:=by
    unfold atL
    show((q.map λx=>nth ts x.toNat).getD j 0)=_
    rw[Yi,YB,Yb hj,<-ej,ek]
    simp
   rw[ek]
   walk_at "rd"
   exact⟨_,SqL.of ((s2.trans (s3.trans s)) _ _ (s1 _ _ hx)),_,Zf7 (ZiP hk),CW.next hj (by rw[ea]) s⟩
  ·intro b Hx sx zb
   have eb:(List.range q.length).map (λj=>V.int (nth (atL ts q) j))=(atL ts q).map V.int:=by
    refine List.ext_getElem (by simp[atL]) λj h1 h2=>?_
    have:j<(atL ts q).length:=by simpa using h2
    simp[nth,Yi,this]
   rw[eb]
   have gb:=(Ze.refl Hx).upd (o:=.lst ((atL ts q).map V.int)) zb
   refine⟨b,atL ts q,rfl,.inl (SqL.of Zc),by simp[atL];omega,λu es' H4 hT4 s4 hu=>?_⟩
   have s5:=sx.trans (gb.trans s4)
   refine⟨u,rfl,_,Zm1 (n:=2) (K:=K) Zj0 _ _ _ _ (Zga (SqT.of hu)) (Zga (SqT.of ((s2.trans (s3.trans s5)) _ _ ht))),?_⟩
   have:=hR H4 s5
   rw[show(@decide (Zs (atL ts q) es) (Classical.propDecidable _))=decide (es'=es)from Bool.eq_iff_iff.mpr (by
    rw[@decide_eq_true_iff _ (Classical.propDecidable _),decide_eq_true_iff]
    exact⟨λz=>hT4.unique z,λz=>z▸hT4⟩)]at this
   exact this
 ·intro g H3 s3 zg tg
  refine k1 g _ H3 (s1.free (s2.free zg)) tg (Ym (Y3 _ _) ll) (λq=>?_) (s1.trans (s2.trans s3))
  rw[YG,hrs q,@decide_eq_true_iff _ (Classical.propDecidable _)]
  constructor
  ·rintro⟨⟨h1,h2⟩,h3⟩
   exact⟨h1,h2,es,hT,h3⟩
  ·rintro⟨h1,h2,W,h3,h4⟩
   exact⟨⟨h1,h2⟩,h3.unique hT▸h4⟩
noncomputable def spL (a b:Nat):List Int:=(List.range (b-a+1)).map λj=>((a+j:Nat):Int)
theorem Zkq {a b j:Nat} (h:j<b-a+1):(spL a b)[j]?=some ((a+j:Nat):Int):=by
 unfold spL
 rw[YB,List.getElem?_range h];rfl
theorem Zpd {T ns:List Int} (hT:Zs ns T) {v a b:Nat} (h:Za7 T ns v a b):unL T v=spL a b:=by
 obtain⟨h1,h2,h3,_,_,_,h7⟩:=h
 have eT:=hT.1
 have nd:∀n:Nat,∀f:Nat->Nat,(∀i j,f i=f j->i=j)->((List.range n).map λj=>((f j:Nat):Int)).Nodup:=λn f hf=>List.Pairwise.map _ (λx y (h:x≠y)=>λ(e:(f x:Int)=(f y:Int))=>h (hf _ _ (by omega))) List.nodup_range
 have n1:(unL T v).Nodup:=by
  unfold unL
  exact List.Pairwise.map _ (λx y (h:x≠y)=>λ(e:(x:Int)=(y:Int))=>h (by omega)) (List.nodup_range.filter _)
 refine Zk8 ((List.perm_ext_iff_of_nodup n1 (nd _ (λj=>a+j) (by omega))).mpr λx=>?_) ?_ ?_
 ·unfold unL
  rw[YF,YF]
  constructor
  ·rintro⟨o,ho,rfl⟩
   obtain⟨z1,z2⟩:=YG.mp ho
   have z1:=Yq.mp z1
   have z2:=(h7 o (by omega)).mp (YV z2)
   exact⟨o-a,Yq.mpr (by omega),by omega⟩
  ·rintro⟨k,hk,rfl⟩
   have hk:=Yq.mp hk
   exact⟨a+k,YG.mpr ⟨Yq.mpr (by omega),Yz ((h7 (a+k) (by omega)).mpr (by omega))⟩,rfl⟩
 ·unfold unL
  rw[List.pairwise_map]
  exact(List.pairwise_lt_range.filter _).imp λh=>by omega
 ·unfold spL
  rw[List.pairwise_map]
  exact List.pairwise_lt_range.imp λh=>by omega
theorem Zrs {a b v:Nat} (h1:a<=v) (h2:v<=b):(v:Int)∈spL a b/\(spL a b).idxOf (v:Int)=v-a:=by
 have hm:(v:Int)∈spL a b:=YF.mpr ⟨v-a,Yq.mpr (by omega),by omega⟩
 refine⟨hm,?_⟩
 have hl:=List.idxOf_lt_length_iff.mpr hm
 have e:=List.getElem_idxOf hl
 have hl':(spL a b).idxOf (v:Int)<b-a+1:=by unfold spL at hl⊢;simpa using hl
 have e2:=Zkq (a:=a) (b:=b) hl'
 rw[Yb hl,e]at e2
 have:=YD e2
 omega
noncomputable def Zkr (f:Nat->Int) (ts:List Int) (a b v:Nat) (ps:List Pt) (k:Nat):Prop:=ps.length=k/\∀j,j<k->Zbz f ts a b v j (ps.getD j none)
theorem Zmt {ns ms ts:List Int}{a b v i:Nat}{rs:List (List Int)} (hv:ZK (nth ns) a b v) (hc:Znh ns ms a b) (hrs:∀r,r∈rs↔Zh5 ms ts r):((∀r∈rs,nth r (v-a)≠(i:Int))->Zbz (nth ns) ts a b v i none)/\∀l m:Int,(∃r∈rs,nth r (v-a)=(i:Int)/\nth r 0=l)->(∃r∈rs,nth r (v-a)=(i:Int)/\nth r (b-a)=m)->(∀r∈rs,nth r (v-a)=(i:Int)->nth r 0<=l/\m<=nth r (b-a))->Zbz (nth ns) ts a b v i (some (l,m)):=by
 have hva:=hv.1
 have hvb:=hv.2.1
 have ge:∀r∈rs,∀x,a<=x->x<=b->((nth r (x-a)).toNat:Int)=nth r (x-a):=λr hr x x1 x2=>by
  obtain⟨h1,h2,_⟩:=(hrs r).mp hr
  have:=((Zkp.mp h2).1 (x-a) (by have:=hc.1;omega)).1
  omega
 constructor
 ·intro h g hg e
  obtain⟨r,hr,hx⟩:=Zid (by omega) hc hg
  exact h r ((hrs r).mpr hr) (by rw[hx v hva hvb,e])
 ·rintro l m ⟨r1,hr1,e1,f1⟩ ⟨r2,hr2,e2,f2⟩ hall
  refine Zmr hv ⟨_,Zlp (by omega) hc ((hrs r1).mp hr1),?_,?_⟩ ⟨_,Zlp (by omega) hc ((hrs r2).mp hr2),?_,?_⟩ λg hg e=>?_
  ·have:=ge r1 hr1 v hva hvb
   omega
  ·have:=ge r1 hr1 a (Yc _) (by omega)
   rw[this,Nat.sub_self];exact f1
  ·have:=ge r2 hr2 v hva hvb
   omega
  ·have:=ge r2 hr2 b (by omega) (Yc _)
   rw[this];exact f2
  ·obtain⟨r,hr,hx⟩:=Zid (by omega) hc hg
   have:=hall r ((hrs r).mpr hr) (by rw[hx v hva hvb,e])
   have e1:=hx a (Yc _) (by omega)
   have e2:=hx b (by omega) (Yc _)
   rw[Nat.sub_self]at e1
   rw[e1,e2]at this
   exact this
theorem Zgo {f:Addr}{fd:FuncData} (F:Fun K "_law_all_stood" "_law_all_stood" ZU f fd) (ZS:Callee P w K mg base "_law_tree" 2 ["row"] (Za4 K mg)) (Zcr:Callee P w K mg base "_law_holding" 3 ["row","text"] (ZbU K mg)) (ZaK:Callee P w K mg base "_law_under" 2 ["tree","place"] (Zbx K mg)) (T:Txt K mg):FnOk P w K mg base (CXE P w) 4 f fd ["row","text"] (Za5 K mg):=by
 refine F.okX Zv (λvs H Q E h=>?_) (λcdv A outer s H vs Q E hr h=>?_)
 ·obtain⟨r,x,ns,ts,rfl,_⟩:=h;rfl
 obtain⟨r,x,ns,ts,rfl,hr1,hx,n1,n2,k1⟩:=h
 refine⟨_,(Zd (Zq (i:=2) Zv.nd rfl (Or.inl rfl) (Zi ZS (hr.mono (by decide)) rfl ZA (Za (pv 0) Zb)))
   (Zd (Zq (i:=3) Zv.nd rfl (Or.inl rfl) (ZM Zb))
   (Zd (ZaS (ZbS PassesOwn.never rfl (ZF rfl T.b_range (Za (Zk (Zp (K:=K) rfl) rfl T.b_len YA (Za (pv 0) Zb)) Zb)) (Zl (i:=4) Zv.nd rfl (Or.inl rfl)) (Zd (Zq (i:=5) Zv.nd rfl (Or.inl rfl) (Zi ZaK (hr.mono (by decide)) rfl ZA (Za (pv 2) (Za (pv 4) Zb))))
   (Zd (Zq (i:=6) Zv.nd rfl (Or.inr rfl) (ZbW PySem.F.plainAttrs_list PySem.F.slot_list_index PySem.F.type_list_index (ZkY (K:=K) rfl) (pv 5) (Za (pv 4) Zb)))
   (Zd (Zq (i:=7) Zv.nd rfl (Or.inl rfl) (Zi Zcr (hr.mono (by decide)) rfl ZA (Za (Zf6 Zhz (pv 0) (Zf5 (Zm Zo (pv 5) Zf (λ_ _=>rfl))) (Zf5 (Zw Zbj (Zm Zo (pv 5) (Zfr ZcU Zf) (λ_ _=>rfl)) Zf))) (Za (pv 1) Zb))))
   (Zd (Zq (i:=8) Zv.nd rfl (Or.inl rfl) (ZM Zb))
   (Zd (ZaS (ZbS PassesOwn.never rfl (ZF rfl T.b_range (Za (Zk (Zp (K:=K) rfl) rfl T.b_len YA (Za (pv 1) Zb)) Zb)) (Zl (i:=9) Zv.nd rfl (Or.inr rfl)) (Zd (Zaj (i:=10) ["one","at","spot"] [none,some 9,some 6] Zv.nd rfl (Or.inl rfl) rfl rfl rfl (Zav (pv 7)) (λ_ _ _ _ _=>(Zl (i:=0) (show(["one","at","spot"]:List Str).Nodup from by decide +kernel) rfl (Or.inl rfl))) (λ_ _ _ _ _=>Zai (Zj Zfs (Zm (r:=Zfp K) ZO (pv 0) (pv 2) (λ_ _=>rfl)) (pv 1) (Zn _))) (λ_ _ _ _ _=>(pv 0)) Zr)
   (Zd (Z1 (ZbW PySem.F.plainAttrs_list PySem.F.slot_list_append PySem.F.type_list_append ZZ (pv 8) (Za Z8 Zb)))
   (Zg (Z2 (Zj (op_neD (K:=K) rfl hr) (pv 10) (ZM Zb) (Zn _)) (Zg (ZcT (ZcV (Za (Zk (Zjs rfl) rfl T.b_max ZjW (Za (ZW ["one"] [none] rfl rfl rfl (Zav (pv 10)) (λ_ _ _ _ _=>(Zl (i:=0) (show(["one"]:List Str).Nodup from by decide +kernel) rfl (Or.inl rfl))) (λ_ _ _ _ _=>ZV) (λ_ _ _ _ _=>(Zm (r:=Zfp K) ZO (pv 0) Zf (λ_ _=>rfl))) Zr) Zb)) (Za (Zk (Zje rfl) rfl T.b_min ZjX (Za (ZW ["one"] [none] rfl rfl rfl (Zav (pv 10)) (λ_ _ _ _ _=>(Zl (i:=0) (show(["one"]:List Str).Nodup from by decide +kernel) rfl (Or.inl rfl))) (λ_ _ _ _ _=>ZV) (λ_ _ _ _ _=>(Zm (r:=Zfp K) ZO (pv 0) (Zfr ZcU Zf) (λ_ _=>rfl))) Zr) Zb)) Zb))) (ZfD (pv 8) (pv 9) set_list (λ_=>rfl)))) ZH))))))
   (Zg (Z1 (ZbW PySem.F.plainAttrs_list PySem.F.slot_list_append PySem.F.type_list_append ZZ (pv 3) (Za (pv 8) Zb)))))))))))
   (Zg (Zz (pv 3)))))),?_⟩
 have eR:(ns.map V.int).length=ns.length:=Yf ..
 have eX:(ts.map V.int).length=ts.length:=Yf ..
 refine ZY (fun σ Hx=>∃(t:Addr) (T':List Int),σ=[some (.ref r),some (.ref x),some (.ref t),none,none,none,none,none,none,none,none]/\Zs ns T'/\Hx t=some (.tup (T'.map V.int))/\Ze H Hx) (λR hR=>?_) ?_
 ·walk_at "rd"
  exact⟨r,ns,rfl,.inl (SqL.of hr1),by omega,λt es H1 hT s1 ht=>hR _ _ ⟨t,es,rfl,hT,ht,s1⟩⟩
 rintro σ H1 ⟨t,T',rfl,hT,ht,s1⟩
 have eT:=hT.1
 have hG:Zdz T':=⟨by omega,ns,hT⟩
 refine ZY (fun σ Hx=>∃(tb:Addr),σ=[some (.ref r),some (.ref x),some (.ref t),some (.ref tb),none,none,none,none,none,none,none]/\H1 tb=none/\Hx tb=some (.lst [])/\Ze H1 Hx) (λR hR=>?_) ?_
 ·walk_at "rd"
  exact⟨by decide,λtb zb=>hR _ _ ⟨tb,rfl,zb,Zc,(Ze.refl H1).upd zb⟩⟩
 rintro σ H2 ⟨tb,rfl,zb1,hb,s2⟩
 have zb:H tb=none:=s1.free zb1
 refine ZY (fun σ Hx=>∃(tab:List (List Pt)) (v4 v5 v6 v7 v8 v9 v10:Option V),σ=[some (.ref r),some (.ref x),some (.ref t),some (.ref tb),v4,v5,v6,v7,v8,v9,v10]/\Zak Hx tb tab/\Zgm T' ns ts tab/\Ze H Hx) (λR hR=>?_) ?_
 ·walk_at "rd"
  refine⟨_,.inl (SqL.of ((s1.trans s2) _ _ hr1)),by omega,by rw[eR];omega,?_⟩
  rw[eR,YX]
  refine Zbi (λi σ Hx=>∃(tab:List (List Pt)) (v4 v5 v6 v7 v8 v9 v10:Option V),σ=[some (.ref r),some (.ref x),some (.ref t),some (.ref tb),v4,v5,v6,v7,v8,v9,v10]/\Zak Hx tb tab/\(tab.length=i/\∀v,v<i->∀a b,Za7 T' ns v a b->Zkr (nth ns) ts a b v (tab.getD v []) ts.length)/\Hx t=some (.tup (T'.map V.int))/\Ze H Hx) ⟨[],_,_,_,_,_,_,_,rfl,⟨[],hb,by simp,rfl,λi a ps e=>by simp at e⟩,⟨rfl,λv hv=>absurd hv (by omega)⟩,s2 _ _ ht,s1.trans s2⟩ ?_ ?_
  ·clear s2 hb H2 ht s1 zb1 H1
   rintro v σ H1 hv ⟨tab,v4,v5,v6,v7,v8,v9,v10,rfl,hTb,⟨lt,hln⟩,ht,s1⟩
   rw[show((0:Int)+(v:Int))=((v:Nat):Int) by omega]
   obtain⟨a,b,hsp⟩:=Zcp hT (v:=v) hv
   have hsp:Za7 T' ns v a b:=hsp
   obtain⟨sp1,sp2,sp3,_,_,hlow,_⟩:=id hsp
   refine ZY (fun σ Hx=>∃u,σ=[some (.ref r),some (.ref x),some (.ref t),some (.ref tb),some (.int (v:Int)),some (.ref u),v6,v7,v8,v9,v10]/\Hx u=some (.lst ((spL a b).map V.int))/\Ze H1 Hx) (λR hR=>?_) ?_
   ·walk_at "rd"
    refine⟨t,T',v,rfl,ht,hG,λl us H2 zl hl ⟨_,hus⟩ s2=>hR _ _ ⟨l,rfl,?_,s2⟩⟩
    rw[hl,hus,Zpd hT hsp]
   rintro σ H2 ⟨u,rfl,hu,s2⟩
   refine ZY (fun σ Hx=>σ=[some (.ref r),some (.ref x),some (.ref t),some (.ref tb),some (.int (v:Int)),some (.ref u),some (.int ((v-a:Nat):Int)),v7,v8,v9,v10]/\Hx=H2) (λR hR=>?_) ?_
   ·walk_at "rd"
    obtain⟨i1,i2⟩:=Zrs sp1 sp2
    refine⟨ZP hu,_,SqL.of hu,by unfold spL;simp;omega,i1,hR _ _ ⟨by rw[i2],rfl⟩⟩
   rintro σ H3 ⟨rfl,rfl⟩
   refine ZY (fun σ Hx=>∃(q:Addr) (rs:List (List Int)) (ms:List Int),σ=[some (.ref r),some (.ref x),some (.ref t),some (.ref tb),some (.int (v:Int)),some (.ref u),some (.int ((v-a:Nat):Int)),some (.ref q),v8,v9,v10]/\Znh ns ms a b/\Zx Hx q rs/\rs.length<=4096/\(∀r,r∈rs↔Zh5 ms ts r)/\Ze H1 Hx) (λR hR=>?_) ?_
   ·walk_at "rd"
    have ls:(spL a b).length=b-a+1:=by unfold spL;simp
    have e0:atI ((spL a b).map V.int) 0=some (V.int (a:Int)):=by
     have:=ZeC (xs:=(spL a b).map V.int) (j:=0) (show(0:Int)=((0:Nat):Int)from rfl) (by rw[Yf];omega)
     rw[this,List.getElem_map]
     have z:=Zkq (a:=a) (b:=b) (j:=0) (by omega)
     rw[Yb (by omega)]at z
     rw[YD z];simp
    have e1:atI ((spL a b).map V.int) (-1)=some (V.int (b:Int)):=ZmZ (by
     rw[List.getLast?_eq_getElem?,ls,Zkq (by omega)]
     congr 1
     omega)
    refine⟨_,SqL.of hu,_,e0,_,rfl,_,SqL.of hu,_,e1,_,rfl,_,SqL.of ((s1.trans s2) _ _ hr1),λp zp=>?_⟩
    rw[show((b:Int)+1)=((b+1:Nat):Int) by omega,Zo0 ns (by omega) (by omega)]
    have gp:=(Ze.refl H3).upd (o:=.lst ((Zl4 ns a (b+1-a)).map V.int)) zp
    have lc:=ZoU (ns:=ns) (a:=a) (c:=b+1-a) (by omega)
    refine⟨p,x,_,ts,rfl,.inl (SqL.of Zc),gp _ _ ((s1.trans s2) _ _ hx),by omega,n2,λl rs H5 zl tl ll hrs s5=>hR _ _ ⟨l,rs,_,rfl,⟨by omega,λj hj=>ZoV (by omega)⟩,tl,ll,hrs,s2.trans (gp.trans s5)⟩⟩
   clear hu s2 H3
   rintro σ H3 ⟨q,rs,ms,rfl,hcut,tq,lq,hrs,s3⟩
   refine ZY (fun σ Hx=>∃(w:Addr),σ=[some (.ref r),some (.ref x),some (.ref t),some (.ref tb),some (.int (v:Int)),some (.ref u),some (.int ((v-a:Nat):Int)),some (.ref q),some (.ref w),v9,v10]/\H3 w=none/\Hx w=some (.lst [])/\Ze H3 Hx) (λR hR=>?_) ?_
   ·walk_at "rd"
    exact⟨by decide,λw zw=>hR _ _ ⟨w,rfl,zw,Zc,(Ze.refl H3).upd zw⟩⟩
   rintro σ H4 ⟨w,rfl,zw,hw,s4⟩
   refine ZY (fun σ Hx=>∃(ps:List Pt) (v9 v10:Option V),σ=[some (.ref r),some (.ref x),some (.ref t),some (.ref tb),some (.int (v:Int)),some (.ref u),some (.int ((v-a:Nat):Int)),some (.ref q),some (.ref w),v9,v10]/\ZaN Hx w ps/\Zkr (nth ns) ts a b v ps ts.length/\Ze H3 Hx) (λR hR=>?_) ?_
   ·walk_at "rd"
    refine⟨_,.inl (SqL.of ((s1.trans (s3.trans s4)) _ _ hx)),by omega,by rw[eX];omega,?_⟩
    rw[eX,YX]
    refine Zbi (λk σ Hx=>∃(ps:List Pt) (v9 v10:Option V),σ=[some (.ref r),some (.ref x),some (.ref t),some (.ref tb),some (.int (v:Int)),some (.ref u),some (.int ((v-a:Nat):Int)),some (.ref q),some (.ref w),v9,v10]/\ZaN Hx w ps/\Zkr (nth ns) ts a b v ps k/\Ze H3 Hx) ⟨[],_,_,rfl,⟨[],hw,rfl,λi v p e=>by simp at e⟩,⟨rfl,λj hj=>absurd hj (by omega)⟩,s4⟩ ?_ ?_
    ·clear s4 hw H4
     rintro k σ H4 hk ⟨ps,v9,v10,rfl,hP,⟨lp,hL⟩,s4⟩
     rw[show((0:Int)+(k:Int))=((k:Nat):Int) by omega]
     refine ZY (fun σ Hx=>∃(e:Addr),σ=[some (.ref r),some (.ref x),some (.ref t),some (.ref tb),some (.int (v:Int)),some (.ref u),some (.int ((v-a:Nat):Int)),some (.ref q),some (.ref w),some (.int (k:Int)),some (.ref e)]/\e≠w/\Zx Hx e (rs.filter λq=>decide (nth q (v-a)=(k:Int)))/\ZaN Hx w ps/\Ze H3 Hx) (λR hR=>?_) ?_
     ·walk_at "rd"
      have tq4:=tq.same s4
      obtain⟨vals,hvals,_⟩:=id hP
      refine⟨tq4.sq,Zjy (λq=>decide (nth q (v-a)=(k:Int))) tq4 (by omega) (λc q' H5 R' hq s5 hc hR'=>?_) λg H5 s5 zg tg=>hR _ _ ⟨g,rfl,λz=>(by rw[z,hvals]at zg;cases zg),tg,hP.same s5,s4.trans s5⟩⟩
      have lq':=((hrs q').mp hq).1
      have lc:=hcut.1
      walk_at "rd"
      refine⟨_,SqT.of hc,_,Zf7 (ZiP (by omega)),rfl,?_⟩
      have:=hR' H5 (Ze.refl H5)
      rwa [show decide (nth q' (v-a)=(k:Int))=decide (V.int (nth q' (v-a))=V.int (k:Int))from decide_eq_decide.mpr ⟨λz=>by rw[z],λz=>V.int.inj z⟩]at this
     clear hP s4 H4
     rintro σ H4 ⟨e,rfl,new,te,hP,s4⟩
     refine ZY (fun σ Hx=>σ=[some (.ref r),some (.ref x),some (.ref t),some (.ref tb),some (.int (v:Int)),some (.ref u),some (.int ((v-a:Nat):Int)),some (.ref q),some (.ref w),some (.int (k:Int)),some (.ref e)]/\Zx Hx e (rs.filter λq=>decide (nth q (v-a)=(k:Int)))/\ZaN Hx w (ps++[none])/\Ze H3 Hx) (λR hR=>?_) ?_
     ·walk_at "rd"
      obtain⟨vals,hvals,lv,hv'⟩:=id hP
      refine⟨ZP hvals,_,hvals,Yt (show _<=1000 by omega) (by decide),hR _ _ ⟨rfl,?_,⟨vals++[V.non],Zc,by simp[lv],λi y pt e1 e2=>?_⟩,s4.upd zw⟩⟩
      ·exact te.keep (λxs h=>by rw[Zh new];exact h) λc xs h=>by
        rw[Zh (λz=>by rw[z,hvals]at h;cases h)];exact h
      ·by_cases c:i<vals.length
       ·rw[YL c]at e1
        rw[YL (by omega)]at e2
        have:=hv' i y pt e1 e2
        cases pt with
        |none=>exact this
        |some z =>
         obtain⟨a',rfl,h'⟩:=this
         exact⟨a',rfl,by rw[Zh (λz=>by rw[z,hvals]at h';cases h')];exact h'⟩
       ·rw[YK (by omega)]at e1
        rw[YK (by omega)]at e2
        have c1:i-vals.length=0:=by
         have:=(Yh.mp e1).1
         simpa using this
        rw[c1]at e1
        rw[show i-ps.length=0 by omega]at e2
        cases e1;cases e2;rfl
     clear hP te s4 H4
     rintro σ H4 ⟨rfl,te,hP,s4⟩
     obtain⟨en,es⟩:=Zmt (i:=k) hlow hcut hrs
     have lc:=hcut.1
     have hes:∀q',q'∈(rs.filter λq=>decide (nth q (v-a)=(k:Int)))↔q'∈rs/\nth q' (v-a)=(k:Int):=λq'=>by
      rw[YG,decide_eq_true_iff]
     have les:(rs.filter λq=>decide (nth q (v-a)=(k:Int))).length<=4096:=Ym (Y3 _ _) lq
     have lsz:∀q'∈(rs.filter λq=>decide (nth q (v-a)=(k:Int))),q'.length=b-a+1:=λq' hq=>by
      have:=((hrs q').mp ((hes q').mp hq).1).1
      omega
     generalize (rs.filter λq=>decide (nth q (v-a)=(k:Int)))=es' at te hes les lsz
     have old:∀(pt:Pt),Zbz (nth ns) ts a b v k pt->Zkr (nth ns) ts a b v (ps++[pt]) (k+1):=λpt hpt=>⟨by simp[lp],λj hj=>by
      by_cases c:j<k
      ·rw[Yi,YL (by omega),<-Yi]
       exact hL j c
      ·have:j=k:=by omega
       subst this
       rw[Yi,YK (by omega),lp,Nat.sub_self]
       exact hpt⟩
     walk_at "rd"
     refine⟨by decide,λp zp=>?_⟩
     have gp:=(Ze.refl H4).upd (o:=.lst []) zp
     have tp:=Zx.nil (Zc (H:=H4) (a:=p) (o:=.lst []))
     generalize upd H4 p (.lst [])=H5 at gp tp⊢
     have te5:=te.same gp
     have hP5:=hP.same gp
     refine⟨_,Zm0 (n:=2) (K:=K) (Zm1 (n:=1) Zj0) _ _ _ _ te5.isL tp.isL,ZD (λz=>?_) λz=>?_⟩
     ·have hne:es'≠[]:=by simpa using z
      have walkM:∀(H6:Hp),Ze H5 H6->∀(i:Int) (ix:TE) (h:List Int->Int) (Q':VK),(∀(σ:L2.St) (H:Hp) (Q:VK),Q (V.int i) H->ix σ H Q)->(∀q',q'∈es'->atI (q'.map V.int) i=some (V.int (h q')))->(∀l H7,Ze H6 H7->H7 l=some (.lst ((es'.map h).map V.int))->Q' (.ref l) H7)->Zg7 (Itl K e) (Zex 0) ZnH (tOp (Zfp K) (ZiE 0) ix) [none] Q' H6:=λH6 s6 i ix h Q' hix hat hq=>by
       obtain⟨w1,w2,w3⟩:=(te5.same s6).walk (K:=K)
       refine comp_map (n:=es'.length) (λj=>V.int (h (es'.getD j []))) (Yt les (by decide)) (λj Hx s hj=>w1 j Hx s hj) (λHx s=>w2 Hx s) ?_ ?_
       ·rintro j y Hx Hy hj s yy
        obtain⟨rfl,c,rfl,hc⟩:=w3 j y Hx Hy hj s yy
        have eg:es'.getD j []=es'[j]:=by rw[Yi,Yb hj];rfl
        walk_at "rd"
        refine hix _ _ _ ⟨_,_,rfl,SqT.of hc,_,hat _ (YI hj),CW.next hj (by rw[eg]) s⟩
       ·intro l Hx sx zl
        refine hq l _ (sx.Zay zl) ?_
        rw[Zc,YU]
        congr 2
        refine List.ext_getElem (by simp) λj h1 h2=>?_
        have:j<es'.length:=by simpa using h2
        simp[Yi,this]
      have mne:∀h:List Int->Int,es'.map h≠[]:=λh z=>hne (List.map_eq_nil_iff.mp z)
      refine⟨te5.sq,walkM H5 (Ze.refl _) 0 _ (λq'=>nth q' 0) _ (fun σ H Q h=>h) (λq' hq=>?_) λl1 H6 s6 hl1=>⟨l1,rfl,es'.map λq'=>nth q' 0,SqL.of hl1,mne _,λm hm1 hm2=>⟨(te5.same s6).sq,walkM H6 s6 (-1) _ (λq'=>nth q' (b-a)) _ (fun σ H Q h=>?_) (λq' hq=>?_) λl2 H7 s7 hl2=>⟨l2,rfl,es'.map λq'=>nth q' (b-a),SqL.of hl2,mne _,λm' hm3 hm4=>⟨by decide,λp2 z2=>?_⟩⟩⟩⟩⟩
      ·have:=lsz q' hq
       exact(congrArg (atI _) (show(0:Int)=((0:Nat):Int)from rfl)).trans (Zf7 (ZiP (i:=0) (by omega)))
      ·walk_at "rd"
       exact h
      ·have:=lsz q' hq
       refine ZmZ ?_
       rw[List.getLast?_eq_getElem?,this]
       unfold nth
       rw[show b-a+1-1=b-a by omega,Yi,Yb (by omega)];rfl
      ·have s57:=s6.trans s7
       have hP7:=hP5.same s57
       obtain⟨vals,hvals,lv,hv'⟩:=id hP7
       have g8:=(Ze.refl H7).upd (o:=.tup [V.int m,V.int m']) z2
       have t8:=Zc (H:=H7) (a:=p2) (o:=.tup [V.int m,V.int m'])
       generalize upd H7 p2 (.tup [V.int m,V.int m'])=H8 at g8 t8⊢
       have lv2:vals.length=k+1:=by rw[lv];simp[lp]
       have nw:∀c ys,H8 c=some (.tup ys)->c≠w:=λc ys h z=>by rw[z,g8 _ _ hvals]at h;cases h
       refine⟨vals,g8 _ _ hvals,k,Zfg (by omega),ps++[some (m,m')],⟨_,Zc,by simp[lv2,lp],λi y pt e1 e2=>?_⟩,old _ (es m m' ?_ ?_ λr hr hk'=>?_),(s4.trans (gp.trans (s57.trans g8))).upd zw⟩
       ·by_cases c:i=k
        ·subst c
         rw[List.getElem?_set_self (by omega)]at e1
         rw[YK (by omega),lp,Nat.sub_self]at e2
         cases e1;cases e2
         exact⟨p2,rfl,by rw[Zh (nw _ _ t8)];exact t8⟩
        ·rw[List.getElem?_set_ne (Ne.symm c)]at e1
         have hi:i<k:=by
          have:=(Yh.mp e1).1
          omega
         rw[YL (by omega)]at e2
         have:=hv' i y pt e1 (by rw[YL (by omega)];exact e2)
         cases pt with
         |none=>exact this
         |some z =>
          obtain⟨a',rfl,h'⟩:=this
          exact⟨a',rfl,by rw[Zh (nw _ _ (g8 _ _ h'))];exact g8 _ _ h'⟩
       ·obtain⟨q',hq,e⟩:=YF.mp hm1
        exact⟨q',((hes q').mp hq).1,((hes q').mp hq).2,e⟩
       ·obtain⟨q',hq,e⟩:=YF.mp hm3
        exact⟨q',((hes q').mp hq).1,((hes q').mp hq).2,e⟩
       ·have hm:=(hes r).mpr ⟨hr,hk'⟩
        exact⟨hm2 _ (YF.mpr ⟨r,hm,rfl⟩),hm4 _ (YF.mpr ⟨r,hm,rfl⟩)⟩
     ·have he:es'=[]:=by simpa using z
      refine⟨_,hP5,old none (en λr hr hk'=>?_),s4.trans gp⟩
      have:=(hes r).mpr ⟨hr,hk'⟩
      rw[he]at this;cases this
    ·rintro σ Hx ⟨ps,v9,v10,rfl,hP,hL,sx⟩
     exact hR _ _ ⟨ps,_,_,rfl,hP,hL,sx⟩
   clear s4 hw H4
   rintro σ H4 ⟨ps,v9,v10,rfl,hP,hL,s4⟩
   have hTb4:=hTb.same (s3.trans s4)
   obtain⟨as,b1,b2,b3,b4⟩:=id hTb4
   have nwt:w≠tb:=λz=>by
    obtain⟨as,e,_⟩:=hTb.same s3
    rw[z,e]at zw;cases zw
   have htb:∀(c:Addr) (qs:List Pt),ZaN H4 c qs->c≠tb->∀o,ZaN (upd H4 tb (.lst o)) c qs:=λc qs hc nc o=>by
    obtain⟨vals,h1,h2,h3⟩:=hc
    refine⟨vals,by rw[Zh nc];exact h1,h2,λi y pt e1 e2=>?_⟩
    have:=h3 i y pt e1 e2
    cases pt with
    |none=>exact this
    |some z =>
     obtain⟨a',rfl,h'⟩:=this
     exact⟨a',rfl,by rw[Zh (λz=>by rw[z,b1]at h';cases h')];exact h'⟩
   walk_at "rd"
   refine⟨ZP b1,_,b1,Yt (show _<=1000 by rw[Yf];omega) (by decide),tab++[ps],⟨as++[w],by rw[Zc];simp,by simp[b2,Ne.symm nwt],by simp[b3],λi c qs e1 e2=>?_⟩,by simp[lt],λv' hv' a' b' hsp'=>?_,?_,(s1.trans (s3.trans s4)).upd zb⟩
   ·by_cases c1:i<as.length
    ·rw[YL c1]at e1
     rw[YL (by omega)]at e2
     exact htb c qs (b4 i c qs e1 e2) (λz=>b2 (z▸List.mem_of_getElem? e1)) _
    ·rw[YK (by omega)]at e1
     rw[YK (by omega)]at e2
     have c2:i-as.length=0:=by
      have:=(Yh.mp e1).1
      simpa using this
     rw[c2]at e1
     rw[show i-tab.length=0 by omega]at e2
     cases e1;cases e2
     exact htb w ps hP nwt _
   ·by_cases c1:v'<v
    ·rw[Yi,YL (by omega),<-Yi]
     exact hln v' c1 a' b' hsp'
    ·have:v'=v:=by omega
     subst this
     rw[Yi,YK (by omega),lt,Nat.sub_self]
     obtain⟨rfl,rfl⟩:=hsp.uniq hsp'
     exact hL
   ·have:=(s3.trans s4) _ _ ht
    rw[Zh (λz=>by rw[z,b1]at this;cases this)];exact this
  ·rintro σ Hx ⟨tab,v4,v5,v6,v7,v8,v9,v10,rfl,hTb,⟨lt,hln⟩,ht,sx⟩
   refine hR _ _ ⟨tab,_,_,_,_,_,_,_,rfl,hTb,⟨by omega,λv hv=>⟨?_,λa b hsp=>(hln v (by omega) a b hsp).2⟩⟩,sx⟩
   obtain⟨a,b,hsp⟩:=Zcp hT (v:=v) (by omega)
   exact(hln v (by omega) a b hsp).1
 rintro σ Hx ⟨tab,v4,v5,v6,v7,v8,v9,v10,rfl,hTb,hSt,sx⟩
 walk_at "rd"
 exact k1 tb T' tab Hx zb hT hTb (hSt.tab hT) sx
theorem ZaN.exc {H H':Hp}{a p:Addr}{ps:List Pt} (h:ZaN H a ps) (n:a≠p) (P:ZG H p) (e:Exc p H H'):ZaN H' a ps:=by
 obtain⟨vals,h1,h2,h3⟩:=h
 obtain⟨x,hx,_⟩:=P
 exact⟨vals,e _ _ n h1,h2,λi v q e1 e2=>(h3 i v q e1 e2).excL hx e⟩
theorem Zak.ne {H:Hp}{p l:Addr}{tb:List (List Pt)} (h:Zak H l tb) (P:ZG H p):l≠p/\∀as:List Addr,H l=some (.lst (as.map V.ref))->as.length=tb.length->(∀(i:Nat) (a:Addr) (ps:List Pt),as[i]?=some a->tb[i]?=some ps->ZaN H a ps)->∀a∈as,a≠p:=by
 obtain⟨as,h1,_,h2,h3⟩:=h
 obtain⟨x,hx,_⟩:=P
 refine⟨λz=>?_,λbs g1 g2 g3 a ha z=>?_⟩
 ·rw[z,hx]at h1
  cases as with
  |nil=>cases h1
  |cons a as=>cases h1
 ·obtain⟨i,hi,ei⟩:=Y5 ha
  obtain⟨vals,f1,f2,f3⟩:=g3 i a (tb[i]'(by omega)) (Yh.mpr ⟨hi,ei⟩) (Yb (by omega))
  rw[z,hx]at f1
  cases f1
  have:=f3 0 _ ((tb[i]'(by omega))[0]'(by simp at f2;omega)) rfl (Yb _)
  revert this
  cases(tb[i]'(by omega))[0]'(by simp at f2;omega)with
  |none=>intro h;exact nomatch h
  |some z=>rintro⟨b,e,_⟩;cases e
theorem Zak.exc {H H':Hp}{p l:Addr}{tb:List (List Pt)} (h:Zak H l tb) (P:ZG H p) (e:Exc p H H'):Zak H' l tb:=by
 obtain⟨n,hn⟩:=h.ne P
 obtain⟨as,h1,h2,h3,h4⟩:=h
 exact⟨as,e _ _ n h1,h2,h3,λi a ps e1 e2=>(h4 i a ps e1 e2).exc (hn as h1 h3 h4 a (List.mem_of_getElem? e1)) P e⟩
theorem Zmu {n:Str}{H H1:Hp}{p:Addr} (h:ZX K mg n H) (P:ZG H p) (e:Exc p H H1):ZX K mg n H1:=by
 obtain⟨x,hx,_⟩:=P
 refine e _ _ (λz=>?_) h
 have h2:H (Zev K mg n)=some (Zhp (ZfK n)):=h
 rw[z,hx]at h2
 cases h2
theorem Zpe {H:Hp}{l m:Addr}{tab tb:List (List Pt)} (h1:Zak H l tab) (h2:Zak H m tb):EqN K H 3 (.ref l) (.ref m) (decide (tab=tb)):=by
 obtain⟨as,a1,_,a2,a3⟩:=h1
 obtain⟨bs,b1,_,b2,b3⟩:=h2
 exact tbl_eq a1 a2 a3 b1 b2 b3
theorem ZfN {f:Addr}{fd:FuncData} (F:Fun K "_law_told_right" "_law_told_right" ZN f fd) (Zd3:Callee P w K mg base "table_of" 7 ["row","text"] (ZeI K mg)) (ZbA:Callee P w K mg base "_law_either" 2 ["pot","some"] (Zcm K mg)) (T:Txt K mg):FnOk P w K mg base (CXE P w) 8 f fd ["pot","row","text","due"] (ZaT K mg):=by
 refine F.okX Zah (λvs H Q E h=>?_) (λcdv A outer s H vs Q E hr h=>?_)
 ·obtain⟨p,r,x,d,ns,ts,T,tab,rfl,_⟩:=h;rfl
 obtain⟨p,r,x,d,ns,ts,T',tab,rfl,P1,nrp,nxp,hr1,hx,n0,n6,n16,hT,hTab,hTb,hT1,hT2,hT3,k1⟩:=h
 refine⟨_,(Zd (Zq (i:=4) Zah.nd rfl (Or.inl rfl) (ZcV (Za (Zi ZbA (hr.mono (by decide)) rfl ZA (Za (pv 0) (Za (pv 1) Zb))) (Za (Zi ZbA (hr.mono (by decide)) rfl ZA (Za (pv 0) (Za (pv 2) Zb))) Zb))))
   (Zd (Zq (i:=5) Zah.nd rfl (Or.inl rfl) (Zi Zd3 (hr.mono (by decide)) rfl ZhA (Za (Zm ZO (pv 4) Zf (λ_ _=>rfl)) (Za (Zm ZO (pv 4) Zf (λ_ _=>rfl)) Zb))))
   (Zd (Z2 (PW.pt (Zi6 (ZhL (ZhJ (Zk (ZgJ (K:=K) rfl) rfl T.b_isinstance ZcX (Za (pv 5) (Za (ZjF (v:=.ty "list") rfl T.b_list Zf8 rfl) Zb))))) (Zi6 (Zj (Zpa (K:=K) rfl hr) (pv 5) (pv 3) (Zn _)) (ZhK (ZhL (ZhJ (Zk (ZhT (K:=K) rfl rfl) rfl T.b_all ZlW (Za (ZW ["line"] [none] rfl rfl rfl (Zav (pv 5)) (λ_ _ _ _ _=>(Zl (i:=0) (show(["line"]:List Str).Nodup from by decide +kernel) rfl (Or.inl rfl))) (λ_ _ _ _ _=>ZV) (λ_ _ _ _ _=>(Zk (ZgJ (K:=K) rfl) rfl T.b_isinstance ZcX (Za (pv 0) (Za (ZjF (v:=.ty "list") rfl T.b_list Zf8 rfl) Zb)))) Zr) Zb)))))))) (Zg (Zz Zg3)) ZH)
   (Zd (Z2 (ZhL (ZhJ (Zk (ZhT (K:=K) rfl rfl) rfl T.b_all ZlW (Za (ZW ["line"] [none] rfl rfl rfl (Zav (pv 5)) (λ_ _ _ _ _=>(Zl (i:=0) (show(["line"]:List Str).Nodup from by decide +kernel) rfl (Or.inl rfl))) (λ_ _ _ _ _=>ZV) (λ_ _ _ _ _=>(Zk (ZhT (K:=K) rfl rfl) rfl T.b_all ZlW (Za (ZW ["pair"] [none] rfl rfl rfl (ZoT (K:=K) rfl (pv 0)) (λ_ _ _ _ _=>(Zl (i:=0) (show(["pair"]:List Str).Nodup from by decide +kernel) rfl (Or.inl rfl))) (λ_ _ _ _ _=>ZV) (λ_ _ _ _ _=>(pe_or (Zf4 ZlM (pv 0) Z8 (Zn _)) (ZlE (Zk (ZgJ (K:=K) rfl) rfl T.b_isinstance ZcX (Za (pv 0) (Za (ZjF (v:=.ty "tuple") rfl T.b_tuple Zf9 rfl) Zb)))))) Zr) Zb))) Zr) Zb)))) (Zg (Zz Zg3)) ZH)
   (Zd (ZaS (ZbS PassesOwn.never rfl (Zav (pv 5)) (Zl (i:=6) Zah.nd rfl (Or.inl rfl)) (Zg (Z1 (ZbW PySem.F.plainAttrs_list PySem.F.slot_list_append PySem.F.type_list_append ZZ (pv 6) (Za (ZcV (Za Zf (Za Zf Zb))) Zb))))))
   (Zd (Z1 (ZbW PySem.F.plainAttrs_list PySem.F.slot_list_append PySem.F.type_list_append ZZ (pv 5) (Za (ZM Zb) Zb)))
   (Zg (Zz (Zou (Zf4 (Zmi (K:=K) rfl hr) (Zi Zd3 (hr.mono (by decide)) rfl ZhA (Za (Zm ZO (pv 4) Zf (λ_ _=>rfl)) (Za (Zm ZO (pv 4) Zf (λ_ _=>rfl)) Zb))) (pv 3) (Zn _)) (Zou (Zf4 (Zmi (K:=K) rfl hr) (Zcd (ZfG (K:=K) rfl) rfl T.b_list Zf8 (Za (Zm ZO (pv 4) Zf (λ_ _=>rfl)) Zb)) (pv 1) (Zn _)) (ZlE (Zf4 (Zmi (K:=K) rfl hr) (Zcd (ZfG (K:=K) rfl) rfl T.b_list Zf8 (Za (Zm ZO (pv 4) Zf (λ_ _=>rfl)) Zb)) (pv 2) (Zn _))))))))))))),?_⟩
 have hG:Zdz T':=⟨by have:=hT.1;omega,ns,hT⟩
 refine ZY (fun σ Hx=>∃(h u1 u2:Addr),σ=[some (.ref p),some (.ref r),some (.ref x),some (.ref d),some (.ref h),none,none]/\Hx h=some (.tup [.ref u1,.ref u2])/\(Hx u1=some (.lst (ns.map V.int))\/Hx u1=some (.tup (ns.map V.int)))/\(Hx u2=some (.lst (ts.map V.int))\/Hx u2=some (.tup (ts.map V.int)))/\ZG Hx p/\Exc p H Hx) (λR hR=>?_) ?_
 ·walk_at "rd"
  refine⟨p,r,_,rfl,P1,nrp,hr1,by rw[Yf];omega,λu1 H2 zu1 hu1 P2 e2=>⟨p,x,_,rfl,P2,nxp,e2 _ _ nxp hx,by rw[Yf];omega,λu2 H3 zu2 hu2 P3 e3=>⟨by decide,λh zh=>hR _ _ ⟨h,u1,u2,rfl,Zc,?_,?_,P3.upd zh,(e2.trans e3).same ((Ze.refl H3).upd zh)⟩⟩⟩⟩
  ·have n1:u1≠p:=P1.ne zu1
   exact hu1.imp (λz=>((Ze.refl H3).upd zh) _ _ (e3 _ _ n1 z)) λz=>((Ze.refl H3).upd zh) _ _ (e3 _ _ n1 z)
  ·exact hu2.imp (λz=>((Ze.refl H3).upd zh) _ _ z) λz=>((Ze.refl H3).upd zh) _ _ z
 rintro σ H1 ⟨h,u1,u2,rfl,hh,hu1,hu2,P2,e1⟩
 replace hTb:=hTb.exc P1 e1
 replace hr1:=e1 _ _ nrp hr1
 replace hx:=e1 _ _ nxp hx
 have q1:∀(H2:Hp),Ze H1 H2->(SqL K H2 u1 (ns.map V.int)\/SqT K H2 u1 (ns.map V.int)):=λH2 s2=>hu1.imp (λz=>SqL.of (s2 _ _ z)) λz=>SqT.of (s2 _ _ z)
 have q2:∀(H2:Hp),Ze H1 H2->(SqL K H2 u2 (ts.map V.int)\/SqT K H2 u2 (ts.map V.int)):=λH2 s2=>hu2.imp (λz=>SqL.of (s2 _ _ z)) λz=>SqT.of (s2 _ _ z)
 have hT1:ZX K mg "from_below" H1:=Zmu hT1 P1 e1
 have hT2:ZX K mg "best_ahead" H1:=Zmu hT2 P1 e1
 have hT3:ZX K mg "best_behind" H1:=Zmu hT3 P1 e1
 refine ZY (fun σ Hx=>∃(l:Addr) (as:List Addr),σ=[some (.ref p),some (.ref r),some (.ref x),some (.ref d),some (.ref h),some (.ref l),none]/\H1 l=none/\Zak Hx l tab/\Hx l=some (.lst (as.map V.ref))/\(∀a∈as,H1 a=none)/\Ze H1 Hx) (λR hR=>?_) ?_
 ·walk_at "rd"
  refine⟨_,SqT.of hh,_,rfl,_,SqT.of hh,_,rfl,u1,u2,ns,ts,rfl,q1 _ (Ze.refl _),q2 _ (Ze.refl _),n0,n6,n16,hT1,hT2,hT3,λl T2 tab2 H2 zl hT2 hTb2 ⟨as,f1,f2⟩ hTab2 s2=>hR _ _ ⟨l,as,rfl,zl,?_,f1,f2,s2⟩⟩
  rw[hT2.unique hT]at hTab2
  rw[Zh8 hG hTab hTab2];exact hTb2
 rintro σ H2 ⟨l,as,rfl,zl,tl,hl,fas,s2⟩
 have lin:∀a∈as,∃(vals:List V) (ps:List Pt),H2 a=some (.lst vals)/\ps.length=vals.length/\vals.length<=1000/\∀(i:Nat) (y:V) (pt:Pt),vals[i]?=some y->ps[i]?=some pt->Zaf H2 y pt:=λa ha=>by
  obtain⟨as',e1,_,e3,e4⟩:=tl
  rw[hl]at e1
  have ea:as=as':=(List.map_inj_right (λ_ _ h=>V.ref.inj h)).mp (HO.lst.inj (YD e1))
  subst ea
  obtain⟨i,hi,rfl⟩:=Y5 ha
  obtain⟨vals,v1,v2,v3⟩:=e4 i as[i] (tab[i]'(by omega)) (Yb hi) (Yb (by omega))
  refine⟨vals,_,v1,v2.symm,?_,v3⟩
  have:=(hTab.2 i (by have:=hTab.1;omega)).1
  rw[Yi,Yb (by omega)]at this
  have:(tab[i]'(by omega)).length=ts.length:=this
  omega
 have las:as.length<=1000:=by
  obtain⟨as',e1,_,e3,_⟩:=tl
  rw[hl]at e1
  have ea:as=as':=(List.map_inj_right (λ_ _ h=>V.ref.inj h)).mp (HO.lst.inj (YD e1))
  subst ea
  have:=hTab.1
  have:=hG.1
  omega
 refine ZY (fun σ Hx=>σ=[some (.ref p),some (.ref r),some (.ref x),some (.ref d),some (.ref h),some (.ref l),none]/\Ze H2 Hx) (λR hR=>?_) ?_
 ·walk_at "rd"
  refine⟨true,.inl ⟨_,.lst hl,by with_unfolding_all rfl⟩,ZD (λz=>nomatch z) λ_=>⟨_,Zpe tl (hTb.same s2),ZD (λz=>absurd z (by simp)) λ_=>⟨⟨_,SqL.of hl⟩,?_⟩⟩⟩
  refine comp_map (n:=as.length) (λ_=>V.bl true) (Yt las (by decide)) (λj Hx s hj=>⟨_,_,SqL.of (s _ _ hl),by rw[YB,Yb hj];rfl⟩) (λHx s=>⟨_,SqL.of (s _ _ hl),by rw[Yf];exact Yc _⟩) ?_ ?_
  ·rintro j y Hx Hy hj s ⟨rfl,hy⟩
   have:=hy _ (SqL.of (s _ _ hl))
   rw[YB,Yb hj]at this
   cases this
   obtain⟨vals,_,hv,_⟩:=lin _ (YI hj)
   walk_at "rd"
   exact⟨true,.inl ⟨_,.lst (s _ _ hv),by with_unfolding_all rfl⟩,CW.next hj rfl s⟩
  ·intro lz Hx sx hlz
   exact⟨lz,rfl,List.replicate as.length true,SqL.of (by rw[Zc,List.map_replicate,List.map_const',YS]),ZD (λz=>absurd z (by simp)) λ_=>hR _ _ ⟨rfl,sx.Zay hlz⟩⟩
 rintro σ H3 ⟨rfl,s3⟩
 refine ZY (fun σ Hx=>σ=[some (.ref p),some (.ref r),some (.ref x),some (.ref d),some (.ref h),some (.ref l),none]/\Ze H2 Hx) (λR hR=>?_) ?_
 ·walk_at "rd"
  refine⟨⟨_,SqL.of (s3 _ _ hl)⟩,?_⟩
  refine comp_map (n:=as.length) (λ_=>V.bl true) (Yt las (by decide)) (λj Hx s hj=>⟨_,_,SqL.of ((s3.trans s) _ _ hl),by rw[YB,Yb hj];rfl⟩) (λHx s=>⟨_,SqL.of ((s3.trans s) _ _ hl),by rw[Yf];exact Yc _⟩) ?_ ?_
  ·rintro j y Hx Hy hj s ⟨rfl,hy⟩
   have s3x:=s3.trans s
   have:=hy _ (SqL.of (s3x _ _ hl))
   rw[YB,Yb hj]at this
   cases this
   obtain⟨vals,ps,hv,lps,lvl,hpr⟩:=lin _ (YI hj)
   walk_at "rd"
   refine⟨⟨_,SqL.of (s3x _ _ hv)⟩,comp_map (n:=vals.length) (λ_=>V.bl true) (Yt lvl (by decide)) (λk Hz s' hk=>⟨_,_,SqL.of ((s3x.trans s') _ _ hv),Yb hk⟩) (λHz s'=>⟨_,SqL.of ((s3x.trans s') _ _ hv),Yc _⟩) ?_ ?_⟩
   ·rintro k y Hz Hw hk s' ⟨rfl,hy'⟩
    have:=hy' _ (SqL.of ((s3x.trans s') _ _ hv))
    rw[Yb hk]at this
    cases this
    have hp:=hpr k vals[k] (ps[k]'(by omega)) (Yb hk) (Yb (by omega))
    generalize vals[k]=y at hp⊢
    cases hpt:ps[k]'(by omega)with
    |none =>
     rw[hpt]at hp
     have hp:y=.non:=hp
     subst hp
     walk_at "rd"
     exact CW.next hk rfl s'
    |some z =>
     rw[hpt]at hp
     obtain⟨c,rfl,hc⟩:=hp
     walk_at "rd"
     refine ZD (λz=>nomatch z) λ_=>⟨true,.inl ⟨_,.tup ((s3x.trans s') _ _ hc),by with_unfolding_all rfl⟩,CW.next hk rfl s'⟩
   ·intro lz Hz sz hlz
    refine⟨lz,rfl,List.replicate vals.length true,SqL.of (by rw[Zc,List.map_replicate,List.map_const',YS]),?_⟩
    rw[show(List.replicate vals.length true).all id=true by simp]
    exact CW.next hj rfl (s.trans (sz.Zay hlz))
  ·intro lz Hx sx hlz
   exact⟨lz,rfl,List.replicate as.length true,SqL.of (by rw[Zc,List.map_replicate,List.map_const',YS]),ZD (λz=>absurd z (by simp)) λ_=>hR _ _ ⟨rfl,s3.trans (sx.Zay hlz)⟩⟩
 clear s3 H3
 rintro σ H3 ⟨rfl,s3⟩
 refine ZY (fun σ Hx=>∃v6,σ=[some (.ref p),some (.ref r),some (.ref x),some (.ref d),some (.ref h),some (.ref l),v6]/\Hx l=some (.lst (as.map V.ref))/\Ze H1 Hx) (λR hR=>?_) ?_
 ·walk_at "rd"
  have nla:∀a∈as,a≠l:=λa ha z=>by
   obtain⟨as',e1,e2,_⟩:=tl
   rw[hl]at e1
   have ea:as=as':=(List.map_inj_right (λ_ _ h=>V.ref.inj h)).mp (HO.lst.inj (YD e1))
   subst ea
   exact e2 (z▸ha)
  refine⟨⟨_,SqL.of (s3 _ _ hl)⟩,ZhN (K:=K) (a:=l) (xs:=as.map V.ref) (λj σ Hx=>∃v6,σ=[some (.ref p),some (.ref r),some (.ref x),some (.ref d),some (.ref h),some (.ref l),v6]/\Hx l=some (.lst (as.map V.ref))/\(∀a∈as,∃vals:List V,Hx a=some (.lst vals)/\vals.length<=1000+j)/\Ze H1 Hx) ⟨_,rfl,s3 _ _ hl,λa ha=>?_,s2.trans s3⟩ (λj σ Hx _ hI=>by obtain⟨_,_,h,_⟩:=hI;exact SqL.of h) ?_ ?_⟩
  ·obtain⟨vals,_,hv,_,lv,_⟩:=lin a ha
   exact⟨vals,s3 _ _ hv,by omega⟩
  ·rintro j y σ Hx ey ⟨v6,rfl,hlx,hax,sx⟩
   obtain⟨hj,ey⟩:=Yh.mp ey
   rw[Yf]at hj
   rw[List.getElem_map]at ey
   subst ey
   have ham:=YI hj
   generalize as[j]=a at ham⊢
   obtain⟨vals,hv,lv⟩:=hax a ham
   walk_at "rd"
   refine⟨ZP hv,by decide,λq zq=>?_⟩
   have gq:=(Ze.refl Hx).upd (o:=.tup [V.int 0,V.int 0]) zq
   refine⟨_,gq _ _ hv,Yt (show _<=3000 by omega) (by decide),?_,λc hc=>?_,(sx.trans gq).upd (fas a ham)⟩
   ·rw[Zh (Ne.symm (nla a ham))];exact gq _ _ hlx
   ·by_cases e:c=a
    ·subst e
     exact⟨_,Zc,by simp;omega⟩
    ·obtain⟨vals',hv',lv'⟩:=hax c hc
     exact⟨vals',by rw[Zh e];exact gq _ _ hv',by omega⟩
  ·rintro σ Hx ⟨v6,rfl,hlx,_,sx⟩
   exact hR _ _ ⟨_,rfl,hlx,sx⟩
 clear s3 H3
 rintro σ H3 ⟨v6,rfl,hl3,s3⟩
 refine ZY (fun σ Hx=>σ=[some (.ref p),some (.ref r),some (.ref x),some (.ref d),some (.ref h),some (.ref l),v6]/\Ze H1 Hx) (λR hR=>?_) ?_
 ·walk_at "rd"
  refine⟨ZP hl3,by decide,λq zq=>⟨_,((Ze.refl H3).upd zq) _ _ hl3,Yt (show _<=1000 by rw[Yf];omega) (by decide),hR _ _ ⟨rfl,(s3.Zay zq).upd zl⟩⟩⟩
 clear s3 hl3 H3
 rintro σ H3 ⟨rfl,s3⟩
 walk_at "rd"
 refine⟨_,SqT.of (s3 _ _ hh),_,rfl,_,SqT.of (s3 _ _ hh),_,rfl,u1,u2,ns,ts,rfl,q1 _ s3,q2 _ s3,n0,n6,n16,ZX.same hT1 s3,ZX.same hT2 s3,ZX.same hT3 s3,λl2 T2 tab2 H4 zl2 hT2' hTb2 _ hTab2 s4=>?_⟩
 rw[hT2'.unique hT]at hTab2
 rw[Zh8 hG hTab2 hTab]at hTb2
 have s34:=s3.trans s4
 refine⟨l2,rfl,_,Zpe hTb2 (hTb.same s34),ZD (λ_=>?_) λz=>absurd (Yz rfl) z⟩
 refine⟨_,SqT.of (s34 _ _ hh),_,rfl,u1,rfl,_,q1 _ s34,λl4 zl4=>?_⟩
 have g5:=(Ze.refl H4).upd (o:=.lst (ns.map V.int)) zl4
 have t5:=Zc (H:=H4) (a:=l4) (o:=.lst (ns.map V.int))
 generalize upd H4 l4 (.lst (ns.map V.int))=H5 at g5 t5⊢
 have s5:=s34.trans g5
 refine⟨_,ZhE (n:=2) (K:=K) Zkd _ _ ns ns (Zdx (SqL.of t5)) (Zdx (SqL.of (s5 _ _ hr1))),ZD (λ_=>?_) λz=>absurd (Yz rfl) z⟩
 refine⟨_,SqT.of (s5 _ _ hh),_,rfl,u2,rfl,_,q2 _ s5,λl6 zl6=>?_⟩
 have g6:=(Ze.refl H5).upd (o:=.lst (ts.map V.int)) zl6
 have t6:=Zc (H:=H5) (a:=l6) (o:=.lst (ts.map V.int))
 generalize upd H5 l6 (.lst (ts.map V.int))=H6 at g6 t6⊢
 have s6:=s5.trans g6
 refine⟨_,ZhE (n:=2) (K:=K) Zkd _ _ ts ts (Zdx (SqL.of t6)) (Zdx (SqL.of (s6 _ _ hx))),?_⟩
 rw[Yz rfl]
 exact k1 H6 (P2.same s6) (e1.same s6)
theorem ok_law {f:Addr}{fd:FuncData} (F:Fun K "law" "law" Zgh f fd) (ZeQ:Callee P w K mg base "_law_deal" 1 ["script","k"] (ZdS K mg)) (ZcK:Callee P w K mg base "_law_pair" 3 ["pot","most","wide"] (ZdV K mg)) (ZbZ:Callee P w K mg base "_law_table" 6 ["row","text"] (Zc5 K mg)) (Zbr:Callee P w K mg base "_law_all_stood" 4 ["row","text"] (Za5 K mg)) (Zaw:Callee P w K mg base "_law_told_right" 8 ["pot","row","text","due"] (ZaT K mg)) (T:Txt K mg):FnOk P w K mg base (CXE P w) 9 f fd ["script"] (Zna K mg):=by
 refine F.okX ZeL (λvs H Q E h=>?_) (λcdv A outer s H vs Q E hr h=>?_)
 ·obtain⟨a,ns,rfl,_⟩:=h;rfl
 obtain⟨sc,ss,rfl,hsc,hss,hTT,k1⟩:=h
 have hT1:ZX K mg "from_below" H:=hTT (Zev K mg "from_below",ZfK "from_below") (by unfold Zer;simp)
 have hT2:ZX K mg "best_ahead" H:=hTT (Zev K mg "best_ahead",ZfK "best_ahead") (by unfold Zer;simp)
 have hT3:ZX K mg "best_behind" H:=hTT (Zev K mg "best_behind",ZfK "best_behind") (by unfold Zer;simp)
 have hT4:ZX K mg "_law_table" H:=hTT (Zev K mg "_law_table",ZfK "_law_table") (by unfold Zer;simp)
 refine⟨_,(Zd (ZaS (ZbS PassesOwn.never rfl (ZF rfl T.b_range (Za (Zk (Znw rfl) rfl T.b_max ZjW (Za Zf (Za (Zk (Znx rfl) rfl T.b_min ZjX (Za (Zk (Zp (K:=K) rfl) rfl T.b_len YA (Za (pv 0) Zb)) (Za Zf Zb))) Zb))) Zb)) (Zl (i:=1) ZeL.nd rfl (Or.inl rfl)) (Zd (Zq (i:=2) ZeL.nd rfl (Or.inl rfl) (Zi ZeQ (hr.mono (by decide)) rfl ZA (Za (pv 0) (Za (pv 1) Zb))))
   (Zd (ZcT (Zi ZcK (hr.mono (by decide)) rfl ZA (Za (pv 2) (Za Zf (Za Zf Zb)))) (ZlF (n:=2) rfl (ZbP (Zl (i:=3) ZeL.nd rfl (Or.inl rfl)) (ZbP (Zl (i:=4) ZeL.nd rfl (Or.inl rfl)) Zhy))))
   (Zd (Zq (i:=5) ZeL.nd rfl (Or.inl rfl) (Zi ZbZ (hr.mono (by decide)) rfl ZA (Za (pv 3) (Za (pv 4) Zb))))
   (Zd (Z2 (PW.pt (Zi6 (Zj (Zpa (K:=K) rfl hr) (Zi Zbr (hr.mono (by decide)) rfl ZA (Za (pv 3) (Za (pv 4) Zb))) (pv 5) (Zn _)) (ZhK (ZhL (ZhJ (Zi Zaw (hr.mono (by decide)) rfl ZA (Za (pv 2) (Za (pv 3) (Za (pv 4) (Za (pv 5) Zb)))))))))) (Zg (Zz Zg3)) ZH)
   (Zd (ZcT (Zi ZcK (hr.mono (by decide)) rfl ZA (Za (pv 2) (Za Zf (Za Zf Zb)))) (ZlF (n:=2) rfl (ZbP (Zl (i:=3) ZeL.nd rfl (Or.inl rfl)) (ZbP (Zl (i:=4) ZeL.nd rfl (Or.inl rfl)) Zhy))))
   (Zg (Z2 (ZhL (ZhJ (Zi Zaw (hr.mono (by decide)) rfl ZA (Za (pv 2) (Za (pv 3) (Za (pv 4) (Za (Zi ZbZ (hr.mono (by decide)) rfl ZA (Za (pv 3) (Za (pv 4) Zb))) Zb))))))) (Zg (Zz Zg3)) ZH)))))))))
   (Zg (Zz Zg3))),?_⟩
 walk_at "rd"
 refine⟨_,.inl hsc,by split<;>(try split)<;>omega,by split<;>(try split)<;>omega,?_⟩
 refine Zbi (λi σ Hx=>∃v1 v2 v3 v4 v5,σ=[some (.ref sc),v1,v2,v3,v4,v5]/\Ze H Hx) ⟨_,_,_,_,_,rfl,Ze.refl H⟩ ?_ ?_
 ·rintro i σ H' hi ⟨v1,v2,v3,v4,v5,rfl,hs⟩
  have hi8:i<16:=by
   revert hi
   split
   ·split<;>omega
   ·omega
  refine ZY (fun σ Hx=>∃p,σ=[some (.ref sc),some (.int (0+(i:Int))),some (.ref p),v3,v4,v5]/\H p=none/\ZG Hx p/\Ze H Hx) (λR hR=>?_) ?_
  ·walk_at "rd"
   exact⟨sc,ss,_,rfl,hs.seq hsc,by omega,by omega,λp H1 hp s1 P1=>hR _ _ ⟨p,rfl,hs.free hp,P1,hs.trans s1⟩⟩
  rintro σ H1 ⟨p,rfl,zp,P1,s1⟩
  refine ZY (fun σ Hx=>∃(r x:Addr) (ns ts:List Int),σ=[some (.ref sc),some (.int (0+(i:Int))),some (.ref p),some (.ref r),some (.ref x),v5]/\r≠p/\x≠p/\0<ns.length/\ns.length<=4/\ts.length<=8/\Hx r=some (.lst (ns.map V.int))/\Hx x=some (.lst (ts.map V.int))/\ZG Hx p/\Ze H Hx) (λR hR=>?_) ?_
  ·walk_at "rd"
   exact⟨p,_,_,rfl,by decide,by decide,by decide,by decide,P1,λt r x ns ts H2 zr zx l0 l1 l2 hr2 hx2 ht2 P2 e2=>⟨t,rfl,_,SqT.of ht2,rfl,_,_,rfl,_,_,rfl,rfl,hR _ _ ⟨r,x,ns,ts,rfl,P1.ne zr,P1.ne zx,l0,by omega,by omega,hr2,hx2,P2,s1.exc zp e2⟩⟩⟩
  clear P1 s1 H1
  rintro σ H2 ⟨r,x,ns,ts,rfl,nrp,nxp,l0,l1,l2,hr2,hx2,P2,s2⟩
  refine ZY (fun σ Hx=>∃(l:Addr) (T':List Int) (tab:List (List Pt)),σ=[some (.ref sc),some (.int (0+(i:Int))),some (.ref p),some (.ref r),some (.ref x),some (.ref l)]/\Zs ns T'/\Zak Hx l tab/\Zgi T' ts tab/\Ze H2 Hx) (λR hR=>?_) ?_
  ·walk_at "rd"
   exact⟨r,x,ns,ts,rfl,hr2,hx2,by omega,by omega,ZX.same hT4 s2,λl T2 tab H3 zl hT TB hI s3=>hR _ _ ⟨l,T2,tab,rfl,hT,TB,hI,s3⟩⟩
  rintro σ H3 ⟨l,T',tab,rfl,hT,TB,hI,s3⟩
  have hG:Zdz T':=⟨by have:=hT.1;omega,ns,hT⟩
  refine ZY (fun σ Hx=>σ=[some (.ref sc),some (.int (0+(i:Int))),some (.ref p),some (.ref r),some (.ref x),some (.ref l)]/\ZG Hx p/\Ze H Hx) (λR hR=>?_) ?_
  ·walk_at "rd"
   refine⟨r,x,ns,ts,rfl,s3 _ _ hr2,s3 _ _ hx2,l1,l2,λm T2 tab2 H4 zm hT2' TB2 hI2 s4=>?_⟩
   rw[hT2'.unique hT]at hI2
   rw[Zh8 hG hI2 hI]at TB2
   have s34:=s3.trans s4
   refine⟨m,rfl,_,Zpe TB2 (TB.same s4),ZD (λz=>absurd z (by simp)) λ_=>⟨p,r,x,l,ns,ts,T',tab,rfl,P2.same s34,nrp,nxp,s34 _ _ hr2,s34 _ _ hx2,l0,by omega,by omega,hT,hI,TB.same s4,ZX.same hT1 (s2.trans s34),ZX.same hT2 (s2.trans s34),ZX.same hT3 (s2.trans s34),λH5 P5 e5=>⟨true,rfl,ZD (λz=>nomatch z) λ_=>hR _ _ ⟨rfl,P5,(s2.trans s34).exc zp e5⟩⟩⟩⟩
  clear s3 s2 P2 hr2 hx2 TB H3 H2 hI hT hG
  rintro σ H2 ⟨rfl,P2,s2⟩
  refine ZY (fun σ Hx=>∃(r x:Addr) (ns ts:List Int),σ=[some (.ref sc),some (.int (0+(i:Int))),some (.ref p),some (.ref r),some (.ref x),some (.ref l)]/\r≠p/\x≠p/\0<ns.length/\ns.length<=6/\ts.length<=16/\Hx r=some (.lst (ns.map V.int))/\Hx x=some (.lst (ts.map V.int))/\ZG Hx p/\Ze H Hx) (λR hR=>?_) ?_
  ·walk_at "rd"
   exact⟨p,_,_,rfl,by decide,by decide,by decide,by decide,P2,λt r x ns ts H3 zr zx l0 l1 l2 hr2 hx2 ht2 P3 e3=>⟨t,rfl,_,SqT.of ht2,rfl,_,_,rfl,_,_,rfl,rfl,hR _ _ ⟨r,x,ns,ts,rfl,P2.ne zr,P2.ne zx,l0,by omega,by omega,hr2,hx2,P3,s2.exc zp e3⟩⟩⟩
  clear P2 s2 H2 nrp nxp l0 l1 l2 ns ts r x
  rintro σ H2 ⟨r,x,ns,ts,rfl,nrp,nxp,l0,l1,l2,hr2,hx2,P2,s2⟩
  walk_at "rd"
  refine⟨r,x,ns,ts,rfl,hr2,hx2,by omega,by omega,ZX.same hT4 s2,λl' T2 tab H3 zl hT TB hI s3=>⟨p,r,x,l',ns,ts,T2,tab,rfl,P2.same s3,nrp,nxp,s3 _ _ hr2,s3 _ _ hx2,l0,by omega,by omega,hT,hI,TB,ZX.same hT1 (s2.trans s3),ZX.same hT2 (s2.trans s3),ZX.same hT3 (s2.trans s3),λH5 P5 e5=>⟨true,rfl,ZD (λz=>nomatch z) λ_=>(s2.trans s3).exc zp e5⟩⟩⟩
 ·rintro σ H' ⟨v1,v2,v3,v4,v5,rfl,hs⟩
  walk_at "rd"
  exact k1 H'
end
theorem all_mk {l:PySem.W.OpenLaw}{w:World}{K:PySem.W.Frag}{h:Heap}{mg:Str->Option Value}{fa:Addr}{ts:List Addr} (X:K.In h) (G:h.Ns mainGlobals mg) (hfa:mg "law"=some (.ref fa))
  {Zeu:Tok}{oc3_need_numbers:Value}{od3_need_numbers:Option Addr}{Zhs:Nat}{sl3_need_numbers:Array (Option Value)}
  (Za8:nsIn K mainGlobals "need_numbers"=some (some (.ref ZeR))) (Zcs:K.lookup ZeR=some ⟨Zoc,Zod,.func (fnOf "need_numbers" "need_numbers" (defArgs Zaa) (defBody Zaa) (defScope Zaa) (.ref Zii) Zoe Zof Zog Zoh Zht Zoi),Zoj⟩) (Zct:codeIn K Zht "need_numbers"=true) (ZaB:keepIn K (.ref ZeR)=true)
  (Za9:K.lookup Zii=some ⟨oc3_need_numbers,od3_need_numbers,.seq #[.int 1 Zeu] Zhs,sl3_need_numbers⟩)
  (Zij:nsIn K mainGlobals "settle"=some (some (.ref Zlq))) (Zik:K.lookup Zlq=some ⟨Zs7,Zs8,.func (fnOf "settle" "settle" (defArgs ZdE) (defBody ZdE) (defScope ZdE) .none Zs9 Zta Ztb Ztc Zn8 Ztd),Zte⟩) (Zil:codeIn K Zn8 "settle"=true) (Zgp:keepIn K (.ref Zlq)=true)
  (ZgW:nsIn K mainGlobals "tree_of"=some (some (.ref Zjz))) (ZgX:K.lookup Zjz=some ⟨ZsM,ZsN,.func (fnOf "tree_of" "tree_of" (defArgs Zce) (defBody Zce) (defScope Zce) .none ZsO ZsP ZsQ ZsR Zmv ZsS),ZsT⟩) (ZgY:codeIn K Zmv "tree_of"=true) (Zfm:keepIn K (.ref Zjz)=true)
  (Zim:nsIn K mainGlobals "way_up"=some (some (.ref Zlr))) (Zin:K.lookup Zlr=some ⟨Ztf,Ztg,.func (fnOf "way_up" "way_up" (defArgs ZdF) (defBody ZdF) (defScope ZdF) .none Zth Zti Ztj Ztk Zn9 Ztl),Ztm⟩) (Zio:codeIn K Zn9 "way_up"=true) (Zgq:keepIn K (.ref Zlr)=true)
  (ZfQ:nsIn K mainGlobals "young_of"=some (some (.ref Ziq))) (ZfR:K.lookup Ziq=some ⟨Zsf,Zsg,.func (fnOf "young_of" "young_of" (defArgs Zbm) (defBody Zbm) (defScope Zbm) .none Zsh Zsi Zsj Zsk Zls Zsl),Zsm⟩) (ZfS:codeIn K Zls "young_of"=true) (Zd4:keepIn K (.ref Ziq)=true)
  (Zb0:nsIn K mainGlobals "from_below"=some (some (.ref Zd5))) (Zb1:K.lookup Zd5=some ⟨ZpO,ZpP,.func (fnOf "from_below" "from_below" (defArgs ZaD) (defBody ZaD) (defScope ZaD) .none ZpQ ZpR ZpS ZpT Zfv ZpU),ZpV⟩) (Zd6:codeIn K Zfv "from_below"=true) (Zb2:keepIn K (.ref Zd5)=true)
  (Zda:Zfv=.ref ZbB) (Zdb:K.lookup ZbB=some ⟨ZpW,ZpX,.fields ZiV,ZpY⟩) (Zdc:ZiV[11]?=some (.ref ZbC)) (ZbD:PySem.W.codeHdIn K ZbB ZbC=true) (Zdd:K.lookup ZbC=none) (Zde:ZbC∈ts)
  (Zd7:nsIn K mainGlobals "need_loose"=some (some (.ref Zgr))) (Zd8:K.lookup Zgr=some ⟨ZpZ,Zp0,.func (fnOf "need_loose" "need_loose" (defArgs ZaE) (defBody ZaE) (defScope ZaE) .none Zp1 Zp2 Zp3 Zp4 ZiW Zp5),Zp6⟩) (Zd9:codeIn K ZiW "need_loose"=true) (Zb3:keepIn K (.ref Zgr)=true)
  (Zb4:nsIn K mainGlobals "best_ahead"=some (some (.ref Zea))) (Zb5:K.lookup Zea=some ⟨Zp7,Zp8,.func (fnOf "best_ahead" "best_ahead" (defArgs ZaF) (defBody ZaF) (defScope ZaF) .none Zp9 Zqa Zqb Zqc Zfw Zqd),Zqe⟩) (Zeb:codeIn K Zfw "best_ahead"=true) (Zb6:keepIn K (.ref Zea)=true)
  (Zdf:Zfw=.ref ZbE) (Zdg:K.lookup ZbE=some ⟨Zqf,Zqg,.fields ZiX,Zqh⟩) (Zdh:ZiX[11]?=some (.ref ZbF)) (ZbG:PySem.W.codeHdIn K ZbE ZbF=true) (Zdi:K.lookup ZbF=none) (Zdj:ZbF∈ts)
  (ZbH:nsIn K mainGlobals "best_behind"=some (some (.ref Zdk))) (ZbI:K.lookup Zdk=some ⟨Zpf,Zpg,.func (fnOf "best_behind" "best_behind" (defArgs Zao) (defBody Zao) (defScope Zao) .none Zph Zpi Zpj Zpk ZeS Zpl),Zpm⟩) (Zdl:codeIn K ZeS "best_behind"=true) (ZbJ:keepIn K (.ref Zdk)=true)
  (Zcu:ZeS=.ref Zba) (Zcv:K.lookup Zba=some ⟨Zpn,Zpo,.fields Zir,Zpp⟩) (Zcw:Zir[11]?=some (.ref Zbb)) (Zbc:PySem.W.codeHdIn K Zba Zbb=true) (Zcx:K.lookup Zbb=none) (Zcy:Zbb∈ts)
  (ZgZ:nsIn K mainGlobals "pair_at"=some (some (.ref ZjA))) (Zg0:K.lookup ZjA=some ⟨ZsU,ZsV,.func (fnOf "pair_at" "pair_at" (defArgs Zcf) (defBody Zcf) (defScope Zcf) .none ZsW ZsX ZsY ZsZ Zmw Zs0),Zs1⟩) (Zg1:codeIn K Zmw "pair_at"=true) (Zfn:keepIn K (.ref ZjA)=true)
  (ZfT:nsIn K mainGlobals "table_by"=some (some (.ref Zis))) (ZfU:K.lookup Zis=some ⟨Zsn,Zso,.func (fnOf "table_by" "table_by" (defArgs Zbn) (defBody Zbn) (defScope Zbn) .none Zsp Zsq Zsr Zss Zlt Zst),Zsu⟩) (ZfV:codeIn K Zlt "table_by"=true) (Zec:keepIn K (.ref Zis)=true)
  (ZfW:nsIn K mainGlobals "table_of"=some (some (.ref Zit))) (ZfX:K.lookup Zit=some ⟨Zsv,Zsw,.func (fnOf "table_of" "table_of" (defArgs Zbo) (defBody Zbo) (defScope Zbo) .none Zsx Zsy Zsz ZsA Zlu ZsB),ZsC⟩) (ZfY:codeIn K Zlu "table_of"=true) (Zed:keepIn K (.ref Zit)=true)
  (ZeT:nsIn K mainGlobals "_law_deal"=some (some (.ref Zhc))) (ZeU:K.lookup Zhc=some ⟨Zrt,Zru,.func (fnOf "_law_deal" "_law_deal" (defArgs ZaU) (defBody ZaU) (defScope ZaU) .none Zrv Zrw Zrx Zry Zks Zrz),ZrA⟩) (ZeV:codeIn K Zks "_law_deal"=true) (ZcL:keepIn K (.ref Zhc)=true)
  (ZeW:nsIn K mainGlobals "_law_take"=some (some (.ref Zhd))) (ZeX:K.lookup Zhd=some ⟨ZrB,ZrC,.func (fnOf "_law_take" "_law_take" (defArgs ZaV) (defBody ZaV) (defScope ZaV) .none ZrD ZrE ZrF ZrG Zkt ZrH),ZrI⟩) (ZeY:codeIn K Zkt "_law_take"=true) (ZcM:keepIn K (.ref Zhd)=true)
  (ZfZ:nsIn K mainGlobals "_law_row"=some (some (.ref Ziu))) (Zf0:K.lookup Ziu=some ⟨ZsD,ZsE,.func (fnOf "_law_row" "_law_row" (defArgs Zbp) (defBody Zbp) (defScope Zbp) .none ZsF ZsG ZsH ZsI Zlv ZsJ),ZsK⟩) (Zf1:codeIn K Zlv "_law_row"=true) (Zee:keepIn K (.ref Ziu)=true)
  (Zef:nsIn K mainGlobals "_law_elder"=some (some (.ref Zgs))) (Zeg:K.lookup Zgs=some ⟨Zqi,Zqj,.func (fnOf "_law_elder" "_law_elder" (defArgs ZaG) (defBody ZaG) (defScope ZaG) .none Zqk Zql Zqm Zqn ZiY Zqo),Zqp⟩) (Zeh:codeIn K ZiY "_law_elder"=true) (Zb7:keepIn K (.ref Zgs)=true)
  (ZeZ:nsIn K mainGlobals "_law_tree"=some (some (.ref Zhe))) (Ze0:K.lookup Zhe=some ⟨ZrJ,ZrK,.func (fnOf "_law_tree" "_law_tree" (defArgs ZaW) (defBody ZaW) (defScope ZaW) .none ZrL ZrM ZrN ZrO Zku ZrP),ZrQ⟩) (Ze1:codeIn K Zku "_law_tree"=true) (ZcN:keepIn K (.ref Zhe)=true)
  (Ze2:nsIn K mainGlobals "_law_over"=some (some (.ref Zhf))) (Ze3:K.lookup Zhf=some ⟨ZrR,ZrS,.func (fnOf "_law_over" "_law_over" (defArgs ZaX) (defBody ZaX) (defScope ZaX) .none ZrT ZrU ZrV ZrW Zkv ZrX),ZrY⟩) (Ze4:codeIn K Zkv "_law_over"=true) (ZcO:keepIn K (.ref Zhf)=true)
  (Zdm:nsIn K mainGlobals "_law_either"=some (some (.ref Zfx))) (Zdn:K.lookup Zfx=some ⟨Zpq,Zpr,.func (fnOf "_law_either" "_law_either" (defArgs Zap) (defBody Zap) (defScope Zap) .none Zps Zpt Zpu Zpv Ziv Zpw),Zpx⟩) (Zdo:codeIn K Ziv "_law_either"=true) (ZbK:keepIn K (.ref Zfx)=true)
  (Ze5:nsIn K mainGlobals "_law_pair"=some (some (.ref Zhg))) (Ze6:K.lookup Zhg=some ⟨ZrZ,Zr0,.func (fnOf "_law_pair" "_law_pair" (defArgs ZaY) (defBody ZaY) (defScope ZaY) .none Zr1 Zr2 Zr3 Zr4 Zkw Zr5),Zr6⟩) (Ze7:codeIn K Zkw "_law_pair"=true) (ZcP:keepIn K (.ref Zhg)=true)
  (Zdp:nsIn K mainGlobals "_law_tuples"=some (some (.ref Zfy))) (Zdq:K.lookup Zfy=some ⟨Zpy,Zpz,.func (fnOf "_law_tuples" "_law_tuples" (defArgs Zaq) (defBody Zaq) (defScope Zaq) .none ZpA ZpB ZpC ZpD Ziw ZpE),ZpF⟩) (Zdr:codeIn K Ziw "_law_tuples"=true) (ZbL:keepIn K (.ref Zfy)=true)
  (Zcz:nsIn K mainGlobals "_law_holding"=some (some (.ref Ze8))) (ZcA:K.lookup Ze8=some ⟨Zok,Zol,.func (fnOf "_law_holding" "_law_holding" (defArgs Zab) (defBody Zab) (defScope Zab) .none Zom Zon Zoo Zop Zhu Zoq),Zor⟩) (ZcB:codeIn K Zhu "_law_holding"=true) (Zbd:keepIn K (.ref Ze8)=true)
  (Zei:nsIn K mainGlobals "_law_under"=some (some (.ref Zgt))) (Zej:K.lookup Zgt=some ⟨Zqq,Zqr,.func (fnOf "_law_under" "_law_under" (defArgs ZaH) (defBody ZaH) (defScope ZaH) .none Zqs Zqt Zqu Zqv ZiZ Zqw),Zqx⟩) (Zek:codeIn K ZiZ "_law_under"=true) (Zb8:keepIn K (.ref Zgt)=true)
  (Ze9:nsIn K mainGlobals "_law_hand"=some (some (.ref Zhh))) (Zfa:K.lookup Zhh=some ⟨Zr7,Zr8,.func (fnOf "_law_hand" "_law_hand" (defArgs ZaZ) (defBody ZaZ) (defScope ZaZ) .none Zr9 Zsa Zsb Zsc Zkx Zsd),Zse⟩) (Zfb:codeIn K Zkx "_law_hand"=true) (ZcQ:keepIn K (.ref Zhh)=true)
  (Zel:nsIn K mainGlobals "_law_ruled"=some (some (.ref Zgu))) (Zem:K.lookup Zgu=some ⟨Zqy,Zqz,.func (fnOf "_law_ruled" "_law_ruled" (defArgs ZaI) (defBody ZaI) (defScope ZaI) .none ZqA ZqB ZqC ZqD Zi0 ZqE),ZqF⟩) (Zen:codeIn K Zi0 "_law_ruled"=true) (Zb9:keepIn K (.ref Zgu)=true)
  (Zca:nsIn K mainGlobals "_law_table"=some (some (.ref Zeo))) (Zcb:K.lookup Zeo=some ⟨ZqG,ZqH,.func (fnOf "_law_table" "_law_table" (defArgs ZaJ) (defBody ZaJ) (defScope ZaJ) .none ZqI ZqJ ZqK ZqL Zfz ZqM),ZqN⟩) (Zep:codeIn K Zfz "_law_table"=true) (Zcc:keepIn K (.ref Zeo)=true)
  (Zds:Zfz=.ref ZbM) (Zdt:K.lookup ZbM=some ⟨ZqO,ZqP,.fields Zi1,ZqQ⟩) (Zdu:Zi1[11]?=some (.ref ZbN)) (ZbO:PySem.W.codeHdIn K ZbM ZbN=true) (Zdv:K.lookup ZbN=none) (Zdw:ZbN∈ts)
  (Zbs:nsIn K mainGlobals "_law_all_stood"=some (some (.ref ZdH))) (Zbt:K.lookup ZdH=some ⟨Znl,Znm,.func (fnOf "_law_all_stood" "_law_all_stood" (defArgs ZU) (defBody ZU) (defScope ZU) .none Znn Zno Znp Znq Zgv Znr),Zns⟩) (Zbu:codeIn K Zgv "_law_all_stood"=true) (ZaL:keepIn K (.ref ZdH)=true)
  (Zbe:nsIn K mainGlobals "_law_told_right"=some (some (.ref ZcR))) (Zbf:K.lookup ZcR=some ⟨Zmx,Zmy,.func (fnOf "_law_told_right" "_law_told_right" (defArgs ZN) (defBody ZN) (defScope ZN) .none Zmz ZmA ZmB ZmC Zf2 ZmD),ZmE⟩) (Zbg:codeIn K Zf2 "_law_told_right"=true) (Zax:keepIn K (.ref ZcR)=true)
  (ZpG:nsIn K mainGlobals "law"=some (some (.ref ZsL))) (ZpH:K.lookup ZsL=some ⟨Zto,Ztp,.func (fnOf "law" "law" (defArgs Zgh) (defBody Zgh) (defScope Zgh) .none Zs2 Zs3 Zs4 Zs5 ZpI Zs6),Ztq⟩) (ZpJ:codeIn K ZpI "law"=true) (ZpK:keepIn K (.ref ZsL)=true)
  {C_DipError:Addr} (n_DipError:nsIn K mainGlobals "DipError"=some (some (.ref C_DipError))) (x_DipError:PySem.W.excIn K C_DipError bmV newV=true) (d_DipError:PySem.W.hasDictIn K C_DipError=true) (y_DipError:PySem.W.typeIn K (.ref C_DipError)=some (.type "type"))
  {C_Empty:Addr} (n_Empty:nsIn K mainGlobals "Empty"=some (some (.ref C_Empty))) (x_Empty:PySem.W.excIn K C_Empty bmV newV=true) (d_Empty:PySem.W.hasDictIn K C_Empty=true) (y_Empty:PySem.W.typeIn K (.ref C_Empty)=some (.type "type"))
  {C_TooMany:Addr} (n_TooMany:nsIn K mainGlobals "TooMany"=some (some (.ref C_TooMany))) (x_TooMany:PySem.W.excIn K C_TooMany bmV newV=true) (d_TooMany:PySem.W.hasDictIn K C_TooMany=true) (y_TooMany:PySem.W.typeIn K (.ref C_TooMany)=some (.type "type"))
  (b_all:nsIn K mainGlobals "all"=some none)
  (b_enumerate:nsIn K mainGlobals "enumerate"=some none)
  (b_isinstance:nsIn K mainGlobals "isinstance"=some none)
  (b_len:nsIn K mainGlobals "len"=some none)
  (b_list:nsIn K mainGlobals "list"=some none)
  (b_max:nsIn K mainGlobals "max"=some none)
  (b_min:nsIn K mainGlobals "min"=some none)
  (b_range:nsIn K mainGlobals "range"=some none)
  (b_sorted:nsIn K mainGlobals "sorted"=some none)
  (b_tuple:nsIn K mainGlobals "tuple"=some none)
  {t_MOST_HELD:Tok} (m_MOST_HELD:nsIn K mainGlobals "MOST_HELD"=some (some (.int 6 t_MOST_HELD)))
  {t_MOST_HOLDING:Tok} (m_MOST_HOLDING:nsIn K mainGlobals "MOST_HOLDING"=some (some (.int 16 t_MOST_HOLDING)))
  (nd:[ZbC,ZbF,Zbb,ZbN].Nodup)
  : ∃fd:FuncData,(∀(s:Shared) (v:Value),BindsTo s fd ⟨[v],[]⟩ [("script",v)])/\(∀p∈Zer K mg,p.1∈ts/\K.lookup p.1=none/\∃c,PySem.W.codeHdIn K c p.1=true)/\((Zer K mg).map (·.1)).Nodup/\∀base:Heap,K.In base->base.Ns mainGlobals mg->BM mg base->FnOk l.prog w K mg base (CXE l.prog w) 9 fa fd ["script"] (Zna K mg):=by
 have e:=hfa.symm.trans (mg_of X G ZpG)
 cases e
 have q_DipError:clsAt mg "DipError"=C_DipError:=by unfold clsAt;rw[mg_of X G n_DipError]
 have q_Empty:clsAt mg "Empty"=C_Empty:=by unfold clsAt;rw[mg_of X G n_Empty]
 have q_TooMany:clsAt mg "TooMany"=C_TooMany:=by unfold clsAt;rw[mg_of X G n_TooMany]
 have q_MOST_HELD:tokAt mg "MOST_HELD"=t_MOST_HELD:=by unfold tokAt;rw[mg_of X G m_MOST_HELD]
 have q_MOST_HOLDING:tokAt mg "MOST_HOLDING"=t_MOST_HOLDING:=by unfold tokAt;rw[mg_of X G m_MOST_HOLDING]
 have T:Txt K mg:={
  b_all:=mg_none_of X G b_all
  b_enumerate:=mg_none_of X G b_enumerate
  b_isinstance:=mg_none_of X G b_isinstance
  b_len:=mg_none_of X G b_len
  b_list:=mg_none_of X G b_list
  b_max:=mg_none_of X G b_max
  b_min:=mg_none_of X G b_min
  b_range:=mg_none_of X G b_range
  b_sorted:=mg_none_of X G b_sorted
  b_tuple:=mg_none_of X G b_tuple
  c_DipError:=by rw[q_DipError];exact mg_of X G n_DipError
  x_DipError:=by rw[q_DipError];exact x_DipError
  c_Empty:=by rw[q_Empty];exact mg_of X G n_Empty
  x_Empty:=by rw[q_Empty];exact x_Empty
  c_TooMany:=by rw[q_TooMany];exact mg_of X G n_TooMany
  x_TooMany:=by rw[q_TooMany];exact x_TooMany
  m_MOST_HELD:=by rw[q_MOST_HELD];exact mg_of X G m_MOST_HELD
  m_MOST_HOLDING:=by rw[q_MOST_HOLDING];exact mg_of X G m_MOST_HOLDING
 }
 subst Zda
 have Zar:=ZhD (mg_of X G Zb0) Zb1 rfl Zdb Zdc
 have Zky:Zkb K mg "from_below" Zd5:=⟨ZbB,Zar.2,by rw[Zar.1];exact ZbD⟩
 subst Zdf
 have Zas:=ZhD (mg_of X G Zb4) Zb5 rfl Zdg Zdh
 have Zkz:Zkb K mg "best_ahead" Zea:=⟨ZbE,Zas.2,by rw[Zas.1];exact ZbG⟩
 subst Zcu
 have Zad:=ZhD (mg_of X G ZbH) ZbI rfl Zcv Zcw
 have Zi2:Zkb K mg "best_behind" Zdk:=⟨Zba,Zad.2,by rw[Zad.1];exact Zbc⟩
 subst Zds
 have Zat:=ZhD (mg_of X G Zca) Zcb rfl Zdt Zdu
 have ZkA:Zkb K mg "_law_table" Zeo:=⟨ZbM,Zat.2,by rw[Zat.1];exact ZbO⟩
 have Zbh:=Zra (st:=Zaa) Zcs Zct ZaB
 have Zix:=Zbh.binds (ps:=["row","fewest"]) (ds:=[]) Za9 λ_ _ _ _ _ _ us hl=>match us,hl with|[_,_],_=>⟨_,rfl,rfl⟩
 have Zhv:=Zbh.binds (ps:=["row","fewest"]) (ds:=[.int 1 Zeu]) Za9 λ_ _ _ _ _ _ us hl=>match us,(show us.length=1 from Nat.succ.inj (YH.symm.trans hl))with|[_],_=>⟨_,rfl,rfl⟩
 have Zlw:=ZJ (st:=ZdE) Zik Zil Zgp
 have ZpL:=Zlw.binds (ps:=["elders","spine","place","keep"]) λ_ _ _ _ _ _ us hl=>match us,hl with|[_,_,_,_],_=>rfl
 have ZjB:=ZJ (st:=Zce) ZgX ZgY Zfm
 have Zoa:=ZjB.binds (ps:=["row"]) λ_ _ _ _ _ _ us hl=>match us,hl with|[_],_=>rfl
 have Zlx:=ZJ (st:=ZdF) Zin Zio Zgq
 have ZpM:=Zlx.binds (ps:=["tree","place"]) λ_ _ _ _ _ _ us hl=>match us,hl with|[_,_],_=>rfl
 have Ziy:=ZJ (st:=Zbm) ZfR ZfS Zd4
 have ZmF:=Ziy.binds (ps:=["tree"]) λ_ _ _ _ _ _ us hl=>match us,hl with|[_],_=>rfl
 have Zgw:=ZJ (st:=ZaD) Zb1 Zd6 Zb2
 have ZkB:=Zgw.binds (ps:=["tree"]) λ_ _ _ _ _ _ us hl=>match us,hl with|[_],_=>rfl
 have Zgx:=ZJ (st:=ZaE) Zd8 Zd9 Zb3
 have ZkC:=Zgx.binds (ps:=["row","text"]) λ_ _ _ _ _ _ us hl=>match us,hl with|[_,_],_=>rfl
 have Zgy:=ZJ (st:=ZaF) Zb5 Zeb Zb6
 have ZkD:=Zgy.binds (ps:=["text","pairs","i"]) λ_ _ _ _ _ _ us hl=>match us,hl with|[_,_,_],_=>rfl
 have ZfA:=ZJ (st:=Zao) ZbI Zdl ZbJ
 have Zi3:=ZfA.binds (ps:=["text","pairs","i"]) λ_ _ _ _ _ _ us hl=>match us,hl with|[_,_,_],_=>rfl
 have ZjC:=ZJ (st:=Zcf) Zg0 Zg1 Zfn
 have Zob:=ZjC.binds (ps:=["text","table","young","i"]) λ_ _ _ _ _ _ us hl=>match us,hl with|[_,_,_,_],_=>rfl
 have Ziz:=ZJ (st:=Zbn) ZfU ZfV Zec
 have ZmG:=Ziz.binds (ps:=["tree","text"]) λ_ _ _ _ _ _ us hl=>match us,hl with|[_,_],_=>rfl
 have ZiA:=ZJ (st:=Zbo) ZfX ZfY Zed
 have ZmH:=ZiA.binds (ps:=["row","text"]) λ_ _ _ _ _ _ us hl=>match us,hl with|[_,_],_=>rfl
 have Zhi:=ZJ (st:=ZaU) ZeU ZeV ZcL
 have Zly:=Zhi.binds (ps:=["script","k"]) λ_ _ _ _ _ _ us hl=>match us,hl with|[_,_],_=>rfl
 have Zhj:=ZJ (st:=ZaV) ZeX ZeY ZcM
 have Zlz:=Zhj.binds (ps:=["pot","many"]) λ_ _ _ _ _ _ us hl=>match us,hl with|[_,_],_=>rfl
 have ZiB:=ZJ (st:=Zbp) Zf0 Zf1 Zee
 have ZmI:=ZiB.binds (ps:=["pot","most"]) λ_ _ _ _ _ _ us hl=>match us,hl with|[_,_],_=>rfl
 have Zgz:=ZJ (st:=ZaG) Zeg Zeh Zb7
 have ZkE:=Zgz.binds (ps:=["row","place"]) λ_ _ _ _ _ _ us hl=>match us,hl with|[_,_],_=>rfl
 have Zhk:=ZJ (st:=ZaW) Ze0 Ze1 ZcN
 have ZlA:=Zhk.binds (ps:=["row"]) λ_ _ _ _ _ _ us hl=>match us,hl with|[_],_=>rfl
 have Zhl:=ZJ (st:=ZaX) Ze3 Ze4 ZcO
 have ZlB:=Zhl.binds (ps:=["tree","place"]) λ_ _ _ _ _ _ us hl=>match us,hl with|[_,_],_=>rfl
 have ZfB:=ZJ (st:=Zap) Zdn Zdo ZbK
 have Zi4:=ZfB.binds (ps:=["pot","some"]) λ_ _ _ _ _ _ us hl=>match us,hl with|[_,_],_=>rfl
 have Zhm:=ZJ (st:=ZaY) Ze6 Ze7 ZcP
 have ZlC:=Zhm.binds (ps:=["pot","most","wide"]) λ_ _ _ _ _ _ us hl=>match us,hl with|[_,_,_],_=>rfl
 have ZfC:=ZJ (st:=Zaq) Zdq Zdr ZbL
 have Zi5:=ZfC.binds (ps:=["many","size"]) λ_ _ _ _ _ _ us hl=>match us,hl with|[_,_],_=>rfl
 have Zfc:=ZJ (st:=Zab) ZcA ZcB Zbd
 have ZiC:=Zfc.binds (ps:=["row","text"]) λ_ _ _ _ _ _ us hl=>match us,hl with|[_,_],_=>rfl
 have ZgA:=ZJ (st:=ZaH) Zej Zek Zb8
 have ZkF:=ZgA.binds (ps:=["tree","place"]) λ_ _ _ _ _ _ us hl=>match us,hl with|[_,_],_=>rfl
 have Zhn:=ZJ (st:=ZaZ) Zfa Zfb ZcQ
 have ZlD:=Zhn.binds (ps:=["tree","place","later"]) λ_ _ _ _ _ _ us hl=>match us,hl with|[_,_,_],_=>rfl
 have ZgB:=ZJ (st:=ZaI) Zem Zen Zb9
 have ZkG:=ZgB.binds (ps:=["tree","text","table","place","at"]) λ_ _ _ _ _ _ us hl=>match us,hl with|[_,_,_,_,_],_=>rfl
 have ZgC:=ZJ (st:=ZaJ) Zcb Zep Zcc
 have ZkH:=ZgC.binds (ps:=["row","text"]) λ_ _ _ _ _ _ us hl=>match us,hl with|[_,_],_=>rfl
 have ZdI:=ZJ (st:=ZU) Zbt Zbu ZaL
 have Zg2:=ZdI.binds (ps:=["row","text"]) λ_ _ _ _ _ _ us hl=>match us,hl with|[_,_],_=>rfl
 have ZcS:=ZJ (st:=ZN) Zbf Zbg Zax
 have ZgD:=ZcS.binds (ps:=["pot","row","text","due"]) λ_ _ _ _ _ _ us hl=>match us,hl with|[_,_,_,_],_=>rfl
 have Ztn:=ZJ (st:=Zgh) ZpH ZpJ ZpK
 refine⟨fnOf "law" "law" (defArgs Zgh) (defBody Zgh) (defScope Zgh) .none Zs2 Zs3 Zs4 Zs5 ZpI Zs6,λs v=>.of_eq rfl,?tb,?nd,λbase _ _ B=>?_⟩
 case tb =>
  intro p hp
  unfold Zer at hp
  simp only[Yk,List.not_mem_nil,or_false]at hp
  rcases hp with rfl|rfl|rfl|rfl
  ·exact⟨by rw[Zar.1];exact Zde,by rw[Zar.1];exact Zdd,ZbB,by rw[Zar.1];exact ZbD⟩
  ·exact⟨by rw[Zas.1];exact Zdj,by rw[Zas.1];exact Zdi,ZbE,by rw[Zas.1];exact ZbG⟩
  ·exact⟨by rw[Zad.1];exact Zcy,by rw[Zad.1];exact Zcx,Zba,by rw[Zad.1];exact Zbc⟩
  ·exact⟨by rw[Zat.1];exact Zdw,by rw[Zat.1];exact Zdv,ZbM,by rw[Zat.1];exact ZbO⟩
 case nd =>
  unfold Zer
  simp only[YT,List.map_nil]
  rw[Zar.1,Zas.1,Zad.1,Zat.1]
  exact nd
 have ZeQ:Callee l.prog w K mg base "_law_deal" 1 ["script","k"] (ZdS K mg):=⟨_,_,mg_of X G ZeT,ZcL,Zly,Zkg Zhi T⟩
 have Zt:Callee l.prog w K mg base "_law_take" 1 ["pot","many"] (Za3 K mg):=⟨_,_,mg_of X G ZeW,ZcM,Zlz,Zkh Zhj T⟩
 have Zd2:Callee l.prog w K mg base "_law_row" 2 ["pot","most"] (ZeJ K mg):=⟨_,_,mg_of X G ZfZ,Zee,ZmI,Zlg ZiB Zt T⟩
 have ZcK:Callee l.prog w K mg base "_law_pair" 3 ["pot","most","wide"] (ZdV K mg):=⟨_,_,mg_of X G Ze5,ZcP,ZlC,Zkm Zhm Zt Zd2 T⟩
 have ZdX:Callee l.prog w K mg base "_law_elder" 1 ["row","place"] (Zc3 K mg):=⟨_,_,mg_of X G Zef,Zb7,ZkE,ZiN Zgz T⟩
 have ZS:Callee l.prog w K mg base "_law_tree" 2 ["row"] (Za4 K mg):=⟨_,_,mg_of X G ZeZ,ZcN,ZlA,Zki Zhk ZdX T⟩
 have ZeP:Callee l.prog w K mg base "_law_over" 1 ["tree","place"] (ZdT K mg):=⟨_,_,mg_of X G Ze2,ZcO,ZlB,Zkj Zhl T⟩
 have ZaK:Callee l.prog w K mg base "_law_under" 2 ["tree","place"] (Zbx K mg):=⟨_,_,mg_of X G Zei,Zb8,ZkF,ZiS ZgA ZeP T⟩
 have ZcJ:Callee l.prog w K mg base "_law_hand" 1 ["tree","place","later"] (ZdU K mg):=⟨_,_,mg_of X G Ze9,ZcQ,ZlD,Zkl Zhn T⟩
 have Zd1:Callee l.prog w K mg base "_law_ruled" 2 ["tree","text","table","place","at"] (Zc4 K mg):=⟨_,_,mg_of X G Zel,Zb9,ZkG,ZiT ZgB ZcJ T⟩
 have ZbZ:Callee l.prog w K mg base "_law_table" 6 ["row","text"] (Zc5 K mg):=⟨_,_,mg_of X G Zca,Zcc,ZkH,ZiU ZgC ZS ZaK Zd1 ZkA B T⟩
 have Zc9:Callee l.prog w K mg base "_law_tuples" 1 ["many","size"] (Zcn K mg):=⟨_,_,mg_of X G Zdp,ZbL,Zi5,Zif ZfC T⟩
 have Zcr:Callee l.prog w K mg base "_law_holding" 3 ["row","text"] (ZbU K mg):=⟨_,_,mg_of X G Zcz,Zbd,ZiC,Zhr Zfc ZS Zc9 T⟩
 have Zbr:Callee l.prog w K mg base "_law_all_stood" 4 ["row","text"] (Za5 K mg):=⟨_,_,mg_of X G Zbs,ZaL,Zg2,Zgo ZdI ZS Zcr ZaK T⟩
 have Zig:Callee l.prog w K mg base "settle" 1 ["elders","spine","place","keep"] (ZgR K mg):=⟨_,_,mg_of X G Zij,Zgp,ZpL,Zn4 Zlw T⟩
 have ZgV:Callee l.prog w K mg base "tree_of" 2 ["row"] (ZfM K mg):=⟨_,_,mg_of X G ZgW,Zfm,Zoa,Zmj ZjB Zig T⟩
 have ZpN:Callee l.prog w K mg base "need_numbers" 1 ["row","fewest"] (ZaQ K mg):=⟨_,_,mg_of X G Za8,ZaB,Zix,Zet Zbh T⟩
 have ZbV:Zj6 l.prog w K mg base "need_numbers" 1 ["row","fewest"] [V.int 1] (ZaQ K mg):=⟨_,_,_,mg_of X G Za8,ZaB,Zhv,.cons ⟨_,rfl⟩ .nil,Zet Zbh T⟩
 have Zd0:Callee l.prog w K mg base "need_loose" 2 ["row","text"] (Zc2 K mg):=⟨_,_,mg_of X G Zd7,Zb3,ZkC,ZiR Zgx ZbV T⟩
 have ZfO:Callee l.prog w K mg base "young_of" 1 ["tree"] (ZeG K mg):=⟨_,_,mg_of X G ZfQ,Zd4,ZmF,Zlk Ziy T⟩
 have Zih:Callee l.prog w K mg base "way_up" 1 ["tree","place"] (ZgQ K mg):=⟨_,_,mg_of X G Zim,Zgq,ZpM,Zn5 Zlx T⟩
 have ZdZ:Callee l.prog w K mg base "from_below" 5 ["tree"] (ZcZ K mg):=⟨_,_,mg_of X G Zb0,Zb2,ZkB,ZiO Zgw Zih Zky B T⟩
 have ZdY:Callee l.prog w K mg base "best_ahead" 1 ["text","pairs","i"] (Zc0 K mg):=⟨_,_,mg_of X G Zb4,Zb6,ZkD,ZiQ Zgy Zkz B T⟩
 have Zc8:Callee l.prog w K mg base "best_behind" 1 ["text","pairs","i"] (Zcl K mg):=⟨_,_,mg_of X G ZbH,ZbJ,Zi3,Zh9 ZfA Zi2 B T⟩
 have ZgU:Callee l.prog w K mg base "pair_at" 2 ["text","table","young","i"] (ZfL K mg):=⟨_,_,mg_of X G ZgZ,Zfn,Zob,Zmo ZjC ZdY Zc8 T⟩
 have ZfP:Callee l.prog w K mg base "table_by" 6 ["tree","text"] (ZeH K mg):=⟨_,_,mg_of X G ZfT,Zec,ZmG,Zll Ziz ZfO ZdZ ZgU T⟩
 have Zd3:Callee l.prog w K mg base "table_of" 7 ["row","text"] (ZeI K mg):=⟨_,_,mg_of X G ZfW,Zed,ZmH,Zlm ZiA ZgV Zd0 ZfP T⟩
 have ZbA:Callee l.prog w K mg base "_law_either" 2 ["pot","some"] (Zcm K mg):=⟨_,_,mg_of X G Zdm,ZbK,Zi4,Zib ZfB Zt T⟩
 have Zaw:Callee l.prog w K mg base "_law_told_right" 8 ["pot","row","text","due"] (ZaT K mg):=⟨_,_,mg_of X G Zbe,Zax,ZgD,ZfN ZcS Zd3 ZbA T⟩
 exact ok_law Ztn ZeQ ZcK ZbZ Zbr Zaw T
theorem walk {l:PySem.W.OpenLaw}{q:Program}{loose:List Str}{XP:(Str->Option Value)->Heap->Prop}{YP:World->Heap->Prop}{d:DefRec}{K:Params->PySem.W.Frag}{ts:List Addr} (hn:l.most=some 63) (hdf:d.params.defaults=[])
  (hY:∀(w:World) (h:Heap),YP w h->(K w.params).In h) (hY2:∀(w:World) (h:Heap),YP w h->∀P∈ts,h.get? P=some (PySem.W.tabObj #[]))
  (F:∀(w:World) (mg:Str->Option Value) (fa:Addr) (h:Heap),(K w.params).In h->h.Ns mainGlobals mg->mg d.name=some (.ref fa) ->
   ∃fd:FuncData,(∀(s:Shared) (u:Value),BindsTo s fd ⟨[u],[]⟩ [("script",u)])/\(∀p∈Zer (K w.params) mg,p.1∈ts/\(K w.params).lookup p.1=none/\∃c,PySem.W.codeHdIn (K w.params) c p.1=true)/\((Zer (K w.params) mg).map (·.1)).Nodup/\∀base:Heap,(K w.params).In base->base.Ns mainGlobals mg->BM mg base->FnOk l.prog w (K w.params) mg base (CXE l.prog w) 9 fa fd ["script"] (Zna (K w.params) mg)) :
  PySem.W.WalkO q loose XP YP l.row.toRowW d [] (λf vs=>PySem.call f vs) :=
 L2.Zo6 (n:=63) (k:=9) (x:="script") (ts:=ts) (tabs:=Zer) (CX:=λw=>CXE l.prog w) (sp:=λw mg=>Zna (K w.params) mg) hn (by decide) hdf ⟨rfl,by decide,by decide⟩ hY hY2 F (λ_ _ _ a ns hl hS hT=>⟨a,ns,rfl,hS,hl,hT,λ_=>rfl⟩) λ_ _ _ _ _ ⟨_,_,_,_,_,_,_,z⟩=>z
end K50
def PySem.W.Fast.tw2254997004136701077:Unit:=()
def PySem.W.Fast.tw4642304536787537628:Unit:=()
def PySem.W.Fast.tw13013425244736210191:Unit:=()
def PySem.W.Fast.tw9901328364764525321:Unit:=()
def PySem.W.Fast.tw6699428140394456209:Unit:=()
def PySem.W.Fast.tw1714403811130713269:Unit:=()
def PySem.W.Fast.tw18033064430185930801:Unit:=()
def PySem.W.Fast.tw5774445710198769188:Unit:=()
def PySem.W.Fast.tw4363814387311313130:Unit:=()
def PySem.W.Fast.tw259305785148720802:Unit:=()
def PySem.W.Fast.tw13064615284289145899:Unit:=()
def PySem.W.Fast.tw10154493739407547651:Unit:=()
def PySem.W.Fast.tw720672895860529366:Unit:=()
def PySem.W.Fast.tw10033864575657705474:Unit:=()
def PySem.W.Fast.tw17931645837803390546:Unit:=()
def PySem.W.Fast.tw6719408260641150174:Unit:=()
def PySem.W.Fast.tw17501888445422479696:Unit:=()
def PySem.W.Fast.tw3506221241119892665:Unit:=()
def PySem.W.Fast.tw10314400841904897419:Unit:=()
def PySem.W.Fast.tw2011451613391780886:Unit:=()
def PySem.W.Fast.tw18213711251226620147:Unit:=()
def PySem.W.Fast.tw6768404557191401283:Unit:=()
def PySem.W.Fast.tw15378454999221588653:Unit:=()
def PySem.W.Fast.tw12232145084854717683:Unit:=()
def PySem.W.Fast.tw12162786621634865280:Unit:=()
def PySem.W.Fast.tw3899451848124027128:Unit:=()
def PySem.W.Fast.tw17728927419072694748:Unit:=()
def PySem.W.Fast.tw13738675376272125236:Unit:=()
def PySem.W.Fast.tw4304781465064429316:Unit:=()
def PySem.W.Fast.tw6558205917186228412:Unit:=()
def PySem.W.Fast.tw1669692657052248517:Unit:=()
def PySem.W.Fast.tw600204283400373382:Unit:=()
def PySem.W.Fast.tw8846361994647095580:Unit:=()
def PySem.W.Fast.tw6237940862312938991:Unit:=()
def PySem.W.Fast.tw4398524428463264785:Unit:=()
def PySem.W.Fast.tw5377640320150500217:Unit:=()
def PySem.W.Fast.tw17823724257403553999:Unit:=()
def PySem.W.Fast.tw884559819025648726:Unit:=()
def PySem.W.Fast.tw14256975202063944504:Unit:=()
def PySem.W.Fast.tw16570300433231234047:Unit:=()
def PySem.W.Fast.tw8913362681998760682:Unit:=()
def PySem.W.Fast.tw16210606115738782277:Unit:=()
def PySem.W.Fast.tw17776683024760756552:Unit:=()
def PySem.W.Fast.tw6350610053613742:Unit:=()
def PySem.W.Fast.tw9697594563252309458:Unit:=()
def PySem.W.Fast.tw8846234805567576397:Unit:=()
def PySem.W.Fast.tw13147755043447073512:Unit:=()
def PySem.W.Fast.tw11130851253017406859:Unit:=()
def PySem.W.Fast.tw3287302497486903803:Unit:=()
def PySem.W.Fast.tw2200460642615560751:Unit:=()
def PySem.W.Fast.tw18371549009613154409:Unit:=()
def PySem.W.Fast.tw10181790683005440318:Unit:=()
def PySem.W.Fast.tw15343409672540635166:Unit:=()
def PySem.W.Fast.tw8150804109433196715:Unit:=()
def PySem.W.Fast.tw854607279852059867:Unit:=()
def PySem.W.Fast.tw3715630736507500329:Unit:=()
def PySem.W.Fast.tw14417168500731845594:Unit:=()
def PySem.W.Fast.tw6457299593190578443:Unit:=()
def PySem.W.Fast.tw7229331569243321865:Unit:=()
def PySem.W.Fast.tw16821892837263678221:Unit:=()
def PySem.W.Fast.tw5729808784977180096:Unit:=()
def PySem.W.Fast.tw10908465967232525392:Unit:=()
def PySem.W.Fast.tw12466816425385590802:Unit:=()
def PySem.W.Fast.tw13990467933155645695:Unit:=()
def PySem.W.Fast.tw6543283566859331308:Unit:=()
def PySem.W.Fast.tw2731141008150373579:Unit:=()
def PySem.W.Fast.tw4067300009283201294:Unit:=()
def PySem.W.Fast.tw3090774333686495368:Unit:=()
def PySem.W.Fast.tw9118622733848350430:Unit:=()
def PySem.W.Fast.tw11664893498775386133:Unit:=()
def PySem.W.Fast.tw5285825459858039791:Unit:=()
def PySem.W.Fast.tw6346466072745007555:Unit:=()
def PySem.W.Fast.tw16729722020747374747:Unit:=()
def PySem.W.Fast.tw9856165764044575260:Unit:=()
def PySem.W.Fast.tw7435101107224172766:Unit:=()
def PySem.W.Fast.tw12544944352920551586:Unit:=()
def PySem.W.Fast.tw2827111144220405946:Unit:=()
def PySem.W.Fast.tw5198997729315723213:Unit:=()
def PySem.W.Fast.tw9198448553509738124:Unit:=()
open PySem PySem.W PyProof.Rows
set_option maxRecDepth 100000 in
set_option maxHeartbeats 0 in
theorem PySem.Challenge.cw_dipkin_k50_the_table_told_holds : PySem.Challenge.rw_dipkin_k50_the_table_told.Holds := by
 w_on;o_law;k_head;(case hw=>w_witness2)
 k_fill
 refine K50.walk (l:=PySem.Challenge.rw_dipkin_k50_the_table_told) rfl rfl (λw h Y=>PySem.W.km_in_of Y) (λw h Y=>PySem.W.km_tabs_of Y) ?F
 case F =>
  intro w mg fa h KX G hmg
  refine' K50.all_mk KX G hmg ?Za8 ?Zcs ?Zct ?ZaB ?Za9 ?Zij ?Zik ?Zil ?Zgp ?ZgW ?ZgX ?ZgY ?Zfm ?Zim ?Zin ?Zio ?Zgq ?ZfQ ?ZfR ?ZfS ?Zd4 ?Zb0 ?Zb1 ?Zd6 ?Zb2 ?Zda ?Zdb ?Zdc ?ZbD ?Zdd ?Zde ?Zd7 ?Zd8 ?Zd9 ?Zb3 ?Zb4 ?Zb5 ?Zeb ?Zb6 ?Zdf ?Zdg ?Zdh ?ZbG ?Zdi ?Zdj ?ZbH ?ZbI ?Zdl ?ZbJ ?Zcu ?Zcv ?Zcw ?Zbc ?Zcx ?Zcy ?ZgZ ?Zg0 ?Zg1 ?Zfn ?ZfT ?ZfU ?ZfV ?Zec ?ZfW ?ZfX ?ZfY ?Zed ?ZeT ?ZeU ?ZeV ?ZcL ?ZeW ?ZeX ?ZeY ?ZcM ?ZfZ ?Zf0 ?Zf1 ?Zee ?Zef ?Zeg ?Zeh ?Zb7 ?ZeZ ?Ze0 ?Ze1 ?ZcN ?Ze2 ?Ze3 ?Ze4 ?ZcO ?Zdm ?Zdn ?Zdo ?ZbK ?Ze5 ?Ze6 ?Ze7 ?ZcP ?Zdp ?Zdq ?Zdr ?ZbL ?Zcz ?ZcA ?ZcB ?Zbd ?Zei ?Zej ?Zek ?Zb8 ?Ze9 ?Zfa ?Zfb ?ZcQ ?Zel ?Zem ?Zen ?Zb9 ?Zca ?Zcb ?Zep ?Zcc ?Zds ?Zdt ?Zdu ?ZbO ?Zdv ?Zdw ?Zbs ?Zbt ?Zbu ?ZaL ?Zbe ?Zbf ?Zbg ?Zax ?ZpG ?ZpH ?ZpJ ?ZpK ?n_DipError ?x_DipError ?d_DipError ?y_DipError ?n_Empty ?x_Empty ?d_Empty ?y_Empty ?n_TooMany ?x_TooMany ?d_TooMany ?y_TooMany ?b_all ?b_enumerate ?b_isinstance ?b_len ?b_list ?b_max ?b_min ?b_range ?b_sorted ?b_tuple ?m_MOST_HELD ?m_MOST_HOLDING ?nd
  (case Za8|Zcs|Zct|ZaB|Za9|Zij|Zik|Zil|Zgp|ZgW|ZgX|ZgY|Zfm|Zim|Zin|Zio|Zgq|ZfQ|ZfR|ZfS|Zd4|Zb0|Zb1|Zd6|Zb2=>k_is)
  (case Zda=>exact rfl)
  (case Zdb=>k_is)
  (case Zdc=>exact rfl)
  (case ZbD=>kernel_rfl)
  (case Zdd=>kernel_rfl)
  (case Zde=>decide)
  (case Zd7|Zd8|Zd9|Zb3|Zb4|Zb5|Zeb|Zb6=>k_is)
  (case Zdf=>exact rfl)
  (case Zdg=>k_is)
  (case Zdh=>exact rfl)
  (case ZbG=>kernel_rfl)
  (case Zdi=>kernel_rfl)
  (case Zdj=>decide)
  (case ZbH|ZbI|Zdl|ZbJ=>k_is)
  (case Zcu=>exact rfl)
  (case Zcv=>k_is)
  (case Zcw=>exact rfl)
  (case Zbc=>kernel_rfl)
  (case Zcx=>kernel_rfl)
  (case Zcy=>decide)
  (case ZgZ|Zg0|Zg1|Zfn|ZfT|ZfU|ZfV|Zec|ZfW|ZfX|ZfY|Zed|ZeT|ZeU|ZeV|ZcL|ZeW|ZeX|ZeY|ZcM|ZfZ|Zf0|Zf1|Zee|Zef|Zeg|Zeh|Zb7|ZeZ|Ze0|Ze1|ZcN|Ze2|Ze3|Ze4|ZcO|Zdm|Zdn|Zdo|ZbK|Ze5|Ze6|Ze7|ZcP|Zdp|Zdq|Zdr|ZbL|Zcz|ZcA|ZcB|Zbd|Zei|Zej|Zek|Zb8|Ze9|Zfa|Zfb|ZcQ|Zel|Zem|Zen|Zb9|Zca|Zcb|Zep|Zcc=>k_is)
  (case Zds=>exact rfl)
  (case Zdt=>k_is)
  (case Zdu=>exact rfl)
  (case ZbO=>kernel_rfl)
  (case Zdv=>kernel_rfl)
  (case Zdw=>decide)
  (case Zbs|Zbt|Zbu|ZaL|Zbe|Zbf|Zbg|Zax|ZpG|ZpH|ZpJ|ZpK|n_DipError=>k_is)
  (case x_DipError=>k_exc)
  (case d_DipError|y_DipError|n_Empty=>k_is)
  (case x_Empty=>k_exc)
  (case d_Empty|y_Empty|n_TooMany=>k_is)
  (case x_TooMany=>k_exc)
  (case d_TooMany|y_TooMany|b_all|b_enumerate|b_isinstance|b_len|b_list|b_max|b_min|b_range|b_sorted|b_tuple|m_MOST_HELD|m_MOST_HOLDING=>k_is)
  (case nd=>decide)
