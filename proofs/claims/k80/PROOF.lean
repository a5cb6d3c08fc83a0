import PyProof.Rows.All
import Wide.All
import OpenK.AllK
import Wide.FinOn
import Lean
import PyProof.EqAt
import PyProof.EqKinds
import PyProof.TupleCall
import PyProof.MeetsSeq
import PyProof.NeKinds
import PyProof.TupleOfSeq
import PyProof.ListRange
import PyProof.TupleOfGen
import PyProof.ZipIter
import KE.KRevIter
import PyProof.StrWalks
import PyProof.StrBlock2
import PyProof.MeetsStr
import PyProof.StrCalls2
import PyProof.StrLawsIn
import KE.KIntText
import PyProof.StrLawsTight
import PyProof.StrLawsChain
import PyProof.StrLawsAffix
import PyProof.Rows.StrItems
import PyProof.Rows.ReprOcc
import KE.KDictSum
import PyProof.Rows.SeqMore
import KE.KDictList
import KE.KStateDown
import PyProof.StrBlockI
import PyProof.FactsAll.NoneType_1
import PyProof.FString2
import PyProof.TupleKey
import OpenK.KTop
import PyProof.Rows.StrNews2
import PyProof.Rows.StrFirst
import PyProof.RulesTry
import PySem.Challenge.RW_dipkin_k80_texts_of_no_row_no_tree
set_option Elab.async false
set_option linter.all false
set_option maxRecDepth 100000
set_option maxHeartbeats 4000000
set_option genSizeOfSpec false
set_option bootstrap.genMatcherCode false
set_option compiler.extract_closed false
set_option hygiene false
local macro_rules | `(tactic| omega) => `(tactic| first | lia | omega (config := {}))
local macro_rules | `(⋯)=>`(by omega)
local macro_rules | `(tactic|and_intros)=>`(tactic|first|exact .inl rfl|exact .inr rfl|assumption)
local macro_rules | `(tactic|ac_rfl)=>`(tactic|first|exact Or.inl rfl|exact Or.inr (Or.inl rfl)|exact Or.inr (Or.inr rfl))
local macro_rules | `(tactic|ac_nf)=>`(tactic|(intro _;rfl))
local macro_rules | `(tactic|infer_instance)=>`(tactic|exact ⟨rfl,rfl,rfl,by decide +kernel,rfl,by decide +kernel,by decide +kernel⟩)
local macro_rules | `(tactic|rfl')=>`(tactic|(obtain⟨x0,u0,rfl,h0⟩:=le1 hl;obtain⟨x1,u1,rfl,h1⟩:=le1 h0;obtain rfl:=le0 h1;exact rfl))
local macro_rules | `(nofun)=>`(by decide)
section
open PySem PySem.Spec PyProof.Rows
abbrev Ya:=@wpAny_bind
abbrev Yb:=@if_neg
abbrev Yc:=@if_pos
abbrev Yd:=@Nat.le_refl
abbrev Ye:=@wpAny_pure
abbrev Yf:=@Nat.le_trans
abbrev Yg:=@List.getElem?_eq_getElem
abbrev Yh:=@Heap.lt_size
abbrev Yi:=@List.getD_eq_getElem?_getD
abbrev Yj:=@List.length_map
abbrev Yk:=@Heap.get?_push_of_some
abbrev Yl:=@PySem.boot_len
abbrev Ym:=@List.mem_cons
abbrev Yn:=@List.length_append
abbrev Yo:=@Nat.ne_of_lt
abbrev Yp:=@List.mem_append
abbrev Yq:=@Nat.zero_le
abbrev Yr:=@List.size_toArray
abbrev Ys:=@Nat.lt_of_lt_of_le
abbrev Yt:=@List.mem_append_right
abbrev Yu:=@List.getElem?_eq_some_iff
abbrev Yv:=@Heap.get?_push_size
abbrev Yw:=@wpAny_mono
abbrev Yx:=@Bool.false_ne_true
abbrev Yy:=@List.map_map
abbrev Yz:=@Option.some.inj
abbrev YA:=@Nat.lt_irrefl
abbrev YB:=@List.mem_range
abbrev YC:=@List.length_cons
abbrev YD:=@Nat.lt_of_le_of_lt
abbrev YE:=@wpAny_holding
abbrev YF:=@decide_eq_true
abbrev YG:=@List.mem_map
abbrev YH:=@List.getElem?_map
abbrev YI:=@List.mem_append_left
abbrev YJ:=@decide_eq_false
abbrev YK:=@List.getElem_mem
abbrev YL:=@Nat.lt_succ_of_lt
abbrev YM:=@of_decide_eq_true
abbrev YN:=@List.range_succ
abbrev YO:=@List.map_cons
abbrev YQ:=@List.take_add_one
abbrev YR:=@List.mem_filter
abbrev YS:=@Nat.le_of_lt
abbrev YT:=@Array.length_toList
abbrev YU:=@List.map_append
abbrev YV:=@Int.toNat_natCast
abbrev YW:=@List.mem_cons_of_mem
abbrev YX:=@List.length_take
abbrev YY:=@List.getElem?_append_right
abbrev YZ:=@List.append_assoc
abbrev Y0:=@List.mem_singleton
abbrev Y1:=@List.getElem?_append_left
abbrev Y2:=@List.pairwise_cons
abbrev Y3:=@Nat.le_succ
abbrev Y4:=@List.mem_cons_self
abbrev Y5:=@Nat.le_of_eq
abbrev Y6:=@Int.eq_ofNat_of_zero_le
abbrev Y7:=@List.length_range
abbrev Y8:=@List.take_append_drop
abbrev Y9:=@List.getElem_of_mem
abbrev Ja:=@Array.getElem?_toList
end
namespace Lake
open PySem PySem.Spec PyProof.Rows
noncomputable abbrev Key:=Sum Int Str
noncomputable def keyIs:Key->Value->Bool
 |.inl k,v=>Value.isInt k v
 |.inr x,v=>Value.isStrOf x v
noncomputable def keyH (w:World):Key->Int
 |.inl k=>hashInt k
 |.inr x=>hashStr w x
theorem ZX:∀{k:Key}{v:Value},keyIs k v=true->(∃i t,k=Sum.inl i/\v=Value.int i t)\/(∃x t,k=Sum.inr x/\v=Value.str x t)
 |.inl i,v,h=>by
  obtain⟨t,e⟩:=Value.isInt_shape (k:=i) (v:=v) h
  exact .inl ⟨i,t,rfl,e⟩
 |.inr x,v,h=>by
  obtain⟨t,e⟩:=Value.isStrOf_shape (x:=x) (v:=v) h
  exact .inr ⟨x,t,rfl,e⟩
theorem key_ll (a b:Int):decide ((Sum.inl a:Key)=Sum.inl b)=(a==b):=by
 by_cases e:a=b
 .subst e;simp
 .have h:¬ (Sum.inl a:Key)=Sum.inl b:=λq=>e (Sum.inl.inj q)
  rw[YJ h]
  exact(beq_eq_false_iff_ne.mpr e).symm
theorem key_rr (a b:Str):decide ((Sum.inr a:Key)=Sum.inr b)=decide (a=b):=by
 by_cases e:a=b
 .subst e;simp
 .have h:¬ (Sum.inr a:Key)=Sum.inr b:=λq=>e (Sum.inr.inj q)
  rw[YJ h,YJ e]
theorem key_lr (a:Int) (b:Str):decide ((Sum.inl a:Key)=Sum.inr b)=false:=YJ (λq=>nomatch q)
theorem key_rl (a:Str) (b:Int):decide ((Sum.inr a:Key)=Sum.inl b)=false:=YJ (λq=>nomatch q)
noncomputable def Zf4 (prog:Program) (w:World):PySem.KeyKind prog w Key where
 is:=keyIs
 hash:=keyH w
 inj:=λv a b ha hb=>by
  rcases ZX ha with⟨i,t,rfl,rfl⟩|⟨x,t,rfl,rfl⟩
  .rcases ZX hb with⟨j,u,rfl,e⟩|⟨y,u,rfl,e⟩
   .injection e with e1 _;rw[e1]
   .exact nomatch e
  .rcases ZX hb with⟨j,u,rfl,e⟩|⟨y,u,rfl,e⟩
   .exact nomatch e
   .injection e with e1 _;rw[e1]
 byValue:=λk v h=>by
  rcases ZX h with⟨i,t,rfl,rfl⟩|⟨x,t,rfl,rfl⟩<;>rfl
 pyHash:=λhv h=>by
  rcases ZX hv with⟨i,t,rfl,rfl⟩|⟨x,t,rfl,rfl⟩
  .exact wpAny_pyHash_int h
  .exact wpAny_pyHash_str h
 eqBool:=λhu hv h=>by
  rcases ZX hu with⟨i,t,rfl,rfl⟩|⟨x,t,rfl,rfl⟩
  .rcases ZX hv with⟨j,u,rfl,rfl⟩|⟨y,u,rfl,rfl⟩
   .rw[key_ll]at h;exact wpAny_eqBool_int h
   .rw[key_lr]at h;exact SeqAt.EqAt.int_str i t y u _ _ _ _ h
  .rcases ZX hv with⟨j,u,rfl,rfl⟩|⟨y,u,rfl,rfl⟩
   .rw[key_rl]at h;exact SeqAt.EqAt.str_int x t j u _ _ _ _ h
   .rw[key_rr]at h;exact wpAny_eqBool_str h
 «strs»:=λk x t v h=>by
  rcases ZX h with⟨i,u,rfl,e⟩|⟨y,u,rfl,e⟩
  .exact nomatch e
  .injection e with e1 _
   subst e1
   cases v<;>rfl
inductive V where
 |non|bl (b:Bool)|int (i:Int)|str (x:Str)|byt (b:Array UInt8)|flt (b:UInt64)|ref (a:Addr)|ty (n:String)
 deriving DecidableEq
noncomputable def RelV:V->Value->Prop
 |.non,u=>u=Value.none
 |.bl b,u=>u=Value.bool b
 |.int i,u=>∃t,u=Value.int i t
 |.str x,u=>∃t,u=Value.str x t
 |.byt b,u=>∃t,u=Value.bytes b t
 |.flt b,u=>∃t,u=Value.float b t
 |.ref a,u=>u=Value.ref a
 |.ty n,u=>u=Value.type n
noncomputable abbrev Vals:List V->List Value->Prop:=Paired RelV
theorem Vals.length {xs:List V}{us:List Value} (r:Vals xs us):xs.length=us.length:=Paired.length r
theorem Vals.get:∀{xs:List V}{us:List Value}{i:Nat}{x:V},Vals xs us->xs[i]?=some x->∃u,us[i]?=some u/\RelV x u
 |_,_,_,_,.nil,e=>by simp at e
 |_,_,0,_,.cons r _,e=>by simp at e;subst e;exact⟨_,rfl,r⟩
 |_,_,i+1,x,.cons _ t,e=>by
  obtain⟨u,h1,h2⟩:=Vals.get (i:=i) (x:=x) t (by simpa using e)
  exact⟨u,by simpa using h1,h2⟩
theorem Vals.set {x:V}{u:Value} (r:RelV x u):∀{xs:List V}{us:List Value} (i:Nat),Vals xs us->Vals (xs.set i x) (us.set i u)
 |_,_,_,.nil=>.nil
 |_,_,0,.cons _ t=>.cons r t
 |_,_,i+1,.cons q t=>.cons q (Vals.set r i t)
theorem Vals.append:∀{xs ys:List V}{us ws:List Value},Vals xs us->Vals ys ws->Vals (xs++ys) (us++ws)
 |_,_,_,_,.nil,s=>s
 |_,_,_,_,.cons r t,s=>.cons r (Vals.append t s)
noncomputable def RelO:Option V->Option Value->Prop
 |some v,some u=>RelV v u
 |none,none=>True
 |_,_=>False
noncomputable def KV {κ:Type}:List (κ×V)->List (κ×Value)->Prop:=Paired λ(p:κ×V) (q:κ×Value)=>p.1=q.1/\RelV p.2 q.2
noncomputable def kV:Key->V
 |.inl i=>.int i
 |.inr x=>.str x
inductive HO where
 |lst (xs:List V)
 |tup (xs:List V)
 |dK (kvs:List (Key×V))|dT (kvs:List (List Key×V))
 |set (S:Int->Bool) (n:Nat)
 |ins (C dx:Addr) (fs:List (Str×V))
 |own (x:Addr)
 |xd (fs:List (Str×V))
 |met (f x:Addr)
 |rng (lo hi:Int)
 |frz (o:Obj) (u:HO)
 |tbl (ps:Array Value)
 |ext (φ:Heap->Prop)
noncomputable abbrev Hp:=Addr->Option HO
noncomputable def upd (H:Hp) (a:Addr) (o:HO):Hp:=λb=>if b=a then some o else H b
theorem Zd {H:Hp}{a:Addr}{o:HO}:upd H a o a=some o:=by unfold upd;rw[Yc rfl]
theorem Zm {H:Hp}{a b:Addr}{o:HO} (h:b≠a):upd H a o b=H b:=by unfold upd;rw[Yb h]
theorem ZC {H:Hp}{a b:Addr}{o:HO} (h:H a=some o) (h':H b=none):a≠b:=by
 intro e;subst e;rw[h]at h';cases h'
section
variable (P:Program) (w:World)
noncomputable def Z8 (H:Hp) (h:Heap) (a:Addr):HO->Prop
 |.lst xs=>xs.length<=sizeLine/\∃(its:List Value) (n:Nat),Vals xs its/\h.get? a=some {cls:=.type "list",data:=.seq its.toArray n}
 |.tup xs=>xs.length<=sizeLine/\∃its:List Value,Vals xs its/\IsTup h a its.toArray
 |.dK kvs=>kvs.length<=sizeLine/\(a==sysModules)=false/\∃vs,KV kvs vs/\h.DictOf (Zf4 P w) a vs
 |.dT kvs=>kvs.length<=sizeLine/\(a==sysModules)=false/\∃xs:List (List Key×Addr×Value),
   Paired (λ(p:List Key×V) (q:List Key×Addr×Value)=>p.1=q.1/\H q.2.1=some (.tup (p.1.map kV))/\RelV p.2 q.2.2) kvs xs /\
   ∃o es ep,h.get? a=some o/\o.ExactDict/\o.data=.dict es ep/\es.toList=xs.map (entryOfKey (tupleKind (Zf4 P w)))/\(xs.map (·.1)).Nodup
 |.set S n=>h.SetOf (intKind P w) a S n
 |.ins C dx fs=>H dx=some (.own a)/\fs.length<=1000/\dx≠a/\h.get? a=some (PySem.W.instObj C dx) /\
   ∃mA,h.Ns1 dx mA/\(∀f,RelO (fs.lookup f) (mA f))/\PySem.Within mA (fs.map (·.1))
 |.own _=>∃o,h.get? a=some o
 |.xd fs=>∃mA,h.Ns1 a mA/\∀f,RelO (fs.lookup f) (mA f)
 |.rng lo hi=>∃t u v,h.get? a=some {cls:=.type "range",data:=.fields #[.int lo t,.int hi u,.int 1 v]}
 |.frz o u=>h.get? a=some o/\Z8 H h a u
 |.tbl ps=>∃ts:Array Value,h.get? a=some {cls:=.none,data:=.fields ts}/\TriplesOk ts.toList/\∀pos cv,codeAmong pos ts.toList=some cv->∃c oc vs q t t',cv=.ref c/\H c=some (.frz oc (.own a))/\oc.data=.fields vs/\ps[0]?=some (.str q t)/\vs[1]?=some (.str q t')
 |.met f x=>h.get? a=some (PySem.W.methodObj (.ref f) (.ref x))
 |.ext φ=>φ h/\(∃o,h.get? a=some o)/\∀h1 h2:Heap,φ h1->(∀o,h1.get? a=some o->h2.get? a=some o)->φ h2
noncomputable def HOk (H:Hp) (h:Heap):Prop:=∀a o,H a=some o->Z8 P w H h a o
end
section
variable {P:Program}{w:World}{H H':Hp}{h h':Heap}{a:Addr}{o:HO}
theorem Z8.lt (x:Z8 P w H h a o):a<h.objs.size:=by
 cases o with
 |lst xs=>obtain⟨_,_,_,_,e⟩:=x;exact Yh e
 |tup xs=>obtain⟨_,_,_,p⟩:=x;exact p.lt
 |dK kvs=>obtain⟨_,_,_,_,o,_,_,e,_⟩:=x;exact Yh e
 |dT kvs=>obtain⟨_,_,_,_,o,_,_,e,_⟩:=x;exact Yh e
 |set S n=>obtain⟨o,_,_,_,e,_⟩:=x;exact Yh e
 |ins C dx fs=>obtain⟨_,_,_,e,_⟩:=x;exact Yh e
 |own y=>obtain⟨_,e⟩:=x;exact Yh e
 |xd fs=>obtain⟨_,⟨_,_,_,e,_⟩,_⟩:=x;exact Yh e
 |rng lo hi=>obtain⟨_,_,_,e⟩:=x;exact Yh e
 |frz ob u=>obtain⟨e,_⟩:=x;exact Yh e
 |tbl ps=>obtain⟨_,e,_⟩:=x;exact Yh e
 |met f y=>exact Yh (show h.get? a=some _ from x)
 |ext φ=>obtain⟨_,⟨_,e⟩,_⟩:=x;exact Yh e
theorem Paired.mapP {α β:Type}{F G:α->β->Prop}:∀{l₁:List α}{l₂:List β},Paired F l₁ l₂->(∀a b,F a b->G a b)->Paired G l₁ l₂
 |_,_,.nil,_=>.nil
 |_,_,.cons r t,f=>.cons (f _ _ r) (Paired.mapP t f)
theorem Z8.Zd7 (x:Z8 P w H h a o) (k:∀b u,(b=a\/H b=some (.own a))->h.get? b=some u->h'.get? b=some u)
  (ho:∀b,H b=some (.own a)->H' b=some (.own a)) (ht:∀b xs,H b=some (.tup xs)->H' b=some (.tup xs)) (hz:∀b o u,H b=some (.frz o u)->H' b=some (.frz o u)):Z8 P w H' h' a o:=by
 induction o with
 |lst xs=>obtain⟨z,its,n,r,e⟩:=x;exact⟨z,its,n,r,k _ _ (.inl rfl) e⟩
 |tup xs=>obtain⟨z,its,r,ob,e,c⟩:=x;exact⟨z,its,r,ob,k _ _ (.inl rfl) e,c⟩
 |dK kvs=>obtain⟨z,y,vs,r,ob,es,ep,e,c⟩:=x;exact⟨z,y,vs,r,ob,es,ep,k _ _ (.inl rfl) e,c⟩
 |dT kvs =>
  obtain⟨z,y,xs,r,ob,es,ep,e,c⟩:=x
  exact⟨z,y,xs,Paired.mapP r λp q z=>⟨z.1,ht _ _ z.2.1,z.2.2⟩,ob,es,ep,k _ _ (.inl rfl) e,c⟩
 |set S n=>obtain⟨ob,es,ep,t,e,c⟩:=x;exact⟨ob,es,ep,t,k _ _ (.inl rfl) e,c⟩
 |ins C dx fs =>
  obtain⟨d,z,ne,e,mA,⟨od,es,ep,e2,c⟩,r⟩:=x
  exact⟨ho _ d,z,ne,k _ _ (.inl rfl) e,mA,⟨od,es,ep,k _ _ (.inr d) e2,c⟩,r⟩
 |own y=>obtain⟨ob,e⟩:=x;exact⟨ob,k _ _ (.inl rfl) e⟩
 |xd fs=>obtain⟨mA,⟨od,es,ep,e,c⟩,r⟩:=x;exact⟨mA,⟨od,es,ep,k _ _ (.inl rfl) e,c⟩,r⟩
 |rng lo hi=>obtain⟨t,u,v,e⟩:=x;exact⟨t,u,v,k _ _ (.inl rfl) e⟩
 |frz ob u ih=>obtain⟨e,q⟩:=x;exact⟨k _ _ (.inl rfl) e,ih q⟩
 |tbl ps =>
  obtain⟨ts,e,t3,z⟩:=x
  refine⟨ts,k a _ (.inl rfl) e,t3,λpos cv hc=>?_⟩
  obtain⟨c,oc,vs,q,t,t',e1,e2,r⟩:=z pos cv hc
  exact⟨c,oc,vs,q,t,t',e1,hz _ _ _ e2,r⟩
 |met f y =>
  have e:h.get? a=some (PySem.W.methodObj (.ref f) (.ref y)):=x
  show h'.get? a=some (PySem.W.methodObj (.ref f) (.ref y))
  exact k a _ (.inl rfl) e
 |ext φ=>obtain⟨p,⟨o,e⟩,st⟩:=x;exact⟨st _ _ p λo q=>k _ _ (.inl rfl) q,⟨o,k _ _ (.inl rfl) e⟩,st⟩
theorem HOk.lt (x:HOk P w H h) (e:H a=some o):a<h.objs.size:=(x a o e).lt
theorem HOk.fresh (x:HOk P w H h) (e:h.objs.size<=a):H a=none:=by
 cases q:H a with
 |none=>rfl
 |some u=>exact absurd (Ys (x.lt q) e) (YA _)
theorem HOk.kept (x:HOk P w H h) (k:∀b u,h.get? b=some u->h'.get? b=some u):HOk P w H h':=λa o e =>
 (x a o e).Zd7 (λb u _ q=>k b u q) (λ_ q=>q) (λ_ _ q=>q) λ_ _ _ q=>q
theorem HOk.laid (x:HOk P w H h) (k:∀b u,h.get? b=some u->h'.get? b=some u) (hp:h.objs.size<=a) (new:Z8 P w (upd H a o) h' a o):HOk P w (upd H a o) h':=λb u e=>by
 have hn:=x.fresh hp
 by_cases hb:b=a
 .subst hb;rw[Zd]at e;cases e;exact new
 .rw[Zm hb]at e
  exact(x b u e).Zd7 (λc v _ q=>k c v q) (λc q=>by rw[Zm (ZC q hn)];exact q) (λc xs q=>by rw[Zm (ZC q hn)];exact q) λc o u q=>by rw[Zm (ZC q hn)];exact q
end
noncomputable def Rd (H:Hp) (a:Addr) (u:HO):Prop:=H a=some u\/∃o,H a=some (.frz o u)
theorem Rd.ok {P:Program}{w:World}{H:Hp}{h:Heap}{a:Addr}{u:HO} (r:Rd H a u) (x:HOk P w H h):Z8 P w H h a u:=by
 rcases r with r|⟨o,r⟩
 .exact x a u r
 .obtain⟨_,q⟩:=x a _ r
  exact q
noncomputable def Mut:Option HO->Prop
 |some (.lst _)=>True
 |some (.dK _)=>True
 |some (.dT _)=>True
 |some (.set _ _)=>True
 |some (.ins _ _ _)=>True
 |some (.ext _)=>True
 |_=>False
section
variable {P:Program}{w:World}{H:Hp}{h h':Heap}{x e:Addr}{o':HO}
theorem HOk.write (ok:HOk P w H h) (mu:Mut (H x)) (he:e=x\/H e=some (.own x)) (k:∀b u,b≠e->h.get? b=some u->h'.get? b=some u) (heo:∃u,h'.get? e=some u)
  (new:Z8 P w (upd H x o') h' x o'):HOk P w (upd H x o') h':=λb u q=>by
 have nown:∀c y,H c=some (.own y)->c≠x:=λc y r z=>by subst z;rw[r]at mu;exact mu
 have ntup:∀c xs,H c=some (.tup xs)->c≠x:=λc xs r z=>by subst z;rw[r]at mu;exact mu
 have nfrz:∀c o u,H c=some (.frz o u)->c≠x:=λc o u r z=>by subst z;rw[r]at mu;exact mu
 by_cases hb:b=x
 .subst hb;rw[Zd]at q;cases q;exact new
 .rw[Zm hb]at q
  by_cases hbe:b=e
  .have q':H b=some (.own x):=by
    rcases he with z|z
    .exact absurd (hbe.trans z) hb
    .rw[hbe];exact z
   rw[q]at q';cases q'
   obtain⟨v,hv⟩:=heo
   exact⟨v,by rw[hbe];exact hv⟩
  .refine(ok b u q).Zd7 (λc v hc r=>k c v ?_ r) (λc r=>by rw[Zm (nown c b r)];exact r) (λc xs r=>by rw[Zm (ntup c xs r)];exact r) λc o u r=>by rw[Zm (nfrz c o u r)];exact r
   rcases hc with rfl|hc
   .exact hbe
   .rintro rfl
    rcases he with z|z
    .exact nown c b hc z
    .rw[hc]at z;cases z;exact hb rfl
end
structure Un (fs ex:List Addr) (H H':Hp) (h h':Heap):Prop where
 keep:∀b o,h.get? b=some o->H b=none->b∉fs->b∉ex->h'.get? b=some o
 slot:∀b o,h.get? b=some o->H b=none->b∈fs->b∉ex->∃sl,h'.get? b=some {o with slots:=sl}
 free:∀b o,h.get? b=some o->H b=none->b∉ex->H' b=none
 there:∀b o,h.get? b=some o->b∉ex->∃o',h'.get? b=some o'
 tups:∀b xs,H b=some (.tup xs)->H' b=some (.tup xs)
 frzs:∀b o u,H b=some (.frz o u)->H' b=some (.frz o u)
 tbls:∀b ps,H b=some (.tbl ps)->∃more,H' b=some (.tbl (ps++more))
section
variable {fs fs' ex ex':List Addr}{H H1 H2:Hp}{h h1 h2 h':Heap}{a x e:Addr}{o:HO}
theorem Un.any (u:Un fs ex H H1 h h1) {b:Addr}{ob:Obj} (q:h.get? b=some ob) (n:H b=none) (hx:b∉ex):∃sl,h1.get? b=some {ob with slots:=sl}:=by
 by_cases hb:b∈fs
 .exact u.slot b ob q n hb hx
 .exact⟨ob.slots,u.keep b ob q n hb hx⟩
theorem Un.kept (k:∀b u,h.get? b=some u->h'.get? b=some u):Un fs ex H H h h' :=
 ⟨λb ob q _ _ _=>k b ob q,λb ob q _ _ _=>⟨ob.slots,k b ob q⟩,λ_ _ _ n _=>n,λb ob q _=>⟨ob,k b ob q⟩,λ_ _ q=>q,λ_ _ _ q=>q,λ_ ps q=>⟨#[],by rw[q];simp⟩⟩
theorem Un.refl:Un fs ex H H h h:=Un.kept λ_ _ q=>q
theorem Un.laid (k:∀b u,h.get? b=some u->h'.get? b=some u) (hp:h.objs.size<=a) (hn:H a=none):Un fs ex H (upd H a o) h h' where
 keep:=λb u q _ _ _=>k b u q
 slot:=λb u q _ _ _=>⟨u.slots,k b u q⟩
 free:=λb u q n _=>by rw[Zm (Yo (Ys (Yh q) hp))];exact n
 there:=λb u q _=>⟨u,k b u q⟩
 tups:=λb xs q=>by rw[Zm (ZC q hn)];exact q
 frzs:=λb u xs q=>by rw[Zm (ZC q hn)];exact q
 tbls:=λb ps q=>⟨#[],by rw[Zm (ZC q hn),q];simp⟩
theorem Un.write (mu:Mut (H x)) (he:e=x\/H e=some (.own x)) (k:∀b u,b≠e->h.get? b=some u->h'.get? b=some u) (heo:∃u,h'.get? e=some u):Un fs ex H (upd H x o) h h':=by
 have hx:∀b,H b=none->b≠x:=λb n z=>by subst z;rw[n]at mu;exact mu
 have hb:∀b,H b=none->b≠e:=λb n z=>by
  subst z
  rcases he with r|r
  .exact hx b n r
  .rw[n]at r;cases r
 have hm:∀b u,H b=some u->¬ Mut (some u)->b≠x:=λb u q nm z=>by subst z;rw[q]at mu;exact nm mu
 refine⟨λb u q n _ _=>k b u (hb b n) q,λb u q n _ _=>⟨u.slots,k b u (hb b n) q⟩,λb u q n _=>by rw[Zm (hx b n)];exact n,λb u q _=>?_,
  λb xs q=>by rw[Zm (hm b _ q λz=>z)];exact q,λb u xs q=>by rw[Zm (hm b _ q λz=>z)];exact q,λb ps q=>⟨#[],by rw[Zm (hm b _ q λz=>z),q];simp⟩⟩
 by_cases hbe:b=e
 .subst hbe;exact heo
 .exact⟨u,k b u hbe q⟩
end
noncomputable def trk (h:Heap) (H:Hp):List Addr:=(List.range h.objs.size).filter λa=>(H a).isSome
noncomputable def Zf5 (h:Heap) (H:Hp):Heap:=PySem.W.hideAll h (trk h H)
theorem Zi1 (h:Heap) (H:Hp):(Zf5 h H).objs.size=h.objs.size:=PySem.W.hideAll_size _ _
theorem ZjH {h:Heap}{H:Hp}{b:Addr}{o:Obj} (e:h.get? b=some o) (n:H b=none):(Zf5 h H).get? b=some o :=
 PySem.W.hideAll_get _ e λhm=>by
  have q:(H b).isSome=true:=(YR.mp hm).2
  rw[n]at q;simp at q
theorem ZkB {h:Heap}{H:Hp}{b:Addr}{o:Obj} (e:(Zf5 h H).get? b=some o):h.get? b=some o/\H b=none:=by
 have e':h.get? b=some o:=PySem.W.of_hideAll (trk h H) e
 refine⟨e',?_⟩
 cases q:H b with
 |none=>rfl
 |some x =>
  have hm:b∈trk h H:=YR.mpr ⟨YB.mpr (Yh e'),by simp[q]⟩
  have z:(Zf5 h H).get? b=none:=PySem.W.hideAll_none (trk h H) hm
  rw[z]at e;cases e
noncomputable def ZkC (g h:Heap) (L:Addr):List (Addr×Obj):=(List.range h.objs.size).filterMap λa=>if a=L\/(g.get? a).isSome=true then none else (h.get? a).map λo=>(a,o)
noncomputable def rest (g h:Heap) (L d:Addr):List (Addr×Obj):=(ZkC g h L).filter λp=>decide (p.1≠d)
structure Mod (K:PySem.W.Frag) (mg:Str->Option Value) (base:Heap):Prop where
 kin:K.In base
 glob:base.Ns mainGlobals mg
 blt:∃mb,base.Ns builtinsNs mb/\∀x:Str,x≠"__name__"->mb x=bootBuiltins x
 nolimit:base.NoLimit
structure Cx where
 prog:Program
 w:World
 K:PySem.W.Frag
 mg:Str->Option Value
 base:Heap
 A:Around
 N:List Str
 s₀:Shared
 H₀:Hp
 env:Env
 outer:List Env
 stack:List Env
 ex:List Addr
 fn:Str->Bool
 calm:Bool
 pn:List (Addr×Obj)
 xe:Value->Shared->Prop
noncomputable def frs (l:List Env):List Addr:=l.filterMap (·.frame)
noncomputable abbrev Cx.fs (X:Cx):List Addr:=frs X.outer
noncomputable def Vis (sc:Scope) (x:Str):Prop:=sc.names.lookup x=some .local\/sc.names.lookup x=some .cell\/sc.names.lookup x=some .free
noncomputable def Loc (sc:Scope) (x:Str):Prop:=sc.names.lookup x=some .local\/sc.names.lookup x=some .cell
noncomputable def Look (env:Env) (h:Heap) (m:Str->Option Value) (x:Str) (u:Value):Prop :=
 (env.kindOf x=some .local/\m x=some u)\/((env.kindOf x=some .cell\/env.kindOf x=some .free)/\∃c,env.cells.lookup x=some c/\h.IsCell c (some u))
structure Cx.Ok (X:Cx):Prop where
 mod:Mod X.K X.mg X.base
 kind:X.env.scope.kind=.function
 glob:X.env.globals=mainGlobals
 blt:X.env.builtins=builtinsNs
 above:X.s₀.heap.objs.size<=X.env.locals
 inj:∀x y c,X.env.cells.lookup x=some c->X.env.cells.lookup y=some c->x=y
 has:∀x,(X.env.kindOf x=some .cell\/X.env.kindOf x=some .free)->∃c,X.env.cells.lookup x=some c
 cab:∀x c,X.fn x=true->X.env.cells.lookup x=some c->X.s₀.heap.objs.size<=c
 hd:X.calm=true->X.A.handled=none
 frames:X.A.frames=some X.stack
 stk:X.stack=X.outer\/(X.stack=X.env::X.outer/\X.env.frame=some X.env.locals)
 exf:∀b∈X.ex,b≠X.env.locals/\∀x c,X.env.cells.lookup x=some c->c≠b
 bs:∀b o,X.base.get? b=some o->X.s₀.heap.get? b=some o/\X.H₀ b=none
 bsz:X.base.objs.size<=X.s₀.heap.objs.size
 noex:∀b o,X.base.get? b=some o->b∉X.ex
 exfs:∀b∈X.ex,b∉X.fs
 funs:X.s₀.heap.FunFrames X.base X.outer
 frf:∀b∈X.fs,X.H₀ b=none
structure Inv (X:Cx) (pins:List (Addr×Obj)) (σ:List (Option V)) (H:Hp) (s:Shared):Prop where
 ok:X.Ok
 os:s.os=X.s₀.os
 bare:AllBare s.gens
 base:Un X.fs X.ex X.H₀ H X.s₀.heap s.heap
 loc:∃m,s.heap.Ns X.env.locals m/\∀(i:Nat) (x:Str) (v:V),X.N[i]?=some x->σ[i]?=some (some v)->Vis X.env.scope x->∃u,RelV v u/\Look X.env s.heap m x u
 cell:∀x c,X.env.cells.lookup x=some c->∃v,s.heap.IsCell c v
 free:H X.env.locals=none
 freeC:∀x c,X.env.cells.lookup x=some c->H c=none
 pin:∀p∈X.pn++pins,s.heap.get? p.1=some p.2/\H p.1=none/\p.1≠X.env.locals/\p.1∉X.fs/\∀v,p.2.data≠.cell v
 hok:HOk X.prog X.w H s.heap
 len:σ.length=X.N.length
section
variable {X:Cx}{pins:List (Addr×Obj)}{σ:List (Option V)}{H H':Hp}{s:Shared}{h':Heap}
theorem Cx.Ok.nofr (ok:X.Ok) {b:Addr}{o:Obj} (e:X.base.get? b=some o):b∉X.fs:=λhb=>by
 have:=(ok.funs.mem hb).1
 rw[e]at this;cases this
theorem Inv.bs (I:Inv X pins σ H s):∀b o,X.base.get? b=some o->s.heap.get? b=some o/\H b=none:=λb o e =>
 ⟨I.base.keep b o (I.ok.bs b o e).1 (I.ok.bs b o e).2 (I.ok.nofr e) (I.ok.noex b o e),I.base.free b o (I.ok.bs b o e).1 (I.ok.bs b o e).2 (I.ok.noex b o e)⟩
theorem Inv.bk (I:Inv X pins σ H s):∀b o,X.base.get? b=some o->s.heap.get? b=some o:=λb o e=>(I.bs b o e).1
theorem Inv.mod (I:Inv X pins σ H s):Mod X.K X.mg X.base:=I.ok.mod
theorem Inv.kIn (I:Inv X pins σ H s):X.K.In s.heap:=I.ok.mod.kin.keeps I.bk
theorem Inv.lt (I:Inv X pins σ H s):X.env.locals<s.heap.objs.size:=let ⟨_,hn,_⟩:=I.loc;hn.lt
theorem Inv.sz (I:Inv X pins σ H s):X.s₀.heap.objs.size<=s.heap.objs.size:=Yf I.ok.above (YS I.lt)
theorem Inv.nofs (I:Inv X pins σ H s) {a:Addr} (h:s.heap.objs.size<=a):a∉X.fs:=λhb=>by
 obtain⟨_,o,ho,_⟩:=I.ok.funs.mem hb
 exact absurd (Ys (Yh ho) (Yf I.sz h)) (YA _)
theorem Inv.cne (I:Inv X pins σ H s):∀x c,X.env.cells.lookup x=some c->c≠X.env.locals:=λx c e z=>by
 obtain⟨v,o,ho,hd⟩:=I.cell x c e
 obtain⟨m,⟨o',es,ep,ho',hd',_⟩,_⟩:=I.loc
 rw[z,ho']at ho;cases ho;rw[hd']at hd;cases hd
theorem Inv.funs (I:Inv X pins σ H s):s.heap.FunFrames X.base X.outer:=by
 have all:∀(l:List Env),(∀b∈frs l,b∈X.fs)->X.s₀.heap.FunFrames X.base l->s.heap.FunFrames X.base l:=by
  intro l
  induction l with
  |nil=>intro _ _;trivial
  |cons env r ih =>
   intro hs hl
   obtain⟨hk,⟨L,o,hf,hn,ho,hd⟩,hr⟩:=hl
   have hL:L∈X.fs:=hs L (by unfold frs;rw[List.filterMap_cons,hf];exact Y4)
   obtain⟨sl,e⟩:=I.base.slot L o ho (I.ok.frf L hL) hL λz=>I.ok.exfs L z hL
   exact⟨hk,⟨L,_,hf,hn,e,hd⟩,ih (λb hb=>hs b (by unfold frs;rw[List.filterMap_cons,hf];exact YW _ hb)) hr⟩
 exact all X.outer (λ_ hb=>hb) I.ok.funs
theorem Inv.stack (I:Inv X pins σ H s):s.heap.FunFrames X.base X.stack:=by
 rcases I.ok.stk with e|⟨e,hf⟩
 .rw[e];exact I.funs
 .rw[e]
  obtain⟨m,hn,_⟩:=I.loc
  refine .cons (by rw[I.ok.kind];decide) hf hn ?_ I.funs
  exact Heap.get?_none_of_le (Yf I.ok.bsz I.ok.above)
theorem Inv.ZcG (I:Inv X pins σ H s):∀b∈frs X.stack,b∈X.env.locals::X.fs:=λb hb=>by
 rcases I.ok.stk with e|⟨e,hf⟩
 .rw[e]at hb;exact YW _ hb
 .rw[e]at hb
  unfold frs at hb
  rw[List.filterMap_cons,hf]at hb
  exact hb
theorem Inv.Zc3 (I:Inv X pins σ H s):∀b∈frs X.stack,H b=none:=λb hb=>by
 rcases Ym.mp (I.ZcG b hb)with e|hb
 .rw[e];exact I.free
 .obtain⟨_,o,ho,_⟩:=I.ok.funs.mem hb
  exact I.base.free b o ho (I.ok.frf b hb) λz=>I.ok.exfs b z hb
theorem Inv.step {g':Array GenState}{t':Nat}{d':Drawn}{ch:List Addr} (I:Inv X pins σ H s)
  (hch:∀b∈ch,(b∈X.ex\/X.s₀.heap.objs.size<=b)/\b≠X.env.locals/\(∀x c,X.env.cells.lookup x=some c->c≠b)/\∀p∈X.pn++pins,p.1≠b)
  (keep:∀b o,b≠X.env.locals->b∉X.fs->b∉ch->s.heap.get? b=some o->H b=none->h'.get? b=some o)
  (slot:∀b o,b≠X.env.locals->b∈X.fs->b∉ch->s.heap.get? b=some o->H b=none->∃sl,h'.get? b=some {o with slots:=sl}) (free:∀b o,b∉ch->s.heap.get? b=some o->H b=none->H' b=none)
  (there:∀b o,b∉ch->s.heap.get? b=some o->∃o',h'.get? b=some o')
  (tups:∀b xs,H b=some (.tup xs)->H' b=some (.tup xs)) (frzs:∀b o u,H b=some (.frz o u)->H' b=some (.frz o u)) (tbls:∀b ps,H b=some (.tbl ps)->∃more,H' b=some (.tbl (ps++more)))
  (ns:∀m,s.heap.Ns X.env.locals m->h'.Ns X.env.locals m) (hok:HOk X.prog X.w H' h') (hg:AllBare g') :
  Inv X pins σ H' {s with heap:=h',gens:=g',drawn:=d',toks:=t'}:=by
 have neL:∀b o,X.s₀.heap.get? b=some o->b≠X.env.locals:=λb o e=>Yo (Ys (Yh e) I.ok.above)
 have neC:∀b o,X.s₀.heap.get? b=some o->b∉X.ex->b∉ch:=λb o e hx hb=>by
  rcases(hch b hb).1 with z|z
  .exact hx z
  .exact absurd (Ys (Yh e) z) (YA _)
 have cellK:∀x c,X.env.cells.lookup x=some c->∀v,s.heap.IsCell c v->h'.IsCell c v:=λx c e v ⟨o,ho,hd⟩=>by
  have nch:c∉ch:=λz=>(hch c z).2.2.1 x c e rfl
  by_cases hc:c∈X.fs
  .obtain⟨sl,q⟩:=slot c o (I.cne x c e) hc nch ho (I.freeC x c e)
   exact⟨_,q,hd⟩
  .exact⟨o,keep c o (I.cne x c e) hc nch ho (I.freeC x c e),hd⟩
 refine⟨I.ok,I.os,hg,⟨λb o e n hb hx=>?_,λb o e n hb hx=>?_,λb o e n hx=>?_,λb o e hx=>?_,λb xs e=>tups b xs (I.base.tups b xs e),λb o xs e=>frzs b o xs (I.base.frzs b o xs e),λb ps e=>?_⟩,?_,λx c e=>?_,?_,λx c e=>?_,λp hp=>?_,hok,I.len⟩
 .exact keep b o (neL b o e) hb (neC b o e hx) (I.base.keep b o e n hb hx) (I.base.free b o e n hx)
 .obtain⟨sl,e1⟩:=I.base.slot b o e n hb hx
  obtain⟨sl',e2⟩:=slot b _ (neL b o e) hb (neC b o e hx) e1 (I.base.free b o e n hx)
  exact⟨sl',e2⟩
 .obtain⟨o',e1⟩:=I.base.there b o e hx
  exact free b o' (neC b o e hx) e1 (I.base.free b o e n hx)
 .obtain⟨o',e1⟩:=I.base.there b o e hx
  exact there b o' (neC b o e hx) e1
 .obtain⟨m1,e1⟩:=I.base.tbls b ps e
  obtain⟨m2,e2⟩:=tbls b _ e1
  exact⟨m1++m2,by rw[e2,Array.append_assoc]⟩
 .obtain⟨m,hn,hl⟩:=I.loc
  refine⟨m,ns m hn,λi x v e1 e2 e3=>?_⟩
  obtain⟨u,r,l⟩:=hl i x v e1 e2 e3
  refine⟨u,r,?_⟩
  rcases l with l|⟨k,c,e,z⟩
  .exact .inl l
  .exact .inr ⟨k,c,e,cellK x c e _ z⟩
 .obtain⟨v,z⟩:=I.cell x c e
  exact⟨v,cellK x c e v z⟩
 .obtain⟨m,⟨o,_,_,ho,_⟩,_⟩:=I.loc
  exact free _ o (λz=>(hch _ z).2.1 rfl) ho I.free
 .obtain⟨v,o,ho,hd⟩:=I.cell x c e
  exact free c o (λz=>(hch c z).2.2.1 x c e rfl) ho (I.freeC x c e)
 .obtain⟨e,n,ne,nf,d⟩:=I.pin p hp
  have nch:p.1∉ch:=λz=>(hch p.1 z).2.2.2 p hp rfl
  exact⟨keep p.1 p.2 ne nf nch e n,free p.1 p.2 nch e n,ne,nf,d⟩
theorem Inv.un {t':Nat} (I:Inv X pins σ H s) (u:Un X.fs [] H H' s.heap h') (hok:HOk X.prog X.w H' h'):Inv X pins σ H' {s with heap:=h',toks:=t'}:=by
 obtain⟨m,⟨o,es,ep,ho,r⟩,_⟩:=id I.loc
 obtain⟨sl,hL⟩:=u.any ho I.free (by simp)
 exact I.step (g':=s.gens) (d':=s.drawn) (ch:=[]) (λ_ z=>nomatch z) (λb o _ hb _ e n=>u.keep b o e n hb (by simp)) (λb o _ hb _ e n=>u.slot b o e n hb (by simp)) (λb o _ e n=>u.free b o e n (by simp)) (λb o _ e=>u.there b o e (by simp)) u.tups u.frzs u.tbls (λm' hm=>by
  obtain⟨o',es',ep',ho',r'⟩:=hm
  rw[ho]at ho';cases ho'
  exact⟨_,es',ep',hL,r'⟩) hok I.bare
theorem Inv.call {g':Array GenState}{t':Nat}{d':Drawn}{ch:List Addr} (I:Inv X pins σ H s) (u:Un (frs X.stack) ch H H' s.heap h') (hok:HOk X.prog X.w H' h') (hg:AllBare g')
  (hch:∀b∈ch,(b∈X.ex\/X.s₀.heap.objs.size<=b)/\b≠X.env.locals/\(∀x c,X.env.cells.lookup x=some c->c≠b)/\∀p∈X.pn++pins,p.1≠b) :
  Inv X pins σ H' {s with heap:=h',gens:=g',drawn:=d',toks:=t'}:=by
 obtain⟨m,⟨o,es,ep,ho,r⟩,_⟩:=id I.loc
 obtain⟨sl,hL⟩:=u.any ho I.free λz=>(hch _ z).2.1 rfl
 exact I.step (ch:=ch) hch (λb o hL hb hc e n=>u.keep b o e n (λz=>(Ym.mp (I.ZcG b z)).elim hL hb) hc) (λb o _ _ hc e n=>u.any e n hc) (λb o hc e n=>u.free b o e n hc) (λb o hc e=>u.there b o e hc) u.tups u.frzs u.tbls (λm' hm=>by
  obtain⟨o',es',ep',ho',r'⟩:=hm
  rw[ho]at ho';cases ho'
  exact⟨_,es',ep',hL,r'⟩) hok hg
theorem Inv.turned {t':Nat}{it:Addr} (I:Inv X pins σ H s) (k:∀b o,b≠it->s.heap.get? b=some o->h'.get? b=some o) (hn:H it=none) (hL:it≠X.env.locals)
  (h1:it∈X.ex\/X.s₀.heap.objs.size<=it) (h2:∀x c,X.env.cells.lookup x=some c->c≠it) (h3:∀p∈X.pn++pins,p.1≠it):Inv X pins σ H {s with heap:=h',toks:=t'}:=by
 have nit:∀b u,H b=some u->b≠it:=λb u e z=>by rw[z,hn]at e;cases e
 refine I.step (g':=s.gens) (d':=s.drawn) (ch:=[it]) (λb hb=>?_) (λb o _ _ hc e _=>k b o (λz=>hc (by simp[z])) e) (λb o _ _ hc e _=>⟨o.slots,k b o (λz=>hc (by simp[z])) e⟩) (λ_ _ _ _ n=>n)
  (λb o hc e=>⟨o,k b o (λz=>hc (by simp[z])) e⟩) (λ_ _ e=>e) (λ_ _ _ e=>e) (λb ps e=>⟨#[],by rw[e];simp⟩) (λm hm=>?_) (λb u e=>?_) I.bare
 .have e:b=it:=by simpa using hb
  subst e
  exact⟨h1,hL,h2,h3⟩
 .obtain⟨o,es,ep,ho,r⟩:=hm
  exact⟨o,es,ep,k _ o (Ne.symm hL) ho,r⟩
 .refine(I.hok b u e).Zd7 (λc v hc q=>k c v ?_ q) (λ_ q=>q) (λ_ _ q=>q) λ_ _ _ q=>q
  rcases hc with z|z
  .rw[z];exact nit b u e
  .exact nit c _ z
theorem Inv.tok (I:Inv X pins σ H s) (t:Nat):Inv X pins σ H {s with toks:=t}:=I.un (h':=s.heap) (t':=t) Un.refl I.hok
theorem Inv.kept {t':Nat} (I:Inv X pins σ H s) (k:∀b u,s.heap.get? b=some u->h'.get? b=some u):Inv X pins σ H {s with heap:=h',toks:=t'}:=I.un (Un.kept k) (I.hok.kept k)
theorem Inv.laid {a:Addr}{o:HO}{t':Nat} (I:Inv X pins σ H s) (k:∀b u,s.heap.get? b=some u->h'.get? b=some u) (hp:s.heap.objs.size<=a) (new:Z8 X.prog X.w (upd H a o) h' a o) :
  Inv X pins σ (upd H a o) {s with heap:=h',toks:=t'}:=I.un (Un.laid k hp (I.hok.fresh hp)) (I.hok.laid k hp new)
theorem Inv.write {x e:Addr}{o:HO}{t':Nat} (I:Inv X pins σ H s) (mu:Mut (H x)) (he:e=x\/H e=some (.own x)) (k:∀b u,b≠e->s.heap.get? b=some u->h'.get? b=some u) (heo:∃u,h'.get? e=some u)
  (new:Z8 X.prog X.w (upd H x o) h' x o):Inv X pins σ (upd H x o) {s with heap:=h',toks:=t'}:=I.un (Un.write mu he k heo) (I.hok.write mu he k heo new)
theorem Inv.weak {σ':List (Option V)} (I:Inv X pins σ H s) (hl:σ'.length=σ.length) (w:∀(i:Nat) v,σ'[i]?=some (some v)->σ[i]?=some (some v)):Inv X pins σ' H s :=
 ⟨I.ok,I.os,I.bare,I.base,let ⟨m,hn,hl'⟩:=I.loc;⟨m,hn,λi x v e1 e2 e3=>hl' i x v e1 (w i v e2) e3⟩,I.cell,I.free,I.freeC,I.pin,I.hok,hl.trans I.len⟩
theorem Inv.Zc4 {pins':List (Addr×Obj)} (I:Inv X pins σ H s) (h:∀p∈pins',s.heap.get? p.1=some p.2/\H p.1=none/\p.1≠X.env.locals/\p.1∉X.fs/\∀v,p.2.data≠.cell v):Inv X pins' σ H s :=
 ⟨I.ok,I.os,I.bare,I.base,I.loc,I.cell,I.free,I.freeC,λp hp=>(Yp.mp hp).elim (λz=>I.pin p (YI _ z)) (h p),I.hok,I.len⟩
theorem ZeA {N:List Str} (hN:N.Nodup) {i j:Nat}{x:Str} (a:N[i]?=some x) (b:N[j]?=some x):i=j:=by
 obtain⟨h1,e1⟩:=Yu.mp a
 obtain⟨h2,e2⟩:=Yu.mp b
 exact(List.getElem_inj hN).mp (e1.trans e2.symm)
theorem Zi2 {M:Model}{A:Around}{E:Value->Shared->Prop}{i:Nat}{x:Str}{v:V}{u:Value}{Q:Unit->Shared->Prop} (I:Inv X pins σ H s) (hN:X.N.Nodup) (hi:X.N[i]?=some x) (hx:Loc X.env.scope x) (r:RelV v u)
  (h:∀s',Inv X pins (σ.set i (some v)) H s'->(∃a,Heap.SameBut a s.heap s'.heap/\(a=X.env.locals\/X.env.cells.lookup x=some a))->Q () s') (hf:X.fn x=true\/X.env.scope.names.lookup x=some .local:=by and_intros):wpAny M A (storeName X.env x u) Q E s:=by
 obtain⟨m,hn,hl⟩:=id I.loc
 have hcls:(X.env.scope.kind==.class||(X.env.scope.kind==.module&&X.env.locals != X.env.globals))=false:=by rw[I.ok.kind];rfl
 have hiσ:i < σ.length:=by rw[I.len];exact(Yu.mp hi).1
 have cne:=I.cne
 have tracked:∀{a:Addr}{h':Heap},(∃o,s.heap.get? a=some o/\H a=none)->Heap.SameBut a s.heap h'->HOk X.prog X.w H h':=λ{a h'} ha hs b ob e=>by
  obtain⟨_,_,hfree⟩:=ha
  refine(I.hok b ob e).Zd7 (λc w' hc q=>(hs.2 c ?_).trans q) (λ_ q=>q) (λ_ _ q=>q) λ_ _ _ q=>q
  rintro rfl
  rcases hc with rfl|hc
  .rw[hfree]at e;cases e
  .rw[hfree]at hc;cases hc
 rcases hx with hk|hk
 .refine wpAny_storeName_local hk hn (λh' hn' hs=>?_) hcls
  obtain⟨oL,_,_,hoL,_⟩:=id hn
  refine h _ ⟨I.ok,I.os,I.bare,⟨λb o e n hb hx=>?_,λb o e n hb hx=>?_,I.base.free,λb o e hx=>?_,I.base.tups,I.base.frzs,I.base.tbls⟩,⟨_,hn',λj y v' e1 e2 e3=>?_⟩,λy c e=>?_,I.free,I.freeC,λp hp=>?_,tracked ⟨oL,hoL,I.free⟩ hs,by simpa using I.len⟩ ⟨_,hs,.inl rfl⟩
  .exact(hs.2 b (Yo (Ys (Yh e) I.ok.above))).trans (I.base.keep b o e n hb hx)
  .obtain⟨sl,e1⟩:=I.base.slot b o e n hb hx
   exact⟨sl,(hs.2 b (Yo (Ys (Yh e) I.ok.above))).trans e1⟩
  .obtain⟨o',e1⟩:=I.base.there b o e hx
   exact⟨o',(hs.2 b (Yo (Ys (Yh e) I.ok.above))).trans e1⟩
  .by_cases hj:j=i
   .subst hj
    rw[hi]at e1;cases e1
    rw[List.getElem?_set_self hiσ]at e2
    cases e2
    exact⟨u,r,.inl ⟨hk,by simp⟩⟩
   .rw[List.getElem?_set_ne (Ne.symm hj)]at e2
    obtain⟨u',r',q⟩:=hl j y v' e1 e2 e3
    refine⟨u',r',?_⟩
    rcases q with⟨k,e⟩|⟨k,c,e,z⟩
    .refine .inl ⟨k,?_⟩
     have:y≠x:=λe=>hj (ZeA hN e1 (e▸hi))
     simp[this,e]
    .exact .inr ⟨k,c,e,z.sameBut hs (cne y c e)⟩
  .obtain⟨w',z⟩:=I.cell y c e
   exact⟨w',z.sameBut hs (cne y c e)⟩
  .obtain⟨e,n,ne,nf,d⟩:=I.pin p hp
   exact⟨(hs.2 p.1 ne).trans e,n,ne,nf,d⟩
 .have hfn:X.fn x=true:=by
   rcases hf with z|z
   .exact z
   .rw[z]at hk;cases hk
  obtain⟨c,hc⟩:=I.ok.has x (.inl hk)
  obtain⟨w',z⟩:=I.cell x c hc
  refine wpAny_storeName_cell I.ok.kind hk hc z (λh' hc' hs=>?_)
  obtain⟨oc,hoc,hocd⟩:=id z
  refine h {s with heap:=h'} ⟨I.ok,I.os,I.bare,⟨λb o e n hb hx=>?_,λb o e n hb hx=>?_,I.base.free,λb o e hx=>?_,I.base.tups,I.base.frzs,I.base.tbls⟩,⟨m,hn.sameBut hs (Ne.symm (cne x c hc)),λj y v' e1 e2 e3=>?_⟩,λy c' e=>?_,I.free,I.freeC,λp hp=>?_,tracked ⟨oc,hoc,I.freeC x c hc⟩ hs,by simpa using I.len⟩ ⟨c,hs,.inr hc⟩
  .exact(hs.2 b (Yo (Ys (Yh e) (I.ok.cab x c hfn hc)))).trans (I.base.keep b o e n hb hx)
  .obtain⟨sl,e1⟩:=I.base.slot b o e n hb hx
   exact⟨sl,(hs.2 b (Yo (Ys (Yh e) (I.ok.cab x c hfn hc)))).trans e1⟩
  .obtain⟨o',e1⟩:=I.base.there b o e hx
   exact⟨o',(hs.2 b (Yo (Ys (Yh e) (I.ok.cab x c hfn hc)))).trans e1⟩
  .by_cases hj:j=i
   .subst hj
    rw[hi]at e1;cases e1
    rw[List.getElem?_set_self hiσ]at e2
    cases e2
    exact⟨u,r,.inr ⟨.inl hk,c,hc,hc'⟩⟩
   .rw[List.getElem?_set_ne (Ne.symm hj)]at e2
    obtain⟨u',r',q⟩:=hl j y v' e1 e2 e3
    refine⟨u',r',?_⟩
    rcases q with q|⟨k,c',e,z'⟩
    .exact .inl q
    .refine .inr ⟨k,c',e,z'.sameBut hs ?_⟩
     rintro rfl
     exact hj (ZeA hN e1 (I.ok.inj _ _ _ e hc▸hi))
  .by_cases hcc:c'=c
   .subst hcc;exact⟨_,hc'⟩
   .obtain⟨w2,z2⟩:=I.cell y c' e
    exact⟨w2,z2.sameBut hs hcc⟩
  .obtain⟨e,n,ne,nf,d⟩:=I.pin p hp
   refine⟨(hs.2 p.1 ?_).trans e,n,ne,nf,d⟩
   intro q
   rw[q,hoc]at e
   have q':oc=p.2:=Yz e
   exact d w' (by rw[<-q'];exact hocd)
theorem ZbZ {M:Model}{A:Around}{E:Value->Shared->Prop}{i:Nat}{x:Str}{v:V}{u:Value}{Q:Unit->Shared->Prop} (I:Inv X pins σ H s) (hN:X.N.Nodup) (hi:X.N[i]?=some x) (hx:Loc X.env.scope x) (r:RelV v u)
  (h:∀s',Inv X pins (σ.set i (some v)) H s'->Q () s') (hf:X.fn x=true\/X.env.scope.names.lookup x=some .local:=by and_intros):wpAny M A (storeName X.env x u) Q E s :=
 Zi2 I hN hi hx r (λs' I' _=>h s' I') hf
theorem Inv.call' {s':Shared}{ch:List Addr} (I:Inv X pins σ H s) (ho:s'.os=s.os) (u:Un (frs X.stack) ch H H' s.heap s'.heap) (hok:HOk X.prog X.w H' s'.heap) (hg:AllBare s'.gens)
  (hch:∀b∈ch,(b∈X.ex\/X.s₀.heap.objs.size<=b)/\b≠X.env.locals/\(∀x c,X.env.cells.lookup x=some c->c≠b)/\∀p∈X.pn++pins,p.1≠b):Inv X pins σ H' s':=by
 obtain⟨h',g',d',t',o'⟩:=s'
 have e:o'=s.os:=ho
 subst e
 exact I.call (g':=g') (t':=t') (d':=d') u hok hg hch
end
noncomputable abbrev XK:=Value->Option Addr->Hp->Prop
noncomputable abbrev St:=List (Option V)
noncomputable abbrev VK:=V->Hp->Prop
noncomputable abbrev TE:=St->Hp->VK->Prop
noncomputable abbrev TT:=St->Hp->(Bool->Hp->Prop)->Prop
noncomputable abbrev TA:=St->Hp->(List V->Hp->Prop)->Prop
structure Ends where
 nx:St->Hp->Prop
 rt:VK
 bk:St->Hp->Prop:=λ_ _=>False
 ct:St->Hp->Prop:=λ_ _=>False
noncomputable abbrev TS:=Ends->St->Hp->Prop
noncomputable def EP (X:Cx) (pins:List (Addr×Obj)) (σ:St) (Q:VK) (u:Value) (s':Shared):Prop:=∃v H',Inv X pins σ H' s'/\RelV v u/\Q v H'
noncomputable def TP (X:Cx) (pins:List (Addr×Obj)) (σ:St) (Q:Bool->Hp->Prop) (b:Bool) (s':Shared):Prop:=∃H',Inv X pins σ H' s'/\Q b H'
noncomputable def AP (X:Cx) (pins:List (Addr×Obj)) (σ:St) (Q:List V->Hp->Prop) (us:List Value) (s':Shared):Prop:=∃vs H',Inv X pins σ H' s'/\Vals vs us/\Q vs H'
noncomputable def SP (X:Cx) (pins:List (Addr×Obj)) (D:Ends) (f:Flow) (s':Shared):Prop :=
 match f with
 |.next=>∃σ' H',Inv X pins σ' H' s'/\D.nx σ' H'
 |.brk=>∃σ' H',Inv X pins σ' H' s'/\D.bk σ' H'
 |.cont=>∃σ' H',Inv X pins σ' H' s'/\D.ct σ' H'
 |.ret u=>∃v σ' H',Inv X pins σ' H' s'/\RelV v u/\D.rt v H'
noncomputable def PE (X:Cx) (e:Expr) (t:TE):Prop :=
 ∀(pins:List (Addr×Obj)) (s:Shared) (σ:St) (H:Hp) (Q:VK),Inv X pins σ H s->t σ H Q->wpAny (model X.prog X.w) X.A (eval e X.env) (EP X pins σ Q) X.xe s
noncomputable def PT (X:Cx) (e:Expr) (t:TT):Prop :=
 ∀(pins:List (Addr×Obj)) (s:Shared) (σ:St) (H:Hp) (Q:Bool->Hp->Prop),Inv X pins σ H s->t σ H Q->wpAny (model X.prog X.w) X.A (isTrue e X.env (eval e X.env)) (TP X pins σ Q) X.xe s
noncomputable def PW (X:Cx) (e:Expr) (t:TT):Prop :=
 ∀(whole:Sem Value) (pins:List (Addr×Obj)) (s:Shared) (σ:St) (H:Hp) (Q:Bool->Hp->Prop),Inv X pins σ H s->t σ H Q->wpAny (model X.prog X.w) X.A (isTrue e X.env whole) (TP X pins σ Q) X.xe s
theorem PW.pt {X:Cx}{e:Expr}{t:TT} (h:PW X e t):PT X e t:=h _
noncomputable def PA (X:Cx) (es:List Expr) (t:TA):Prop :=
 ∀(pos:Pos) (pins:List (Addr×Obj)) (s:Shared) (σ:St) (H:Hp) (Q:List V->Hp->Prop),Inv X pins σ H s->t σ H Q->wpAny (model X.prog X.w) X.A (spliced (backTo pos (starEach es X.env))) (AP X pins σ Q) X.xe s
noncomputable def PS (X:Cx) (st:Stmt) (t:TS):Prop :=
 ∀(pins:List (Addr×Obj)) (s:Shared) (σ:St) (H:Hp) (D:Ends),Inv X pins σ H s->t D σ H->wpAny (model X.prog X.w) X.A (exec st X.env) (SP X pins D) X.xe s
noncomputable def PSs (X:Cx) (st:List Stmt) (t:TS):Prop :=
 ∀(pins:List (Addr×Obj)) (s:Shared) (σ:St) (H:Hp) (D:Ends),Inv X pins σ H s->t D σ H->wpAny (model X.prog X.w) X.A (execs st X.env) (SP X pins D) X.xe s
theorem thn {α:Type}{t:Sem α}{Q Q':α->Shared->Prop}{M:Model}{A:Around}{E:Value->Shared->Prop}{s:Shared} (h:wpAny M A t Q E s) (hQ:∀a s,Q a s->Q' a s):wpAny M A t Q' E s:=Yw h hQ λ_ _ x=>x
section
variable {X:Cx}
noncomputable def tVar (i:Nat):TE:=fun σ H Q=>∃v,σ[i]?=some (some v)/\Q v H
noncomputable def tC (v:V):TE:=λ_ H Q=>Q v H
theorem pe_var {i:Nat}{x:Str}{pos:Pos} (hN:X.N[i]?=some x) (hv:Vis X.env.scope x) (hd:(x==("__debug__":Str))=false:=by decide) (hcd:(x==("__classdict__":Str))=false:=by decide):PE X (.Name x pos) (tVar i):=by
 intro pins s σ H Q I h
 obtain⟨v,e,h⟩:=h
 obtain⟨m,hn,hl⟩:=I.loc
 obtain⟨u,r,l⟩:=hl i x v hN e hv
 have fin:EP X pins σ Q u s:=⟨v,H,I,r,h⟩
 rcases l with⟨hk,hm⟩|⟨hk,c,hc,hcell⟩
 .exact wpAny_Name (wpAny_loadName_local I.ok.kind hk hn hm fin) hd
 .rcases hk with hk|hk
  .exact wpAny_Name (wpAny_loadName_cell I.ok.kind hk hc hcell fin) hd
  .exact wpAny_Name (wpAny_loadName_free I.ok.kind hk hc hcell fin hcd) hd
theorem Zf {i j pos}:PE X (.Constant (.int i) j pos) (tC (.int i)):=λ_ _ _ H _ I h=>wpAny_Constant_int ⟨.int i,H,I.tok _,⟨_,rfl⟩,h⟩
theorem Zcu {b j pos}:PE X (.Constant (.bool b) j pos) (tC (.bl b)):=λ_ _ _ H _ I h=>Constant_bool ⟨.bl b,H,I,rfl,h⟩
theorem Zba {j pos}:PE X (.Constant .none j pos) (tC .non):=λ_ _ _ H _ I h=>Constant_none ⟨.non,H,I,rfl,h⟩
theorem Zj {x j pos}:PE X (.Constant (.str x) j pos) (tC (.str x)):=λ_ _ _ H _ I h=>Calls.Constant_str ⟨.str x,H,I.tok _,⟨_,rfl⟩,h⟩
noncomputable def Gl (X:Cx) (x:Str):Prop:=X.env.kindOf x=some .globalImplicit
theorem Zbu {E:Value->Shared->Prop}{pins:List (Addr×Obj)}{s:Shared}{σ:St}{H:Hp}{x:Str}{u:Value}{pos:Pos}{Q:Value->Shared->Prop} (I:Inv X pins σ H s) (hg:Gl X x) (hm:X.mg x=some u) (h:Q u s)
  (hd:(x==("__debug__":Str))=false:=by decide):wpAny (model X.prog X.w) X.A (eval (.Name x pos) X.env) Q E s :=
 Calls.Name_function_global I.ok.kind hg (Calls.loadGlobal_global (by rw[I.ok.glob];exact I.mod.glob.keeps I.bk) hm h) hd
theorem Zb0 {E:Value->Shared->Prop}{pins:List (Addr×Obj)}{s:Shared}{σ:St}{H:Hp}{x:Str}{u:Value}{pos:Pos}{Q:Value->Shared->Prop} (I:Inv X pins σ H s) (hg:Gl X x) (hm:X.mg x=none) (hv:bootBuiltins x=some u) (h:Q u s)
  (hn:x≠"__name__":=by decide) (hd:(x==("__debug__":Str))=false:=by decide):wpAny (model X.prog X.w) X.A (eval (.Name x pos) X.env) Q E s:=by
 obtain⟨mb,h1,h2⟩:=I.mod.blt
 exact Calls.Name_function_global I.ok.kind hg (Calls.loadGlobal_builtin (by rw[I.ok.glob];exact I.mod.glob.keeps I.bk) hm (by rw[I.ok.blt];exact h1.keeps I.bk) ((h2 x hn).trans hv) h) hd
theorem ZP {x:Str}{v:V}{u:Value}{pos:Pos} (hg:Gl X x) (hm:X.mg x=some u) (r:RelV v u) (hd:(x==("__debug__":Str))=false:=by decide):PE X (.Name x pos) (tC v) :=
 λ_ _ _ H _ I h=>Zbu I hg hm ⟨v,H,I,r,h⟩ hd
theorem Zer {x:Str}{v:V}{u:Value}{pos:Pos} (hg:Gl X x) (hm:X.mg x=none) (hv:bootBuiltins x=some u) (r:RelV v u) (hn:x≠"__name__":=by decide) (hd:(x==("__debug__":Str))=false:=by decide):PE X (.Name x pos) (tC v) :=
 λ_ _ _ H _ I h=>Zb0 I hg hm hv ⟨v,H,I,r,h⟩ hn hd
variable {a b:Expr}{ta tb:TE}{pos:Pos}
noncomputable def tB (t:TE):TT:=fun σ H Q=>t σ H λx H1=>∃c,x=.bl c/\Q c H1
theorem ZaB {e:Expr}{t:TE} (h:PE X e t) (he:∀whole,isTrue e X.env whole=(do let v <-whole;standAt e.pos;holding [v] (truthy v)):=by ac_nf):PT X e (tB t):=by
 intro pins s σ H Q I hw
 refine isTrue_plain (thn (h pins s σ H _ I hw) λv s1 ⟨x,H1,I1,r1,q1⟩=>?_) (he _)
 obtain⟨d,rfl,q⟩:=q1
 cases r1
 exact wpAny_truthy_bool ⟨H1,I1,q⟩
variable {tA tB':TT}{rest:List Expr}
noncomputable def tAnd (t u:TT):TT:=fun σ H Q=>t σ H λc H1=>if c=true then u σ H1 Q else Q false H1
noncomputable def tOr (t u:TT):TT:=fun σ H Q=>t σ H λc H1=>if c=true then Q true H1 else u σ H1 Q
noncomputable def tNot (t:TT):TT:=fun σ H Q=>t σ H λc H1=>Q (!c) H1
theorem Zcl (ha:PT X a tA):PW X (.BoolOp .And [a] pos) tA:=by
 intro wh pins s σ H Q I h
 refine isTrue_and (thn (ha pins s σ H Q I h) λc s1 e=>?_)
 cases c with
 |true=>exact isTrue_and_nil e
 |false=>exact e
theorem Zdw (ha:PT X a tA):PW X (.BoolOp .Or [a] pos) tA:=by
 intro wh pins s σ H Q I h
 refine isTrue_or (thn (ha pins s σ H Q I h) λc s1 e=>?_)
 cases c with
 |false=>exact isTrue_or_nil e
 |true=>exact e
theorem ZcH (ha:PT X a tA) (hb:PW X (.BoolOp .And (b::rest) pos) tB'):PW X (.BoolOp .And (a::b::rest) pos) (tAnd tA tB'):=by
 intro wh pins s σ H Q I h
 refine isTrue_and (thn (ha pins s σ H _ I h) λc s1 ⟨H1,I1,q1⟩=>?_)
 cases c with
 |true=>exact hb wh pins s1 σ H1 Q I1 q1
 |false=>exact⟨H1,I1,q1⟩
theorem ZfA (ha:PT X a tA) (hb:PW X (.BoolOp .Or (b::rest) pos) tB'):PW X (.BoolOp .Or (a::b::rest) pos) (tOr tA tB'):=by
 intro wh pins s σ H Q I h
 refine isTrue_or (thn (ha pins s σ H _ I h) λc s1 ⟨H1,I1,q1⟩=>?_)
 cases c with
 |true=>exact⟨H1,I1,q1⟩
 |false=>exact hb wh pins s1 σ H1 Q I1 q1
theorem Zbv (ha:PT X a tA):PT X (.UnaryOp .Not a pos) (tNot tA):=by
 intro pins s σ H Q I h
 exact isTrue_not (ha pins s σ H (λc H1=>Q (!c) H1) I h)
noncomputable def tAndV (ta tb:TE):TE:=fun σ H Q=>ta σ H λx H1=>∃c,x=.bl c/\if c=true then tb σ H1 Q else Q (.bl false) H1
noncomputable def tOrV (ta tb:TE):TE:=fun σ H Q=>ta σ H λx H1=>∃c,x=.bl c/\if c=true then Q (.bl true) H1 else tb σ H1 Q
theorem Zdx {op}{t:TE} (h:PE X a t):PE X (.BoolOp op [a] pos) t:=λpins s σ H Q I hw=>BoolOp_one (h pins s σ H Q I hw)
theorem Zf6 (ha:PE X a ta) (hb:PE X (.BoolOp .And (b::rest) pos) tb):PE X (.BoolOp .And (a::b::rest) pos) (tAndV ta tb):=by
 intro pins s σ H Q I h
 refine BoolOp_and (thn (ha pins s σ H _ I h) λv s1 ⟨x,H1,I1,r1,q1⟩=>?_)
 obtain⟨c,rfl,q1⟩:=q1
 cases r1
 refine wpAny_truthy_bool ?_
 cases c with
 |true=>exact hb pins s1 σ H1 Q I1 q1
 |false=>exact⟨.bl false,H1,I1,rfl,q1⟩
theorem pe_or (ha:PE X a ta) (hb:PE X (.BoolOp .Or (b::rest) pos) tb):PE X (.BoolOp .Or (a::b::rest) pos) (tOrV ta tb):=by
 intro pins s σ H Q I h
 refine BoolOp_or (thn (ha pins s σ H _ I h) λv s1 ⟨x,H1,I1,r1,q1⟩=>?_)
 obtain⟨c,rfl,q1⟩:=q1
 cases r1
 refine wpAny_truthy_bool ?_
 cases c with
 |false=>exact hb pins s1 σ H1 Q I1 q1
 |true=>exact⟨.bl true,H1,I1,rfl,q1⟩
noncomputable def tIf (t:TT) (ta tb:TE):TE:=fun σ H Q=>t σ H λc H1=>if c=true then ta σ H1 Q else tb σ H1 Q
theorem ZgW {c:Expr} (hc:PT X c tA) (ha:PE X a ta) (hb:PE X b tb):PE X (.IfExp c a b pos) (tIf tA ta tb):=by
 intro pins s σ H Q I h
 refine wpAny_IfExp (thn (hc pins s σ H _ I h) λd s1 ⟨H1,I1,q1⟩=>?_)
 cases d with
 |true=>exact ha pins s1 σ H1 Q I1 q1
 |false=>exact hb pins s1 σ H1 Q I1 q1
end
noncomputable def SqL (K:PySem.W.Frag) (H:Hp) (a:Addr) (xs:List V):Prop :=
 Rd H a (.lst xs) \/
  ∃(o:Obj) (its:Array Value) (n:Nat),K.lookup a=some o/\o.cls=.type "list"/\o.dict=none/\o.data=.seq its n/\its.size<=sizeLine/\Vals xs its.toList
noncomputable def SqT (K:PySem.W.Frag) (H:Hp) (a:Addr) (xs:List V):Prop :=
 Rd H a (.tup xs) \/
  ∃(o:Obj) (its:Array Value) (n:Nat),K.lookup a=some o/\o.cls=.type "tuple"/\o.data=.seq its n/\its.size<=sizeLine/\Vals xs its.toList
noncomputable def absV:Value->Option V
 |.none=>some .non
 |.bool b=>some (.bl b)
 |.int i _=>some (.int i)
 |.str x _=>some (.str x)
 |.bytes b _=>some (.byt b)
 |.float b _=>some (.flt b)
 |.ref a=>some (.ref a)
 |.type n=>some (.ty n)
 |_=>none
theorem RelV.abs {x:V}{u:Value} (r:RelV x u):absV u=some x:=by
 cases x with
 |non=>cases r;rfl
 |bl _=>cases r;rfl
 |int _=>obtain⟨t,rfl⟩:=r;rfl
 |str _=>obtain⟨t,rfl⟩:=r;rfl
 |byt _=>obtain⟨t,rfl⟩:=r;rfl
 |flt _=>obtain⟨t,rfl⟩:=r;rfl
 |ref _=>cases r;rfl
 |ty _=>cases r;rfl
theorem RelV.inj {x y:V}{u:Value} (r:RelV x u) (q:RelV y u):x=y:=Yz (r.abs.symm.trans q.abs)
theorem Vals.inj:∀{xs ys:List V}{us:List Value},Vals xs us->Vals ys us->xs=ys
 |_,_,_,.nil,.nil=>rfl
 |_,_,_,.cons r t,.cons r' t'=>by rw[r.inj r',Vals.inj t t']
section
variable {X:Cx}{pins:List (Addr×Obj)}{σ:St}{H:Hp}{s:Shared}{a:Addr}{xs ys:List V}
theorem SqL.of {K:PySem.W.Frag} (h:H a=some (.lst xs)):SqL K H a xs:=.inl (.inl h)
theorem SqT.of {K:PySem.W.Frag} (h:H a=some (.tup xs)):SqT K H a xs:=.inl (.inl h)
theorem Inv.list (I:Inv X pins σ H s) (h:SqL X.K H a xs):∃its:List Value,Vals xs its/\PlainL s.heap a its.toArray/\xs.length<=sizeLine:=by
 rcases h with h|⟨o,its,n,hk,hc,hd,hs,hz,r⟩
 .obtain⟨z,its,n,r,e⟩:=h.ok I.hok
  exact⟨its,r,⟨_,n,e,rfl,rfl,rfl⟩,z⟩
 .refine⟨its.toList,r,⟨o,n,I.kIn a o hk,hc,hd,by simpa using hs⟩,?_⟩
  have e:=r.length
  simp only[YT]at e
  omega
theorem Inv.tuple (I:Inv X pins σ H s) (h:SqT X.K H a xs):∃its:List Value,Vals xs its/\IsTup s.heap a its.toArray/\xs.length<=sizeLine:=by
 rcases h with h|⟨o,its,n,hk,hc,hs,hz,r⟩
 .obtain⟨z,its,r,p⟩:=h.ok I.hok
  exact⟨its,r,p,z⟩
 .refine⟨its.toList,r,⟨o,I.kIn a o hk,hc,n,by simpa using hs⟩,?_⟩
  have e:=r.length
  simp only[YT]at e
  omega
theorem Inv.Zc5 (I:Inv X pins σ H s) (h:SqL X.K H a xs) (h':SqL X.K H a ys):xs=ys:=by
 obtain⟨its,r,⟨o,n,e,_,_,d⟩,_⟩:=I.list h
 obtain⟨its',r',⟨o',n',e',_,_,d'⟩,_⟩:=I.list h'
 rw[e]at e';cases e'
 rw[d]at d'
 injection d' with d1 _
 have:its=its':=by simpa using congrArg Array.toList d1
 subst this
 exact r.inj r'
theorem Inv.Zdy (I:Inv X pins σ H s) (h:SqT X.K H a xs) (h':SqT X.K H a ys):xs=ys:=by
 obtain⟨its,r,⟨o,e,_,n,d⟩,_⟩:=I.tuple h
 obtain⟨its',r',⟨o',e',_,n',d'⟩,_⟩:=I.tuple h'
 rw[e]at e';cases e'
 rw[d]at d'
 injection d' with d1 _
 have:its=its':=by simpa using congrArg Array.toList d1
 subst this
 exact r.inj r'
end
noncomputable abbrev Cx.Zff (X:Cx) (E:Value->Shared->Prop):Cx:={X with xe:=E}
noncomputable abbrev Cx.nox (X:Cx):Cx:=X.Zff λ_ _=>False
theorem Cx.Ok.Zff {X:Cx} (ok:X.Ok) (E:Value->Shared->Prop):(X.Zff E).Ok :=
 ⟨ok.mod,ok.kind,ok.glob,ok.blt,ok.above,ok.inj,ok.has,ok.cab,ok.hd,ok.frames,ok.stk,ok.exf,ok.bs,ok.bsz,ok.noex,ok.exfs,ok.funs,ok.frf⟩
theorem Cx.Ok.Zb1 {X:Cx}{E:Value->Shared->Prop} (ok:(X.Zff E).Ok):X.Ok :=
 ⟨ok.mod,ok.kind,ok.glob,ok.blt,ok.above,ok.inj,ok.has,ok.cab,ok.hd,ok.frames,ok.stk,ok.exf,ok.bs,ok.bsz,ok.noex,ok.exfs,ok.funs,ok.frf⟩
section
variable {X:Cx}{pins:List (Addr×Obj)}{σ:St}{H:Hp}{s:Shared}{E:Value->Shared->Prop}
theorem Inv.Zff (I:Inv X pins σ H s) (E:Value->Shared->Prop):Inv (X.Zff E) pins σ H s:=⟨I.ok.Zff E,I.os,I.bare,I.base,I.loc,I.cell,I.free,I.freeC,I.pin,I.hok,I.len⟩
theorem Inv.Zb1 (I:Inv (X.Zff E) pins σ H s):Inv X pins σ H s:=⟨I.ok.Zb1,I.os,I.bare,I.base,I.loc,I.cell,I.free,I.freeC,I.pin,I.hok,I.len⟩
theorem SP.Zb1 {D:Ends}{f:Flow}{s':Shared} (h:SP (X.Zff E) pins D f s'):SP X pins D f s':=by
 cases f with
 |next=>obtain⟨σ',H',I,q⟩:=h;exact⟨σ',H',I.Zb1,q⟩
 |brk=>obtain⟨σ',H',I,q⟩:=h;exact⟨σ',H',I.Zb1,q⟩
 |cont=>obtain⟨σ',H',I,q⟩:=h;exact⟨σ',H',I.Zb1,q⟩
 |ret u=>obtain⟨v,σ',H',I,r,q⟩:=h;exact⟨v,σ',H',I.Zb1,r,q⟩
end
section
variable {X:Cx}{st:Stmt}{rest:List Stmt}{t u:TS}{e:Expr}{te:TE}{pos:Pos}
noncomputable def tNext:TS:=λD σ H=>D.nx σ H
noncomputable def tSeq (t u:TS):TS:=λD σ H=>t {D with nx:=u D} σ H
theorem Zy:PSs X [] tNext:=λ_ _ σ H _ I h=>wpAny_execs_nil ⟨σ,H,I,h⟩
theorem Zc (h1:PS X st t) (h2:PSs X rest u):PSs X (st::rest) (tSeq t u):=by
 intro pins s σ H D I h
 refine wpAny_execs_cons (thn (h1 pins s σ H {D with nx:=u D} I h) λf s1 q=>?_)
 cases f with
 |next =>
  obtain⟨σ',H',I',q⟩:=q
  exact h2 pins s1 σ' H' D I' q
 |ret v=>exact q
 |brk=>exact q
 |cont=>exact q
theorem Ze (h1:PS X st t):PSs X [st] t:=by
 intro pins s σ H D I h
 refine wpAny_execs_cons (thn (h1 pins s σ H D I h) λf s1 q=>?_)
 cases f with
 |next=>exact wpAny_execs_nil q
 |ret v=>exact q
 |brk=>exact q
 |cont=>exact q
theorem Inv.quiet {pins:List (Addr×Obj)}{σ:St}{H:Hp}{s:Shared} (I:Inv X pins σ H s):interactive X.env=false:=by simp[interactive,I.ok.kind]
noncomputable def tDrop (te:TE):TS:=λD σ H=>te σ H λ_ H1=>D.nx σ H1
theorem Z5 (he:PE X e te) (hs:swapsWith e none pos.line X.env=pure false:=by rfl):PS X (.Expr e pos) (tDrop te):=by
 intro pins s σ H D I h
 exact wpAny_Expr_any (thn (he pins s σ H _ I h) λv s1 ⟨x,H1,I1,r1,q1⟩=>⟨σ,H1,I1,q1⟩) I.quiet hs
noncomputable def tRet (te:TE):TS:=λD σ H=>te σ H D.rt
theorem Zr (he:PE X e te):PS X (.Return (some e) pos) (tRet te):=by
 intro pins s σ H D I h
 exact wpAny_Return_some (thn (he pins s σ H _ I h) λv s1 ⟨x,H1,I1,r1,q1⟩=>⟨x,σ,H1,I1,r1,q1⟩)
noncomputable def tIfS (c:TT) (t u:TS):TS:=λD σ H=>c σ H λb H1=>if b=true then t D σ H1 else u D σ H1
theorem ZN {c:Expr}{a b:List Stmt}{tc:TT} (hc:PT X c tc) (ha:PSs X a t) (hb:PSs X b u):PS X (.If c a b pos) (tIfS tc t u):=by
 intro pins s σ H D I h
 refine wpAny_If (thn (hc pins s σ H _ I h) λd s1 ⟨H1,I1,q1⟩=>?_)
 cases d with
 |true=>exact ha pins s1 σ H1 D I1 q1
 |false=>exact hb pins s1 σ H1 D I1 q1
end
noncomputable abbrev TG:=V->St->Hp->(St->Hp->Prop)->Prop
noncomputable abbrev TGs:=List V->St->Hp->(St->Hp->Prop)->Prop
noncomputable def PG (X:Cx) (target:Expr) (t:TG):Prop :=
 ∀(pins:List (Addr×Obj)) (s:Shared) (σ:St) (H:Hp) (v:V) (u:Value) (Q:St->Hp->Prop),Inv X pins σ H s->RelV v u->t v σ H Q ->
  wpAny (model X.prog X.w) X.A (assign target X.env u) (λ_ s'=>∃σ' H',Inv X pins σ' H' s'/\Q σ' H') X.xe s
noncomputable def PGs (X:Cx) (ts:List Expr) (t:TGs):Prop :=
 ∀(pins:List (Addr×Obj)) (s:Shared) (σ:St) (H:Hp) (vs:List V) (us:List Value) (Q:St->Hp->Prop),Inv X pins σ H s->Vals vs us->t vs σ H Q ->
  wpAny (model X.prog X.w) X.A (assignInOrder ((assignEach ts X.env).map (·.2)) us) (λ_ s'=>∃σ' H',Inv X pins σ' H' s'/\Q σ' H') X.xe s
noncomputable abbrev TSet:=V->V->V->Hp->(Hp->Prop)->Prop
noncomputable def PSet (X:Cx) (t:TSet):Prop :=
 ∀(pins:List (Addr×Obj)) (s:Shared) (σ:St) (H:Hp) (o i v:V) (ov iv u:Value) (Q:Hp->Prop),Inv X pins σ H s->RelV o ov->RelV i iv->RelV v u->t o i v H Q ->
  wpAny (model X.prog X.w) X.A (setItem ov iv u) (λ_ s'=>∃H',Inv X pins σ H' s'/\Q H') X.xe s
noncomputable abbrev TIp:=V->V->Hp->VK->Prop
noncomputable def PIp (X:Cx) (op:Operator) (t:TIp):Prop :=
 ∀(pins:List (Addr×Obj)) (s:Shared) (σ:St) (H:Hp) (x y:V) (v u:Value) (Q:VK),Inv X pins σ H s->RelV x v->RelV y u->t x y H Q ->
  wpAny (model X.prog X.w) X.A (inplaceOp op v u) (EP X pins σ Q) X.xe s
section
variable {X:Cx}{pos:Pos}
noncomputable def gName (i:Nat):TG:=λv σ H Q=>Q (σ.set i (some v)) H
theorem Zw {i:Nat}{x:Str} (hN:X.N.Nodup) (hi:X.N[i]?=some x) (hx:Loc X.env.scope x) (hf:X.fn x=true\/X.env.scope.names.lookup x=some .local:=by and_intros):PG X (.Name x pos) (gName i):=by
 intro pins s σ H v u Q I r h
 exact wpAny_assign_Name (ZbZ I hN hi hx r (λs' I'=>⟨_,H,I',h⟩) hf)
noncomputable def gNil:TGs:=λvs σ H Q=>vs=[]/\Q σ H
noncomputable def gCons (t:TG) (u:TGs):TGs:=λvs σ H Q=>∃v r,vs=v::r/\t v σ H fun σ' H'=>u r σ' H' Q
theorem ZiJ:PGs X [] gNil:=by
 intro pins s σ H vs us Q I r h
 obtain⟨e,h⟩:=h
 subst e
 cases r
 exact assignInOrder_nil ⟨σ,H,I,h⟩
theorem Zc6 {e:Expr}{es:List Expr}{t:TG}{u:TGs} (h1:PG X e t) (h2:PGs X es u)
  (hs:(assignEach (e::es) X.env).map (·.2)=assign e X.env::(assignEach es X.env).map (·.2):=by rfl):PGs X (e::es) (gCons t u):=by
 intro pins s σ H vs us Q I r h
 obtain⟨v,vr,e1,h⟩:=h
 subst e1
 cases r with
 |cons r rr =>
  rw[hs]
  refine assignInOrder_cons (thn (h1 pins s σ H _ _ _ I r h) λ_ s1 ⟨σ1,H1,I1,q1⟩=>?_)
  exact h2 pins s1 σ1 H1 _ _ Q I1 rr q1
noncomputable def gTup (K:PySem.W.Frag) (n:Nat) (t:TGs):TG:=λv σ H Q=>∃a xs,v=.ref a/\SqT K H a xs/\xs.length=n/\t xs σ H Q
theorem ZjI {es:List Expr}{k:Nat}{t:TGs}{n:Nat} (hc:X.calm=true) (h:PGs X es t)
  (hn:(assignEach es X.env).length=n:=by rfl) (hst:(assignEach es X.env).findIdx? (·.1)=none:=by rfl):PG X (.Tuple es k pos) (gTup X.K n t):=by
 intro pins s σ H v u Q I r hw
 obtain⟨a,xs,e1,hq,hl,hw⟩:=hw
 subst e1
 cases r
 obtain⟨its,rv,ht,hz⟩:=I.tuple hq
 refine assign_Tuple_tuple (I.ok.hd hc) ht (by simp[hn,<-hl,rv.length]) hst λh' hx=>?_
 have I1:Inv X pins σ H {s with heap:=h'}:=I.kept (t':=s.toks) λb o e=>hx b o (Yo (Yh e)) e
 exact h pins _ σ H xs _ Q I1 (by simpa using rv) hw
noncomputable def gSub (to ti:TE) (t:TSet):TG:=λv σ H Q=>to σ H λo H1=>ti σ H1 λi H2=>t o i v H2 λH3=>Q σ H3
theorem ZhN {o i:Expr}{to ti:TE}{t:TSet} (ho:PE X o to) (hi:PE X i ti) (hs:PSet X t)
  (ha:∀v,assign (.Subscript o i pos) X.env v=(do
   let ov <-holding [v] (eval o X.env)
   let iv <-holding [v,ov] (eval i X.env)
   standAt pos
   holding [v,ov,iv] (setItem ov iv v)
   release [v,ov,iv] []):=by ac_nf):PG X (.Subscript o i pos) (gSub to ti t):=by
 intro pins s σ H v u Q I r h
 rw[ha]
 refine Ya (YE (thn (ho pins s σ H _ I h) λov s1 ⟨x,H1,I1,r1,q1⟩=>?_))
 refine Ya (YE (thn (hi pins s1 σ H1 _ I1 q1) λiv s2 ⟨y,H2,I2,r2,q2⟩=>?_))
 refine Ya (wpAny_standAt (Ya (YE (thn (hs pins s2 σ H2 x y v ov iv u _ I2 r1 r2 r q2) λ_ s3 ⟨H3,I3,q3⟩=>?_))))
 exact wpAny_release ⟨σ,H3,I3,q3⟩
noncomputable def tAsg (te:TE) (g:TG):TS:=λD σ H=>te σ H λx H1=>g x σ H1 D.nx
theorem ZhO {tg e:Expr}{te:TE}{g:TG} (he:PE X e te) (hg:PG X tg g) (hs:swapsWithSole [tg] e pos.line X.env=pure false:=by rfl) (hw:swappedStores [tg] e X.env=pure none:=by rfl)
  (h1:(assignEach [tg] X.env).map (·.2)=[assign tg X.env]:=by rfl):PS X (.Assign [tg] e pos) (tAsg te g):=by
 intro pins s σ H D I h
 refine wpAny_Assign_stores (thn (he pins s σ H _ I h) λv s1 ⟨x,H1,I1,r1,q1⟩=>?_) hs hw
 rw[h1]
 exact thn (hg pins s1 σ H1 x v _ I1 r1 q1) λ_ s2 q=>q
theorem Zl {i:Nat}{x:Str}{e:Expr}{te:TE}{pos':Pos} (hN:X.N.Nodup) (hi:X.N[i]?=some x) (hx:Loc X.env.scope x) (he:PE X e te) (hs:swapsWith e (some (.Name x pos')) pos.line X.env=pure false:=by rfl) (hf:X.fn x=true\/X.env.scope.names.lookup x=some .local:=by and_intros) :
  PS X (.Assign [.Name x pos'] e pos) (tAsg te (gName i)):=by
 intro pins s σ H D I h
 refine wpAny_Assign_Name (thn (he pins s σ H _ I h) λv s1 ⟨y,H1,I1,r1,q1⟩=>?_) hs
 exact ZbZ I1 hN hi hx r1 (λs2 I2=>⟨_,H1,I2,q1⟩) hf
noncomputable def tAug (i:Nat) (te:TE) (ti:TIp):TS:=λD σ H=>∃x,σ[i]?=some (some x)/\te σ H λy H1=>ti x y H1 λz H2=>D.nx (σ.set i (some z)) H2
theorem ZjJ {i:Nat}{x:Str}{e:Expr}{te:TE}{op:Operator}{ti:TIp}{pos':Pos} (hN:X.N.Nodup) (hi:X.N[i]?=some x) (hx:Loc X.env.scope x) (he:PE X e te) (ho:PIp X op ti) (hf:X.fn x=true\/X.env.scope.names.lookup x=some .local:=by and_intros) :
  PS X (.AugAssign (.Name x pos') op e pos) (tAug i te ti):=by
 intro pins s σ H D I h
 obtain⟨v,e1,h⟩:=h
 obtain⟨m,hn,hl⟩:=I.loc
 have vis:Vis X.env.scope x:=by rcases hx with k|k;exact .inl k;exact .inr (.inl k)
 obtain⟨u,r,l⟩:=hl i x v hi e1 vis
 refine wpAny_AugAssign_Name ?_
 have go:wpAny (model X.prog X.w) X.A (eval e X.env) (λw s₂=>wpAny (model X.prog X.w) X.A (inplaceOp op u w) (λr s₃=>wpAny (model X.prog X.w) X.A (storeName X.env x r) (λ_=>SP X pins D .next) X.xe s₃) X.xe s₂) X.xe s:=by
  refine thn (he pins s σ H _ I h) λw s1 ⟨y,H1,I1,r1,q1⟩=>?_
  refine thn (ho pins s1 σ H1 v y u w _ I1 r r1 q1) λz s2 ⟨zv,H2,I2,r2,q2⟩=>?_
  exact ZbZ I2 hN hi hx r2 (λs3 I3=>⟨_,H2,I3,q2⟩) hf
 rcases l with⟨hk,hm⟩|⟨hk,c,hc,hcell⟩
 .exact wpAny_loadName_local I.ok.kind hk hn hm go
 .rcases hk with hk|hk
  .exact wpAny_loadName_cell I.ok.kind hk hc hcell go
  .rcases hx with k|k
   .have:X.env.scope.names.lookup x=some .free:=hk
    rw[k]at this;cases this
   .have:X.env.scope.names.lookup x=some .free:=hk
    rw[k]at this;cases this
noncomputable def tAugS (to ti te:TE) (tget:V->V->Hp->VK->Prop) (tip:TIp) (tset:TSet):TS:=λD σ H=>to σ H λo H1=>ti σ H1 λi H2=>tget o i H2 λx H3=>te σ H3 λy H4=>tip x y H4 λz H5=>tset o i z H5 λH6=>D.nx σ H6
noncomputable def PGet (X:Cx) (t:V->V->Hp->VK->Prop):Prop :=
 ∀(pins:List (Addr×Obj)) (s:Shared) (σ:St) (H:Hp) (o i:V) (ov iv:Value) (Q:VK),Inv X pins σ H s->RelV o ov->RelV i iv->t o i H Q ->
  wpAny (model X.prog X.w) X.A (getItem ov iv) (EP X pins σ Q) X.xe s
theorem ZkD {o i e:Expr}{to ti te:TE}{tget:V->V->Hp->VK->Prop}{tip:TIp}{tset:TSet}{op:Operator}{tpos:Pos} (ho:PE X o to) (hi:PE X i ti) (hg:PGet X tget) (he:PE X e te) (hp:PIp X op tip) (hs:PSet X tset)
  (ha:∀ov iv new,augStore i ov iv new=(do holding [new,ov,iv] (setItem ov iv new);release [new,ov,iv] [];pure .next):=by intros;rfl):PS X (.AugAssign (.Subscript o i tpos) op e pos) (tAugS to ti te tget tip tset):=by
 intro pins s σ H D I h
 refine wpAny_AugAssign_SubscriptAny (thn (ho pins s σ H _ I h) λov s1 ⟨x1,H1,I1,r1,q1⟩=>?_) ha
 refine thn (hi pins s1 σ H1 _ I1 q1) λiv s2 ⟨x2,H2,I2,r2,q2⟩=>?_
 refine thn (hg pins s2 σ H2 x1 x2 ov iv _ I2 r1 r2 q2) λold s3 ⟨x3,H3,I3,r3,q3⟩=>?_
 refine thn (he pins s3 σ H3 _ I3 q3) λv s4 ⟨x4,H4,I4,r4,q4⟩=>?_
 refine thn (hp pins s4 σ H4 x3 x4 old v _ I4 r3 r4 q4) λnew s5 ⟨x5,H5,I5,r5,q5⟩=>?_
 exact thn (hs pins s5 σ H5 x1 x2 x5 ov iv new _ I5 r1 r2 r5 q5) λ_ s6 ⟨H6,I6,q6⟩=>⟨σ,H6,I6,q6⟩
noncomputable def ipI (f:Int->Int->Int):TIp:=λx y H Q=>∃i j,x=.int i/\y=.int j/\Q (.int (f i j)) H
theorem ZjK:PIp X .Add (ipI λi j=>i+j):=by
 intro pins s σ H x y v u Q I r1 r2 h
 obtain⟨i,j,e1,e2,q⟩:=h
 subst e1;subst e2
 obtain⟨t,rfl⟩:=r1
 obtain⟨t',rfl⟩:=r2
 exact iadd_int ⟨.int _,H,I.tok _,⟨_,rfl⟩,q⟩
theorem ip_sub:PIp X .Sub (ipI λi j=>i-j):=by
 intro pins s σ H x y v u Q I r1 r2 h
 obtain⟨i,j,e1,e2,q⟩:=h
 subst e1;subst e2
 obtain⟨t,rfl⟩:=r1
 obtain⟨t',rfl⟩:=r2
 exact isub_int ⟨.int _,H,I.tok _,⟨_,rfl⟩,q⟩
end
section
variable {X:Cx}{pos:Pos}
noncomputable def ZhP (c:TT) (tb:TS):TS:=λD σ H=>∃W:Nat->St->Hp->Prop,(∃m,W m σ H)/\∀m σ H,W m σ H ->
 c σ H λb H1=>if b=true then ∃N:St->Hp->Prop,(∀σ' H',N σ' H'->∃m',m'<m/\W m' σ' H')/\tb {D with nx:=N,ct:=N,bk:=D.nx} σ H1 else D.nx σ H1
theorem ZgX {c:Expr}{body:List Stmt}{tc:TT}{tb:TS} (hp:PassesOwn (model X.prog X.w) X.A X.env X.xe) (hc:PT X c tc) (hb:PSs X body tb):PS X (.While c body [] pos) (ZhP tc tb):=by
 intro pins s σ H D I h
 obtain⟨W,⟨m0,w0⟩,turn⟩:=h
 refine wpAny_While (codeAny_whileLoop (λn s'=>∃σ' H',Inv X pins σ' H' s'/\W n σ' H') ?_ m0 ⟨σ,H,I,w0⟩)
 rintro n s1 ⟨σ1,H1,I1,w1⟩
 refine wpAny_passesOwn hp (thn (hc pins s1 σ1 H1 _ I1 (turn n σ1 H1 w1)) λb s2 ⟨H2,I2,q2⟩=>?_)
 cases b with
 |true =>
  obtain⟨N,hN,q2⟩:=q2
  rw[Yc rfl]
  refine wpAny_passesOwn hp (thn (hb pins s2 σ1 H2 _ I2 q2) λf s3 q3=>?_)
  cases f with
  |next =>
   obtain⟨σ3,H3,I3,n3⟩:=q3
   obtain⟨m',hm,w3⟩:=hN σ3 H3 n3
   exact⟨m',hm,σ3,H3,I3,w3⟩
  |cont =>
   obtain⟨σ3,H3,I3,n3⟩:=q3
   obtain⟨m',hm,w3⟩:=hN σ3 H3 n3
   exact⟨m',hm,σ3,H3,I3,w3⟩
  |brk=>exact q3
  |ret v=>exact q3
 |false =>
  rw[Yb Yx]
  exact wpAny_execs_nil ⟨σ1,H2,I2,q2⟩
end
structure It where
 go:Nat->Hp->Prop
 yld:Nat->Hp->V->Hp->Prop
 stop:Nat->Hp->Prop
noncomputable def FpOk (X:Cx) (pins:List (Addr×Obj)) (H:Hp) (b:Addr):Prop :=
 H b=none/\b≠X.env.locals/\b∉X.fs/\(b∈X.ex\/X.s₀.heap.objs.size<=b)/\(∀x c,X.env.cells.lookup x=some c->c≠b)/\∀p∈X.pn++pins,p.1≠b
theorem Inv.ZhQ {X:Cx}{pins:List (Addr×Obj)}{σ:St}{H H':Hp}{s:Shared}{b:Addr} (I:Inv X pins σ H s) (hb:s.heap.objs.size<=b) (hn:H' b=none):FpOk X pins H' b:=by
 refine⟨hn,Nat.ne_of_gt (Ys I.lt hb),I.nofs hb,.inr (Yf I.sz hb),λx c e z=>?_,λp hp z=>?_⟩
 .obtain⟨v,q⟩:=I.cell x c e
  exact absurd (Ys q.lt (by rw[z];exact hb)) (YA _)
 .exact absurd (Ys (Yh (I.pin p hp).1) (by rw[z];exact hb)) (YA _)
structure Turn (P:Program) (w:World) (K:PySem.W.Frag) (tg:Expr) (J:It) (fp:List Addr) (it:Addr) (tn:Nat->Heap->Prop):Prop where
 mem:it∈fp
 obj:∀i h,tn i h->∀b∈fp,∃o,h.get? b=some o/\∀v,o.data≠.cell v
 keep:∀i h h',tn i h->(∀b∈fp,∀o,h.get? b=some o->h'.get? b=some o)->tn i h'
 item:∀(X:Cx),X.prog=P->X.w=w->X.K=K->X.calm=true->∀(i:Nat) (pins:List (Addr×Obj)) (s:Shared) (σ:St) (H:Hp) (E:Value->Shared->Prop),Inv X pins σ H s->(∀b∈fp,FpOk X pins H b)->tn i s.heap->J.go i H ->
  wpAny (model P w) X.A (pyNext (.ref it)) (λr s1=>∃u,r=some u /\
   wpAny (model P w) X.A (letOwnedTupleGo tg (.ref it) u) (λ_ s2=>∃x H',Inv X pins σ H' s2/\RelV x u/\J.yld i H x H'/\tn (i+1) s2.heap/\∀b∈fp,H' b=none) E s1) E s
 done:∀(X:Cx),X.prog=P->X.w=w->X.K=K->X.calm=true->∀(i:Nat) (pins:List (Addr×Obj)) (s:Shared) (σ:St) (H:Hp) (E:Value->Shared->Prop),Inv X pins σ H s->(∀b∈fp,FpOk X pins H b)->tn i s.heap->J.stop i H ->
  wpAny (model P w) X.A (pyNext (.ref it)) (λr s1=>r=none/\Inv X pins σ H s1) E s
 self:∀(A:Around) (i:Nat) (s:Shared) (Q:Value->Shared->Prop) (E:Value->Shared->Prop),tn i s.heap->Q (.ref it) s->wpAny (model P w) A (pyIter (.ref it)) Q E s
noncomputable abbrev TI:=St->Hp->(It->Hp->Prop)->Prop
noncomputable def PIE (X:Cx) (pins:List (Addr×Obj)) (σ:St) (tg:Expr) (R:It->Hp->Prop) (itv:Value) (s2:Shared):Prop :=
 ∃(it:Addr) (fp:List Addr) (tn:Nat->Heap->Prop) (J:It) (H':Hp),itv=.ref it/\Inv X pins σ H' s2/\Turn X.prog X.w X.K tg J fp it tn/\tn 0 s2.heap/\(∀b∈fp,FpOk X pins H' b)/\R J H'
noncomputable def PI (X:Cx) (tg iter:Expr) (wi:TI):Prop :=
 ∀(pins:List (Addr×Obj)) (s:Shared) (σ:St) (H:Hp) (R:It->Hp->Prop),Inv X pins σ H s->wi σ H R ->
  wpAny (model X.prog X.w) X.A (eval iter X.env) (λv s1=>wpAny (model X.prog X.w) X.A (pyIter v) (PIE X pins σ tg R) X.xe s1) X.xe s
theorem ZiK {M : Model} {A : Around} {E : Value → Shared → Prop} {s : Shared} {tg : Expr} {it : Addr} {u : Value} {o : Obj} {n : String} {vs : Array Value} {Q : Unit → Shared → Prop} (ho : s.heap.get? it = some o) (hc : o.cls = .type n) (hd : o.data = .fields vs)
    (hn : ["enumerate", "zip", "dict_itemiterator", "dict_reverseitemiterator", "odict_iterator", "itertools.zip_longest", "itertools.pairwise"].contains n = false) (hQ : Q () s) : wpAny M A (letOwnedTupleGo tg (.ref it) u) Q E s := by
  unfold letOwnedTupleGo
  cases tg <;> first
    | exact Ye hQ
    | (cases u <;> first
        | exact Ye hQ
        | (refine Ya (wpAny_load ho ?_)
           rw [hc, hd]
           show wpAny M A (if (["enumerate", "zip", "dict_itemiterator", "dict_reverseitemiterator", "odict_iterator", "itertools.zip_longest", "itertools.pairwise"].contains n && vs[0]? == some (rawInt _)) = true then _ else _) Q E s
           rw [Yb (by intro h; rw [hn, Bool.false_and] at h; cases h)]
           exact Ye hQ))
noncomputable def Itl (K:PySem.W.Frag) (a:Addr):It :=
 ⟨λi H=>∃xs x,SqL K H a xs/\xs[i]?=some x,λi H x H'=>H'=H/\∀xs,SqL K H a xs->xs[i]?=some x,λi H=>∃xs,SqL K H a xs/\xs.length<=i⟩
noncomputable def Itt (K:PySem.W.Frag) (a:Addr):It :=
 ⟨λi H=>∃xs x,SqT K H a xs/\xs[i]?=some x,λi H x H'=>H'=H/\∀xs,SqT K H a xs->xs[i]?=some x,λi H=>∃xs,SqT K H a xs/\xs.length<=i⟩
noncomputable def Itr (lo:Int) (n:Nat):It:=⟨λi _=>i<n,λi H x H'=>H'=H/\x=.int (lo+i),λi _=>n<=i⟩
theorem ZfB {P:Program}{w:World}{K:PySem.W.Frag}{tg:Expr} (a it:Addr):Turn P w K tg (Itl K a) [it] it (λi h=>h.IsListIter it a i) where
 mem:=by simp
 obj:=λi h st b hb=>by
  have e:b=it:=by simpa using hb
  subst e
  obtain⟨o,e,c,d⟩:=st
  exact⟨o,e,λv z=>by rw[d]at z;cases z⟩
 keep:=λi h h' st k=>st.at λo e=>k it (by simp) o e
 item:=by
  intro X hP hw hK hc i pins s σ H E I hf st hg
  subst hP hw hK
  obtain⟨xs,x,hq,hx⟩:=hg
  obtain⟨its,rv,p,hz⟩:=I.list hq
  obtain⟨u,hu,ru⟩:=rv.get hx
  obtain⟨f0,f1,f2,f3,f4,f5⟩:=hf it (by simp)
  refine wpAny_pyNext_list_item st p.isList (x:=u) (by simpa using hu) λh' st' sb=>?_
  have I1:Inv X pins σ H {s with heap:=h'}:=I.turned (t':=s.toks) (λb o hb e=>(sb.2 b hb).trans e) f0 f1 f3 f4 f5
  obtain⟨o,e,c,d⟩:=id st'
  exact⟨u,rfl,ZiK (s:={s with heap:=h'}) e c d nofun ⟨x,H,I1,ru,⟨rfl,λys hy=>by rw[I.Zc5 hy hq];exact hx⟩,st',λb hb=>(hf b hb).1⟩⟩
 done:=by
  intro X hP hw hK hc i pins s σ H E I hf st hg
  subst hP hw hK
  obtain⟨xs,hq,hx⟩:=hg
  obtain⟨its,rv,p,hz⟩:=I.list hq
  obtain⟨f0,f1,f2,f3,f4,f5⟩:=hf it (by simp)
  have hl:=rv.length
  exact wpAny_pyNext_list_end (I.ok.hd hc) st p.isList (by simp;omega) λh' eb=>⟨rfl,I.turned (t':=s.toks) (λb o hb e=>eb b o hb e) f0 f1 f3 f4 f5⟩
 self:=λ_ _ _ _ _ st h=>wpAny_pyIter_listiter st h
theorem ZeB {P:Program}{w:World}{K:PySem.W.Frag}{tg:Expr} (a it:Addr):Turn P w K tg (Itt K a) [it] it (λi h=>h.IsTupleIter it a i) where
 mem:=by simp
 obj:=λi h st b hb=>by
  have e:b=it:=by simpa using hb
  subst e
  obtain⟨o,e,c,d⟩:=st
  exact⟨o,e,λv z=>by rw[d]at z;cases z⟩
 keep:=λi h h' st k=>st.at λo e=>k it (by simp) o e
 item:=by
  intro X hP hw hK hc i pins s σ H E I hf st hg
  subst hP hw hK
  obtain⟨xs,x,hq,hx⟩:=hg
  obtain⟨its,rv,p,hz⟩:=I.tuple hq
  obtain⟨u,hu,ru⟩:=rv.get hx
  obtain⟨f0,f1,f2,f3,f4,f5⟩:=hf it (by simp)
  refine wpAny_pyNext_tuple_item st (show s.heap.IsTuple a its.toArray from p) (x:=u) (by simpa using hu) λh' st' sb=>?_
  have I1:Inv X pins σ H {s with heap:=h'}:=I.turned (t':=s.toks) (λb o hb e=>(sb.2 b hb).trans e) f0 f1 f3 f4 f5
  obtain⟨o,e,c,d⟩:=id st'
  exact⟨u,rfl,ZiK (s:={s with heap:=h'}) e c d nofun ⟨x,H,I1,ru,⟨rfl,λys hy=>by rw[I.Zdy hy hq];exact hx⟩,st',λb hb=>(hf b hb).1⟩⟩
 done:=by
  intro X hP hw hK hc i pins s σ H E I hf st hg
  subst hP hw hK
  obtain⟨xs,hq,hx⟩:=hg
  obtain⟨its,rv,p,hz⟩:=I.tuple hq
  obtain⟨f0,f1,f2,f3,f4,f5⟩:=hf it (by simp)
  have hl:=rv.length
  exact wpAny_pyNext_tuple_end (I.ok.hd hc) st (show s.heap.IsTuple a its.toArray from p) (by simp;omega) λh' eb=>⟨rfl,I.turned (t':=s.toks) (λb o hb e=>eb b o hb e) f0 f1 f3 f4 f5⟩
 self:=λ_ _ _ _ _ st h=>wpAny_pyIter_tupleiter st h
theorem ZhR {P:Program}{w:World}{K:PySem.W.Frag}{tg:Expr} (it:Addr) (lo:Int) (n:Nat):Turn P w K tg (Itr lo n) [it] it (λi h=>IsRangeIter h it (lo+(i:Nat)*1) ((n:Int)-(i:Nat)) 1) where
 mem:=by simp
 obj:=λi h st b hb=>by
  have e:b=it:=by simpa using hb
  subst e
  exact⟨_,st,λv z=>by
   have z':Data.fields _=Data.cell v:=z
   cases z'⟩
 keep:=λi h h' st k=>k it (by simp) _ st
 item:=by
  intro X hP hw hK hc i pins s σ H E I hf st hg
  subst hP hw hK
  obtain⟨f0,f1,f2,f3,f4,f5⟩:=hf it (by simp)
  have W:=Walks.range (prog:=X.prog) (w:=X.w) (I.ok.hd hc) it lo 1 n
  refine W.item i s _ _ hg st λv h' tk hv st' kk=>?_
  obtain⟨t,rfl⟩:=hv
  have I1:Inv X pins σ H {s with heap:=h',toks:=tk}:=I.turned (λb o hb e=>kk b o (by simpa using hb) e) f0 f1 f3 f4 f5
  refine⟨_,rfl,ZiK (s:={s with heap:=h',toks:=tk}) (n:="range_iterator") st' rfl rfl nofun ⟨.int (lo+i),H,I1,⟨t,?_⟩,⟨rfl,rfl⟩,st',λb hb=>(hf b hb).1⟩⟩
  rw[Int.mul_one]
 done:=by
  intro X hP hw hK hc i pins s σ H E I hf st hg
  subst hP hw hK
  obtain⟨f0,f1,f2,f3,f4,f5⟩:=hf it (by simp)
  exact wpAny_pyNext_range_end (I.ok.hd hc) st (by have:n<=i:=hg;omega) λh' eb=>⟨rfl,I.turned (t':=s.toks) (λb o hb e=>eb b o hb e) f0 f1 f3 f4 f5⟩
 self:=λ_ _ _ _ _ st h=>wpAny_pyIter_rangeiter st h
section
variable {X:Cx}{tg:Expr}
noncomputable def iList (K:PySem.W.Frag) (tl:TE):TI:=fun σ H R=>tl σ H λx H1=>∃a,x=.ref a/\(∃xs,SqL K H1 a xs)/\R (Itl K a) H1
noncomputable def iTup (K:PySem.W.Frag) (tl:TE):TI:=fun σ H R=>tl σ H λx H1=>∃a,x=.ref a/\(∃xs,SqT K H1 a xs)/\R (Itt K a) H1
theorem Za6 {l:Expr}{tl:TE} (hl:PE X l tl):PI X tg l (iList X.K tl):=by
 intro pins s σ H R I h
 refine thn (hl pins s σ H _ I h) λv s1 ⟨x,H1,I1,r1,q1⟩=>?_
 obtain⟨a,e,⟨xs,hq⟩,q⟩:=q1
 subst e
 cases r1
 obtain⟨its,rv,p,hz⟩:=I1.list hq
 refine wpAny_pyIter_list p.isList ?_
 refine⟨s1.heap.objs.size,[s1.heap.objs.size],_,_,H1,rfl,I1.kept (t':=s1.toks) λb o e=>Yk _ e,ZfB a _,⟨_,Yv _ rfl,rfl,rfl⟩,λb hb=>?_,q⟩
 have e:b=s1.heap.objs.size:=by simpa using hb
 subst e
 exact I1.ZhQ (Yd _) (I1.hok.fresh (Yd _))
theorem ZjL {l:Expr}{tl:TE} (hl:PE X l tl):PI X tg l (iTup X.K tl):=by
 intro pins s σ H R I h
 refine thn (hl pins s σ H _ I h) λv s1 ⟨x,H1,I1,r1,q1⟩=>?_
 obtain⟨a,e,⟨xs,hq⟩,q⟩:=q1
 subst e
 cases r1
 obtain⟨its,rv,p,hz⟩:=I1.tuple hq
 refine wpAny_pyIter_tuple (show s1.heap.IsTuple a its.toArray from p) ?_
 refine⟨s1.heap.objs.size,[s1.heap.objs.size],_,_,H1,rfl,I1.kept (t':=s1.toks) λb o e=>Yk _ e,ZeB a _,⟨_,Yv _ rfl,rfl,rfl⟩,λb hb=>?_,q⟩
 have e:b=s1.heap.objs.size:=by simpa using hb
 subst e
 exact I1.ZhQ (Yd _) (I1.hok.fresh (Yd _))
theorem ZgY {pins:List (Addr×Obj)}{σ:St}{H:Hp}{s:Shared}{R:It->Hp->Prop}{E:Value->Shared->Prop}{lo hi:Int}{t u v:Tok}{tk:Nat} (I:Inv X pins σ H s) (h1:-(2 ^ 62)<=lo) (h2:lo<2 ^ 62) (h3:-(2 ^ 62)<=hi) (h4:hi<2 ^ 62)
  (q:R (Itr lo (hi-lo).toNat) H):wpAny (model X.prog X.w) X.A (pyIter (.ref s.heap.objs.size)) (PIE X pins σ tg R) E {s with heap:=s.heap.push {cls:=.type "range",data:=.fields #[.int lo t,.int hi u,.int 1 v]},toks:=tk}:=by
 refine wpAny_pyIter_range (IsRange.new ..) (small_one h1 h2 h3 h4) ?_
 have I1:Inv X pins σ H {s with heap:=s.heap.push {cls:=.type "range",data:=.fields #[.int lo t,.int hi u,.int 1 v]},toks:=tk}:=I.kept λb o e=>Yk _ e
 refine⟨(s.heap.push {cls:=.type "range",data:=.fields #[.int lo t,.int hi u,.int 1 v]}).objs.size,[(s.heap.push {cls:=.type "range",data:=.fields #[.int lo t,.int hi u,.int 1 v]}).objs.size],_,_,H,rfl,
  I1.kept (t':=tk) λb o e=>Yk _ e,ZhR _ lo (hi-lo).toNat,?_,λb hb=>?_,q⟩
 .have e1:lo+((0:Nat):Int)*1=lo:=by simp
  have e2:(((hi-lo).toNat:Nat):Int)-((0:Nat):Int)=Builtin.Range.rangeSize lo hi 1:=by rw[rangeSize_one];split<;>omega
  show IsRangeIter _ _ (lo+((0:Nat):Int)*1) ((((hi-lo).toNat:Nat):Int)-((0:Nat):Int)) 1
  rw[e1,e2]
  exact Yv _ rfl
 .have e:b=(s.heap.push {cls:=.type "range",data:=.fields #[.int lo t,.int hi u,.int 1 v]}).objs.size:=by simpa using hb
  subst e
  exact I1.ZhQ (Yd _) (I1.hok.fresh (Yd _))
noncomputable def iRng1 (ta:TA):TI:=fun σ H R=>ta σ H λvs H1=>∃j:Int,vs=[.int j]/\-(2 ^ 62)<=j/\j<2 ^ 62/\R (Itr 0 j.toNat) H1
noncomputable def iRng2 (ta:TA):TI:=fun σ H R=>ta σ H λvs H1=>∃i j:Int,vs=[.int i,.int j]/\(-(2 ^ 62)<=i/\i<2 ^ 62/\-(2 ^ 62)<=j/\j<2 ^ 62)/\R (Itr i (j-i).toNat) H1
theorem ZW {a:Expr}{ta:TA}{p pos:Pos} (hg:Gl X "range") (hm:X.mg "range"=none) (ha:PA X [a] ta) (hs:starEach [a] X.env=[(false,eval a X.env)]:=by rfl):PI X tg (.Call (.Name "range" p) [a] [] pos) (iRng1 ta):=by
 intro pins s σ H R I h
 refine Call_ (Zb0 I hg hm boot_range (PyProof.Rows.callWith_type1 (thn (ha pos pins s σ H _ I h) λus s1 ⟨vs,H1,I1,r1,q1⟩=>?_) hs rfl))
 obtain⟨j,e,q1,q2,q⟩:=q1
 subst e
 cases r1 with
 |cons r rr =>
  cases rr
  obtain⟨t,rfl⟩:=r
  exact call_range_1 (ZgY I1 ⋯ ⋯ q1 q2 (by simpa using q))
theorem Zi3 {a b:Expr}{ta:TA}{p pos:Pos} (hg:Gl X "range") (hm:X.mg "range"=none) (ha:PA X [a,b] ta) (hs:starEach [a,b] X.env=[(false,eval a X.env),(false,eval b X.env)]:=by rfl) (hs2:starEach [b] X.env=[(false,eval b X.env)]:=by rfl) :
  PI X tg (.Call (.Name "range" p) [a,b] [] pos) (iRng2 ta):=by
 intro pins s σ H R I h
 refine Call_ (Zb0 I hg hm boot_range (PyProof.Rows.callWith_type1 (thn (ha pos pins s σ H _ I h) λus s1 ⟨vs,H1,I1,r1,q1⟩=>?_) (by rw[hs,hs2]) (by rw[hs2];rfl)))
 obtain⟨i,j,e,⟨q1,q2,q3,q4⟩,q⟩:=q1
 subst e
 cases r1 with
 |cons r rr =>
  cases rr with
  |cons r' rr =>
   cases rr
   obtain⟨t,rfl⟩:=r
   obtain⟨t',rfl⟩:=r'
   exact call_range_2 (ZgY I1 q1 q2 q3 q4 q)
noncomputable def tFor (wi:TI) (g:TG) (tb:TS):TS:=λD σ H=>wi σ H λJ H1=>∃W:Nat->Nat->St->Hp->Prop,(∃m,W 0 m σ H1)/\∀i m σ H,W i m σ H ->
 (J.stop i H/\D.nx σ H)\/(J.go i H/\∃N:St->Hp->Prop,(∀σ' H',N σ' H'->∃m',m'<m/\W (i+1) m' σ' H')/\∀x H',J.yld i H x H'->g x σ H' fun σ2 H2=>tb {D with nx:=N,ct:=N,bk:=D.nx} σ2 H2)
noncomputable def Zb2 (fp:List Addr) (h:Heap):List (Addr×Obj):=fp.filterMap λb=>(h.get? b).map λo=>(b,o)
theorem Zbw {fp:List Addr}{h:Heap}{b:Addr}{o:Obj} (hb:b∈fp) (e:h.get? b=some o):(b,o)∈Zb2 fp h:=List.mem_filterMap.mpr ⟨b,hb,by rw[e];rfl⟩
theorem ZfC {fp:List Addr}{h:Heap}{p:Addr×Obj} (hp:p∈Zb2 fp h):p.1∈fp/\h.get? p.1=some p.2:=by
 obtain⟨b,hb,e⟩:=List.mem_filterMap.mp hp
 cases q:h.get? b with
 |none=>rw[q]at e;cases e
 |some o =>
  rw[q]at e
  have e':(b,o)=p:=Yz e
  subst e'
  exact⟨hb,q⟩
theorem Inv.pinned {pins:List (Addr×Obj)}{σ:St}{H:Hp}{s:Shared}{fp:List Addr} (I:Inv X pins σ H s) (hf:∀b∈fp,FpOk X pins H b) (ho:∀b∈fp,∃o,s.heap.get? b=some o/\∀v,o.data≠.cell v):Inv X (pins++Zb2 fp s.heap) σ H s :=
 I.Zc4 λp hp=>(Yp.mp hp).elim (λz=>I.pin p (Yt _ z)) λz=>by
  obtain⟨hb,e⟩:=ZfC z
  obtain⟨f0,f1,f2,_⟩:=hf p.1 hb
  obtain⟨o,e',d⟩:=ho p.1 hb
  rw[e]at e';cases e'
  exact⟨e,f0,f1,f2,d⟩
theorem Inv.Zb3 {pins pl:List (Addr×Obj)}{σ:St}{H:Hp}{s:Shared} (I:Inv X (pins++pl) σ H s):Inv X pins σ H s:=I.Zc4 λp hp=>I.pin p (Yt _ (YI _ hp))
theorem ZaC {iter:Expr}{body:List Stmt}{wi:TI}{g:TG}{tb:TS}{pos:Pos} (hp:PassesOwn (model X.prog X.w) X.A X.env X.xe) (hc:X.calm=true) (hi:PI X tg iter wi) (hg:PG X tg g) (hb:PSs X body tb)
  (hs:∀x,foldedSetIterable iter X.env x=pure x:=by ac_nf):PS X (.For tg iter body [] pos) (tFor wi g tb):=by
 intro pins s σ H D I h
 refine wpAny_For (thn (hi pins s σ H _ I h) λv s1 h1=>thn h1 λitv s2 h2=>?_) hs
 obtain⟨it,fp,tn,J,H2,e,I2,T,st2,f2,W,⟨m0,w0⟩,turn⟩:=h2
 subst e
 -- what stays true of the iterator's objects through the loop
 have stat:∀{H':Hp},(∀b∈fp,H' b=none)->∀b∈fp,FpOk X pins H' b:=λhn b hb=>⟨hn b hb,(f2 b hb).2⟩
 refine codeAny_forLoop_any (λn s'=>∃i σ' H',Inv X pins σ' H' s'/\tn i s'.heap/\(∀b∈fp,H' b=none)/\W i n σ' H') ?_ m0 ⟨0,σ,H2,I2,st2,λb hb=>(f2 b hb).1,w0⟩
 rintro n s3 ⟨i,σ3,H3,I3,st3,fr3,w3⟩
 rcases turn i n σ3 H3 w3 with⟨stop,qn⟩|⟨go,N,hN,step⟩
 .refine wpAny_passesOwn hp (thn (T.done X rfl rfl rfl hc i pins s3 σ3 H3 X.xe I3 (stat fr3) st3 stop) λr s4 ⟨hr,I4⟩=>?_)
  subst hr
  exact wpAny_execs_nil ⟨σ3,H3,I4,qn⟩
 .refine wpAny_passesOwn hp (thn (T.item X rfl rfl rfl hc i pins s3 σ3 H3 X.xe I3 (stat fr3) st3 go) λr s4 ⟨u,hr,h4⟩=>?_)
  subst hr
  refine wpAny_passesOwn hp (thn h4 λ_ s5 ⟨x,H5,I5,r5,y5,st5,fr5⟩=>?_)
  have I5':=I5.pinned (stat fr5) (T.obj _ _ st5)
  refine wpAny_passesOwn hp (thn (hg _ s5 σ3 H5 x u _ I5' r5 (step x H5 y5)) λ_ s6 ⟨σ6,H6,I6,q6⟩=>?_)
  refine wpAny_passesOwn hp (thn (hb _ s6 σ6 H6 _ I6 q6) λf s7 q7=>?_)
  have again:∀{σ7:St}{H7:Hp},Inv X (pins++Zb2 fp s5.heap) σ7 H7 s7->N σ7 H7->∃m,m<n/\∃i σ' H',Inv X pins σ' H' s7/\tn i s7.heap/\(∀b∈fp,H' b=none)/\W i m σ' H':=λ{σ7 H7} I7 n7=>by
   obtain⟨m',hm,w7⟩:=hN σ7 H7 n7
   refine⟨m',hm,i+1,σ7,H7,I7.Zb3,T.keep _ _ _ st5 λb hb o e=>(I7.pin (b,o) (Yt _ (Yt _ (Zbw hb e)))).1,λb hb=>?_,w7⟩
   obtain⟨o,e,d⟩:=T.obj _ _ st5 b hb
   exact(I7.pin (b,o) (Yt _ (Yt _ (Zbw hb e)))).2.1
  cases f with
  |next=>obtain⟨σ7,H7,I7,n7⟩:=q7;exact again I7 n7
  |cont=>obtain⟨σ7,H7,I7,n7⟩:=q7;exact again I7 n7
  |brk=>obtain⟨σ7,H7,I7,q7⟩:=q7;exact⟨σ7,H7,I7.Zb3,q7⟩
  |ret v=>obtain⟨x7,σ7,H7,I7,r7,q7⟩:=q7;exact⟨x7,σ7,H7,I7.Zb3,r7,q7⟩
end
theorem Zac {lo:Int}{n:Nat}{g:TG}{tb:TS}{D:Ends}{σ:St}{H:Hp} (Pv:Nat->St->Hp->Prop) (h0:Pv 0 σ H)
  (hs:∀i σ H,i<n->Pv i σ H->g (.int (lo+i)) σ H fun σ2 H2=>tb {D with nx:=Pv (i+1),ct:=Pv (i+1),bk:=D.nx} σ2 H2) (hd:∀σ H,Pv n σ H->D.nx σ H) :
  ∃W:Nat->Nat->St->Hp->Prop,(∃m,W 0 m σ H)/\∀i m σ H,W i m σ H ->
   ((Itr lo n).stop i H/\D.nx σ H)\/((Itr lo n).go i H/\∃N:St->Hp->Prop,(∀σ' H',N σ' H'->∃m',m'<m/\W (i+1) m' σ' H')/\∀x H',(Itr lo n).yld i H x H'->g x σ H' fun σ2 H2=>tb {D with nx:=N,ct:=N,bk:=D.nx} σ2 H2):=by
 refine⟨λi m σ H=>m=n-i/\i<=n/\Pv i σ H,⟨n,by simp,Yq _,h0⟩,?_⟩
 rintro i m σ H ⟨rfl,hi,p⟩
 by_cases hlt:i<n
 .refine .inr ⟨hlt,Pv (i+1),fun σ' H' p'=>⟨n-(i+1),⋯,rfl,hlt,p'⟩,λx H' y=>?_⟩
  obtain⟨e,y⟩:=y
  subst e y
  exact hs i σ _ hlt p
 .have e:i=n:= ⋯
  subst e
  exact .inl ⟨Yd _,hd σ H p⟩
noncomputable abbrev R2:=V->V->Hp->VK->Prop
noncomputable def OpR (X:Cx) (f:Value->Value->Sem Value) (r:R2):Prop :=
 ∀(pins:List (Addr×Obj)) (s:Shared) (σ:St) (H:Hp) (x y:V) (v u:Value) (Q:VK),Inv X pins σ H s->RelV x v->RelV y u->r x y H Q ->
  wpAny (model X.prog X.w) X.A (f v u) (EP X pins σ Q) X.xe s
noncomputable def UnR (X:Cx) (f:Value->Sem Value) (r:V->Hp->VK->Prop):Prop :=
 ∀(pins:List (Addr×Obj)) (s:Shared) (σ:St) (H:Hp) (x:V) (v:Value) (Q:VK),Inv X pins σ H s->RelV x v->r x H Q ->
  wpAny (model X.prog X.w) X.A (f v) (EP X pins σ Q) X.xe s
noncomputable def Zaq (X:Cx) (f:Value) (r:List V->Hp->VK->Prop):Prop :=
 ∀(pins:List (Addr×Obj)) (s:Shared) (σ:St) (H:Hp) (xs:List V) (us:List Value) (Q:VK),Inv X pins σ H s->Vals xs us->r xs H Q ->
  wpAny (model X.prog X.w) X.A (call f us) (EP X pins σ Q) X.xe s
noncomputable def TruR (X:Cx) (r:V->Hp->(Bool->Hp->Prop)->Prop):Prop :=
 ∀(pins:List (Addr×Obj)) (s:Shared) (σ:St) (H:Hp) (x:V) (v:Value) (Q:Bool->Hp->Prop),Inv X pins σ H s->RelV x v->r x H Q ->
  wpAny (model X.prog X.w) X.A (truthy v) (TP X pins σ Q) X.xe s
noncomputable def tOp (r:R2) (ta tb:TE):TE:=fun σ H Q=>ta σ H λx H1=>tb σ H1 λy H2=>r x y H2 Q
noncomputable def tUn (r:V->Hp->VK->Prop) (ta:TE):TE:=fun σ H Q=>ta σ H λx H1=>r x H1 Q
noncomputable def rI (C:Int->Int->Prop) (g:Int->Int->V):R2:=λx y H Q=>∃i j,x=.int i/\y=.int j/\C i j/\Q (g i j) H
noncomputable def rI0 (g:Int->Int->V):R2:=λx y H Q=>∃i j,x=.int i/\y=.int j/\Q (g i j) H
noncomputable def rU (g:Int->V):V->Hp->VK->Prop:=λx H Q=>∃i,x=.int i/\Q (g i) H
section
variable {X:Cx}{a b c:Expr}{ta tb tc:TE}{pos:Pos}
theorem binT (ha:PE X a ta) (hb:PE X b tb) {pins:List (Addr×Obj)}{s:Shared}{σ:St}{H:Hp}{R:V->V->Hp->Prop} (I:Inv X pins σ H s)
  (h:ta σ H λx H1=>tb σ H1 λy H2=>R x y H2) {Q:Value->Shared->Prop}{f:Value->Value->Sem Value}
  (hf:∀v u s2 x y H2,Inv X pins σ H2 s2->RelV x v->RelV y u->R x y H2->wpAny (model X.prog X.w) X.A (f v u) Q X.xe s2) :
  wpAny (model X.prog X.w) X.A (eval a X.env) (λv s₁=>wpAny (model X.prog X.w) X.A (eval b X.env) (λu s₂=>wpAny (model X.prog X.w) X.A (f v u) Q X.xe s₂) X.xe s₁) X.xe s:=by
 refine thn (ha pins s σ H _ I h) λv s1 ⟨x,H1,I1,r1,q1⟩=>?_
 refine thn (hb pins s1 σ H1 _ I1 q1) λu s2 ⟨y,H2,I2,r2,q2⟩=>?_
 exact hf v u s2 x y H2 I2 r1 r2 q2
theorem Zk {op:Operator}{r:R2} (ho:OpR X (binaryOp op) r) (ha:PE X a ta) (hb:PE X b tb):PE X (.BinOp a op b pos) (tOp r ta tb):=by
 intro pins s σ H Q I h
 exact wpAny_BinOp (binT ha hb I h λv u s2 x y H2 I2 rx ry q=>ho pins s2 σ H2 x y v u Q I2 rx ry q)
theorem ZiL {op:UnaryOp}{r:V->Hp->VK->Prop} (ho:UnR X (unaryOp op) r) (ha:PE X a ta):PE X (.UnaryOp op a pos) (tUn r ta):=by
 intro pins s σ H Q I h
 exact UnaryOp_ (thn (ha pins s σ H _ I h) λv s1 ⟨x,H1,I1,r1,q1⟩=>ho pins s1 σ H1 x v Q I1 r1 q1)
theorem opI {f:Value->Value->Sem Value}{C:Int->Int->Prop}{g:Int->Int->Int}
  (rule:∀(i j:Int) (t u:Tok) (s:Shared) (Q:Value->Shared->Prop) (E:Value->Shared->Prop),C i j->Q (.int (g i j) s.toks) {s with toks:=s.toks+1}->wpAny (model X.prog X.w) X.A (f (.int i t) (.int j u)) Q E s) :
  OpR X f (rI C λi j=>.int (g i j)):=by
 intro pins s σ H x y v u Q I rx ry h
 obtain⟨i,j,rfl,rfl,hc,q⟩:=h
 obtain⟨t,rfl⟩:=rx
 obtain⟨t',rfl⟩:=ry
 exact rule i j t t' s _ _ hc ⟨.int (g i j),H,I.tok _,⟨_,rfl⟩,q⟩
theorem opI0 {f:Value->Value->Sem Value}{g:Int->Int->Int}
  (rule:∀(i j:Int) (t u:Tok) (s:Shared) (Q:Value->Shared->Prop) (E:Value->Shared->Prop),Q (.int (g i j) s.toks) {s with toks:=s.toks+1}->wpAny (model X.prog X.w) X.A (f (.int i t) (.int j u)) Q E s) :
  OpR X f (rI0 λi j=>.int (g i j)):=by
 intro pins s σ H x y v u Q I rx ry h
 obtain⟨i,j,rfl,rfl,q⟩:=h
 obtain⟨t,rfl⟩:=rx
 obtain⟨t',rfl⟩:=ry
 exact rule i j t t' s _ _ ⟨.int (g i j),H,I.tok _,⟨_,rfl⟩,q⟩
theorem opB0 {f:Value->Value->Sem Value}{g:Int->Int->Bool}
  (rule:∀(i j:Int) (t u:Tok) (s:Shared) (Q:Value->Shared->Prop) (E:Value->Shared->Prop),Q (.bool (g i j)) s->wpAny (model X.prog X.w) X.A (f (.int i t) (.int j u)) Q E s) :
  OpR X f (rI0 λi j=>.bl (g i j)):=by
 intro pins s σ H x y v u Q I rx ry h
 obtain⟨i,j,rfl,rfl,q⟩:=h
 obtain⟨t,rfl⟩:=rx
 obtain⟨t',rfl⟩:=ry
 exact rule i j t t' s _ _ ⟨.bl (g i j),H,I,rfl,q⟩
noncomputable def CDiv (i j:Int):Prop:=0<j/\j<1073741824
noncomputable def Zf7 (i j:Int):Prop:=0<=j/\j<=1000000/\i.natAbs<2 ^ 64
theorem Z9:OpR X (binaryOp .Add) (rI0 λi j=>.int (i+j)):=opI0 λ_ _ _ _ _ _ _ q=>add_int q
theorem Zbb:OpR X (binaryOp .Sub) (rI0 λi j=>.int (i-j)):=opI0 λ_ _ _ _ _ _ _ q=>sub_int q
theorem Zes:OpR X (binaryOp .FloorDiv) (rI CDiv λi j=>.int (i / j)):=opI λi j _ _ _ _ _ hc q=>by
 have h1:(0:Int)<j:=hc.1
 have h2:j<1073741824:=hc.2
 exact floordiv_int ⋯ (by rw[Int.fdiv_eq_ediv_of_nonneg i ⋯];exact q) (.inl (PyProof.noPylong_small ⋯))
theorem Zdz:OpR X (binaryOp .Mod) (rI (λ_ j=>0<j) λi j=>.int (i % j)):=opI λi j _ _ _ _ _ hc q=>by
 have h1:(0:Int)<j:=hc
 exact mod_int' ⋯ (by rw[Int.fmod_eq_emod_of_nonneg i ⋯];exact q)
theorem Zb4:OpR X (binaryOp .Pow) (rI Zf7 λi j=>.int (i ^ j.toNat)):=opI λ_ _ _ _ _ _ _ hc q=>pow_int_small hc.1 hc.2.1 hc.2.2 q
theorem unI {f:Value->Sem Value}{g:Int->Int}
  (rule:∀(i:Int) (t:Tok) (s:Shared) (Q:Value->Shared->Prop) (E:Value->Shared->Prop),Q (.int (g i) s.toks) {s with toks:=s.toks+1}->wpAny (model X.prog X.w) X.A (f (.int i t)) Q E s) :
  UnR X f (rU λi=>.int (g i)):=by
 intro pins s σ H x v Q I rx h
 obtain⟨i,rfl,q⟩:=h
 obtain⟨t,rfl⟩:=rx
 exact rule i t s _ _ ⟨.int (g i),H,I.tok _,⟨_,rfl⟩,q⟩
theorem Zf8:UnR X (unaryOp .USub) (rU λi=>.int (-i)):=unI λ_ _ _ _ _ q=>neg_int q
end
noncomputable def ZgZ:V->V->Bool
 |.non,.non=>true|.non,.int _=>true|.int _,.non=>true|.non,.bl _=>true|.bl _,.non=>true|.non,.str _=>true|.str _,.non=>true
 |.int _,.int _=>true|.bl _,.bl _=>true|.str _,.str _=>true|.byt _,.byt _=>true
 |.int _,.str _=>true|.str _,.int _=>true|.bl _,.str _=>true|.str _,.bl _=>true
 |_,_=>false
noncomputable def rEq:R2:=λx y H Q=>ZgZ x y=true/\Q (.bl (decide (x=y))) H
noncomputable def rNe:R2:=λx y H Q=>ZgZ x y=true/\Q (.bl (!decide (x=y))) H
theorem ZiM {i j:Int}:decide (V.int i=V.int j)=(i==j):=by
 rw[Bool.eq_iff_iff]
 simp
theorem ZjM {i j:Bool}:decide (V.bl i=V.bl j)=(i==j):=by
 rw[Bool.eq_iff_iff]
 simp
theorem ZiN {i j:Str}:decide (V.str i=V.str j)=(i==j):=by
 rw[Bool.eq_iff_iff]
 simp
theorem ZiO {i j:Array UInt8}:decide (V.byt i=V.byt j)=(i.toList==j.toList):=by
 rw[Bool.eq_iff_iff]
 cases i
 cases j
 simp
section
variable {X:Cx}{a b c:Expr}{ta tb tc:TE}{pos:Pos}
theorem ZD {pins:List (Addr×Obj)}{σ:St}{H:Hp}{s:Shared}{Q:VK}{k k':Bool} (I:Inv X pins σ H s) (q:Q (.bl k) H) (e:k=k'):EP X pins σ Q (.bool k') s:=by
 subst e
 exact⟨.bl k,H,I,rfl,q⟩
theorem Z1:OpR X (compareOp .Eq) rEq:=by
 intro pins s σ H x y v u Q I rx ry h
 obtain⟨hs,q⟩:=h
 cases x with
 |non =>
  cases rx
  cases y with
  |non=>cases ry;exact PySem.EqNone.eq_none_none (ZD I q (by simp))
  |bl j=>cases ry;exact PySem.EqNone.eq_none_bool (ZD I q (by simp))
  |int j=>obtain⟨t',rfl⟩:=ry;exact PySem.EqNone.eq_none_int (ZD I q (by simp))
  |str j=>obtain⟨t',rfl⟩:=ry;exact PySem.EqNone.eq_none_str (ZD I q (by simp))
  |_=>exact absurd (show false=true from hs) Yx
 |bl i =>
  cases rx
  cases y with
  |non=>cases ry;exact PySem.EqNone.eq_bool_none (ZD I q (by simp))
  |bl j=>cases ry;exact eq_bool (ZD I q ZjM)
  |str j=>obtain⟨t',rfl⟩:=ry;exact PySem.EqMixed.eq_bool_str (ZD I q (by simp))
  |_=>exact absurd (show false=true from hs) Yx
 |int i =>
  obtain⟨t,rfl⟩:=rx
  cases y with
  |non=>cases ry;exact PySem.EqNone.eq_int_none (ZD I q (by simp))
  |int j=>obtain⟨t',rfl⟩:=ry;exact eq_int (ZD I q ZiM)
  |str j=>obtain⟨t',rfl⟩:=ry;exact PySem.EqMixed.eq_int_str (ZD I q (by simp))
  |_=>exact absurd (show false=true from hs) Yx
 |str i =>
  obtain⟨t,rfl⟩:=rx
  cases y with
  |non=>cases ry;exact PySem.EqNone.eq_str_none (ZD I q (by simp))
  |bl j=>cases ry;exact PySem.EqMixed.eq_str_bool (ZD I q (by simp))
  |int j=>obtain⟨t',rfl⟩:=ry;exact PySem.EqMixed.eq_str_int (ZD I q (by simp))
  |str j=>obtain⟨t',rfl⟩:=ry;exact eq_str (ZD I q ZiN)
  |_=>exact absurd (show false=true from hs) Yx
 |byt i =>
  obtain⟨t,rfl⟩:=rx
  cases y with
  |byt j=>obtain⟨t',rfl⟩:=ry;exact PySem.W.eq_bytes (ZD I q ZiO)
  |_=>exact absurd (show false=true from hs) Yx
 |_=>cases y<;>exact absurd (show false=true from hs) Yx
theorem Zg0:OpR X (compareOp .NotEq) rNe:=by
 intro pins s σ H x y v u Q I rx ry h
 obtain⟨hs,q⟩:=h
 cases x with
 |non =>
  cases rx
  cases y with
  |non=>cases ry;exact PySem.EqNone.ne_none_none (ZD I q (by simp))
  |bl j=>cases ry;exact PySem.EqNone.ne_none_bool (ZD I q (by simp))
  |int j=>obtain⟨t',rfl⟩:=ry;exact PySem.EqNone.ne_none_int (ZD I q (by simp))
  |str j=>obtain⟨t',rfl⟩:=ry;exact PySem.EqNone.ne_none_str (ZD I q (by simp))
  |_=>exact absurd (show false=true from hs) Yx
 |bl i =>
  cases rx
  cases y with
  |non=>cases ry;exact PySem.EqNone.ne_bool_none (ZD I q (by simp))
  |bl j=>cases ry;exact ne_bool (ZD I q (congrArg not ZjM))
  |str j=>obtain⟨t',rfl⟩:=ry;exact PySem.EqMixed.ne_bool_str (ZD I q (by simp))
  |_=>exact absurd (show false=true from hs) Yx
 |int i =>
  obtain⟨t,rfl⟩:=rx
  cases y with
  |non=>cases ry;exact PySem.EqNone.ne_int_none (ZD I q (by simp))
  |int j=>obtain⟨t',rfl⟩:=ry;exact ne_int (ZD I q (congrArg not ZiM))
  |str j=>obtain⟨t',rfl⟩:=ry;exact PySem.EqMixed.ne_int_str (ZD I q (by simp))
  |_=>exact absurd (show false=true from hs) Yx
 |str i =>
  obtain⟨t,rfl⟩:=rx
  cases y with
  |non=>cases ry;exact PySem.EqNone.ne_str_none (ZD I q (by simp))
  |bl j=>cases ry;exact PySem.EqMixed.ne_str_bool (ZD I q (by simp))
  |int j=>obtain⟨t',rfl⟩:=ry;exact PySem.EqMixed.ne_str_int (ZD I q (by simp))
  |str j=>obtain⟨t',rfl⟩:=ry;exact ne_str (ZD I q (congrArg not ZiN))
  |_=>exact absurd (show false=true from hs) Yx
 |byt i =>
  obtain⟨t,rfl⟩:=rx
  cases y with
  |byt j=>obtain⟨t',rfl⟩:=ry;exact PySem.W.ne_bytes (ZD I q (congrArg not ZiO))
  |_=>exact absurd (show false=true from hs) Yx
 |_=>cases y<;>exact absurd (show false=true from hs) Yx
theorem Zc7:OpR X (compareOp .Lt) (rI0 λi j=>.bl (decide (i<j))):=opB0 λ_ _ _ _ _ _ _ q=>lt_int q
theorem Zg1:OpR X (compareOp .LtE) (rI0 λi j=>.bl (decide (i<=j))):=opB0 λ_ _ _ _ _ _ _ q=>le_int q
theorem Zb5:OpR X (compareOp .Gt) (rI0 λi j=>.bl (decide (j<i))):=opB0 λ_ _ _ _ _ _ _ q=>gt_int q
theorem op_ge:OpR X (compareOp .GtE) (rI0 λi j=>.bl (decide (j<=i))):=opB0 λ_ _ _ _ _ _ _ q=>ge_int q
theorem op_isN:OpR X (compareOp .Is) (λx y H Q=>y=.non/\Q (.bl (decide (x=.non))) H):=by
 intro pins s σ H x y v u Q I rx ry h
 obtain⟨rfl,q⟩:=h
 cases ry
 refine is_none_gen (ZD I q ?_)
 cases x<;>first
  |(cases rx;rfl)
  |(obtain⟨t,rfl⟩:=rx;rfl)
theorem ZkE:OpR X (compareOp .IsNot) (λx y H Q=>y=.non/\Q (.bl (!decide (x=.non))) H):=by
 intro pins s σ H x y v u Q I rx ry h
 obtain⟨rfl,q⟩:=h
 cases ry
 refine isnot_none_gen (ZD I q ?_)
 cases x<;>first
  |(cases rx;rfl)
  |(obtain⟨t,rfl⟩:=rx;rfl)
theorem Zo (b:Expr) {op:CmpOp} (h:op≠.In:=by decide) (h2:op≠.NotIn:=by decide):behindInMarks op b=false:=by
 have e1:(op==CmpOp.In)=false:=by cases op<;>first|rfl|exact absurd rfl h
 have e2:(op==CmpOp.NotIn)=false:=by cases op<;>first|rfl|exact absurd rfl h2
 cases b<;>simp[behindInMarks,e1,e2]
theorem ZQ {op:CmpOp}{r:R2} (ho:OpR X (compareOp op) r) (ha:PE X a ta) (hb:PE X b tb) (hm:behindInMarks op b=false):PE X (.Compare a [op] [b] pos) (tOp r ta tb):=by
 intro pins s σ H Q I h
 exact wpAny_Compare1 (binT ha hb I h λv u s2 x y H2 I2 rx ry q=>ho pins s2 σ H2 x y v u Q I2 rx ry q) hm
noncomputable def tTest (t:TE):TT:=fun σ H Q=>t σ H λx H'=>∃k,x=.bl k/\Q k H'
theorem Zq {op:CmpOp}{r:R2} (ho:OpR X (compareOp op) r) (ha:PE X a ta) (hb:PE X b tb) (hm:behindInMarks op b=false):PT X (.Compare a [op] [b] pos) (tTest (tOp r ta tb)):=by
 intro pins s σ H Q I h
 refine wpAny_isTrue_Compare1 (thn (ha pins s σ H _ I h) λv s1 ⟨x,H1,I1,r1,q1⟩=>thn (hb pins s1 σ H1 _ I1 q1) λu s2 ⟨y,H2,I2,r2,q2⟩ =>
  thn (ho pins s2 σ H2 x y v u _ I2 r1 r2 q2) λc s3 ⟨z,H3,I3,r3,k,e,q3⟩=>?_) hm
 subst e
 cases r3
 exact wpAny_truthy_bool ⟨H3,I3,q3⟩
noncomputable def tChain (r r':R2) (ta tb tc:TE):TE:=fun σ H Q=>ta σ H λx H1=>tb σ H1 λy H2=>r x y H2 λz H3=>∃k,z=.bl k /\
 (if k=true then tc σ H3 λw' H4=>r' y w' H4 Q else Q (.bl false) H3)
theorem ZeC {op op':CmpOp}{r r':R2} (ho:OpR X (compareOp op) r) (ho':OpR X (compareOp op') r') (ha:PE X a ta) (hb:PE X b tb) (hc:PE X c tc)
  (hm:lastMarks [op,op'] [b,c]=false:=by with_unfolding_all rfl):PT X (.Compare a [op,op'] [b,c] pos) (tTest (tChain r r' ta tb tc)):=by
 intro pins s σ H Q I h
 refine isTrue_chain (thn (ha pins s σ H _ I h) λv s1 ⟨x,H1,I1,r1,q1⟩=>test_link (thn (hb pins s1 σ H1 _ I1 q1) λu s2 ⟨y,H2,I2,r2,q2⟩ =>
  thn (ho pins s2 σ H2 x y v u _ I2 r1 r2 q2) λd s3 ⟨z,H3,I3,r3,k,e,q3⟩=>?_)) hm
 subst e
 cases r3
 refine wpAny_truthy_bool ?_
 cases k with
 |false =>
  obtain⟨k',e',q'⟩:=q3
  cases e'
  exact ite_ff ⟨H3,I3,q'⟩
 |true =>
  refine ite_tt (test_last (thn (hc pins s3 σ H3 _ I3 q3) λw' s4 ⟨z',H4,I4,r4,q4⟩=>thn (ho' pins s4 σ H4 y z' u w' _ I4 r2 r4 q4) λd' s5 ⟨z2,H5,I5,r5,k2,e2,q5⟩=>?_))
  subst e2
  cases r5
  exact wpAny_truthy_bool ⟨H5,I5,q5⟩
noncomputable def TruV (K:PySem.W.Frag) (x:V) (H:Hp) (k:Bool):Prop :=
 match x with
 |.non=>k=false
 |.bl b=>k=b
 |.int i=>k=(i != 0)
 |.str y=>y.length<=sizeLine/\k=((y.length:Int) != 0)
 |.byt y=>y.size<=sizeLine/\k=((y.size:Int) != 0)
 |.ref p=>(∃xs,SqL K H p xs/\k=!xs.isEmpty)\/(∃xs,SqT K H p xs/\k=!xs.isEmpty)\/∃kvs,H p=some (.dK kvs)/\k=!kvs.isEmpty
 |_=>False
theorem ZhS {κ:Type}{kvs:List (κ×V)}{vs:List (κ×Value)} (r:KV kvs vs):(!vs.isEmpty)=!kvs.isEmpty:=by
 cases r<;>rfl
theorem ZeD {xs:List V}{its:List Value} (r:Vals xs its):(!its.toArray.isEmpty)=!xs.isEmpty:=by
 cases r<;>simp
theorem Zb6:(sizeLine:Nat)<2 ^ 63:=by rw[sizeLine_eq];decide
theorem tru_ok:TruR X (λx H Q=>∃k,TruV X.K x H k/\Q k H):=by
 intro pins s σ H x v Q I rx h
 obtain⟨k,e,q⟩:=h
 have hl:=Zb6
 have hs:sizeLine=16777216:=sizeLine_eq
 cases x with
 |non =>
  cases rx
  have e':k=false:=e
  subst e'
  exact truthy_none ⟨H,I,q⟩
 |bl b =>
  cases rx
  have e':k=b:=e
  subst e'
  exact wpAny_truthy_bool ⟨H,I,q⟩
 |int i =>
  obtain⟨t,rfl⟩:=rx
  have e':k=(i != 0):=e
  subst e'
  exact PySem.P.truthy_int ⟨H,I,q⟩
 |str y =>
  obtain⟨t,rfl⟩:=rx
  obtain⟨hy,e'⟩:y.length<=sizeLine/\k=((y.length:Int) != 0):=e
  subst e'
  exact PySem.P.truthy_str ⋯ ⟨H,I.tok _,q⟩
 |byt y =>
  obtain⟨t,rfl⟩:=rx
  obtain⟨hy,e'⟩:y.size<=sizeLine/\k=((y.size:Int) != 0):=e
  subst e'
  exact PySem.W.truthy_bytes ⋯ ⟨H,I.tok _,q⟩
 |ref p =>
  cases rx
  have e':(∃xs,SqL X.K H p xs/\k=!xs.isEmpty)\/(∃xs,SqT X.K H p xs/\k=!xs.isEmpty)\/∃kvs,H p=some (.dK kvs)/\k=!kvs.isEmpty:=e
  rcases e' with⟨xs,hx,e'⟩|⟨xs,hx,e'⟩|⟨kvs,hx,e'⟩
  .subst e'
   obtain⟨its,r,pl,hz⟩:=I.list hx
   have hlen:=r.length
   exact wpAny_truthy_list pl.isList (by simp only[Yr];omega) ⟨H,I.tok _,by rw[ZeD r];exact q⟩
  .subst e'
   obtain⟨its,r,pl,hz⟩:=I.tuple hx
   have hlen:=r.length
   exact truthy_tuple pl (by simp only[Yr];omega) ⟨H,I.tok _,by rw[ZeD r];exact q⟩
  .subst e'
   obtain⟨hz,hS,vs,r,m⟩:kvs.length<=sizeLine/\(p==sysModules)=false/\∃vs,KV kvs vs/\s.heap.DictOf (Zf4 X.prog X.w) p vs:=I.hok p _ hx
   have hlen:kvs.length=vs.length:=Paired.length r
   exact wpAny_truthy_dict hS m ⋯ ⟨H,I.tok _,by rw[ZhS r];exact q⟩
 |_=>exact(show False from e).elim
theorem Zg2 (ha:PE X a ta) (he:∀whole,isTrue a X.env whole=(do let v <-whole;standAt a.pos;holding [v] (truthy v))) :
  PT X a (fun σ H Q=>ta σ H λx H'=>∃k,TruV X.K x H' k/\Q k H'):=by
 intro pins s σ H Q I h
 exact isTrue_plain (thn (ha pins s σ H _ I h) λv s1 ⟨x,H1,I1,r1,q1⟩=>tru_ok pins s1 σ H1 x v Q I1 r1 q1) (he _)
theorem ZK:OpR X (binaryOp .Add) (λx y H Q=>∃i j,x=.str i/\y=.str j/\i.length+j.length<=sizeLine/\Q (.str (i++j)) H):=by
 intro pins s σ H x y v u Q I rx ry h
 obtain⟨i,j,rfl,rfl,hz,q⟩:=h
 obtain⟨t,rfl⟩:=rx
 obtain⟨t',rfl⟩:=ry
 exact add_str (λt' tk=>⟨.str (i++j),H,I.tok _,⟨_,rfl⟩,q⟩) hz
theorem vals1 {x:V}{us:List Value} (r:Vals [x] us):∃u,us=[u]/\RelV x u:=by
 cases r with
 |cons r1 r2=>cases r2;exact⟨_,rfl,r1⟩
theorem vals2 {x y:V}{us:List Value} (r:Vals [x,y] us):∃u w',us=[u,w']/\RelV x u/\RelV y w':=by
 cases r with
 |cons r1 r2 =>
  cases r2 with
  |cons r3 r4=>cases r4;exact⟨_,_,rfl,r1,r3⟩
theorem Zi4 (hc:X.calm=true):Zaq X (.builtin "max") (λxs H Q=>∃i j,xs=[.int i,.int j]/\Q (.int (if j>i then j else i)) H):=by
 intro pins s σ H xs us Q I r h
 obtain⟨i,j,rfl,q⟩:=h
 obtain⟨u,w',rfl,⟨t,rfl⟩,⟨t',rfl⟩⟩:=vals2 r
 refine max_two_ints (I.ok.hd hc) λh' tk k=>⟨_,H,I.kept k,?_,q⟩
 by_cases hj:j>i
 .rw[Yc hj,Yc hj];exact⟨_,rfl⟩
 .rw[Yb hj,Yb hj];exact⟨_,rfl⟩
theorem Zi5 (hc:X.calm=true):Zaq X (.builtin "min") (λxs H Q=>∃i j,xs=[.int i,.int j]/\Q (.int (if j<i then j else i)) H):=by
 intro pins s σ H xs us Q I r h
 obtain⟨i,j,rfl,q⟩:=h
 obtain⟨u,w',rfl,⟨t,rfl⟩,⟨t',rfl⟩⟩:=vals2 r
 refine min_two_ints (I.ok.hd hc) λh' tk k=>⟨_,H,I.kept k,?_,q⟩
 by_cases hj:j<i
 .rw[Yc hj,Yc hj];exact⟨_,rfl⟩
 .rw[Yb hj,Yb hj];exact⟨_,rfl⟩
theorem Zi6:Zaq X (.type "int") (λxs H Q=>(∃i,xs=[.int i]/\Q (.int i) H)\/∃k,xs=[.bl k]/\Q (.int (if k then 1 else 0)) H):=by
 intro pins s σ H xs us Q I r h
 rcases h with⟨i,rfl,q⟩|⟨k,rfl,q⟩
 .obtain⟨u,rfl,t,rfl⟩:=vals1 r
  exact call_int_int ⟨.int i,H,I,⟨_,rfl⟩,q⟩
 .obtain⟨u,rfl,r1⟩:=vals1 r
  cases r1
  exact call_int_bool ⟨.int (if k then 1 else 0),H,I.tok _,⟨_,rfl⟩,q⟩
theorem Zf9:Zaq X (.type "str") (λxs H Q=>∃i,xs=[.int i]/\i.natAbs.log2<1920/\Q (.str (toString i)) H):=by
 intro pins s σ H xs us Q I r h
 obtain⟨i,rfl,hz,q⟩:=h
 obtain⟨u,rfl,t,rfl⟩:=vals1 r
 exact PySem.P.str_of_int hz ⟨.str _,H,I.tok _,⟨_,rfl⟩,q⟩
end
structure ObjM (h:Heap) (x dx C:Addr) (mA:Str->Option Value):Prop where
 obj:h.get? x=some (PySem.W.instObj C dx)
 ns:h.Ns1 dx mA
 ne:dx≠x
theorem Zi7 {h:Heap}{dx:Addr}{mA:Str->Option Value} (n:h.Ns1 dx mA):∃od,h.get? dx=some od/\∀name,PySem.W.lookIn name od=some (mA name):=by
 obtain⟨o,es,ep,ho,hd,hk,_,hm⟩:=n
 refine⟨o,ho,λname=>?_⟩
 have e:=hm name
 unfold nsFind findBy at e
 rw[<-Array.find?_toList]at e
 unfold PySem.W.lookIn
 rw[hd]
 dsimp only
 split
 .rename_i y q
  rw[q]at e
  exact congrArg some e
 .rename_i q
  rw[q]at e
  have a:es.toList.any (·.refKey)=false:=by
   rw[List.any_eq_false]
   intro y hy
   obtain⟨z,t,hkey⟩:=hk y (Array.mem_toList_iff.mp hy)
   simp[DictEntry.refKey,hkey]
  have a':¬ es.toList.any (·.refKey)=true:=by rw[a];exact Yx
  rw[Yb a']
  exact congrArg some e
theorem ObjM.look {h:Heap}{x dx C:Addr}{mA:Str->Option Value} (I:ObjM h x dx C mA):∃od,PySem.W.InstAt h x (PySem.W.instObj C dx) C (some od)/\∀name,PySem.W.lookIn name od=some (mA name) :=
 let ⟨od,ho,hl⟩:=Zi7 I.ns
 ⟨od,⟨I.obj,rfl,rfl,ho⟩,hl⟩
section
variable {P:Program}{w:World}{H H':Hp}{h h':Heap}{a C dx:Addr}{fs fs':List (Str×V)}
theorem ZiP (hok:HOk P w H h) (e:H a=some (.ins C dx fs)):∃mA,ObjM h a dx C mA/\(∀f,RelO (fs.lookup f) (mA f))/\PySem.Within mA (fs.map (·.1))/\fs.length<=1000/\H dx=some (.own a):=by
 obtain⟨d,z,ne,ob,mA,n,r,q⟩:=(show Z8 P w H h a (.ins C dx fs)from hok a _ e)
 exact⟨mA,⟨ob,n,ne⟩,r,q,z,d⟩
end
structure Cls (K:PySem.W.Frag) (C:Addr):Prop where
 pg:PySem.W.plainGet K C Str.empty=true
 hd:PySem.W.hasDictIn K C=true
 po:PySem.W.plainOver K C=true
 sa:PySem.W.findIn K (.ref C) "__setattr__"=some (some (.builtin "object.__setattr__"))
theorem Cls.get {K:PySem.W.Frag}{C:Addr} (c:Cls K C) (f:Str):PySem.W.plainGet K C f=true:=c.pg
section
variable {X:Cx}{pins:List (Addr×Obj)}{σ:St}{H:Hp}{s:Shared}{A:Around}{E:Value->Shared->Prop}{Q:Value->Shared->Prop}{c:Value}{b:Bool}
inductive TyOf (K:PySem.W.Frag) (H:Hp):V->Value->Prop where
 |non:TyOf K H .non (.type "NoneType")
 |bl (x:Bool):TyOf K H (.bl x) (.type "bool")
 |int (i:Int):TyOf K H (.int i) (.type "int")
 |str (x:Str):TyOf K H (.str x) (.type "str")
 |flt (x:UInt64):TyOf K H (.flt x) (.type "float")
 |lst {a:Addr}{xs:List V} (e:H a=some (.lst xs)):TyOf K H (.ref a) (.type "list")
 |frz {a:Addr}{o:Obj}{xs:List V} (e:H a=some (.frz o (.lst xs))):TyOf K H (.ref a) (.type "list")
 |tup {a:Addr}{xs:List V} (e:H a=some (.tup xs)):TyOf K H (.ref a) (.type "tuple")
 |dK {a:Addr}{kvs:List (Key×V)} (e:H a=some (.dK kvs)):TyOf K H (.ref a) (.type "dict")
 |dT {a:Addr}{kvs:List (List Key×V)} (e:H a=some (.dT kvs)):TyOf K H (.ref a) (.type "dict")
 |ins {a C dx:Addr}{fs:List (Str×V)} (e:H a=some (.ins C dx fs)) (cl:Cls K C) (ha:PySem.W.findIn K (.ref C) "__class__"=some (some (.builtin "object.__class__")))
   (hn:PySem.W.specialIn K (.builtin "object.__class__") "__get__"=some (some (.builtin "getset_descriptor.__get__"))) (htk:PySem.W.takesIn K (.builtin "object.__class__")=some true)
   (hm:PySem.W.mroIn K C (.type "object")=some true):TyOf K H (.ref a) (.ref C)
theorem Zi8 {x:V}{u t:Value} (I:Inv X pins σ H s) (rx:RelV x u) (ty:TyOf X.K H x t) (e:PySem.W.kitOne X.K t c=some b) (h:∀tk,Q (.bool b) {s with toks:=tk}) :
  wpAny (model X.prog X.w) A (call (.builtin "isinstance") [u,c]) Q E s:=by
 cases ty with
 |non=>cases(show u=Value.none from rx);exact PySem.W.kia_one PySem.W.kitx_none I.kIn True.intro e (λz=>nomatch z) h
 |bl y=>cases(show u=Value.bool y from rx);exact PySem.W.kia_one PySem.W.kitx_bool I.kIn True.intro e (λz=>nomatch z) h
 |int i=>obtain⟨t,q⟩:=(show ∃t,u=Value.int i t from rx);cases q;exact PySem.W.kia_one PySem.W.kitx_int I.kIn True.intro e (λz=>nomatch z) h
 |str y=>obtain⟨t,q⟩:=(show ∃t,u=Value.str y t from rx);cases q;exact PySem.W.kia_one PySem.W.kitx_str I.kIn True.intro e (λz=>nomatch z) h
 |flt y=>obtain⟨t,q⟩:=(show ∃t,u=Value.float y t from rx);cases q;exact PySem.W.kia_one PySem.W.kitx_float I.kIn True.intro e (λz=>nomatch z) h
 |@lst a xs ea =>
  cases(show u=Value.ref a from rx)
  obtain⟨_,_,n,_,h1⟩:=(show Z8 X.prog X.w H s.heap a (.lst xs)from I.hok a _ ea)
  exact PySem.W.kia_one PySem.W.kitx_list I.kIn ⟨_,h1,rfl⟩ e (λz=>nomatch z) h
 |@frz a ob xs ea =>
  cases(show u=Value.ref a from rx)
  obtain⟨_,_,_,n,_,h1⟩:=(show Z8 X.prog X.w H s.heap a (.frz ob (.lst xs))from I.hok a _ ea)
  exact PySem.W.kia_one PySem.W.kitx_list I.kIn ⟨_,h1,rfl⟩ e (λz=>nomatch z) h
 |@tup a xs ea =>
  cases(show u=Value.ref a from rx)
  obtain⟨_,_,_,p⟩:=(show Z8 X.prog X.w H s.heap a (.tup xs)from I.hok a _ ea)
  obtain⟨o,h1,h2,_⟩:=p
  exact PySem.W.kia_one PySem.W.kitx_tuple I.kIn ⟨o,h1,h2⟩ e (λz=>nomatch z) h
 |@dK a kvs ea =>
  cases(show u=Value.ref a from rx)
  obtain⟨_,_,vs,_,p⟩:=(show Z8 X.prog X.w H s.heap a (.dK kvs)from I.hok a _ ea)
  obtain⟨o,es,ep,h1,h2,_⟩:=p
  exact PySem.W.kia_one PySem.W.kitx_dict I.kIn ⟨o,h1,h2.1⟩ e (λz=>nomatch z) h
 |@dT a kvs ea =>
  cases(show u=Value.ref a from rx)
  obtain⟨_,_,xs,_,o,es,ep,h1,h2,_⟩:=(show Z8 X.prog X.w H s.heap a (.dT kvs)from I.hok a _ ea)
  exact PySem.W.kia_one PySem.W.kitx_dict I.kIn ⟨o,h1,h2.1⟩ e (λz=>nomatch z) h
 |@ins a C dx fs ea cl ha hn htk hm =>
  cases(show u=Value.ref a from rx)
  obtain⟨mA,O,_⟩:=ZiP I.hok ea
  obtain⟨od,J,_⟩:=O.look
  exact PySem.W.kia_one (PySem.W.kitx_own (cl.get _) cl.hd ha hn htk hm) I.kIn J e (λz=>nomatch z) h
end
structure Room (k:Nat) (A:Around):Prop where
 hd:A.handled=none
 dp:A.depth+3*k+5<recursionLimit
 un:A.units+16*k+200<cLine
theorem Room.mono {j k:Nat}{A:Around} (r:Room k A) (h:j<=k):Room j A:=⟨r.hd,by have:=r.dp;omega,by have:=r.un;omega⟩
theorem Room.deeper {k:Nat}{A:Around} (r:Room (k+1) A) (env:Env):Room k (A.deeper env) :=
 ⟨r.hd,by have:=r.dp;show A.depth+1+3*k+5 < _;omega,by have:=r.un;show A.units+3+16*k+200 < _;omega⟩
theorem Room.depth {k:Nat}{A:Around} (r:Room k A):A.depth<recursionLimit:=by have:=r.dp;omega
noncomputable def tNil:TA:=λ_ H Q=>Q [] H
noncomputable def tCons (ta:TE) (tr:TA):TA:=fun σ H Q=>ta σ H λx H1=>tr σ H1 λxs H2=>Q (x::xs) H2
section
variable {X:Cx}{e:Expr}{es:List Expr}{te:TE}{t:TA}{pos:Pos}
theorem Zb:PA X [] tNil:=λ_ _ _ _ H Q I h=>Calls.spliced_nil ⟨[],H,I,.nil,h⟩
theorem Za (ha:PE X e te) (hr:PA X es t) (hs:starEach (e::es) X.env=(false,eval e X.env)::starEach es X.env:=by rfl):PA X (e::es) (tCons te t):=by
 intro pos pins s σ H Q I h
 rw[hs]
 show wpAny _ _ (spliced ((false,eval e X.env)::backTo pos (starEach es X.env))) _ _ s
 refine Calls.spliced_cons (thn (ha pins s σ H _ I h) λu s1 ⟨x,H1,I1,r1,q1⟩=>?_)
 exact thn (hr pos pins s1 σ H1 _ I1 q1) λus s2 ⟨xs,H2,I2,r2,q2⟩=>⟨x::xs,H2,I2,.cons r1 r2,q2⟩
noncomputable def tTup (t:TA):TE:=fun σ H Q=>t σ H λxs H1=>xs.length<=sizeLine/\∀p,H1 p=none->Q (.ref p) (upd H1 p (.tup xs))
noncomputable def tLst (t:TA):TE:=fun σ H Q=>t σ H λxs H1=>xs.length<=sizeLine/\∀p,H1 p=none->Q (.ref p) (upd H1 p (.lst xs))
theorem Zbc {x1} (h:PA X es t):PE X (.Tuple es x1 pos) (tTup t):=by
 intro pins s σ H Q I hq
 refine wpAny_Tuple_spliced (thn (h pos pins s σ H _ I hq) λus s1 ⟨xs,H1,I1,r,z,q⟩=>⟨by rw[<-r.length];exact z,?_⟩)
 have hf:H1 s1.heap.objs.size=none:=I1.hok.fresh (Yd _)
 refine⟨.ref s1.heap.objs.size,upd H1 s1.heap.objs.size (.tup xs),I1.laid (t':=s1.toks) (λb u e=>Yk _ e) (Yd _) ?_,rfl,q _ hf⟩
 exact⟨z,us,r,⟨_,Yv _ rfl,rfl,_,rfl⟩⟩
theorem ZY (h:PA X es t):PE X (.List es pos) (tLst t):=by
 intro pins s σ H Q I hq
 refine wpAny_List_spliced (thn (h pos pins s σ H _ I hq) λus s1 ⟨xs,H1,I1,r,z,q⟩=>⟨by rw[<-r.length];exact z,?_⟩)
 have hf:H1 s1.heap.objs.size=none:=I1.hok.fresh (Yd _)
 refine⟨.ref s1.heap.objs.size,upd H1 s1.heap.objs.size (.lst xs),I1.laid (t':=s1.toks) (λb u e=>Yk _ e) (Yd _) ?_,rfl,q _ hf⟩
 exact⟨z,us,0,r,Yv _ rfl⟩
end
noncomputable abbrev Sp:=List V->Hp->VK->XK->Prop
noncomputable abbrev CXT:=List Env->Hp->Shared->XK->Value->Shared->Prop
structure Env0 (P:Program) (w:World) (K:PySem.W.Frag) (mg:Str->Option Value) (base:Heap) (A:Around) (outer:List Env) (s:Shared) (H:Hp):Prop where
 frames:A.frames=some outer
 mod:Mod K mg base
 bs:∀b o,base.get? b=some o->s.heap.get? b=some o/\H b=none
 bsz:base.objs.size<=s.heap.objs.size
 funs:s.heap.FunFrames base outer
 frf:∀b∈frs outer,H b=none
 hok:HOk P w H s.heap
 bare:AllBare s.gens
noncomputable def CE (outer:List Env) (P:Program) (w:World) (H:Hp) (s:Shared) (Q:VK) (u:Value) (s':Shared):Prop :=
 ∃v H',s'.os=s.os/\AllBare s'.gens/\Un (frs outer) [] H H' s.heap s'.heap/\HOk P w H' s'.heap/\RelV v u/\Q v H'
noncomputable def CR (CX:CXT) (outer:List Env) (P:Program) (w:World) (H:Hp) (s:Shared) (Q:VK) (E:XK) (r:Result) (s':Shared):Prop :=
 match r with
 |.ok (.ret u)=>CE outer P w H s Q u s'
 |.ok _=>False
 |.error e=>CX outer H s E e s'
structure FnOk (P:Program) (w:World) (K:PySem.W.Frag) (mg:Str->Option Value) (base:Heap) (CX:CXT) (k:Nat) (f:Addr) (fd:FuncData) (ps:List Str) (sp:Sp):Prop where
 len:∀vs H Q E,sp vs H Q E->vs.length=ps.length
 run:∀(A:Around) (outer:List Env) (s:Shared) (H:Hp) (args:Args) (us:List Value) (vs:List V) (Q:VK) (E:XK),Room k A->Env0 P w K mg base A outer s H->BindsTo s fd args (ps.zip us)->Vals vs us->sp vs H Q E ->
  codeAny (model P w) A (.call (.ref f) args) (CR CX outer P w H s Q E) s
section
variable {X:Cx}{pins:List (Addr×Obj)}{σ:St}{H:Hp}{s s':Shared}
theorem Inv.env0 (I:Inv X pins σ H s):Env0 X.prog X.w X.K X.mg X.base X.A X.stack s H :=
 ⟨I.ok.frames,I.ok.mod,I.bs,Yf I.ok.bsz I.sz,I.stack,I.Zc3,I.hok,I.bare⟩
theorem Inv.after {Q:VK}{u:Value} (I:Inv X pins σ H s) (h:CE X.stack X.prog X.w H s Q u s'):EP X pins σ Q u s':=by
 obtain⟨v,H',os,bare,un,hok,r,q⟩:=h
 obtain⟨hh,g,d,t,os'⟩:=s'
 obtain rfl:os'=s.os:=os
 exact⟨v,H',I.call (h':=hh) (g':=g) (d':=d) (t':=t) (ch:=[]) un hok bare (λb z=>absurd z (by simp)),r,q⟩
end
noncomputable def tCall (sp:Sp) (dvs:List V) (E:XK) (t:TA):TE:=fun σ H Q=>t σ H λvs H1=>sp (vs++dvs) H1 Q E
noncomputable def Binds (K:PySem.W.Frag) (fd:FuncData) (ps:List Str) (ds:List Value):Prop :=
 ∀(s:Shared) (us:List Value),K.In s.heap->(us++ds).length=ps.length->BindsTo s fd ⟨us,[]⟩ (ps.zip (us++ds))
theorem Binds.all {K:PySem.W.Frag}{fd:FuncData}{ps:List Str} (h:∀us:List Value,us.length=ps.length->bindArgs fd ⟨us,[]⟩=pure (ps.zip us)):Binds K fd ps []:=λs us _ hl=>by
 rw[List.append_nil]at hl⊢
 exact .of_eq (h us hl)
noncomputable def Passes (CX:CXT) (X:Cx) (E:XK):Prop:=∀(pins:List (Addr×Obj)) (σ:St) (H:Hp) (s:Shared) (e:Value) (s':Shared),Inv X pins σ H s->CX X.stack H s E e s'->X.xe e s'
section
variable {X:Cx}{CX:CXT}{k:Nat}{f C:Addr}{fd:FuncData}{ps:List Str}{sp:Sp}{dvs:List V}{ds:List Value}{E:XK}{x m:Str}{p pos apos:Pos}{e o:Expr}{es:List Expr}{ta:TE}{t:TA}
theorem run_fn {pins:List (Addr×Obj)}{σ:St}{H:Hp}{s:Shared}{Q:VK}{us:List Value}{vs:List V} (F:FnOk X.prog X.w X.K X.mg X.base CX k f fd ps sp) (hr:Room k X.A) (hb:Binds X.K fd ps ds) (hd:Vals dvs ds) (hx:Passes CX X E)
  (I:Inv X pins σ H s) (r:Vals vs us) (h:sp (vs++dvs) H Q E):wpAny (model X.prog X.w) X.A (call (.ref f) us) (EP X pins σ Q) X.xe s:=by
 have r2:Vals (vs++dvs) (us++ds):=r.append hd
 have hl:(us++ds).length=ps.length:=by rw[<-r2.length];exact F.len _ _ _ _ h
 refine wpAny_call (codeAny_mono (F.run X.A X.stack s H ⟨us,[]⟩ (us++ds) (vs++dvs) Q E hr I.env0 (hb s us I.kIn hl) r2 h) λr s' hq=>?_)
 cases r with
 |error e=>exact hx pins σ H s e s' I hq
 |ok fl =>
  cases fl with
  |ret u=>exact I.after hq
  |next=>exact False.elim hq
  |brk=>exact False.elim hq
  |cont=>exact False.elim hq
theorem ZkF (F:FnOk X.prog X.w X.K X.mg X.base CX k f fd ps sp) (hr:Room k X.A) (hg:Gl X x) (hm:X.mg x=some (.ref f)) (hk:PySem.W.keepIn X.K (.ref f)=true) (hb:Binds X.K fd ps ds) (hd:Vals dvs ds) (hx:Passes CX X E)
  (ha:PA X (e::es) t) (hdb:(x==("__debug__":Str))=false:=by decide) (he:starEach (e::es) X.env=(false,eval e X.env)::starEach es X.env:=by rfl) (hpl:(backTo pos (starEach es X.env)).any (·.1)=false:=by rfl) :
  PE X (.Call (.Name x p) (e::es) [] pos) (tCall sp dvs E t):=by
 intro pins s σ H Q I h
 refine wpAny_Call_Name_kw (Zbu I hg hm ?_ hdb)
 refine PySem.W.callWith_K (h₀:=X.base) I.ok.mod.kin hk (thn (ha pos pins s σ H _ I h) λus s1 ⟨vs,H1,I1,r,q⟩=>⟨I1.kIn,?_⟩) he hpl
 exact run_fn F hr hb hd hx I1 r q
end
noncomputable def PK (X:Cx) (kws:List Keyword) (t:TA):Prop :=
 ∀(pos:Pos) (pins:List (Addr×Obj)) (s:Shared) (σ:St) (H:Hp) (Q:List V->Hp->Prop),Inv X pins σ H s->t σ H Q->wpAny (model X.prog X.w) X.A (evalAll ((backToKw pos (keywordEach kws X.env)).map (·.2))) (AP X pins σ Q) X.xe s
section
variable {X:Cx}{CX:CXT}{k:Nat}{f C:Addr}{fd:FuncData}{ps ks:List Str}{sp:Sp}{E:XK}{x m:Str}{p pos apos kpos:Pos}{e o:Expr}{es:List Expr}{kws:List Keyword}{te ta:TE}{t tk:TA}{nm:Option Str}
theorem ZjN:PK X [] tNil:=λ_ _ _ _ H Q I h=>wpAny_evalAll_nil ⟨[],H,I,.nil,h⟩
theorem ZiQ (ha:PE X e te) (hr:PK X kws t):PK X (⟨nm,e,kpos⟩::kws) (tCons te t):=by
 intro pos pins s σ H Q I h
 show wpAny _ _ (evalAll ((do let v <-eval e X.env;standAt pos;pure v)::(backToKw pos (keywordEach kws X.env)).map (·.2))) _ _ s
 refine wpAny_evalAll_cons (Ya (thn (ha pins s σ H _ I h) λu s1 ⟨x,H1,I1,r1,q1⟩=>Ya (wpAny_standAt (Ye ?_))))
 exact thn (hr pos pins s1 σ H1 _ I1 q1) λus s2 ⟨xs,H2,I2,r2,q2⟩=>⟨x::xs,H2,I2,.cons r1 r2,q2⟩
variable {g:List Value->List Value->List Value}{gV:List V->List V->List V}
end
structure FnScope (N P:List Str) (sc:Scope):Prop where
 kind:sc.kind=.function
 co:sc.isCoroutine=false
 gen:sc.isGenerator=false
 nd:N.Nodup
 pre:N.take P.length=P
 par:∀x∈P,sc.names.lookup x=some .local\/sc.names.lookup x=some .cell
 nofree:∀y∈sc.names,y.2≠.free
theorem ZfD {kindOf:Str->Option NameKind}{x:Str}:∀{binds:List (Str×Value)}{m:Str->Option Value},(∀v,(x,v)∉binds)->bindL kindOf binds m x=m x
 |[],_,_=>rfl
 |(n,v)::r,m,h=>by
  unfold bindL
  rw[ZfD λw hw=>h w (YW _ hw)]
  split
  .have:x≠n:=by rintro rfl;exact h v Y4
   simp[this]
  .rfl
theorem ZfE {kindOf:Str->Option NameKind}{x:Str}:∀{binds:List (Str×Value)}{m:Str->Option Value},(∀v,(x,v)∉binds)->bindC kindOf binds m x=m x
 |[],_,_=>rfl
 |(n,v)::r,m,h=>by
  unfold bindC
  rw[ZfE λw hw=>h w (YW _ hw)]
  split
  .rfl
  .have:x≠n:=by rintro rfl;exact h v Y4
   simp[this]
theorem ZfF {kindOf:Str->Option NameKind}{x:Str}{v:Value}:∀{P:List Str}{vs:List Value}{i:Nat}{m:Str->Option Value},P.Nodup->P[i]?=some x->vs[i]?=some v->kindOf x=some .local ->
  bindL kindOf (P.zip vs) m x=some v
 |[],_,_,_,_,h,_,_=>by simp at h
 |_::_,[],_,_,_,_,h,_=>by simp at h
 |p::P,w::vs,0,m,nd,h1,h2,hk=>by
  simp at h1 h2;subst h1;subst h2
  show bindL kindOf ((p,w)::P.zip vs) m p=_
  unfold bindL
  rw[ZfD λv hv=>(List.nodup_cons.mp nd).1 (List.of_mem_zip hv).1,Yc hk]
  simp
 |p::P,w::vs,i+1,m,nd,h1,h2,hk=>by
  show bindL kindOf ((p,w)::P.zip vs) m x=_
  unfold bindL
  exact ZfF (i:=i) (List.nodup_cons.mp nd).2 (by simpa using h1) (by simpa using h2) hk
theorem ZfG {kindOf:Str->Option NameKind}{x:Str}{v:Value}:∀{P:List Str}{vs:List Value}{i:Nat}{m:Str->Option Value},P.Nodup->P[i]?=some x->vs[i]?=some v->kindOf x≠some .local ->
  bindC kindOf (P.zip vs) m x=some v
 |[],_,_,_,_,h,_,_=>by simp at h
 |_::_,[],_,_,_,_,h,_=>by simp at h
 |p::P,w::vs,0,m,nd,h1,h2,hk=>by
  simp at h1 h2;subst h1;subst h2
  show bindC kindOf ((p,w)::P.zip vs) m p=_
  unfold bindC
  rw[ZfE λv hv=>(List.nodup_cons.mp nd).1 (List.of_mem_zip hv).1,Yb hk]
  simp
 |p::P,w::vs,i+1,m,nd,h1,h2,hk=>by
  show bindC kindOf ((p,w)::P.zip vs) m x=_
  unfold bindC
  exact ZfG (i:=i) (List.nodup_cons.mp nd).2 (by simpa using h1) (by simpa using h2) hk
noncomputable def start (N:List Str) (vs:List V):St:=vs.map some++List.replicate (N.length-vs.length) none
noncomputable def Zbx (CX:CXT) (P:Program) (w:World) (K:PySem.W.Frag) (mg:Str->Option Value) (base:Heap) (N:List Str) (qual:Str) (scope:Scope) (f:Addr) (cd:Value) (A:Around) (outer:List Env) (s:Shared) (H:Hp) (E:XK):Cx where
 prog:=P
 w:=w
 K:=K
 mg:=mg
 base:=base
 A:=A.deeper (envOfC qual scope s.heap.objs.size f cd)
 N:=N
 s₀:=s
 H₀:=H
 env:=envOfC qual scope s.heap.objs.size f cd
 outer:=outer
 stack:=envOfC qual scope s.heap.objs.size f cd::outer
 ex:=[]
 calm:=true
 fn:=λ_=>true
 pn:=[]
 xe:=λe s'=>wpAny (model P w) (A.deeper (envOfC qual scope s.heap.objs.size f cd)) (leaving (envOfC qual scope s.heap.objs.size f cd) e) (λ_ s''=>CX outer H s E e s'') (λe' s''=>CX outer H s E e' s'') s'
theorem Zg3 {sc:Scope}{n:Nat}{x:Str} (h:sc.names.lookup x=some .cell):∃c,(cellsFrom n sc.names []).lookup x=some c:=by
 have q:=PySem.W.cellsFrom_some sc.names n [] (.inl h)
 exact Option.isSome_iff_exists.mp q
theorem Zi9 {CX:CXT}{P:Program}{w:World}{K:PySem.W.Frag}{mg:Str->Option Value}{base:Heap}{N ps:List Str}{qual:Str}{scope:Scope}{f:Addr}{cd:Value}{A:Around}{outer:List Env}{s s1:Shared}{H:Hp}{E:XK}{us:List Value}{vs:List V}
  (S:FnScope N ps scope) (hd:A.handled=none) (e0:Env0 P w K mg base A outer s H) (hl:vs.length=ps.length) (r:Vals vs us)
  (x:InCallC s s.heap.objs.size (bindL (envOfC qual scope s.heap.objs.size f cd).kindOf (ps.zip us) λ_=>none) (cellsFrom (s.heap.objs.size+1) scope.names []) (bindC (envOfC qual scope s.heap.objs.size f cd).kindOf (ps.zip us) λ_=>none) s1) :
  Inv (Zbx CX P w K mg base N qual scope f cd A outer s H E) [] (start N vs) H s1:=by
 have hpl:ps.length<=N.length:=by have:=congrArg List.length S.pre;rw[YX]at this;omega
 obtain⟨h1,tk,rfl,hk⟩:=x.done
 have noA:∀b:Addr,b∉(Zbx CX P w K mg base N qual scope f cd A outer s H E).ex:=λb z=>absurd (show b∈([]:List Addr)from z) (by simp)
 refine⟨⟨e0.mod,S.kind,rfl,rfl,Yd _,λy z c h1 h2=>?_,λy hy=>?_,λy c _ h=>?_,λ_=>hd,Around.frames_deeper e0.frames,.inr ⟨rfl,rfl⟩,λb z=>absurd z (noA b),e0.bs,e0.bsz,λb _ _=>noA b,λb z=>absurd z (noA b),e0.funs,e0.frf⟩,
  rfl,e0.bare,Un.kept hk,⟨_,x.toInCall.ns,λi y v h1 h2 h3=>?_⟩,λy c h=>⟨_,x.cell y c h⟩,e0.hok.fresh (Yd _),λy c h=>?_,λp hp=>absurd (show p∈([]:List (Addr×Obj))from hp) (by simp),e0.hok.kept hk,?_⟩
 .exact name_of_addr x.apart (PySem.mem_of_lookup h1) (PySem.mem_of_lookup h2)
 .have hy:scope.names.lookup y=some .cell\/scope.names.lookup y=some .free:=hy
  rcases hy with hy|hy
  .exact Zg3 hy
  .exact absurd rfl (S.nofree _ (PySem.mem_of_lookup hy))
 .exact YS (x.above y c (PySem.mem_of_lookup h))
 .have hi:i<vs.length:=by
   unfold start at h2
   by_cases hi:i<vs.length
   .exact hi
   .rw[YY (by simpa using hi)]at h2
    rw[List.getElem?_replicate]at h2
    split at h2<;>cases h2
  have ha:vs[i]?=some v:=by
   unfold start at h2
   rw[Y1 (by simpa using hi),YH]at h2
   cases e:vs[i]? with
   |none=>rw[e]at h2;cases h2
   |some a=>rw[e]at h2;cases h2;rfl
  obtain⟨u,hu,rv⟩:=r.get ha
  have hp:ps[i]?=some y:=by
   rw[<-S.pre,List.getElem?_take_of_lt ⋯];exact h1
  have ndP:ps.Nodup:=by rw[<-S.pre];exact S.nd.sublist (List.take_sublist _ _)
  refine⟨u,rv,?_⟩
  rcases S.par y (List.mem_of_getElem? hp)with k|k
  .exact .inl ⟨k,ZfF ndP hp hu k⟩
  .obtain⟨c,e⟩:=Zg3 (n:=s.heap.objs.size+1) k
   refine .inr ⟨.inl k,c,e,?_⟩
   have q:=x.cell y c e
   rw[ZfG ndP hp hu (by show scope.names.lookup y≠_;rw[k];decide)]at q
   exact q
 .exact e0.hok.fresh (YS (x.above y c (PySem.mem_of_lookup h)))
 .unfold start
  show _=N.length
  rw[Yn,Yj,List.length_replicate]
  omega
theorem fn_of {CX:CXT}{P:Program}{w:World}{K:PySem.W.Frag}{mg:Str->Option Value}{base:Heap}{k:Nat}{f:Addr}{name qual:Str}{params:Arguments}{body:List Stmt}{scope:Scope}{dV kV doc pm cdv ct oc:Value}{an od:Option Addr}
  {osl:Array (Option Value)}{N ps:List Str}{sp:Sp} (lk:K.lookup f=some ⟨oc,od,.func (PySem.W.fnOf name qual params body scope dV kV doc pm an cdv ct),osl⟩) (hcd:PySem.W.codeIn K cdv qual=true) (S:FnScope N ps scope)
  (len:∀vs H Q E,sp vs H Q E->vs.length=ps.length)
  (hbody:∀(A:Around) (outer:List Env) (s:Shared) (H:Hp) (vs:List V) (Q:VK) (E:XK),Room k (A.deeper (envOfC qual scope s.heap.objs.size f cdv))->sp vs H Q E ->
   ∃t,PSs (Zbx CX P w K mg base N qual scope f cdv A outer s H E) body t/\t {nx:=λ_ H'=>Q .non H',rt:=Q} (start N vs) H) :
  FnOk P w K mg base CX (k+1) f (PySem.W.fnOf name qual params body scope dV kV doc pm an cdv ct) ps sp:=by
 refine⟨len,λA outer s H args us vs Q E hr e0 hb r hsp=>?_⟩
 have hl:=len _ _ _ _ hsp
 have KX:K.In s.heap:=e0.mod.kin.keeps λb o e=>(e0.bs b o e).1
 have lim:s.heap.NoLimit:=e0.mod.nolimit.keeps λb o e=>(e0.bs b o e).1
 have hkind:∀y∈ps.zip us,scope.names.lookup y.1=some .local\/(scope.names.lookup y.1=some .cell/\((cellsFrom (s.heap.objs.size+1) scope.names []).lookup y.1).isSome=true):=λ⟨n,v⟩ hy=>by
  rcases S.par n (List.of_mem_zip hy).1 with q|q
  .exact .inl q
  .exact .inr ⟨q,PySem.W.cellsFrom_some _ _ _ (.inl q)⟩
 refine codeAny_call_function hr.depth (KX _ _ lk) rfl S.co S.gen rfl (PySem.W.codeRec_of KX hcd) (hb _ _ _ _ ?_)
 refine wpAny_newFunctionEnv_cells S.kind hkind λenv he s1 x=>?_
 subst he
 refine⟨lim.keeps x.toInCall.keep,codeAny_func ?_⟩
 obtain⟨t,ht,hq⟩:=hbody A outer s H vs Q E (hr.deeper _) hsp
 have I:Inv (Zbx CX P w K mg base N qual scope f cdv A outer s H E) [] (start N vs) H s1:=Zi9 S hr.hd e0 hl r x
 refine Yw (ht [] s1 (start N vs) H _ I hq) (λfl s' hs=>?_) λe s' hs=>hs
 have fin:∀{σ':St}{H':Hp}{v:V}{u:Value},Inv (Zbx CX P w K mg base N qual scope f cdv A outer s H E) [] σ' H' s'->RelV v u->Q v H'->CE outer P w H s Q u s' :=
  λ{σ' H' v u} J rv q=>⟨v,H',J.os,J.bare,J.base,J.hok,rv,q⟩
 cases fl with
 |ret u =>
  obtain⟨v,σ',H',J,rv,q⟩:=hs
  exact fin J rv q
 |next =>
  obtain⟨σ',H',J,q⟩:=hs
  exact fin (v:=V.non) (u:=Value.none) J rfl q
 |brk =>
  obtain⟨_,_,_,q⟩:=hs
  exact False.elim q
 |cont =>
  obtain⟨_,_,_,q⟩:=hs
  exact False.elim q
section
variable {X:Cx}{x:Str}{p pos:Pos}{e:Expr}{es:List Expr}{t:TA}{id T:String}{r:List V->Hp->VK->Prop}
noncomputable def tCB (r:List V->Hp->VK->Prop) (t:TA):TE:=fun σ H Q=>t σ H λvs H1=>r vs H1 Q
theorem Zg (hc:Zaq X (.builtin id) r) (hg:Gl X x) (hm:X.mg x=none) (hv:bootBuiltins x=some (.builtin id)) (ha:PA X (e::es) t) (hn:x≠"__name__":=by decide) (hdb:(x==("__debug__":Str))=false:=by decide)
  (he:starEach (e::es) X.env=(false,eval e X.env)::starEach es X.env:=by rfl) (hpl:(backTo pos (starEach es X.env)).any (·.1)=false:=by rfl):PE X (.Call (.Name x p) (e::es) [] pos) (tCB r t):=by
 intro pins s σ H Q I h
 refine wpAny_Call_Name_kw (Zb0 I hg hm hv ?_ hn hdb)
 exact PyProof.Rows.callWith_builtin1 (thn (ha pos pins s σ H _ I h) λus s1 ⟨vs,H1,I1,r1,q1⟩=>hc pins s1 σ H1 vs us Q I1 r1 q1) he hpl
theorem Zz (hc:Zaq X (.type T) r) (hg:Gl X x) (hm:X.mg x=none) (hv:bootBuiltins x=some (.type T)) (ha:PA X (e::es) t) (hn:x≠"__name__":=by decide) (hdb:(x==("__debug__":Str))=false:=by decide)
  (he:starEach (e::es) X.env=(false,eval e X.env)::starEach es X.env:=by rfl) (hpl:(backTo pos (starEach es X.env)).any (·.1)=false:=by rfl):PE X (.Call (.Name x p) (e::es) [] pos) (tCB r t):=by
 intro pins s σ H Q I h
 refine wpAny_Call_Name_kw (Zb0 I hg hm hv ?_ hn hdb)
 exact PyProof.Rows.callWith_type1 (thn (ha pos pins s σ H _ I h) λus s1 ⟨vs,H1,I1,r1,q1⟩=>hc pins s1 σ H1 vs us Q I1 r1 q1) he hpl
end
end Lake
namespace HT
open PySem PyProof.Rows
section
open PySem.SeqAt
open PySem.AutoSeq1 (wpAny_loadPart')
open PySem.MeetsSeq PySem.MeetsSeq2 PySem.MeetsSeq3
end
end HT
namespace Lake
open PySem PySem.Spec PyProof.Rows
noncomputable abbrev TO:=St->Hp->(Option Int->Hp->Prop)->Prop
noncomputable def PO (X:Cx) (e:Option Expr) (t:TO):Prop :=
 ∀(pins:List (Addr×Obj)) (s:Shared) (σ:St) (H:Hp) (Q:Option Int->Hp->Prop),Inv X pins σ H s->t σ H Q ->
  wpAny (model X.prog X.w) X.A (evalPart e X.env) (λu s'=>∃o H',Inv X pins σ H' s'/\IsPart u o/\Q o H') X.xe s
noncomputable def tNoPart:TO:=λ_ H Q=>Q none H
noncomputable def tPart (t:TE):TO:=fun σ H Q=>t σ H λx H1=>∃i,x=.int i/\Q (some i) H1
section
variable {X:Cx}{e:Expr}{te:TE}{lo hi:Option Expr}{tl th:TO}{pos p2:Pos}
theorem Za7:PO X none tNoPart:=by
 intro pins s σ H Q I h
 rw[evalPart_none]
 exact Ye ⟨none,H,I,.none,h⟩
theorem Za8 (h:PE X e te):PO X (some e) (tPart te):=by
 intro pins s σ H Q I hw
 rw[evalPart_some]
 refine thn (h pins s σ H _ I hw) λu s1 ⟨x,H1,I1,r1,q1⟩=>?_
 obtain⟨i,rfl,q⟩:=q1
 obtain⟨t,rfl⟩:=r1
 exact⟨some i,H1,I1,.int i t,q⟩
noncomputable def SlR (X:Cx) (r:V->Option Int->Option Int->Hp->VK->Prop):Prop :=
 ∀(pins:List (Addr×Obj)) (s:Shared) (σ:St) (H:Hp) (x:V) (v vl vu:Value) (lo hi:Option Int) (sl:Addr) (Q:VK),Inv X pins σ H s->RelV x v->s.heap.IsSliceOf sl vl vu .none->IsPart vl lo->IsPart vu hi->r x lo hi H Q ->
  ∃T id,typeLookup (.type T) "__getitem__"=pure (some (.builtin id))/\s.TypeIs v T/\wpAny (model X.prog X.w) X.A (getItem v (.ref sl)) (EP X pins σ Q) X.xe s
noncomputable def tSl (r:V->Option Int->Option Int->Hp->VK->Prop) (te:TE) (tl th:TO):TE:=fun σ H Q=>te σ H λx H1=>tl σ H1 λl H2=>th σ H2 λu H3=>r x l u H3 Q
theorem ZaK {r:V->Option Int->Option Int->Hp->VK->Prop} (hr:SlR X r) (he:PE X e te) (hl:PO X lo tl) (hu:PO X hi th):PE X (.Subscript e (.Slice lo hi none p2) pos) (tSl r te tl th):=by
 intro pins s σ H Q I h
 refine Subscript_ (thn (he pins s σ H _ I h) λv s1 ⟨x,H1,I1,r1,q1⟩=>?_)
 refine wpAny_Slice (thn (hl pins s1 σ H1 _ I1 q1) λvl s2 ⟨l,H2,I2,pl,q2⟩=>thn (hu pins s2 σ H2 _ I2 q2) λvu s3 ⟨u,H3,I3,pu,q3⟩=>?_)
 rw[evalPart_none]
 refine Ye ?_
 have I4:Inv X pins σ H3 {s3 with heap:=s3.heap.push {cls:=.type "slice",data:=.fields #[vl,vu,.none]}}:=I3.kept (t':=s3.toks) λb ob q=>Yk _ q
 obtain⟨T,id,hT,ht,hg⟩:=hr pins {s3 with heap:=s3.heap.push {cls:=.type "slice",data:=.fields #[vl,vu,.none]}} σ H3 x v vl vu l u s3.heap.objs.size Q I4 r1 (Heap.IsSliceOf.new ..) pl pu q3
 show wpAny (model X.prog X.w) X.A (subscriptTail e (.Slice lo hi none p2) v (.ref s3.heap.objs.size)) (EP X pins σ Q) X.xe {s3 with heap:=s3.heap.push {cls:=.type "slice",data:=.fields #[vl,vu,.none]}}
 exact tail_any (ops:=[.ref s3.heap.objs.size,v]) ht hT hg (by with_unfolding_all rfl)
end
noncomputable def ixN (n:Nat) (i:Int):Option Nat:=if 0<=i then (if i<n then some i.toNat else none)else if -(n:Int)<=i then some (i+n).toNat else none
noncomputable def atI {α:Type} (xs:List α) (i:Int):Option α:=(ixN xs.length i).bind λj=>xs[j]?
theorem ZiR {n:Nat}{i:Int}{j:Nat} (h:ixN n i=some j):seqIndex? i n=some j/\j<n/\-(n:Int)<=i/\i<n:=by
 unfold ixN at h
 by_cases h0:0<=i
 .rw[Yc h0]at h
  by_cases h1:i<n
  .rw[Yc h1]at h
   have e:i.toNat=j:=Yz h
   exact⟨by rw[seqIndex_of h0 h1,e],⋯,⋯,h1⟩
  .rw[Yb h1]at h;cases h
 .rw[Yb h0]at h
  by_cases h1:-(n:Int)<=i
  .rw[Yc h1]at h
   have e:(i+n).toNat=j:=Yz h
   exact⟨by rw[seqIndex_neg ⋯ h1,e],⋯,h1,⋯⟩
  .rw[Yb h1]at h;cases h
theorem Zet {α:Type}{xs:List α}{i:Int}{v:α} (h:atI xs i=some v):∃j,seqIndex? i xs.length=some j/\xs[j]?=some v/\j<xs.length/\-(xs.length:Int)<=i/\i<xs.length:=by
 unfold atI at h
 cases e:ixN xs.length i with
 |none=>rw[e]at h;cases h
 |some j =>
  rw[e]at h
  obtain⟨h1,h2,h3,h4⟩:=ZiR e
  exact⟨j,h1,h,h2,h3,h4⟩
theorem Zeu {α:Type}{xs:List α}{j:Nat}{v:α} (h:xs[j]?=some v):atI xs (j:Int)=some v:=by
 have hj:j<xs.length:=(Yu.mp h).1
 have e:ixN xs.length (j:Int)=some j:=by
  unfold ixN
  rw[Yc ⋯,Yc ⋯];simp
 unfold atI;rw[e];exact h
noncomputable def ZkG (b:Expr):Prop:=∀o i,subscripted b false o i=operate [o,i] (getItem o i)
noncomputable def IxR (X:Cx) (r:R2):Prop :=
 ∀(value slice:Expr) (pins:List (Addr×Obj)) (s:Shared) (σ:St) (H:Hp) (x y:V) (v u:Value) (Q:VK),Inv X pins σ H s->RelV x v->RelV y u->r x y H Q ->
  subscripted slice false v u=operate [v,u] (getItem v u)->wpAny (model X.prog X.w) X.A (subscriptTail value slice v u) (EP X pins σ Q) X.xe s
noncomputable def MtR (X:Cx) (id:String) (r:V->List V->Hp->VK->Prop):Prop :=
 ∀(pins:List (Addr×Obj)) (s:Shared) (σ:St) (H:Hp) (x:V) (xs:List V) (v:Value) (us:List Value) (Q:VK),Inv X pins σ H s->RelV x v->Vals xs us->r x xs H Q ->
  wpAny (model X.prog X.w) X.A (call (.builtin id) (v::us)) (EP X pins σ Q) X.xe s
section
variable {X:Cx}{a b:Expr}{ta tb:TE}{pos:Pos}
theorem IxR.or {r r':R2} (h:IxR X r) (h':IxR X r'):IxR X (λx y H Q=>r x y H Q\/r' x y H Q):=by
 intro value slice pins s σ H x y v u Q I rx ry q hs
 rcases q with q|q
 .exact h value slice pins s σ H x y v u Q I rx ry q hs
 .exact h' value slice pins s σ H x y v u Q I rx ry q hs
theorem Z2 {r:R2} (hr:IxR X r) (ha:PE X a ta) (hb:PE X b tb) (hs:ZkG b):PE X (.Subscript a b pos) (tOp r ta tb):=by
 intro pins s σ H Q I h
 exact Subscript_ (binT ha hb I h λv u s2 x y H2 I2 rx ry q=>hr a b pins s2 σ H2 x y v u Q I2 rx ry q (hs _ _))
noncomputable def rIxL (K:PySem.W.Frag):R2:=λx y H Q=>∃p xs i v,x=.ref p/\y=.int i/\SqL K H p xs/\atI xs i=some v/\Q v H
noncomputable def rIxT (K:PySem.W.Frag):R2:=λx y H Q=>∃p xs i v,x=.ref p/\y=.int i/\SqT K H p xs/\atI xs i=some v/\Q v H
noncomputable def rIxS:R2:=λx y H Q=>∃z i c,x=.str z/\y=.int i/\z.length<=sizeLine/\atI z.cps.toList i=some c/\Q (.str ⟨#[c]⟩) H
theorem Z6:IxR X (rIxL X.K):=by
 intro value slice pins s σ H x y v u Q I rx ry h hs
 obtain⟨p,xs,i,z,rfl,rfl,hq,he,q⟩:=h
 cases rx
 obtain⟨t,rfl⟩:=ry
 obtain⟨its,r,pl,hz⟩:=I.list hq
 obtain⟨j,h1,h2,h3,h4,h5⟩:=Zet he
 obtain⟨w,ew,rw'⟩:=r.get h2
 have hl:=r.length
 have hn:=Zb6
 have fin:EP X pins σ Q w s:=⟨z,H,I,rw',q⟩
 by_cases h0:0<=i
 .have hj:i.toNat=j:=by
   rw[seqIndex_of h0 h5]at h1
   exact Yz h1
  exact item_listR pl.isList h0 ⋯ (by rw[hj];simpa using ew) fin hs
 .have hj:(i+(its.toArray.size:Int)).toNat=j:=by
   rw[seqIndex_neg ⋯ h4]at h1
   rw[Yr,<-hl]
   exact Yz h1
  exact subscriptTail_builtinR (x:=w) pl.isList.typeIs slot_list_getitem.lookup
   (wpAny_getItem_list_neg (Q:=λr s'=>r=w/\EP X pins σ Q r s') pl.isList ⋯ (by rw[Yr]<;>omega) ⋯ (by rw[hj];simpa using ew) ⟨rfl,fin⟩) hs
theorem Zb7:IxR X (rIxT X.K):=by
 intro value slice pins s σ H x y v u Q I rx ry h hs
 obtain⟨p,xs,i,z,rfl,rfl,hq,he,q⟩:=h
 cases rx
 obtain⟨t,rfl⟩:=ry
 obtain⟨its,r,pl,hz⟩:=I.tuple hq
 obtain⟨j,h1,h2,h3,h4,h5⟩:=Zet he
 obtain⟨w,ew,rw'⟩:=r.get h2
 have hl:=r.length
 have hn:=Zb6
 have fin:EP X pins σ Q w s:=⟨z,H,I,rw',q⟩
 exact subscriptTail_builtinR (x:=w) pl.typeIs slot_tuple_getitem.lookup
  (getItem_tuple (j:=j) (Q:=λr s'=>r=w/\EP X pins σ Q r s') pl ⋯ ⋯ (by rw[Yr,<-hl];exact h1) (by simpa using ew) ⟨rfl,fin⟩) hs
theorem ZhT:IxR X rIxS:=by
 intro value slice pins s σ H x y v u Q I rx ry h hs
 obtain⟨z,i,c,rfl,rfl,hz,he,q⟩:=h
 obtain⟨t,rfl⟩:=rx
 obtain⟨t',rfl⟩:=ry
 obtain⟨j,h1,h2,h3,h4,h5⟩:=Zet he
 have hl:z.cps.toList.length=z.length:=by simp[Str.length]
 rw[hl]at h1 h4 h5
 have hn:=Zb6
 exact tail_any (typeIs_str s z t) slot_str_getitem.lookup (getItem_str (c:=c) (by
  have e1:decide (i < -(2 ^ 63:Int))=false:=YJ ⋯
  have e2:decide (i ≥ 2 ^ 63)=false:=YJ ⋯
  rw[e1,e2,Bool.or_false]) (by rw[h1];simpa using h2) ⟨.str ⟨#[c]⟩,H,I.tok _,⟨_,rfl⟩,q⟩) hs
theorem ZhU (its:List Value) (n j:Nat) (u:Value):Obj.mapSeq (·.setIfInBounds j u) {cls:=.type "list",data:=.seq its.toArray n}={cls:=.type "list",data:=.seq (its.set j u).toArray n}:=by
 simp[Obj.mapSeq]
theorem Inv.lst {pins:List (Addr×Obj)}{σ:St}{H:Hp}{s:Shared}{p:Addr}{xs:List V} (I:Inv X pins σ H s) (h:H p=some (.lst xs)) :
  ∃(its:List Value) (n:Nat),Vals xs its/\s.heap.get? p=some {cls:=.type "list",data:=.seq its.toArray n}/\xs.length<=sizeLine:=by
 obtain⟨z,its,n,r,e⟩:=I.hok p _ h
 exact⟨its,n,r,e,z⟩
theorem Inv.lstUpd {pins:List (Addr×Obj)}{σ:St}{H:Hp}{s:Shared}{p:Addr}{xs ys:List V}{its its':List Value}{n n':Nat}{f:Obj->Obj} (I:Inv X pins σ H s) (h:H p=some (.lst xs))
  (ho:s.heap.get? p=some {cls:=.type "list",data:=.seq its.toArray n}) (hf:f {cls:=.type "list",data:=.seq its.toArray n}={cls:=.type "list",data:=.seq its'.toArray n'}) (r:Vals ys its') (hz:ys.length<=sizeLine) (t:Nat) :
  Inv X pins σ (upd H p (.lst ys)) {s with heap:=s.heap.update p f,toks:=t}:=by
 have e:(s.heap.update p f).get? p=some {cls:=.type "list",data:=.seq its'.toArray n'}:=by
  rw[Heap.get?_update_self f ho (by rw[hf]<;>rfl),hf]
 refine I.write (x:=p) (e:=p) (by rw[h];trivial) (.inl rfl) (λb u hb q=>(Heap.get?_update_other _ _ (Ne.symm hb)).trans q) ⟨_,e⟩ ?_
 exact⟨hz,its',n',r,e⟩
noncomputable def rSetL:V->V->V->Hp->(Hp->Prop)->Prop:=λo i v H Q=>∃p xs k j,o=.ref p/\i=.int k/\H p=some (.lst xs)/\ixN xs.length k=some j/\Q (upd H p (.lst (xs.set j v)))
theorem set_list:PSet X rSetL:=by
 intro pins s σ H o i v ov iv u Q I ro ri rv h
 obtain⟨p,xs,k,j,rfl,rfl,hp,hj,q⟩:=h
 cases ro
 obtain⟨t,rfl⟩:=ri
 obtain⟨its,n,r,ho,hz⟩:=I.lst hp
 obtain⟨h1,h2,h3,h4⟩:=ZiR hj
 have hl:=r.length
 have hn:=Zb6
 have I':Inv X pins σ (upd H p (.lst (xs.set j v))) {s with heap:=s.heap.update p (Obj.mapSeq (·.setIfInBounds j u))} :=
  I.lstUpd hp ho (ZhU its n j u) (r.set rv j) (by rw[List.length_set];exact hz) s.toks
 by_cases h0:0<=k
 .have hk:k.toNat=j:=by
   rw[seqIndex_of h0 h4]at h1
   exact Yz h1
  exact PySem.W.ki_setAt ho h0 ⋯ (by rw[Yr,<-hl];exact h4) (by rw[hk];exact⟨_,I',q⟩)
 .have hk:(k+(its.toArray.size:Int)).toNat=j:=by
   rw[seqIndex_neg ⋯ h3]at h1
   rw[Yr,<-hl]
   exact Yz h1
  exact PySem.W.ki_setBack ho ⋯ (by rw[Yr,<-hl];exact h3) ⋯ (by rw[hk];exact⟨_,I',q⟩)
noncomputable def flatV:V->Bool
 |.non=>true
 |.bl _=>true
 |.int _=>true
 |.str _=>true
 |_=>false
noncomputable def eqV:V->V->Bool
 |.non,.non=>true
 |.bl a,.bl b=>a==b
 |.bl a,.int b=>(if a then 1 else 0)==b
 |.int a,.bl b=>a==(if b then 1 else 0)
 |.int a,.int b=>a==b
 |.str a,.str b=>a==b
 |_,_=>false
theorem ZjO {A:Around}{s:Shared}{y x:V}{u v:Value} (ry:RelV y u) (rx:RelV x v) (fy:flatV y=true) (fx:flatV x=true):SeqAt.EqAt A s u v (eqV y x):=by
 cases y with
 |non =>
  cases ry
  cases x with
  |non=>cases rx;exact SeqAt.EqAt.same _
  |bl b=>cases rx;exact SeqAt.EqAt.none_bool b
  |int b=>obtain⟨t,rfl⟩:=rx;exact SeqAt.EqAt.none_int b t
  |str b=>obtain⟨t,rfl⟩:=rx;exact SeqAt.EqAt.none_str b t
  |_=>exact absurd (show false=true from fx) Yx
 |bl a =>
  cases ry
  cases x with
  |non=>cases rx;exact SeqAt.EqAt.bool_none a
  |bl b=>cases rx;exact SeqAt.EqAt.bool_bool a b
  |int b=>obtain⟨t,rfl⟩:=rx;exact SeqAt.EqAt.bool_int a b t
  |str b=>obtain⟨t,rfl⟩:=rx;exact SeqAt.EqAt.bool_str a b t
  |_=>exact absurd (show false=true from fx) Yx
 |int a =>
  obtain⟨t',rfl⟩:=ry
  cases x with
  |non=>cases rx;exact SeqAt.EqAt.int_none a t'
  |bl b=>cases rx;exact SeqAt.EqAt.int_bool a t' b
  |int b=>obtain⟨t,rfl⟩:=rx;exact SeqAt.EqAt.int_int a t' b t
  |str b=>obtain⟨t,rfl⟩:=rx;exact SeqAt.EqAt.int_str a t' b t
  |_=>exact absurd (show false=true from fx) Yx
 |str a =>
  obtain⟨t',rfl⟩:=ry
  cases x with
  |non=>cases rx;exact SeqAt.EqAt.str_none a t'
  |bl b=>cases rx;exact SeqAt.EqAt.str_bool a t' b
  |int b=>obtain⟨t,rfl⟩:=rx;exact SeqAt.EqAt.str_int a t' b t
  |str b=>obtain⟨t,rfl⟩:=rx;exact SeqAt.EqAt.str_str a t' b t
  |_=>exact absurd (show false=true from fx) Yx
 |_=>exact absurd (show false=true from fy) Yx
noncomputable def eqU (x:V) (u:Value):Bool:=match u with
 |.none=>eqV .non x
 |.bool b=>eqV (.bl b) x
 |.int i _=>eqV (.int i) x
 |.str z _=>eqV (.str z) x
 |_=>false
theorem ZjP {x y:V}{u:Value} (r:RelV y u) (f:flatV y=true):eqU x u=eqV y x:=by
 cases y with
 |non=>cases r;rfl
 |bl b=>cases r;rfl
 |int i=>obtain⟨t,rfl⟩:=r;rfl
 |str z=>obtain⟨t,rfl⟩:=r;rfl
 |_=>exact absurd (show false=true from f) Yx
theorem Zga {x:V}:∀{xs:List V}{us:List Value},Vals xs us->xs.all flatV=true->us.any (eqU x)=xs.any λy=>eqV y x
 |_,_,.nil,_=>rfl
 |y::xs,u::us,.cons r t,f=>by
  rw[List.all_cons,Bool.and_eq_true]at f
  rw[List.any_cons,List.any_cons,ZjP r f.1,Zga t f.2]
theorem ZeE {A:Around}{s:Shared}{x:V}{v:Value} (rx:RelV x v) (fx:flatV x=true):∀{xs:List V}{us:List Value},Vals xs us->xs.all flatV=true->∀u∈us,SeqAt.EqAt A s u v (eqU x u)
 |_,_,.nil,_=>λu hu=>by cases hu
 |y::xs,u::us,.cons r t,f=>λu' hu=>by
  rw[List.all_cons,Bool.and_eq_true]at f
  rcases Ym.mp hu with rfl|hu
  .rw[ZjP r f.1];exact ZjO r rx f.1 fx
  .exact ZeE rx fx t f.2 u' hu
noncomputable def inV (x:V) (xs:List V):Bool:=xs.any λy=>eqV y x
noncomputable def rIn (K:PySem.W.Frag) (neg:Bool):R2:=λx y H Q=>∃p xs,y=.ref p/\(SqL K H p xs\/SqT K H p xs)/\flatV x=true/\xs.all flatV=true/\Q (.bl (if neg then !inV x xs else inV x xs)) H
theorem Zja:OpR X (compareOp .In) (rIn X.K false):=by
 intro pins s σ H x y v u Q I rx ry h
 obtain⟨p,xs,rfl,hq,fx,fs,q⟩:=h
 cases ry
 rcases hq with hq|hq
 .obtain⟨its,r,pl,hz⟩:=I.list hq
  refine SeqAt.in_listAt (eqU x) pl.isList (λw hw=>ZeE rx fx r fs w (by simpa using hw)) ⟨.bl _,H,I,rfl,?_⟩
  rw[show its.toArray.any (eqU x)=its.any (eqU x) by simp,Zga r fs]
  exact q
 .obtain⟨its,r,pl,hz⟩:=I.tuple hq
  refine SeqAt.in_tupleAt (eqU x) pl (λw hw=>ZeE rx fx r fs w (by simpa using hw)) ⟨.bl _,H,I,rfl,?_⟩
  rw[show its.toArray.any (eqU x)=its.any (eqU x) by simp,Zga r fs]
  exact q
theorem Zc8:OpR X (compareOp .NotIn) (λx y H Q=>∃i j,x=.str i/\y=.str j/\Q (.bl (!(!(Builtin.Str.occurrences j i 0 j.length 1).isEmpty))) H):=by
 intro pins s σ H x y v u Q I rx ry h
 obtain⟨i,j,rfl,rfl,q⟩:=h
 obtain⟨t,rfl⟩:=rx
 obtain⟨t',rfl⟩:=ry
 exact notIn_str ⟨.bl _,H,I,rfl,q⟩
theorem Zgb:Zaq X (.builtin "len") (λxs H Q=>∃p ys,xs=[.ref p]/\(SqL X.K H p ys\/SqT X.K H p ys)/\Q (.int ys.length) H):=by
 intro pins s σ H xs us Q I r h
 obtain⟨p,ys,rfl,hq,q⟩:=h
 obtain⟨u,rfl,rx⟩:=vals1 r
 cases rx
 have hn:=Zb6
 rcases hq with hq|hq
 .obtain⟨its,r',pl,hz⟩:=I.list hq
  have hlen:=r'.length
  exact Calls.call_len_list pl.isList (by simp only[Yr]<;>omega) ⟨.int ys.length,H,I.tok _,⟨s.toks+1,by rw[Yr,hlen]⟩,q⟩
 .obtain⟨its,r',pl,hz⟩:=I.tuple hq
  have hlen:=r'.length
  exact len_tuple pl (by simp only[Yr]<;>omega) ⟨.int ys.length,H,I.tok _,⟨s.toks+1,by rw[Yr,hlen]⟩,q⟩
theorem Zfg:Zaq X (.type "tuple") (λxs H Q=>∃p ys,xs=[.ref p]/\((SqL X.K H p ys/\∀l,H l=none->Q (.ref l) (upd H l (.tup ys)))\/(SqT X.K H p ys/\Q (.ref p) H))):=by
 intro pins s σ H xs us Q I r h
 obtain⟨p,ys,rfl,h⟩:=h
 obtain⟨u,rfl,rx⟩:=vals1 r
 cases rx
 rcases h with⟨hq,q⟩|⟨hq,q⟩
 .obtain⟨its,r',pl,hz⟩:=I.list hq
  have hlen:=r'.length
  refine call_tuple_list pl.isList (λh' kp=>?_) (by simp only[Yr]<;>omega)
  have I1:Inv X pins σ H {s with heap:=h'}:=I.kept (t':=s.toks) kp
  have I2:Inv X pins σ (upd H h'.objs.size (.tup ys)) {s with heap:=h'.push {cls:=.type "tuple",data:=.seq its.toArray}} :=
   I1.laid (t':=s.toks) (λb o e=>Yk _ e) (Yd _) (show Z8 X.prog X.w _ _ _ (.tup ys)from⟨hz,its,r',IsTup.new _ _⟩)
  exact⟨.ref h'.objs.size,_,I2,rfl,q _ (I1.hok.fresh (Yd _))⟩
 .obtain⟨its,r',pl,hz⟩:=I.tuple hq
  exact call_tuple_same pl ⟨.ref p,H,I,rfl,q⟩
noncomputable def tyV (K:PySem.W.Frag) (T:String) (x:V) (H:Hp):Prop:=match x with
 |.str _=>T="str"
 |.int _=>T="int"
 |.ref p=>(T="list"/\∃xs,SqL K H p xs)\/(T="tuple"/\∃o,K.lookup p=some o/\o.cls=.type "tuple"/\o.dict=none) \/
   (T="dict"/\((∃kvs,H p=some (.dK kvs))\/∃kvs,H p=some (.dT kvs)))\/(T="set"/\∃S n,H p=some (.set S n))
 |_=>False
theorem ZjQ {pins:List (Addr×Obj)}{σ:St}{H:Hp}{s:Shared}{T:String}{x:V}{v:Value} (I:Inv X pins σ H s) (r:RelV x v) (ty:tyV X.K T x H) :
  s.TypeIs v T/\∀a,v=.ref a->∃ob,s.heap.get? a=some ob/\ob.dict=none:=by
 cases x with
 |str z =>
  obtain⟨t,rfl⟩:=r
  cases(show T="str" from ty)
  exact⟨typeIs_str s z t,λ_ e=>nomatch e⟩
 |int i =>
  obtain⟨t,rfl⟩:=r
  cases(show T="int" from ty)
  exact⟨typeIs_int s i t,λ_ e=>nomatch e⟩
 |ref p =>
  cases r
  rcases ty with⟨rfl,xs,hq⟩|⟨rfl,o,hk,hc,hd⟩|⟨rfl,hk⟩|⟨rfl,S,n,hk⟩
  .obtain⟨its,_,pl,_⟩:=I.list hq
   refine⟨pl.isList.typeIs,λa e=>?_⟩
   cases e
   obtain⟨o,n,e,c,hd,_⟩:=pl
   exact⟨o,e,hd⟩
  .refine⟨⟨o,I.kIn p o hk,hc⟩,λa e=>?_⟩
   cases e
   exact⟨o,I.kIn _ o hk,hd⟩
  .have z:∃o,s.heap.get? p=some o/\o.ExactDict:=by
    rcases hk with⟨kvs,hk⟩|⟨kvs,hk⟩
    .obtain⟨_,_,_,_,o,_,_,e,ex,_⟩:=I.hok p _ hk
     exact⟨o,e,ex⟩
    .obtain⟨_,_,_,_,o,_,_,e,ex,_⟩:=I.hok p _ hk
     exact⟨o,e,ex⟩
   obtain⟨o,e,ex⟩:=z
   refine⟨⟨o,e,ex.1⟩,λa e2=>?_⟩
   cases e2
   exact⟨o,e,ex.2.1⟩
  .obtain⟨o,_,_,_,e,ex,_⟩:=I.hok p _ hk
   refine⟨⟨o,e,ex.1⟩,λa e2=>?_⟩
   cases e2
   exact⟨o,e,ex.2.1⟩
 |_=>exact False.elim ty
noncomputable def tBM0 (K:PySem.W.Frag) (T:String) (r:V->List V->Hp->VK->Prop) (to:TE):TE:=fun σ H Q=>to σ H λx H1=>tyV K T x H1/\r x [] H1 Q
noncomputable def tBM (K:PySem.W.Frag) (T:String) (r:V->List V->Hp->VK->Prop) (to:TE) (t:TA):TE:=fun σ H Q=>to σ H λx H1=>tyV K T x H1/\t σ H1 λxs H2=>r x xs H2 Q
variable {o e:Expr}{es:List Expr}{to:TE}{t:TA}{name:Str}{apos cpos:Pos}{T id:String}{r:V->List V->Hp->VK->Prop}
theorem ZjR (pa:PlainAttrs T) (slot:Slot T name id) (hty:typeOf (.builtin id)=pure (.type "method_descriptor")) (hm:MtR X id r) (ho:PE X o to)
  (hbase:attributeBase o name X.env (eval o X.env)=eval o X.env:=by rfl) (hline:(apos.endLine==cpos.line)=true:=by rfl):PE X (.Call (.Attribute o name apos) [] [] cpos) (tBM0 X.K T r to):=by
 intro pins s σ H Q I h
 refine wpAny_Call_method0_late hbase hline (thn (ho pins s σ H _ I h) λv s1 ⟨x,H1,I1,r1,ty,q1⟩=>?_)
 obtain⟨h1,h2⟩:=ZjQ I1 r1 ty
 exact⟨T,id,pa,slot,hty,h1,h2,Calls.callWith_builtin rfl (PySem.evalArgs_none (hm pins s1 σ H1 x [] v [] Q I1 r1 .nil q1))⟩
theorem Zaz (pa:PlainAttrs T) (slot:Slot T name id) (hty:typeOf (.builtin id)=pure (.type "method_descriptor")) (hm:MtR X id r) (ho:PE X o to) (ha:PA X (e::es) t)
  (hbase:attributeBase o name X.env (eval o X.env)=eval o X.env:=by rfl)
  (hfew:((backTo cpos (starEach (e::es) X.env)).all (λx=>!x.1)&&(backToKw cpos (keywordEach [] X.env)).all (λx=>x.1.isSome)
   && decide ((e::es).length+([]:List Keyword).length+(if ([]:List Keyword).isEmpty then 0 else 1)<30))=true:=by rfl)
  (hline:(apos.endLine==cpos.line)=true:=by rfl) (hs:starEach (e::es) X.env=(false,eval e X.env)::starEach es X.env:=by rfl) (hplain:(backTo cpos (starEach es X.env)).any (·.1)=false:=by rfl) :
  PE X (.Call (.Attribute o name apos) (e::es) [] cpos) (tBM X.K T r to t):=by
 intro pins s σ H Q I h
 refine wpAny_Call_method_late hbase hfew hline rfl (thn (ho pins s σ H _ I h) λv s1 ⟨x,H1,I1,r1,ty,q1⟩=>?_)
 obtain⟨h1,h2⟩:=ZjQ I1 r1 ty
 refine⟨T,id,pa,slot,hty,h1,h2,?_⟩
 have hA:=ha cpos pins s1 σ H1 _ I1 q1
 rw[hs]at hA⊢
 refine Calls.callWith_builtin (by show(false||(backTo cpos (starEach es X.env)).any (·.1))=false;rw[hplain]<;>rfl) (Calls.evalArgs_plain ?_)
 exact thn hA λus s2 ⟨vs,H2,I2,r2,q2⟩=>hm pins s2 σ H2 x vs v us Q I2 r1 r2 q2
end
noncomputable def MtM (X:Cx) (id:String) (r:V->List V->Hp->VK->Prop):Prop :=
 ∀(pins:List (Addr×Obj)) (s:Shared) (σ:St) (H:Hp) (x:V) (xs:List V) (v:Value) (us:List Value) (Q:VK),Inv X pins σ H s->RelV x v->Vals xs us->r x xs H Q ->
  wpAny (model X.prog X.w) X.A (call (.builtin id) (v::us)) (EP X pins σ Q) X.xe s
theorem Vals.hd:∀{x:V}{xs:List V}{us:List Value},Vals (x::xs) us->∃u vs,us=u::vs/\RelV x u/\Vals xs vs
 |_,_,_,.cons r h=>⟨_,_,rfl,r,h⟩
theorem Vals.no:∀{us:List Value},Vals [] us->us=[]
 |_,.nil=>rfl
theorem Vals.one {x:V}{us:List Value} (h:Vals [x] us):∃u,us=[u]/\RelV x u:=by
 obtain⟨u,_,rfl,r,h⟩:=h.hd;rw[h.no];exact⟨u,rfl,r⟩
theorem Vals.two {x y:V}{us:List Value} (h:Vals [x,y] us):∃u v,us=[u,v]/\RelV x u/\RelV y v:=by
 obtain⟨u,_,rfl,r,h⟩:=h.hd;obtain⟨v,rfl,q⟩:=h.one;exact⟨u,v,rfl,r,q⟩
theorem Vals.zero:∀{us:List Value},Vals [] us->us=[]
 |_,.nil=>rfl
theorem Vals.rep {xs:List V}{us:List Value} (h:Vals xs us):∀k:Nat,Vals (List.replicate k xs).flatten (List.replicate k us).flatten
 |0=>.nil
 |k+1=>by
  rw[List.replicate_succ,List.replicate_succ,List.flatten_cons,List.flatten_cons]
  exact Vals.append h (Vals.rep h k)
theorem foldl_rep (its:List Value):∀(k:Nat) (acc:List Value),
  List.foldl (λx1 x2=>x1++x2) acc.toArray (List.replicate k its.toArray)=(acc++(List.replicate k its).flatten).toArray
 |0,acc=>by simp
 |k+1,acc=>by
  have e:acc.toArray++its.toArray=(acc++its).toArray:=by simp
  have e2:(acc++its)++(List.replicate k its).flatten=acc++(List.replicate (k+1) its).flatten:=by
   rw[List.replicate_succ,List.flatten_cons,YZ]
  rw[<-e2,<-foldl_rep its k (acc++its),<-e,List.replicate_succ,List.foldl_cons]
section
variable {X:Cx}{pins:List (Addr×Obj)}{σ:St}{H:Hp}{s:Shared}{l b:Addr}{xs ys zs:List V}
theorem Inv.lset {its its':List Value}{n:Nat}{f:Array Value->Array Value}{t':Nat} (I:Inv X pins σ H s) (hH:H l=some (.lst xs))
  (e:s.heap.get? l=some {cls:=.type "list",data:=.seq its.toArray n}) (hf:f its.toArray=its'.toArray) (hv:Vals ys its') (hz:ys.length<=sizeLine) :
  Inv X pins σ (upd H l (.lst ys)) {s with heap:=s.heap.update l (Obj.mapSeq f),toks:=t'}:=by
 have q:=PySem.IsL.update e f
 rw[hf]at q
 refine I.write (x:=l) (e:=l) (by rw[hH];exact trivial) (.inl rfl) (λb' u hb hu=>(Heap.get?_update_other s.heap (Obj.mapSeq f) (Ne.symm hb)).trans hu) ⟨_,q⟩ ?_
 exact⟨hz,its',_,hv,q⟩
theorem Inv.lnew {its:List Value}{t':Nat} (I:Inv X pins σ H s) (hv:Vals ys its) (hz:ys.length<=sizeLine) :
  Inv X pins σ (upd H s.heap.objs.size (.lst ys)) {s with heap:=s.heap.push {cls:=.type "list",data:=.seq its.toArray},toks:=t'} :=
 I.laid (λ_ _ q=>Yk _ q) (Yd _) ⟨hz,its,0,hv,Yv _ rfl⟩
theorem Inv.fresh (I:Inv X pins σ H s):H s.heap.objs.size=none:=I.hok.fresh (Yd _)
theorem Inv.Zjb (I:Inv X pins σ H s) (hH:H l=some (.lst xs)):xs.length<=sizeLine/\∃(its:List Value) (n:Nat),Vals xs its/\xs.length=its.length/\s.heap.get? l=some {cls:=.type "list",data:=.seq its.toArray n}:=by
 obtain⟨z,its,n,r,e⟩:=I.hok l _ hH
 exact⟨z,its,n,r,r.length,e⟩
theorem ZjS {n:Nat} (h:n<=sizeLine):Builtin.List.listTooLong n=false:=by
 unfold Builtin.List.listTooLong
 exact YJ ⋯
end
section
variable {X:Cx}
noncomputable def rAppend:V->List V->Hp->VK->Prop:=λx vs H Q=>∃l xs y,x=.ref l/\vs=[y]/\H l=some (.lst xs)/\xs.length<sizeLine/\Q .non (upd H l (.lst (xs++[y])))
theorem Zad:MtM X "list.append" rAppend:=by
 intro pins s σ H x vs v us Q I rx rv h
 obtain⟨l,xs,y,rfl,rfl,hH,hz,q⟩:=h
 cases rx
 obtain⟨u,rfl,ru⟩:=rv.one
 obtain⟨z,its,n,r,hl,e⟩:=I.Zjb hH
 refine call_meets F.slot_list_append ⟨_,e,rfl⟩ F.entry_list_append (F.args_list_append_2 _ _) (PySem.list_append l its.toArray n u (by rw[Yr];omega)) ⟨e,?_⟩
 refine⟨.non,_,I.lset (its':=its++[u]) hH e (by simp) (r.append (.cons ru .nil)) ?_,rfl,q⟩
 rw[Yn,List.length_singleton]
 omega
noncomputable def rCat:R2:=λx y H Q=>∃l b xs zs,x=.ref l/\y=.ref b/\H l=some (.lst xs)/\H b=some (.lst zs)/\xs.length+zs.length<=sizeLine/\∀p,H p=none->Q (.ref p) (upd H p (.lst (xs++zs)))
theorem ZdA:OpR X (binaryOp .Add) rCat:=by
 intro pins s σ H x y v u Q I rx ry h
 obtain⟨l,b,xs,zs,rfl,rfl,hH,hB,hz,q⟩:=h
 cases rx
 cases ry
 obtain⟨z,its,n,r,hl,e⟩:=I.Zjb hH
 obtain⟨z2,its2,n2,r2,hl2,e2⟩:=I.Zjb hB
 refine PySem.P.add_list e e2 ?_ (by rw[Yr,Yr];omega)
 have ea:its.toArray++its2.toArray=(its++its2).toArray:=by simp
 rw[ea]
 exact⟨.ref _,_,I.lnew (t':=s.toks) (r.append r2) (by rw[Yn];omega),rfl,q _ I.fresh⟩
noncomputable def rRep:R2:=λx y H Q=>∃l k xs,x=.ref l/\y=.int k/\H l=some (.lst xs)/\-(2 ^ 63)<=k/\k<2 ^ 63/\xs.length*k.toNat<=sizeLine /\
 ∀p,H p=none->Q (.ref p) (upd H p (.lst (List.replicate k.toNat xs).flatten))
theorem len_rep {α:Type} (xs:List α) (k:Nat):(List.replicate k xs).flatten.length=k*xs.length:=by
 induction k with
 |zero=>simp
 |succ k ih=>rw[List.replicate_succ,List.flatten_cons,Yn,ih,Nat.succ_mul,Nat.add_comm]
theorem ZhV:OpR X (binaryOp .Mult) rRep:=by
 intro pins s σ H x y v u Q I rx ry h
 obtain⟨l,k,xs,rfl,rfl,hH,h1,h2,hz,q⟩:=h
 cases rx
 obtain⟨t,rfl⟩:=ry
 obtain⟨z,its,n,r,hl,e⟩:=I.Zjb hH
 have hlen:its.toArray.size*k.toNat<=sizeLine:=by rw[Yr,<-hl];exact hz
 have hcap:¬ its.toArray.size*k.toNat>(2 ^ 63-1) / 8:=by
  have:(sizeLine:Nat)<=(2 ^ 63-1) / 8:=by decide
  omega
 have hfit:¬ (!Builtin.List.listFitsIndex k)=true:=by
  rw[fitsIndex_both h1 h2]
  exact Yx
 have hlong:¬ Builtin.List.listTooLong (its.toArray.size*k.toNat)=true:=by
  rw[ZjS hlen]
  exact Yx
 have hnew:List.foldl (λx1 x2=>x1++x2) #[] (List.replicate (if its.toArray.isEmpty=true then 0 else k.toNat) its.toArray)=(List.replicate k.toNat its).flatten.toArray:=by
  have f0:∀m:Nat,List.foldl (λx1 x2=>x1++x2) #[] (List.replicate m its.toArray)=(List.replicate m its).flatten.toArray:=λm=>by
   have:=foldl_rep its m []
   rw[List.nil_append]at this
   exact this
  rw[f0]
  cases its with
  |nil=>simp
  |cons a r'=>rw[Yb (by simp)]
 refine wpAny_binaryOp_repeat_ref (T:="list") (U:="int") nofun ⟨_,e,rfl⟩ (λs'=>typeIs_int s' k t) noFill_list_mul F.fills_int_mul F.slot_int_rmul repeat_list F.slot_int_index.lookup
  (call_meets F.slot_int_rmul (typeIs_int s k t) F.entry_int_rmul (F.args_int_rmul_2 _ _) (int___rmul___int_list k t l its.toArray n)
   ⟨e,rfl,⟨_,e,rfl⟩,call_meets F.slot_list_mul ⟨_,e,rfl⟩ F.entry_list_mul (F.args_list_mul_2 _ _) (AutoListH.list___mul___list_int_3 l its.toArray n k t hfit hcap hlong) ⟨e,?_⟩⟩)
 rw[hnew]
 exact⟨.ref _,_,I.lnew (t':=s.toks) (r.rep k.toNat) (by rw[len_rep,Nat.mul_comm];exact hz),rfl,q _ I.fresh⟩
end
end Lake
namespace Att
open PySem PySem.W PySem.Calls PyProof.Rows
theorem Zd8 {P:Params}{h:Heap}:∀(ns:List Int) (vs:List Value),WellAll P h vs (ns.map WData.int)->IntsAre vs ns:=by
 intro ns
 induction ns with
 |nil =>
  intro vs w
  rw[List.map_nil]at w
  cases w
  exact .nil
 |cons n ns ih =>
  intro vs w
  rw[YO]at w
  cases w with
  |cons a b =>
   cases a
   exact .cons _ _ (ih _ b)
theorem Zjc {l:OpenLaw}{n:Nat} (hn:l.most=some n) {P:Params}{h:Heap}{args:List WData}{vals:List Value}
  (hpre:l.row.toRowW.claim.pre args=true) (hwl:WellAll P h vals args) :
  ∃a vs ns,vals=[Value.ref a]/\args=[WData.list (ns.map WData.int)]/\h.get? a=some {cls:=.type "list",data:=.seq vs.toArray}/\IntsAre vs ns/\ns.length<=n:=by
 have hsh:WShape.hasAll [] args [.list .int]=true:=(pre_splitW hpre).1
 have hc:l.pre.holds [] {args:=args}=true:=(pre_splitW hpre).2
 obtain⟨d,r,rfl,h1,h2⟩:=hasAllW_cons hsh
 obtain rfl:=hasAllW_nil h2
 obtain⟨xs,rfl,h3⟩:=hasW_list h1
 obtain⟨ns,rfl⟩:=items_int h3
 have hlen:ns.length<=n:=by
  unfold OpenLaw.pre at hc
  have h4:(WTm.not (.lt (.lit (.int (n:Int))) (.len (.arg 0)))).holds [] {args:=[.list (ns.map .int)]}=true:=by
   have h4:=(holds_andW hc).1
   rw[hn]at h4
   exact h4
  have h5:=condW_of h4 (w_not (w_lt w_lit (w_len_list (w_arg rfl))))
  rw[Yj]at h5
  refine Nat.le_of_not_lt λq=>?_
  have q':(n:Int)<((ns.length:Nat):Int):= ⋯
  first
   |(rw[YF q']at h5;exact absurd h5 nofun)
   |(simp at h5;omega)
 cases hwl with
 |cons w1 w2 =>
  cases w2
  cases w1 with
  |list ho hall=>exact⟨_,_,ns,rfl,rfl,ho,Zd8 ns _ hall,hlen⟩
theorem Zjd (l:OpenLaw) (args:List WData):l.row.toRowW.claim.post args (.bool true) args=true :=
 postW_of (r:=l.row.toRowW) (X:=(true==true))
  (show WShape.has [] (.bool true) .bool=true by first|rfl|decide|simp[WShape.has,WShape.arms,WShape.armsAll])
  (show(WTm.eq .res (.lit (.bool true))).value [] {args:=args,res:=some (.bool true),after:=args}=some (.bool (true==true))from w_eq_bool (w_res rfl) w_lit) rfl
theorem Zg4 {l:OpenLaw}{n:Nat}{q:Program}{loose:List Str}{XP:(Str->Option Value)->Heap->Prop}{YP:World->Heap->Prop}{d:DefRec}
  (hn:l.most=some n) (hdf:d.params.defaults=[])
  (call:∀(w:World) (s₀ s₁:Shared) (mg mb:Str->Option Value) (fa:Addr) (o:Obj) (pm cd doc:Value) (a:Addr) (vs:List Value) (ns:List Int),
   Ground q loose [] XP w s₀ mg mb s₁.heap->YP w s₁.heap ->
   s₁.heap.get? fa=some o->o.data=.func (docDef d.name d.params d.body d.scope pm cd doc)->s₁.heap.CodeRec cd d.name->mg d.name=some (.ref fa) ->
   s₁.heap.get? a=some {cls:=.type "list",data:=.seq vs.toArray}->IntsAre vs ns->ns.length<=n->s₁.gens=#[] ->
   codeAny (model l.prog w) callerA (.call (.ref fa) ⟨[.ref a],[]⟩) (λr s'=>r=.ok (.ret (.bool true))/\OldK s₁.heap s'.heap/\s'.os=s₁.os/\AllBare s'.gens) s₁) :
  WalkO q loose XP YP l.row.toRowW d [] (λf vs=>PySem.call f vs):=by
 intro w s₀ s₁ mg mb G Y fa o pm cd doc dV kV ho hd hcd hD hmg hg args vals as hpre hlay hrd hwl hlo
 obtain rfl:dV=.none:=Dflts.none hD hdf
 obtain rfl:kV=.none:=Dflts.noKw hD
 obtain⟨a,vs,ns,rfl,rfl,hobj,hints,hlen⟩:=Zjc hn hpre hwl
 refine enter_call (codeAny_mono (call w s₀ s₁ mg mb fa o pm cd doc a vs ns G Y ho (fd_plain hd) hcd hmg hobj hints hlen hg) λr s' hq=>?_)
 obtain⟨rfl,h2,h3,h4⟩:=hq
 exact⟨.inl ⟨.bool true,.bool true,[],rfl,λ_=>rfl,.bool true,Zjd l _,λ_=>⟨List.Pairwise.nil,λ_ hm=>(nomatch hm)⟩⟩,h2,h3,h4⟩
end Att
namespace Lake
open PySem PySem.Spec PyProof.Rows
theorem ZfH:∀{vs:List Value}{ns:List Int},IntsAre vs ns->Vals (ns.map V.int) vs
 |_,_,.nil=>.nil
 |_,_,.cons n t h=>.cons ⟨t,rfl⟩ (ZfH h)
noncomputable def Only (H:Hp):Prop:=∀b,H b=none\/∃o xs,H b=some (.frz o (.lst xs))
theorem ZjT {P:Program}{w:World}{K:PySem.W.Frag}{mg mb:Str->Option Value}{CX:CXT}{k:Nat}{fa a:Addr}{fd:FuncData}{x:Str}{sp:Sp}{s₁:Shared}{vs:List Value}{ns:List Int}
  (KX:K.In s₁.heap) (hns:s₁.heap.Ns mainGlobals mg) (hb:s₁.heap.Ns builtinsNs mb) (hbb:∀x:Str,x≠"__name__"->mb x=bootBuiltins x) (hlim:s₁.heap.NoLimit) (hg:s₁.gens=#[])
  (ha:s₁.heap.get? a=some {cls:=.type "list",data:=.seq vs.toArray}) (hi:IntsAre vs ns) (hl:ns.length<=sizeLine) (hr:Room k callerA)
  (F:∀base:Heap,K.In base->base.Ns mainGlobals mg->FnOk P w K mg base CX k fa fd [x] sp) (hbind:∀(s:Shared) (u:Value),BindsTo s fd ⟨[u],[]⟩ [(x,u)])
  (hsp:∀H:Hp,Only H->SqL K H a (ns.map V.int)->sp [.ref a] H (λv _=>v=.bl true) λ_ _ _=>False)
  (hCX:∀H e s',CX [] H s₁ (λ_ _ _=>False) e s'->False) :
  codeAny (model P w) callerA (.call (.ref fa) ⟨[.ref a],[]⟩) (λr s'=>r=.ok (.ret (.bool true))/\OldK s₁.heap s'.heap/\s'.os=s₁.os/\AllBare s'.gens) s₁:=by
 have rv:=ZfH hi
 have lenV:=hi.length
 -- from an abstract heap in which nothing but the script may be tracked
 have core:∀H:Hp,Only H->SqL K H a (ns.map V.int)->HOk P w H s₁.heap->(∀b,H b≠none->b=a)->(H a≠none->K.lookup a=none) ->
   codeAny (model P w) callerA (.call (.ref fa) ⟨[.ref a],[]⟩) (λr s'=>r=.ok (.ret (.bool true))/\OldK s₁.heap s'.heap/\s'.os=s₁.os/\AllBare s'.gens) s₁:=by
  intro H hO hS hok hA hK
  have base_of:∀{b:Addr}{o:Obj},s₁.heap.get? b=some o->H b=none->(Zf5 s₁.heap H).get? b=some o:=λe n=>ZjH e n
  have noA:∀{b:Addr}{o:Obj}{es:Array DictEntry}{ep:Nat},s₁.heap.get? b=some o->o.data=.dict es ep->H b=none:=λ{b o es ep} e d=>by
   cases q:H b with
   |none=>rfl
   |some u =>
    have e':b=a:=hA b (by rw[q];simp)
    subst e'
    rw[ha]at e;cases e
    have d':Data.seq vs.toArray _=Data.dict es ep:=d
    cases d'
  have nsK:∀{b:Addr}{m:Str->Option Value},s₁.heap.Ns b m->(Zf5 s₁.heap H).Ns b m:=λ{b m} ⟨o,es,ep,e,d,r⟩=>⟨o,es,ep,base_of e (noA e d),d,r⟩
  have hKb:K.In (Zf5 s₁.heap H):=λb o e=>base_of (KX b o e) (by
   cases q:H b with
   |none=>rfl
   |some u =>
    have e':b=a:=hA b (by rw[q];simp)
    subst e'
    rw[hK (by rw[q];simp)]at e;cases e)
  have hM:Mod K mg (Zf5 s₁.heap H):=⟨hKb,nsK hns,⟨mb,nsK hb,hbb⟩,let ⟨mc,h1,h2⟩:=hlim;⟨mc,nsK h1,h2⟩⟩
  have e0:Env0 P w K mg (Zf5 s₁.heap H) callerA [] s₁ H:=⟨rfl,hM,λb o e=>ZkB e,Y5 (Zi1 _ _),trivial,λb hb=>absurd (show b∈([]:List Addr)from hb) (by simp),hok,.of_eq hg⟩
  refine codeAny_mono ((F _ hKb (nsK hns)).run callerA [] s₁ H ⟨[.ref a],[]⟩ [.ref a] [.ref a] _ _ hr e0 (hbind s₁ (.ref a)) (.cons rfl .nil) (hsp H hO hS)) λr s' h=>?_
  cases r with
  |error e=>exact(hCX H e s' h).elim
  |ok fl =>
   cases fl with
   |next=>exact False.elim h
   |brk=>exact False.elim h
   |cont=>exact False.elim h
   |ret u =>
    obtain⟨v,H',os,bare,un,hok',r',q⟩:=h
    have q':v=.bl true:=q
    subst q'
    obtain rfl:u=Value.bool true:=r'
    refine⟨rfl,OldK.of_keep λb o e=>?_,os,bare⟩
    cases q:H b with
    |none=>exact un.keep b o e q (by intro z;exact absurd (show b∈([]:List Addr)from z) (by simp)) (by simp)
    |some u =>
     rcases hO b with z|⟨ob,xs,z⟩
     .rw[q]at z;cases z
     .have z2:=un.frzs b ob _ z
      obtain⟨e1,_⟩:=hok b _ z
      obtain⟨e2,_⟩:=hok' b _ z2
      rw[e]at e1;cases e1
      exact e2
 cases hk:K.lookup a with
 |some o =>
  -- the script is one of the module's own objects
  have e:=KX a o hk
  rw[ha]at e
  cases e
  refine core (λ_=>none) (λ_=>.inl rfl) (.inr ⟨_,vs.toArray,_,hk,rfl,rfl,rfl,by rw[Yr,lenV];exact hl,by simpa using rv⟩) (λb u z=>by have z':(none:Option HO)=some u:=z;cases z') (λb z=>absurd rfl z) λz=>absurd rfl z
 |none =>
  refine core (λb=>if b=a then some (.frz {cls:=.type "list",data:=.seq vs.toArray} (.lst (ns.map V.int)))else none) (λb=>?_) (.inl (.inr ⟨{cls:=.type "list",data:=.seq vs.toArray},Yc rfl⟩)) (λb u z=>?_) (λb z=>?_) λ_=>hk
  .by_cases hb:b=a
   .exact .inr ⟨_,_,Yc hb⟩
   .exact .inl (Yb hb)
  .by_cases hb:b=a
   .have z':=(Yc hb).symm.trans z
    cases z'
    subst hb
    exact⟨ha,by rw[Yj];exact hl,vs,_,rv,ha⟩
   .have z':=(Yb hb).symm.trans z
    cases z'
  .by_cases hb:b=a
   .exact hb
   .exact absurd (Yb hb) z
theorem ZkH {l:PySem.W.OpenLaw}{n k:Nat}{q:Program}{loose:List Str}{XP:(Str->Option Value)->Heap->Prop}{YP:World->Heap->Prop}{d:DefRec}{K:Params->PySem.W.Frag}{CX:World->CXT}{sp:World->Sp}{x:Str}
  (hn:l.most=some n) (hn2:n<=sizeLine) (hdf:d.params.defaults=[]) (hr:Room k callerA)
  (hY:∀(w:World) (h:Heap),YP w h->(K w.params).In h)
  (F:∀(w:World) (mg:Str->Option Value) (fa:Addr) (h:Heap),(K w.params).In h->h.Ns mainGlobals mg->mg d.name=some (.ref fa) ->
   ∃fd:FuncData,(∀(s:Shared) (u:Value),BindsTo s fd ⟨[u],[]⟩ [(x,u)]) /\
    ∀base:Heap,(K w.params).In base->base.Ns mainGlobals mg->FnOk l.prog w (K w.params) mg base (CX w) k fa fd [x] (sp w))
  (hsp:∀(w:World) (H:Hp) (a:Addr) (ns:List Int),ns.length<=n->Only H->SqL (K w.params) H a (ns.map V.int)->sp w [.ref a] H (λv _=>v=.bl true) λ_ _ _=>False)
  (hCX:∀(w:World) (H:Hp) (s:Shared) (e:Value) (s':Shared),CX w [] H s (λ_ _ _=>False) e s'->False) :
  PySem.W.WalkO q loose XP YP l.row.toRowW d [] (λf vs=>PySem.call f vs):=by
 refine Att.Zg4 hn hdf λw s₀ s₁ mg mb fa o pm cd doc a vs ns G Y ho hd hcd hmg hobj hints hlen hg=>?_
 have KX:=hY w _ Y
 obtain⟨fd,hb,hF⟩:=F w mg fa _ KX G.T.g hmg
 exact ZjT KX G.T.g G.T.b G.T.builtins G.T.nolimit hg hobj hints (Yf hlen hn2) hr hF hb (λH hO hS=>hsp w H a ns hlen hO hS) λH e s'=>hCX w H s₁ e s'
noncomputable def defArgs (s:Stmt):Arguments:=match s with
 |.FunctionDef _ a _ _ _ _ _ _ _ _=>a
 |_=>{posonlyargs:=[],args:=[],vararg:=none,kwonlyargs:=[],kw_defaults:=[],kwarg:=none,defaults:=[]}
noncomputable def defBody (s:Stmt):List Stmt:=match s with
 |.FunctionDef _ _ b _ _ _ _ _ _ _=>b
 |_=>[]
noncomputable def defScope (s:Stmt):Scope:=match s with
 |.FunctionDef _ _ _ _ _ _ sc _ _ _=>sc
 |_=>{kind:=.function,names:=[],isGenerator:=false,isCoroutine:=false}
noncomputable abbrev E0:XK:=λ_ _ _=>False
structure Fun (K:PySem.W.Frag) (x qual:Str) (st:Stmt) (f:Addr) (fd:FuncData):Prop where
 ex:∃(oc:Value) (od:Option Addr) (kV doc pm:Value) (an:Option Addr) (cdv ct:Value) (osl:Array (Option Value)),
  fd=PySem.W.fnOf x qual (defArgs st) (defBody st) (defScope st) .none kV doc pm an cdv ct/\K.lookup f=some ⟨oc,od,.func fd,osl⟩/\PySem.W.codeIn K cdv qual=true
 kp:PySem.W.keepIn K (.ref f)=true
section
variable {P:Program}{w:World}{K:PySem.W.Frag}{mg:Str->Option Value}{base:Heap}
theorem Fun.binds {x qual:Str}{st:Stmt}{f:Addr}{fd:FuncData}{ps:List Str} (F:Fun K x qual st f fd)
  (h:∀(kV doc pm:Value) (an:Option Addr) (cdv ct:Value) (us:List Value),us.length=ps.length->bindArgs (PySem.W.fnOf x qual (defArgs st) (defBody st) (defScope st) .none kV doc pm an cdv ct) ⟨us,[]⟩=pure (ps.zip us)):Binds K fd ps []:=by
 obtain⟨oc,od,kV,doc,pm,an,cdv,ct,osl,rfl,lk,hcd⟩:=F.ex
 exact .all (h kV doc pm an cdv ct)
theorem ZE {x qual:Str}{st:Stmt}{f:Addr}{oc:Value}{od an:Option Addr}{osl:Array (Option Value)}{kV doc pm cdv ct:Value} (l:K.lookup f=some ⟨oc,od,.func (PySem.W.fnOf x qual (defArgs st) (defBody st) (defScope st) .none kV doc pm an cdv ct),osl⟩)
  (c:PySem.W.codeIn K cdv qual=true) (k:PySem.W.keepIn K (.ref f)=true):Fun K x qual st f (PySem.W.fnOf x qual (defArgs st) (defBody st) (defScope st) .none kV doc pm an cdv ct):=⟨⟨oc,od,kV,doc,pm,an,cdv,ct,osl,rfl,l,c⟩,k⟩
end
section
variable {X:Cx}
theorem pv (i:Nat) {x:Str}{pos:Pos} (hN:X.N[i]?=some x:=by rfl) (hv:Vis X.env.scope x:=by ac_rfl) (hd:(x==("__debug__":Str))=false:=by decide)
  (hcd:(x==("__classdict__":Str))=false:=by decide):PE X (.Name x pos) (tVar i):=pe_var hN hv hd hcd
end
theorem ZG {c A B:Prop} [Decidable c] (h1:c->A) (h2:¬ c->B):if c then A else B:=by
 by_cases h:c
 .rw[Yc h]
  exact h1 h
 .rw[Yb h]
  exact h2 h
noncomputable def Zh (H H':Hp):Prop:=∀b o,H b=some o->H' b=some o
theorem Zh.refl (H:Hp):Zh H H:=λ_ _ h=>h
theorem Zh.trans {H H1 H2:Hp} (a:Zh H H1) (b:Zh H1 H2):Zh H H2:=λc o h=>b c o (a c o h)
theorem Zh.free {H H':Hp} (e:Zh H H') {l:Addr} (h:H' l=Option.none):H l=Option.none:=by
 cases q:H l with
 |none=>rfl
 |some o =>
  rw[e l o q]at h
  cases h
theorem Zh.seq {K:PySem.W.Frag}{H H':Hp}{a:Addr}{xs:List V} (e:Zh H H') (h:SqL K H a xs):SqL K H' a xs:=by
 rcases h with(h|⟨o,h⟩)|h
 .exact .inl (.inl (e _ _ h))
 .exact .inl (.inr ⟨o,e _ _ h⟩)
 .exact .inr h
theorem ZcI {env:Env}:∀(names:List (Str×NameKind)) (cs0:List (Str×Addr)),(∀y∈names,y.2=.free->∃c,env.cells.lookup y.1=some c) ->
  ∃cl,(forIn names cs0 (λ(x:Str×NameKind) r=>(do
   match x with
   |(name,kind)=>if (kind==NameKind.free)=true then do let a <-cellOf env name;pure (ForInStep.yield ((name,a)::r))else pure (ForInStep.yield r)):_->_->Sem (ForInStep (List (Str×Addr)))))=pure cl /\
   (∀p∈cl,p∈cs0\/env.cells.lookup p.1=some p.2)/\(∀p∈cs0,p∈cl)/\(∀y∈names,y.2=.free->∃c,(y.1,c)∈cl)
 |[],cs0,_=>⟨cs0,rfl,λp h=>.inl h,λp h=>h,λy h=>by cases h⟩
 |(n,k)::r,cs0,h=>by
  by_cases hk:k=.free
  .subst hk
   obtain⟨c,hc⟩:=h (n,.free) (.head _) rfl
   obtain⟨cl,e,h1,h2,h3⟩:=ZcI r ((n,c)::cs0) λy hy=>h y (.tail _ hy)
   refine⟨cl,?_,λp hp=>?_,λp hp=>h2 p (.tail _ hp),λy hy hf=>?_⟩
   .rw[List.forIn_cons]
    have e1:cellOf env n=pure c:=by unfold cellOf;rw[hc]
    simp only[beq_self_eq_true,if_true,e1,pure_bind]
    exact e
   .rcases h1 p hp with q|q
    .rcases Ym.mp q with q|q
     .subst q;exact .inr hc
     .exact .inl q
    .exact .inr q
   .rcases Ym.mp hy with q|q
    .subst q;exact⟨c,h2 _ (.head _)⟩
    .exact h3 y q hf
  .obtain⟨cl,e,h1,h2,h3⟩:=ZcI r cs0 λy hy=>h y (.tail _ hy)
   refine⟨cl,?_,h1,h2,λy hy hf=>?_⟩
   .rw[List.forIn_cons]
    have e1:(k==NameKind.free)=false:=by cases k<;>first|rfl|exact absurd rfl hk
    simp only[e1,Bool.false_eq_true,if_false,pure_bind]
    exact e
   .rcases Ym.mp hy with q|q
    .subst q;exact absurd hf hk
    .exact h3 y q hf
theorem Zan {env:Env}:∀{names:List (Str×NameKind)}{x:Str}{k:NameKind},(names.map λ(n,k)=>if (k==NameKind.free&&env.scope.kind==.function&&env.kindOf n==some .cell)then (n,NameKind.cell)else (n,k)).lookup x=some k ->
  ∃k',names.lookup x=some k'/\(k=k'\/(k'=.free/\k=.cell))
 |[],_,_,h=>by simp at h
 |(n,k0)::r,x,k,h=>by
  by_cases hx:x=n
  .subst hx
   refine⟨k0,by simp,?_⟩
   simp only[YO]at h
   split at h
   .rename_i hc
    simp only[Bool.and_eq_true,beq_iff_eq]at hc
    simp only[List.lookup_cons_self,Option.some.injEq]at h
    exact .inr ⟨hc.1.1,h.symm⟩
   .simp only[List.lookup_cons_self,Option.some.injEq]at h
    exact .inl h.symm
  .have hb:(x==n)=false:=by simpa using hx
   simp only[YO]at h
   have e2:∀k1,((n,k1)::r).lookup x=r.lookup x:=λk1=>by simp[List.lookup_cons,hb]
   split at h<;>(simp only[List.lookup_cons,hb]at h;obtain⟨k',h1,h2⟩:=Zan h;exact⟨k',by rw[e2];exact h1,h2⟩)
noncomputable def ZjU (X:Cx) (Nc:List Str) (scope:Scope) (cl:List (Str×Addr)) (C:Addr) (s2:Shared) (H2:Hp) (fp:List Addr):Cx where
 prog:=X.prog
 w:=X.w
 K:=X.K
 mg:=X.mg
 base:=X.base
 A:=X.A
 N:=Nc
 s₀:=s2
 H₀:=H2
 env:=compEnvC scope cl C X.env
 outer:=X.stack
 stack:=X.stack
 ex:=fp
 fn:=λ_=>false
 calm:=X.calm
 pn:=[]
 xe:=λ_ _=>False
noncomputable def iniC (js:List (Option Nat)) (σ:St):St:=js.map λj=>match j with
 |none=>none
 |some i=>(σ[i]?).join
noncomputable def Zas (N Nc:List Str) (scope:Scope):List (Option Nat)->Nat->Bool
 |[],i=>i==Nc.length
 |none::r,i=>Zas N Nc scope r (i+1)
 |some j::r,i=>(match Nc[i]?,N[j]? with
  |some x,some y=>x==y&&scope.names.lookup x==some .free
  |_,_=>false)&&Zas N Nc scope r (i+1)
theorem ZcJ {N Nc:List Str}{scope:Scope}:∀{js:List (Option Nat)}{i:Nat},Zas N Nc scope js i=true->i+js.length=Nc.length
 |[],i,h=>by simpa[Zas]using h
 |none::r,i,h=>by
  have:=ZcJ (js:=r) (i:=i+1) (by simpa[Zas]using h)
  simp only[YC];omega
 |some j::r,i,h=>by
  simp only[Zas,Bool.and_eq_true]at h
  have:=ZcJ (js:=r) (i:=i+1) h.2
  simp only[YC];omega
theorem ZdB {N Nc:List Str}{scope:Scope}:∀{js:List (Option Nat)}{i k j:Nat},Zas N Nc scope js i=true->js[k]?=some (some j)->∃x,Nc[i+k]?=some x/\N[j]?=some x/\scope.names.lookup x=some .free
 |[],i,k,j,h,e=>by simp at e
 |none::r,i,0,j,h,e=>by simp at e
 |none::r,i,k+1,j,h,e=>by
  obtain⟨x,h1,h2,h3⟩:=ZdB (js:=r) (i:=i+1) (k:=k) (j:=j) (by simpa[Zas]using h) (by simpa using e)
  exact⟨x,by rw[<-h1];congr 1;omega,h2,h3⟩
 |some j0::r,i,0,j,h,e=>by
  simp only[Zas,Bool.and_eq_true]at h
  simp only[List.getElem?_cons_zero,Option.some.injEq]at e
  subst e
  cases e1:Nc[i]? with
  |none=>rw[e1]at h;simp at h
  |some x =>
   cases e2:N[j0]? with
   |none=>rw[e1,e2]at h;simp at h
   |some y =>
    rw[e1,e2]at h
    simp only[Bool.and_eq_true,beq_iff_eq]at h
    exact⟨x,by simpa using e1,by rw[h.1.1],h.1.2⟩
 |some j0::r,i,k+1,j,h,e=>by
  simp only[Zas,Bool.and_eq_true]at h
  obtain⟨x,h1,h2,h3⟩:=ZdB (js:=r) (i:=i+1) (k:=k) (j:=j) h.2 (by simpa using e)
  exact⟨x,by rw[<-h1];congr 1;omega,h2,h3⟩
section
variable {X:Cx}
theorem lookup_mem {names:List (Str×NameKind)}{x:Str}{k:NameKind} (h:names.lookup x=some k):(x,k)∈names:=PySem.mem_of_lookup h
theorem Zb8 {prog:Program}{w:World}{A:Around}{R:Result->Shared->Prop}{s:Shared}{elt target iter:Expr}{ifs:List Expr}{scope:Scope}{pos:Pos}{it acc:Value}{env:Env} (I:Nat->Shared->Prop)
  (turn:∀n s,I n s->wpAny (model prog w) A (pyNext it) (λr s₁=>match r with
   |none=>R (.ok .next) s₁
   |some v=>wpAny (model prog w) A (letOwnedTupleGo target it v) (λ_ s₁=>wpAny (model prog w) A (assign target env v) (λ_ s₂ =>
     wpAny (model prog w) A (forIn ifs true λc r=>if r=true then do let ok <-isTrue c env (eval c env);pure (ForInStep.yield ok)else pure (ForInStep.yield r)) (λok s₃ =>
      if ok=true then wpAny (model prog w) A (eval elt env) (λx s₄ =>
       wpAny (model prog w) A (call (.builtin "list.append") [acc,x]) (λ_ s₅=>∃m,m<n/\I m s₅) (λ_ _=>False) s₄) (λ_ _=>False) s₃
      else ∃m,m<n/\I m s₃) (λ_ _=>False) s₂) (λ_ _=>False) s₁) (λ_ _=>False) s₁) (λ_ _=>False) s)
  (n:Nat) (h:I n s) :
  codeAny (model prog w) A (.compLoop (.ListComp elt [⟨target,iter,ifs,0⟩] scope pos) 0 it acc env) R s:=by
 refine codeAny_loop rfl I (λn s hI=>?_) n h
 show wpAny _ A ((compTurn (.ListComp elt [⟨target,iter,ifs,0⟩] scope pos) 0 it acc env).onRaise (λx=>do noteFrame x env;theTreesLotGoes x)) _ _ s
 refine wpAny_noted ?_
 rw[compTurn_list]
 refine Ya (wpAny_standAt (Ya (Yw (turn n s hI) (λr s₁ h₁=>?_) λ_ _ h'=>h'.elim)))
 cases r with
 |none=>exact Ye h₁
 |some v =>
  refine Ya (Yw h₁ (λ_ s₁' h₁=>?_) λ_ _ h'=>h'.elim)
  refine Ya (Yw h₁ (λ_ s₂ h₂=>Ya (Yw h₂ (λok s₃ h₃=>?_) λ_ _ h'=>h'.elim)) λ_ _ h'=>h'.elim)
  cases ok with
  |false=>exact Ye ⟨rfl,h₃⟩
  |true =>
   exact Ya (Ya (Yw h₃ (λx s₄ h₄=>Ya (Yw h₄ (λ_ s₅ h₅=>Ye (Ye ⟨rfl,h₅⟩)) λ_ _ h'=>h'.elim)) λ_ _ h'=>h'.elim))
noncomputable def Zje (X:Cx) (ifs:List Expr) (t:TT):Prop :=
 ∀(pins:List (Addr×Obj)) (s:Shared) (σ:St) (H:Hp) (Q:Bool->Hp->Prop),Inv X pins σ H s->t σ H Q ->
  wpAny (model X.prog X.w) X.A (forIn ifs true λc r=>if r=true then do let ok <-isTrue c X.env (eval c X.env);pure (ForInStep.yield ok)else pure (ForInStep.yield r)) (TP X pins σ Q) X.xe s
noncomputable def tYes:TT:=λ_ H Q=>Q true H
theorem Zaa:Zje X [] tYes:=λpins s σ H Q I h=>wpAny_tests_nil ⟨H,I,h⟩
theorem Zc9 {c:Expr}{t:TT} (h:PT X c t):Zje X [c] t:=λpins s σ H Q I hq=>wpAny_tests_one (h pins s σ H Q I hq)
noncomputable def ZjV (L:List Nat) (σ σ':St):Prop:=σ'.length=σ.length/\∀k,k∉L->σ'[k]?=σ[k]?
noncomputable def ZiS (g:TG) (L:List Nat):Prop:=∀v σ H (Q Q':St->Hp->Prop),(∀σ' H',ZjV L σ σ'->Q σ' H'->Q' σ' H')->g v σ H Q->g v σ H Q'
theorem ZL {i:Nat}:ZiS (gName i) [i]:=λv σ H Q Q' hq h=>hq _ _ ⟨by simp,λk hk=>by
 rw[List.getElem?_set_ne]
 intro z;subst z;exact hk (by simp)⟩ h
noncomputable def ZiT (wi:TI) (g:TG) (tt:TT) (te:TE) (js:List (Option Nat)):TE:=fun σ H Q=>wi σ H λJ H1=>∃W:Nat->Nat->List V->Hp->Prop,(∃m,W 0 m [] H1)/\∀i m acc H,W i m acc H ->
 (J.stop i H/\acc.length<=sizeLine/\∀p,H p=none->Q (.ref p) (upd H p (.lst acc))) \/
 (J.go i H/\acc.length<sizeLine/\∀x H',J.yld i H x H'->g x (iniC js σ) H' fun σ2 H2=>tt σ2 H2 λb H3=>if b=true then te σ2 H3 λv H4=>∃m',m'<m/\W (i+1) m' (acc++[v]) H4 else ∃m',m'<m/\W (i+1) m' acc H3)
theorem Zgc {C:Addr}{h:Heap}:Heap.SameBut C h h:=by
 first|exact Heap.SameBut.refl|exact⟨rfl,λ_ _=>rfl⟩
end
end Lake
namespace Lake
open PySem PySem.Spec PyProof.Rows PySem.W PySem.Builtin.ObjectAttr PySem.Builtin.Getset_descriptor
noncomputable def Zg5 (x C:Addr) (h:Heap):Prop:=∃o,h.get? x=some o/\o.cls=.ref C
structure ExK (K:Frag) (C:Addr):Prop where
 dk:hasDictIn K C=true
 ga:findIn K (.ref C) "__getattribute__"=some (some (.builtin "BaseException.__getattribute__"))
 gt:findIn K (.ref C) "__getattr__"=some none
 cl:findIn K (.ref C) "__class__"=some (some (.builtin "object.__class__"))
 gg:specialIn K (.builtin "object.__class__") "__get__"=some (some (.builtin "getset_descriptor.__get__"))
 tk:takesIn K (.builtin "object.__class__")=some true
 mo:mroIn K C (.type "object")=some true
 mb:mroIn K C (.type "BaseException")=some true
section
variable {K:Frag}{x C:Addr}
theorem Zg5.type {M:Model}{h:Heap} (I:Zg5 x C h):Looks M h (typeOf (.ref x)) (.ref C):=by
 obtain⟨o,e,c⟩:=I
 exact c▸(Looks.ld e).andThen .now
theorem ZjW {M:Model}{h:Heap} (X:K.In h) (Z:ExK K C):Looks M h (find (.ref x) (.ref C) "__class__") (.bind (.builtin "getset_descriptor.__get__") (.builtin "object.__class__")):=by
 have L3:=looks_takesIn (M:=M) X Z.tk
 exact(looks_findIn (M:=M) X Z.cl).andThen ((looks_specialIn X Z.gg).andThen
  ((show Looks M h (dataDescriptor? (some (.builtin "object.__class__")) (some (.builtin "getset_descriptor.__get__"))) (some (.builtin "getset_descriptor.__get__",.builtin "object.__class__"))from L3.andThen .now).andThen (Looks.tag .now)))
theorem ZkI {prog:Program}{w:World}{A:Around}{R:Result->Shared->Prop}{s:Shared}{tp:Value} (X:K.In s.heap) (I:Zg5 x C s.heap) (Z:ExK K C) (hR:R (.ok (.ret (.ref C))) s) :
  codeAny (model prog w) A (.call (.builtin "getset_descriptor.__get__") ⟨[.builtin "object.__class__",.ref x,tp],[]⟩) R s:=by
 obtain⟨hp,gn,dw,tk,os⟩:=s
 have L0:=I.type (M:=model prog w)
 have L1:=looks_mroIn (M:=model prog w) X Z.mo
 refine codeAny_call_builtin KF.slot_gs.plain KF.entry_gs (KF.slot_gs.check _ _ _ _ _ _ _ _ KF.type_class (KF.args_gs _ _ _) ?_)
 unfold Builtin.«getset_descriptor.__get__» descrGet;rw[dga_obj];refine Ya (Ye ?_)
 unfold descrGetter descrCheckInstance descrNameAndClass isInstance;simp only[KF.owner_class]
 repeat lk
 refine⟨Code.quiet_builtin _ (by decide +kernel),codeAny_builtin KF.entry_class ?_⟩;unfold Builtin.«object.__class__» shownTypeOf
 repeat lk
 exact hR
theorem Zjf {prog:Program}{w:World}{A:Around}{E:Value->Shared->Prop}{s:Shared}{tk:Tok}{Q:Fin->Shared->Prop} (X:K.In s.heap) (I:Zg5 x C s.heap) (Z:ExK K C) (hQ:Q (.done (.ret (.ref C))) s) :
  wpAny (model prog w) A (Builtin.«object.__getattribute__» ⟨[.ref x,.str "__class__" tk],[]⟩) Q E s:=by
 obtain⟨hp,gn,dw,t,os⟩:=s
 have L0:=I.type (M:=model prog w)
 have L2:=ZjW (M:=model prog w) (x:=x) X Z
 unfold Builtin.«object.__getattribute__»
 refine Ya (Ye (Ya (Ye (Ya (L0.at (Ya (L2.at ?_)))))))
 show wpAny _ _ (holding _ (call _ _) >>= ret) _ _ _
 exact Ya (YE (wpAny_call (ZkI (s:=⟨hp,gn,dw,t,os⟩) X I Z (Ye hQ))))
theorem Zjg {M:Model}{A:Around}{E:Value->Shared->Prop}{s:Shared}{nameV:Value}{Q:Unit->Shared->Prop} (X:K.In s.heap) (I:Zg5 x C s.heap) (Z:ExK K C) (hq:Q () s) :
  wpAny M A (checkBuiltinCall "BaseException.__getattribute__" ⟨[.ref x,nameV],[]⟩) Q E s:=by
 obtain⟨hp,gn,dw,t,os⟩:=s
 have hk:builtinKind "BaseException.__getattribute__"=some .slot:=by decide +kernel
 have hsplit:splitId "BaseException.__getattribute__"=some ("BaseException","__getattribute__"):=by decide +kernel
 have L0:=I.type (M:=M)
 have L1:=looks_mroIn (M:=M) X Z.mb
 have ha:=F.args_bexc_ga (.ref x) nameV
 simp only[checkBuiltinCall,hk,hsplit]
 refine Ya ?_
 unfold isInstance
 refine Ya (L0.at (L1.at ?_))
 repeat (first|assumption|wp_step)
theorem Zjh {prog:Program}{w:World}{A:Around}{E:Value->Shared->Prop}{s:Shared}{Q:Option Value->Shared->Prop} (X:K.In s.heap) (I:Zg5 x C s.heap) (Z:ExK K C) (hQ:Q (some (.ref C)) {s with toks:=s.toks+1}) :
  wpAny (model prog w) A (getAttr? (.ref x) "__class__") Q E s:=by
 obtain⟨hp,gn,dw,tk,os⟩:=s
 have L0:=I.type (M:=model prog w)
 have L1:=looks_findIn (M:=model prog w) X Z.ga
 have L3:=looks_findIn (M:=model prog w) X Z.gt
 have hb:=(F.attrBase_ValueError.ga).bind (.ref x)
 unfold getAttr? getAttrBy? getAttrBy;refine Ya (wpAny_mkText (Ya (wpAny_attempt (YE (Ya (L0.at (Ya (L1.at ?_))))))))
 show wpAny _ _ (getAttrByItsOwn _ _ _ _ _ _) _ _ _
 unfold getAttrByItsOwn hookBefore
 refine Ya (L3.at ?_)
 refine Ya (wpAny_attempt (YE ?_))
 unfold callGetattribute
 show wpAny _ _ (boundAndCalled _ _ _) _ _ _
 unfold boundAndCalled
 rw[hb]
 refine Ya (Ye ?_)
 refine wpAny_call ?_
 refine codeAny_call_builtin F.attrBase_ValueError.ga.plain F.entry_bexc_ga (Zjg (s:=⟨hp,gn,dw,tk+1,os⟩) X I Z (Zjf (s:=⟨hp,gn,dw,tk+1,os⟩) X I Z ?_))
 exact handed_on rfl (Ye hQ)
theorem ZkJ (Z:ExK K C):KitX K (.ref x) (.ref C) (Zg5 x C) where
 ty:=λ_ _ _ I=>I.type
 it:=λ_ _ X _=>by
  obtain⟨cdD,hcD,_⟩:=any_some Z.dk
  unfold clsIn at hcD
  split at hcD
  .rename_i c' d' cd' sl' ho
   intro A' Q' E' s' k q
   unfold isType loadHead;exact Ya (wpAny_loadPart (k _ _ (X _ _ ho)) (Ye q))
  .cases hcD
 ne:=λh tp dd its n sl X htp=>by
  obtain⟨cdD,hcD,_⟩:=any_some Z.dk
  refine Bool.eq_false_iff.mpr λq=>?_
  have e:C=tp:=Value.ref.inj (beq_iff_eq.mp q);subst e
  unfold clsIn at hcD
  split at hcD
  .rename_i c' d' cd' sl' ho
   have z:=(X _ _ ho).symm.trans htp;cases z
  .cases hcD
 ca:=λX I k=>Zjh X I Z k
end
noncomputable def Zd9 (e C:Addr):HO:=.ext (Zg5 e C)
noncomputable def tyIs (K:Frag) (H:Hp) (x:V) (c:Value) (b:Bool):Prop :=
 (∃t,TyOf K H x t/\kitOne K t c=some b)\/∃e C,x=.ref e/\H e=some (Zd9 e C)/\ExK K C/\kitOne K (.ref C) c=some b
noncomputable def cOf:V->Option Value
 |.ref a=>some (.ref a)
 |.ty n=>some (.type n)
 |_=>none
section
variable {X:Cx}
noncomputable def rIsi (K:Frag):List V->Hp->VK->Prop:=λxs H Q=>∃x v c b,xs=[x,v]/\cOf v=some c/\tyIs K H x c b/\Q (.bl b) H
theorem ZjX:Zaq X (.builtin "isinstance") (rIsi X.K):=by
 intro pins s σ H xs us Q I r h
 obtain⟨x,v,c,b,rfl,hc,ht,q⟩:=h
 obtain⟨u,u2,rfl,ru,ru2⟩:=r.two
 have e2:u2=c:=by
  cases v with
  |ref a=>have:=(show u2=Value.ref a from ru2);cases hc;exact this
  |ty n=>have:=(show u2=Value.type n from ru2);cases hc;exact this
  |_=>cases hc
 subst e2
 have fin:∀tk,EP X pins σ Q (.bool b) {s with toks:=tk}:=λtk=>⟨.bl b,H,I.tok tk,rfl,q⟩
 rcases ht with⟨t,ty,e⟩|⟨e,C,rfl,hH,Z,e1⟩
 .exact Zi8 I ru ty e fin
 .cases(show u=Value.ref e from ru)
  obtain⟨p,_,_⟩:=(show Z8 X.prog X.w H s.heap e (Zd9 e C)from I.hok e _ hH)
  exact kia_one (ZkJ Z) I.kIn p e1 (λz=>nomatch z) fin
end
end Lake
namespace PySem
theorem Runs.one {M:Model} {Γ:Ctx}{p:Pos}{t:Sem Fin}{fs:List Frame}{s s':Shared}{e:End} (h:Runs M Γ p t fs s e s'):∀{e2:End}{s2:Shared},Runs M Γ p t fs s e2 s2->e2=e/\s2=s':=by
 induction h with
 |done=>intro e2 s2 h2;cases h2;exact⟨rfl,rfl⟩
 |raise=>intro e2 s2 h2;cases h2;exact⟨rfl,rfl⟩
 |again _ _ ih=>intro e2 s2 h2;cases h2 with|again _ h=>exact ih h
 |rule _ ih=>intro e2 s2 h2;cases h2 with|rule h=>exact ih h
 |«at» _ ih=>intro e2 s2 h2;cases h2 with|«at» h=>exact ih h
 |load q _ ih=>intro e2 s2 h2;cases h2 with|load q2 h=>rw[q]at q2;cases q2;exact ih h
 |update _ _ ih=>intro e2 s2 h2;cases h2 with|update _ h=>exact ih h
 |loadIfAlive _ ih=>intro e2 s2 h2;cases h2 with|loadIfAlive h=>exact ih h
 |point _ ih=>intro e2 s2 h2;cases h2 with|point h=>exact ih h
 |alloc _ ih=>intro e2 s2 h2;cases h2 with|alloc h=>exact ih h
 |fresh _ ih=>intro e2 s2 h2;cases h2 with|fresh h=>exact ih h
 |ask _ ih=>intro e2 s2 h2;cases h2 with|ask h=>exact ih h
 |choose _ _ ih=>intro e2 s2 h2;cases h2 with|choose _ h=>exact ih h
 |os _ ih=>intro e2 s2 h2;cases h2 with|os h=>exact ih h
 |handled _ ih=>intro e2 s2 h2;cases h2 with|handled h=>exact ih h
 |genState q _ ih=>intro e2 s2 h2;cases h2 with|genState q2 h=>rw[q]at q2;cases q2;exact ih h
 |stack _ ih=>intro e2 s2 h2;cases h2 with|stack h=>exact ih h
 |thread _ ih=>intro e2 s2 h2;cases h2 with|thread h=>exact ih h
 |newGen _ ih=>intro e2 s2 h2;cases h2 with|newGen h=>exact ih h
 |call _ _ ih1 ih2 =>
  intro e2 s2 h2
  cases h2 with
  |call h h'=>obtain⟨a,b⟩:=ih1 h;cases a;cases b;exact ih2 h'
  |callSusp h=>obtain⟨a,_⟩:=ih1 h;cases a
 |callSusp _ ih =>
  intro e2 s2 h2
  cases h2 with
  |call h h'=>obtain⟨a,_⟩:=ih h;cases a
  |callSusp h=>obtain⟨a,b⟩:=ih h;cases a;cases b;exact⟨rfl,rfl⟩
 |yield=>intro e2 s2 h2;cases h2;exact⟨rfl,rfl⟩
 |resumeFresh q _ _ _ ih1 ih2 =>
  intro e2 s2 h2
  cases h2 with
  |resumeFresh q2 h _ h'=>rw[q]at q2;cases q2;obtain⟨rfl,rfl⟩:=ih1 h;exact ih2 h'
  |resumeSuspended q2=>rw[q]at q2;cases q2
  |resumeJustStarted q2 n=>exact absurd rfl n
  |resumeRunning q2=>rw[q]at q2;cases q2
  |resumeFinished q2=>rw[q]at q2;cases q2
 |resumeSuspended q _ _ _ ih1 ih2 =>
  intro e2 s2 h2
  cases h2 with
  |resumeSuspended q2 h _ h'=>rw[q]at q2;cases q2;obtain⟨rfl,rfl⟩:=ih1 h;exact ih2 h'
  |resumeFresh q2=>rw[q]at q2;cases q2
  |resumeJustStarted q2=>rw[q]at q2;cases q2
  |resumeThrowFresh q2=>rw[q]at q2;cases q2
  |resumeRunning q2=>rw[q]at q2;cases q2
  |resumeFinished q2=>rw[q]at q2;cases q2
 |resumeJustStarted q n _ ih =>
  intro e2 s2 h2
  cases h2 with
  |resumeFresh q2=>exact absurd rfl n
  |resumeSuspended q2=>rw[q]at q2;cases q2
  |resumeJustStarted _ _ h=>exact ih h
  |resumeRunning q2=>rw[q]at q2;cases q2
  |resumeFinished q2=>rw[q]at q2;cases q2
 |resumeThrowFresh q _ ih =>
  intro e2 s2 h2
  cases h2 with
  |resumeThrowFresh _ h=>exact ih h
  |resumeSuspended q2=>rw[q]at q2;cases q2
  |resumeRunning q2=>rw[q]at q2;cases q2
  |resumeFinished q2=>rw[q]at q2;cases q2
 |resumeRunning q _ ih =>
  intro e2 s2 h2
  cases h2 with
  |resumeRunning _ h=>exact ih h
  |resumeFresh q2=>rw[q]at q2;cases q2
  |resumeSuspended q2=>rw[q]at q2;cases q2
  |resumeJustStarted q2=>rw[q]at q2;cases q2
  |resumeThrowFresh q2=>rw[q]at q2;cases q2
  |resumeFinished q2=>rw[q]at q2;cases q2
 |resumeFinished q _ ih =>
  intro e2 s2 h2
  cases h2 with
  |resumeFinished _ h=>exact ih h
  |resumeFresh q2=>rw[q]at q2;cases q2
  |resumeSuspended q2=>rw[q]at q2;cases q2
  |resumeJustStarted q2=>rw[q]at q2;cases q2
  |resumeThrowFresh q2=>rw[q]at q2;cases q2
  |resumeRunning q2=>rw[q]at q2;cases q2
 |segRet _ _ ih1 ih2 =>
  intro e2 s2 h2
  cases h2 with
  |segRet h h'=>obtain⟨a,rfl⟩:=ih1 h;cases a;exact ih2 h'
  |segSuspOut _ h=>obtain⟨a,_⟩:=ih1 h;cases a
  |segSuspGen _ h=>obtain⟨a,_⟩:=ih1 h;cases a
 |segGen _ _ ih1 ih2 =>
  intro e2 s2 h2
  cases h2 with
  |segGen h h'=>obtain⟨a,rfl⟩:=ih1 h;cases a;exact ih2 h'
  |segSuspOut _ h=>obtain⟨a,_⟩:=ih1 h;cases a
  |segSuspGen _ h=>obtain⟨a,_⟩:=ih1 h;cases a
 |segSuspOut q _ ih =>
  intro e2 s2 h2
  cases h2 with
  |segRet h h'=>obtain⟨a,_⟩:=ih h;cases a
  |segGen h h'=>obtain⟨a,_⟩:=ih h;cases a
  |segSuspOut _ h=>obtain⟨a,b⟩:=ih h;cases a;cases b;exact⟨rfl,rfl⟩
  |segSuspGen q2 h=>rw[q]at q2;cases q2
 |segSuspGen q _ _ _ ih1 ih2 =>
  intro e2 s2 h2
  cases h2 with
  |segRet h h'=>obtain⟨a,_⟩:=ih1 h;cases a
  |segGen h h'=>obtain⟨a,_⟩:=ih1 h;cases a
  |segSuspOut q2 h=>rw[q]at q2;cases q2
  |segSuspGen q2 h _ h'=>rw[q]at q2;cases q2;obtain⟨a,b⟩:=ih1 h;cases a;cases b;exact ih2 h'
theorem Wakes.one {M:Model} {Γ:Ctx}{p:Pos}{g:Nat}{r:Resume}{s s1 s2:Shared}{a b:GenResult} (h:Wakes M Γ p g r s a s1) (k:Wakes M Γ p g r s b s2):b=a/\s2=s1:=by
 unfold Wakes at h k
 cases e:s.gens[g]? with
 |none=>rw[e]at h;exact h.elim
 |some x =>
  rw[e]at h k
  cases x with
  |fresh c =>
   cases r with
   |send v =>
    by_cases hv:v=.none
    .subst hv
     obtain⟨e1,t1,r1,_,rfl,rfl⟩:=h
     obtain⟨e2,t2,r2,_,rfl,rfl⟩:=k
     obtain⟨rfl,rfl⟩:=Runs.one r1 r2
     exact⟨rfl,rfl⟩
    .cases v<;>first|exact absurd rfl hv|exact⟨k.1.trans h.1.symm,k.2.trans h.2.symm⟩
   |throw x=>exact⟨k.1.trans h.1.symm,k.2.trans h.2.symm⟩
  |suspended k0 l c p0 fs cl =>
   obtain⟨e1,t1,r1,_,rfl,rfl⟩:=h
   obtain⟨e2,t2,r2,_,rfl,rfl⟩:=k
   obtain⟨rfl,rfl⟩:=Runs.one r1 r2
   exact⟨rfl,rfl⟩
  |running=>exact⟨k.1.trans h.1.symm,k.2.trans h.2.symm⟩
  |finished=>exact⟨k.1.trans h.1.symm,k.2.trans h.2.symm⟩
theorem Sem.ZkK {α:Type} (M:Model) (Γ:Ctx) (t:Sem α):∀(Q R:α->Pos->Shared->Prop) (E F:Value->Pos->Shared->Prop) (p:Pos) (s:Shared),Sem.wp M Γ t Q E p s->Sem.wp M Γ t R F p s ->
  Sem.wp M Γ t (λa p' s'=>Q a p' s'/\R a p' s') (λe p' s'=>E e p' s'/\F e p' s') p s:=by
 induction t with
 |pure a=>intro Q R E F p s h k;exact⟨h,k⟩
 |raise e=>intro Q R E F p s h k;exact⟨h,k⟩
 |unsupported _=>intro Q R E F p s h k;exact h
 |finish _=>intro Q R E F p s h k;exact h
 |rule _ f ih=>intro Q R E F p s h k;exact ih () Q R E F p s h k
 |«at» p' f ih=>intro Q R E F p s h k;exact ih () Q R E F p' s h k
 |load a _ f ih =>
  intro Q R E F p s h k
  obtain⟨o,ho,h⟩:=h
  obtain⟨o',ho',k⟩:=k
  rw[ho]at ho';cases ho'
  exact⟨o,ho,ih o Q R E F p s h k⟩
 |update a _ f g ih=>intro Q R E F p s h k;exact⟨h.1,ih () Q R E F p _ h.2 k.2⟩
 |loadIfAlive a f ih=>intro Q R E F p s h k;exact ih _ Q R E F p s h k
 |point _ f ih=>intro Q R E F p s h k;exact ih () Q R E F p s h k
 |register _ _=>intro Q R E F p s h k;exact h
 |alloc o f ih=>intro Q R E F p s h k;exact ih _ Q R E F p _ h k
 |fresh f ih=>intro Q R E F p s h k;exact ih _ Q R E F p _ h k
 |ask f ih=>intro Q R E F p s h k;exact ih _ Q R E F p s h k
 |choose src m f ih=>intro Q R E F p s h k;exact⟨h.1,ih _ Q R E F p _ h.2 k.2⟩
 |os q _ f ih=>intro Q R E F p s h k;exact ih _ Q R E F p _ h k
 |call c hd _ _ f ih =>
  intro Q R E F p s h k
  obtain⟨r,s',h1,h2⟩:=h
  obtain⟨r',s'',k1,k2⟩:=k
  obtain⟨a,b⟩:=Runs.one h1 k1
  cases a;cases b
  exact⟨r,s',h1,ih r Q R E F p s' h2 k2⟩
 |handled own f ih=>intro Q R E F p s h k;exact ih _ Q R E F p s h k
 |genState g f ih =>
  intro Q R E F p s h k
  obtain⟨o,ho,h⟩:=h
  obtain⟨o',ho',k⟩:=k
  rw[ho]at ho';cases ho'
  exact⟨o,ho,ih _ Q R E F p s h k⟩
 |newGen c f ih=>intro Q R E F p s h k;exact ih _ Q R E F p _ h k
 |resume g r _ f ih =>
  intro Q R E F p s h k
  obtain⟨r,s',h1,h2⟩:=h
  obtain⟨r',s'',k1,k2⟩:=k
  obtain⟨rfl,rfl⟩:=Wakes.one h1 k1
  exact⟨_,_,h1,ih _ Q R E F p _ h2 k2⟩
 |yield=>intro Q R E F p s h k;exact h
 |stack f ih=>intro Q R E F p s h k;exact ih _ Q R E F p s h k
 |thread f ih=>intro Q R E F p s h k;exact ih _ Q R E F p s h k
 |fork=>intro Q R E F p s h k;exact h
 |await=>intro Q R E F p s h k;exact h
theorem ZaD {α:Type}{M:Model}{A:Around}{t:Sem α}{Q R:α->Shared->Prop}{E F:Value->Shared->Prop}{s:Shared} (h:wpAny M A t Q E s) (k:wpAny M A t R F s):wpAny M A t (λa s'=>Q a s'/\R a s') (λe s'=>E e s'/\F e s') s :=
 fun Γ p hi=>Sem.ZkK M Γ t _ _ _ _ p s (h Γ p hi) (k Γ p hi)
section
variable {M:Model}{A:Around}{E:Value->Shared->Prop}{s:Shared}
noncomputable def Heap.Z0 (h:Heap) (e:Addr):Prop:=∃oe vs,h.get? e=some oe/\oe.data=.fields vs/\vs[2]?=some Value.none
theorem Heap.Z0.other {h:Heap}{e T:Addr}{f:Obj->Obj} (c:h.Z0 e) (n:T≠e):(h.update T f).Z0 e:=by
 obtain⟨oe,vs,a,b,d⟩:=c
 exact⟨oe,vs,(Heap.get?_update_other _ _ n).trans a,b,d⟩
theorem Heap.Z0.keep {h h':Heap}{e:Addr} (c:h.Z0 e) (k:∀o,h.get? e=some o->h'.get? e=some o):h'.Z0 e:=by
 obtain⟨oe,vs,a,b,d⟩:=c
 exact⟨oe,vs,k _ a,b,d⟩
theorem Heap.Z0.own {h:Heap}{e:Addr}{x:Value} (c:h.Z0 e):(h.update e (Obj.mapFields (·.setIfInBounds 1 x))).Z0 e:=by
 obtain⟨oe,vs,a,b,d⟩:=c
 exact⟨_,_,Heap.get?_update_self _ a (Obj.isFreed_of_fields (Obj.data_mapFields b _)),Obj.data_mapFields b _,by rw[Array.getElem?_setIfInBounds_ne nofun];exact d⟩
theorem Zb9 {base:Heap}{e:Addr}{cls a0 fl:Value} (ht:s.heap.TracedAtW base e cls a0 fl) (c:s.heap.Z0 e):wpAny M A (setFlight (.ref e) none) (λ_ s'=>s'.heap.Z0 e) E s:=by
 obtain⟨oe,vs,T,oT,ts,he,hcls,hd,h1,hnT,hTe,hT,hdT,h3⟩:=ht
 unfold setFlight
 refine Ya (wpAny_field he hd h1 ?_)
 rw[Yc (show(Value.ref T != Value.none)=true from by simp)]
 exact wpAny_setField hT hdT (Array.getElem?_eq_some_iff.mp h3).1 (c.other hTe)
theorem ZdQ {base:Heap}{env:Env}{outer:List Env}{L e:Addr}{cls a0:Value} (hfr:A.frames=some (env::outer)) (hf:env.frame=some L) (hfl:Heap.FlyingW base (env::outer) e cls a0 s.heap) (c:s.heap.Z0 e):wpAny M A (noteFrame (.ref e) env) (λ_ s'=>s'.heap.Z0 e) E s:=by
 obtain⟨f1,f2,hl,ht⟩:=hfl
 obtain⟨oe,vs,T,oT,ts,he,hcls,hd,h1,hnT,hTe,hT,hdT,h3⟩:=ht
 unfold noteFrame
 simp only[hf]
 refine Ya (wpAny_field he hd h1 ?_)
 rw[Yc (show(Value.ref T != Value.none)=true from by simp)]
 refine Ya (wpAny_field hT hdT h3 ?_)
 rw[Yb (show ¬ ((Value.none==rawInt L)=true)from by simp[rawInt])]
 refine Ya (wpAny_setField hT hdT (Array.getElem?_eq_some_iff.mp h3).1 ?_)
 have oth:∀b,b≠T->(s.heap.update T (Obj.mapFields (·.setIfInBounds 3 Value.none))).get? b=s.heap.get? b:=λb hb=>Heap.get?_update_other _ _ (Ne.symm hb)
 have hl2:(s.heap.update T (Obj.mapFields (·.setIfInBounds 3 Value.none))).FunFrames base (env::outer):=hl.of_keeps λb o hb hnf=>⟨o,(oth b λq=>by rw[q,hT]at hb;cases hb;exact hnf ts hdT).trans hb,rfl⟩
 have c2:(s.heap.update T (Obj.mapFields (·.setIfInBounds 3 Value.none))).Z0 e:=c.other hTe
 refine Ya (wpAny_frameOf_fun hfr hl2 hf λh₁ hs₁=>?_)
 have hne:e∉(env::outer).filterMap (·.frame):=λhm=>by
  obtain⟨_,o,ho,hnf⟩:=hl.mem hm
  rw[he]at ho;cases ho;exact hnf vs hd
 have c3:h₁.Z0 e:=c2.keep λo q=>(hs₁.2.1 e hne).trans q
 refine Ya (wpAny_entryPlaceOf λpl hpl=>?_)
 unfold EntryCells.newEntry newFields
 refine Ya (wpAny_newObj_type ?_ (hpl.sizeOk5 _ _ _ _ _))
 obtain⟨o4,v4,a4,b4,d4⟩:=c3
 exact wpAny_setField (Yk _ a4) b4 (by have:=(Array.getElem?_eq_some_iff.mp d4).1;omega) (Heap.Z0.own ⟨o4,v4,Yk _ a4,b4,d4⟩)
theorem Zgd {base:Heap}{env:Env}{outer:List Env}{L e:Addr}{cls a0:Value} (hfr:A.frames=some (env::outer)) (hf:env.frame=some L) (hfl:Heap.FlyingW base (env::outer) e cls a0 s.heap) (c:s.heap.Z0 e):wpAny M A (leaving env (.ref e)) (λ_ s'=>s'.heap.Z0 e) E s:=by
 unfold leaving
 refine Ya (Yw (ZaD (wpAny_looks_onW (E:=E) (Q:=λ_ s'=>∃base,∃fl,s'.heap.TracedAtW base e cls a0 fl) hfr hf hfl λh' hh _=>⟨base,_,hh.2.2.2⟩) (ZdQ (E:=E) hfr hf hfl c)) (λ_ s' q=>?_) λ_ _ q=>q.1)
 obtain⟨⟨_,_,h1⟩,h2⟩:=q
 exact Zb9 h1 h2
theorem Zg6 {base:Heap}{env:Env}{outer:List Env}{L e:Addr}{oe:Obj}{vs:Array Value} (hfr:A.frames=some (env::outer)) (hl:s.heap.FunFrames base (env::outer)) (hf:env.frame=some L)
  (he:s.heap.get? e=some oe) (hd:oe.data=.fields vs) (h1:vs[1]?=some .none) (h2:vs[2]?=some .none):wpAny M A (leaving env (.ref e)) (λ_ s'=>s'.heap.Z0 e) E s:=by
 have hsz:1<vs.size:=(Array.getElem?_eq_some_iff.mp h1).1
 unfold leaving noteFrame
 simp only[hf]
 refine Ya (Ya (wpAny_field he hd h1 ?_))
 rw[Yb nofun]
 refine Ya (wpAny_frameOf_fun hfr hl hf λh₁ hs₁=>?_)
 have hne:e∉(env::outer).filterMap (·.frame):=λhm=>by
  obtain⟨_,o,ho,hnf⟩:=hl.mem hm
  rw[he]at ho;cases ho;exact hnf vs hd
 have e1:h₁.get? e=some oe:=(hs₁.2.1 e hne).trans he
 refine Ya (wpAny_entryPlaceOf λpl hpl=>?_)
 unfold EntryCells.newEntry newFields
 refine Ya (wpAny_newObj_type ?_ (hpl.sizeOk5 _ _ _ _ _))
 refine wpAny_setField (Yk _ e1) hd hsz ?_
 have hTe:h₁.objs.size≠e:=Nat.ne_of_gt (Yh e1)
 have e2:=Heap.get?_update_self (Obj.mapFields (·.setIfInBounds 1 (Value.ref h₁.objs.size))) (Yk (h:=h₁) {cls:=.type "traceback",dict:=none,data:=.fields ([Value.none,.ref L,.none,rawInt L,.none]++(if pl.isEmpty then List.replicate 6 Value.none else pl)).toArray} e1) (Obj.isFreed_of_fields (Obj.data_mapFields hd _))
 have e3:=(Heap.get?_update_other (h₁.push {cls:=.type "traceback",dict:=none,data:=.fields ([Value.none,.ref L,.none,rawInt L,.none]++(if pl.isEmpty then List.replicate 6 Value.none else pl)).toArray}) (Obj.mapFields (·.setIfInBounds 1 (Value.ref h₁.objs.size))) (Ne.symm hTe)).trans (Yv h₁ rfl)
 have c:((h₁.push {cls:=.type "traceback",dict:=none,data:=.fields ([Value.none,.ref L,.none,rawInt L,.none]++(if pl.isEmpty then List.replicate 6 Value.none else pl)).toArray}).update e (Obj.mapFields (·.setIfInBounds 1 (Value.ref h₁.objs.size)))).Z0 e:=⟨_,_,e2,Obj.data_mapFields hd _,by rw[Array.getElem?_setIfInBounds_ne nofun];exact h2⟩
 unfold setFlight
 refine Ya (wpAny_field e2 (Obj.data_mapFields hd _) (x:=.ref h₁.objs.size) (by simp[hsz]) ?_)
 rw[Yc (show(Value.ref h₁.objs.size != Value.none)=true from by simp)]
 exact wpAny_setField e3 rfl (by simp only[Yr,Yn,YC,List.length_nil]<;>omega) (c.other hTe)
end
end PySem
namespace Lake
open PySem PySem.Spec PyProof.Rows
theorem Z8.has {P:Program}{w:World}{H:Hp}{h:Heap}{a:Addr}{o:HO} (x:Z8 P w H h a o):∃u,h.get? a=some u:=by
 induction o with
 |lst xs=>obtain⟨_,_,_,_,e⟩:=x;exact⟨_,e⟩
 |tup xs=>obtain⟨_,_,_,o,e,_⟩:=x;exact⟨_,e⟩
 |dK kvs=>obtain⟨_,_,_,_,o,_,_,e,_⟩:=x;exact⟨_,e⟩
 |dT kvs=>obtain⟨_,_,_,_,o,_,_,e,_⟩:=x;exact⟨_,e⟩
 |set S n=>obtain⟨o,_,_,_,e,_⟩:=x;exact⟨_,e⟩
 |ins C dx fs=>obtain⟨_,_,_,e,_⟩:=x;exact⟨_,e⟩
 |own y=>exact x
 |xd fs=>obtain⟨_,⟨_,_,_,e,_⟩,_⟩:=x;exact⟨_,e⟩
 |rng lo hi=>obtain⟨_,_,_,e⟩:=x;exact⟨_,e⟩
 |frz ob u _=>obtain⟨e,_⟩:=x;exact⟨_,e⟩
 |tbl ps=>obtain⟨_,e,_⟩:=x;exact⟨_,e⟩
 |met f y=>exact⟨_,x⟩
 |ext φ=>obtain⟨_,e,_⟩:=x;exact e
structure Fly (P:Program) (w:World) (outer:List Env) (H:Hp) (s:Shared) (H':Hp) (B:Heap) (e:Addr) (C a0:Value) (s':Shared):Prop where
 os:s'.os=s.os
 bare:AllBare s'.gens
 fly:Heap.FlyingW B outer e C a0 s'.heap
 hok:HOk P w H' B
 keep:∀b o,s.heap.get? b=some o->H b=none->b∉frs outer->B.get? b=some o
 slot:∀b o,s.heap.get? b=some o->b∈frs outer->(∀vs,o.data≠.fields vs)->∃sl,s'.heap.get? b=some {o with slots:=sl}
 free:∀b o,s.heap.get? b=some o->H b=none->H' b=none
 there:∀b o,s.heap.get? b=some o->b∉frs outer->∃o',B.get? b=some o'
 tups:∀b xs,H b=some (.tup xs)->H' b=some (.tup xs)
 frzs:∀b o u,H b=some (.frz o u)->H' b=some (.frz o u)
 tbls:∀b ps,H b=some (.tbl ps)->∃more,H' b=some (.tbl (ps++more))
noncomputable def CXE (P:Program) (w:World):CXT:=λouter H s E ev s'=>∃e C a0 H' B n,ev=.ref e/\Fly P w outer H s H' B e C a0 s'/\E C n H'/\(n=none->Heap.Z0 s'.heap e)
theorem ZA {P:Program}{w:World}{X:Cx}:Passes (CXE P w) X E0:=λ_ _ _ _ _ _ _ ⟨_,_,_,_,_,_,_,_,z,_⟩=>z.elim
section
variable {P:Program}{w:World}{K:PySem.W.Frag}{mg:Str->Option Value}{base:Heap}{N:List Str}{qual:Str}{scope:Scope}{f:Addr}{cd:Value}{A:Around}{outer:List Env}{s:Shared}{H:Hp}{E:XK}
theorem Zge {pins:List (Addr×Obj)}{σ:St}{H1:Hp}{s1:Shared}{h':Heap}{e:Addr}{C:Value}{vs:List Value} (I:Inv (Zbx (CXE P w) P w K mg base N qual scope f cd A outer s H E) pins σ H1 s1)
  (hx:Heap.MadeExcOf s1.heap h' e C vs) (hE:E C none H1):(Zbx (CXE P w) P w K mg base N qual scope f cd A outer s H E).xe (.ref e) {s1 with heap:=h'}:=by
 let env:=envOfC qual scope s.heap.objs.size f cd
 let B:=PySem.W.hideAll s1.heap (frs (env::outer))
 have hin:∀en∈(env::outer),∀b,en.frame=some b->b∈frs (env::outer):=λen he b hb=>List.mem_filterMap.mpr ⟨en,he,hb⟩
 have st:s1.heap.FunFrames base (env::outer):=I.stack
 have loc:∀b,b∈frs (env::outer)->b=s.heap.objs.size\/b∈frs outer:=λb hb=>Ym.mp (I.ZcG b hb)
 have old:∀b o,s.heap.get? b=some o->b∉frs outer->b∉frs (env::outer):=λb o q nb hb=>by
  rcases loc b hb with z|z
  .exact absurd (Yh q) (by rw[z];exact YA _)
  .exact nb z
 have un:Un (frs outer) [] H H1 s.heap s1.heap:=I.base
 have hokB:HOk P w H1 B:=λa o q=>by
  have nf:∀b o,H1 b=some o->b∉frs (env::outer):=λb o z hb=>by
   have:=I.Zc3 b hb
   rw[this]at z;cases z
  refine(I.hok a o q).Zd7 (λb u hb z=>?_) (λ_ z=>z) (λ_ _ z=>z) λ_ _ _ z=>z
  rcases hb with hb|hb
  .rw[hb]at z⊢;exact PySem.W.hideAll_get _ z (nf a o q)
  .exact PySem.W.hideAll_get _ z (nf b _ hb)
 obtain⟨tt,het,_,_⟩:=hx.there
 have both:=ZaD (E:=λe' s''=>CXE P w outer H s E e' s'') (F:=λe' s''=>CXE P w outer H s E e' s'') (wpAny_leaves_madeW (M:=model P w) (A:=A.deeper env) (s:={s1 with heap:=h'}) (Q:=λ_ s3=>∃h2 t,s3={s1 with heap:=h2}/\Heap.FlyingW B outer e C (.ref t) h2/\h'.UpToSlots h2) (base:=B) (h:=s1.heap) (env:=env) (outer:=outer) (L:=s.heap.objs.size) I.ok.frames rfl (λb o q=>PySem.W.of_hideAll _ q) (PySem.W.funFrames_hide st hin) hx λh2 t x1 x2 x3 x4=>⟨h2,t,rfl,x1,x4⟩)
  (Zg6 (base:=B) (outer:=outer) I.ok.frames ((PySem.W.funFrames_hide st hin).of_keeps λb o hb _=>⟨o,hx.keeps b o hb,rfl⟩) rfl het rfl rfl rfl)
 refine Yw both (λ_ s3 q=>?_) λ_ _ q=>q.1
 obtain⟨⟨h2,t,rfl,x1,x4⟩,nc⟩:=q
 refine⟨e,C,.ref t,H1,B,none,rfl,⟨I.os,I.bare,x1,hokB,λb o q n nb=>?_,λb o q hb hd=>?_,λb o q n=>un.free b o q n (by simp),λb o q nb=>?_,un.tups,un.frzs,un.tbls⟩,hE,λ_=>nc⟩
 .exact PySem.W.hideAll_get _ (un.keep b o q n nb (by simp)) (old b o q nb)
 .obtain⟨sl,z⟩:=un.slot b o q (I.ok.frf b hb) hb (by simp)
  obtain⟨sl2,z2⟩:=x4 b _ (hx.keeps _ _ z) hd
  exact⟨sl2,z2⟩
 .obtain⟨o',z⟩:=un.there b o q (by simp)
  exact⟨o',PySem.W.hideAll_get _ z (old b o q nb)⟩
theorem Zcm:Passes (CXE P w) (Zbx (CXE P w) P w K mg base N qual scope f cd A outer s H E) E:=by
 intro pins σ H1 s1 ev s2 I h
 obtain⟨e,C,a0,H',B,n,rfl,F,hE,hN⟩:=h
 let env:=envOfC qual scope s.heap.objs.size f cd
 have un:Un (frs outer) [] H H1 s.heap s1.heap:=I.base
 have loc:∀b,b∈frs (env::outer)->b=s.heap.objs.size\/b∈frs outer:=λb hb=>Ym.mp (I.ZcG b hb)
 have old:∀b o,s.heap.get? b=some o->b∉frs outer->b∉frs (env::outer):=λb o q nb hb=>by
  rcases loc b hb with z|z
  .exact absurd (Yh q) (by rw[z];exact YA _)
  .exact nb z
 have one:=wpAny_leaves_onW (M:=model P w) (A:=A.deeper env) (E:=λe' s''=>CXE P w outer H s E e' s'') (Q:=λ_ s3=>∃h2,s3={s2 with heap:=h2}/\Heap.FlyingW B outer e C a0 h2/\s2.heap.UpToSlots h2) (env:=env) (outer:=outer) (L:=s.heap.objs.size) I.ok.frames rfl F.fly λh2 x1 x2=>⟨h2,rfl,x1,x2⟩
 have both:wpAny (model P w) (A.deeper env) (leaving env (.ref e)) (λ_ s3=>(∃h2,s3={s2 with heap:=h2}/\Heap.FlyingW B outer e C a0 h2/\s2.heap.UpToSlots h2)/\(n=none->s3.heap.Z0 e)) (λe' s''=>CXE P w outer H s E e' s'') s2:=by
  cases n with
  |none=>exact Yw (ZaD one (Zgd (E:=λe' s''=>CXE P w outer H s E e' s'') I.ok.frames rfl F.fly (hN rfl))) (λ_ _ q=>⟨q.1,λ_=>q.2⟩) λ_ _ q=>q.1
  |some k=>exact Yw one (λ_ _ q=>⟨q,λz=>nomatch z⟩) λ_ _ q=>q
 refine Yw both (λ_ s3 q=>?_) λ_ _ q=>q
 obtain⟨⟨h2,rfl,x1,x2⟩,nc⟩:=q
 refine⟨e,C,a0,H',B,n,rfl,⟨F.os.trans I.os,F.bare,x1,F.hok,λb o q n nb=>F.keep b o (un.keep b o q n nb (by simp)) (un.free b o q n (by simp)) (old b o q nb),λb o q hb hd=>?_,λb o q n=>?_,λb o q nb=>?_,λb xs z=>F.tups b xs (un.tups b xs z),λb o u z=>F.frzs b o u (un.frzs b o u z),λb ps z=>?_⟩,hE,nc⟩
 .obtain⟨sl,z⟩:=un.slot b o q (I.ok.frf b hb) hb (by simp)
  obtain⟨en,he,hf⟩:=List.mem_filterMap.mp hb
  obtain⟨sl2,z2⟩:=F.slot b _ z (List.mem_filterMap.mpr ⟨en,.tail _ he,hf⟩) hd
  obtain⟨sl3,z3⟩:=x2 b _ z2 hd
  exact⟨sl3,z3⟩
 .by_cases hb:b∈frs outer
  .have h1:H1 b=none:=un.free b o q n (by simp)
   obtain⟨sl,z⟩:=un.slot b o q n hb (by simp)
   exact F.free b _ z h1
  .exact F.free b o (un.keep b o q n hb (by simp)) (un.free b o q n (by simp))
 .obtain⟨o',z⟩:=un.there b o q (by simp)
  exact F.there b o' z (old b o q nb)
 .obtain⟨m1,z1⟩:=un.tbls b ps z
  obtain⟨m2,z2⟩:=F.tbls b _ z1
  exact⟨m1++m2,by rw[<-Array.append_assoc];exact z2⟩
end
abbrev bmV:List Value:=[.type "ValueError",.type "Exception",.type "BaseException",.type "object"]
abbrev newV:String:="ValueError.__new__"
theorem Zgf {K:PySem.W.Frag}{h:Heap}{mg:Str->Option Value}{x:Str}{C:Addr} (X:K.In h) (hm:mg x=some (.ref C)) (q:PySem.W.excIn K C bmV newV=true):OwnCls x C bmV newV mg h:=by
 refine⟨hm,?_⟩
 unfold PySem.W.excIn at q;split at q
 .rename_i dd cd sl ho
  split at q
  .rename_i C' bm k0 k1 k2 k3 n k5 hmm hs
   simp only[Bool.and_eq_true,beq_iff_eq,Bool.not_eq_true']at q;obtain⟨⟨⟨⟨⟨rfl,rfl⟩,hdel⟩,ht⟩,hok⟩,hni⟩:=q
   obtain⟨nm,bs,mro,ns,qn,hd,sn,sub,ab,col,del⟩:=cd;dsimp only at hmm hdel hok hni;subst hmm hdel
   have hsl:sl=#[k0,k1,k2,k3,some (.builtin newV),k5]:=by obtain⟨l⟩:=sl;simp only at hs;rw[hs]
   subst hsl;exact⟨bm,ns,nm,qn,bs,hd,sn,sub,ab,col,dd,k0,k1,k2,k3,k5,_,X _ _ ho,.of_isNs (PySem.W.isNs_of_in X hok),PySem.W.nsMap_none_of_in X hok hni,PySem.W.tail_of_in X ht⟩
  .cases q
 .cases q
section
variable {X:Cx}
noncomputable def tRaise (C:Addr) (E:XK) (t:TA):TS:=λ_ σ H=>t σ H λvs H1=>vs.length<=sizeLine/\E (.ref C) none H1
theorem Za0 {x:Str}{C:Addr}{np cpos pos:Pos}{e0:Expr}{es:List Expr}{t:TA}{E:XK} (hc:X.calm=true) (hg:Gl X x) (hm:X.mg x=some (.ref C)) (q:PySem.W.excIn X.K C bmV newV=true) (ha:PA X (e0::es) t)
  (hx:∀pins σ H s h' e vs,Inv X pins σ H s->Heap.MadeExcOf s.heap h' e (.ref C) vs->E (.ref C) none H->X.xe (.ref e) {s with heap:=h'})
  (he:starEach (e0::es) X.env=(false,eval e0 X.env)::starEach es X.env:=by rfl) (hpl:(backTo cpos (starEach es X.env)).any (·.1)=false:=by rfl) (hd:(x==("__debug__":Str))=false:=by decide) :
  PS X (.Raise (some (.Call (.Name x np) (e0::es) [] cpos)) none pos) (tRaise C E t):=by
 intro pins s σ H D I h
 obtain⟨tl,Nn,nm,qn,bs,hdct,sn,sub,ab,col,dd,k0,k1,k2,k3,k5,mN,hC,hN,hni,T⟩:=(Zgf (x:=x) I.mod.kin hm q).obj
 refine wpAny_Raise_call_subT (C:=C) (nm:=nm) (q:=qn) (N:=Nn) (bs:=bs) (bm:=tl) (hdct:=hdct) (sn:=sn) (sub:=sub) (ab:=ab) (col:=col) (dd:=dd) (k0:=k0) (k1:=k1) (k2:=k2) (k3:=k3) (k5:=k5)
  PySem.F.excBase_ValueError (mN:=mN) (T.hasType PySem.F.excBase_ValueError.hasBase) (I.ok.hd hc) (by rw[he];show(false||(backTo cpos (starEach es X.env)).any (·.1))=false;rw[hpl];rfl) hni (Zbu I hg hm ⟨rfl,?_⟩ hd)
 have h2:=ha cpos pins s σ H _ I h
 rw[he]at h2⊢
 exact Calls.evalArgs_plain (thn h2 λus s2 ⟨vs,H2,I2,r,z,q2⟩=>⟨rfl,by rw[<-r.length];exact z,I2.bk _ _ hC,hN.keeps I2.bk,T.keeps I2.bk,λh' e hm'=>hx pins σ H2 s2 h' e us I2 hm' q2⟩)
end
noncomputable def Cx.tries (X:Cx) (Ec:St->XK) (pl:List (Addr×Obj)):Cx:={X with pn:=X.pn++pl,xe:=λev s'=>∃σ H s,Inv X pl σ H s/\CXE X.prog X.w X.stack H s (Ec σ) ev s'}
noncomputable def Cx.Za9 (X:Cx) (A':Around):Cx:={X with A:=A',calm:=false,xe:=λ_ _=>False}
section
variable {X:Cx}
theorem Inv.tries {pins:List (Addr×Obj)}{σ:St}{H:Hp}{s:Shared} (I:Inv X pins σ H s) (Ec:St->XK):Inv (X.tries Ec pins) [] σ H s :=
 ⟨⟨I.ok.mod,I.ok.kind,I.ok.glob,I.ok.blt,I.ok.above,I.ok.inj,I.ok.has,I.ok.cab,I.ok.hd,I.ok.frames,I.ok.stk,I.ok.exf,I.ok.bs,I.ok.bsz,I.ok.noex,I.ok.exfs,I.ok.funs,I.ok.frf⟩,I.os,I.bare,I.base,I.loc,I.cell,I.free,I.freeC,
  λp hp=>I.pin p (by simpa[Cx.tries]using hp),I.hok,I.len⟩
theorem Inv.ZaU {pins pl:List (Addr×Obj)}{σ:St}{H:Hp}{s:Shared}{Ec:St->XK} (I:Inv (X.tries Ec pl) pins σ H s):Inv X pl σ H s :=
 ⟨⟨I.ok.mod,I.ok.kind,I.ok.glob,I.ok.blt,I.ok.above,I.ok.inj,I.ok.has,I.ok.cab,I.ok.hd,I.ok.frames,I.ok.stk,I.ok.exf,I.ok.bs,I.ok.bsz,I.ok.noex,I.ok.exfs,I.ok.funs,I.ok.frf⟩,I.os,I.bare,I.base,I.loc,I.cell,I.free,I.freeC,
  λp hp=>I.pin p (YI _ (by simpa[Cx.tries]using hp)),I.hok,I.len⟩
theorem Inv.Za9 {pins:List (Addr×Obj)}{σ:St}{H:Hp}{s:Shared}{A':Around} (I:Inv X pins σ H s) (hA:A'.frames=X.A.frames):Inv (X.Za9 A') pins σ H s :=
 ⟨⟨I.ok.mod,I.ok.kind,I.ok.glob,I.ok.blt,I.ok.above,I.ok.inj,I.ok.has,I.ok.cab,(λz=>nomatch z),hA.trans I.ok.frames,I.ok.stk,I.ok.exf,I.ok.bs,I.ok.bsz,I.ok.noex,I.ok.exfs,I.ok.funs,I.ok.frf⟩,I.os,I.bare,I.base,I.loc,I.cell,I.free,I.freeC,I.pin,I.hok,I.len⟩
theorem Inv.ZkL {pins:List (Addr×Obj)}{σ:St}{H:Hp}{s:Shared}{A':Around} (ok:X.Ok) (I:Inv (X.Za9 A') pins σ H s):Inv X pins σ H s :=
 ⟨ok,I.os,I.bare,I.base,I.loc,I.cell,I.free,I.freeC,I.pin,I.hok,I.len⟩
noncomputable def tCallX (sp:Sp) (E:St->XK) (t:TA):TE:=fun σ H Q=>t σ H λvs H1=>sp vs H1 Q (E σ)
theorem ZjY {f:Addr}{fd:FuncData}{ps:List Str}{sp:Sp}{k:Nat}{x:Str}{p pos:Pos}{e:Expr}{es:List Expr}{t:TA}{E:St->XK} (F:FnOk X.prog X.w X.K X.mg X.base (CXE X.prog X.w) k f fd ps sp) (hr:Room k X.A) (hg:Gl X x) (hm:X.mg x=some (.ref f)) (hk:PySem.W.keepIn X.K (.ref f)=true) (hb:Binds X.K fd ps [])
  (hx:∀pins σ H s ev s',Inv X pins σ H s->CXE X.prog X.w X.stack H s (E σ) ev s'->X.xe ev s') (ha:PA X (e::es) t)
  (hdb:(x==("__debug__":Str))=false:=by decide) (he:starEach (e::es) X.env=(false,eval e X.env)::starEach es X.env:=by rfl) (hpl:(backTo pos (starEach es X.env)).any (·.1)=false:=by rfl) :
  PE X (.Call (.Name x p) (e::es) [] pos) (tCallX sp E t):=by
 intro pins s σ H Q I h
 refine wpAny_Call_Name_kw (Zbu I hg hm ?_ hdb)
 refine PySem.W.callWith_K (h₀:=X.base) I.ok.mod.kin hk (thn (ha pos pins s σ H _ I h) λus s1 ⟨vs,H1,I1,r,q⟩=>⟨I1.kIn,?_⟩) he hpl
 have hl:us.length=ps.length:=by rw[<-r.length];exact F.len _ _ _ _ q
 have hbb:=hb s1 us I1.kIn (by simpa using hl)
 rw[List.append_nil]at hbb
 refine wpAny_call (codeAny_mono (F.run X.A X.stack s1 H1 ⟨us,[]⟩ us vs Q (E σ) hr I1.env0 hbb r q) λr s' hq=>?_)
 cases r with
 |error ev=>exact hx pins σ H1 s1 ev s' I1 hq
 |ok fl =>
  cases fl with
  |ret u=>exact I1.after hq
  |next=>exact False.elim hq
  |brk=>exact False.elim hq
  |cont=>exact False.elim hq
theorem Zg7 {Ec:St->XK}{pl:List (Addr×Obj)}:∀pins σ H s ev s',Inv (X.tries Ec pl) pins σ H s->CXE X.prog X.w X.stack H s (Ec σ) ev s'->(X.tries Ec pl).xe ev s':=λpins σ H s ev s' I h=>⟨σ,H,s,I.ZaU,h⟩
theorem Zcv {M:Model}{A:Around}{E:Value->Shared->Prop}{C D:Addr}{nm' q':Str}{N':Addr}{bs' bm':List Value}{hdct':Bool}{sn':List Str}{sub':List Value}{ab':Bool}{col':Option Bool}{dd':Option Addr}{k0' k1' k2' k3' k5':Option Value}{newId':String}
  {h:Heap}{g:Array GenState}{d:Drawn}{t:Nat}{os:OsState}{e:Addr}{oe:Obj}{Q:Bool->Shared->Prop}
  (LC:PySem.W.Looks M h (isSubtype (.ref C) (.ref D)) true) (hD:h.get? D=some (excClassObj nm' q' D N' bs' bm' hdct' sn' sub' ab' col' dd' k0' k1' k2' k3' k5' newId'))
  (he:h.get? e=some oe) (hcls:oe.cls=.ref C) (hbase:bm'.contains (.type "BaseException")=true)
  (hq:Q true ⟨h,g,d,t,os⟩):wpAny M A (excMatches (.ref e) (.ref D)) Q E ⟨h,g,d,t,os⟩:=by
 have hcB:(Value.ref D::bm').contains (.type "BaseException")=true:=by rw[List.contains_cons,hbase,Bool.or_true]
 have f:=tc_notTuple
 unfold excMatches
 repeat (first|(with_reducible refine wpAny_loadPart_at he ?_;rw[hcls])|with_reducible refine wpAny_loadPart_at hD ?_|(with_reducible refine wpAny_isSubtype_exc hD ?_;rw[hcB])|(with_reducible refine LC.at ?_)|wp_step)
 exact hq
theorem Fly.land {pins:List (Addr×Obj)}{σ:St}{H1 H':Hp}{s1 s2:Shared}{B h5:Heap}{e C:Addr}{a0:Value} (I:Inv X pins σ H1 s1) (F:Fly X.prog X.w X.stack H1 s1 H' B e (.ref C) a0 s2)
  (fl:Heap.FlyingW B X.stack e (.ref C) a0 h5) (sm:s2.heap.UpToSlots h5):H' e=none/\Inv X pins σ (upd H' e (Zd9 e C)) {s2 with heap:=h5}:=by
 obtain⟨oe,vs,hoe,hoc,hod,_⟩:=fl.first
 have nB:B.get? e=none:=fl.2.1
 have trk:∀b o,H' b=some o->b≠e:=λb o q z=>by
  obtain⟨u,hu⟩:=(F.hok b o q).has
  rw[z,nB]at hu;cases hu
 have hHe:H' e=none:=by
  cases q:H' e with
  |none=>rfl
  |some o=>exact absurd rfl (trk e o q)
 have nfr:e∉frs X.stack:=λhb=>by
  obtain⟨_,o,ho,hd⟩:=fl.2.2.1.mem hb
  rw[hoe]at ho;cases ho
  exact hd _ hod
 have frd:∀b o,s1.heap.get? b=some o->b∈frs X.stack->∀vs,o.data≠.fields vs:=λb o q hb=>by
  obtain⟨_,o',ho,hd⟩:=I.stack.mem hb
  rw[q]at ho;cases ho
  exact hd
 refine⟨hHe,I.call' (s':={s2 with heap:=h5}) (ch:=[]) F.os ⟨λb o q n nb _=>fl.1 b o (F.keep b o q n nb),λb o q n hb _=>?_,λb o q n _=>?_,λb o q _=>?_,λb xs q=>?_,λb o u q=>?_,λb ps q=>?_⟩ (λa o q=>?_) F.bare λb z=>absurd z (by simp)⟩
 .obtain⟨sl,z⟩:=F.slot b o q hb (frd b o q hb)
  obtain⟨sl2,z2⟩:=sm b _ z (frd b o q hb)
  exact⟨sl2,z2⟩
 .rw[Zm]
  .exact F.free b o q n
  .intro z
   by_cases hb:b∈frs X.stack
   .exact nfr (z▸hb)
   .have:=F.keep b o q n hb
    rw[z,nB]at this;cases this
 .by_cases hb:b∈frs X.stack
  .obtain⟨sl,z⟩:=F.slot b o q hb (frd b o q hb)
   obtain⟨sl2,z2⟩:=sm b _ z (frd b o q hb)
   exact⟨_,z2⟩
  .obtain⟨o',z⟩:=F.there b o q hb
   exact⟨o',fl.1 b o' z⟩
 .have z:=F.tups b xs q;rw[Zm (trk b _ z)];exact z
 .have z:=F.frzs b o u q;rw[Zm (trk b _ z)];exact z
 .obtain⟨m,z⟩:=F.tbls b ps q
  exact⟨m,by rw[Zm (trk b _ z)];exact z⟩
 .by_cases ha:a=e
  .subst ha
   rw[Zd]at q;cases q
   exact⟨⟨oe,hoe,hoc⟩,⟨oe,hoe⟩,λh1 h2 ⟨o,z1,z2⟩ k=>⟨o,k o z1,z2⟩⟩
  .rw[Zm ha]at q
   exact(F.hok a o q).Zd7 (λb u _ z=>fl.1 b u z) (λb z=>by rw[Zm (trk b _ z)];exact z) (λb xs z=>by rw[Zm (trk b _ z)];exact z) λb o u z=>by rw[Zm (trk b _ z)];exact z
theorem Inv.forget {pins:List (Addr×Obj)}{σ:St}{H:Hp}{s:Shared}{h':Heap}{j:Nat}{n:Str}{m:Str->Option Value}{u:Option Value} (I:Inv X pins σ H s) (hj:X.N[j]?=some n) (hN:X.N.Nodup)
  (hl:∀(i:Nat) (x:Str) (v:V),X.N[i]?=some x->σ[i]?=some (some v)->Vis X.env.scope x->∃u,RelV v u/\Look X.env s.heap m x u)
  (hn:h'.Ns X.env.locals (λx=>if x=n then u else m x)) (hs:Heap.SameBut X.env.locals s.heap h'):Inv X pins (σ.set j none) H {s with heap:=h'}:=by
 have same:∀b o,b≠X.env.locals->s.heap.get? b=some o->h'.get? b=some o:=λb o hb e=>hs.extBut b o hb e
 have old:∀b o,X.s₀.heap.get? b=some o->b≠X.env.locals:=λb o e=>Yo (Ys (Yh e) I.ok.above)
 have trk:∀b o,H b=some o->b≠X.env.locals:=λb o e z=>by rw[z,I.free]at e;cases e
 refine⟨I.ok,I.os,I.bare,⟨λb o e n hb hx=>same _ _ (old b o e) (I.base.keep b o e n hb hx),λb o e n hb hx=>?_,I.base.free,λb o e hx=>?_,I.base.tups,I.base.frzs,I.base.tbls⟩,⟨_,hn,λi x v e1 e2 e3=>?_⟩,λx c e=>?_,I.free,I.freeC,λp hp=>?_,λa o e=>?_,by rw[List.length_set];exact I.len⟩
 .obtain⟨sl,z⟩:=I.base.slot b o e n hb hx
  exact⟨sl,same _ _ (old b o e) z⟩
 .obtain⟨o',z⟩:=I.base.there b o e hx
  exact⟨o',same _ _ (old b o e) z⟩
 .have hij:i≠j:=λz=>by
   subst z
   rw[List.getElem?_set]at e2
   split at e2
   .split at e2<;>cases e2
   .rename_i hh;exact hh rfl
  rw[List.getElem?_set_ne (Ne.symm hij)]at e2
  obtain⟨w,r,l⟩:=hl i x v e1 e2 e3
  refine⟨w,r,?_⟩
  have hxn:x≠n:=λz=>by subst z;exact hij (ZeA hN e1 hj)
  rcases l with⟨l1,l2⟩|⟨l1,c,l2,l3⟩
  .exact .inl ⟨l1,by show(if x=n then u else m x)=_;rw[Yb hxn];exact l2⟩
  .obtain⟨oc,z1,z2⟩:=l3
   exact .inr ⟨l1,c,l2,oc,same _ _ (I.cne x c l2) z1,z2⟩
 .obtain⟨v,oc,z1,z2⟩:=I.cell x c e
  exact⟨v,oc,same _ _ (I.cne x c e) z1,z2⟩
 .obtain⟨z1,z2,z3,z4,z5⟩:=I.pin p hp
  exact⟨same _ _ z3 z1,z2,z3,z4,z5⟩
 .refine(I.hok a o e).Zd7 (λb u hb z=>same b u ?_ z) (λ_ z=>z) (λ_ _ z=>z) λ_ _ _ z=>z
  rcases hb with hb|hb
  .rw[hb];exact trk a o e
  .exact trk b _ hb
noncomputable def tTry (K:PySem.W.Frag) (D:Addr) (tb:(St->XK)->TS) (ts:TS) (j:Nat):TS:=λDe σ H=>∃Ec:St->XK,tb (fun σ C _ H=>Ec σ C none H) De σ H/\∀σ1 C H1,Ec σ1 C none H1->∃C',C=.ref C'/\PySem.W.mroIn K C' (.ref D)=some true /\
 ∀e,H1 e=none->ts {nx:=fun σ2 H2=>De.nx (σ2.set j none) H2,rt:=λ_ _=>False} (σ1.set j (some (.ref e))) (upd H1 e (Zd9 e C'))
theorem ps_try {body:List Stmt}{n x:Str}{np hpos pos:Pos}{b0:Stmt}{Za9:List Stmt}{D:Addr}{tb:(St->XK)->TS}{ts:TS}{j:Nat}
  (hst:X.stack=X.env::X.outer/\X.env.frame=some X.env.locals) (hN:X.N.Nodup) (hj:X.N[j]?=some n) (hn:X.env.scope.names.lookup n=some .local)
  (hg:Gl X x) (hm:X.mg x=some (.ref D)) (qD:PySem.W.excIn X.K D bmV newV=true) (hb:∀Ec pl,PSs (X.tries Ec pl) body (tb Ec)) (hs:∀A',PSs (X.Za9 A') (b0::Za9) ts)
  (hd:(x==("__debug__":Str))=false:=by decide) :
  PS X (.Try body [.ExceptHandler (some (.Name x np)) (some n) (b0::Za9) hpos] [] [] pos) (tTry X.K D tb ts j):=by
 intro pins s σ H De I h
 obtain⟨Ec,hb1,hx⟩:=h
 refine wpAny_Try_except (Yw (hb (fun σ C _ H=>Ec σ C none H) pins [] s σ H De (I.tries _) hb1) (λfl s1 q=>?_) λev s1 q=>?_)
 .cases fl with
  |next=>obtain⟨σ',H',I',q⟩:=q;exact wpAny_execs_nil ⟨σ',H',I'.ZaU,q⟩
  |brk=>obtain⟨σ',H',I',q⟩:=q;exact⟨σ',H',I'.ZaU,q⟩
  |cont=>obtain⟨σ',H',I',q⟩:=q;exact⟨σ',H',I'.ZaU,q⟩
  |ret u=>obtain⟨v,σ',H',I',r,q⟩:=q;exact⟨v,σ',H',I'.ZaU,r,q⟩
 .obtain⟨σ1,H1,s0,I1,e,C,a0,H',B,nn,rfl,F,hE,_⟩:=q
  obtain⟨C',rfl,hup,hx⟩:=hx σ1 C H' hE
  refine wpAny_looks_onW (by rw[I.ok.frames,hst.1]) hst.2 (hst.1▸F.fly) λh4 held sm4=>?_
  refine wpAny_landsW held λh5 fl5 sm5=>?_
  have fl5':Heap.FlyingW B X.stack e (.ref C') a0 h5:=by rw[hst.1];exact fl5
  obtain⟨hHe,I5⟩:=F.land I1 fl5' (sm4.trans sm5)
  refine wpAny_handleBy_cons (codeAny_handlers_test ?_) (by intro q;cases q)
  have I5s:=I5.Za9 (A':=X.A.mark (some (.ref e))) rfl
  refine Zbu (X:=X.Za9 (X.A.mark (some (.ref e)))) I5s hg hm ?_ hd
  obtain⟨tl,Nn,nm,qn,bs,hdct,sn,sub,ab,col,dd,k0,k1,k2,k3,k5,mN,hC,_,_,T⟩:=(Zgf (x:=x) I5.kIn hm qD).obj
  obtain⟨oe,hoe,hoc⟩:=fl5.there
  refine Zcv (PySem.W.looks_mroIn I5.kIn hup) hC hoe hoc (T.hasType PySem.F.excBase_ValueError.hasBase) ?_
  refine codeAny_handlers_suite_as ?_
  refine lands_againW fl5 λh6 fl6 sm6=>?_
  obtain⟨_,I6⟩:=F.land I1 (h5:=h6) (by rw[hst.1];exact fl6) ((sm4.trans sm5).trans sm6)
  refine ZbZ I6 hN hj (Or.inl hn) (v:=.ref e) rfl (λs7 I7=>?_) (.inr hn)
  refine Yw (hs _ pins s7 _ _ _ (I7.Za9 rfl) (hx e hHe)) (λfl s8 q=>?_) λ_ _ z=>z.elim
  cases fl with
  |brk=>obtain⟨_,_,_,q⟩:=q;exact q.elim
  |cont=>obtain⟨_,_,_,q⟩:=q;exact q.elim
  |ret u=>obtain⟨_,_,_,_,_,q⟩:=q;exact q.elim
  |next =>
   obtain⟨σ8,H8,I8,q8⟩:=q
   have I8':=I8.ZkL I.ok
   refine Ya (wpAny_bindName (ZbZ I8' hN hj (Or.inl hn) (v:=.non) (u:=.none) rfl (λs9 I9=>?_) (.inr hn)))
   unfold unbindBehindTheSuite
   refine wpAny_onRaise ?_
   obtain⟨m9,hn9,hl9⟩:=I9.loc
   have hlen:j < σ8.length:=by
    have e1:=I8'.len
    have e2:=(Yu.mp hj).1
    omega
   obtain⟨u9,r9,l9⟩:=hl9 j n .non hj (by rw[List.getElem?_set_self hlen]) (Or.inl hn)
   have hm9:m9 n=some u9:=by
    rcases l9 with⟨_,z⟩|⟨z,_⟩
    .exact z
    .rcases z with z|z
     .rw[show X.env.kindOf n=some .local from hn]at z;cases z
     .rw[show X.env.kindOf n=some .local from hn]at z;cases z
   refine wpAny_unbindName_local hn hn9 hm9 (by rw[I.ok.kind];rfl) λh' u hns hsb=>?_
   have J:=I9.forget hj hN hl9 hns hsb
   rw[List.set_set]at J
   exact⟨_,_,J,q8⟩
end
section
variable {P:Program}{w:World}{K:PySem.W.Frag}{mg:Str->Option Value}{base:Heap}
theorem Fun.okX {x qual:Str}{st:Stmt}{f:Addr}{fd:FuncData}{N ps:List Str}{k:Nat}{sp:Sp} (F:Fun K x qual st f fd) (S:FnScope N ps (defScope st)) (len:∀vs H Q E,sp vs H Q E->vs.length=ps.length)
  (hbody:∀(cdv:Value) (A:Around) (outer:List Env) (s:Shared) (H:Hp) (vs:List V) (Q:VK) (E:XK),Room k (A.deeper (envOfC qual (defScope st) s.heap.objs.size f cdv))->sp vs H Q E ->
   ∃t,PSs (Zbx (CXE P w) P w K mg base N qual (defScope st) f cdv A outer s H E) (defBody st) t/\t {nx:=λ_ H'=>Q .non H',rt:=Q} (start N vs) H):FnOk P w K mg base (CXE P w) (k+1) f fd ps sp:=by
 obtain⟨oc,od,kV,doc,pm,an,cdv,ct,osl,rfl,lk,hcd⟩:=F.ex
 exact fn_of lk hcd S len λA outer s H vs Q E hr hsp=>hbody cdv A outer s H vs Q E hr hsp
end
end Lake
namespace Lake
open PySem PySem.Spec PyProof.Rows PySem.W
theorem Zda:∀{ns:List Int}{us:List Value},Vals (ns.map V.int) us->∃xs:Array (Int×Tok),us.toArray=intItems xs/\xs.toList.map (·.1)=ns
 |[],_,.nil=>⟨#[],by simp[intItems],rfl⟩
 |n::ns,_,.cons (b:=u) r t=>by
  obtain⟨tk,rfl⟩:=(show ∃t,u=Value.int n t from r)
  obtain⟨xs,e1,e2⟩:=Zda t
  refine⟨#[(n,tk)]++xs,?_,by simp[e2]⟩
  have:∀(l:List Value),(Value.int n tk::l).toArray=#[Value.int n tk]++l.toArray:=λl=>by simp
  rw[this,e1]
  simp[intItems]
section
variable {X:Cx}
theorem Zat:OpR X (binaryOp .Mult) (rI IntMulOk λi j=>.int (i*j)):=opI λ_ _ _ _ _ _ _ hc q=>mul_int q hc
noncomputable def rSum (K:Frag):List V->Hp->VK->Prop:=λxs H Q=>∃(p:Addr) (ns:List Int),xs=[.ref p]/\SqL K H p (ns.map V.int)/\Q (.int ns.sum) H
theorem ZjZ (hc:X.calm=true):Zaq X (.builtin "sum") (rSum X.K):=by
 intro pins s σ H xs us Q I r h
 obtain⟨p,ns,rfl,hp,q⟩:=h
 obtain⟨u,rfl,ru⟩:=r.one
 cases(show u=Value.ref p from ru)
 obtain⟨its,rv,pl,hz⟩:=I.list hp
 obtain⟨ys,e1,e2⟩:=Zda rv
 refine sum_intListG (xs:=ys) (I.ok.hd hc) (e1▸pl.isList) λh' tk t' k=>⟨.int ns.sum,H,I.kept k,⟨t',?_⟩,q⟩
 congr 1
 rw[preSum_eq,<-e2,List.take_of_length_le (by simp)]
noncomputable def PJ (X:Cx) (es:List (Sem Value)) (t:St->Hp->(Hp->Prop)->Prop):Prop :=
 ∀(out:Str) (pins:List (Addr×Obj)) (s:Shared) (σ:St) (H:Hp) (Q:Hp->Prop),out.length+2000*es.length<=100000->Inv X pins σ H s->t σ H Q ->
  wpAny (model X.prog X.w) X.A (joinParts out es) (λu s'=>∃y tk H',u=.str y tk/\Inv X pins σ H' s'/\Q H') X.xe s
theorem ZhW:PJ X [] (λ_ H Q=>Q H):=λout pins s σ H Q hl I h =>
 joinParts_nil ⟨out,_,H,rfl,I.tok _,h⟩ (by simp at hl;exact Yf hl nofun)
theorem Zdb {x:Str}{j:Nat}{pos:Pos}{es:List (Sem Value)}{t:St->Hp->(Hp->Prop)->Prop} (hx:x.length<=2000) (h:PJ X es t):PJ X (eval (.Constant (.str x) j pos) X.env::es) t:=by
 intro out pins s σ H Q hl I hq
 have hl':(out++x).length+2000*es.length<=100000:=by rw[PySem.strLen_append];simp at hl;omega
 refine joinParts_cons (Calls.Constant_str ⟨Yf (Yf (Nat.le_add_right _ _) hl') nofun,?_⟩)
 exact h _ pins _ σ H Q hl' (I.tok _) hq
theorem Zji {i:Int} (h0:0<=i) (h1:i<10 ^ 18):i.natAbs.log2<1920:=by
 by_cases hz:i.natAbs=0
 .rw[hz];decide
 .have h3:i.natAbs<2 ^ 60:=by
   have:(2:Nat) ^ 60=1152921504606846976:=by decide
   have h2:(10:Int) ^ 18=1000000000000000000:=by decide
   omega
  exact Ys ((Nat.log2_lt hz).mpr h3) nofun
theorem ZhX {e:Expr}{pos:Pos}{es:List (Sem Value)}{te:TE}{t:St->Hp->(Hp->Prop)->Prop} (he:PE X e te) (h:PJ X es t):PJ X (eval (.FormattedValue e (-1) none pos) X.env::es) (fun σ H Q=>te σ H λx H1=>∃i:Int,x=.int i/\(0<=i/\i<10 ^ 18)/\t σ H1 Q):=by
 intro out pins s σ H Q hl I hq
 refine joinParts_cons (FormattedValue_plain (thn (he pins s σ H _ I hq) λu s1 ⟨x,H1,I1,r1,i,ex,⟨h0,h1⟩,q⟩=>?_))
 subst ex
 obtain⟨tk,rfl⟩:=(show ∃t,u=Value.int i t from r1)
 refine wpAny_formatField_int (Zji h0 h1) ?_
 have hx:(Str.ofString (toString i)).length<=18:=toString_length_le h0 nofun h1
 have hl':(out++Str.ofString (toString i)).length+2000*es.length<=100000:=by rw[PySem.strLen_append];simp at hl;omega
 refine⟨Yf (Yf (Nat.le_add_right _ _) hl') nofun,?_⟩
 exact h _ pins _ σ H1 Q hl' (I1.tok _) q
theorem Zg8 (env:Env):∀l:List Expr,(evalEach l env).length=l.length
 |[]=>rfl
 |e::r=>by
  have:evalEach (e::r) env=eval e env::evalEach r env:=rfl
  rw[this,YC,YC,Zg8 env r]
theorem ZdC {e1 e2:Expr}{rest:List Expr}{pos:Pos}{t:St->Hp->(Hp->Prop)->Prop} (h:PJ X (eval e1 X.env::eval e2 X.env::evalEach rest X.env) t) (hn:rest.length<=20:=by decide) :
  PE X (.JoinedStr (e1::e2::rest) pos) (fun σ H Q=>t σ H λH1=>∀y,Q (.str y) H1):=by
 intro pins s σ H Q I hq
 have hle:=Zg8 X.env rest
 refine JoinedStr_many (thn (h Str.empty pins s σ H _ (by simp only[YC,hle];show 0+_<=_;omega) I hq) λu s' ⟨y,tk,H',e,I',q⟩=>?_)
 subst e
 exact⟨.str y,H',I',⟨tk,rfl⟩,q y⟩
end
noncomputable def clsAt (mg:Str->Option Value) (x:Str):Addr:=match mg x with
 |some (.ref C)=>C
 |_=>0
noncomputable def tokAt (mg:Str->Option Value) (x:Str):Tok:=match mg x with
 |some (.int _ t)=>t
 |_=>default
noncomputable def Callee (P:Program) (w:World) (K:Frag) (mg:Str->Option Value) (base:Heap) (x:Str) (k:Nat) (ps:List Str) (sp:Sp):Prop :=
 ∃f fd,mg x=some (.ref f)/\keepIn K (.ref f)=true/\Binds K fd ps []/\FnOk P w K mg base (CXE P w) k f fd ps sp
section
variable {X:Cx}
theorem ZaE {st:Stmt}{t:TS} (h:PS X.nox st t):PS X st t:=λpins s σ H D I hw =>
 Yw (h pins s σ H D (I.Zff _) hw) (λ_ _ q=>q.Zb1) λ_ _ z=>False.elim z
theorem Zi {x:Str}{k:Nat}{ps:List Str}{sp:Sp}{E:XK}{e:Expr}{es:List Expr}{t:TA}{p pos:Pos} (C:Callee X.prog X.w X.K X.mg X.base x k ps sp) (hr:Room k X.A) (hg:Gl X x) (hx:Passes (CXE X.prog X.w) X E)
  (ha:PA X (e::es) t) (hdb:(x==("__debug__":Str))=false:=by decide) (he:starEach (e::es) X.env=(false,eval e X.env)::starEach es X.env:=by rfl) (hpl:(backTo pos (starEach es X.env)).any (·.1)=false:=by rfl) :
  PE X (.Call (.Name x p) (e::es) [] pos) (tCall sp [] E t):=by
 obtain⟨f,fd,hm,hk,hb,F⟩:=C
 exact ZkF F hr hg hm hk hb .nil hx ha hdb he hpl
theorem Zbn {x:Str}{k:Nat}{ps:List Str}{sp:Sp}{E:St->XK}{e:Expr}{es:List Expr}{t:TA}{p pos:Pos} (C:Callee X.prog X.w X.K X.mg X.base x k ps sp) (hr:Room k X.A) (hg:Gl X x)
  (hx:∀pins σ H s ev s',Inv X pins σ H s->CXE X.prog X.w X.stack H s (E σ) ev s'->X.xe ev s')
  (ha:PA X (e::es) t) (hdb:(x==("__debug__":Str))=false:=by decide) (he:starEach (e::es) X.env=(false,eval e X.env)::starEach es X.env:=by rfl) (hpl:(backTo pos (starEach es X.env)).any (·.1)=false:=by rfl) :
  PE X (.Call (.Name x p) (e::es) [] pos) (tCallX sp E t):=by
 obtain⟨f,fd,hm,hk,hb,F⟩:=C
 exact ZjY F hr hg hm hk hb hx ha hdb he hpl
theorem Zby {P:Program}{w:World}{K:Frag}{mg:Str->Option Value}{base:Heap}{N:List Str}{qual:Str}{scope:Scope}{f:Addr}{cd:Value}{A:Around}{outer:List Env}{s0:Shared}{H0:Hp}{E:XK}{C:Addr} :
  ∀pins σ H s h' e vs,Inv (Zbx (CXE P w) P w K mg base N qual scope f cd A outer s0 H0 E) pins σ H s->Heap.MadeExcOf s.heap h' e (.ref C) vs->E (.ref C) none H->(Zbx (CXE P w) P w K mg base N qual scope f cd A outer s0 H0 E).xe (.ref e) {s with heap:=h'} :=
 λ_ _ _ _ _ _ _ I hx hE=>Zge I hx hE
end
theorem Zj0:bootBuiltins "max"=some (.builtin "max"):=by decide +kernel
theorem Zj1:bootBuiltins "min"=some (.builtin "min"):=by decide +kernel
theorem ZhY:bootBuiltins "sum"=some (.builtin "sum"):=by decide +kernel
theorem Zt:bootBuiltins "isinstance"=some (.builtin "isinstance"):=by decide +kernel
theorem Zau:bootBuiltins "tuple"=some (.type "tuple"):=by decide +kernel
theorem Zbd:bootBuiltins "int"=some (.type "int"):=by decide +kernel
theorem Zcw:bootBuiltins "ValueError"=some (.type "ValueError"):=by decide +kernel
section
variable {X:Cx}{pins:List (Addr×Obj)}{σ:St}{H:Hp}{s:Shared}{h':Heap}
theorem Inv.ZkM {t':Nat}{fp:List Addr} (I:Inv X pins σ H s) (k:∀b o,b∉fp->s.heap.get? b=some o->h'.get? b=some o) (hf:∀b∈fp,FpOk X pins H b):Inv X pins σ H {s with heap:=h',toks:=t'}:=by
 have nit:∀b u,H b=some u->b∉fp:=λb u e z=>by rw[(hf b z).1]at e;cases e
 refine I.step (g':=s.gens) (d':=s.drawn) (ch:=fp) (λb hb=>?_) (λb o _ _ hc e _=>k b o hc e) (λb o _ _ hc e _=>⟨o.slots,k b o hc e⟩) (λ_ _ _ _ n=>n)
  (λb o hc e=>⟨o,k b o hc e⟩) (λ_ _ e=>e) (λ_ _ _ e=>e) (λb ps e=>⟨#[],by rw[e];simp⟩) (λm hm=>?_) (λb u e=>?_) I.bare
 .obtain⟨_,f1,_,f3,f4,f5⟩:=hf b hb
  exact⟨f3,f1,f4,f5⟩
 .obtain⟨o,es,ep,ho,r⟩:=hm
  exact⟨o,es,ep,k _ o (λz=>(hf _ z).2.1 rfl) ho,r⟩
 .refine(I.hok b u e).Zd7 (λc v hc q=>k c v ?_ q) (λ_ q=>q) (λ_ _ q=>q) λ_ _ _ q=>q
  rcases hc with z|z
  .rw[z];exact nit b u e
  .exact nit c _ z
end
theorem cxK {CX:CXT}{P:Program}{w:World}{K:Frag}{mg:Str->Option Value}{base:Heap}{N:List Str}{qual:Str}{scope:Scope}{f:Addr}{cd:Value}{A:Around}{outer:List Env}{s:Shared}{H:Hp}{E:XK} :
  (Zbx CX P w K mg base N qual scope f cd A outer s H E).K=K:=rfl
theorem Zh.upd {H H1:Hp}{p:Addr}{o:HO} (h:H p=none) (e:Zh H H1):Zh H (upd H1 p o):=λb u z=>by
 rw[Zm (ZC z h)];exact e b u z
theorem Zh.ZH {H H1:Hp}{p:Addr}{o:HO} (e:Zh H H1) (h:H1 p=none):Zh H (Lake.upd H1 p o):=e.upd (e.free h)
noncomputable def LoopR (J:It) (g:TG) (tb:TS) (D:Ends) (σ:St) (H1:Hp):Prop:=∃W:Nat->Nat->St->Hp->Prop,(∃m,W 0 m σ H1)/\∀i m σ H,W i m σ H ->
 (J.stop i H/\D.nx σ H)\/(J.go i H/\∃N:St->Hp->Prop,(∀σ' H',N σ' H'->∃m',m'<m/\W (i+1) m' σ' H')/\∀x H',J.yld i H x H'->g x σ H' fun σ2 H2=>tb {D with nx:=N,ct:=N,bk:=D.nx} σ2 H2)
theorem Zgg {wi:TI}{g:TG}{tb:TS}{D:Ends}{σ:St}{H:Hp}:tFor wi g tb D σ H=wi σ H λJ H1=>LoopR J g tb D σ H1:=rfl
noncomputable def Zj2 (c:TT) (tb:TS) (D:Ends) (σ:St) (H:Hp):Prop:=ZhP c tb D σ H
theorem ZdD {c:TT}{tb:TS}{D:Ends}{σ:St}{H:Hp}:ZhP c tb D σ H=Zj2 c tb D σ H:=rfl
noncomputable def ZfI (J:It) (g:TG) (tt:TT) (te:TE) (σ0:St) (Q:VK) (H1:Hp):Prop:=∃W:Nat->Nat->List V->Hp->Prop,(∃m,W 0 m [] H1)/\∀i m acc H,W i m acc H ->
 (J.stop i H/\acc.length<=sizeLine/\∀p,H p=none->Q (.ref p) (upd H p (.lst acc))) \/
 (J.go i H/\acc.length<sizeLine/\∀x H',J.yld i H x H'->g x σ0 H' fun σ2 H2=>tt σ2 H2 λb H3=>if b=true then te σ2 H3 λv H4=>∃m',m'<m/\W (i+1) m' (acc++[v]) H4 else ∃m',m'<m/\W (i+1) m' acc H3)
theorem ZeF {wi:TI}{g:TG}{tt:TT}{te:TE}{js:List (Option Nat)}{σ:St}{H:Hp}{Q:VK}:ZiT wi g tt te js σ H Q=wi σ H λJ H1=>ZfI J g tt te (iniC js σ) Q H1:=rfl
noncomputable def CW (n:Nat) (vals:Nat->V) (H1:Hp) (i m:Nat) (acc:List V) (H:Hp):Prop:=m=n-i/\i<=n/\acc=(List.range i).map vals/\Zh H1 H
theorem CW.next {n:Nat}{vals:Nat->V}{H1 H:Hp}{i:Nat}{v:V} (hi:i<n) (hv:v=vals i) (s:Zh H1 H):∃m',m'<n-i/\CW n vals H1 (i+1) m' ((List.range i).map vals++[v]) H :=
 ⟨n-(i+1),⋯,rfl,hi,by rw[YN,YU,hv];rfl,s⟩
theorem comp_map {J:It}{n:Nat}{H1:Hp}{g:TG}{tt:TT}{te:TE}{σ0:St}{Q:VK} (vals:Nat->V) (hn:n<sizeLine) (hgo:∀i H,Zh H1 H->i<n->J.go i H) (hstop:∀H,Zh H1 H->J.stop n H)
  (hb:∀i x H H',i<n->Zh H1 H->J.yld i H x H'->g x σ0 H' fun σ2 H2=>tt σ2 H2 λb H3=>if b=true then te σ2 H3 λv H4=>∃m',m'<n-i/\CW n vals H1 (i+1) m' ((List.range i).map vals++[v]) H4 else ∃m',m'<n-i/\CW n vals H1 (i+1) m' ((List.range i).map vals) H3)
  (hk:∀l H',Zh H1 H'->H' l=none->Q (.ref l) (upd H' l (.lst ((List.range n).map vals)))) :
  ZfI J g tt te σ0 Q H1:=by
 refine⟨CW n vals H1,⟨n,rfl,Yq _,rfl,Zh.refl _⟩,?_⟩
 rintro i m acc H ⟨rfl,hi,rfl,s⟩
 by_cases h:i<n
 .refine .inr ⟨hgo i H s h,by simpa using Nat.lt_trans h hn,λx H' y=>hb i x H H' h s y⟩
 .have e:i=n:= ⋯
  subst e
  exact .inl ⟨hstop H s,by simpa using YS hn,λp hp=>hk p H s hp⟩
theorem ZdE {α:Type}{xs:List α}{i:Int}{j:Nat} (h:i=(j:Int)) (hj:j<xs.length):atI xs i=some xs[j]:=by
 subst h
 unfold atI ixN
 rw[Yc ⋯,Yc ⋯]
 simp
theorem ZiU {α:Type}{xs:List α}{i:Int} (C:α->Prop) (h0:0<=i) (h1:i<xs.length) (h:∀x∈xs,C x):∃v,atI xs i=some v/\C v:=by
 obtain⟨j,rfl⟩:=Y6 h0
 have hj:j<xs.length:= ⋯
 exact⟨xs[j],ZdE rfl hj,h _ (YK hj)⟩
theorem mul_r {a b:Int} (h1:-(2 ^ 64)<b) (h2:b<2 ^ 64):IntMulOk a b:=IntMulOk.of_right (intBits_le_64 h1 h2)
theorem ZeG {a b:Int} (h1:-(2 ^ 64)<a) (h2:a<2 ^ 64):IntMulOk a b:=IntMulOk.of_left (intBits_le_64 h1 h2)
theorem Zgh {a b:Int} (ha:Builtin.Int.intBits a<=2 ^ 20) (hb:Builtin.Int.intBits b<=2 ^ 20):IntMulOk a b:=IntMulOk.of_bits ha hb
theorem cp18:Zf7 10 18:=by unfold Zf7;decide
theorem cp9:Zf7 10 9:=by unfold Zf7;decide
theorem cp59:Zf7 10 59:=by unfold Zf7;decide
noncomputable def Exc (p:Addr) (H H':Hp):Prop:=∀b o,b≠p->H b=some o->H' b=some o
theorem Zh.exc {H H1 H2:Hp}{p:Addr} (s:Zh H H1) (h:H p=none) (e:Exc p H1 H2):Zh H H2:=λb o z=>e b o (ZC z h) (s b o z)
theorem Zh.ZiV {H H':Hp}{p:Addr} (s:Zh H H'):Exc p H H':=λb o _ z=>s b o z
theorem Exc.upd {H:Hp}{p:Addr}{o:HO}:Exc p H (Lake.upd H p o):=λb u n z=>by rw[Zm n];exact z
theorem range_getD {α β:Type} (xs:List α) (d:α) (f:α->β) (n:Nat) (h:n=xs.length):(List.range n).map (λj=>f (xs.getD j d))=xs.map f:=by
 subst h
 refine List.ext_getElem (by simp) λj h1 h2=>?_
 have hj:j<xs.length:=by simpa using h1
 simp[Yi,hj]
theorem Zak {K:Frag}{H:Hp}{p:Addr}{xs:List V} (h:H p=some (.lst xs)):tyV K "list" (.ref p) H:=.inl ⟨rfl,_,SqL.of h⟩
theorem Zgi {i j:Int}:ZgZ (.int i) (.int j)=true:=rfl
theorem Zgj {i j:Bool}:ZgZ (.bl i) (.bl j)=true:=rfl
theorem Zgk {i j:Str}:ZgZ (.str i) (.str j)=true:=rfl
theorem Zgl:ZgZ .non .non=true:=rfl
theorem Zgm {i:Int}:ZgZ .non (.int i)=true:=rfl
theorem Zgn {i:Int}:ZgZ (.int i) .non=true:=rfl
section
variable {X:Cx}
noncomputable def rLen (K:Frag):List V->Hp->VK->Prop:=λxs H Q=>∃p ys,xs=[.ref p]/\(SqL K H p ys\/SqT K H p ys)/\Q (.int ys.length) H
theorem Zp {K:Frag} (hK:X.K=K):Zaq X (.builtin "len") (rLen K):=by subst hK;exact Zgb
noncomputable def rTof (K:Frag):List V->Hp->VK->Prop:=λxs H Q=>∃p ys,xs=[.ref p]/\((SqL K H p ys/\∀l,H l=none->Q (.ref l) (upd H l (.tup ys)))\/(SqT K H p ys/\Q (.ref p) H))
theorem ZaF {K:Frag} (hK:X.K=K):Zaq X (.type "tuple") (rTof K):=by subst hK;exact Zfg
theorem ZM {K:Frag} (hK:X.K=K):Zaq X (.builtin "isinstance") (rIsi K):=by subst hK;exact ZjX
end
theorem tyE {K:Frag}{H:Hp}{e C:Addr}{c:Value}{b:Bool} (he:H e=some (Zd9 e C)) (Z:ExK K C) (k:kitOne K (.ref C) c=some b):tyIs K H (.ref e) c b:=.inr ⟨e,C,rfl,he,Z,k⟩
theorem ZeH {K:Frag}{t:Value}:kitOne K t t=some true:=by unfold kitOne;simp
theorem ZR {K:Frag}{A C:Addr}{b:Bool} (ne:A≠C) (h1:hasDictIn K C=true) (h2:typeIn K (.ref C)=some (.type "type")) (h3:subIn K (.ref A) (.ref C)=some b):kitOne K (.ref A) (.ref C)=some b:=by
 obtain⟨cd,hc,_⟩:=any_some h1
 unfold kitOne
 rw[Yb (by intro z;exact ne (Value.ref.inj (beq_iff_eq.mp z)))]
 unfold kitCls
 dsimp only
 rw[Yc (by rw[hc,h2];rfl)]
 exact h3
theorem kit_V {K:Frag}{A:Addr}{b:Bool} (h:subIn K (.ref A) (.type "ValueError")=some b):kitOne K (.ref A) (.type "ValueError")=some b:=by
 unfold kitOne
 rw[Yb (by intro z;cases beq_iff_eq.mp z)]
 unfold kitCls
 dsimp only
 rw[Yc (by decide +kernel)]
 exact h
theorem Zgo {a:Addr}{x:Value}:(cOf (.ref a)=some x)=(.ref a=x):=by simp[cOf]
theorem ZhZ {n:String}{x:Value}:(cOf (.ty n)=some x)=(.type n=x):=by simp[cOf]
noncomputable def Rows (H:Hp) (l:Addr) (rs:List (List Int)):Prop:=∃as:List Addr,H l=some (.lst (as.map V.ref))/\l∉as/\as.length=rs.length/\∀i (h1:i<as.length) (h2:i<rs.length),H as[i]=some (.lst (rs[i].map V.int))
inductive EqD (K:Frag) (H:Hp):Nat->V->V->Bool->Prop
 |flat {n:Nat}{x y:V} (fx:flatV x=true) (fy:flatV y=true):EqD K H n x y (eqV x y)
 |lst {n:Nat}{a b:Addr}{xs ys:List V} (e:Nat->Bool) (hx:SqL K H a xs) (hy:SqL K H b ys) (hl:xs.length=ys.length) (h:∀j x y,xs[j]?=some x->ys[j]?=some y->EqD K H n x y (e j)):EqD K H (n+1) (.ref a) (.ref b) ((List.range xs.length).all e)
 |len {n:Nat}{a b:Addr}{xs ys:List V} (hx:SqL K H a xs) (hy:SqL K H b ys) (hl:xs.length≠ys.length):EqD K H (n+1) (.ref a) (.ref b) false
 |tup {n:Nat}{a b:Addr}{xs ys:List V} (e:Nat->Bool) (hx:SqT K H a xs) (hy:SqT K H b ys) (h:∀j x y,xs[j]?=some x->ys[j]?=some y->EqD K H n x y (e j)):EqD K H (n+1) (.ref a) (.ref b) ((List.range (min xs.length ys.length)).all e&&xs.length==ys.length)
theorem Zj3 {x:V} (h:flatV x=true):eqV x x=true:=by
 cases x<;>first
  |rfl
  |(simp[eqV];done)
  |cases h
section
variable {X:Cx}{pins:List (Addr×Obj)}{σ:St}{H:Hp}{s:Shared}
theorem Zg9 (I:Inv X pins σ H s) {n:Nat}{x y:V}{b:Bool} (h:EqD X.K H n x y b):x=y->b=true:=by
 induction h with
 |flat fx fy=>rintro rfl;exact Zj3 fx
 |lst e hx hy hl h ih =>
  intro z
  cases z
  have:=I.Zc5 hx hy
  subst this
  refine List.all_eq_true.mpr λj hj=>?_
  have hj':=YB.mp hj
  exact ih j _ _ (Yg hj') (Yg hj') rfl
 |len hx hy hl =>
  intro z
  cases z
  have:=I.Zc5 hx hy
  subst this
  exact absurd rfl hl
 |tup e hx hy h ih =>
  intro z
  cases z
  have:=I.Zdy hx hy
  subst this
  rw[Nat.min_self]
  have:(List.range _).all e=true:=List.all_eq_true.mpr λj hj=>by
   have hj':=YB.mp hj
   exact ih j _ _ (Yg hj') (Yg hj') rfl
  rw[this];simp
theorem Zgp (I:Inv X pins σ H s) {n:Nat}{x y:V}{b:Bool} (h:EqD X.K H n x y b):∀(A:Around) (u v:Value),A.units+n<cLine->RelV x u->RelV y v->SeqAt.EqAt A s u v b:=by
 induction h with
 |flat fx fy=>intro A u v _ ru rv;exact ZjO ru rv fx fy
 |@lst n a b xs ys e hx hy hl h ih =>
  intro A u v hu ru rv
  have hb:=Zg9 I (.lst e hx hy hl h)
  cases ru
  cases rv
  by_cases hab:a=b
  .subst hab
   rw[hb rfl];exact SeqAt.EqAt.same _
  .obtain⟨is1,r1,p1,_⟩:=I.list hx
   obtain⟨is2,r2,p2,_⟩:=I.list hy
   have e1:=r1.length
   have e2:=r2.length
   have key:=SeqAt.RcAt.lists (A:=A) (s:=s) (e:=e) p1.isList p2.isList (by simp;omega) ⋯ λj h1 h2=>by
    have h1':j<xs.length:=by simpa[e1]using h1
    have h2':j<ys.length:=by simpa[e2]using h2
    obtain⟨u,hu1,ru⟩:=r1.get (Yg h1')
    obtain⟨v,hv1,rv⟩:=r2.get (Yg h2')
    have eu:is1.toArray[j]=u:=by simpa using(Yu.mp hu1).2
    have ev:is2.toArray[j]=v:=by simpa using(Yu.mp hv1).2
    rw[eu,ev]
    exact ih j _ _ (Yg h1') (Yg h2') A.in1 u v (by show A.units+1+n<cLine;omega) ru rv
   have e3:is1.toArray.size=xs.length:=by simp[e1]
   rw[e3]at key
   exact SeqAt.EqAt.of_refs hab key
 |@len n a b xs ys hx hy hl =>
  intro A u v hu ru rv
  cases ru
  cases rv
  have hab:a≠b:=λz=>by subst z;exact hl (congrArg List.length (I.Zc5 hx hy))
  obtain⟨is1,r1,p1,_⟩:=I.list hx
  obtain⟨is2,r2,p2,_⟩:=I.list hy
  have e1:=r1.length
  have e2:=r2.length
  exact SeqAt.EqAt.of_refs hab (SeqAt.RcAt.lists_lengths p1.isList p2.isList (by simp;omega) ⋯)
 |@tup n a b xs ys e hx hy h ih =>
  intro A u v hu ru rv
  have hb:=Zg9 I (.tup e hx hy h)
  cases ru
  cases rv
  by_cases hab:a=b
  .subst hab
   rw[hb rfl];exact SeqAt.EqAt.same _
  .obtain⟨is1,r1,p1,_⟩:=I.tuple hx
   obtain⟨is2,r2,p2,_⟩:=I.tuple hy
   have e1:=r1.length
   have e2:=r2.length
   have key:=SeqAt.RcAt.tuples (A:=A) (s:=s) (e:=e) p1 p2 ⋯ λj h1 h2=>by
    have h1':j<xs.length:=by simpa[e1]using h1
    have h2':j<ys.length:=by simpa[e2]using h2
    obtain⟨u,hu1,ru⟩:=r1.get (Yg h1')
    obtain⟨v,hv1,rv⟩:=r2.get (Yg h2')
    have eu:is1.toArray[j]=u:=by simpa using(Yu.mp hu1).2
    have ev:is2.toArray[j]=v:=by simpa using(Yu.mp hv1).2
    rw[eu,ev]
    exact ih j _ _ (Yg h1') (Yg h2') A.in1 u v (by show A.units+1+n<cLine;omega) ru rv
   have e3:is1.toArray.size=xs.length:=by simp[e1]
   have e4:is2.toArray.size=ys.length:=by simp[e2]
   rw[e3,e4]at key
   exact SeqAt.EqAt.of_refs hab key
end
noncomputable def rEqD (K:Frag) (neg:Bool):R2:=λx y H Q=>∃a b k,x=.ref a/\y=.ref b/\EqD K H 3 x y k/\Q (.bl (if neg then !k else k)) H
section
variable {X:Cx}
theorem Zh0 {K:Frag} (hK:X.K=K) {k:Nat} (hr:Room k X.A):OpR X (compareOp .Eq) (rEqD K false):=by
 subst hK
 have hu0:=hr.un
 intro pins s σ H x y v u Q I rx ry h
 obtain⟨a,b,k,rfl,rfl,h,q⟩:=h
 cases rx
 cases ry
 cases h with
 |flat fx fy=>cases fx
 |@lst n _ _ xs ys e hx hy hl h =>
  obtain⟨is1,r1,p1,_⟩:=I.list hx
  obtain⟨is2,r2,p2,_⟩:=I.list hy
  have e1:=r1.length
  have e2:=r2.length
  have e3:is1.toArray.size=xs.length:=by simp[e1]
  refine SeqAt.eq_listAt (e:=e) p1.isList p2.isList (by simp;omega) ⋯ (λj h1 h2=>?_) ⟨.bl _,H,I,rfl,by rw[e3];exact q⟩
  have h1':j<xs.length:=by simpa[e1]using h1
  have h2':j<ys.length:=by simpa[e2]using h2
  obtain⟨u,hu1,ru⟩:=r1.get (Yg h1')
  obtain⟨v,hv1,rv⟩:=r2.get (Yg h2')
  have eu:is1.toArray[j]=u:=by simpa using(Yu.mp hu1).2
  have ev:is2.toArray[j]=v:=by simpa using(Yu.mp hv1).2
  rw[eu,ev]
  exact Zgp I (h j _ _ (Yg h1') (Yg h2')) X.A.in1 u v (by show X.A.units+1+2<cLine;omega) ru rv
 |@len n _ _ xs ys hx hy hl =>
  obtain⟨is1,r1,p1,_⟩:=I.list hx
  obtain⟨is2,r2,p2,_⟩:=I.list hy
  have e1:=r1.length
  have e2:=r2.length
  exact SeqAt.eq_list_lengthsAt p1.isList p2.isList (by simp;omega) ⋯ ⟨.bl _,H,I,rfl,q⟩
 |@tup n _ _ xs ys e hx hy h =>
  obtain⟨is1,r1,p1,_⟩:=I.tuple hx
  obtain⟨is2,r2,p2,_⟩:=I.tuple hy
  have e1:=r1.length
  have e2:=r2.length
  have e3:is1.toArray.size=xs.length:=by simp[e1]
  have e4:is2.toArray.size=ys.length:=by simp[e2]
  refine SeqAt.eq_tupleAt (e:=e) p1 p2 ⋯ (λj h1 h2=>?_) ⟨.bl _,H,I,rfl,by rw[e3,e4];exact q⟩
  have h1':j<xs.length:=by simpa[e1]using h1
  have h2':j<ys.length:=by simpa[e2]using h2
  obtain⟨u,hu1,ru⟩:=r1.get (Yg h1')
  obtain⟨v,hv1,rv⟩:=r2.get (Yg h2')
  have eu:is1.toArray[j]=u:=by simpa using(Yu.mp hu1).2
  have ev:is2.toArray[j]=v:=by simpa using(Yu.mp hv1).2
  rw[eu,ev]
  exact Zgp I (h j _ _ (Yg h1') (Yg h2')) X.A.in1 u v (by show X.A.units+1+2<cLine;omega) ru rv
theorem op_neD {K:Frag} (hK:X.K=K) {k:Nat} (hr:Room k X.A):OpR X (compareOp .NotEq) (rEqD K true):=by
 subst hK
 have hu0:=hr.un
 intro pins s σ H x y v u Q I rx ry h
 obtain⟨a,b,k,rfl,rfl,h,q⟩:=h
 cases rx
 cases ry
 cases h with
 |flat fx fy=>cases fx
 |@lst n _ _ xs ys e hx hy hl h =>
  obtain⟨is1,r1,p1,_⟩:=I.list hx
  obtain⟨is2,r2,p2,_⟩:=I.list hy
  have e1:=r1.length
  have e2:=r2.length
  have e3:is1.toArray.size=xs.length:=by simp[e1]
  refine SeqAt.RcNeAt.lists (e:=e) p1.isList p2.isList (by simp;omega) ⋯ (λj h1 h2=>?_) _ _ _ _ ⟨.bl _,H,I,rfl,by rw[e3];exact q⟩
  have h1':j<xs.length:=by simpa[e1]using h1
  have h2':j<ys.length:=by simpa[e2]using h2
  obtain⟨u,hu1,ru⟩:=r1.get (Yg h1')
  obtain⟨v,hv1,rv⟩:=r2.get (Yg h2')
  have eu:is1.toArray[j]=u:=by simpa using(Yu.mp hu1).2
  have ev:is2.toArray[j]=v:=by simpa using(Yu.mp hv1).2
  rw[eu,ev]
  exact Zgp I (h j _ _ (Yg h1') (Yg h2')) X.A.in1 u v (by show X.A.units+1+2<cLine;omega) ru rv
 |@len n _ _ xs ys hx hy hl =>
  obtain⟨is1,r1,p1,_⟩:=I.list hx
  obtain⟨is2,r2,p2,_⟩:=I.list hy
  have e1:=r1.length
  have e2:=r2.length
  exact SeqAt.RcNeAt.lists_lengths p1.isList p2.isList (by simp;omega) ⋯ _ _ _ _ ⟨.bl _,H,I,rfl,q⟩
 |@tup n _ _ xs ys e hx hy h =>
  obtain⟨is1,r1,p1,_⟩:=I.tuple hx
  obtain⟨is2,r2,p2,_⟩:=I.tuple hy
  have e1:=r1.length
  have e2:=r2.length
  have e3:is1.toArray.size=xs.length:=by simp[e1]
  have e4:is2.toArray.size=ys.length:=by simp[e2]
  refine SeqAt.RcNeAt.tuples (e:=e) p1 p2 ⋯ (λj h1 h2=>?_) _ _ _ _ ⟨.bl _,H,I,rfl,by rw[e3,e4];exact q⟩
  have h1':j<xs.length:=by simpa[e1]using h1
  have h2':j<ys.length:=by simpa[e2]using h2
  obtain⟨u,hu1,ru⟩:=r1.get (Yg h1')
  obtain⟨v,hv1,rv⟩:=r2.get (Yg h2')
  have eu:is1.toArray[j]=u:=by simpa using(Yu.mp hu1).2
  have ev:is2.toArray[j]=v:=by simpa using(Yu.mp hv1).2
  rw[eu,ev]
  exact Zgp I (h j _ _ (Yg h1') (Yg h2')) X.A.in1 u v (by show X.A.units+1+2<cLine;omega) ru rv
end
noncomputable def IsI (v:V) (i:Int):Prop:=v=.int i
noncomputable def IsL (K:Frag) (H:Hp) {α:Type} (P:V->α->Prop) (v:V) (as:List α):Prop:=∃a xs,v=.ref a/\SqL K H a xs/\xs.length=as.length/\∀(j:Nat) (x:V) (y:α),xs[j]?=some x->as[j]?=some y->P x y
noncomputable def IsT (K:Frag) (H:Hp) {α:Type} (P:V->α->Prop) (v:V) (as:List α):Prop:=∃a xs,v=.ref a/\SqT K H a xs/\xs.length=as.length/\∀(j:Nat) (x:V) (y:α),xs[j]?=some x->as[j]?=some y->P x y
noncomputable def EqP (K:Frag) (H:Hp) (n:Nat) {α:Type} [DecidableEq α] (P:V->α->Prop):Prop:=∀x y a b,P x a->P y b->EqD K H n x y (decide (a=b))
theorem Zgq {K:Frag}{H:Hp}{n:Nat}:EqP K H n IsI:=by
 rintro x y a b rfl rfl
 have:=EqD.flat (K:=K) (H:=H) (n:=n) (x:=.int a) (y:=.int b) rfl rfl
 have e:eqV (.int a) (.int b)=decide (a=b):=by simp[eqV,Bool.beq_eq_decide_eq]
 rw[<-e];exact this
theorem all_eq {α:Type} [DecidableEq α] (as bs:List α) (h:as.length=bs.length):(List.range as.length).all (λj=>decide (as[j]?=bs[j]?))=decide (as=bs):=by
 rw[Bool.eq_iff_iff,List.all_eq_true,decide_eq_true_iff]
 constructor
 .intro q
  refine List.ext_getElem? λj=>?_
  by_cases hj:j<as.length
  .simpa using q j (YB.mpr hj)
  .rw[List.getElem?_eq_none ⋯,List.getElem?_eq_none ⋯]
 .rintro rfl j _;simp
theorem ZkN {K:Frag}{H:Hp}{n:Nat}{α:Type} [DecidableEq α] {P:V->α->Prop} (h:EqP K H n P):EqP K H (n+1) (IsL K H P):=by
 rintro x y as bs ⟨a,xs,rfl,hx,lx,px⟩ ⟨b,ys,rfl,hy,ly,py⟩
 by_cases hl:as.length=bs.length
 .rw[<-all_eq as bs hl,<-lx]
  refine .lst _ hx hy ⋯ λj x y h1 h2=>?_
  have j1:=(Yu.mp h1).1
  have j2:=(Yu.mp h2).1
  have ha:as[j]?=some as[j]:=Yg ⋯
  have hb:bs[j]?=some bs[j]:=Yg ⋯
  have:=h x y _ _ (px j _ _ h1 ha) (py j _ _ h2 hb)
  rw[ha,hb]
  simpa using this
 .have e:decide (as=bs)=false:=by simp;intro z;exact hl (congrArg List.length z)
  rw[e]
  exact .len hx hy ⋯
theorem Zgr {K:Frag}{H:Hp}{n:Nat}{α:Type} [DecidableEq α] {P:V->α->Prop} (h:EqP K H n P):EqP K H (n+1) (IsT K H P):=by
 rintro x y as bs ⟨a,xs,rfl,hx,lx,px⟩ ⟨b,ys,rfl,hy,ly,py⟩
 have key:=EqD.tup (K:=K) (H:=H) (n:=n) (λj=>decide (as[j]?=bs[j]?)) hx hy λj x y h1 h2=>by
  have j1:=(Yu.mp h1).1
  have j2:=(Yu.mp h2).1
  have ha:as[j]?=some as[j]:=Yg ⋯
  have hb:bs[j]?=some bs[j]:=Yg ⋯
  have:=h x y _ _ (px j _ _ h1 ha) (py j _ _ h2 hb)
  rw[ha,hb]
  simpa using this
 have e:((List.range (min xs.length ys.length)).all (λj=>decide (as[j]?=bs[j]?))&&xs.length==ys.length)=decide (as=bs):=by
  rw[lx,ly]
  by_cases hl:as.length=bs.length
  .rw[<-hl,Nat.min_self,all_eq as bs hl];simp
  .have e:decide (as=bs)=false:=by simp;intro z;exact hl (congrArg List.length z)
   rw[e]
   simp[hl]
 rw[e]at key
 exact key
theorem Zbo {K:Frag}{H:Hp}{a:Addr}{ns:List Int} (h:SqT K H a (ns.map V.int)):IsT K H IsI (.ref a) ns:=⟨a,_,rfl,h,by simp,λj x y h1 h2=>by
 rw[YH,h2]at h1
 exact(Yz h1).symm⟩
section
variable {X:Cx}
noncomputable def rAll (K:Frag):List V->Hp->VK->Prop:=λxs H Q=>∃(p:Addr) (bs:List Bool),xs=[.ref p]/\SqL K H p (bs.map V.bl)/\Q (.bl (bs.all id)) H
noncomputable def rAny (K:Frag):List V->Hp->VK->Prop:=λxs H Q=>∃(p:Addr) (bs:List Bool),xs=[.ref p]/\SqL K H p (bs.map V.bl)/\Q (.bl (bs.any id)) H
theorem all_ix (bs:List Bool):(List.range bs.length).all (λi=>bs.getD i false)=bs.all id:=by
 rw[Bool.eq_iff_iff,List.all_eq_true,List.all_eq_true]
 constructor
 .intro h x hx
  obtain⟨j,hj,rfl⟩:=Y9 hx
  have:=h j (YB.mpr hj)
  simpa[Yi,hj]using this
 .intro h j hj
  have hj':=YB.mp hj
  have:=h _ (YK hj')
  simpa[Yi,hj']using this
theorem any_ix (bs:List Bool):(List.range bs.length).any (λi=>bs.getD i false)=bs.any id:=by
 rw[Bool.eq_iff_iff,List.any_eq_true,List.any_eq_true]
 constructor
 .rintro⟨j,hj,e⟩
  have hj':=YB.mp hj
  exact⟨_,YK hj',by simpa[Yi,hj']using e⟩
 .rintro⟨x,hx,e⟩
  obtain⟨j,hj,rfl⟩:=Y9 hx
  exact⟨j,YB.mpr hj,by simpa[Yi,hj]using e⟩
theorem ZdR {prog:Program}{w:World}{A:Around}{bs:List Bool}{its:List Value} (r:Vals (bs.map V.bl) its):TruthOf prog w A (λi v=>its.toArray[i]?=some v) (λi=>bs.getD i false):=by
 intro i v s Q E hv hq
 have hv':its[i]?=some v:=by simpa using hv
 have hl:=r.length
 have hi:i<bs.length:=by
  have:=(Yu.mp hv').1
  rw[Yj]at hl;omega
 obtain⟨u,hu,ru⟩:=r.get (i:=i) (x:=V.bl bs[i]) (by rw[YH,Yg hi];rfl)
 rw[hv']at hu
 cases hu
 cases ru
 refine wpAny_truthy_bool ?_
 simpa[Yi,hi]using hq
theorem Zha {K:Frag} (hK:X.K=K) (hc:X.calm=true):Zaq X (.builtin "all") (rAll K):=by
 subst hK
 intro pins s σ H xs us Q I r h
 obtain⟨p,bs,rfl,hp,q⟩:=h
 obtain⟨u,rfl,ru⟩:=r.one
 cases(show u=Value.ref p from ru)
 obtain⟨its,r',pl,hz⟩:=I.list hp
 have hl:=r'.length
 refine call_all_walk (wpAny_pyIter_list pl.isList ?_)
 have hne:p≠s.heap.objs.size:=by obtain⟨o,e,_⟩:=pl.isList;exact Yo (Yh e)
 refine⟨s.heap.objs.size,_,_,_,_,_,λi=>bs.getD i false,rfl,Walks.list (A:=X.A.in1) (show X.A.in1.handled=none from I.ok.hd hc) _ p hne its.toArray,⟨⟨_,Yv _ rfl,rfl,rfl⟩,pl.isList.push _⟩,ZdR r',λh' tk kp=>?_⟩
 have e1:its.toArray.size=bs.length:=by rw[Yr];rw[Yj]at hl;omega
 rw[e1,all_ix]
 exact⟨.bl _,H,I.kept (t':=tk) λb o e=>kp b o (by simp;exact Yo (Yh e)) (Yk _ e),rfl,q⟩
theorem Zj4 {K:Frag} (hK:X.K=K) (hc:X.calm=true):Zaq X (.builtin "any") (rAny K):=by
 subst hK
 intro pins s σ H xs us Q I r h
 obtain⟨p,bs,rfl,hp,q⟩:=h
 obtain⟨u,rfl,ru⟩:=r.one
 cases(show u=Value.ref p from ru)
 obtain⟨its,r',pl,hz⟩:=I.list hp
 have hl:=r'.length
 refine call_any_walk (wpAny_pyIter_list pl.isList ?_)
 have hne:p≠s.heap.objs.size:=by obtain⟨o,e,_⟩:=pl.isList;exact Yo (Yh e)
 refine⟨s.heap.objs.size,_,_,_,_,_,λi=>bs.getD i false,rfl,Walks.list (A:=X.A.in1) (show X.A.in1.handled=none from I.ok.hd hc) _ p hne its.toArray,⟨⟨_,Yv _ rfl,rfl,rfl⟩,pl.isList.push _⟩,ZdR r',λh' tk kp=>?_⟩
 have e1:its.toArray.size=bs.length:=by rw[Yr];rw[Yj]at hl;omega
 rw[e1,any_ix]
 exact⟨.bl _,H,I.kept (t':=tk) λb o e=>kp b o (by simp;exact Yo (Yh e)) (Yk _ e),rfl,q⟩
noncomputable def rIxQ (K:Frag):R2:=λx y H Q=>∃p xs i v,x=.ref p/\y=.int i/\(SqL K H p xs\/SqT K H p xs)/\atI xs i=some v/\Q v H
theorem ix_q {K:Frag} (hK:X.K=K):IxR X (rIxQ K):=by
 subst hK
 intro value slice pins s σ H x y v u Q I rx ry h hs
 refine(Z6.or Zb7) (value:=value) (slice:=slice) pins s σ H x y v u Q I rx ry ?_ hs
 obtain⟨p,xs,i,v,rfl,rfl,hq,ha,q⟩:=h
 rcases hq with hq|hq
 .exact .inl ⟨p,xs,i,v,rfl,rfl,hq,ha,q⟩
 .exact .inr ⟨p,xs,i,v,rfl,rfl,hq,ha,q⟩
theorem Zj5:bootBuiltins "all"=some (.builtin "all"):=by decide +kernel
theorem bt_any:bootBuiltins "any"=some (.builtin "any"):=by decide +kernel
end
noncomputable def nth (ns:List Int) (i:Nat):Int:=ns.getD i 0
theorem Zbz {ns:List Int}{i:Nat} (h:i<ns.length):atI (ns.map V.int) (i:Int)=some (V.int (nth ns i)):=by
 rw[ZdE rfl (by simpa using h)]
 simp[nth,Yi,h]
noncomputable def WI (N:Nat) (Pv:Nat->St->Hp->Prop) (m:Nat) (σ:St) (H:Hp):Prop:=∃i,m=N-i/\i<=N/\Pv i σ H
theorem WI.next {N:Nat}{Pv:Nat->St->Hp->Prop}{i:Nat}:∀σ' H',(i+1<=N/\Pv (i+1) σ' H')->∃m',m'<N-i/\WI N Pv m' σ' H':=fun σ' H' h=>⟨N-(i+1),⋯,i+1,rfl,h.1,h.2⟩
theorem ZiW {c:TT}{tb:TS}{D:Ends}{σ:St}{H:Hp} (N:Nat) (Pv:Nat->St->Hp->Prop) (h0:Pv 0 σ H)
  (hs:∀i σ H,i<=N->Pv i σ H->c σ H λb H1=>if b=true then ∃Nx:St->Hp->Prop,(∀σ' H',Nx σ' H'->∃m',m'<N-i/\WI N Pv m' σ' H')/\tb {D with nx:=Nx,ct:=Nx,bk:=D.nx} σ H1 else D.nx σ H1):Zj2 c tb D σ H:=by
 refine⟨WI N Pv,⟨N,0,rfl,Yq _,h0⟩,?_⟩
 rintro m σ H ⟨i,rfl,hi,p⟩
 exact hs i σ H hi p
theorem Zh.seqT {K:Frag}{H H':Hp}{a:Addr}{xs:List V} (e:Zh H H') (h:SqT K H a xs):SqT K H' a xs:=by
 rcases h with(h|⟨o,h⟩)|h
 .exact .inl (.inl (e _ _ h))
 .exact .inl (.inr ⟨o,e _ _ h⟩)
 .exact .inr h
theorem Zh.q {K:Frag}{H H':Hp}{a:Addr}{xs:List V} (e:Zh H H') (h:SqL K H a xs\/SqT K H a xs):SqL K H' a xs\/SqT K H' a xs:=h.imp e.seq e.seqT
theorem Exc.trans {p:Addr}{H H1 H2:Hp} (a:Exc p H H1) (b:Exc p H1 H2):Exc p H H2:=λc o n z=>b c o n (a c o n z)
theorem Exc.free {p q:Addr}{H H':Hp} (e:Exc p H H') (n:q≠p) (h:H' q=none):H q=none:=by
 cases z:H q with
 |none=>rfl
 |some o=>rw[e q o n z]at h;cases h
theorem Exc.updN {p q:Addr}{H H':Hp}{o:HO} (e:Exc p H H') (h:H q=none):Exc p H (Lake.upd H' q o):=λb u n z=>by
 rw[Zm (ZC z h)];exact e b u n z
theorem Exc.same {p:Addr}{H H1 H2:Hp} (a:Exc p H H1) (s:Zh H1 H2):Exc p H H2:=a.trans s.ZiV
section
variable {X:Cx}{a b c d:Expr}{ta tb tc td:TE}{pos:Pos}
noncomputable def iSeq (K:Frag) (tl:TE):TI:=fun σ H R=>tl σ H λx H1=>∃a,x=.ref a/\(((∃xs,SqL K H1 a xs)/\R (Itl K a) H1)\/((∃xs,SqT K H1 a xs)/\R (Itt K a) H1))
theorem pi_seq {tg l:Expr}{tl:TE}{K:Frag} (hK:X.K=K) (hl:PE X l tl):PI X tg l (iSeq K tl):=by
 subst hK
 intro pins s σ H R I h
 refine thn (hl pins s σ H _ I h) λv s1 ⟨x,H1,I1,r1,q1⟩=>?_
 obtain⟨a,e,q1⟩:=q1
 subst e
 cases r1
 rcases q1 with⟨⟨xs,hq⟩,q⟩|⟨⟨xs,hq⟩,q⟩
 .obtain⟨its,rv,p,hz⟩:=I1.list hq
  refine wpAny_pyIter_list p.isList ?_
  refine⟨s1.heap.objs.size,[s1.heap.objs.size],_,_,H1,rfl,I1.kept (t':=s1.toks) λb o e=>Yk _ e,ZfB a _,⟨_,Yv _ rfl,rfl,rfl⟩,λb hb=>?_,q⟩
  have e:b=s1.heap.objs.size:=by simpa using hb
  subst e
  exact I1.ZhQ (Yd _) (I1.hok.fresh (Yd _))
 .obtain⟨its,rv,p,hz⟩:=I1.tuple hq
  refine wpAny_pyIter_tuple (show s1.heap.IsTuple a its.toArray from p) ?_
  refine⟨s1.heap.objs.size,[s1.heap.objs.size],_,_,H1,rfl,I1.kept (t':=s1.toks) λb o e=>Yk _ e,ZeB a _,⟨_,Yv _ rfl,rfl,rfl⟩,λb hb=>?_,q⟩
  have e:b=s1.heap.objs.size:=by simpa using hb
  subst e
  exact I1.ZhQ (Yd _) (I1.hok.fresh (Yd _))
end
section
variable {X:Cx}
noncomputable def rInsert:V->List V->Hp->VK->Prop:=λx vs H Q=>∃l xs i y,x=.ref l/\vs=[.int i,y]/\H l=some (.lst xs)/\0<=i/\i<2 ^ 62/\xs.length<sizeLine/\Q .non (upd H l (.lst (xs.take i.toNat++y::xs.drop i.toNat)))
theorem Vals.Zj6:∀{xs:List V}{us:List Value} (k:Nat),Vals xs us->Vals (xs.take k) (us.take k)
 |_,_,0,_=>by simp;exact .nil
 |_,_,_+1,.nil=>.nil
 |_,_,k+1,.cons r h=>.cons r (Vals.Zj6 k h)
theorem Vals.dropN:∀{xs:List V}{us:List Value} (k:Nat),Vals xs us->Vals (xs.drop k) (us.drop k)
 |_,_,0,h=>by simpa using h
 |_,_,_+1,.nil=>.nil
 |_,_,k+1,.cons _ h=>Vals.dropN k h
theorem Zjj:MtM X "list.insert" rInsert:=by
 intro pins s σ H x vs v us Q I rx rv h
 obtain⟨l,xs,i,y,rfl,rfl,hH,h1,h2,hz,q⟩:=h
 cases rx
 obtain⟨u,u2,rfl,ru,ru2⟩:=rv.two
 obtain⟨t,rfl⟩:=ru
 obtain⟨z,its,n,r,hl,e⟩:=I.Zjb hH
 have hf:¬ (!Builtin.List.listFitsIndex i)=true:=by
  unfold Builtin.List.listFitsIndex
  have a1:decide (-(2 ^ 63:Int)<=i)=true:=YF ⋯
  have a2:decide (i<(2 ^ 63:Int))=true:=YF ⋯
  rw[a1,a2];decide
 refine call_meets F.slot_list_insert ⟨_,e,rfl⟩ F.entry_list_insert (F.args_list_insert_3 _ _ _) (AutoListH.list_insert_list_int_val_1 l its.toArray n i t u2 hf (by rw[Yr];omega)) ⟨e,?_⟩
 refine⟨.non,_,I.lset (its':=its.take i.toNat++u2::its.drop i.toNat) (ys:=xs.take i.toNat++y::xs.drop i.toNat) hH e ?_ ((r.Zj6 _).append (.cons ru2 (r.dropN _))) ?_,rfl,q⟩
 .show((its.toArray.extract 0 (if i<0 then (i+((its.toArray.size:Nat):Int)).toNat else min i.toNat its.toArray.size)).push u2++its.toArray.extract (if i<0 then (i+((its.toArray.size:Nat):Int)).toNat else min i.toNat its.toArray.size))=_
  rw[Yb ⋯]
  have e1:its.take (min i.toNat its.length)=its.take i.toNat:=by
   by_cases hh:i.toNat<=its.length
   .rw[Nat.min_eq_left hh]
   .rw[Nat.min_eq_right ⋯,List.take_of_length_le ⋯,List.take_of_length_le ⋯]
  have e2:its.drop (min i.toNat its.length)=its.drop i.toNat:=by
   by_cases hh:i.toNat<=its.length
   .rw[Nat.min_eq_left hh]
   .rw[Nat.min_eq_right ⋯,List.drop_of_length_le ⋯,List.drop_of_length_le ⋯]
  apply Array.ext'
  simp[e1,e2]
  exact List.take_of_length_le (by rw[List.length_drop];omega)
 .rw[Yn,YC,YX,List.length_drop];omega
end
noncomputable def rIntB:List V->Hp->VK->Prop:=λxs H Q=>∃k,xs=[.bl k]/\Q (.int (if k=true then 1 else 0)) H
theorem Zar {X:Cx}:Zaq X (.type "int") rIntB:=λpins s σ H xs us Q I r h=>Zi6 pins s σ H xs us Q I r (.inr h)
noncomputable def IsB (v:V) (b:Bool):Prop:=v=.bl b
theorem Zj7 {K:Frag}{H:Hp}{n:Nat}:EqP K H n IsB:=by
 rintro x y a b rfl rfl
 have:=EqD.flat (K:=K) (H:=H) (n:=n) (x:=.bl a) (y:=.bl b) rfl rfl
 have e:eqV (.bl a) (.bl b)=decide (a=b):=by cases a<;>cases b<;>rfl
 rw[<-e];exact this
theorem ZfJ {K:Frag}{H:Hp}{a:Addr}{bs:List Bool} (h:SqL K H a (bs.map V.bl)):IsL K H IsB (.ref a) bs:=⟨a,_,rfl,h,by simp,λj x y h1 h2=>by
 rw[YH,h2]at h1
 exact(Yz h1).symm⟩
noncomputable def ZJ (H:Hp) (p:Addr):Prop:=∃x:Int,H p=some (.lst [.int x])/\0<=x
theorem ZJ.ne {H:Hp}{p q:Addr} (P:ZJ H p) (h:H q=none):q≠p:=by
 obtain⟨x,e,_⟩:=P
 exact(ZC e h).symm
theorem ZJ.same {H H':Hp}{p:Addr} (P:ZJ H p) (s:Zh H H'):ZJ H' p:=by
 obtain⟨x,e,r⟩:=P
 exact⟨x,s _ _ e,r⟩
theorem ZJ.upd {H:Hp}{p q:Addr}{o:HO} (P:ZJ H p) (h:H q=none):ZJ (Lake.upd H q o) p:=P.same ((Zh.refl H).upd h)
theorem ZJ.updN {H:Hp}{p q:Addr}{o:HO} (P:ZJ H p) (h:q≠p):ZJ (Lake.upd H q o) p:=by
 obtain⟨x,e,r⟩:=P
 exact⟨x,by rw[Zm h.symm];exact e,r⟩
theorem cp60:Zf7 10 60:=by unfold Zf7;decide
theorem qm1:IntMulOk (10 ^ Int.toNat 60) (10 ^ Int.toNat 60):=Zgh (by decide +kernel) (by decide +kernel)
theorem qm2:IntMulOk (10 ^ Int.toNat 60*10 ^ Int.toNat 60) (10 ^ Int.toNat 60):=Zgh (by decide +kernel) (by decide +kernel)
theorem qm3:IntMulOk (10 ^ Int.toNat 60*10 ^ Int.toNat 60*10 ^ Int.toNat 60) (10 ^ Int.toNat 60):=Zgh (by decide +kernel) (by decide +kernel)
theorem qm4:(0:Int)<10 ^ Int.toNat 60*10 ^ Int.toNat 60*10 ^ Int.toNat 60*10 ^ Int.toNat 60:=by decide +kernel
end Lake
namespace Lake
noncomputable def ZU (f:Nat->Int) (p q:Nat):Prop:=q<p/\f q<=f p/\∀r,q<r->r<p->f p<f r
noncomputable def ZT (f:Nat->Int) (n p r:Nat):Prop:=p<r/\r<n/\f r<f p/\∀s,p<s->s<r->f p<=f s
noncomputable def Za1 (f:Nat->Int) (p:Nat):Prop:=∀q,q<p->f p<f q
noncomputable def Zav (f:Nat->Int) (n p:Nat):Prop:=∀r,p<r->r<n->f p<=f r
noncomputable def ZO (f:Nat->Int) (n p:Nat) (e:Int):Prop :=
 (Za1 f p/\Zav f n p/\e=-1)\/(∃q,ZU f p q/\Zav f n p/\e=q)\/(∃r,Za1 f p/\ZT f n p r/\e=r) \/
 ∃q r,ZU f p q/\ZT f n p r/\e=if f q<=f r then (r:Int)else q
theorem Zhb {P:Nat->Prop} [DecidablePred P] (i:Nat):∀d r,r+d=i->P r->∃t,r<=t/\t<=i/\P t/\∀s,t<s->s<=i->¬ P s:=by
 intro d
 induction d with
 |zero=>intro r e h;exact⟨r,Yd _,⋯,h,λs h1 h2=>⋯⟩
 |succ d ih =>
  intro r e h
  by_cases hx:∃t,r<t/\t<=i/\P t
  .obtain⟨t,h1,h2,h3⟩:=hx
   -- step to r+1 by cases
   by_cases h4:P (r+1)
   .obtain⟨u,u1,u2,u3,u4⟩:=ih (r+1) ⋯ h4
    exact⟨u,⋯,u2,u3,u4⟩
   .-- go on from the next one
    have gen:∀k t,t+k=i->r<t->P t->∃u,r<=u/\u<=i/\P u/\∀s,u<s->s<=i->¬ P s:=by
     intro k
     induction k with
     |zero=>intro t e h1 h3;exact⟨t,⋯,⋯,h3,λs h1 h2=>⋯⟩
     |succ k ihk =>
      intro t e h1 h3
      by_cases hy:∃s,t<s/\s<=i/\P s
      .-- the last one of the rest
       have key:∀m,m<=i->(∃s,t<s/\s<=m/\P s)->∃u,t<u/\u<=m/\P u/\∀s,u<s->s<=m->¬ P s:=by
        intro m
        induction m with
        |zero=>rintro _ ⟨s,h5,h6,_⟩;omega
        |succ m ihm =>
         rintro hm ⟨s,h5,h6,h7⟩
         by_cases hp:P (m+1)
         .exact⟨m+1,⋯,Yd _,hp,λs h1 h2=>⋯⟩
         .have hs:s<=m:=by
           rcases Nat.lt_or_ge m s with z|z
           .have:s=m+1:= ⋯
            rw[this]at h7;exact absurd h7 hp
           .exact z
          obtain⟨u,u1,u2,u3,u4⟩:=ihm ⋯ ⟨s,h5,hs,h7⟩
          refine⟨u,u1,⋯,u3,λs' h1 h2=>?_⟩
          by_cases e:s'=m+1
          .rw[e];exact hp
          .exact u4 s' h1 ⋯
       obtain⟨u,u1,u2,u3,u4⟩:=key i (Yd _) hy
       exact⟨u,⋯,u2,u3,u4⟩
      .exact⟨t,⋯,⋯,h3,λs h1 h2 h5=>hy ⟨s,h1,h2,h5⟩⟩
    exact gen (i-t) t ⋯ h1 h3
  .exact⟨r,Yd _,⋯,h,λs h1 h2 h3=>hx ⟨s,h1,h2,h3⟩⟩
theorem Zh1 {P:Nat->Prop} [DecidablePred P] {n r:Nat} (hr:r<n) (h:P r):∃t,r<=t/\t<n/\P t/\∀s,t<s->s<n->¬ P s:=by
 obtain⟨t,h1,h2,h3,h4⟩:=Zhb (P:=P) (n-1) (n-1-r) r ⋯ h
 exact⟨t,h1,⋯,h3,λs a b=>h4 s a ⋯⟩
noncomputable def Zcx (f:Nat->Int) (i:Nat) (sp:List Nat):Prop:=sp.Pairwise (· < ·)/\∀q,q∈sp↔q<i/\∀r,q<r->r<i->f q<=f r
theorem ZiX (f:Nat->Int) (p:Nat):Za1 f p\/∃q,ZU f p q:=by
 by_cases h:∃q,q<p/\f q<=f p
 .obtain⟨q,h1,h2⟩:=h
  obtain⟨t,_,t2,t3,t4⟩:=Zh1 (P:=λq=>f q<=f p) h1 h2
  exact .inr ⟨t,t2,t3,λr a b=>by have:=t4 r a b;omega⟩
 .exact .inl λq hq=>by
   have:¬ (f q<=f p):=λz=>h ⟨q,hq,z⟩
   omega
theorem Zjk {f:Nat->Int}{i p q:Nat} (hp:p<i) (ho:∀r,p<r->r<i->f p<=f r) (h:ZU f p q):(∀r,q<r->r<i->f q<=f r)/\∀s,q<s->s<p->¬ ∀r,s<r->r<i->f s<=f r:=by
 obtain⟨h1,h2,h3⟩:=h
 refine⟨λr a b=>?_,λs a b z=>?_⟩
 .rcases Nat.lt_trichotomy r p with c|c|c
  .have:=h3 r a c;omega
  .rw[c];exact h2
  .have:=ho r c b;omega
 .have:=z p b hp
  have:=h3 s a b
  omega
theorem ZcK {f:Nat->Int}{i:Nat}{A B:List Nat} (hs:Zcx f i (A++B)) (hA:∀q∈A,f q<=f i) (hB:∀q∈B,f i<f q) :
  Zcx f (i+1) (A++[i])/\ZO f (i+1) i (match A.getLast? with|some q=>(q:Int)|none=>-1)/\∀p e,p<i->ZO f i p e->ZO f (i+1) p (if B.head?=some p then (i:Int)else e):=by
 obtain⟨hso,hm⟩:=hs
 have hAB:=List.pairwise_append.mp hso
 have noNx:Zav f (i+1) i:=λr a b=>⋯
 refine⟨⟨?_,λq=>?_⟩,?_,λp e hp he=>?_⟩
 .refine List.pairwise_append.mpr ⟨hAB.1,List.pairwise_singleton _ _,λa ha b hb=>?_⟩
  have:b=i:=by simpa using hb
  rw[this]
  exact((hm a).mp (YI _ ha)).1
 .rw[Yp,Y0]
  constructor
  .rintro(h|h)
   .obtain⟨h1,h2⟩:=(hm q).mp (YI _ h)
    refine⟨⋯,λr a b=>?_⟩
    by_cases e:r=i
    .rw[e];exact hA q h
    .exact h2 r a ⋯
   .subst h;exact⟨⋯,λr a b=>⋯⟩
  .rintro⟨h1,h2⟩
   by_cases e:q=i
   .exact .inr e
   .have hq:q∈A++B:=(hm q).mpr ⟨⋯,λr a b=>h2 r a ⋯⟩
    rcases Yp.mp hq with h|h
    .exact .inl h
    .have:=hB q h
     have:=h2 i ⋯ ⋯
     omega
 .-- the elder of i
  rcases ZiX f i with h|⟨q,h⟩
  .have hA0:A=[]:=by
    cases A with
    |nil=>rfl
    |cons a r =>
     have h1:=((hm a).mp (by simp)).1
     have:=hA a (by simp)
     have:=h a h1
     omega
   rw[hA0]
   exact .inl ⟨h,noNx,rfl⟩
  .have ho:∀r,q<r->r<i->f q<=f r:=λr a b=>by have:=h.2.2 r a b;have:=h.2.1;omega
   have hqA:q∈A:=by
    rcases Yp.mp ((hm q).mpr ⟨h.1,ho⟩)with z|z
    .exact z
    .have:=hB q z;have:=h.2.1;omega
   have hlast:A.getLast?=some q:=by
    have hne:A≠[]:=λz=>by rw[z]at hqA;cases hqA
    rw[List.getLast?_eq_some_getLast hne]
    congr 1
    have hl:A.getLast hne∈A:=List.getLast_mem hne
    -- q<=last,and last is not past q
    by_cases e:A.getLast hne=q
    .exact e
    .exfalso
     have hlt:q<A.getLast hne:=by
      have hd:=List.dropLast_concat_getLast hne
      have hq2:q∈A.dropLast:=by
       rw[<-hd]at hqA
       rcases Yp.mp hqA with z|z
       .exact z
       .exact absurd (by simpa using z) (Ne.symm e)
      have hp2:=hAB.1
      rw[<-hd]at hp2
      exact(List.pairwise_append.mp hp2).2.2 q hq2 _ (by simp)
     have h1:=((hm (A.getLast hne)).mp (YI _ hl)).1
     have:=h.2.2 _ hlt h1
     have:=hA _ hl
     omega
   rw[hlast]
   exact .inr (.inl ⟨q,h,noNx,rfl⟩)
 .-- the elder of an earlier place
  have nxt:∀r,ZT f i p r->ZT f (i+1) p r:=λr ⟨a,b,c,d⟩=>⟨a,⋯,c,d⟩
  by_cases hop:Zav f i p
  .have hmem:p∈A++B:=(hm p).mpr ⟨hp,hop⟩
   by_cases hlt:f i<f p
   .have hnx:ZT f (i+1) p i:=⟨hp,⋯,hlt,λs a b=>hop s a b⟩
    have hpB:p∈B:=by
     rcases Yp.mp hmem with z|z
     .have:=hA p z;omega
     .exact z
    obtain⟨b0,Br,rfl⟩:∃b0 Br,B=b0::Br:=by
     cases B with
     |nil=>cases hpB
     |cons b0 Br=>exact⟨b0,Br,rfl⟩
    have hhead:(b0::Br).head?=some b0:=rfl
    rw[hhead]
    rcases ZiX f p with hn|⟨q,hq⟩
    .-- nothing ahead: p is the first of all
     have e0:b0=p:=by
      by_cases z:b0=p
      .exact z
      .exfalso
       have hpr:p∈Br:=by
        rcases Ym.mp hpB with y|y
        .exact absurd y.symm z
        .exact y
       have hlt2:b0<p:=(Y2.mp hAB.2.1).1 p hpr
       have:=((hm b0).mp (by simp)).2 p hlt2 hp
       have:=hn b0 hlt2
       omega
     rw[Yc (by rw[e0])]
     exact .inr (.inr (.inl ⟨i,hn,hnx,rfl⟩))
    .obtain⟨hq1,hq2⟩:=Zjk hp hop hq
     have hqm:q∈A++b0::Br:=(hm q).mpr ⟨Nat.lt_trans hq.1 hp,hq1⟩
     by_cases hqi:f q<=f i
     .-- q is kept: p is the first of B
      have e0:b0=p:=by
       by_cases z:b0=p
       .exact z
       .exfalso
        have hpr:p∈Br:=by
         rcases Ym.mp hpB with y|y
         .exact absurd y.symm z
         .exact y
        have hlt2:b0<p:=(Y2.mp hAB.2.1).1 p hpr
        have hb0:=(hm b0).mp (by simp)
        have hqA:q∈A:=by
         rcases Yp.mp hqm with y|y
         .exact y
         .have:=hB q y;omega
        have hqb:q<b0:=hAB.2.2 q hqA b0 (by simp)
        exact hq2 b0 hqb hlt2 hb0.2
      rw[Yc (by rw[e0])]
      refine .inr (.inr (.inr ⟨q,i,hq,hnx,?_⟩))
      rw[Yc hqi]
     .-- q goes,too: the elder stays
      have hqB:q∈b0::Br:=by
       rcases Yp.mp hqm with y|y
       .exact absurd (hA q y) hqi
       .exact y
      have hne:b0≠p:=by
       intro z
       subst z
       rcases Ym.mp hqB with y|y
       .have:=hq.1;omega
       .have:=(Y2.mp hAB.2.1).1 q y
        have:=hq.1;omega
      rw[Yb (by intro z;exact hne (Yz z))]
      have ee:e=q:=by
       rcases he with⟨h1,_,_⟩|⟨q',h1,_,h3⟩|⟨r,h1,_,_⟩|⟨q',r,_,h2,_⟩
       .have:=h1 q hq.1;have:=hq.2.1;omega
       .have:q'=q:=by
         rcases Nat.lt_trichotomy q' q with y|y|y
         .have:=h1.2.2 q y hq.1;have:=hq.2.1;omega
         .exact y
         .have:=hq.2.2 q' y h1.1;have:=h1.2.1;omega
        rw[h3,this]
       .have:=h1 q hq.1;have:=hq.2.1;omega
       .have:=hop r h2.1 h2.2.1;have:=h2.2.2.1;omega
      refine .inr (.inr (.inr ⟨q,i,hq,hnx,?_⟩))
      rw[Yb hqi,ee]
   .-- still open: not of B
    have hnn:Zav f (i+1) p:=λr a b=>by
     by_cases z:r=i
     .rw[z];omega
     .exact hop r a ⋯
    have hne:B.head?≠some p:=λz=>by
     have:p∈B:=List.mem_of_head? z
     have:=hB p this
     omega
    rw[Yb hne]
    rcases he with⟨h1,_,h3⟩|⟨q,h1,_,h3⟩|⟨r,_,h2,_⟩|⟨q,r,_,h2,_⟩
    .exact .inl ⟨h1,hnn,h3⟩
    .exact .inr (.inl ⟨q,h1,hnn,h3⟩)
    .have:=hop r h2.1 h2.2.1;have:=h2.2.2.1;omega
    .have:=hop r h2.1 h2.2.1;have:=h2.2.2.1;omega
  .-- shut already
   have hne:B.head?≠some p:=λz=>hop ((hm p).mp (Yt _ (List.mem_of_head? z))).2
   rw[Yb hne]
   rcases he with⟨_,h2,_⟩|⟨q,_,h2,_⟩|⟨r,h1,h2,h3⟩|⟨q,r,h1,h2,h3⟩
   .exact absurd h2 hop
   .exact absurd h2 hop
   .exact .inr (.inr (.inl ⟨r,h1,nxt r h2,h3⟩))
   .exact .inr (.inr (.inr ⟨q,r,h1,nxt r h2,h3⟩))
end Lake
namespace Lake
open PySem PySem.Spec PyProof.Rows PySem.W
theorem ZeI {α β:Type}{f g:α->Option β}:∀{l:List α},(∀x∈l,f x=g x)->l.filterMap f=l.filterMap g
 |[],_=>rfl
 |x::r,h=>by rw[List.filterMap_cons,List.filterMap_cons,h x (Y4 ..),ZeI λy hy=>h y (YW _ hy)]
theorem Zjl (its:List Value) (k:Nat) (hk:k<=its.length) (start:Nat):(its.zipIdx start).filterMap (λxk=>if (decide (((start+k:Nat):Int)<=(xk.2:Int))&&decide ((xk.2:Int)<((start+its.length:Nat):Int))&&(((xk.2:Int)-((start+k:Nat):Int)) % 1==0))=true then none else some xk.1)=its.take k:=by
 induction its generalizing k start with
 |nil=>simp
 |cons x r ih =>
  rw[List.zipIdx_cons,List.filterMap_cons]
  cases k with
  |zero =>
   have h1:(decide (((start+0:Nat):Int)<=(start:Int))&&decide ((start:Int)<((start+(x::r).length:Nat):Int))&&(((start:Int)-((start+0:Nat):Int)) % 1==0))=true:=by
    simp;omega
   simp only[h1,if_true]
   have:=ih 0 ⋯ (start+1)
   rw[List.take_zero]at this⊢
   rw[<-this]
   refine ZeI λxk hxk=>?_
   have hm:=List.mem_zipIdx hxk
   have e1:(decide (((start+0:Nat):Int)<=(xk.2:Int)))=(decide (((start+1+0:Nat):Int)<=(xk.2:Int))):=by
    rw[decide_eq_decide];omega
   have e2:((start+(x::r).length:Nat):Int)=((start+1+r.length:Nat):Int):=by simp;omega
   have e3:(((xk.2:Int)-((start+0:Nat):Int)) % 1==0)=(((xk.2:Int)-((start+1+0:Nat):Int)) % 1==0):=by simp[Int.emod_one]
   rw[e1,e2,e3]
  |succ k =>
   have h1:(decide (((start+(k+1):Nat):Int)<=(start:Int))&&decide ((start:Int)<((start+(x::r).length:Nat):Int))&&(((start:Int)-((start+(k+1):Nat):Int)) % 1==0))=false:=by
    have:decide (((start+(k+1):Nat):Int)<=(start:Int))=false:=YJ ⋯
    rw[this];rfl
   simp only[h1,Bool.false_eq_true,if_false]
   rw[List.take_succ_cons]
   congr 1
   have:=ih k (by simpa using hk) (start+1)
   rw[<-this]
   refine ZeI λxk hxk=>?_
   have e1:((start+(k+1):Nat):Int)=((start+1+k:Nat):Int):= ⋯
   have e2:((start+(x::r).length:Nat):Int)=((start+1+r.length:Nat):Int):=by simp;omega
   rw[e1,e2]
section
variable {X:Cx}{e st:Expr}{te ts:TE}{pos pos1 p2:Pos}
noncomputable def tDelT (te ts:TE):TS:=λD σ H=>te σ H λx H1=>ts σ H1 λz H2=>∃(l:Addr) (xs:List V) (k:Nat),x=.ref l/\z=.int k/\H2 l=some (.lst xs)/\k<=xs.length/\D.nx σ (upd H2 l (.lst (xs.take k)))
theorem Zh2 (he:PE X e te) (hs:PE X st ts):PS X (.Delete [.Subscript e (.Slice (some st) none none p2) pos1] pos) (tDelT te ts):=by
 intro pins s σ H D I h
 refine wpAny_Delete (wpAny_deleteEach_cons ?_)
 show wpAny _ _ (eval e X.env >>= λov=>holding [ov] (eval (.Slice (some st) none none p2) X.env) >>= λiv=>(do standAt pos1;holding [ov,iv] (delItem ov iv);release [ov,iv] [])) _ _ _
 refine Ya (thn (he pins s σ H _ I h) λv s1 ⟨x,H1,I1,r1,q1⟩=>?_)
 refine Ya (YE ?_)
 refine wpAny_Slice ?_
 rw[evalPart_some]
 refine thn (hs pins s1 σ H1 _ I1 q1) λvs s2 ⟨z,H2,I2,r2,l,xs,k,e1,e2,hx,hk,q⟩=>?_
 subst e1 e2
 obtain⟨tk,rfl⟩:=r2
 cases r1
 rw[evalPart_none]
 refine Ye ?_
 refine Ye ?_
 have I4:Inv X pins σ H2 {s2 with heap:=s2.heap.push {cls:=.type "slice",data:=.fields #[.int k tk,.none,.none]}}:=I2.kept (t':=s2.toks) λb ob q=>Yk _ q
 have hsl:({s2 with heap:=s2.heap.push {cls:=.type "slice",data:=.fields #[.int k tk,.none,.none]}}:Shared).heap.get? s2.heap.objs.size=some {cls:=.type "slice",data:=.fields #[.int k tk,.none,.none]}:=Yv _ rfl
 obtain⟨z,its,n,r,hlen,hob⟩:=I4.Zjb hx
 generalize ({s2 with heap:=s2.heap.push {cls:=.type "slice",data:=.fields #[.int k tk,.none,.none]}}:Shared)=s4 at I4 hsl hob⊢
 have hT:s4.TypeIs (.ref l) "list":=⟨_,hob,rfl⟩
 have hTs:s4.TypeIs (.ref s2.heap.objs.size) "slice":=⟨_,hsl,rfl⟩
 refine Ya (wpAny_standAt (Ya (YE ?_)))
 refine wpAny_delItem_slot hT nofun F.slot_list_delitem (wpAny_call_entry F.slot_list_delitem hT F.entry_list_delitem ?_ (F.args_list_delitem_2 _ _))
 show wpAny _ _ (Builtin.List.listSubscript? (.ref s2.heap.objs.size) >>= _) _ _ s4
 refine Ya ?_;unfold Builtin.List.listSubscript?;refine Ya (wpAny_specialOf hTs slice_no_index ?_)
 simp only[Option.isNone_none,if_true];refine Ye ?_
 show wpAny _ _ (typeOf (.ref s2.heap.objs.size) >>= _) _ _ s4
 refine Ya (wpAny_typeOf hTs ?_);rw[Yb nofun,listSliceParts_eq]
 refine Ya (Ya (wpAny_field hsl rfl (x:=.none) rfl (Ya (wpAny_listPart (k:=none) .none ?_))));rw[Yb (show ¬ ((rawPart none==rawInt 0)=true)from Yx)]
 refine Ya (wpAny_field hsl rfl (x:=.int k tk) rfl (Ya (wpAny_listPart (.int (k:Int) tk) ?_)))
 refine Ya (wpAny_field hsl rfl (x:=.none) rfl (Ya (wpAny_listPart (k:=none) .none (Ye ?_))))
 refine Ya (m:=Builtin.List.listItems (.ref l)) ?_;unfold Builtin.List.listItems
 refine Ya (wpAny_seqItems hob rfl (Ye ?_));refine Ya (wpAny_of_eq (sliceIndices_raw (some (k:Int)) none none its.toArray.size (by simp)) (Ya (wpAny_rule ?_)))
 have hb:sliceBounds (some (k:Int)) none none its.toArray.size=((k:Int),((its.length:Nat):Int),1):=by
  unfold sliceBounds
  simp
  omega
 rw[hb]
 have hf:∀f:Array Value->Array Value,(∀ys:Array Value,f ys=(ys.toList.zipIdx.filterMap λxk=>if (decide ((k:Int)<=(xk.2:Int))&&decide ((xk.2:Int)<((its.length:Nat):Int))&&(((xk.2:Int)-(k:Int)) % 1==0))=true then none else some xk.1).toArray)->f its.toArray=(its.take k).toArray:=λf h=>by
  rw[h]
  congr 1
  have:=Zjl its k ⋯ 0
  simpa using this
 refine Ya (m:=updateSeq l _) ?_
 refine wpAny_updateSeq (n:=n) hob rfl ?_ (by rw[Yr];omega) ?_
 .refine Ya (wpAny_letGo (Ye ⟨_,rfl,?_⟩))
  refine wpAny_release (wpAny_deleteEach_nil ⟨σ,_,I4.lset hx hob (hf _ λys=>rfl) (r.Zj6 k) ?_,q⟩)
  rw[YX];omega
 .rw[Yr]
  refine Yf (List.length_filterMap_le _ _) ?_
  rw[List.length_zipIdx]
  show its.length<=sizeLine+1
  omega
end
theorem ZU.unique {f:Nat->Int}{p q q':Nat} (h:ZU f p q) (k:ZU f p q'):q=q':=by
 rcases Nat.lt_trichotomy q q' with z|z|z
 .have:=h.2.2 q' z k.1;have:=k.2.1;omega
 .exact z
 .have:=k.2.2 q z h.1;have:=h.2.1;omega
theorem ZT.unique {f:Nat->Int}{n p r r':Nat} (h:ZT f n p r) (k:ZT f n p r'):r=r':=by
 rcases Nat.lt_trichotomy r r' with z|z|z
 .have:=k.2.2.2 r h.1 z;have:=h.2.2.1;omega
 .exact z
 .have:=h.2.2.2 r' k.1 z;have:=k.2.2.1;omega
theorem ZU.no {f:Nat->Int}{p q:Nat} (h:ZU f p q) (k:Za1 f p):False:=by have:=k q h.1;have:=h.2.1;omega
theorem ZT.no {f:Nat->Int}{n p r:Nat} (h:ZT f n p r) (k:Zav f n p):False:=by have:=k r h.1 h.2.1;have:=h.2.2.1;omega
theorem ZO.unique {f:Nat->Int}{n p:Nat}{e e':Int} (h:ZO f n p e) (k:ZO f n p e'):e=e':=by
 rcases h with⟨h1,h2,h3⟩|⟨q,h1,h2,h3⟩|⟨r,h1,h2,h3⟩|⟨q,r,h1,h2,h3⟩ <;>
 rcases k with⟨k1,k2,k3⟩|⟨q',k1,k2,k3⟩|⟨r',k1,k2,k3⟩|⟨q',r',k1,k2,k3⟩
 .rw[h3,k3]
 .exact(k1.no h1).elim
 .exact(k2.no h2).elim
 .exact(k1.no h1).elim
 .exact(h1.no k1).elim
 .rw[h3,k3,h1.unique k1]
 .exact(h1.no k1).elim
 .exact(k2.no h2).elim
 .exact(h2.no k2).elim
 .exact(k1.no h1).elim
 .rw[h3,k3,h2.unique k2]
 .exact(k1.no h1).elim
 .exact(h1.no k1).elim
 .exact(h2.no k2).elim
 .exact(h1.no k1).elim
 .rw[h3,k3,h1.unique k1,h2.unique k2]
noncomputable def ZV (ns:List Int) (es:List Int):Prop:=es.length=ns.length/\∀p,p<ns.length->ZO (nth ns) ns.length p (es.getD p 0)
theorem ZV.unique {ns es es':List Int} (h:ZV ns es) (k:ZV ns es'):es=es':=by
 refine List.ext_getElem (by rw[h.1,k.1]) λj h1 h2=>?_
 have hj:j<ns.length:=by rw[<-h.1];exact h1
 have:=(h.2 j hj).unique (k.2 j hj)
 simpa[Yi,h1,h2]using this
theorem Zhc {f:Nat->Int}{n p:Nat} (hp:p<n):ZO f n p
  (match ((List.range p).filter λq=>decide (f q<=f p)).getLast?,((List.range (n-(p+1))).filter λj=>decide (f (p+1+j)<f p)).head? with
   |none,none=>-1
   |none,some j=>((p+1+j:Nat):Int)
   |some q,none=>q
   |some q,some j=>if f q<=f (p+1+j)then ((p+1+j:Nat):Int)else q):=by
 have hA:(((List.range p).filter λq=>decide (f q<=f p)).getLast?=none/\Za1 f p)\/∃q,((List.range p).filter λq=>decide (f q<=f p)).getLast?=some q/\ZU f p q:=by
  induction p with
  |zero=>exact .inl ⟨rfl,λq hq=>⋯⟩
  |succ p _ =>
   generalize p+1=P
   have key:∀m,m<=P->(((List.range m).filter λq=>decide (f q<=f P)).getLast?=none/\∀q,q<m->f P<f q)\/∃q,((List.range m).filter λq=>decide (f q<=f P)).getLast?=some q/\q<m/\f q<=f P/\∀r,q<r->r<m->f P<f r:=by
    intro m
    induction m with
    |zero=>intro _;exact .inl ⟨rfl,λq hq=>⋯⟩
    |succ m ih =>
     intro hm
     rw[YN,List.filter_append]
     by_cases hle:f m<=f P
     .refine .inr ⟨m,?_,⋯,hle,λr r1 r2=>⋯⟩
      simp[hle]
     .have e:List.filter (λq=>decide (f q<=f P)) [m]=[]:=by simp[hle]
      rw[e,List.append_nil]
      rcases ih ⋯with⟨i1,i2⟩|⟨q,i1,i2,i3,i4⟩
      .refine .inl ⟨i1,λq hq=>?_⟩
       by_cases z:q=m
       .rw[z];omega
       .exact i2 q ⋯
      .refine .inr ⟨q,i1,⋯,i3,λr r1 r2=>?_⟩
       by_cases z:r=m
       .rw[z];omega
       .exact i4 r r1 ⋯
   rcases key P (Yd _)with⟨i1,i2⟩|⟨q,i1,i2,i3,i4⟩
   .exact .inl ⟨i1,i2⟩
   .exact .inr ⟨q,i1,i2,i3,i4⟩
 have hB:(((List.range (n-(p+1))).filter λj=>decide (f (p+1+j)<f p)).head?=none/\Zav f n p)\/∃j,((List.range (n-(p+1))).filter λj=>decide (f (p+1+j)<f p)).head?=some j/\ZT f n p (p+1+j):=by
  have key:∀m,(((List.range m).filter λj=>decide (f (p+1+j)<f p)).head?=none/\∀j,j<m->f p<=f (p+1+j))\/∃j,((List.range m).filter λj=>decide (f (p+1+j)<f p)).head?=some j/\j<m/\f (p+1+j)<f p/\∀i,i<j->f p<=f (p+1+i):=by
   intro m
   induction m with
   |zero=>exact .inl ⟨rfl,λq hq=>⋯⟩
   |succ m ih =>
    rw[YN,List.filter_append]
    rcases ih with⟨i1,i2⟩|⟨j,i1,i2,i3,i4⟩
    .have e0:List.filter (λj=>decide (f (p+1+j)<f p)) (List.range m)=[]:=List.head?_eq_none_iff.mp i1
     rw[e0,List.nil_append]
     by_cases hlt:f (p+1+m)<f p
     .refine .inr ⟨m,by simp[hlt],⋯,hlt,λi hi=>i2 i hi⟩
     .refine .inl ⟨by simp[hlt],λj hj=>?_⟩
      by_cases z:j=m
      .rw[z];omega
      .exact i2 j ⋯
    .refine .inr ⟨j,?_,⋯,i3,i4⟩
     rw[List.head?_append,i1];rfl
  rcases key (n-(p+1))with⟨i1,i2⟩|⟨j,i1,i2,i3,i4⟩
  .refine .inl ⟨i1,λr r1 r2=>?_⟩
   have:=i2 (r-(p+1)) ⋯
   have e:p+1+(r-(p+1))=r:= ⋯
   rw[e]at this;exact this
  .refine .inr ⟨j,i1,⋯,⋯,i3,λs s1 s2=>?_⟩
   have:=i4 (s-(p+1)) ⋯
   have e:p+1+(s-(p+1))=s:= ⋯
   rw[e]at this;exact this
 rcases hA with⟨a1,a2⟩|⟨q,a1,a2⟩<;>rcases hB with⟨b1,b2⟩|⟨j,b1,b2⟩<;>rw[a1,b1]
 .exact .inl ⟨a2,b2,rfl⟩
 .exact .inr (.inr (.inl ⟨_,a2,b2,rfl⟩))
 .exact .inr (.inl ⟨_,a2,b2,rfl⟩)
 .exact .inr (.inr (.inr ⟨_,_,a2,b2,rfl⟩))
end Lake
namespace Lake
noncomputable def Over (f:Nat->Int) (o p:Nat):Prop:=(o<p/\∀r,o<r->r<=p->f o<=f r)\/(p<o/\∀r,p<=r->r<o->f o<f r)
theorem Over.irrefl {f:Nat->Int}{p:Nat}:¬ Over f p p:=by rintro(⟨h,_⟩|⟨h,_⟩)<;>omega
theorem Over.trans {f:Nat->Int}{o e p:Nat} (h:Over f o e) (k:Over f e p):Over f o p:=by
 rcases h with⟨h1,h2⟩|⟨h1,h2⟩<;>rcases k with⟨k1,k2⟩|⟨k1,k2⟩
 .refine .inl ⟨⋯,λr r1 r2=>?_⟩
  by_cases z:r<=e
  .exact h2 r r1 z
  .have:=k2 r ⋯ r2;have:=h2 e h1 (Yd _);omega
 .have he:=h2 e h1 (Yd _)
  rcases Nat.lt_trichotomy o p with z|z|z
  .exact .inl ⟨z,λr r1 r2=>h2 r r1 ⋯⟩
  .have:=k2 p (Yd _) k1;subst z;omega
  .exact .inr ⟨z,λr r1 r2=>by have:=k2 r r1 ⋯;omega⟩
 .have he:=h2 e (Yd _) h1
  rcases Nat.lt_trichotomy o p with z|z|z
  .exact .inl ⟨z,λr r1 r2=>by have:=k2 r ⋯ r2;omega⟩
  .have:=k2 p k1 (Yd _);subst z;omega
  .exact .inr ⟨z,λr r1 r2=>h2 r ⋯ r2⟩
 .refine .inr ⟨⋯,λr r1 r2=>?_⟩
  by_cases z:r<e
  .have:=k2 r r1 z;have:=h2 e (Yd _) h1;omega
  .exact h2 r ⋯ r2
theorem ZcL {f:Nat->Int}{n p:Nat}{e:Int} (hp:p<n) (h:ZO f n p e):e=-1\/∃q:Nat,e=q/\q<n/\Over f q p:=by
 have pv:∀q,ZU f p q->Over f q p:=λq h=>.inl ⟨h.1,λr r1 r2=>by
  by_cases z:r=p
  .rw[z];exact h.2.1
  .have:=h.2.2 r r1 ⋯;have:=h.2.1;omega⟩
 have nx:∀q,ZT f n p q->Over f q p:=λq h=>.inr ⟨h.1,λr r1 r2=>by
  by_cases z:r=p
  .rw[z];exact h.2.2.1
  .have:=h.2.2.2 r ⋯ r2;have:=h.2.2.1;omega⟩
 rcases h with⟨_,_,h⟩|⟨q,h1,_,h⟩|⟨r,_,h1,h⟩|⟨q,r,h1,h2,h⟩
 .exact .inl h
 .exact .inr ⟨q,h,by have:=h1.1;omega,pv q h1⟩
 .exact .inr ⟨r,h,h1.2.1,nx r h1⟩
 .by_cases z:f q<=f r
  .rw[Yc z]at h;exact .inr ⟨r,h,h2.2.1,nx r h2⟩
  .rw[Yb z]at h;exact .inr ⟨q,h,by have:=h1.1;omega,pv q h1⟩
theorem ZfK {f:Nat->Int}{n p o:Nat}{e:Int} (hp:p<n) (ho:o<n) (h:ZO f n p e) (hO:Over f o p):∃q:Nat,e=q/\q<n/\(o=q\/Over f o q):=by
 rcases hO with⟨o1,o2⟩|⟨o1,o2⟩
 .have op:=o2 p o1 (Yd _)
  have pv:∀q,ZU f p q->o=q\/(o<q/\Over f o q/\f o<=f q):=λq h=>by
   rcases Nat.lt_trichotomy o q with z|z|z
   .have:=h.1;exact .inr ⟨z,.inl ⟨z,λr r1 r2=>o2 r r1 ⋯⟩,o2 q z ⋯⟩
   .exact .inl z
   .have:=h.2.2 o z o1;omega
  rcases h with⟨h1,_,h⟩|⟨q,h1,_,h⟩|⟨r,h1,_,h⟩|⟨q,r,h1,h2,h⟩
  .have:=h1 o o1;omega
  .refine⟨q,h,by have:=h1.1;omega,?_⟩
   rcases pv q h1 with z|z
   .exact .inl z
   .exact .inr z.2.1
  .have:=h1 o o1;omega
  .by_cases z:f q<=f r
   .rw[Yc z]at h
    refine⟨r,h,h2.2.1,.inr (.inl ⟨by have:=h2.1;omega,λs s1 s2=>?_⟩)⟩
    by_cases sp:s<=p
    .exact o2 s s1 sp
    .by_cases sr:s=r
     .rw[sr]
      rcases pv q h1 with y|y
      .rw[y];exact z
      .have:=y.2.2;omega
     .have:=h2.2.2.2 s ⋯ ⋯;omega
   .rw[Yb z]at h
    refine⟨q,h,by have:=h1.1;omega,?_⟩
    rcases pv q h1 with z|z
    .exact .inl z
    .exact .inr z.2.1
 .have op:=o2 p (Yd _) o1
  have nx:∀r,ZT f n p r->o=r\/(r<o/\Over f o r/\f o<f r):=λr h=>by
   rcases Nat.lt_trichotomy o r with z|z|z
   .have:=h.2.2.2 o o1 z;omega
   .exact .inl z
   .have:=h.1;exact .inr ⟨z,.inr ⟨z,λs s1 s2=>o2 s ⋯ s2⟩,o2 r ⋯ z⟩
  rcases h with⟨_,h1,h⟩|⟨q,_,h1,h⟩|⟨r,_,h1,h⟩|⟨q,r,h1,h2,h⟩
  .have:=h1 o o1 ho;omega
  .have:=h1 o o1 ho;omega
  .refine⟨r,h,h1.2.1,?_⟩
   rcases nx r h1 with z|z
   .exact .inl z
   .exact .inr z.2.1
  .by_cases z:f q<=f r
   .rw[Yc z]at h
    refine⟨r,h,h2.2.1,?_⟩
    rcases nx r h2 with z|z
    .exact .inl z
    .exact .inr z.2.1
   .rw[Yb z]at h
    refine⟨q,h,by have:=h1.1;omega,.inr (.inr ⟨by have:=h1.1;omega,λs s1 s2=>?_⟩)⟩
    by_cases sp:p<=s
    .exact o2 s sp s2
    .by_cases sq:s=q
     .rw[sq]
      rcases nx r h2 with y|y
      .rw[y];omega
      .have:=y.2.2;omega
     .have:=h1.2.2 s ⋯ ⋯;omega
theorem Zhd {f:Nat->Int}{n p o q:Nat} (hp:p<n) (ho:o<n) (h:ZO f n p (q:Int)):Over f o p↔o=q\/Over f o q:=by
 refine⟨λk=>?_,λk=>?_⟩
 .obtain⟨q',e,_,z⟩:=ZfK hp ho h k
  have:q'=q:= ⋯
  rw[this]at z;exact z
 .rcases ZcL hp h with z|⟨q',e,_,z⟩
  .omega
  .have:q'=q:= ⋯
   rw[this]at z
   rcases k with k|k
   .rw[k];exact z
   .exact k.trans z
theorem ZfL {f:Nat->Int}{n p o:Nat} (hp:p<n) (ho:o<n) (h:ZO f n p (-1)):¬ Over f o p:=λk=>by
 obtain⟨q',e,_,z⟩:=ZfK hp ho h k
 omega
theorem ZeJ {P Q:Nat->Bool}:∀n,(∀o,o<n->P o=Q o)->(List.range n).countP P=(List.range n).countP Q
 |0,_=>rfl
 |n+1,h=>by
  rw[YN,List.countP_append,List.countP_append,ZeJ n (λo ho=>h o ⋯)]
  simp[List.countP_cons,h n ⋯]
theorem ZbA {P Q:Nat->Bool}{e:Nat}:∀n,e<n->(∀o,o<n->(P o=true↔o=e\/Q o=true))->Q e=false->(List.range n).countP P=(List.range n).countP Q+1
 |0,h,_,_=>⋯
 |n+1,h,hi,hq=>by
  rw[YN,List.countP_append,List.countP_append]
  by_cases z:e=n
  .have e1:(List.range n).countP P=(List.range n).countP Q:=ZeJ n λo ho=>by
    have:=hi o ⋯
    cases hP:P o<;>cases hQ:Q o<;>simp[hP,hQ]at this<;>first|rfl|omega
   have hPn:P n=true:=(hi n ⋯).mpr (.inl z.symm)
   rw[z]at hq
   rw[e1];simp[List.countP_cons,hPn,hq]
  .rw[ZbA n ⋯ (λo ho=>hi o ⋯) hq]
   have:=hi n ⋯
   have hn:P n=Q n:=by
    cases hP:P n<;>cases hQ:Q n<;>simp[hP,hQ]at this<;>first|rfl|omega
   simp[List.countP_cons,hn];omega
theorem Zj8 {P:Nat->Bool}{e n:Nat} (he:e<n) (h:P e=false):(List.range n).countP P<n:=by
 have h1:=ZbA (P:=λo=>decide (o=e)||P o) (Q:=P) n he (λo _=>by simp) h
 have h2:=List.countP_le_length (p:=λo=>decide (o=e)||P o) (l:=List.range n)
 rw[h1,Y7]at h2
 omega
noncomputable def Zah (T:List Int):Nat->Int->List Nat
 |0,_=>[]
 |k+1,at_=>if 0<=at_/\at_<T.length then at_.toNat::Zah T k (nth T at_.toNat)else []
open Classical in
noncomputable def dep (f:Nat->Int) (n p:Nat):Nat:=(List.range n).countP λo=>decide (Over f o p)
theorem Zj9 {f:Nat->Int}{n p:Nat} (hp:p<n):dep f n p<n:=by
 classical
 exact Zj8 hp (by simpa using Over.irrefl)
theorem Zjm {f:Nat->Int}{n p q:Nat} (hp:p<n) (h:ZO f n p (q:Int)):dep f n p=dep f n q+1:=by
 classical
 have hq:q<n:=by
  rcases ZcL hp h with z|⟨q',e,z,_⟩<;>omega
 exact ZbA n hq (λo ho=>by simpa using Zhd hp ho h) (by simpa using Over.irrefl)
theorem ZkO {f:Nat->Int}{n p:Nat} (hp:p<n) (h:ZO f n p (-1)):dep f n p=0:=by
 classical
 unfold dep
 rw[List.countP_eq_zero]
 intro o ho
 simpa using ZfL hp (by simpa using ho) h
theorem ZeK {P Q:Nat->Bool}:∀n,(∀o,o<n->P o=true->Q o=true)->(List.range n).countP P<=(List.range n).countP Q
 |0,_=>Yd _
 |n+1,h=>by
  rw[YN,List.countP_append,List.countP_append]
  have:=ZeK n (λo ho=>h o ⋯)
  have hn:=h n ⋯
  cases hP:P n<;>cases hQ:Q n<;>simp[List.countP_cons,hP,hQ]at hn⊢<;>omega
theorem Zka {f:Nat->Int}{n p q:Nat} (hp:p<n) (hq:q<n) (h:Over f q p):dep f n q<dep f n p:=by
 classical
 have h1:=ZbA (P:=λo=>decide (o=q)||decide (Over f o q)) (Q:=λo=>decide (Over f o q)) (e:=q) n hq (λo _=>by simp) (by simpa using Over.irrefl)
 have h2:=ZeK (P:=λo=>decide (o=q)||decide (Over f o q)) (Q:=λo=>decide (Over f o p)) n (λo _ ho=>by
  simp at ho⊢
  rcases ho with z|z
  .rw[z];exact h
  .exact z.trans h)
 rw[h1]at h2
 exact h2
theorem ZeL {ns T:List Int} (hT:ZV ns T):∀k p,p<ns.length->dep (nth ns) ns.length p<=k->(∀o,o∈Zah T k (nth T p)↔o<ns.length/\Over (nth ns) o p)/\(Zah T k (nth T p)).length=dep (nth ns) ns.length p
 |k,p,hp,hk=>by
  have hE:ZO (nth ns) ns.length p (nth T p):=hT.2 p hp
  rcases ZcL hp hE with z|⟨q,e,hq,hO⟩
  .have e0:Zah T k (nth T p)=[]:=by
    cases k with
    |zero=>rfl
    |succ k=>rw[Zah,Yb ⋯]
   rw[e0]
   rw[z]at hE
   exact⟨λo=>⟨λh=>by simp at h,λh=>absurd h.2 (ZfL hp h.1 hE)⟩,by rw[ZkO hp hE];rfl⟩
  .rw[e]at hE
   have hd:=Zjm hp hE
   obtain⟨k',rfl⟩:∃k',k=k'+1:=⟨k-1,⋯⟩
   have ih:=ZeL hT k' q hq ⋯
   have eT:((q:Nat):Int).toNat=q:= ⋯
   rw[Zah,e,Yc ⟨⋯,by rw[hT.1];omega⟩,eT]
   refine⟨λo=>?_,by simp[ih.2,hd]⟩
   rw[Ym,ih.1 o]
   refine⟨λh=>?_,λh=>?_⟩
   .rcases h with h|h
    .rw[h];exact⟨hq,hO⟩
    .exact⟨h.1,h.2.trans hO⟩
   .rcases(Zhd hp h.1 hE).mp h.2 with z|z
    .exact .inl z
    .exact .inr ⟨h.1,z⟩
noncomputable def ZcM (T:List Int):List Int:=(List.range T.length).map λp=>((Zah T T.length (nth T p)).length:Int)
theorem Zdc (T:List Int):(ZcM T).length=T.length:=by simp[ZcM]
theorem Zhe {T:List Int}{p:Nat} (h:p<T.length):nth (ZcM T) p=(Zah T T.length (nth T p)).length:=by
 simp[nth,ZcM,Yi,h]
theorem Zjn {ns T:List Int} (hT:ZV ns T):ZV (ZcM T) T:=by
 have eL:T.length=ns.length:=hT.1
 have hd:∀p,p<ns.length->nth (ZcM T) p=(dep (nth ns) ns.length p:Int):=λp hp=>by
  rw[Zhe ⋯,eL,(ZeL hT ns.length p hp (YS (Zj9 hp))).2]
 refine⟨(Zdc T).symm,λp hp=>?_⟩
 rw[Zdc,eL]at hp⊢
 have lt:∀q p,q<ns.length->p<ns.length->Over (nth ns) q p->nth (ZcM T) q<nth (ZcM T) p:=λq p hq hp h=>by
  rw[hd q hq,hd p hp]
  have:=Zka hp hq h;omega
 generalize nth (ZcM T)=g at lt
 clear hd
 have pv:∀q,ZU (nth ns) p q->ZU g p q:=λq h=>by
  refine⟨h.1,Int.le_of_lt (lt q p (by have:=h.1;omega) hp (.inl ⟨h.1,λr r1 r2=>?_⟩)),λr r1 r2=>lt p r hp ⋯ (.inr ⟨r2,λs s1 s2=>h.2.2 s ⋯ s2⟩)⟩
  by_cases z:r=p
  .rw[z];exact h.2.1
  .have:=h.2.2 r r1 ⋯;have:=h.2.1;omega
 have nx:∀r,ZT (nth ns) ns.length p r->ZT g ns.length p r:=λq h=>by
  refine⟨h.1,h.2.1,lt q p h.2.1 hp (.inr ⟨h.1,λr r1 r2=>?_⟩),λs s1 s2=>Int.le_of_lt (lt p s hp (by have:=h.2.1;omega) (.inl ⟨s1,λr r1 r2=>h.2.2.2 r r1 ⋯⟩))⟩
  by_cases z:r=p
  .rw[z];exact h.2.2.1
  .have:=h.2.2.2 r ⋯ r2;have:=h.2.2.1;omega
 have np:Za1 (nth ns) p->Za1 g p:=λh q hq=>lt p q hp ⋯ (.inr ⟨hq,λr r1 r2=>h r r2⟩)
 have nn:Zav (nth ns) ns.length p->Zav g ns.length p:=λh r r1 r2=>Int.le_of_lt (lt p r hp r2 (.inl ⟨r1,λs s1 s2=>h s s1 ⋯⟩))
 have hE:ZO (nth ns) ns.length p (T.getD p 0):=hT.2 p hp
 rcases hE with⟨h1,h2,h⟩|⟨q,h1,h2,h⟩|⟨r,h1,h2,h⟩|⟨q,r,h1,h2,h⟩
 .exact .inl ⟨np h1,nn h2,h⟩
 .exact .inr (.inl ⟨q,pv q h1,nn h2,h⟩)
 .exact .inr (.inr (.inl ⟨r,np h1,nx r h2,h⟩))
 .refine .inr (.inr (.inr ⟨q,r,pv q h1,nx r h2,?_⟩))
  rw[h]
  have hq:q<ns.length:=by have:=h1.1;omega
  by_cases z:nth ns q<=nth ns r
  .have:=lt q r hq h2.2.1 (.inl ⟨by have:=h1.1;have:=h2.1;omega,λs s1 s2=>by
    by_cases y:s=r
    .rw[y];exact z
    .by_cases y2:s=p
     .rw[y2];exact h1.2.1
     .have:=h1.2.1
      by_cases y3:s<p
      .have:=h1.2.2 s s1 y3;omega
      .have:=h2.2.2.2 s ⋯ ⋯;omega⟩)
   rw[Yc z,Yc ⋯]
  .have:=lt r q h2.2.1 hq (.inr ⟨by have:=h1.1;have:=h2.1;omega,λs s1 s2=>by
    have:=h1.2.1;have:=h2.2.2.1
    by_cases y:s=q
    .rw[y];omega
    .by_cases y2:s=p
     .rw[y2];omega
     .by_cases y3:s<p
      .have:=h1.2.2 s ⋯ y3;omega
      .have:=h2.2.2.2 s ⋯ ⋯;omega⟩)
   rw[Yb z,Yb ⋯]
theorem Zjo (T:List Int):(∃ns,ZV ns T)↔ZV (ZcM T) T:=⟨λ⟨_,h⟩=>Zjn h,λh=>⟨_,h⟩⟩
end Lake
namespace Lake
open PySem PySem.Spec PyProof.Rows PySem.W
noncomputable def ZbY (es:List Int) (A B:List Nat) (i:Nat):List Int:=match A.getLast? with
 |some q=>(match B.head? with|some b=>es.set b i|none=>es).set i (q:Int)
 |none=>match B.head? with|some b=>es.set b i|none=>es
noncomputable def Zs (l:List Nat):List V:=l.map λq=>V.int (q:Nat)
theorem Zdd (l:List Int) (a p:Nat) (v:Int) (h:p<l.length):(l.set a v).getD p 0=if a=p then v else l.getD p 0:=by
 rw[Yi,Yi]
 by_cases e:a=p
 .subst e;rw[Yc rfl,List.getElem?_set_self h];rfl
 .rw[Yb e,List.getElem?_set_ne e]
theorem ZeM (es:List Int) (A B:List Nat) (i:Nat):(ZbY es A B i).length=es.length:=by
 unfold ZbY
 cases A.getLast?<;>cases B.head?<;>simp
theorem Zev (es:List Int) (A B:List Nat) (i p:Nat) (hp:p<es.length) (hb:∀b,B.head?=some b->b≠i):(ZbY es A B i).getD p 0=if p=i then (match A.getLast? with|some q=>(q:Int)|none=>es.getD i 0)else if B.head?=some p then (i:Int)else es.getD p 0:=by
 unfold ZbY
 cases hA:A.getLast? with
 |none =>
  cases hB:B.head? with
  |none =>
   by_cases e:p=i
   .rw[Yc e,e]
   .rw[Yb e,Yb (by simp)]
  |some b =>
   show(es.set b i).getD p 0=_
   rw[Zdd _ _ _ _ hp]
   by_cases e:p=i
   .rw[Yc e,Yb (by rw[e];exact hb b hB),e]
   .rw[Yb e]
    by_cases e2:b=p
    .rw[Yc e2,Yc (by rw[e2])]
    .rw[Yb e2,Yb (by intro z;exact e2 (Yz z))]
 |some q =>
  cases hB:B.head? with
  |none =>
   show(es.set i q).getD p 0=_
   rw[Zdd _ _ _ _ hp]
   by_cases e:p=i
   .rw[Yc e,Yc e.symm]
   .rw[Yb e,Yb (λz=>e z.symm),Yb (by simp)]
  |some b =>
   show((es.set b i).set i q).getD p 0=_
   rw[Zdd _ _ _ _ (by simpa using hp),Zdd _ _ _ _ hp]
   by_cases e:p=i
   .rw[Yc e,Yc e.symm]
   .rw[Yb e,Yb (λz=>e z.symm)]
    by_cases e2:b=p
    .rw[Yc e2,Yc (by rw[e2])]
    .rw[Yb e2,Yb (by intro z;exact e2 (Yz z))]
theorem Zkb:∀(l:List Nat) (i lo:Nat),l.Pairwise (· < ·)->(∀q∈l,lo<=q/\q<i)->l.length+lo<=i\/l=[]
 |[],_,_,_,_=>.inr rfl
 |q::r,i,lo,h,hq=>by
  have h1:=hq q (by simp)
  have hr:=Y2.mp h
  rcases Zkb r i (q+1) hr.2 (λx hx=>⟨hr.1 x hx,(hq x (by simp[hx])).2⟩)with z|z
  .left;simp;omega
  .left;rw[z];simp;omega
theorem ZI (l:List Nat):(Zs l).length=l.length:=by simp[Zs]
theorem Zbp (a b:List Nat):Zs (a++b)=Zs a++Zs b:=by simp[Zs]
theorem ZeN {l:List Nat}{j q:Nat} (h:l[j]?=some q):atI (Zs l) (j:Int)=some (V.int (q:Nat)):=by
 have hj:=(Yu.mp h).1
 have e:=(Yu.mp h).2
 rw[ZdE rfl (by rw[ZI];exact hj)]
 simp[Zs,e]
theorem Zgs {n j:Nat} (h:j<n):ixN n (j:Int)=some j:=by
 unfold ixN
 rw[Yc ⋯,Yc ⋯];simp
noncomputable def wayI (T:List Int) (p:Nat):List Int:=(Zah T T.length (nth T p)).map λq=>((q:Nat):Int)
noncomputable def ZeO (T:List Int):Prop:=T.length<=40/\∃ns,ZV ns T
theorem Zhf (T:List Int):∀k a,(Zah T k a).length<=k
 |0,_=>by simp[Zah]
 |k+1,a=>by
  rw[Zah]
  split
  .have:=Zhf T k (nth T a.toNat);simp;omega
  .simp
noncomputable def Zag (T:List Int):Nat->Int->Int
 |0,a=>a
 |j+1,a=>if 0<=a/\a<T.length then Zag T j (nth T a.toNat)else a
theorem ZfM (T:List Int):∀j a,0<=Zag T j a->Zag T j a<T.length->(Zah T j a).length=j->Zah T (j+1) a=Zah T j a++[(Zag T j a).toNat]/\Zag T (j+1) a=nth T (Zag T j a).toNat
 |0,a,h0,h1,_=>by
  have h0':0<=a:=h0
  have h1':a<T.length:=h1
  constructor
  .simp[Zah,Zag,h0',h1']
  .simp[Zag,h0',h1']
 |j+1,a,h0,h1,hl=>by
  rw[Zah]at hl
  by_cases z:0<=a/\a<T.length
  .rw[Yc z]at hl
   have e1:Zag T (j+1) a=Zag T j (nth T a.toNat):=by rw[Zag,Yc z]
   rw[e1]at h0 h1
   have ih:=ZfM T j (nth T a.toNat) h0 h1 (by simpa using hl)
   constructor
   .rw[Zah,Yc z,ih.1,Zah.eq_def T (j+1) a]
    simp only[Yc z,e1];simp
   .rw[Zag,Yc z,ih.2,e1]
  .rw[Yb z]at hl;simp at hl
theorem ZfN (T:List Int):∀j k a,j<=k->(Zah T j a).length=j->¬ (0<=Zag T j a/\Zag T j a<T.length)->Zah T k a=Zah T j a
 |0,k,a,_,_,h=>by
  have h':¬ (0<=a/\a<T.length):=h
  cases k with
  |zero=>rfl
  |succ k=>rw[show Zah T 0 a=[]from rfl,Zah,Yb h']
 |j+1,k,a,hk,hl,h=>by
  rw[Zah]at hl
  by_cases z:0<=a/\a<T.length
  .rw[Yc z]at hl
   rw[Zag,Yc z]at h
   obtain⟨k',rfl⟩:∃k',k=k'+1:=⟨k-1,⋯⟩
   rw[Zah,Yc z,ZfN T j k' _ ⋯ (by simpa using hl) h,Zah,Yc z]
  .rw[Yb z]at hl;simp at hl
section
variable {X:Cx}
theorem Zkc {K:Frag} (hK:X.K=K):OpR X (compareOp .In) (rIn K false):=hK▸Zja
end
theorem Zax {a b:TS}{D:Ends}{σ:St}{H:Hp} (Mid:St->Hp->Prop) (h1:∀R:St->Hp->Prop,(∀σ' H',Mid σ' H'->R σ' H')->a {D with nx:=R} σ H) (h2:∀σ' H',Mid σ' H'->b D σ' H'):tSeq a b D σ H:=h1 _ h2
end Lake
namespace Lake
open PySem PySem.Spec PyProof.Rows
structure CellsOf (cl:List (Str×Addr)) (n0:Nat) (cs:List (Str×Addr)) (h0 h:Heap) (done:List (Str×NameKind)):Prop where
 old:∀b o,h0.get? b=some o->h.get? b=some o
 sz:n0<=h.objs.size
 mem:∀p∈cs,p∈cl\/(n0<=p.2/\p.2<h.objs.size/\h.IsCell p.2 none)
 inj:∀p∈cs,∀q∈cs,n0<=p.2->p.2=q.2->p.1=q.1
 own:∀y∈done,y.2=.cell->∃c,cs.lookup y.1=some c/\n0<=c
 oth:∀x,(∀y∈done,y.2=.cell->y.1≠x)->cs.lookup x=cl.lookup x
theorem ZdF {M:Model}{A:Around}{E:Value->Shared->Prop}{cl:List (Str×Addr)}{n0:Nat}{h0:Heap} (hcl:∀p∈cl,p.2<n0):∀(names:List (Str×NameKind)) (cs:List (Str×Addr)) (done:List (Str×NameKind)) (s:Shared),CellsOf cl n0 cs h0 s.heap done ->
  wpAny M A (forIn names cs λ(x:Str×NameKind) (r:List (Str×Addr))=>(match x with
   |(name,kind)=>if (kind==NameKind.cell)=true then do
     let a <-alloc {cls:=.type "cell",data:=.cell none}
     pure (ForInStep.yield ((name,a)::r))
    else pure (ForInStep.yield r):Sem (ForInStep (List (Str×Addr))))) (λcs' s'=>∃h',s'={s with heap:=h'}/\CellsOf cl n0 cs' h0 h' (done++names)) E s
 |[],cs,done,s,I=>by
  rw[List.forIn_nil,List.append_nil]
  exact Ye ⟨s.heap,rfl,I⟩
 |(n,k)::r,cs,done,s,I=>by
  rw[List.forIn_cons]
  by_cases hk:k=.cell
  .subst hk
   simp only[beq_self_eq_true,if_true]
   refine Ya (Ya (wpAny_alloc (Ye ?_)))
   have hget:(s.heap.push {cls:=.type "cell",data:=.cell none}).get? s.heap.objs.size=some {cls:=.type "cell",data:=.cell none}:=Yv _ rfl
   have I':CellsOf cl n0 ((n,s.heap.objs.size)::cs) h0 (s.heap.push {cls:=.type "cell",data:=.cell none}) (done++[(n,.cell)]):=by
    refine⟨λb o e=>Yk _ (I.old b o e),by rw[Heap.size_push];exact Nat.le_succ_of_le I.sz,λp hp=>?_,λp hp q hq hn e=>?_,λy hy hc=>?_,λx hx=>?_⟩
    .rcases Ym.mp hp with z|z
     .subst z
      exact .inr ⟨I.sz,by rw[Heap.size_push];exact Nat.lt_succ_self _,_,hget,rfl⟩
     .rcases I.mem p z with w|⟨w1,w2,o,w3,w4⟩
      .exact .inl w
      .exact .inr ⟨w1,by rw[Heap.size_push];exact YL w2,o,Yk _ w3,w4⟩
    .have lt:∀p∈cs,p.2<s.heap.objs.size:=λp hp=>by
      rcases I.mem p hp with w|w
      .exact Ys (hcl p w) I.sz
      .exact w.2.1
     rcases Ym.mp hp with z|z<;>rcases Ym.mp hq with z'|z'
     .rw[z,z']
     .subst z;exact absurd (show s.heap.objs.size<s.heap.objs.size from(show s.heap.objs.size=q.2 from e)▸lt q z') (YA _)
     .subst z';exact absurd (show s.heap.objs.size<s.heap.objs.size from(show p.2=s.heap.objs.size from e)▸lt p z) (YA _)
     .exact I.inj p z q z' hn e
    .rcases Yp.mp hy with z|z
     .obtain⟨c,e1,e2⟩:=I.own y z hc
      by_cases hx:y.1=n
      .exact⟨s.heap.objs.size,by rw[hx];simp,I.sz⟩
      .have hb:(y.1==n)=false:=by simpa using hx
       exact⟨c,by simp only[List.lookup_cons,hb];exact e1,e2⟩
     .have:y=(n,.cell):=by simpa using z
      subst this
      exact⟨s.heap.objs.size,by simp,I.sz⟩
    .have hxn:n≠x:=hx (n,.cell) (by simp) rfl
     have hb:(x==n)=false:=by simpa using hxn.symm
     simp only[List.lookup_cons,hb]
     exact I.oth x λy hy=>hx y (YI _ hy)
   refine thn (ZdF hcl r _ _ {s with heap:=s.heap.push {cls:=.type "cell",data:=.cell none}} I') λcs' s' ⟨h',e1,e2⟩=>⟨h',e1,?_⟩
   rw[YZ]at e2
   exact e2
  .have e1:(k==NameKind.cell)=false:=by cases k<;>first|rfl|exact absurd rfl hk
   simp only[e1,Bool.false_eq_true,if_false]
   refine Ya (Ye ?_)
   have I':CellsOf cl n0 cs h0 s.heap (done++[(n,k)]):=by
    refine⟨I.old,I.sz,I.mem,I.inj,λy hy hc=>?_,λx hx=>I.oth x λy hy=>hx y (YI _ hy)⟩
    rcases Yp.mp hy with z|z
    .exact I.own y z hc
    .have:y=(n,k):=by simpa using z
     subst this
     exact absurd hc hk
   refine thn (ZdF hcl r _ _ s I') λcs' s' ⟨h',e1,e2⟩=>⟨h',e1,?_⟩
   rw[YZ]at e2
   exact e2
theorem Zh3 {M:Model}{A:Around}{E:Value->Shared->Prop}{s:Shared}{scope:Scope}{globals:Addr}{cl:List (Str×Addr)}{qual:Str}{around:Env}{Q:Env->Shared->Prop} (hcl:∀p∈cl,p.2<s.heap.objs.size)
  (h:∀cs h',CellsOf cl (s.heap.objs.size+1) cs (s.heap.push {cls:=.type "dict",data:=.dict #[]}) h' scope.names->Q {scope:=scope,locals:=s.heap.objs.size,globals:=globals,cells:=cs,qual:=qual,func:=none,code:=around.code,frame:=around.frame,builtins:=around.builtins} {s with heap:=h'}) :
  wpAny M A (newFunctionEnv scope globals cl [] qual none .none (some around)) Q E s:=by
 unfold newFunctionEnv
 refine Ya (wpAny_alloc ?_)
 refine Ya (thn (ZdF (cl:=cl) (n0:=s.heap.objs.size+1) (h0:=s.heap.push {cls:=.type "dict",data:=.dict #[]}) (λp hp=>YL (hcl p hp)) scope.names cl [] {s with heap:=s.heap.push {cls:=.type "dict",data:=.dict #[]}} ⟨λb o e=>e,by rw[Heap.size_push];exact Yd _,λp hp=>.inl hp,λp hp q hq hn e=>absurd (hcl p hp) (Nat.not_lt_of_le (Nat.le_of_succ_le hn)),λy hy=>(nomatch hy),λx hx=>rfl⟩) λcs s' ⟨h',e1,e2⟩=>?_)
 subst e1
 rw[List.nil_append]at e2
 exact Ya (Ye (Ye (h cs h' e2)))
noncomputable def Zaw (around scope:Scope):Bool :=
 scope.kind==.function&&around.kind==.function&&scope.names.all λy=>match y.2 with
  |.local=>scope.names.lookup y.1==some .local
  |.cell=>scope.names.lookup y.1==some .cell
  |.free=>(scope.names.lookup y.1==some .free)&&(around.names.lookup y.1==some .cell||around.names.lookup y.1==some .free)
  |_=>true
theorem Zde {a s:Scope} (h:Zaw a s=true):s.kind=.function:=by
 simp only[Zaw,Bool.and_eq_true,beq_iff_eq]at h;exact h.1.1
theorem ZcN {a s:Scope} (h:Zaw a s=true) {y:Str×NameKind} (hy:y∈s.names):(match y.2 with
  |.local=>s.names.lookup y.1==some .local
  |.cell=>s.names.lookup y.1==some .cell
  |.free=>(s.names.lookup y.1==some .free)&&(a.names.lookup y.1==some .cell||a.names.lookup y.1==some .free)
  |_=>true)=true:=by
 simp only[Zaw,Bool.and_eq_true]at h
 exact List.all_eq_true.mp h.2 y hy
theorem Zfh {a s:Scope} (h:Zaw a s=true):∀y∈s.names,y.2=.local->s.names.lookup y.1=some .local:=λy hy e=>by
 have q:=ZcN h hy
 rw[e]at q
 exact beq_iff_eq.mp q
theorem Zgt {a s:Scope} (h:Zaw a s=true):∀y∈s.names,y.2=.cell->s.names.lookup y.1=some .cell:=λy hy e=>by
 have q:=ZcN h hy
 rw[e]at q
 exact beq_iff_eq.mp q
theorem ZbB {a s:Scope} (h:Zaw a s=true):∀y∈s.names,y.2=.free->s.names.lookup y.1=some .free/\(a.names.lookup y.1=some .cell\/a.names.lookup y.1=some .free):=λy hy e=>by
 have q:=ZcN h hy
 rw[e]at q
 simp only[Bool.and_eq_true,Bool.or_eq_true,beq_iff_eq]at q
 exact q
noncomputable def Zae (X:Cx) (Nc:List Str) (scope:Scope) (cs:List (Str×Addr)) (C:Addr) (s2:Shared) (H2:Hp) (fp:List Addr):Cx :=
 {ZjU X Nc scope cs C s2 H2 fp with fn:=λx=>scope.names.lookup x==some .cell}
theorem Zhg {env:Env}{scope:Scope} (h:∀y∈scope.names,y.2=.free->∃c,env.cells.lookup y.1=some c) :
  ∃cl,closureFor scope env=pure cl/\(∀p∈cl,env.cells.lookup p.1=some p.2)/\(∀y∈scope.names,y.2=.free->∃c,cl.lookup y.1=some c/\env.cells.lookup y.1=some c):=by
 obtain⟨cl,e,h1,h2,h3⟩:=ZcI (env:=env) scope.names [] h
 have up:∀p∈cl,env.cells.lookup p.1=some p.2:=λp q=>by
  rcases h1 _ q with z|z
  .cases z
  .exact z
 refine⟨cl,?_,up,λy hy hf=>?_⟩
 .unfold closureFor
  simp only[bind_pure_comp]at e⊢
  rw[e]
  exact pure_bind _ _
 .obtain⟨c,hc⟩:=h3 y hy hf
  cases q:cl.lookup y.1 with
  |none=>exact absurd (List.lookup_eq_none_iff.mp q _ hc) (by simp)
  |some c'=>exact⟨c',rfl,up _ (PySem.mem_of_lookup q)⟩
section
variable {X:Cx}
theorem Zhh {pins:List (Addr×Obj)}{σ:St}{H2:Hp}{s2:Shared}{Nc:List Str}{js:List (Option Nat)}{scope:Scope}{cs:List (Str×Addr)}{fp:List Addr}{h1:Heap}{tk:Nat}{D C:Addr}{oD:Obj}{m:Str->Option Value}
  (I:Inv X pins σ H2 s2) (hok:Zaw X.env.scope scope=true) (htk:Zas X.N Nc scope js 0=true) (up:∀x c,cs.lookup x=some c->X.env.cells.lookup x=some c\/(C<c/\h1.IsCell c none)) (hinj:∀x y c,cs.lookup x=some c->cs.lookup y=some c->x=y) (hown:∀y∈scope.names,y.2=.cell->∃c,cs.lookup y.1=some c/\C<c) (hfr:∀y∈scope.names,y.2=.free->∃c,cs.lookup y.1=some c/\X.env.cells.lookup y.1=some c)
  (hfp:∀b∈fp,FpOk X pins H2 b) (hfl:∀b∈fp,b<s2.heap.objs.size) (hD:D=s2.heap.objs.size) (hC:C=s2.heap.objs.size+1) (old:∀b o,s2.heap.get? b=some o->h1.get? b=some o) (hns:h1.Ns C m) (hoD:h1.get? D=some oD) (hdD:∀v,oD.data≠.cell v) :
  Inv (Zae X Nc scope cs C s2 H2 fp) [(D,oD)] (iniC js σ) H2 {s2 with heap:=h1,toks:=tk}:=by
 have leC:s2.heap.objs.size<=C:=by rw[hC];exact Y3 _
 have leD:s2.heap.objs.size<=D:=Y5 hD.symm
 have kf:∀x,((compEnvC scope cs C X.env).kindOf x=some .cell\/(compEnvC scope cs C X.env).kindOf x=some .free)->∃c,cs.lookup x=some c:=λx hx=>by
  have:∃k,(compEnvC scope cs C X.env).kindOf x=some k/\(k=.cell\/k=.free):=hx.elim (λq=>⟨_,q,.inl rfl⟩) λq=>⟨_,q,.inr rfl⟩
  obtain⟨k,e,hk⟩:=this
  obtain⟨k',h1,h2⟩:=Zan (show(scope.names.map _).lookup x=some k from e)
  have hm:=lookup_mem h1
  have:k'=.free\/k'=.cell:=by
   rcases h2 with q|q
   .subst q
    exact hk.symm
   .exact .inl q.1
  rcases this with z|z
  .subst z
   obtain⟨c,q,_⟩:=hfr _ hm rfl
   exact⟨c,q⟩
  .subst z
   obtain⟨c,q,_⟩:=hown _ hm rfl
   exact⟨c,q⟩
 have nC:∀c x,X.env.cells.lookup x=some c->c<s2.heap.objs.size:=λc x e=>by
  obtain⟨v,q⟩:=I.cell x c e
  exact q.lt
 have noB:∀b,b∈fp->b∉frs X.stack:=λb hb q=>by
  rcases Ym.mp (I.ZcG b q)with z|z
  .exact(hfp b hb).2.1 z
  .exact(hfp b hb).2.2.1 z
 have okX:(Zae X Nc scope cs C s2 H2 fp).Ok:=by
  refine⟨I.ok.mod,(show scope.kind=.function from Zde hok),I.ok.glob,I.ok.blt,?_,λx y c e1 e2=>hinj x y c e1 e2,λx hx=>?_,(λx c e1 e2=>?_),I.ok.hd,I.ok.frames,.inl rfl,λb hb=>⟨?_,λx c e=>(up _ _ e).elim (λz=>(hfp b hb).2.2.2.2.1 x c z) λz=>Nat.ne_of_gt (Nat.lt_trans (Ys (hfl b hb) leC) z.1)⟩,I.bs,Yf I.ok.bsz I.sz,λb o e hb=>?_,λb hb=>noB b hb,I.stack,I.Zc3⟩
  .show s2.heap.objs.size<=C;exact leC
  .exact kf x hx
  .have hm:=lookup_mem (beq_iff_eq.mp (show(scope.names.lookup x==some NameKind.cell)=true from e1))
   obtain⟨c',q1,q2⟩:=hown _ hm rfl
   have:c=c':=Yz ((show cs.lookup x=some c from e2).symm.trans q1)
   rw[this]
   exact Yf leC (YS q2)
  .exact Yo (Ys (hfl b hb) leC)
  .rcases(hfp b hb).2.2.2.1 with q|q
   .exact I.ok.noex b o e q
   .exact absurd (Ys (Yh e) (Yf I.ok.bsz q)) (YA _)
 refine⟨okX,rfl,I.bare,Un.kept old,⟨m,hns,λi x v e1 e2 e3=>?_⟩,λx c e=>?_,I.hok.fresh leC,λx c e=>(up _ _ e).elim (λz=>I.freeC x c z) λz=>I.hok.fresh (Yf leC (YS z.1)),λp hp=>?_,I.hok.kept old,?_⟩
 .have e2':(iniC js σ)[i]?=some (some v):=e2
  unfold iniC at e2'
  rw[YH]at e2'
  cases q:js[i]? with
  |none=>rw[q]at e2';cases e2'
  |some j0 =>
   cases j0 with
   |none=>rw[q]at e2';cases e2'
   |some j =>
    rw[q]at e2'
    simp only[Option.map_some,Option.some.injEq]at e2'
    have e4:σ[j]?=some (some v):=by
     cases z:σ[j]? with
     |none=>rw[z]at e2';cases e2'
     |some o=>rw[z]at e2';simp only[Option.join_some]at e2';rw[e2']
    obtain⟨y,y1,y2,y3⟩:=ZdB htk q
    rw[Nat.zero_add]at y1
    have:x=y:=Yz ((show Nc[i]?=some x from e1).symm.trans y1)
    subst this
    have hm:=lookup_mem y3
    obtain⟨c,c1,c2⟩:=hfr _ hm rfl
    have hk:=(ZbB hok _ hm rfl).2
    obtain⟨m0,hn0,hl0⟩:=I.loc
    obtain⟨u,r,l⟩:=hl0 j x v y2 e4 (hk.elim (λz=>.inr (.inl z)) λz=>.inr (.inr z))
    refine⟨u,r,.inr ⟨?_,c,c1,?_⟩⟩
    .rcases e3 with z|z|z
     .obtain⟨k',w1,w2⟩:=Zan (show(scope.names.map _).lookup x=some NameKind.local from z)
      rw[y3]at w1;cases w1
      rcases w2 with w|w
      .cases w
      .cases w.2
     .exact .inl z
     .exact .inr z
    .rcases l with⟨lk,_⟩|⟨_,c',c3,c4⟩
     .rcases hk with z|z
      .rw[show X.env.kindOf x=some .cell from z]at lk;cases lk
      .rw[show X.env.kindOf x=some .free from z]at lk;cases lk
     .rw[c2]at c3;cases c3
      obtain⟨oc,w1,w2⟩:=c4
      exact⟨oc,old _ _ w1,w2⟩
 .rcases up _ _ e with z|z
  .obtain⟨v,oc,w1,w2⟩:=I.cell x c z
   exact⟨v,oc,old _ _ w1,w2⟩
  .exact⟨_,z.2⟩
 .have:p=(D,oD):=by
   have hp':p∈([]++[(D,oD)]:List (Addr×Obj)):=hp
   simpa using hp'
  subst this
  refine⟨hoD,I.hok.fresh leD,(by show D≠C;rw[hD,hC];exact Yo (Nat.lt_succ_self _)),λhb=>?_,hdD⟩
  have hb':D∈frs X.stack:=hb
  obtain⟨_,o,ho,_⟩:=I.stack.mem hb'
  exact absurd (Ys (Yh ho) leD) (YA _)
 .have:=ZcJ htk
  show(iniC js σ).length=Nc.length
  unfold iniC;rw[Yj];omega
theorem ZfO {pins:List (Addr×Obj)}{σ:St}{H:Hp}{s:Shared}{tg elt iter:Expr}{ifs:List Expr}{scope:Scope}{pos:Pos}{wi:TI}{g:TG}{tt:TT}{te:TE}{Nc:List Str}{js:List (Option Nat)}{use:Option (Value->Sem Unit)}{Q:VK}{QQ:Value->Shared->Prop}
  (hc:X.calm=true) (hok:Zaw X.env.scope scope=true) (htk:Zas X.N Nc scope js 0=true) (hi:PI X tg iter wi)
  (hg:∀cl C s2 H2 fp,PG (Zae X Nc scope cl C s2 H2 fp) tg g) (ht:∀cl C s2 H2 fp,Zje (Zae X Nc scope cl C s2 H2 fp) ifs tt) (he:∀cl C s2 H2 fp,PE (Zae X Nc scope cl C s2 H2 fp) elt te)
  (hs:∀x,foldedSetIterable iter X.env x=pure x) {L:List Nat} (ho:ZiS g L) (hL:(L.all λk=>js[k]?==some none)=true) (I:Inv X pins σ H s) (h:ZiT wi g tt te js σ H Q)
  (fin:∀(D C:Addr) (H' H2:Hp) (s2 s':Shared) (xs:List V) (m:Str->Option Value),Inv X pins σ H2 s2->H' C=none->C=D+1->D=s2.heap.objs.size->s'.heap.Ns C m->(∀h',Heap.SameBut C s'.heap h'->Inv X pins σ (upd H' D (.lst xs)) {s' with heap:=h'})->Q (.ref D) (upd H' D (.lst xs)) ->
   compPost (model X.prog X.w) X.A X.xe use QQ (.ref D) C (.ok .next) s') :
  wpAny (model X.prog X.w) X.A (comprehension (.ListComp elt [⟨tg,iter,ifs,0⟩] scope pos) scope X.env (firstIterPos [⟨tg,iter,ifs,0⟩] pos) (newList []) false (eval iter X.env) use) QQ X.xe s:=by
 have hcells:∀y∈scope.names,y.2=.free->∃c,X.env.cells.lookup y.1=some c:=λy hy hf=>I.ok.has y.1 (ZbB hok y hy hf).2
 obtain⟨cl,hcl,upM,hfr0⟩:=Zhg hcells
 have hk:=Zde hok
 refine wpAny_comprehension_free (use:=use) rfl hs hcl hk (Zfh hok) (thn (hi pins s σ H _ I h) λv s1 h1=>thn h1 λitv s2 h2=>?_)
 obtain⟨it,fp,tn,J,H2,e,I2,T,st2,f2,W,⟨m0,w0⟩,turn⟩:=h2
 subst e
 have clt:∀p∈cl,p.2<s2.heap.objs.size:=λp hp=>by
  obtain⟨v,q⟩:=I2.cell p.1 p.2 (upM p hp)
  exact q.lt
 refine wpAny_newObj_type (Zh3 (λp hp=>?_) λcs h₁ CO=>?_)
 .show p.2<(s2.heap.push _).objs.size
  rw[Heap.size_push];exact YL (clt p hp)
 dsimp only at CO⊢
 generalize hH2:s2.heap.push {cls:=.type "list",dict:=none,data:=.seq ([]:List Value).toArray}=HH at CO⊢
 have hC:HH.objs.size=s2.heap.objs.size+1:=by rw[<-hH2,Heap.size_push]
 have hcl':∀p∈cl,p.2<HH.objs.size:=λp hp=>by rw[hC];exact YL (clt p hp)
 have hns₁:h₁.Ns HH.objs.size (λ_=>none):=⟨_,#[],_,CO.old _ _ (Yv _ rfl),rfl,λe he=>absurd he (by simp),λn=>rfl⟩
 have up:∀x c,cs.lookup x=some c->X.env.cells.lookup x=some c\/(HH.objs.size<c/\h₁.IsCell c none):=λx c e=>by
  rcases CO.mem _ (PySem.mem_of_lookup e)with z|z
  .exact .inl (upM _ z)
  .exact .inr ⟨z.1,z.2.2⟩
 have hinj:∀x y c,cs.lookup x=some c->cs.lookup y=some c->x=y:=λx y c e1 e2=>by
  have m1:=PySem.mem_of_lookup e1
  have m2:=PySem.mem_of_lookup e2
  rcases CO.mem _ m1 with z|z
  .rcases CO.mem _ m2 with z'|z'
   .exact I2.ok.inj x y c (upM _ z) (upM _ z')
   .exact absurd (hcl' _ z) (Nat.not_lt_of_le (Nat.le_of_succ_le z'.1))
  .exact CO.inj _ m1 _ m2 z.1 rfl
 have hfr:∀y∈scope.names,y.2=.free->∃c,cs.lookup y.1=some c/\X.env.cells.lookup y.1=some c:=λy hy hf=>by
  obtain⟨c,q1,q2⟩:=hfr0 y hy hf
  refine⟨c,?_,q2⟩
  rw[CO.oth y.1 λy' hy' hc' z=>?_]
  .exact q1
  .have w1:=Zgt hok y' hy' hc'
   have w2:=(ZbB hok y hy hf).1
   rw[z,w2]at w1;cases w1
 have hfl:∀b∈fp,b<s2.heap.objs.size:=λb hb=>by
  obtain⟨o,ho,_⟩:=T.obj 0 _ st2 b hb
  exact Yh ho
 have hDC:s2.heap.objs.size≠HH.objs.size:=by rw[hC];exact Yo (Nat.lt_succ_self _)
 have old:∀b o,s2.heap.get? b=some o->h₁.get? b=some o:=λb o e=>CO.old b o (Yk _ (hH2▸Yk _ e))
 have hacc:h₁.get? s2.heap.objs.size=some {cls:=.type "list",dict:=none,data:=.seq ([]:List Value).toArray}:=CO.old _ _ (Yk _ (hH2▸Yv _ rfl))
 have I4:=Zhh (Nc:=Nc) (js:=js) (tk:=s2.toks) I2 hok htk up hinj (λy hy hc=>CO.own y hy hc) hfr f2 hfl rfl hC old hns₁ hacc (by intro v z;cases z)
 have st4:tn 0 h₁:=T.keep _ _ _ st2 λb _ o e=>old b o e
 generalize hXc:Zae X Nc scope cs HH.objs.size s2 H2 fp=Xc at I4
 have hXA:Xc.A=X.A:=by rw[<-hXc];rfl
 have hXe:Xc.env=compEnvC scope cs HH.objs.size X.env:=by rw[<-hXc];rfl
 have hXp:Xc.prog=X.prog:=by rw[<-hXc];rfl
 have hXw:Xc.w=X.w:=by rw[<-hXc];rfl
 have hXx:Xc.xe=λ_ _=>False:=by rw[<-hXc];rfl
 have hXk:Xc.K=X.K:=by rw[<-hXc];rfl
 have hXcalm:Xc.calm=true:=by rw[<-hXc];exact hc
 have fpok:∀{pl:List (Addr×Obj)}{H':Hp},(∀p∈pl,s2.heap.objs.size<=p.1)->(∀b∈fp,H' b=none)->∀b∈fp,FpOk Xc pl H' b:=λ{pl H'} hpl hn b hb=>by
  have k1:b≠HH.objs.size:=Yo (by rw[hC];exact YL (hfl b hb))
  have k2:b∉frs X.stack:=λq=>by
   rcases Ym.mp (I2.ZcG b q)with z|z
   .exact(f2 b hb).2.1 z
   .exact(f2 b hb).2.2.1 z
  rw[<-hXc]
  refine⟨hn b hb,k1,k2,.inl hb,λx c e=>(up _ _ e).elim (λz=>(f2 b hb).2.2.2.2.1 x c z) λz=>Nat.ne_of_gt (Nat.lt_trans (by rw[hC];exact YL (hfl b hb)) z.1),λp hp=>?_⟩
  have hp':p∈pl:=by simpa[Zae,ZjU]using hp
  exact Nat.ne_of_gt (Ys (hfl b hb) (hpl p hp'))
 have gX:PG Xc tg g:=hXc▸hg cs HH.objs.size s2 H2 fp
 have tX:Zje Xc ifs tt:=hXc▸ht cs HH.objs.size s2 H2 fp
 have eX:PE Xc elt te:=hXc▸he cs HH.objs.size s2 H2 fp
 have hs0:Xc.s₀=s2:=by rw[<-hXc];rfl
 have hh0:Xc.H₀=H2:=by rw[<-hXc];rfl
 have hfs:Xc.fs=frs X.stack:=by rw[<-hXc];rfl
 have hex:Xc.ex=fp:=by rw[<-hXc];rfl
 have loop:codeAny (model X.prog X.w) X.A (.compLoop (.ListComp elt [⟨tg,iter,ifs,0⟩] scope pos) 0 (.ref it) (.ref s2.heap.objs.size) (compEnvC scope cs HH.objs.size X.env)) (compPost (model X.prog X.w) X.A X.xe use QQ (.ref s2.heap.objs.size) HH.objs.size)
   {s2 with heap:=h₁,toks:=s2.toks}:=by
  refine Zb8 (λn s'=>∃i acc its nn H',Inv Xc [(s2.heap.objs.size,{cls:=.type "list",dict:=none,data:=.seq (its:List Value).toArray nn})] (iniC js σ) H' s'/\Vals acc its/\acc.length<=sizeLine/\tn i s'.heap/\(∀b∈fp,H' b=none)/\W i n acc H') ?_ m0
   ⟨0,[],[],0,H2,I4,.nil,Yq _,st4,λb hb=>(f2 b hb).1,w0⟩
  rintro n s3 ⟨i,acc,its,nn,H3,I3,va,hlen,st3,fr3,w3⟩
  have pg:∀p∈([(s2.heap.objs.size,{cls:=.type "list",dict:=none,data:=.seq its.toArray nn})]:List (Addr×Obj)),s2.heap.objs.size<=p.1:=λp hp=>by
   simp only[Ym,List.not_mem_nil,or_false]at hp
   subst hp;exact Yd _
  rcases turn i n acc H3 w3 with⟨stop,hl,qn⟩|⟨go,hl,step⟩
  .have q:=T.done Xc hXp hXw hXk hXcalm i _ s3 (iniC js σ) H3 (λ_ _=>False) I3 (fpok pg fr3) st3 stop
   rw[hXA]at q
   refine thn q λr s4 ⟨hr,I5⟩=>?_
   subst hr
   have hpin:=I5.pin _ (Yt _ (.head _))
   obtain⟨m5,hn5,_⟩:=I5.loc
   rw[hXe]at hn5
   refine fin _ _ H3 H2 s2 s4 acc m5 I2 (by have:=I5.free;rw[hXe]at this;exact this) hC rfl hn5 (λh' hsb=>?_) (qn _ hpin.2.1)
   have same:∀b o,b≠HH.objs.size->s4.heap.get? b=some o->h'.get? b=some o:=λb o hb e=>hsb.extBut b o hb e
   have un:=I5.base
   rw[hfs,hex,hh0,hs0]at un
   have lt:∀b o,s2.heap.get? b=some o->b<s2.heap.objs.size:=λb o e=>Yh e
   have neC:∀b o,s2.heap.get? b=some o->b≠HH.objs.size:=λb o e=>Yo (by rw[hC];exact YL (lt b o e))
   have neD:∀b o,s2.heap.get? b=some o->b≠s2.heap.objs.size:=λb o e=>Yo (lt b o e)
   have trkC:∀b o,H3 b=some o->b≠HH.objs.size:=λb o e z=>by
    have:=I5.free;rw[hXe]at this;rw[z,show H3 HH.objs.size=none from this]at e;cases e
   refine I2.call' (s':={s4 with heap:=h'}) (ch:=fp) (I5.os.trans (by rw[hs0])) ⟨λb o e n hb hx=>same _ _ (neC b o e) (un.keep b o e n hb hx),λb o e n hb hx=>?_,λb o e n hx=>by rw[Zm (neD b o e)];exact un.free b o e n hx,λb o e hx=>?_,λb xs e=>?_,λb o u e=>?_,λb ps e=>?_⟩ (λa o e=>?_) I5.bare λb hb=>⟨(f2 b hb).2.2.2.1,(f2 b hb).2.1,(f2 b hb).2.2.2.2.1,(f2 b hb).2.2.2.2.2⟩
   .obtain⟨sl,z⟩:=un.slot b o e n hb hx
    exact⟨sl,same _ _ (neC b o e) z⟩
   .obtain⟨o',z⟩:=un.there b o e hx
    exact⟨o',same _ _ (neC b o e) z⟩
   .rw[Zm (Yo (I2.hok.lt e))];exact un.tups b xs e
   .rw[Zm (Yo (I2.hok.lt e))];exact un.frzs b o u e
   .obtain⟨more,z⟩:=un.tbls b ps e
    exact⟨more,by rw[Zm (Yo (I2.hok.lt e))];exact z⟩
   .by_cases ha:a=s2.heap.objs.size
    .subst ha
     rw[Zd]at e;cases e
     exact⟨hl,its,nn,va,same _ _ hDC hpin.1⟩
    .rw[Zm ha]at e
     have q:=I5.hok a o e
     rw[hXp,hXw]at q
     refine q.Zd7 (λb u hb z=>same b u ?_ z) (λb z=>by rw[Zm];exact z;intro y;subst y;rw[hpin.2.1]at z;cases z) (λb xs z=>by rw[Zm];exact z;intro y;subst y;rw[hpin.2.1]at z;cases z) λb o u z=>by rw[Zm];exact z;intro y;subst y;rw[hpin.2.1]at z;cases z
     rcases hb with hb|hb
     .subst hb;exact trkC _ _ e
     .exact trkC _ _ hb
  .have q:=T.item Xc hXp hXw hXk hXcalm i _ s3 (iniC js σ) H3 (λ_ _=>False) I3 (fpok pg fr3) st3 go
   rw[hXA]at q
   refine thn q λr s4 ⟨u,hr,h4⟩=>?_
   subst hr
   refine thn h4 λ_ s5 ⟨x,H5,I5,r5,y5,st5,fr5⟩=>?_
   have I5':=I5.pinned (fpok pg fr5) (T.obj _ _ st5)
   have again:∀{σ7:St}{H7:Hp}{s7:Shared}{acc7:List V}{its7:List Value}{n7:Nat}{m:Nat},Inv Xc ([(s2.heap.objs.size,{cls:=.type "list",dict:=none,data:=.seq its7.toArray n7})]++Zb2 fp s5.heap) σ7 H7 s7->Vals acc7 its7->acc7.length<=sizeLine->W (i+1) m acc7 H7->σ7.length=(iniC js σ).length->(∀(k:Nat) v,(iniC js σ)[k]?=some (some v)->σ7[k]?=some (some v)) ->
     ∃i acc its nn H',Inv Xc [(s2.heap.objs.size,{cls:=.type "list",dict:=none,data:=.seq (its:List Value).toArray nn})] (iniC js σ) H' s7/\Vals acc its/\acc.length<=sizeLine/\tn i s7.heap/\(∀b∈fp,H' b=none)/\W i m acc H':=λ{σ7 H7 s7 acc7 its7 n7 m} I7 v7 l7 w7 hl7 hw7=>by
    refine⟨i+1,acc7,its7,n7,H7,(I7.weak hl7.symm hw7).Zb3,v7,l7,T.keep _ _ _ st5 λb hb o e=>(I7.pin (b,o) (Yt _ (Yt _ (Zbw hb e)))).1,λb hb=>?_,w7⟩
    obtain⟨o,e,d⟩:=T.obj _ _ st5 b hb
    exact(I7.pin (b,o) (Yt _ (Yt _ (Zbw hb e)))).2.1
   have keep:∀{σ6:St},ZjV L (iniC js σ) σ6->σ6.length=(iniC js σ).length/\∀(k:Nat) v,(iniC js σ)[k]?=some (some v)->σ6[k]?=some (some v):=λ{σ6} hk=>⟨hk.1,λk v e=>by
    rw[hk.2 k]
    .exact e
    .intro z
     have q:=List.all_eq_true.mp hL k z
     simp only[beq_iff_eq]at q
     unfold iniC at e
     rw[YH,q]at e
     cases e⟩
   have q6:=gX _ s5 (iniC js σ) H5 x u _ I5' r5 (ho _ _ _ _ _ (fun σ' H' kk z=>And.intro kk z) (step x H5 y5))
   rw[hXe,hXA,hXp,hXw,hXx]at q6
   refine thn q6 λ_ s6 ⟨σ6,H6,I6,k6,q6⟩=>?_
   obtain⟨kl,kv⟩:=keep k6
   have q7:=tX _ s6 σ6 H6 _ I6 q6
   rw[hXe,hXA,hXp,hXw,hXx]at q7
   refine thn q7 λb s7 ⟨H7,I7,q7⟩=>?_
   cases b with
   |false =>
    obtain⟨m',hm,w7⟩:=q7
    exact⟨m',hm,again I7 va hlen w7 kl kv⟩
   |true =>
    have q8:=eX _ s7 σ6 H7 _ I7 q7
    rw[hXe,hXA,hXp,hXw,hXx]at q8
    refine thn q8 λy s8 ⟨v8,H8,I8,r8,m',hm,w8⟩=>?_
    have pinD:=I8.pin _ (Yt _ (YI _ (.head _)))
    have hnf:∀p∈Zb2 fp s5.heap,p.1≠s2.heap.objs.size:=λp hp=>by
     obtain⟨z,_⟩:=ZfC hp
     exact Yo (hfl _ z)
    have va':=va.length
    refine call_meets F.slot_list_append ⟨_,pinD.1,rfl⟩ F.entry_list_append (F.args_list_append_2 _ _) (PySem.list_append s2.heap.objs.size its.toArray nn y (by rw[Yr];omega)) ⟨pinD.1,?_⟩
    have e9:=PySem.IsL.update pinD.1 (λa=>a.push y)
    have e9':its.toArray.push y=(its++[y]).toArray:=by simp
    dsimp only at e9
    rw[e9']at e9
    have I8':Inv Xc (Zb2 fp s5.heap) σ6 H8 s8:=I8.Zc4 λp hp=>I8.pin p (Yt _ (Yt _ hp))
    have hXpn:Xc.pn=[]:=by rw[<-hXc];rfl
    have hXs:s2.heap.objs.size∉frs X.stack:=by rw[<-hfs];exact pinD.2.2.2.1
    have I9:=I8'.turned (t':=s8.toks) (it:=s2.heap.objs.size) (h':=s8.heap.update s2.heap.objs.size (Obj.mapSeq λa=>a.push y)) (λb o hb e=>(Heap.get?_update_other s8.heap _ (Ne.symm hb)).trans e) pinD.2.1 pinD.2.2.1
     (.inr (by rw[hs0];exact Yd _)) (λx c e=>by
      rw[hXe]at e
      intro z
      rcases up _ _ e with y|y
      .obtain⟨v,q⟩:=I2.cell x c y
       exact absurd q.lt (by rw[z];exact YA _)
      .have:=y.1
       rw[z,hC]at this
       exact absurd this (Nat.not_lt_of_le (Y3 _))) (λp hp=>by rw[hXpn,List.nil_append]at hp;exact hnf p hp)
    have I10:=I9.Zc4 (pins':=[(s2.heap.objs.size,{cls:=.type "list",dict:=none,data:=.seq (its++[y]).toArray _})]++Zb2 fp s5.heap) λp hp=>by
     rcases Yp.mp hp with z|z
     .simp only[Ym,List.not_mem_nil,or_false]at z
      subst z
      exact⟨e9,pinD.2.1,pinD.2.2.1,pinD.2.2.2.1,by intro v z;cases z⟩
     .exact I9.pin p (Yt _ z)
    exact⟨m',hm,again I10 (va.append (.cons r8 .nil)) (by rw[Yn,List.length_singleton];omega) w8 kl kv⟩
 exact codeAny_compStart_list loop (T.self _ 0 _ _ _ st4 loop)
theorem Z3 {tg elt iter:Expr}{ifs:List Expr}{scope:Scope}{pos:Pos}{wi:TI}{g:TG}{tt:TT}{te:TE} (Nc:List Str) (js:List (Option Nat)) {L:List Nat}
  (hc:X.calm=true) (hok:Zaw X.env.scope scope=true) (htk:Zas X.N Nc scope js 0=true) (hi:PI X tg iter wi)
  (hg:∀cl C s2 H2 fp,PG (Zae X Nc scope cl C s2 H2 fp) tg g) (ht:∀cl C s2 H2 fp,Zje (Zae X Nc scope cl C s2 H2 fp) ifs tt) (he:∀cl C s2 H2 fp,PE (Zae X Nc scope cl C s2 H2 fp) elt te)
  (ho:ZiS g L) (hL:(L.all λk=>js[k]?==some none)=true:=by rfl) (hs:∀x,foldedSetIterable iter X.env x=pure x:=by ac_nf):PE X (.ListComp elt [⟨tg,iter,ifs,0⟩] scope pos) (ZiT wi g tt te js):=by
 intro pins s σ H Q I h
 rw[eval_ListComp]
 exact ZfO (use:=none) hc hok htk hi hg ht he hs ho hL I h λD C H' H2 s2 s' xs m I2 hHC e1 e2 hn hI q=>⟨m,hn,λh' hsb=>⟨.ref D,_,hI h' hsb,rfl,q⟩⟩
theorem ZeP {i:Nat}{x:Str}{pos' spos:Pos}{tg elt iter:Expr}{ifs:List Expr}{scope:Scope}{pos:Pos}{wi:TI}{g:TG}{tt:TT}{te:TE} (Nc:List Str) (js:List (Option Nat)) {L:List Nat}
  (hN:X.N.Nodup) (hxi:X.N[i]?=some x) (hx:Loc X.env.scope x)
  (hc:X.calm=true) (hok:Zaw X.env.scope scope=true) (htk:Zas X.N Nc scope js 0=true) (hi:PI X tg iter wi)
  (hg:∀cl C s2 H2 fp,PG (Zae X Nc scope cl C s2 H2 fp) tg g) (ht:∀cl C s2 H2 fp,Zje (Zae X Nc scope cl C s2 H2 fp) ifs tt) (he:∀cl C s2 H2 fp,PE (Zae X Nc scope cl C s2 H2 fp) elt te)
  (ho:ZiS g L) (hL:(L.all λk=>js[k]?==some none)=true:=by rfl) (hs:∀x,foldedSetIterable iter X.env x=pure x:=by ac_nf)
  (hsw:swapsWith (.ListComp elt [⟨tg,iter,ifs,0⟩] scope pos) (some (.Name x pos')) spos.line X.env=pure true:=by rfl)
  (hf:X.fn x=true\/X.env.scope.names.lookup x=some .local:=by and_intros) :
  PS X (.Assign [.Name x pos'] (.ListComp elt [⟨tg,iter,ifs,0⟩] scope pos) spos) (tAsg (ZiT wi g tt te js) (gName i)):=by
 intro pins s σ H D I h
 rw[exec_Assign_Name_used _ _ _ _ hsw]
 refine Ya (wpAny_standAt (Ya ?_))
 show wpAny _ _ (comprehension _ _ _ _ _ _ _ _ >>= _) _ _ _
 refine Ya (thn (Q:=λ_ s'=>∃σ' H',Inv X pins σ' H' s'/\D.nx σ' H') (ZfO (Q:=λv H1=>gName i v σ H1 D.nx) (use:=some (assign (.Name x pos') X.env)) hc hok htk hi hg ht he hs ho hL I h ?_) λ_ s' ⟨σ',H',I',q⟩=>Ye (Ye ⟨σ',H',I',q⟩))
 intro D' C H' H2 s2 s' xs m I2 hHC e1 e2 hn hI q
 obtain⟨oC,es,ep,hoC,hdC,hrest⟩:=id hn
 have leC:s2.heap.objs.size<=C:=by rw[e1,e2];exact Y3 _
 have ltC:s2.heap.objs.size<C:=by rw[e1,e2];exact Nat.lt_succ_self _
 have neDC:C≠D':=by rw[e2];exact Nat.ne_of_gt ltC
 have fresh:s2.heap.get? C=none:=by
  cases e:s2.heap.get? C with
  |none=>rfl
  |some o=>exact absurd (Ys (Yh e) leC) (YA _)
 have neL:C≠X.env.locals:=Nat.ne_of_gt (Ys I2.lt leC)
 have nfs:C∉X.fs:=I2.nofs leC
 have ncl:∀x c,X.env.cells.lookup x=some c->c≠C:=λx c e z=>by
  obtain⟨v,q⟩:=I2.cell x c e
  exact absurd (Ys q.lt leC) (by rw[z];exact YA _)
 have npn:∀p∈X.pn++pins,p.1≠C:=λp hp z=>by
  have:=(I2.pin p hp).1
  rw[z,fresh]at this;cases this
 have hH:(upd H' D' (HO.lst xs)) C=none:=by rw[Zm neDC];exact hHC
 have I0:=hI s'.heap Zgc
 have I1:Inv X (pins++[(C,oC)]) σ (upd H' D' (.lst xs)) s':=I0.Zc4 λp hp=>by
  rcases Yp.mp hp with z|z
  .exact I0.pin p (Yt _ z)
  .simp only[Ym,List.not_mem_nil,or_false]at z
   subst z
   exact⟨hoC,hH,neL,nfs,λv z=>by rw[hdC]at z;cases z⟩
 show wpAny _ _ _ _ _ _
 refine thn (Zw (X:=X) (i:=i) hN hxi hx hf (pins++[(C,oC)]) s' σ _ (.ref D') (.ref D') _ I1 rfl q) λ_ s3 ⟨σ3,H3,I3,q3⟩=>?_
 have pC:=I3.pin (C,oC) (Yt _ (Yt _ (.head _)))
 refine⟨m,⟨oC,es,ep,pC.1,hdC,hrest⟩,λh' hsb=>⟨σ3,H3,?_,q3⟩⟩
 exact I3.Zb3.turned (t':=s3.toks) (it:=C) (λb o hb e=>hsb.extBut b o hb e) pC.2.1 neL (.inr (Yf I2.sz leC)) ncl npn
end
end Lake
namespace Lake
open PySem PySem.Spec PyProof.Rows PySem.W
noncomputable def CF (n:Nat) (P:Nat->Bool) (vals:Nat->V) (H1:Hp) (i m:Nat) (acc:List V) (H:Hp):Prop:=m=n-i/\i<=n/\acc=((List.range i).filter P).map vals/\Zh H1 H
theorem CF.take {n:Nat}{P:Nat->Bool}{vals:Nat->V}{H1 H:Hp}{i:Nat}{v:V} (hi:i<n) (hP:P i=true) (hv:v=vals i) (s:Zh H1 H):∃m',m'<n-i/\CF n P vals H1 (i+1) m' (((List.range i).filter P).map vals++[v]) H :=
 ⟨n-(i+1),⋯,rfl,hi,by rw[YN,List.filter_append,YU,hv];simp[hP],s⟩
theorem CF.skip {n:Nat}{P:Nat->Bool}{vals:Nat->V}{H1 H:Hp}{i:Nat} (hi:i<n) (hP:P i=false) (s:Zh H1 H):∃m',m'<n-i/\CF n P vals H1 (i+1) m' (((List.range i).filter P).map vals) H :=
 ⟨n-(i+1),⋯,rfl,hi,by rw[YN,List.filter_append,YU];simp[hP],s⟩
theorem ZdG {J:It}{n:Nat}{H1:Hp}{g:TG}{tt:TT}{te:TE}{σ0:St}{Q:VK} (P:Nat->Bool) (vals:Nat->V) (hn:n<sizeLine) (hgo:∀i H,Zh H1 H->i<n->J.go i H) (hstop:∀H,Zh H1 H->J.stop n H)
  (hb:∀i x H H',i<n->Zh H1 H->J.yld i H x H'->g x σ0 H' fun σ2 H2=>tt σ2 H2 λb H3=>if b=true then te σ2 H3 λv H4=>∃m',m'<n-i/\CF n P vals H1 (i+1) m' (((List.range i).filter P).map vals++[v]) H4 else ∃m',m'<n-i/\CF n P vals H1 (i+1) m' (((List.range i).filter P).map vals) H3)
  (hk:∀l H',Zh H1 H'->H' l=none->Q (.ref l) (upd H' l (.lst (((List.range n).filter P).map vals)))) :
  ZfI J g tt te σ0 Q H1:=by
 refine⟨CF n P vals H1,⟨n,rfl,Yq _,rfl,Zh.refl _⟩,?_⟩
 rintro i m acc H ⟨rfl,hi,rfl,s⟩
 have hlen:(((List.range i).filter P).map vals).length<=n:=by
  rw[Yj]
  have:=List.length_filter_le P (List.range i)
  rw[Y7]at this
  omega
 by_cases h:i<n
 .exact .inr ⟨hgo i H s h,⋯,λx H' y=>hb i x H H' h s y⟩
 .have:i=n:= ⋯
  subst this
  exact .inl ⟨hstop H s,⋯,λp hp=>hk p H s hp⟩
theorem ZiY {ns T:List Int} (hT:ZV ns T) {p o:Nat} (hp:p<ns.length):(o:Int)∈wayI T p↔o<ns.length/\Over (nth ns) o p:=by
 rw[<-(ZeL hT T.length p hp (by rw[hT.1];exact YS (Zj9 hp))).1 o]
 unfold wayI
 rw[YG]
 refine⟨λ⟨q,hq,e⟩=>?_,λh=>⟨o,h,rfl⟩⟩
 have:q=o:= ⋯
 rw[<-this];exact hq
end Lake
namespace HT
open PySem PyProof.Rows
section
open PySem.SeqAt
open PySem.AutoSeq1 (wpAny_loadPart')
open PySem.MeetsSeq PySem.MeetsSeq2 PySem.MeetsSeq3
variable {prog:Program}{w:World}{A:Around}{E:Value->Shared->Prop}{s:Shared}
end
end HT
namespace Lake
open PySem PySem.Spec PyProof.Rows PySem.W
noncomputable def way (T:List Int) (p:Nat):List Nat:=Zah T T.length (nth T p)
theorem Zhi (T:List Int) (p:Nat):wayI T p=(way T p).map λq=>((q:Nat):Int):=rfl
section
variable {X:Cx}{pins:List (Addr×Obj)}{σ:St}{H:Hp}{s:Shared}{h':Heap}
theorem Inv.ZkP {t':Nat}{fp:List Addr}{T:Addr}{o:HO} (I:Inv X pins σ H s) (k:∀b u,b∉fp->s.heap.get? b=some u->h'.get? b=some u) (hf:∀b∈fp,FpOk X pins H b) (hT:s.heap.objs.size<=T) (new:Z8 X.prog X.w (upd H T o) h' T o) :
  Inv X pins σ (upd H T o) {s with heap:=h',toks:=t'}:=by
 have nit:∀b u,H b=some u->b∉fp:=λb u e z=>by rw[(hf b z).1]at e;cases e
 have hfr:H T=none:=I.hok.fresh hT
 have neT:∀b u,s.heap.get? b=some u->b≠T:=λb u e z=>absurd (Yh e) (by rw[z];exact Nat.not_lt_of_le hT)
 have neH:∀b u,H b=some u->b≠T:=λb u e z=>by rw[z,hfr]at e;cases e
 refine I.step (g':=s.gens) (d':=s.drawn) (ch:=fp) (λb hb=>?_) (λb o _ _ hc e _=>k b o hc e) (λb o _ _ hc e _=>⟨o.slots,k b o hc e⟩) (λb u _ e n=>by rw[Zm (neT b u e)];exact n)
  (λb o hc e=>⟨o,k b o hc e⟩) (λb xs e=>by rw[Zm (neH b _ e)];exact e) (λb o u e=>by rw[Zm (neH b _ e)];exact e) (λb ps e=>⟨#[],by rw[Zm (neH b _ e),e];simp⟩) (λm hm=>?_) (λb u e=>?_) I.bare
 .obtain⟨_,f1,_,f3,f4,f5⟩:=hf b hb
  exact⟨f3,f1,f4,f5⟩
 .obtain⟨o,es,ep,ho,r⟩:=hm
  exact⟨o,es,ep,k _ o (λz=>(hf _ z).2.1 rfl) ho,r⟩
 .by_cases z:b=T
  .subst z
   rw[Zd]at e;cases e
   exact new
  .rw[Zm z]at e
   refine(I.hok b u e).Zd7 (λc v hc q=>k c v ?_ q) (λc q=>?_) (λc xs q=>?_) λc o u q=>?_
   .rcases hc with y|y
    .rw[y];exact nit b u e
    .exact nit c _ y
   .rw[Zm (neH _ _ q)];exact q
   .rw[Zm (neH _ _ q)];exact q
   .rw[Zm (neH _ _ q)];exact q
theorem Zh4:bootBuiltins "enumerate"=some (.type "enumerate"):=by decide +kernel
end
theorem Zjp {prog:Program}{w:World}{A:Around}{R:Result->Shared->Prop}{I:Addr}{fp wr:List Addr}{n:Nat}{P:Nat->Value->Prop}{St:Nat->Heap->Prop} (W:Walks prog w A.in1 I fp wr n P St) (bt:Nat->Nat->Bool) (hc:CmpOf prog w A.in1 .Gt P bt)
  (S:Addr) (hS:S∉fp) (dk:Str) (d:Value) (h0:Heap) (s0:Shared)
  (hR0:n=0->∀h' tk,(∀b o,b∉wr->b≠S->h0.get? b=some o->h'.get? b=some o)->R (.ok (.ret d)) {s0 with heap:=h',toks:=tk})
  (hR:0<n->∀v h' tk,P (argBest bt (n-1)) v->(∀b o,b∉wr->b≠S->h0.get? b=some o->h'.get? b=some o)->R (.ok (.ret v)) {s0 with heap:=h',toks:=tk}) :
  ∀(k j:Nat) (h:Heap) (tk:Nat),n-j=k->j<=n->St j h->(∀b o,b∉wr->b≠S->h0.get? b=some o->h.get? b=some o) ->
   ((j=0/\∃c,h.get? S=some {cls:=.type "list",data:=.seq #[] c})\/(0<j/\∃vb c,P (argBest bt (j-1)) vb/\h.get? S=some {cls:=.type "list",data:=.seq #[vb,vb] c})) ->
   codeAny (model prog w) A (.builtin "max.loop" {pos:=[.ref I,.none,.ref S],kw:=[(dk,d)]}) R {s0 with heap:=h,toks:=tk}:=by
 intro k
 induction k with
 |zero =>
  intro j h tk hk hj hst keep hb
  refine codeAny_builtin F.entry_max_loop ?_
  have hjn:j=n:= ⋯
  subst hjn
  rcases hb with⟨hj0,c,hb⟩|⟨hj0,vb,c,hvb,hb⟩
  .show wpAny _ _ (_ >>= _) _ _ _
   refine Ya (wpAny_seqItems hb rfl ?_)
   refine Ya (wpAny_tryCatch (W.done _ _ _ hst λh' tk' kp=>?_))
   refine Ya (wpAny_rule (Ye ?_))
   exact hR0 hj0 h' tk' λb o hb1 hb2 e=>kp b o hb1 (keep b o hb1 hb2 e)
  .show wpAny _ _ (_ >>= _) _ _ _
   refine Ya (wpAny_seqItems hb rfl ?_)
   refine Ya (wpAny_tryCatch (W.done _ _ _ hst λh' tk' kp=>?_))
   have hS':S∉wr:=λz=>hS (W.sub S z)
   have hb':=kp S _ hS' hb
   refine Ya (wpAny_updateSeq hb' rfl ?_ (show 2<=sizeLine by decide) (Yq _))
   refine Ya (wpAny_letGo (Ye ?_))
   refine hR hj0 vb _ tk' hvb λb o hb1 hb2 e=>?_
   exact(Heap.get?_update_other _ _ (Ne.symm hb2)).trans (kp b o hb1 (keep b o hb1 hb2 e))
 |succ k ih =>
  intro j h tk hk hj hst keep hb
  refine codeAny_builtin F.entry_max_loop ?_
  have hjn:j<n:= ⋯
  have hS':S∉wr:=λz=>hS (W.sub S z)
  rcases hb with⟨hj0,c,hb⟩|⟨hj0,vb,c,hvb,hb⟩
  .show wpAny _ _ (_ >>= _) _ _ _
   refine Ya (wpAny_seqItems hb rfl ?_)
   refine Ya (wpAny_tryCatch (W.item j _ _ _ hjn hst λv h' tk' hv hst' kp=>?_))
   have hb':=kp S _ hS' hb
   refine Ya (Ye ?_)
   refine Ya (wpAny_updateSeq hb' rfl ?_ (Yq _) (show 2<=sizeLine+1 by decide))
   refine Ye ⟨rfl,?_⟩
   have e9:=PySem.IsL.update hb' (λ_=>#[v,v])
   refine ih (j+1) _ tk' ⋯ ⋯ (W.frame _ _ _ hst' λb hb1 o e=>?_) (λb o hb1 hb2 e=>?_) (.inr ⟨⋯,v,_,?_,e9⟩)
   .exact(Heap.get?_update_other _ _ (show S≠b from λz=>hS (by rw[z];exact hb1))).trans e
   .exact(Heap.get?_update_other _ _ (Ne.symm hb2)).trans (kp b o hb1 (keep b o hb1 hb2 e))
   .rw[hj0];rw[hj0]at hv;exact hv
  .show wpAny _ _ (_ >>= _) _ _ _
   refine Ya (wpAny_seqItems hb rfl ?_)
   refine Ya (wpAny_tryCatch (W.item j _ _ _ hjn hst λv h' tk' hv hst' kp=>?_))
   have hb':=kp S _ hS' hb
   obtain⟨j',rfl⟩:∃j',j=j'+1:=⟨j-1,⋯⟩
   have hvb':P (argBest bt j') vb:=hvb
   have eA:argBest bt (j'+1)=if bt (j'+1) (argBest bt j')=true then j'+1 else argBest bt j':=rfl
   refine Ya (Ye ?_)
   refine Ya (wpAny_tryCatch (YE (Ya (hc (j'+1) (argBest bt j') v vb _ _ _ hv hvb' (Ya (YE (wpAny_truthy_bool (Ya (wpAny_letGo (Ye ?_))))))))))
   by_cases z:bt (j'+1) (argBest bt j')=true
   .rw[Yc z]
    refine Ya (wpAny_updateSeq hb' rfl ?_ (show 2<=sizeLine by decide) (show 2<=sizeLine+1 by decide))
    refine Ya (wpAny_letGo (Ye ⟨rfl,?_⟩))
    have e9:=PySem.IsL.update hb' (λ_=>#[v,v])
    refine ih (j'+1+1) _ tk' ⋯ ⋯ (W.frame _ _ _ hst' λb hb1 o e=>?_) (λb o hb1 hb2 e=>?_) (.inr ⟨⋯,v,_,?_,e9⟩)
    .exact(Heap.get?_update_other _ _ (show S≠b from λz=>hS (by rw[z];exact hb1))).trans e
    .exact(Heap.get?_update_other _ _ (Ne.symm hb2)).trans (kp b o hb1 (keep b o hb1 hb2 e))
    .show P (argBest bt (j'+1)) v
     rw[eA,Yc z];exact hv
   .rw[Yb z]
    refine Ya (wpAny_letGo (Ye ⟨rfl,?_⟩))
    refine ih (j'+1+1) _ tk' ⋯ ⋯ hst' (λb o hb1 hb2 e=>kp b o hb1 (keep b o hb1 hb2 e)) (.inr ⟨⋯,vb,_,?_,hb'⟩)
    show P (argBest bt (j'+1)) vb
    rw[eA,Yb z];exact hvb'
theorem Zjq (a d:Value):argsOk "max" {pos:=[a],kw:=[("default",d)]}:=by first|rfl|decide
theorem Zjr {prog:Program}{w:World}{A:Around}{E Q:Value->Shared->Prop}{s:Shared}{l:Addr}{xs:Array (Int×Tok)}{d:Value} (hA:A.handled=none) (hl:s.heap.IsList l (intItems xs))
  (q0:xs.size=0->∀h' tk,(∀b o,s.heap.get? b=some o->h'.get? b=some o)->Q d {s with heap:=h',toks:=tk})
  (q1:0<xs.size->∀v h' tk,(intItems xs)[argBest (λi j=>decide (numAt xs i>numAt xs j)) (xs.size-1)]?=some v->(∀b o,s.heap.get? b=some o->h'.get? b=some o)->Q v {s with heap:=h',toks:=tk}) :
  wpAny (model prog w) A (call (.builtin "max") [.ref l] [("default",d)]) Q E s:=by
 refine wpAny_call (codeAny_call_builtin_code rfl ?_)
 have hck:checkBuiltinCall "max" {pos:=[.ref l],kw:=[("default",d)]}=pure ():=by
  unfold checkBuiltinCall
  rw[F.kind_max]
  exact Zjq (.ref l) d
 rw[hck]
 refine Ye (codeAny_builtin F.entry_max ?_)
 show wpAny _ _ (_ >>= _) _ _ _
 have hbp:Builtin.Builtins.bindParams "max" ["key","default"] 0 {kw:=[("default",d)]}=pure [none,some d]:=by
  first|rfl|with_unfolding_all rfl|(simp[Builtin.Builtins.bindParams];done)
 refine Ya (wpAny_of_eq hbp (Ya (Ye (Ya (wpAny_pyIter_list hl ?_)))))
 refine Ya (wpAny_newObj_type ?_)
 refine Ye ⟨rfl,?_⟩
 have hlt:l<s.heap.objs.size:=by obtain⟨o,e,_⟩:=hl;exact Yh e
 have n1:l≠s.heap.objs.size:=Yo hlt
 have esz:(s.heap.push {cls:=.type "list_iterator",data:=.fields #[.ref l,.int 0 0]}).objs.size=s.heap.objs.size+1:=Heap.size_push _ _
 have old:∀b o,s.heap.get? b=some o->((s.heap.push {cls:=.type "list_iterator",data:=.fields #[.ref l,.int 0 0]}).push {cls:=.type "list",data:=.seq #[]}).get? b=some o:=λb o e=>Yk _ (Yk _ e)
 have ne:∀b o,s.heap.get? b=some o->b∉[s.heap.objs.size]/\b≠(s.heap.push {cls:=.type "list_iterator",data:=.fields #[.ref l,.int 0 0]}).objs.size:=λb o e=>by
  have:=Yh e
  refine⟨λz=>?_,λz=>?_⟩
  .have:b=s.heap.objs.size:=by simpa using z
   exact absurd (Yh e) (by rw[this];exact YA _)
  .rw[z,esz]at this
   exact absurd this (Nat.not_lt_of_le (Y3 _))
 have W:=Walks.list (prog:=prog) (w:=w) (A:=A.in1) hA s.heap.objs.size l n1 (intItems xs)
 have hitm:(intItems xs).size=xs.size:=by simp[intItems]
 refine Zjp W (λi j=>decide (numAt xs i>numAt xs j)) (CmpOf.ints_gt (numAt xs) λi v h=>intItems_at h) _ ?_ "default" d _ s (λz h' tk kp=>?_) (λz v h' tk hv kp=>?_) (intItems xs).size 0 _ _ rfl (Yq _) ⟨?_,?_⟩ (λb o _ _ e=>e) (.inl ⟨rfl,_,Yv _ rfl⟩)
 .rw[esz]
  simp only[Ym,List.not_mem_nil,or_false,not_or]
  exact⟨Nat.ne_of_gt (Nat.lt_succ_self _),Nat.ne_of_gt (YL hlt)⟩
 .exact q0 ⋯ h' tk λb o e=>kp b o (ne b o e).1 (ne b o e).2 (old b o e)
 .exact q1 ⋯ v h' tk (by rw[<-hitm];exact hv) λb o e=>kp b o (ne b o e).1 (ne b o e).2 (old b o e)
 .exact⟨_,Yk _ (Yv _ rfl),rfl,rfl⟩
 .obtain⟨o,e,r⟩:=hl
  exact⟨o,old _ _ e,r⟩
theorem Zjs {prog:Program}{w:World}{A:Around}{R:Result->Shared->Prop}{I:Addr}{fp wr:List Addr}{n:Nat}{P:Nat->Value->Prop}{St:Nat->Heap->Prop} (W:Walks prog w A.in1 I fp wr n P St) (bt:Nat->Nat->Bool) (hc:CmpOf prog w A.in1 .Lt P bt)
  (S:Addr) (hS:S∉fp) (dk:Str) (d:Value) (h0:Heap) (s0:Shared)
  (hR0:n=0->∀h' tk,(∀b o,b∉wr->b≠S->h0.get? b=some o->h'.get? b=some o)->R (.ok (.ret d)) {s0 with heap:=h',toks:=tk})
  (hR:0<n->∀v h' tk,P (argBest bt (n-1)) v->(∀b o,b∉wr->b≠S->h0.get? b=some o->h'.get? b=some o)->R (.ok (.ret v)) {s0 with heap:=h',toks:=tk}) :
  ∀(k j:Nat) (h:Heap) (tk:Nat),n-j=k->j<=n->St j h->(∀b o,b∉wr->b≠S->h0.get? b=some o->h.get? b=some o) ->
   ((j=0/\∃c,h.get? S=some {cls:=.type "list",data:=.seq #[] c})\/(0<j/\∃vb c,P (argBest bt (j-1)) vb/\h.get? S=some {cls:=.type "list",data:=.seq #[vb,vb] c})) ->
   codeAny (model prog w) A (.builtin "min.loop" {pos:=[.ref I,.none,.ref S],kw:=[(dk,d)]}) R {s0 with heap:=h,toks:=tk}:=by
 intro k
 induction k with
 |zero =>
  intro j h tk hk hj hst keep hb
  refine codeAny_builtin F.entry_min_loop ?_
  have hjn:j=n:= ⋯
  subst hjn
  rcases hb with⟨hj0,c,hb⟩|⟨hj0,vb,c,hvb,hb⟩
  .show wpAny _ _ (_ >>= _) _ _ _
   refine Ya (wpAny_seqItems hb rfl ?_)
   refine Ya (wpAny_tryCatch (W.done _ _ _ hst λh' tk' kp=>?_))
   refine Ya (wpAny_rule (Ye ?_))
   exact hR0 hj0 h' tk' λb o hb1 hb2 e=>kp b o hb1 (keep b o hb1 hb2 e)
  .show wpAny _ _ (_ >>= _) _ _ _
   refine Ya (wpAny_seqItems hb rfl ?_)
   refine Ya (wpAny_tryCatch (W.done _ _ _ hst λh' tk' kp=>?_))
   have hS':S∉wr:=λz=>hS (W.sub S z)
   have hb':=kp S _ hS' hb
   refine Ya (wpAny_updateSeq hb' rfl ?_ (show 2<=sizeLine by decide) (Yq _))
   refine Ya (wpAny_letGo (Ye ?_))
   refine hR hj0 vb _ tk' hvb λb o hb1 hb2 e=>?_
   exact(Heap.get?_update_other _ _ (Ne.symm hb2)).trans (kp b o hb1 (keep b o hb1 hb2 e))
 |succ k ih =>
  intro j h tk hk hj hst keep hb
  refine codeAny_builtin F.entry_min_loop ?_
  have hjn:j<n:= ⋯
  have hS':S∉wr:=λz=>hS (W.sub S z)
  rcases hb with⟨hj0,c,hb⟩|⟨hj0,vb,c,hvb,hb⟩
  .show wpAny _ _ (_ >>= _) _ _ _
   refine Ya (wpAny_seqItems hb rfl ?_)
   refine Ya (wpAny_tryCatch (W.item j _ _ _ hjn hst λv h' tk' hv hst' kp=>?_))
   have hb':=kp S _ hS' hb
   refine Ya (Ye ?_)
   refine Ya (wpAny_updateSeq hb' rfl ?_ (Yq _) (show 2<=sizeLine+1 by decide))
   refine Ye ⟨rfl,?_⟩
   have e9:=PySem.IsL.update hb' (λ_=>#[v,v])
   refine ih (j+1) _ tk' ⋯ ⋯ (W.frame _ _ _ hst' λb hb1 o e=>?_) (λb o hb1 hb2 e=>?_) (.inr ⟨⋯,v,_,?_,e9⟩)
   .exact(Heap.get?_update_other _ _ (show S≠b from λz=>hS (by rw[z];exact hb1))).trans e
   .exact(Heap.get?_update_other _ _ (Ne.symm hb2)).trans (kp b o hb1 (keep b o hb1 hb2 e))
   .rw[hj0];rw[hj0]at hv;exact hv
  .show wpAny _ _ (_ >>= _) _ _ _
   refine Ya (wpAny_seqItems hb rfl ?_)
   refine Ya (wpAny_tryCatch (W.item j _ _ _ hjn hst λv h' tk' hv hst' kp=>?_))
   have hb':=kp S _ hS' hb
   obtain⟨j',rfl⟩:∃j',j=j'+1:=⟨j-1,⋯⟩
   have hvb':P (argBest bt j') vb:=hvb
   have eA:argBest bt (j'+1)=if bt (j'+1) (argBest bt j')=true then j'+1 else argBest bt j':=rfl
   refine Ya (Ye ?_)
   refine Ya (wpAny_tryCatch (YE (Ya (hc (j'+1) (argBest bt j') v vb _ _ _ hv hvb' (Ya (YE (wpAny_truthy_bool (Ya (wpAny_letGo (Ye ?_))))))))))
   by_cases z:bt (j'+1) (argBest bt j')=true
   .rw[Yc z]
    refine Ya (wpAny_updateSeq hb' rfl ?_ (show 2<=sizeLine by decide) (show 2<=sizeLine+1 by decide))
    refine Ya (wpAny_letGo (Ye ⟨rfl,?_⟩))
    have e9:=PySem.IsL.update hb' (λ_=>#[v,v])
    refine ih (j'+1+1) _ tk' ⋯ ⋯ (W.frame _ _ _ hst' λb hb1 o e=>?_) (λb o hb1 hb2 e=>?_) (.inr ⟨⋯,v,_,?_,e9⟩)
    .exact(Heap.get?_update_other _ _ (show S≠b from λz=>hS (by rw[z];exact hb1))).trans e
    .exact(Heap.get?_update_other _ _ (Ne.symm hb2)).trans (kp b o hb1 (keep b o hb1 hb2 e))
    .show P (argBest bt (j'+1)) v
     rw[eA,Yc z];exact hv
   .rw[Yb z]
    refine Ya (wpAny_letGo (Ye ⟨rfl,?_⟩))
    refine ih (j'+1+1) _ tk' ⋯ ⋯ hst' (λb o hb1 hb2 e=>kp b o hb1 (keep b o hb1 hb2 e)) (.inr ⟨⋯,vb,_,?_,hb'⟩)
    show P (argBest bt (j'+1)) vb
    rw[eA,Yb z];exact hvb'
theorem Zjt (a d:Value):argsOk "min" {pos:=[a],kw:=[("default",d)]}:=by first|rfl|decide
theorem Zju {prog:Program}{w:World}{A:Around}{E Q:Value->Shared->Prop}{s:Shared}{l:Addr}{xs:Array (Int×Tok)}{d:Value} (hA:A.handled=none) (hl:s.heap.IsList l (intItems xs))
  (q0:xs.size=0->∀h' tk,(∀b o,s.heap.get? b=some o->h'.get? b=some o)->Q d {s with heap:=h',toks:=tk})
  (q1:0<xs.size->∀v h' tk,(intItems xs)[argBest (λi j=>decide (numAt xs i<numAt xs j)) (xs.size-1)]?=some v->(∀b o,s.heap.get? b=some o->h'.get? b=some o)->Q v {s with heap:=h',toks:=tk}) :
  wpAny (model prog w) A (call (.builtin "min") [.ref l] [("default",d)]) Q E s:=by
 refine wpAny_call (codeAny_call_builtin_code rfl ?_)
 have hck:checkBuiltinCall "min" {pos:=[.ref l],kw:=[("default",d)]}=pure ():=by
  unfold checkBuiltinCall
  rw[F.kind_min]
  exact Zjt (.ref l) d
 rw[hck]
 refine Ye (codeAny_builtin F.entry_min ?_)
 show wpAny _ _ (_ >>= _) _ _ _
 have hbp:Builtin.Builtins.bindParams "min" ["key","default"] 0 {kw:=[("default",d)]}=pure [none,some d]:=by
  first|rfl|with_unfolding_all rfl|(simp[Builtin.Builtins.bindParams];done)
 refine Ya (wpAny_of_eq hbp (Ya (Ye (Ya (wpAny_pyIter_list hl ?_)))))
 refine Ya (wpAny_newObj_type ?_)
 refine Ye ⟨rfl,?_⟩
 have hlt:l<s.heap.objs.size:=by obtain⟨o,e,_⟩:=hl;exact Yh e
 have n1:l≠s.heap.objs.size:=Yo hlt
 have esz:(s.heap.push {cls:=.type "list_iterator",data:=.fields #[.ref l,.int 0 0]}).objs.size=s.heap.objs.size+1:=Heap.size_push _ _
 have old:∀b o,s.heap.get? b=some o->((s.heap.push {cls:=.type "list_iterator",data:=.fields #[.ref l,.int 0 0]}).push {cls:=.type "list",data:=.seq #[]}).get? b=some o:=λb o e=>Yk _ (Yk _ e)
 have ne:∀b o,s.heap.get? b=some o->b∉[s.heap.objs.size]/\b≠(s.heap.push {cls:=.type "list_iterator",data:=.fields #[.ref l,.int 0 0]}).objs.size:=λb o e=>by
  have:=Yh e
  refine⟨λz=>?_,λz=>?_⟩
  .have:b=s.heap.objs.size:=by simpa using z
   exact absurd (Yh e) (by rw[this];exact YA _)
  .rw[z,esz]at this
   exact absurd this (Nat.not_lt_of_le (Y3 _))
 have W:=Walks.list (prog:=prog) (w:=w) (A:=A.in1) hA s.heap.objs.size l n1 (intItems xs)
 have hitm:(intItems xs).size=xs.size:=by simp[intItems]
 refine Zjs W (λi j=>decide (numAt xs i<numAt xs j)) (CmpOf.ints_lt (numAt xs) λi v h=>intItems_at h) _ ?_ "default" d _ s (λz h' tk kp=>?_) (λz v h' tk hv kp=>?_) (intItems xs).size 0 _ _ rfl (Yq _) ⟨?_,?_⟩ (λb o _ _ e=>e) (.inl ⟨rfl,_,Yv _ rfl⟩)
 .rw[esz]
  simp only[Ym,List.not_mem_nil,or_false,not_or]
  exact⟨Nat.ne_of_gt (Nat.lt_succ_self _),Nat.ne_of_gt (YL hlt)⟩
 .exact q0 ⋯ h' tk λb o e=>kp b o (ne b o e).1 (ne b o e).2 (old b o e)
 .exact q1 ⋯ v h' tk (by rw[<-hitm];exact hv) λb o e=>kp b o (ne b o e).1 (ne b o e).2 (old b o e)
 .exact⟨_,Yk _ (Yv _ rfl),rfl,rfl⟩
 .obtain⟨o,e,r⟩:=hl
  exact⟨o,old _ _ e,r⟩
section
variable {X:Cx}
noncomputable def tMaxD (K:Frag) (ta td:TA):TE:=fun σ H Q=>ta σ H λvs H1=>td σ H1 λzs H2=>∃(p:Addr) (ns:List Int) (d:Int),vs=[.ref p]/\zs=[.int d]/\SqL K H2 p (ns.map V.int)/\(ns=[]->Q (.int d) H2)/\(ns≠[]->∀m,m∈ns->(∀a∈ns,a<=m)->Q (.int m) H2)
theorem ZkQ {K:Frag}{e:Expr}{kws:List Keyword}{ta td:TA}{p pos:Pos} (hK:X.K=K) (hc:X.calm=true) (hg:Gl X "max") (hm:X.mg "max"=none) (ha:PA X [e] ta) (hd:PK X kws td)
  (he:starEach [e] X.env=(false,eval e X.env)::starEach [] X.env:=by rfl) (hpl:(backTo pos (starEach [e] X.env)).any (·.1)=false:=by rfl) (hall:(backToKw pos (keywordEach kws X.env)).all (·.1.isSome)=true:=by rfl)
  (hnn:(backToKw pos (keywordEach kws X.env)).any (·.1.isNone)=false:=by rfl) (hks:(backToKw pos (keywordEach kws X.env)).filterMap (·.1)=[(("default":String):Str)]:=by rfl) (hb:backTo pos (starEach [e] X.env)=(false,eval e X.env)::backTo pos (starEach [] X.env):=by rfl) :
  PE X (.Call (.Name "max" p) [e] kws pos) (tMaxD K ta td):=by
 subst hK
 intro pins s σ H Q I h
 refine wpAny_Call_Name_kw (Zb0 I hg hm Zj0 ?_)
 refine PyProof.Rows.callWith_kw (thn (ha pos pins s σ H _ I h) λus s1 ⟨vs,H1,I1,r1,q1⟩=>?_) hb hpl hall hnn
 refine thn (hd pos pins s1 σ H1 _ I1 q1) λws s2 ⟨zs,H2,I2,r2,pp,ns,d,e1,e2,hp,q0,qm⟩=>?_
 subst e1 e2
 obtain⟨u,rfl,ru⟩:=r1.one
 obtain⟨v,rfl,rv⟩:=r2.one
 cases(show u=Value.ref pp from ru)
 rw[hks]
 obtain⟨its,rr,pl,hz⟩:=I2.list hp
 obtain⟨ys,e1,e2⟩:=Zda rr
 have hsz:ys.size=ns.length:=by
  have:=congrArg List.length e2
  rw[Yj,YT]at this
  exact this
 refine Zjr (xs:=ys) (I2.ok.hd hc) (e1▸pl.isList) (λz h' tk k=>?_) (λz v' h' tk hv k=>?_)
 .exact⟨.int d,H2,I2.kept k,rv,q0 (List.length_eq_zero_iff.mp ⋯)⟩
 .obtain⟨t,rfl⟩:=intItems_at hv
  obtain⟨h1,h2⟩:=argBest_gt (numAt ys) (ys.size-1)
  refine⟨.int _,H2,I2.kept k,⟨t,rfl⟩,qm (λy=>by have h3:ys.size=0:=(by rw[hsz,y];rfl);omega) _ ?_ λa ha=>?_⟩
  .rw[numAt_eq,e2];exact getD_mem ⋯
  .obtain⟨j,hj,rfl⟩:=mem_getD ha
   rw[<-e2,<-numAt_eq];exact h2 j ⋯
end
section
variable {X:Cx}
noncomputable def tMinD (K:Frag) (ta td:TA):TE:=fun σ H Q=>ta σ H λvs H1=>td σ H1 λzs H2=>∃(p:Addr) (ns:List Int) (d:Int),vs=[.ref p]/\zs=[.int d]/\SqL K H2 p (ns.map V.int)/\(ns=[]->Q (.int d) H2)/\(ns≠[]->∀m,m∈ns->(∀a∈ns,m<=a)->Q (.int m) H2)
theorem ZkR {K:Frag}{e:Expr}{kws:List Keyword}{ta td:TA}{p pos:Pos} (hK:X.K=K) (hc:X.calm=true) (hg:Gl X "min") (hm:X.mg "min"=none) (ha:PA X [e] ta) (hd:PK X kws td)
  (he:starEach [e] X.env=(false,eval e X.env)::starEach [] X.env:=by rfl) (hpl:(backTo pos (starEach [e] X.env)).any (·.1)=false:=by rfl) (hall:(backToKw pos (keywordEach kws X.env)).all (·.1.isSome)=true:=by rfl)
  (hnn:(backToKw pos (keywordEach kws X.env)).any (·.1.isNone)=false:=by rfl) (hks:(backToKw pos (keywordEach kws X.env)).filterMap (·.1)=[(("default":String):Str)]:=by rfl) (hb:backTo pos (starEach [e] X.env)=(false,eval e X.env)::backTo pos (starEach [] X.env):=by rfl) :
  PE X (.Call (.Name "min" p) [e] kws pos) (tMinD K ta td):=by
 subst hK
 intro pins s σ H Q I h
 refine wpAny_Call_Name_kw (Zb0 I hg hm Zj1 ?_)
 refine PyProof.Rows.callWith_kw (thn (ha pos pins s σ H _ I h) λus s1 ⟨vs,H1,I1,r1,q1⟩=>?_) hb hpl hall hnn
 refine thn (hd pos pins s1 σ H1 _ I1 q1) λws s2 ⟨zs,H2,I2,r2,pp,ns,d,e1,e2,hp,q0,qm⟩=>?_
 subst e1 e2
 obtain⟨u,rfl,ru⟩:=r1.one
 obtain⟨v,rfl,rv⟩:=r2.one
 cases(show u=Value.ref pp from ru)
 rw[hks]
 obtain⟨its,rr,pl,hz⟩:=I2.list hp
 obtain⟨ys,e1,e2⟩:=Zda rr
 have hsz:ys.size=ns.length:=by
  have:=congrArg List.length e2
  rw[Yj,YT]at this
  exact this
 refine Zju (xs:=ys) (I2.ok.hd hc) (e1▸pl.isList) (λz h' tk k=>?_) (λz v' h' tk hv k=>?_)
 .exact⟨.int d,H2,I2.kept k,rv,q0 (List.length_eq_zero_iff.mp ⋯)⟩
 .obtain⟨t,rfl⟩:=intItems_at hv
  obtain⟨h1,h2⟩:=argBest_lt (numAt ys) (ys.size-1)
  refine⟨.int _,H2,I2.kept k,⟨t,rfl⟩,qm (λy=>by have h3:ys.size=0:=(by rw[hsz,y];rfl);omega) _ ?_ λa ha=>?_⟩
  .rw[numAt_eq,e2];exact getD_mem ⋯
  .obtain⟨j,hj,rfl⟩:=mem_getD ha
   rw[<-e2,<-numAt_eq];exact h2 j ⋯
end
theorem ZfP {P:Nat->Prop}:∀n,¬ (∀j,j<n->P j)->∃j,j<n/\¬ P j/\∀i,i<j->P i
 |0,h=>absurd (λj hj=>⋯) h
 |n+1,h=>by
  by_cases z:∀j,j<n->P j
  .exact⟨n,⋯,λy=>h λj hj=>by
    by_cases e:j=n
    .rw[e];exact y
    .exact z j ⋯,z⟩
  .obtain⟨j,h1,h2,h3⟩:=ZfP n z
   exact⟨j,⋯,h2,h3⟩
section
variable {X:Cx}
noncomputable def rOr (r1 r2:R2):R2:=λx y H Q=>r1 x y H Q\/r2 x y H Q
theorem op_orR {op:Value->Value->Sem Value}{r1 r2:R2} (h1:OpR X op r1) (h2:OpR X op r2):OpR X op (rOr r1 r2):=λpins s σ H x y v u Q I rx ry h=>h.elim (h1 pins s σ H x y v u Q I rx ry) (h2 pins s σ H x y v u Q I rx ry)
end
section
variable {prog:Program}{w:World}{A:Around}{E Q:Value->Shared->Prop}{s:Shared}{it t:Addr}{i:Nat}{items:Array Value}
theorem Zdf {x:Value} (hi:s.heap.IsTupleIter it t i) (ht:s.heap.IsTuple t items) (hx:items[i]?=some x) (h:∀h',h'.IsTupleIter it t (i+1)->Heap.SameBut it s.heap h'->Q x {s with heap:=h'}):wpAny (model prog w) A (Builtin.SmallTypes.nextOf (.ref it)) Q E s:=by
 obtain⟨o,ho,hc,hd⟩:=id hi
 obtain⟨ot,hot,hct,n,hdt⟩:=id ht
 have hT:s.TypeIs (.ref it) "tuple_iterator":=⟨o,ho,hc⟩
 unfold Builtin.SmallTypes.nextOf
 refine Ya (wpAny_callSpecial?_slot hT F.slot_tuple_iterator_next (wpAny_call_entry F.slot_tuple_iterator_next hT F.entry_tuple_iterator_next ?_ (F.args_tuple_iterator_next_1 _)))
 show wpAny _ _ (_ >>= _) _ _ _
 refine Ya (wpAny_of_eq (show slotArgs "__next__" 0 {pos:=[.ref it]}=pure (.ref it,[])from rfl) ?_)
 refine Ya (wpAny_field ho hd (x:=.ref t) rfl ?_)
 rw[Yb (by simp)]
 refine Ya (wpAny_field ho hd (x:=.int (i:Int) 0) rfl ?_)
 refine Ya (wpAny_seqItems hot hdt ?_)
 dsimp only
 rw[YV,hx]
 refine Ya (wpAny_setField ho hd (by show 1<2;decide) (Ye ⟨x,rfl,?_⟩))
 refine Ye (h _ ?_ ⟨by simp,λb hb=>Heap.get?_update_other _ _ (Ne.symm hb)⟩)
 obtain⟨cls,dict,data,slots⟩:=o
 simp only at hc hd
 subst hc hd
 exact⟨_,Heap.get?_update_self _ ho rfl,rfl,rfl⟩
theorem ZdH (hA:A.handled=none) (hi:s.heap.IsTupleIter it t i) (ht:s.heap.IsTuple t items) (hx:items[i]?=none) (h:∀h' e,Heap.ExtBut it s.heap h'->(∃o,h'.get? e=some o/\o.cls=.type "StopIteration")->E (.ref e) {s with heap:=h'}):wpAny (model prog w) A (Builtin.SmallTypes.nextOf (.ref it)) Q E s:=by
 obtain⟨o,ho,hc,hd⟩:=id hi
 obtain⟨ot,hot,hct,n,hdt⟩:=id ht
 have hT:s.TypeIs (.ref it) "tuple_iterator":=⟨o,ho,hc⟩
 unfold Builtin.SmallTypes.nextOf
 refine Ya (wpAny_callSpecial?_slot hT F.slot_tuple_iterator_next (wpAny_call_entry F.slot_tuple_iterator_next hT F.entry_tuple_iterator_next ?_ (F.args_tuple_iterator_next_1 _)))
 show wpAny _ _ (_ >>= _) _ _ _
 refine Ya (wpAny_of_eq (show slotArgs "__next__" 0 {pos:=[.ref it]}=pure (.ref it,[])from rfl) ?_)
 refine Ya (wpAny_field ho hd (x:=.ref t) rfl ?_)
 rw[Yb (by simp)]
 refine Ya (wpAny_field ho hd (x:=.int (i:Int) 0) rfl ?_)
 refine Ya (wpAny_seqItems hot hdt ?_)
 dsimp only
 rw[YV,hx]
 refine Ya (wpAny_rule (Ya (wpAny_setField ho hd (by show 0<2;decide) ?_)))
 unfold Builtin.SmallTypes.stopIteration
 refine Ya ?_
 unfold newExc
 refine Ya (wpAny_newTuple ?_ (Yq _))
 refine Ya (wpAny_of_eq (show firstArgMember (.type "StopIteration") []=pure .none by first|rfl|(unfold firstArgMember;rfl)) ?_)
 refine wpAny_newObj_type (wpAny_raiseNew_none hA (h _ _ (λb o' hb e=>?_) ⟨_,Yv _ rfl,rfl⟩))
 exact Yk _ (Yk _ ((Heap.get?_update_other _ _ (Ne.symm hb)).trans e))
theorem ZdS (hA:A.handled=none) (it t:Addr) (hne:t≠it) (items:Array Value):Draws prog w A it [it,t] items.size (λi v=>items[i]?=some v) (λi h=>h.IsTupleIter it t i/\h.IsTuple t items) where
 live:=λi h st=>by obtain⟨⟨o,ho,_⟩,_⟩:=st;exact⟨o,ho⟩
 frame:=λi h h' st k=>by
  obtain⟨⟨o,ho,r⟩,⟨ot,hot,rt⟩⟩:=st
  exact⟨⟨o,k it (by simp) o ho,r⟩,⟨ot,k t (by simp) ot hot,rt⟩⟩
 item:=λi s Q E hi st h=>by
  obtain⟨ot,hot,rt⟩:=st.2
  refine Zdf st.1 st.2 (Array.getElem?_eq_getElem hi) λh' hit hs=>h _ h' s.toks (Array.getElem?_eq_getElem hi) ⟨hit,⟨ot,(hs.2 t hne).trans hot,rt⟩⟩ hs
 done:=λs Q E st h=>ZdH hA st.1 st.2 (Array.getElem?_eq_none (Yd _)) h
end
section
variable {X:Cx}{pins:List (Addr×Obj)}{σ:St}{H:Hp}{s:Shared}{h':Heap}
noncomputable def IteT (K : Frag) (a : Addr) : It :=
  ⟨fun i H => ∃ xs x, SqT K H a xs ∧ xs[i]? = some x,
   fun i H v H' => ∃ p x, H p = none ∧ v = .ref p ∧ H' = upd H p (.tup [.int (i : Int), x]) ∧ ∀ xs, SqT K H a xs → xs[i]? = some x,
   fun i H => ∃ xs, SqT K H a xs ∧ xs.length = i⟩
theorem Zh5 {P:Program}{w:World}{K:Frag}{elts:List Expr} {x1}{pos:Pos}{a e it:Addr} (h1:e≠it) (h2:a≠e) (h3:a≠it) :
  Turn P w K (.Tuple elts x1 pos) (IteT K a) [e,it] e (λi h=>(∃old,IsEnum h e it (i:Int) old)/\h.IsTupleIter it a i) where
 mem:=by simp
 obj:=λi h st c hc=>by
  obtain⟨⟨old,q1⟩,⟨o4,q4,_,d4⟩⟩:=st
  simp at hc
  rcases hc with rfl|rfl
  .exact⟨_,q1,λv z=>by cases z⟩
  .exact⟨_,q4,λv z=>by rw[d4]at z;cases z⟩
 keep:=λi h h' st k=>by
  obtain⟨⟨old,q1⟩,⟨o,ho,r⟩⟩:=st
  exact⟨⟨old,k e (by simp) _ q1⟩,⟨o,k it (by simp) o ho,r⟩⟩
 item:=by
  intro X hP hw hK hc i pins s σ H E I hf st hg
  subst hP hw hK
  obtain⟨xs,x,qa,hx⟩:=hg
  obtain⟨is1,r1,p1,hz1⟩:=I.tuple qa
  obtain⟨u,hu,ru⟩:=r1.get hx
  have W:=WalksT.enumerateD (prog:=X.prog) (w:=X.w) (A:=X.A) (ZdS (A:=X.A.in1) (I.ok.hd hc) it a h3 is1.toArray) e h1 (by simp;exact⟨h1,h2.symm⟩) (by simp)
  have hi:i<is1.toArray.size:=by
   have:=(Yu.mp hu).1
   simpa using this
  refine W.item i s _ E hi ⟨st.1,st.2,p1⟩ λT vals h' tk Pt hT hTup Mid keep=>⟨_,rfl,W.go elts x1 pos i T _ _ E Mid λh2' St2 keep2=>?_⟩
  obtain⟨t,y,hy,rfl⟩:=Pt
  have hyu:y=u:=by
   have:is1[i]?=some y:=by simpa using hy
   rw[hu]at this;exact(Yz this).symm
  subst hyu
  have nT:=W.apart i T h' Mid
  have hfr:H T=none:=I.hok.fresh hT
  have kk:∀b o,b∉[e,it]->s.heap.get? b=some o->h2'.get? b=some o:=λb o hb q=>keep2 b o hb (keep b o hb q)
  have nTe:∀c∈[e,it],c≠T:=λc hc z=>nT (z▸hc)
  refine⟨.ref T,_,Inv.ZkP (s:=s) (t':=tk) (o:=.tup [.int (i:Int),x]) I kk hf hT ?_,rfl,⟨T,x,hfr,rfl,rfl,λxs' q'=>?_⟩,⟨?_,St2.2.1⟩,λc hc=>?_⟩
  .obtain⟨oT,q1,q2,n,q3⟩:=hTup
   exact⟨by show 2<=sizeLine;decide,[.int (i:Int) t,y],.cons ⟨t,rfl⟩ (.cons ru .nil),⟨oT,keep2 T oT nT q1,q2,n,q3⟩⟩
  .rw[I.Zdy q' qa];exact hx
  .obtain⟨old,q⟩:=St2.1
   exact⟨old,by rw[show(((i+1:Nat)):Int)=(i:Int)+1 by omega]at *;exact q⟩
  .rw[Zm (nTe c hc)];exact(hf c hc).1
 done:=by
  intro X hP hw hK hc i pins s σ H E I hf st hg
  subst hP hw hK
  obtain⟨xs,qa,hx⟩:=hg
  obtain⟨is1,r1,p1,_⟩:=I.tuple qa
  have W:=WalksT.enumerateD (prog:=X.prog) (w:=X.w) (A:=X.A) (ZdS (A:=X.A.in1) (I.ok.hd hc) it a h3 is1.toArray) e h1 (by simp;exact⟨h1,h2.symm⟩) (by simp)
  have hi:i=is1.toArray.size:=by
   have:=r1.length
   simp;omega
  refine W.done s _ E ?_ λh' tk keep=>⟨rfl,I.ZkM (t':=tk) (fp:=[e,it]) (λc o hc q=>keep c o hc q) hf⟩
  rw[<-hi]
  exact⟨st.1,st.2,p1⟩
 self:=λA i s Q E st h=>by
  obtain⟨⟨old,q⟩,_⟩:=st
  exact wpAny_pyIter_enum q h
theorem Zh6 {M:Model}{A:Around}{E:Value->Shared->Prop}{s:Shared} (cls:Value):wpAny M A (Builtin.SmallTypes.calledThroughType cls) (λ_ s'=>s'=s) E s:=by
 unfold Builtin.SmallTypes.calledThroughType
 exact Ya (wpAny_stack λst _ _ _=>Ye rfl)
theorem Zhj {prog:Program}{w:World} (l:Addr) (items:Array Value):MeetsIn prog w (Builtin.«enumerate.__new__» {pos:=[.type "enumerate",.ref l]}) λA R s=>s.heap.IsTuple l items/\R (.ok (.ret (.ref (s.heap.objs.size+1)))) {s with heap:=(s.heap.push {cls:=.type "tuple_iterator",data:=.fields #[.ref l,.int 0 0]}).push {cls:=.type "enumerate",data:=.fields #[.none,.bool false,.ref s.heap.objs.size,rawInt 0,.none,.none]}}:=by
 intro A R s ⟨h,hR⟩
 unfold Builtin.«enumerate.__new__»
 refine Ya (wpAny_of_eq (show Builtin.SmallTypes.newClass "enumerate" {pos:=[.type "enumerate",.ref l]}=pure (.type "enumerate",[.ref l])from by first|rfl|(unfold Builtin.SmallTypes.newClass;rfl)) ?_)
 show wpAny _ _ (_ >>= _) _ _ _
 have hsz:(s.heap.push {cls:=.type "tuple_iterator",data:=.fields #[.ref l,.int 0 0]}).objs.size=s.heap.objs.size+1:=Heap.size_push _ _
 refine Ya (thn (Zh6 (.type "enumerate")) λb s' e=>?_)
 subst e
 cases b with
 |true =>
  show wpAny _ _ (_ >>= _) _ _ _
  refine Ya (wpAny_of_eq (show _=pure (.ref l,none)from rfl) ?_)
  show wpAny _ _ (_ >>= _) _ _ _
  refine Ya (wpAny_pyIter_tuple h ?_)
  show wpAny _ _ (newObj (.type "enumerate") (.fields #[.none,.bool false,.ref s'.heap.objs.size,rawInt 0,.none,.none]) >>= _) _ _ _
  refine Ya (wpAny_newObj_type (Ye ?_))
  rw[hsz];exact hR
 |false =>
  show wpAny _ _ (_ >>= _) _ _ _
  refine Ya (wpAny_of_eq (show _=pure (.ref l,none)from rfl) ?_)
  show wpAny _ _ (_ >>= _) _ _ _
  refine Ya (wpAny_pyIter_tuple h ?_)
  show wpAny _ _ (newObj (.type "enumerate") (.fields #[.none,.bool false,.ref s'.heap.objs.size,rawInt 0,.none,.none]) >>= _) _ _ _
  refine Ya (wpAny_newObj_type (Ye ?_))
  rw[hsz];exact hR
noncomputable def iEnumT (K:Frag) (ta:TA):TI:=fun σ H R=>ta σ H λvs H1=>∃a xs,vs=[.ref a]/\SqT K H1 a xs/\R (IteT K a) H1
theorem Zkd {K:Frag}{elts:List Expr} {x1}{tp:Pos}{e1:Expr}{ta:TA}{p pos:Pos} (hK:X.K=K) (hg:Gl X "enumerate") (hm:X.mg "enumerate"=none) (ha:PA X [e1] ta) (hs:starEach [e1] X.env=[(false,eval e1 X.env)]:=by rfl) :
  PI X (.Tuple elts x1 tp) (.Call (.Name "enumerate" p) [e1] [] pos) (iEnumT K ta):=by
 subst hK
 intro pins s σ H R I h
 refine wpAny_Call_Name_kw (Zb0 I hg hm Zh4 ?_)
 refine PyProof.Rows.callWith_type1 (thn (ha pos pins s σ H _ I h) λus s1 ⟨vs,H1,I1,r1,a,xs,e1,qa,q⟩=>?_) hs rfl
 subst e1
 obtain⟨u,rfl,ru⟩:=r1.one
 cases(show u=Value.ref a from ru)
 obtain⟨is1,rr1,p1,_⟩:=I1.tuple qa
 have l1:a<s1.heap.objs.size:=by obtain⟨o,e,_⟩:=p1;exact Yh e
 have sm:∀b,s1.heap.objs.size<=b->FpOk X pins H1 b:=λb hb=>I1.ZhQ hb (I1.hok.fresh hb)
 have n1:s1.heap.objs.size+1≠s1.heap.objs.size:=by show ¬ ((_:Nat)=_);omega
 have n2:a≠s1.heap.objs.size+1:=Yo (YL l1)
 have n3:a≠s1.heap.objs.size:=Yo l1
 have T:=Zh5 (P:=X.prog) (w:=X.w) (K:=X.K) (elts:=elts) (x1:=x1) (pos:=tp) n1 n2 n3
 have hsz:(s1.heap.push {cls:=.type "tuple_iterator",data:=.fields #[.ref a,.int 0 0]}).objs.size=s1.heap.objs.size+1:=Heap.size_push _ _
 have c1:IsEnum ((s1.heap.push {cls:=.type "tuple_iterator",data:=.fields #[.ref a,.int 0 0]}).push {cls:=.type "enumerate",data:=.fields #[.none,.bool false,.ref s1.heap.objs.size,rawInt 0,.none,.none]}) (s1.heap.objs.size+1) s1.heap.objs.size 0 .none:=by
  show Heap.get? _ _=_
  rw[<-hsz];exact Yv _ rfl
 have c2:((s1.heap.push {cls:=.type "tuple_iterator",data:=.fields #[.ref a,.int 0 0]}).push {cls:=.type "enumerate",data:=.fields #[.none,.bool false,.ref s1.heap.objs.size,rawInt 0,.none,.none]}).IsTupleIter s1.heap.objs.size a 0:=⟨_,Yk _ (Yv _ rfl),rfl,rfl⟩
 refine callType_newIn F.called_enumerate rfl (by first|rfl|decide) (F.newCall_enumerate_1 _) (λobj=>by first|rfl|decide) F.entry_enumerate_new (Zhj a is1.toArray) ⟨p1,⟨_,c1,rfl⟩,?_⟩
 refine T.self _ 0 _ _ _ ⟨⟨_,c1⟩,c2⟩ ?_
 refine⟨_,[s1.heap.objs.size+1,s1.heap.objs.size],_,_,H1,rfl,I1.kept (t':=s1.toks) (λb o e=>Yk _ (Yk _ e)),T,⟨⟨_,c1⟩,c2⟩,λc hc=>?_,q⟩
 simp at hc
 rcases hc with rfl|rfl<;>exact sm _ ⋯
end
open Classical in
noncomputable def Zbq (f:Nat->Int) (p:Nat):Int:=if h:∃q,ZU f p q then (Classical.choose h:Nat)else -1
open Classical in
noncomputable def Zay (f:Nat->Int) (n p:Nat):Int:=if h:∃r,ZT f n p r then (Classical.choose h:Nat)else (n:Int)
theorem ZfQ {f:Nat->Int}{p q:Nat} (h:ZU f p q):Zbq f p=q:=by
 have hx:∃q,ZU f p q:=⟨q,h⟩
 unfold Zbq
 rw[dif_pos hx,(Classical.choose_spec hx).unique h]
theorem ZiZ {f:Nat->Int}{p:Nat} (h:Za1 f p):Zbq f p=-1:=by
 unfold Zbq
 rw[dif_neg λ⟨q,hq⟩=>hq.no h]
theorem ZdI {f:Nat->Int}{n p r:Nat} (h:ZT f n p r):Zay f n p=r:=by
 have hx:∃r,ZT f n p r:=⟨r,h⟩
 unfold Zay
 rw[dif_pos hx,(Classical.choose_spec hx).unique h]
theorem Zgu {f:Nat->Int}{n p:Nat} (h:Zav f n p):Zay f n p=n:=by
 unfold Zay
 rw[dif_neg λ⟨q,hq⟩=>hq.no h]
theorem ZbC {f:Nat->Int}{n p:Nat}{e:Int} (h:ZO f n p e):(Za1 f p\/∃q,ZU f p q)/\(Zav f n p\/∃r,ZT f n p r):=by
 rcases h with⟨h1,h2,_⟩|⟨q,h1,h2,_⟩|⟨r,h1,h2,_⟩|⟨q,r,h1,h2,_⟩
 .exact⟨.inl h1,.inl h2⟩
 .exact⟨.inr ⟨q,h1⟩,.inl h2⟩
 .exact⟨.inl h1,.inr ⟨r,h2⟩⟩
 .exact⟨.inr ⟨q,h1⟩,.inr ⟨r,h2⟩⟩
theorem ZU.over {f:Nat->Int}{p q:Nat} (h:ZU f p q):Over f q p:=.inl ⟨h.1,λr r1 r2=>by
 by_cases z:r=p
 .rw[z];exact h.2.1
 .have:=h.2.2 r r1 ⋯;have:=h.2.1;omega⟩
theorem ZT.over {f:Nat->Int}{n p q:Nat} (h:ZT f n p q):Over f q p:=.inr ⟨h.1,λr r1 r2=>by
 by_cases z:r=p
 .rw[z];exact h.2.2.1
 .have:=h.2.2.2 r ⋯ r2;have:=h.2.2.1;omega⟩
theorem Zke {ns T:List Int} (hT:ZV ns T) {p:Nat} (hp:p<ns.length):let L:=(wayI T p).filter λo=>decide (o<(p:Int))
  (L=[]->Zbq (nth ns) p=-1)/\(L≠[]->∀m,m∈L->(∀a∈L,a<=m)->m=Zbq (nth ns) p):=by
 intro L
 have hL:∀o:Nat,(o:Int)∈L↔o<p/\o<ns.length/\Over (nth ns) o p:=λo=>by
  rw[YR,ZiY hT hp,decide_eq_true_eq]
  exact⟨λh=>⟨⋯,h.1⟩,λh=>⟨h.2,⋯⟩⟩
 have hN:∀m∈L,∃o:Nat,m=o:=λm hm=>by
  have:=(YR.mp hm).1
  rw[Zhi]at this
  obtain⟨o,_,e⟩:=YG.mp this
  exact⟨o,e.symm⟩
 rcases(ZbC (hT.2 p hp)).1 with h|⟨q,h⟩
 .refine⟨λ_=>ZiZ h,λhne m hm _=>?_⟩
  obtain⟨o,rfl⟩:=hN m hm
  obtain⟨h1,_,h2⟩:=(hL o).mp hm
  have:=h o h1
  rcases h2 with⟨_,k⟩|⟨z,_⟩
  .have:=k p h1 (Yd _);omega
  .omega
 .have hq:(q:Int)∈L:=(hL q).mpr ⟨h.1,by have:=h.1;omega,h.over⟩
  refine⟨λe=>by rw[e]at hq;simp at hq,λ_ m hm hmax=>?_⟩
  rw[ZfQ h]
  obtain⟨o,rfl⟩:=hN m hm
  obtain⟨h1,_,h2⟩:=(hL o).mp hm
  have hqo:=hmax _ hq
  by_cases z:o=q
  .rw[z]
  .have:=h.2.2 o ⋯ h1
   rcases h2 with⟨_,k⟩|⟨z,_⟩
   .have:=k p h1 (Yd _);omega
   .omega
theorem Zkf {ns T:List Int} (hT:ZV ns T) {p:Nat} (hp:p<ns.length):let L:=(wayI T p).filter λo=>decide ((p:Int)<o)
  (L=[]->Zay (nth ns) ns.length p=ns.length)/\(L≠[]->∀m,m∈L->(∀a∈L,m<=a)->m=Zay (nth ns) ns.length p):=by
 intro L
 have hL:∀o:Nat,(o:Int)∈L↔p<o/\o<ns.length/\Over (nth ns) o p:=λo=>by
  rw[YR,ZiY hT hp,decide_eq_true_eq]
  exact⟨λh=>⟨⋯,h.1⟩,λh=>⟨h.2,⋯⟩⟩
 have hN:∀m∈L,∃o:Nat,m=o:=λm hm=>by
  have:=(YR.mp hm).1
  rw[Zhi]at this
  obtain⟨o,_,e⟩:=YG.mp this
  exact⟨o,e.symm⟩
 rcases(ZbC (hT.2 p hp)).2 with h|⟨q,h⟩
 .refine⟨λ_=>Zgu h,λhne m hm _=>?_⟩
  obtain⟨o,rfl⟩:=hN m hm
  obtain⟨h1,h3,h2⟩:=(hL o).mp hm
  have:=h o h1 h3
  rcases h2 with⟨z,_⟩|⟨_,k⟩
  .omega
  .have:=k p (Yd _) h1;omega
 .have hq:(q:Int)∈L:=(hL q).mpr ⟨h.1,h.2.1,h.over⟩
  refine⟨λe=>by rw[e]at hq;simp at hq,λ_ m hm hmin=>?_⟩
  rw[ZdI h]
  obtain⟨o,rfl⟩:=hN m hm
  obtain⟨h1,h3,h2⟩:=(hL o).mp hm
  have hqo:=hmin _ hq
  by_cases z:o=q
  .rw[z]
  .have:=h.2.2.2 o h1 ⋯
   rcases h2 with⟨z,_⟩|⟨_,k⟩
   .omega
   .have:=k p (Yd _) h1;omega
noncomputable def Zal (H:Hp) (l:Addr) (n:Nat) (ps:Nat->Int×Int):Prop:=∃qs:List Addr,H l=some (.lst (qs.map V.ref))/\qs.length=n/\∀(j:Nat) (q:Addr),qs[j]?=some q->H q=some (.tup [.int (ps j).1,.int (ps j).2])
theorem Zal.same {H H':Hp}{l:Addr}{n:Nat}{ps:Nat->Int×Int} (h:Zal H l n ps) (s:Zh H H'):Zal H' l n ps:=by
 obtain⟨qs,h1,h2,h3⟩:=h
 exact⟨qs,s _ _ h1,h2,λj q hq=>s _ _ (h3 j q hq)⟩
theorem Zal.push {H:Hp}{l q:Addr}{n:Nat}{ps:Nat->Int×Int} (h:Zal H l n ps) (hq:H q=some (.tup [.int (ps n).1,.int (ps n).2])):∃xs:List V,H l=some (.lst xs)/\xs.length=n/\Zal (upd H l (.lst (xs++[.ref q]))) l (n+1) ps:=by
 obtain⟨qs,h1,h2,h3⟩:=h
 have hne:∀a o,H a=some (.tup o)->a≠l:=λa o ha z=>by rw[z,h1]at ha;cases ha
 refine⟨_,h1,by simp[h2],qs++[q],by rw[Zd];simp,by simp[h2],λj a ha=>?_⟩
 by_cases z:j<qs.length
 .rw[Y1 z]at ha
  have:=h3 j a ha
  rw[Zm (hne _ _ this)];exact this
 .have hj:=(Yu.mp ha).1
  rw[Yn]at hj
  have:j=n:=by simp at hj;omega
  subst this
  rw[YY ⋯,h2]at ha
  simp at ha
  rw[<-ha,Zm (hne _ _ hq)];exact hq
theorem ZeQ {f:Nat->Int} (v:Int):∀S:List Nat,S.Pairwise (λa b=>f a<=f b)->∃A B,S=A++B/\(∀q∈A,f q<=v)/\∀q∈B,v<f q
 |[],_=>⟨[],[],rfl,λ_ h=>(nomatch h),λ_ h=>(nomatch h)⟩
 |q::r,h=>by
  have hr:=Y2.mp h
  by_cases z:f q<=v
  .obtain⟨A,B,e,h1,h2⟩:=ZeQ v r hr.2
   refine⟨q::A,B,by rw[e];rfl,λx hx=>?_,h2⟩
   rcases Ym.mp hx with y|y
   .rw[y];exact z
   .exact h1 x y
  .refine⟨[],q::r,rfl,λ_ h=>(nomatch h),λx hx=>?_⟩
   rcases Ym.mp hx with y|y
   .rw[y];omega
   .have:=hr.1 x y;omega
theorem Zcx.mono {f:Nat->Int}{i:Nat}{S:List Nat} (h:Zcx f i S):S.Pairwise (λa b=>f a<=f b):=by
 refine List.Pairwise.imp_of_mem ?_ h.1
 intro a b ha hb hab
 exact((h.2 a).mp ha).2 b hab ((h.2 b).mp hb).1
theorem ZeR {J:It}{n:Nat}{g:TG}{tb:TS}{D:Ends}{σ:St}{H:Hp} (Pv:Nat->St->Hp->Prop) (h0:Pv 0 σ H) (hgo:∀i σ H,i<n->Pv i σ H->J.go i H) (hstop:∀σ H,Pv n σ H->J.stop n H)
  (hs:∀i x σ H H',i<n->Pv i σ H->J.yld i H x H'->g x σ H' fun σ2 H2=>tb {D with nx:=Pv (i+1),ct:=Pv (i+1),bk:=D.nx} σ2 H2) (hd:∀σ H,Pv n σ H->D.nx σ H):LoopR J g tb D σ H:=by
 refine⟨λi m σ H=>m=n-i/\i<=n/\Pv i σ H,⟨n,by simp,Yq _,h0⟩,?_⟩
 rintro i m σ H ⟨rfl,hi,p⟩
 by_cases hlt:i<n
 .exact .inr ⟨hgo i σ H hlt p,Pv (i+1),fun σ' H' p'=>⟨n-(i+1),⋯,rfl,hlt,p'⟩,λx H' y=>hs i x σ H H' hlt p y⟩
 .have:i=n:= ⋯
  subst this
  exact .inl ⟨hstop σ H p,hd σ H p⟩
theorem Zkg (L:List Int):L=(List.range L.length).map λi=>L.getD i 0:=by
 refine List.ext_getElem (by simp) λj h1 h2=>?_
 simp[Yi,h1]
theorem ZfR {K:Frag}{a:Addr}{L:List Int}{H1:Hp}{Q:VK}{tt:TT}{σr:St} (P:Int->Bool) (ha:H1 a=some (.lst (L.map V.int))) (hn:L.length<=1000)
  (ht:∀(x:Int) (H:Hp) (R:Bool->Hp->Prop),R (P x) H->tt (some (V.int x)::σr) H R)
  (hk:∀l H',Zh H1 H'->H' l=none->Q (.ref l) (upd H' l (.lst ((L.filter P).map V.int)))) :
  ZfI (Itl K a) (gName 0) tt (tVar 0) (none::σr) Q H1:=by
 refine ZdG (n:=L.length) (λi=>P (L.getD i 0)) (λi=>V.int (L.getD i 0)) (YD hn nofun) (λi Hx s hi=>⟨_,_,SqL.of (s _ _ ha),Yg (by simpa using hi)⟩) (λHx s=>⟨_,SqL.of (s _ _ ha),by simp⟩) ?_ ?_
 .rintro i x Hx Hy hi s ⟨rfl,hx⟩
  have ex:=hx _ (SqL.of (s _ _ ha))
  rw[YH,Yg hi]at ex
  cases ex
  have eg:L.getD i 0=L[i]:=by simp[Yi,hi]
  refine ht _ _ _ ?_
  cases hP:P L[i]with
  |true =>
   rw[Yc rfl]
   exact⟨_,rfl,CF.take hi (by rw[eg];exact hP) (by rw[eg]) s⟩
  |false =>
   rw[Yb (by simp)]
   exact CF.skip hi (by rw[eg];exact hP) s
 .intro l H' s hl
  have:=hk l H' s hl
  have e:((List.range L.length).filter λi=>P (L.getD i 0)).map (λi=>V.int (L.getD i 0))=(L.filter P).map V.int:=by
   conv=>rhs;rw[Zkg L,List.filter_map,Yy]
   rfl
  rw[e];exact this
end Lake
namespace PySem
open Sem (wp)
end PySem
namespace Lake
open PySem PySem.Spec PyProof.Rows PySem.W
theorem Zgv {f:Nat->Int}{n p:Nat} (hp:p<n):-1<=Zbq f p/\Zbq f p<p/\(p:Int)<Zay f n p/\Zay f n p<=n:=by
 obtain⟨hA,hB⟩:=ZbC (Zhc (f:=f) hp)
 have a1:-1<=Zbq f p/\Zbq f p<p:=by
  rcases hA with hA|⟨q,hA⟩
  .rw[ZiZ hA];omega
  .rw[ZfQ hA];have:=hA.1;omega
 have a2:(p:Int)<Zay f n p/\Zay f n p<=n:=by
  rcases hB with hB|⟨q,hB⟩
  .rw[Zgu hB];omega
  .rw[ZdI hB];have:=hB.1;have:=hB.2.1;omega
 exact⟨a1.1,a1.2,a2.1,a2.2⟩
theorem Zfi {F:Nat->Int}{n k:Nat}{v:Int}:((List.range n).map F).set k v=(List.range n).map λp=>if p=k then v else F p:=by
 refine List.ext_getElem (by simp) λj h1 h2=>?_
 simp only[List.length_set,Yj,Y7]at h1
 rw[List.getElem_set]
 by_cases e:k=j
 .simp[e]
 .have e':¬ j=k:=λz=>e z.symm
  simp[e,e']
theorem Zbe {F:Nat->Int}{n k:Nat} (h:k<n):nth ((List.range n).map F) k=F k:=by simp[nth,Yi,h]
end Lake
namespace Lake
theorem snoc_cases {α:Type} (xs:List α):xs=[]\/∃ys y,xs=ys++[y]:=by
 rcases List.eq_nil_or_concat xs with h|⟨ys,y,h⟩
 .exact .inl h
 .exact .inr ⟨ys,y,by rw[h,List.concat_eq_append]⟩
end Lake
namespace Lake
open PySem PySem.Spec PyProof.Rows PySem.W
noncomputable def Once (k:Nat) (ss ls:List Int):Prop:=ss=((List.range k).map λ(j:Nat)=>(j:Int)).filter (λj=>decide (j∉ls))/\ls=((List.range k).map λ(j:Nat)=>(j:Int)).filter (λj=>decide (j∈ls))
noncomputable instance (k:Nat) (ss ls:List Int):Decidable (Once k ss ls):=inferInstanceAs (Decidable (_/\_))
section
variable {N:Nat}{k:Nat->Int}{cmp:Nat->Nat->(Bool->Shared->Prop)->Shared->Prop}{s:Shared}{p:Array Nat}
noncomputable def kk (k:Nat->Int) (p:Array Nat) (i:Nat):Int:=k (p.getD i 0)
end
theorem ZdT {f g:Nat->Int}{i:Nat}{S:List Nat} (h:∀q,q<i->f q=g q) (hs:Zcx f i S):Zcx g i S:=by
 refine⟨hs.1,λq=>(hs.2 q).trans ⟨λ⟨h1,h2⟩=>⟨h1,λr r1 r2=>by rw[<-h q h1,<-h r r2];exact h2 r r1 r2⟩,λ⟨h1,h2⟩=>⟨h1,λr r1 r2=>by rw[h q h1,h r r2];exact h2 r r1 r2⟩⟩⟩
theorem ZdU {f g:Nat->Int}{i p:Nat}{e:Int} (h:∀q,q<i->f q=g q) (hp:p<i) (he:ZO f i p e):ZO g i p e:=by
 have c1:Za1 f p->Za1 g p:=λz q hq=>by rw[<-h p hp,<-h q ⋯];exact z q hq
 have c2:Zav f i p->Zav g i p:=λz r r1 r2=>by rw[<-h p hp,<-h r r2];exact z r r1 r2
 have c3:∀q,ZU f p q->ZU g p q:=λq ⟨z1,z2,z3⟩=>⟨z1,by rw[<-h p hp,<-h q ⋯];exact z2,λr r1 r2=>by rw[<-h p hp,<-h r ⋯];exact z3 r r1 r2⟩
 have c4:∀r,ZT f i p r->ZT g i p r:=λr ⟨z1,z2,z3,z4⟩=>⟨z1,z2,by rw[<-h p hp,<-h r z2];exact z3,λs s1 s2=>by rw[<-h p hp,<-h s ⋯];exact z4 s s1 s2⟩
 rcases he with⟨a,b,c⟩|⟨q,a,b,c⟩|⟨r,a,b,c⟩|⟨q,r,a,b,c⟩
 .exact .inl ⟨c1 a,c2 b,c⟩
 .exact .inr (.inl ⟨q,c3 q a,c2 b,c⟩)
 .exact .inr (.inr (.inl ⟨r,c1 a,c4 r b,c⟩))
 .exact .inr (.inr (.inr ⟨q,r,c3 q a,c4 r b,by rw[<-h q (Nat.lt_trans a.1 hp),<-h r b.2.1];exact c⟩))
noncomputable def ZaA (ds:List Nat):Nat->Nat
 |0=>0
 |k+1=>ZaA ds k-ds.getD k 0+1
noncomputable def ZaV (ds:List Nat):Prop:=∀k,k<ds.length->ds.getD k 0<=ZaA ds k
theorem ZeS (ds:List Nat) (k:Nat):ZaA ds k<=k:=by
 induction k with
 |zero=>exact Yd _
 |succ k ih=>unfold ZaA;omega
theorem ZeT {α:Type} (S:List α) {d:Nat} (h:d<=S.length):∃A B,S=A++B/\B.length=d:=⟨S.take (S.length-d),S.drop (S.length-d),(Y8 _ _).symm,by simp;omega⟩
theorem ZkS (f:Nat->Int) (n p:Nat):Zav f n p\/∃r,ZT f n p r:=by
 by_cases h:∀j,j<n-(p+1)->f p<=f (p+1+j)
 .exact .inl λr h1 h2=>by
   have:=h (r-(p+1)) ⋯
   rwa [show p+1+(r-(p+1))=r by omega]at this
 .obtain⟨j,hj,h1,h2⟩:=ZfP _ h
  refine .inr ⟨p+1+j,⋯,⋯,⋯,λs s1 s2=>?_⟩
  have:=h2 (s-(p+1)) ⋯
  rwa [show p+1+(s-(p+1))=s by omega]at this
theorem Zkh {X:Cx}{K:Frag} (hK:X.K=K):PGet X (rIxL K):=by
 subst hK
 intro pins s σ H x y v u Q I rx ry h
 obtain⟨p,xs,i,z,rfl,rfl,hq,he,q⟩:=h
 cases rx
 obtain⟨t,rfl⟩:=ry
 obtain⟨its,r,pl,hz⟩:=I.list hq
 obtain⟨j,h1,h2,h3,h4,h5⟩:=Zet he
 obtain⟨w,ew,rw'⟩:=r.get h2
 have hl:=r.length
 have hn:=Zb6
 have fin:EP X pins σ Q w s:=⟨z,H,I,rw',q⟩
 by_cases h0:0<=i
 .have hj:i.toNat=j:=by
   rw[seqIndex_of h0 h5]at h1
   exact Yz h1
  exact wpAny_getItem_list pl.isList h0 ⋯ (by rw[hj];simpa using ew) fin
 .have hj:(i+(its.toArray.size:Int)).toNat=j:=by
   rw[seqIndex_neg ⋯ h4]at h1
   rw[Yr,<-hl]
   exact Yz h1
  exact wpAny_getItem_list_neg pl.isList ⋯ (by rw[Yr]<;>omega) ⋯ (by rw[hj];simpa using ew) fin
noncomputable def Zgw (f:Nat->Int) (p k:Nat):Prop:=p<k/\f k<f p/\∀s,p<s->s<k->f p<=f s
theorem Zh7 {f:Nat->Int}{n p k:Nat} (hk:k<n):Zgw f p k↔ZT f n p k:=⟨λ⟨a,b,c⟩=>⟨a,hk,b,c⟩,λ⟨a,_,b,c⟩=>⟨a,b,c⟩⟩
open Classical in
noncomputable def Zab (f:Nat->Int) (k:Nat):Nat:=(List.range k).countP λp=>decide (Zgw f p k)
theorem Zjv {B:List Nat}{n:Nat} (hB:B.Nodup) (hlt:∀q∈B,q<n):(List.range n).countP (λp=>decide (p∈B))=B.length:=by
 rw[List.countP_eq_length_filter]
 refine List.Perm.length_eq ((List.perm_ext_iff_of_nodup (List.nodup_range.filter _) hB).mpr λa=>?_)
 rw[YR,YB,decide_eq_true_iff]
 exact⟨λh=>h.2,λh=>⟨hlt a h,h⟩⟩
theorem ZcO {f:Nat->Int}{i:Nat}{A B:List Nat} (hs:Zcx f i (A++B)) (hA:∀q∈A,f q<=f i) (hB:∀q∈B,f i<f q):Zab f i=B.length:=by
 have hm:∀p,Zgw f p i↔p∈B:=λp=>by
  constructor
  .rintro⟨h1,h2,h3⟩
   rcases Yp.mp ((hs.2 p).mpr ⟨h1,h3⟩)with z|z
   .have:=hA p z;omega
   .exact z
  .intro z
   obtain⟨h1,h2⟩:=(hs.2 p).mp (Yt _ z)
   exact⟨h1,hB p z,h2⟩
 have nd:B.Nodup:=(List.pairwise_append.mp hs.1).2.1.imp λh=>Yo h
 have hlt:∀q∈B,q<i:=λq hq=>((hs.2 q).mp (Yt _ hq)).1
 unfold Zab
 rw[<-Zjv nd hlt]
 refine List.countP_congr λp _=>?_
 simp[hm p]
theorem Zdg {f g:Nat->Int}{k:Nat} (h:∀q,q<=k->f q=g q):Zab f k=Zab g k:=by
 unfold Zab
 refine List.countP_congr λp hp=>?_
 have hp:=YB.mp hp
 simp only[decide_eq_true_eq]
 constructor
 .rintro⟨a,b,c⟩
  exact⟨a,by rw[<-h k (Yd _),<-h p ⋯];exact b,λs s1 s2=>by rw[<-h p ⋯,<-h s ⋯];exact c s s1 s2⟩
 .rintro⟨a,b,c⟩
  exact⟨a,by rw[h k (Yd _),h p ⋯];exact b,λs s1 s2=>by rw[h p ⋯,h s ⋯];exact c s s1 s2⟩
noncomputable def ZeU (n i:Nat) (S:List Nat) (es:List Int) (ds:List Nat):Prop:=∃f:Nat->Int,Zcx f i S/\S.Pairwise (λq r=>f q+2 ^ (n-i)<=f r)/\(∀p,p<i->ZO f i p (es.getD p 0))/\∀k,k<i->Zab f k=ds.getD k 0
theorem Zh8 (n:Nat) (es:List Int) (ds:List Nat):ZeU n 0 [] es ds:=⟨λ_=>0,⟨List.Pairwise.nil,λq=>by simp⟩,List.Pairwise.nil,(λp hp=>⋯),λk hk=>⋯⟩
theorem ZeU.lt {n i:Nat}{S ds:List Nat}{es:List Int} (h:ZeU n i S es ds):∀q∈S,q<i:=by
 obtain⟨f,hS,_⟩:=h
 exact λq hq=>((hS.2 q).mp hq).1
theorem ZeU.step {n i:Nat}{A B ds:List Nat}{es:List Int} (h:ZeU n i (A++B) es ds) (hi:i<n) (hl:es.length=n) (he:es.getD i 0=-1) (hd:ds.getD i 0=B.length):ZeU n (i+1) (A++[i]) (ZbY es A B i) ds:=by
 have hlt:=h.lt
 obtain⟨f,hS,hg,hE,hD⟩:=h
 have eD:(2:Int) ^ (n-i)=2*2 ^ (n-(i+1)):=by
  rw[show n-i=n-(i+1)+1 by omega,Int.pow_succ,Int.mul_comm]
 have pD:(0:Int)<2 ^ (n-(i+1)):=Int.pow_pos nofun
 rw[eD]at hg
 generalize hDD:(2:Int) ^ (n-(i+1))=D at hg pD
 have hgA:=(List.pairwise_append.mp hg).1
 have hgB:=(List.pairwise_append.mp hg).2.1
 have hgX:=(List.pairwise_append.mp hg).2.2
 obtain⟨v,vA,vB⟩:∃v:Int,(∀q∈A,f q+D<=v)/\∀q∈B,v<f q:=by
  cases B with
  |cons b Br =>
   refine⟨f b-D,λq hq=>?_,λq hq=>?_⟩
   .have:=hgX q hq b (by simp);omega
   .rcases Ym.mp hq with rfl|hq
    .omega
    .have:=(Y2.mp hgB).1 q hq;omega
  |nil =>
   rcases snoc_cases A with rfl|⟨A',a,rfl⟩
   .exact⟨0,(λq hq=>by cases hq),λq hq=>by cases hq⟩
   .refine⟨f a+D,λq hq=>?_,λq hq=>by cases hq⟩
    rcases Yp.mp hq with hq|hq
    .have:=(List.pairwise_append.mp hgA).2.2 q hq a (by simp);omega
    .rw[Y0.mp hq];omega
 have gi:(λq=>if q=i then v else f q) i=v:=Yc rfl
 have gq:∀q,q<i->(λq=>if q=i then v else f q) q=f q:=λq hq=>Yb ⋯
 generalize (λq=>if q=i then v else f q)=g at gi gq
 have hag:∀q,q<i->f q=g q:=λq hq=>(gq q hq).symm
 have lA:∀q∈A,q<i:=λq hq=>hlt q (YI _ hq)
 have lB:∀q∈B,q<i:=λq hq=>hlt q (Yt _ hq)
 have sA:∀q∈A,g q<=g i:=λq hq=>by rw[gi,gq q (lA q hq)];have:=vA q hq;omega
 have sB:∀q∈B,g i<g q:=λq hq=>by rw[gi,gq q (lB q hq)];exact vB q hq
 have SS:=ZcK (f:=g) (i:=i) (A:=A) (B:=B) (ZdT hag hS) sA sB
 refine⟨g,SS.1,?_,λp hp=>?_,λk hk=>?_⟩
 .rw[hDD]
  refine List.pairwise_append.mpr ⟨?_,List.pairwise_singleton _ _,λq hq r hr=>?_⟩
  .refine hgA.imp_of_mem λ{q r} hq hr z=>?_
   rw[gq q (lA q hq),gq r (lA r hr)];omega
  .rw[Y0.mp hr,gi,gq q (lA q hq)];exact vA q hq
 .have hbi:∀b,B.head?=some b->b≠i:=λb hb=>by
   have:=lB b (List.mem_of_head? hb);omega
  rw[Zev _ _ _ _ _ ⋯ hbi]
  by_cases z:p=i
  .subst z
   rw[Yc rfl,he];exact SS.2.1
  .rw[Yb z]
   exact SS.2.2 p _ ⋯ (ZdU hag ⋯ (hE p ⋯))
 .by_cases z:k=i
  .subst z
   rw[hd];exact ZcO (ZdT hag hS) sA sB
  .rw[<-Zdg (f:=f) (g:=g) (k:=k) (λq hq=>hag q ⋯)]
   exact hD k ⋯
noncomputable def Zx (ds:List Nat):Nat->List Nat×List Int
 |0=>([],List.replicate ds.length (-1))
 |i+1=>(((Zx ds i).1.take ((Zx ds i).1.length-ds.getD i 0))++[i],ZbY (Zx ds i).2 ((Zx ds i).1.take ((Zx ds i).1.length-ds.getD i 0)) ((Zx ds i).1.drop ((Zx ds i).1.length-ds.getD i 0)) i)
noncomputable def ZeV (ds:List Nat):List Int:=(Zx ds ds.length).2
theorem ZdV {ds:List Nat}{i:Nat}{A B:List Nat} (h:(Zx ds i).1=A++B) (hB:B.length=ds.getD i 0):Zx ds (i+1)=(A++[i],ZbY (Zx ds i).2 A B i):=by
 have e:(Zx ds i).1.length-ds.getD i 0=A.length:=by rw[h,Yn];omega
 show(((Zx ds i).1.take ((Zx ds i).1.length-ds.getD i 0))++[i],ZbY (Zx ds i).2 ((Zx ds i).1.take ((Zx ds i).1.length-ds.getD i 0)) ((Zx ds i).1.drop ((Zx ds i).1.length-ds.getD i 0)) i)=_
 rw[e,h,List.take_left,List.drop_left]
theorem ZdJ {ds:List Nat} (h:ZaV ds):∀i,i<=ds.length->ZeU ds.length i (Zx ds i).1 (Zx ds i).2 ds/\(Zx ds i).1.length=ZaA ds i/\(Zx ds i).2.length=ds.length/\∀p,i<=p->p<ds.length->(Zx ds i).2.getD p 0=-1
 |0,_=>⟨Zh8 _ _ _,rfl,by simp[Zx],λp _ hp=>by simp[Zx,Yi,hp]⟩
 |i+1,hi=>by
  obtain⟨h1,h2,h3,h4⟩:=ZdJ h i ⋯
  have hd:=h i ⋯
  obtain⟨A,B,hAB,hBl⟩:=ZeT (Zx ds i).1 (d:=ds.getD i 0) ⋯
  rw[ZdV hAB hBl]
  rw[hAB]at h1
  have hlt:=h1.lt
  have hbi:∀b,B.head?=some b->b≠i:=λb hb=>by
   have:=hlt b (Yt _ (List.mem_of_head? hb));omega
  refine⟨h1.step ⋯ h3 (h4 i (Yd _) ⋯) hBl.symm,?_,by rw[ZeM];exact h3,λp p1 p2=>?_⟩
  .have:=congrArg List.length hAB
   rw[Yn]at this
   show(A++[i]).length=ZaA ds i-ds.getD i 0+1
   rw[Yn,List.length_singleton];omega
  .show(ZbY (Zx ds i).2 A B i).getD p 0=-1
   rw[Zev _ _ _ _ _ ⋯ hbi,Yb ⋯,Yb (λz=>?_)]
   .exact h4 p ⋯ p2
   .have:=hlt p (Yt _ (List.mem_of_head? z));omega
theorem Zjw {ds:List Nat} (h:ZaV ds):(ZeV ds).length=ds.length:=(ZdJ h _ (Yd _)).2.2.1
theorem Zh9 {ds:List Nat} (h:ZaV ds):∃ns,ZV ns (ZeV ds)/\∀k,k<ds.length->Zab (nth ns) k=ds.getD k 0:=by
 obtain⟨⟨f,_,_,hE,hD⟩,_,hl,_⟩:=ZdJ h _ (Yd _)
 have ln:((List.range ds.length).map f).length=ds.length:=by simp
 refine⟨(List.range ds.length).map f,⟨by rw[ln];exact hl,λp hp=>?_⟩,λk hk=>?_⟩
 .rw[ln]at hp⊢
  exact ZdU (f:=f) (λq hq=>(Zbe hq).symm) hp (hE p hp)
 .rw[<-hD k hk]
  exact(Zdg λq hq=>(Zbe (show q<ds.length by omega)).symm).symm
theorem Zhk {f:Nat->Int}{n k:Nat} (hk:k<n):(List.range n).countP (λp=>decide (Zay f n p=(k:Int)))=Zab f k:=by
 have key:∀p,Zay f n p=(k:Int)↔Zgw f p k:=λp=>by
  rw[Zh7 hk]
  rcases ZkS f n p with h|⟨r,h⟩
  .rw[Zgu h]
   exact⟨λz=>⋯,λz=>by have:=h k z.1 z.2.1;have:=z.2.2.1;omega⟩
  .rw[ZdI h]
   constructor
   .intro z
    have:r=k:= ⋯
    exact this▸h
   .intro z
    rcases Nat.lt_trichotomy r k with y|y|y
    .have:=z.2.2.2 r h.1 y;have:=h.2.2.1;omega
    .rw[y]
    .have:=h.2.2.2 k z.1 y;have:=z.2.2.1;omega
 unfold Zab
 have e:List.range n=List.range k++(List.range (n-k)).map (k+·):=by
  have:=List.range_add (n:=k) (m:=n-k)
  rw[show k+(n-k)=n by omega]at this
  exact this
 rw[e,List.countP_append]
 have z:((List.range (n-k)).map (k+·)).countP (λp=>decide (Zay f n p=(k:Int)))=0:=by
  rw[List.countP_eq_zero]
  intro p hp
  obtain⟨q,_,rfl⟩:=YG.mp hp
  simp only[decide_eq_true_eq,key]
  rintro⟨a,_⟩
  omega
 rw[z,Nat.add_zero]
 refine List.countP_congr λp _=>?_
 simp only[decide_eq_true_eq,key]
noncomputable def ZZ (f:Nat->Int) (n:Nat):List Nat:=(List.range n).map (Zab f)
theorem ZaG (f:Nat->Int) (n:Nat):(ZZ f n).length=n:=by simp[ZZ]
theorem ZfS {f:Nat->Int}{n k:Nat} (h:k<n):(ZZ f n).getD k 0=Zab f k:=by simp[ZZ,Yi,h]
theorem ZdW (f:Nat->Int) (n:Nat):∀k,k<=n->∃S,Zcx f k S/\S.length=ZaA (ZZ f n) k
 |0,_=>⟨[],⟨List.Pairwise.nil,λq=>by simp⟩,rfl⟩
 |k+1,h=>by
  obtain⟨S,hS,hl⟩:=ZdW f n k ⋯
  obtain⟨A,B,rfl,hA,hB⟩:=ZeQ (f:=f) (f k) S hS.mono
  refine⟨A++[k],(ZcK hS hA hB).1,?_⟩
  show _=ZaA (ZZ f n) k-(ZZ f n).getD k 0+1
  rw[ZfS ⋯,ZcO hS hA hB,<-hl,Yn,Yn,List.length_singleton]
  omega
theorem Zcn (f:Nat->Int) (n:Nat):ZaV (ZZ f n):=by
 intro k hk
 rw[ZaG]at hk
 obtain⟨S,hS,hl⟩:=ZdW f n k ⋯
 obtain⟨A,B,rfl,hA,hB⟩:=ZeQ (f:=f) (f k) S hS.mono
 rw[ZfS hk,ZcO hS hA hB,<-hl,Yn]
 omega
end Lake
namespace Lake
open PySem PySem.Spec PyProof.Rows PySem.W
section
variable {X:Cx}
noncomputable def rMulS:R2:=λx y H Q=>∃(i:Str) (n:Int),x=.str i/\y=.int n/\-1000<=n/\n<=1000/\i.length<=1000/\Q (.str (Txt.mul i n)) H
theorem ZaJ:OpR X (binaryOp .Mult) rMulS:=by
 intro pins s σ H x y v u Q I rx ry h
 obtain⟨i,n,rfl,rfl,h1,h2,h3,q⟩:=h
 obtain⟨t,rfl⟩:=rx
 obtain⟨t',rfl⟩:=ry
 refine SB.mul ⟨?_,λ_ _=>?_,λ_ _=>?_⟩ λt' k=>⟨.str (Txt.mul i n),H,I.tok _,⟨_,rfl⟩,q⟩
 .simp;omega
 .intro z
  have hn:1<=n:= ⋯
  have h4:(1000:Int)<=(2 ^ 63-1) / n:=Int.le_ediv_of_mul_le ⋯ ⋯
  omega
 .unfold Builtin.Str.tooLong
  have h4:i.length*n.toNat<=1000*1000:=Nat.mul_le_mul h3 ⋯
  simp only[decide_eq_false_iff_not,Nat.not_lt]
  exact Yf h4 nofun
noncomputable def rJoin (K:Frag):V->List V->Hp->VK->Prop:=λx xs H Q=>∃(sep:Str) (a:Addr) (ss:List Str),x=.str sep/\xs=[.ref a]/\SqL K H a (ss.map V.str)/\JoinOk sep ss=true/\Q (.str (Txt.join sep ss)) H
theorem ZfT:∀{ss:List Str}{us:List Value},Vals (ss.map V.str) us->∃l:List (Str×Tok),us=strValues l/\l.map (·.1)=ss
 |[],_,.nil=>⟨[],rfl,rfl⟩
 |x::ss,_,.cons ⟨t,e⟩ r=>by
  obtain⟨l,h1,h2⟩:=ZfT r
  subst e
  exact⟨(x,t)::l,by rw[h1];rfl,by simp[h2]⟩
theorem Zew {K:Frag} (hK:X.K=K):MtR X "str.join" (rJoin K):=by
 subst hK
 intro pins s σ H x vs v us Q I rx rv h
 obtain⟨sep,a,ss,rfl,rfl,hH,hl,q⟩:=h
 obtain⟨t,rfl⟩:=rx
 obtain⟨u,rfl,ru⟩:=rv.one
 cases(show u=Value.ref a from ru)
 obtain⟨its,r,p,hz⟩:=I.list hH
 obtain⟨l,rfl,rfl⟩:=ZfT r
 exact SC.join p.isList rfl hl λt' k=>⟨.str _,H,I.tok _,⟨_,rfl⟩,q⟩
noncomputable def Its (x:Str):It:=⟨λi _=>i<x.cps.size,λi H v H'=>H'=H/\∃c,x.cps[i]?=some c/\v=.str ⟨#[c]⟩,λi _=>x.cps.size<=i⟩
theorem Zki {P:Program}{w:World}{K:PySem.W.Frag}{tg:Expr} (it:Addr) (x:Str) (t:Tok):Turn P w K tg (Its x) [it] it (λi h=>h.IsStrIter it "str_ascii_iterator" x t i/\i<=x.cps.size) where
 mem:=by simp
 obj:=λi h st b hb=>by
  have e:b=it:=by simpa using hb
  subst e
  obtain⟨⟨o,e,c,d⟩,_⟩:=st
  exact⟨o,e,λv z=>by rw[d]at z;cases z⟩
 keep:=λi h h' st k=>by
  obtain⟨⟨o,e,r⟩,q⟩:=st
  exact⟨⟨o,k it (by simp) o e,r⟩,q⟩
 item:=by
  intro X hP hw hK hc i pins s σ H E I hf st hg
  subst hP hw hK
  obtain⟨f0,f1,f2,f3,f4,f5⟩:=hf it (by simp)
  have hg:i<x.cps.size:=hg
  have W:=Walks.strAscii (prog:=X.prog) (w:=X.w) (I.ok.hd hc) it x t
  refine W.item i s _ _ hg st.1 λv h' tk hv st' kk=>?_
  obtain⟨c,u,hc',rfl⟩:=hv
  have I1:Inv X pins σ H {s with heap:=h',toks:=tk}:=I.turned (λb o hb e=>kk b o (by simpa using hb) e) f0 f1 f3 f4 f5
  obtain⟨o,e,cl,d⟩:=id st'
  exact⟨_,rfl,ZiK (s:={s with heap:=h',toks:=tk}) (n:="str_ascii_iterator") e cl d nofun ⟨.str ⟨#[c]⟩,H,I1,⟨u,rfl⟩,⟨rfl,c,hc',rfl⟩,⟨st',hg⟩,λb hb=>(hf b hb).1⟩⟩
 done:=by
  intro X hP hw hK hc i pins s σ H E I hf st hg
  subst hP hw hK
  obtain⟨f0,f1,f2,f3,f4,f5⟩:=hf it (by simp)
  have hg:x.cps.size<=i:=hg
  have hi:i=x.cps.size:=by have:=st.2;omega
  subst hi
  exact wpAny_pyNext_ascii_end (I.ok.hd hc) st.1 (by simp) λh' eb=>⟨rfl,I.turned (t':=s.toks) (λb o hb e=>eb b o hb e) f0 f1 f3 f4 f5⟩
 self:=λ_ _ _ _ _ st h=>wpAny_pyIter_striter_ascii st.1 h
noncomputable def iStr (tl:TE):TI:=fun σ H R=>tl σ H λx H1=>∃y:Str,x=.str y/\y.cps.all (·<128)=true/\R (Its y) H1
theorem Zia {tg l:Expr}{tl:TE} (hl:PE X l tl):PI X tg l (iStr tl):=by
 intro pins s σ H R I h
 refine thn (hl pins s σ H _ I h) λv s1 ⟨x,H1,I1,r1,q1⟩=>?_
 obtain⟨y,e,ha,q⟩:=q1
 subst e
 obtain⟨t,rfl⟩:=r1
 refine wpAny_pyIter_ascii ha ?_
 refine⟨s1.heap.objs.size,[s1.heap.objs.size],_,_,H1,rfl,I1.kept (t':=s1.toks) λb o e=>Yk _ e,Zki _ y t,⟨⟨_,Yv _ rfl,rfl,rfl⟩,Yq _⟩,λb hb=>?_,q⟩
 have e:b=s1.heap.objs.size:=by simpa using hb
 subst e
 exact I1.ZhQ (Yd _) (I1.hok.fresh (Yd _))
end
noncomputable def txt (l:List Nat):Str:=⟨l.toArray⟩
theorem Zu (l:List Nat):(txt l).length=l.length:=by simp[txt,Str.length]
theorem Zbr:Str.ofString "("=txt [40]:=by decide +kernel
theorem ZS:Str.ofString ")"=txt [41]:=by decide +kernel
theorem ZaW (a b:List Nat):txt a++txt b=txt (a++b):=by
 show Str.append _ _=_
 simp[txt,Str.append]
theorem ZbD {a b:List Nat} (h:txt a=txt b):a=b:=by
 unfold txt at h
 injection h with h
 simpa using congrArg Array.toList h
theorem ZfU:∀(n:Nat) (a x:Array Nat),((List.replicate n x).foldl (·++·) a).toList=a.toList++(List.replicate n x.toList).flatten
 |0,a,x=>by simp
 |n+1,a,x=>by
  rw[List.replicate_succ,List.foldl_cons,ZfU n]
  simp[List.replicate_succ]
theorem Z7 (c:Nat) (n:Int):Txt.mul (txt [c]) n=txt (List.replicate n.toNat c):=by
 unfold Txt.mul
 by_cases h:n<1
 .rw[Yc h,show n.toNat=0 by omega];rfl
 .rw[Yb h]
  by_cases h1:n=1
  .subst h1;rfl
  .rw[Yb (by simp[txt,Str.length,h1])]
   unfold txt
   congr 1
   apply Array.toList_inj.mp
   rw[ZfU]
   simp
theorem Zhl:∀ls:List (List Nat),Str.join (Str.ofString "") (ls.map txt)=txt ls.flatten
 |[]=>rfl
 |[l]=>by simp[Str.join]
 |l::m::ls=>by
  show txt l++Str.ofString ""++Str.join (Str.ofString "") ((m::ls).map txt)=_
  rw[Zhl (m::ls),show Str.ofString ""=txt [] by decide +kernel,ZaW,ZaW]
  simp
theorem Zco (ls:List (List Nat)):Txt.join (Str.ofString "") (ls.map txt)=txt ls.flatten:=by
 show Builtin.Str.glued _ _=_
 rw[StrLaws.glued_eq_join,Zhl]
theorem ZeW {ls:List (List Nat)} (h:ls.flatten.length<=100000):JoinOk (Str.ofString "") (ls.map txt)=true:=by
 unfold JoinOk Builtin.Str.tooLong
 rw[StrLaws.joinTotal]
 have e:((ls.map txt).map (·.length)).sum=ls.flatten.length:=by
  simp[List.length_flatten,Yy,Function.comp_def,Zu]
 rw[e,show(Str.ofString "").length=0 by decide +kernel]
 simp only[Nat.mul_zero,Nat.add_zero,Bool.not_eq_true',decide_eq_false_iff_not,Nat.not_lt,gt_iff_lt]
 exact Yf h nofun
noncomputable def ZaH (ds:List Nat):List Nat:=(ds.map λd=>List.replicate d 41++[40]).flatten
noncomputable def Zea (ds:List Nat):List Nat:=ZaH ds++List.replicate (ds.length-ds.sum) 41
theorem Za2:∀ds:List Nat,(ZaH ds).length=ds.sum+ds.length
 |[]=>rfl
 |d::ds=>by
  have:=Za2 ds
  unfold ZaH at this⊢
  simp only[YO,List.flatten_cons,Yn,List.length_replicate,List.length_singleton,List.sum_cons,YC,List.length_nil,this]
  omega
theorem ZkT {ds:List Nat}{c:Nat} (h:c∈Zea ds):c=40\/c=41:=by
 unfold Zea ZaH at h
 rcases Yp.mp h with h|h
 .obtain⟨l,h1,h2⟩:=List.mem_flatten.mp h
  obtain⟨d,_,rfl⟩:=YG.mp h1
  rcases Yp.mp h2 with h2|h2
  .exact .inr (List.eq_of_mem_replicate h2)
  .exact .inl (by simpa using h2)
 .exact .inr (List.eq_of_mem_replicate h)
noncomputable def ZF (p:List Nat×Nat) (c:Nat):List Nat×Nat:=if c=40 then (p.1++[p.2],0)else (p.1,p.2+1)
theorem Zib {α β:Type} (g:β->α->β) (b:β) {l:List α}{i:Nat}{c:α} (h:l[i]?=some c):(l.take (i+1)).foldl g b=g ((l.take i).foldl g b) c:=by
 rw[YQ,h,List.foldl_append];rfl
theorem ZfV {ds:List Nat} (h:ZaV ds):∀k,k<=ds.length->ZaA ds k+(ds.take k).sum=k
 |0,_=>by simp[ZaA]
 |k+1,hk=>by
  have ih:=ZfV h k ⋯
  have hd:=h k ⋯
  rw[YQ,List.sum_append]
  have e:ds[k]?=some (ds.getD k 0):=by simp[Yi,show k<ds.length by omega]
  rw[e]
  show ZaA ds k-ds.getD k 0+1+_=_
  simp only[Option.toList_some,List.sum_singleton]
  omega
theorem ZaX {ds:List Nat} (h:ZaV ds):ds.sum<=ds.length:=by
 have:=ZfV h ds.length (Yd _)
 rw[List.take_length]at this;omega
open Classical in
theorem Zic (f:Nat->Int) (i:Nat):(((List.range i).filter λo=>((List.range (i-o)).map λk=>decide (f o<=f (o+k))).all id).filter λo=>decide (f i<f o)).length=Zab f i:=by
 rw[List.filter_filter]
 unfold Zab
 rw[List.countP_eq_length_filter]
 congr 1
 refine List.filter_congr λo ho=>?_
 have:=YB.mp ho
 have hall:(((List.range (i-o)).map λk=>decide (f o<=f (o+k))).all id)=true↔∀k,o<=k->k<i->f o<=f k:=by
  rw[List.all_eq_true]
  constructor
  .intro h k h1 h2
   have:=h (decide (f o<=f (o+(k-o)))) (YG.mpr ⟨k-o,YB.mpr ⋯,rfl⟩)
   rw[show o+(k-o)=k by omega]at this
   simpa using this
  .intro h b hb
   obtain⟨k,hk,rfl⟩:=YG.mp hb
   have:=YB.mp hk
   simpa using h (o+k) ⋯ ⋯
 rw[Bool.eq_iff_iff,Bool.and_eq_true,hall,decide_eq_true_iff,decide_eq_true_iff]
 constructor
 .rintro⟨a,b⟩
  exact⟨⋯,a,λs h1 h2=>b s ⋯ h2⟩
 .rintro⟨_,a,b⟩
  refine⟨a,λk h1 h2=>?_⟩
  by_cases z:o=k
  .subst z;exact Int.le_refl _
  .exact b k ⋯ h2
theorem Zid {prog:Program}{w:World}{A:Around}{E Q:Value->Shared->Prop}{s:Shared}{l:Addr}{xs:Array (Int×Tok)} (hA:A.handled=none) (hl:s.heap.IsTuple l (intItems xs))
  (h:∀h' tk t',(∀b o,s.heap.get? b=some o->h'.get? b=some o)->Q (.int (preSum (numAt xs) xs.size) t') {s with heap:=h',toks:=tk}) :
  wpAny (model prog w) A (call (.builtin "sum") [.ref l]) Q E s:=by
 have hlt:l<s.heap.objs.size:=by obtain⟨o,e,_⟩:=hl;exact Yh e
 refine call_sum_walkG (wpAny_pyIter_tuple hl ?_)
 refine⟨_,_,_,_,_,_,numAt xs,rfl,Walks.tuple (A:=A.in1) hA s.heap.objs.size l (Yo hlt) (intItems xs),⟨⟨_,Yv _ rfl,rfl,rfl⟩,hl.push _⟩,λb hb=>?_,λ_ _=>intItems_at,λh' tk t' hk=>?_⟩
 .have e:(s.heap.push {cls:=.type "tuple_iterator",data:=.fields #[.ref l,.int 0 0]}).objs.size=s.heap.objs.size+1:=Heap.size_push ..
  show b<(s.heap.push _).objs.size
  rw[e]
  simp only[Ym,List.not_mem_nil,or_false]at hb
  rcases hb with rfl|rfl
  .exact Nat.lt_succ_self _
  .exact YL hlt
 .have:=h h' tk t' λb o e=>hk b o (λhm=>by
   have eb:b=s.heap.objs.size:=by simpa using hm
   exact absurd (Yh e) (by rw[eb];exact YA _)) (Yk _ e)
  simpa[intItems]using this
noncomputable def rSumT (K:Frag):List V->Hp->VK->Prop:=λxs H Q=>∃(p:Addr) (ns:List Int),xs=[.ref p]/\SqT K H p (ns.map V.int)/\Q (.int ns.sum) H
theorem ZfW {X:Cx}{K:Frag} (hK:X.K=K) (hc:X.calm=true):Zaq X (.builtin "sum") (rSumT K):=by
 subst hK
 intro pins s σ H xs us Q I r h
 obtain⟨p,ns,rfl,hp,q⟩:=h
 obtain⟨u,rfl,ru⟩:=r.one
 cases(show u=Value.ref p from ru)
 obtain⟨its,rv,pl,hz⟩:=I.tuple hp
 obtain⟨ys,e1,e2⟩:=Zda rv
 refine Zid (xs:=ys) (I.ok.hd hc) (e1▸pl) λh' tk t' k=>⟨.int ns.sum,H,I.kept k,⟨t',?_⟩,q⟩
 congr 1
 rw[preSum_eq,<-e2,List.take_of_length_le (by simp)]
theorem ZdK (ds:List Nat):Zs ds=(ds.map λ(d:Nat)=>(d:Int)).map V.int:=by simp[Zs,Function.comp_def]
theorem Z4:∀ds:List Nat,(ds.map λ(d:Nat)=>(d:Int)).sum=((ds.sum:Nat):Int)
 |[]=>rfl
 |d::ds=>by rw[YO,List.sum_cons,List.sum_cons,Z4 ds];omega
theorem Zkj:bootBuiltins "str"=some (.type "str"):=by decide +kernel
noncomputable def tokS (mg:Str->Option Value) (x:Str):Tok:=match mg x with
 |some (.str _ t)=>t
 |_=>0
theorem Za3:Str.ofString "-"=txt [45]:=by decide +kernel
noncomputable def Zex (ds:List Nat):Str:=if ds=[]then txt [45]else txt (Zea ds)
section
variable {X:Cx}
noncomputable def rLenS:List V->Hp->VK->Prop:=λxs H Q=>∃a:Str,xs=[.str a]/\a.length<=sizeLine/\Q (.int (a.length:Nat)) H
theorem ZaY:Zaq X (.builtin "len") rLenS:=by
 intro pins s σ H xs us Q I r h
 obtain⟨a,rfl,hz,q⟩:=h
 obtain⟨u,rfl,t,rfl⟩:=r.one
 have hn:=Zb6
 exact P.len_str ⋯ ⟨.int _,H,I.tok _,⟨_,rfl⟩,q⟩
end
end Lake
namespace Lake
noncomputable def Ok:Nat->List Nat->Prop
 |_,[]=>True
 |st,d::ds=>d<=st/\Ok (st-d+1) ds
end Lake
namespace Lake
open PySem PySem.Spec PyProof.Rows PySem.W
section
variable {X:Cx}
noncomputable def rRemP:V->List V->Hp->VK->Prop:=λx xs H Q=>∃a b:Str,x=.str a/\xs=[.str b]/\a.length<=sizeLine/\Q (.str (Txt.removeprefix a b)) H
theorem ZkU:MtR X "str.removeprefix" rRemP:=by
 intro pins s σ H x vs v us Q I rx rv h
 obtain⟨a,b,rfl,rfl,hz,q⟩:=h
 obtain⟨t,rfl⟩:=rx
 obtain⟨u,rfl,t',rfl⟩:=rv.one
 exact SC.removeprefix (λt' k=>⟨.str _,H,I.tok _,⟨_,rfl⟩,q⟩) hz
noncomputable def rIsAsc:V->List V->Hp->VK->Prop:=λx xs H Q=>∃a:Str,x=.str a/\xs=[]/\Q (.bl (Txt.isascii a)) H
theorem Zkk:MtR X "str.isascii" rIsAsc:=by
 intro pins s σ H x vs v us Q I rx rv h
 obtain⟨a,rfl,rfl,q⟩:=h
 obtain⟨t,rfl⟩:=rx
 have hus:=rv.zero
 subst hus
 exact SC.isascii ⟨.bl _,H,I,rfl,q⟩
noncomputable def rIsDig:V->List V->Hp->VK->Prop:=λx xs H Q=>∃a:Str,x=.str a/\xs=[]/\Q (.bl (Txt.isdigit a)) H
theorem Zkl:MtR X "str.isdigit" rIsDig:=by
 intro pins s σ H x vs v us Q I rx rv h
 obtain⟨a,rfl,rfl,q⟩:=h
 obtain⟨t,rfl⟩:=rx
 have hus:=rv.zero
 subst hus
 exact SC.isdigit ⟨.bl _,H,I,rfl,q⟩
noncomputable def rStarts:V->List V->Hp->VK->Prop:=λx xs H Q=>∃a b:Str,x=.str a/\xs=[.str b]/\Q (.bl (Txt.startswith a b)) H
theorem Zjx:MtR X "str.startswith" rStarts:=by
 intro pins s σ H x vs v us Q I rx rv h
 obtain⟨a,b,rfl,rfl,q⟩:=h
 obtain⟨t,rfl⟩:=rx
 obtain⟨u,rfl,t',rfl⟩:=rv.one
 exact SC.startswith ⟨.bl _,H,I,rfl,q⟩
noncomputable def rStrI:List V->Hp->VK->Prop:=λxs H Q=>∃i:Int,xs=[.int i]/\i.natAbs.log2<1920/\Q (.str (Str.ofString (toString i))) H
theorem ZfX:Zaq X (.type "str") rStrI:=Zf9
noncomputable def rIntS:List V->Hp->VK->Prop:=λxs H Q=>∃(a:Str) (n:Int),xs=[.str a]/\PySem.intText? a=some n/\a.length<=640/\Q (.int n) H
theorem ZfY:Zaq X (.type "int") rIntS:=by
 intro pins s σ H xs us Q I r h
 obtain⟨a,n,rfl,h1,h2,q⟩:=h
 obtain⟨u,rfl,t,rfl⟩:=r.one
 exact KIN.call_text h1 h2 ⟨.int _,H,I.tok _,⟨_,rfl⟩,q⟩
noncomputable def rSplit:V->List V->Hp->VK->Prop:=λx xs H Q=>∃a b:Str,x=.str a/\xs=[.str b]/\(b.length==0)=false/\a.length<=100000/\∀p,H p=none->Q (.ref p) (upd H p (.lst ((Txt.split a b).map V.str)))
theorem Zdh:∀l:List (Str×Tok),Vals ((l.map (·.1)).map V.str) (strValues l)
 |[]=>.nil
 |(x,t)::l=>.cons ⟨t,rfl⟩ (Zdh l)
theorem Zie {M:Program}{w:World}{A:Around}{E:Value->Shared->Prop}{s:Shared}{x y:Str}{t u:Tok}{Q:Value->Shared->Prop} (hy:(y.length==0)=false) (hz:x.length<=100000)
  (hq:∀(l:List (Str×Tok)) (k:Nat),l.map (·.1)=Txt.split x y->Q (.ref s.heap.objs.size) {s with heap:=s.heap.push {cls:=.type "list",data:=.seq (strValues l).toArray},toks:=k}) :
  wpAny (model M w) A (call (.builtin "str.split") [.str x t,.str y u]) Q E s:=by
 have hx:x.length<=sizeLine:=Yf hz nofun
 cases h1:(decide (x.length<y.length)||decide (Builtin.Str.strKind x<Builtin.Str.strKind y))
 .cases hf:(Builtin.Str.occurrences x y 0 x.length (x.length+1)).isEmpty
  .have es:Txt.split x y=Builtin.Str.partsBetween x (Builtin.Str.occurrences x y 0 x.length (x.length+1)) y.length:=by
    unfold Txt.split;rw[h1,hf];rfl
   have hn:=split_le x y
   rw[es]at hn
   refine call_meets F.slot_str_split (typeIs_str _ _ _) F.entry_str_split (F.args_str_split_2 _ _) (meets_str_split_sep x y t u h1 hy hf hx (Yf hn (Yf (show _<=100002 by omega) nofun))) ?_
   rw[strsFrom_eq]
   exact hq (numbered s.toks _) _ ((numbered_texts _ _).trans es.symm)
  .have es:Txt.split x y=[x]:=by unfold Txt.split;rw[h1,hf];rfl
   exact call_meets F.slot_str_split (typeIs_str _ _ _) F.entry_str_split (F.args_str_split_2 _ _) (meets_str_split_not_found x y t u h1 hy hf) (hq [(x,t)] s.toks es.symm)
 .have es:Txt.split x y=[x]:=by unfold Txt.split;rw[h1];rfl
  exact call_meets F.slot_str_split (typeIs_str _ _ _) F.entry_str_split (F.args_str_split_2 _ _) (meets_str_split_cannot_occur x y t u h1) (hq [(x,t)] s.toks es.symm)
theorem Zhm:MtR X "str.split" rSplit:=by
 intro pins s σ H x vs v us Q I rx rv h
 obtain⟨a,b,rfl,rfl,hb,hz,q⟩:=h
 obtain⟨t,rfl⟩:=rx
 obtain⟨u,rfl,t',rfl⟩:=rv.one
 refine Zie hb hz λl k hl=>⟨.ref _,_,I.laid (t':=k) (o:=.lst ((Txt.split a b).map V.str)) (λb u e=>Yk _ e) (Yd _) ?_,rfl,q _ (I.hok.fresh (Yd _))⟩
 have hn:=split_le a b
 refine⟨by rw[Yj];exact Yf (show _<=100002 by omega) nofun,strValues l,0,?_,?_⟩
 .rw[<-hl];exact Zdh l
 .exact Yv _ rfl
end
noncomputable abbrev cds (x:Str):List Nat:=x.cps.toList
theorem Zcp {x y:Str} (h:cds x=cds y):x=y:=by
 cases x;cases y
 congr 1
 exact Array.toList_inj.mp h
noncomputable def jl (c:Nat):List (List Nat)->List Nat
 |[]=>[]
 |[x]=>x
 |x::y::r=>x++c::jl c (y::r)
theorem Zdi (c:Nat):∀ss:List Str,cds (Str.join ⟨#[c]⟩ ss)=jl c (ss.map cds)
 |[]=>rfl
 |[x]=>rfl
 |x::y::r=>by
  have:=Zdi c (y::r)
  show cds (x++⟨#[c]⟩++Str.join ⟨#[c]⟩ (y::r))=cds x++c::jl c ((y::r).map cds)
  rw[<-this]
  unfold cds
  rw[Str.cps_append,Str.cps_append]
  simp
theorem joinOk_of {sep:Str}{ss:List Str} (hs:sep.length<=1) (h1:ss.length<=1000) (h2:∀y∈ss,y.length<=1000):JoinOk sep ss=true:=by
 unfold JoinOk Builtin.Str.tooLong
 rw[StrLaws.joinTotal]
 have:=StrLaws.sumLen_le ss h2
 have h3:ss.length*sep.length<=1000:=Yf (Nat.mul_le_mul h1 hs) nofun
 have h4:ss.length*1000<=1000*1000:=Nat.mul_le_mul_right _ h1
 have h5:(1001000:Nat)<=sizeLine:=by decide
 simp only[Bool.not_eq_true',decide_eq_false_iff_not]
 omega
noncomputable def dg (m:Nat):List Nat:=(Nat.toDigits 10 m).map Char.toNat
theorem Zca {m:Nat} (h:m<10):dg m=[m+48]:=by
 unfold dg
 rw[Nat.toDigits_of_lt_base h]
 have:∀m<10,[m.digitChar].map Char.toNat=[m+48]:=by decide
 exact this m h
theorem Zey {m:Nat} (h:10<=m):dg m=dg (m / 10)++[m % 10+48]:=by
 have hm:m % 10<10:=Nat.mod_lt m nofun
 have t:Nat.toDigits 10 (m / 10)++Nat.toDigits 10 (m % 10)=Nat.toDigits 10 (10*(m / 10)+m % 10):=Nat.toDigits_append_toDigits nofun ⋯ hm
 rw[Nat.div_add_mod]at t
 have:=Zca hm
 unfold dg at this⊢
 rw[<-t,YU,this]
theorem Zif:∀(k m:Nat),m<10 ^ (k+1)->(dg m).length<=k+1
 |k,m,h=>by
  by_cases hm:m<10
  .rw[Zca hm];simp
  .cases k with
   |zero=>exact absurd h ⋯
   |succ k =>
    rw[Zey ⋯,Yn]
    have:m / 10<10 ^ (k+1):=by rw[Nat.pow_succ]at h;omega
    have:=Zif k (m / 10) this
    simp only[YC,List.length_nil]
    omega
theorem ZeX (m:Nat):∀c∈dg m,48<=c/\c<=57:=by
 induction m using Nat.strongRecOn with
 |_ m ih =>
  by_cases h:m<10
  .rw[Zca h];intro c hc;simp at hc;omega
  .rw[Zey ⋯]
   intro c hc
   rcases Yp.mp hc with z|z
   .exact ih (m / 10) ⋯ c z
   .simp at z;omega
theorem ZkV (m:Nat):m≠0->∃c r,dg m=c::r/\c≠48:=by
 induction m using Nat.strongRecOn with
 |_ m ih =>
  intro h0
  by_cases h:m<10
  .exact⟨m+48,[],Zca h,⋯⟩
  .obtain⟨c,r,e,hc⟩:=ih (m / 10) ⋯ ⋯
   exact⟨c,r++[m % 10+48],by rw[Zey ⋯,e];rfl,hc⟩
theorem dg_ne (m:Nat):dg m≠[]:=by
 by_cases h:m=0
 .subst h;decide
 .obtain⟨c,r,e,_⟩:=ZkV m h
  rw[e];simp
theorem Zkm (m:Nat):NumText.digitsVal (dg m)=m:=KIN.val_back m
noncomputable def numS (i:Int):Str:=Str.ofString (toString i)
theorem ZeY (m:Nat):cds (numS (m:Nat))=dg m:=KIN.signs_num m
theorem ZeZ (m:Nat):cds (numS (Int.negSucc m))=45::dg (m+1):=by
 unfold numS
 show(Str.ofString (toString (Int.negSucc m))).cps.toList=_
 rw[signs_ofString]
 show(("-"++Nat.repr (m+1)).toList).map Char.toNat=_
 rw[String.toList_append,YU]
 show _=45::(Nat.toDigits 10 (m+1)).map Char.toNat
 rw[Nat.toList_repr]
 rfl
theorem Zez (x:Str):x.length=(cds x).length:=YT.symm
structure NumFacts (i:Int):Prop where
 len:(numS i).length<=61
 fig:∃m,cds (Txt.removeprefix (numS i) (Str.ofString "-"))=dg m/\(m=0->i=0)/\m<10 ^ 60
 val:PySem.intText? (numS i)=some i
theorem ZaZ:(Str.ofString "-")=(⟨#[45]⟩:Str):=by decide +kernel
theorem Ze0:(Str.ofString "0")=(⟨#[48]⟩:Str):=by decide +kernel
theorem Zdj {i:Int} (h:i.natAbs<10 ^ 60):NumFacts i:=by
 cases i with
 |ofNat m =>
  have hm:m<10 ^ 60:=h
  have e:cds (numS (Int.ofNat m))=dg m:=ZeY m
  have l:=Zif 59 m hm
  have hl:(numS (Int.ofNat m)).length<=60:=by rw[Zez,e];exact l
  refine⟨⋯,⟨m,?_,λz=>by rw[z];rfl,hm⟩,?_⟩
  .have hs:(decide (0+(Str.ofString "-").length<=(numS (Int.ofNat m)).length)&&Builtin.Str.subAt (numS (Int.ofNat m)) (Str.ofString "-") 0)≠true:=by
    rw[ZaZ]
    intro z
    rw[Bool.and_eq_true,decide_eq_true_iff]at z
    have:=(StrLaws.subAt_one (numS (Int.ofNat m)) 45 0).mp z
    have:(cds (numS (Int.ofNat m)))[0]?=some 45:=this
    rw[e]at this
    have:=ZeX m 45 (List.mem_of_getElem? this)
    omega
   rw[StrLaws.removeprefix_eq,Yb hs,e]
  .have:=intText_digits (x:=numS (Int.ofNat m)) (by rw[show(numS (Int.ofNat m)).cps.toList=dg m from e];exact ZeX m) (by rw[show(numS (Int.ofNat m)).cps.toList=dg m from e];exact dg_ne m) ⋯
   rw[this,show(numS (Int.ofNat m)).cps.toList=dg m from e,Zkm]
   rfl
 |negSucc m =>
  have hm:m+1<10 ^ 60:=h
  have e:cds (numS (Int.negSucc m))=45::dg (m+1):=ZeZ m
  have l:=Zif 59 (m+1) hm
  have hl:(numS (Int.negSucc m)).length=(dg (m+1)).length+1:=by rw[Zez,e];rfl
  refine⟨⋯,⟨m+1,?_,λz=>absurd z ⋯,hm⟩,?_⟩
  .have hs:(decide (0+(Str.ofString "-").length<=(numS (Int.negSucc m)).length)&&Builtin.Str.subAt (numS (Int.negSucc m)) (Str.ofString "-") 0)=true:=by
    rw[ZaZ,Bool.and_eq_true,decide_eq_true_iff]
    refine(StrLaws.subAt_one (numS (Int.negSucc m)) 45 0).mpr ?_
    show(cds (numS (Int.negSucc m)))[0]?=some 45
    rw[e];rfl
   rw[StrLaws.removeprefix_eq,Yc hs]
   have e1:(Str.ofString "-").length=1:=by decide +kernel
   rw[e1,show(numS (Int.negSucc m)).cps.toList=45::dg (m+1)from e,hl]
   show(((45::dg (m+1)).drop 1).take ((dg (m+1)).length+1-1)).toArray.toList=_
   rw[List.drop_succ_cons,List.drop_zero,Nat.add_sub_cancel,List.take_length]
  .have:=intText_neg (x:=numS (Int.negSucc m)) e (ZeX (m+1)) (dg_ne (m+1)) ⋯
   rw[this,Zkm]
   rfl
end Lake
namespace Lake
open PySem PySem.Spec PyProof.Rows
end Lake
namespace Lake
open PySem PySem.Spec PyProof.Rows PySem.W PySem.Calls
end Lake
namespace Lake
open PySem PySem.Spec PyProof.Rows PySem.W
end Lake
namespace Lake
open PySem PySem.Spec PyProof.Rows PySem.W PySem.Calls
end Lake
namespace Lake
open PySem PySem.Spec PyProof.Rows PySem.W
section
variable {ky:Keyed->Int}
noncomputable def Srt (ky:Keyed->Int) (l:List Keyed):Prop:=l.Pairwise (λx y=>ky x<=ky y)
variable {a b out:List Keyed}{ia ib:Nat}
noncomputable def Gd (ky:Keyed->Int) (a b res:List Keyed):Prop:=res.Perm (a++b)/\Srt ky res
variable {prog:Program}{w:World}{A:Around}{E:Value->Shared->Prop}{s:Shared}{κ:SortKind}{P:Keyed->Prop}
end
section
variable {ky:Keyed->Int}
noncomputable def kp (ky:Keyed->Int) (a:Array Keyed) (i:Nat):Int:=ky (a.getD i (Value.none,Value.none))
theorem kp_at {a:Array Keyed}{i:Nat} (h:i<a.size):kp ky a i=ky a[i]:=by unfold kp;simp[Array.getD,h]
noncomputable def SoR (ky:Keyed->Int) (a:Array Keyed) (l r:Nat):Prop:=∀i j,l<=i->i<=j->j<r->kp ky a i<=kp ky a j
structure Chg (a a':Array Keyed) (l r:Nat):Prop where
 perm:a'.Perm a
 same:∀i,i<l\/r<=i->a'[i]?=a[i]?
variable {prog:Program}{w:World}{A:Around}{E:Value->Shared->Prop}{s:Shared}{κ:SortKind}{P:Keyed->Prop}
end
section
variable {ky:Keyed->Int}
variable {a a':Array Keyed}
theorem Zi0 (base:Nat):∀(m:List Keyed) (n:Nat) (a:Array Keyed),base+n+m.length<=a.size ->
  (List.foldl (λ(a:Array Keyed) (x:Keyed×Nat)=>a.setIfInBounds (base+x.2) x.1) a (m.zipIdx n)).toList=a.toList.take (base+n)++m++a.toList.drop (base+n+m.length)
 |[],n,a,h=>by simp
 |x::m,n,a,h=>by
  simp only[YC]at h
  rw[List.zipIdx_cons,List.foldl_cons,Zi0 base m (n+1) _ (by simp;omega)]
  simp only[Array.toList_setIfInBounds,YC]
  have e1:(a.toList.set (base+n) x).take (base+(n+1))=a.toList.take (base+n)++[x]:=by
   rw[<-Nat.add_assoc,YQ,List.take_set,List.getElem?_set]
   rw[List.set_eq_of_length_le (by simp;omega)]
   simp[show base+n<a.size by omega]
  have e2:(a.toList.set (base+n) x).drop (base+(n+1)+m.length)=a.toList.drop (base+n+(m.length+1)):=by
   rw[List.drop_set_of_lt ⋯]
   congr 1;omega
  rw[e1,e2]
  simp
variable {prog:Program}{w:World}{A:Around}{E:Value->Shared->Prop}{s:Shared}{κ:SortKind}{P:Keyed->Prop}
theorem laid {base mid r:Nat}{res:Array Keyed} (h1:base<=mid) (h2:mid<=r) (h3:r<=a.size) (hg:Gd ky (a.extract base mid).toList (a.extract mid r).toList res.toList) :
  ∃a':Array Keyed,List.foldl (λ(a:Array Keyed) (x:Keyed×Nat)=>a.setIfInBounds (base+x.2) x.1) a res.toList.zipIdx=a'/\Chg a a' base r/\SoR ky a' base r/\∀j,base<=j->j<r->∃t,base<=t/\t<r/\kp ky a' j=kp ky a t:=by
 have hlen:res.toList.length=r-base:=by
  have:=hg.1.length_eq
  simp only[Yn,YT,Array.size_extract]at this⊢;omega
 have key:=Zi0 base res.toList 0 a ⋯
 have hb:base+0+res.toList.length=r:= ⋯
 rw[hb,Nat.add_zero]at key
 refine⟨_,rfl,⟨?_,?_⟩,?_,?_⟩
 .rw[Array.perm_iff_toList_perm,key]
  have e:a.toList=a.toList.take base++((a.extract base mid).toList++(a.extract mid r).toList)++a.toList.drop r:=by
   simp only[Array.toList_extract,List.extract_eq_drop_take]
   have:(a.toList.drop base).take (mid-base)++(a.toList.drop mid).take (r-mid)=(a.toList.drop base).take (r-base):=by
    have e2:r-base=(mid-base)+(r-mid):= ⋯
    rw[e2,List.take_add,List.drop_drop]
    congr 3;omega
   rw[this]
   have e3:a.toList.drop r=(a.toList.drop base).drop (r-base):=by rw[List.drop_drop];congr 1;omega
   rw[e3,YZ,Y8,Y8]
  conv=>rhs;rw[e]
  exact List.Perm.append_right _ (List.Perm.append_left _ hg.1)
 .intro i hi
  rw[<-Ja,<-Ja,key]
  have hl0:(a.toList.take base).length=base:=by simp;omega
  rcases hi with hi|hi
  .rw[YZ,Y1 ⋯,List.getElem?_take_of_lt hi]
  .rw[YY (by simp;simp at hlen;omega),List.getElem?_drop]
   congr 1
   simp only[Yn,hl0,hlen];omega
 all_goals
  have atm:∀j,(hj0:base<=j)->(hj:j<r)->kp ky (List.foldl (λ(a:Array Keyed) (x:Keyed×Nat)=>a.setIfInBounds (base+x.2) x.1) a res.toList.zipIdx) j=ky (res.toList[j-base]'⋯):=by
   intro j j1 j2
   have hl0:(a.toList.take base).length=base:=by simp;omega
   have:(List.foldl (λ(a:Array Keyed) (x:Keyed×Nat)=>a.setIfInBounds (base+x.2) x.1) a res.toList.zipIdx)[j]?=some (res.toList[j-base]'⋯):=by
    rw[<-Ja,key,YZ,YY ⋯,Y1 ⋯,hl0,Yg ⋯]
   unfold kp
   rw[Array.getD_eq_getD_getElem?,this];rfl
 .intro i j hi hij hj
  rw[atm i hi ⋯,atm j ⋯ hj]
  by_cases e:i=j
  .subst e;exact Int.le_refl _
  .exact List.pairwise_iff_getElem.mp hg.2 _ _ _ _ ⋯
 .intro j j1 j2
  rw[atm j j1 j2]
  have hm:(res.toList[j-base]'⋯)∈(a.extract base mid).toList++(a.extract mid r).toList:=(List.Perm.mem_iff hg.1).mp (YK _)
  rcases Yp.mp hm with hm|hm
  .obtain⟨t,ht,e⟩:=List.mem_iff_getElem.mp hm
   simp only[YT,Array.size_extract]at ht
   simp only[Array.getElem_toList,Array.getElem_extract]at e
   exact⟨base+t,⋯,⋯,by rw[kp_at ⋯,e,Array.getElem_toList]⟩
  .obtain⟨t,ht,e⟩:=List.mem_iff_getElem.mp hm
   simp only[YT,Array.size_extract]at ht
   simp only[Array.getElem_toList,Array.getElem_extract]at e
   exact⟨mid+t,⋯,⋯,by rw[kp_at ⋯,e,Array.getElem_toList]⟩
end
end Lake
namespace Lake
open PySem PySem.Spec PyProof.Rows
end Lake
namespace Lake
open PySem PySem.Spec PyProof.Rows PySem.W
end Lake
namespace Lake
open PySem PySem.Spec PyProof.Rows PySem.W PySem.Calls
end Lake
namespace Lake
open PySem PySem.Spec PyProof.Rows PySem.W
theorem le1 {n:Nat}{us:List Value} (e:us.length=n+1):∃a t,us=a::t/\t.length=n:=by
 cases us with
 |nil=>cases e
 |cons a t=>exact⟨a,t,rfl,Nat.succ.inj e⟩
theorem le0 {us:List Value} (e:us.length=0):us=[]:=List.length_eq_zero_iff.mp e
end Lake
namespace Lake
open PySem PySem.Spec PyProof.Rows PySem.W PyProof
section
variable {X:Cx}
noncomputable def rSlS:V->Option Int->Option Int->Hp->VK->Prop:=λx lo hi H Q=>∃z:Str,x=.str z/\z.length<=sizeLine/\Q (.str (Txt.slice z lo hi)) H
theorem Zcb:SlR X rSlS:=by
 intro pins s σ H x v vl vu lo hi sl Q I rx hs pl pu h
 obtain⟨z,rfl,hz,q⟩:=h
 obtain⟨t,rfl⟩:=rx
 refine⟨"str",_,F.slot_str_getitem.lookup,typeIs_str _ _ _,?_⟩
 have fin:∀t' k,EP X pins σ Q (.str (Txt.slice z lo hi) t') {s with toks:=k}:=λt' k=>⟨.str _,H,I.tok k,⟨t',rfl⟩,q⟩
 cases pl with
 |none =>
  cases pu with
  |none=>exact wpAny_getItem_str_slice (l:=none) (u:=none) (st:=none) hs rfl (post_val_or_str ⟨Yf (Txt.slice_le z _ _) hz,λt' k=>fin t' k⟩)
  |int j tj=>exact wpAny_getItem_str_slice (l:=none) (u:=some (j,tj)) (st:=none) hs rfl (post_val_or_str ⟨Yf (Txt.slice_le z _ _) hz,λt' k=>fin t' k⟩)
 |int i ti =>
  cases pu with
  |none=>exact wpAny_getItem_str_slice (l:=some (i,ti)) (u:=none) (st:=none) hs rfl (post_val_or_str ⟨Yf (Txt.slice_le z _ _) hz,λt' k=>fin t' k⟩)
  |int j tj=>exact wpAny_getItem_str_slice (l:=some (i,ti)) (u:=some (j,tj)) (st:=none) hs rfl (post_val_or_str ⟨Yf (Txt.slice_le z _ _) hz,λt' k=>fin t' k⟩)
end
end Lake
namespace Lake
open PySem PySem.Spec PyProof.Rows PySem.W
end Lake
namespace HT
open PySem PyProof.Rows
section
open PySem.SeqAt
open PySem.AutoSeq1 (wpAny_loadPart')
open PySem.MeetsSeq PySem.MeetsSeq2 PySem.MeetsSeq3
end
end HT
namespace Lake
open PySem PySem.Spec PyProof.Rows PySem.W
end Lake
namespace Lake
open PySem PySem.Spec PyProof.Rows PySem.W PyProof
end Lake
namespace PySem.SeqAt
open PySem Sem
open MeetsSeq PyProof.Rows
end PySem.SeqAt
namespace Lake
open PySem PySem.Spec PyProof.Rows PySem.W
end Lake
namespace ST
open PySem PySem.SetTable
noncomputable def Rise (xs:Array Nat):Prop:=xs.toList.Pairwise (· < ·)
theorem gq {xs:Array Nat}{i:Nat} (h:i<xs.size):xs[i]?=some (xs.getD i 0):=by
 rw[Array.getD_eq_getD_getElem?,Array.getElem?_eq_getElem h];rfl
noncomputable def step (N i:Nat):Nat:=(i*5+1) % N
noncomputable def mk (N:Nat):Nat->Nat->Nat->Nat×Nat
 |0,m,i=>(m,i)
 |k+1,m,i=>mk N k (m ||| 1 <<< i) (step N i)
noncomputable def whole (N:Nat):Prop:=mk N N 0 0=(2 ^ N-1,0)
noncomputable def Mask (m:Nat):Prop:=m=7\/m=31\/m=127\/m=511\/m=2047
structure Ok (t:SetTable) (n:Nat):Prop where
 mask:Mask t.mask
 size:t.place.size=n
 no:t.dummies=#[]
 rise:Rise t.place
 within:∀x∈t.place.toList,x<=t.mask
 room:n*5<t.mask*3
end ST
namespace ST
open PySem PySem.SetTable
noncomputable def vals (o:Array (Option Nat)):List Nat:=o.toList.filterMap id
end ST
namespace ST
open PySem PySem.Spec PySem.SetTable PyProof.Rows
open PySem.W
end ST
namespace ST
open PySem PySem.Spec PySem.SetTable PyProof.Rows
open PySem.W
section
variable {prog:Program}{w:World}{A:Around}{E:Value->Shared->Prop}{s:Shared}{a:Addr}{es:Array (Int×Value)}{ep n:Nat}{t:SetTable}
theorem ZiP {α:Type} (xs:List α) (p:Nat) (x:α) (hp:p<=xs.length) (i:Nat):(xs.take p++x::xs.drop p)[i]?=if i<p then xs[i]? else if i=p then some x else xs[i-1]?:=by
 by_cases h1:i<p
 .rw[Yc h1,Y1 (by rw[YX];omega),List.getElem?_take_of_lt h1]
 .rw[Yb h1,YY (by rw[YX];omega),YX,Nat.min_eq_left hp]
  by_cases h2:i=p
  .rw[Yc h2,h2,Nat.sub_self];rfl
  .rw[Yb h2]
   obtain⟨d,hd⟩:∃d,i-p=d+1:=⟨i-p-1,⋯⟩
   rw[hd,List.getElem?_cons_succ,List.getElem?_drop]
   congr 1;omega
end
end ST
namespace Lake
open PySem PySem.Spec PyProof.Rows PySem.W
end Lake
namespace ST
open PySem PySem.Spec PySem.SetTable PyProof.Rows
open PySem.W
section
variable {prog:Program}{w:World}{A:Around}{E:Value->Shared->Prop}{s:Shared}{a:Addr}{es:Array (Int×Value)}{ep n:Nat}{t:SetTable}
theorem items_int {ks:List Int}{vs:List Value} (h:ItemsAre (intKind prog w) ks vs):∀v∈vs,∃(i:Int) (t:Tok),v=.int i t:=by
 induction h with
 |nil=>intro v hv;cases hv
 |cons h1 h2 ih =>
  intro v hv
  rcases Ym.mp hv with rfl|hv
  .obtain⟨t,e⟩:=Value.isInt_shape h1
   exact⟨_,t,e⟩
  .exact ih v hv
end
end ST
namespace Lake
open PySem PySem.Spec PyProof.Rows PySem.W
end Lake
namespace ST
open PySem PySem.Spec PySem.SetTable PyProof.Rows PySem.W
end ST
namespace Lake
open PySem PySem.Spec PyProof.Rows PySem.W
end Lake
namespace PySem
open PySem.AutoSeq1
end PySem
namespace Lake
open PySem PySem.Spec PyProof.Rows PySem.W
end Lake
namespace PySem
section
variable {base:Heap}{M:Model}{A:Around}{E:Value->Shared->Prop}{s:Shared}
theorem Zgx {env:Env}{outer:List Env}{L e:Addr}{oe:Obj}{vs:Array Value}{a0:Value}{Q:Unit->Shared->Prop}
  (hfr:A.frames=some (env::outer)) (hl:s.heap.FunFrames base (env::outer)) (hf:env.frame=some L)
  (he:s.heap.get? e=some oe) (hkb:base.StaysIn s.heap) (hen:base.get? e=none) (hd:oe.data=.fields vs) (h1:vs[1]?=some .none) (h0:vs[0]?=some a0)
  (h:∀h',Heap.HeldW base (env::outer) e oe.cls a0 L h'->s.heap.UpToSlots h'->Q () {s with heap:=h'}):wpAny M A (noteFrame (.ref e) env) Q E s:=by
 unfold noteFrame
 simp only[hf]
 refine Ya (wpAny_field he hd h1 ?_)
 rw[Yb nofun]
 exact wpAny_entryW hfr hl hf he hkb hen hd (Array.getElem?_eq_some_iff.mp h1).1 h0 λh' ⟨k1,k2,k3,k4⟩=>h h' ⟨k1,hen,k2,k3⟩ k4
theorem Zhn {base:Heap}{l:List Env}{e L:Addr}{cls a0 fl:Value}{Q:Unit->Shared->Prop} (hh:base.StaysIn s.heap/\base.get? e=none/\s.heap.FunFrames base l/\s.heap.TracedAtW base e cls a0 fl)
  (h:∀h',Heap.HeldW base l e cls a0 L h'->s.heap.UpToSlots h'->Q () {s with heap:=h'}):wpAny M A (setFlight (.ref e) (some L)) Q E s:=by
 obtain⟨hkb,hen,hl,ht⟩:=hh
 obtain⟨oe,vs,T,oT,ts,he,hcls,hd,h1,hnT,hTe,hT,hdT,h3⟩:=ht
 have hsz3:3<ts.size:=(Array.getElem?_eq_some_iff.mp h3).1
 have other:∀b,b≠T->(s.heap.update T (Obj.mapFields (·.setIfInBounds 3 ((some L:Option Addr).elim Value.none λf=>rawInt f)))).get? b=s.heap.get? b :=
  λb hb=>Heap.get?_update_other _ _ (Ne.symm hb)
 have noRecord:∀b o,s.heap.get? b=some o->(∀vs,o.data≠.fields vs)->b≠T:=λb o hb hnf q=>by
  rw[q,hT]at hb;injection hb with hb;subst hb;exact hnf ts hdT
 unfold setFlight
 refine Ya (wpAny_field he hd h1 ?_)
 rw[Yc (show(Value.ref T != Value.none)=true from by simp)]
 refine wpAny_setField hT hdT hsz3 (h _ ⟨λb o hbo=>(other b λq=>by rw[q,hnT]at hbo;cases hbo).trans (hkb b o hbo),hen,
  hl.of_keeps λb o hb hnf=>⟨o,(other b (noRecord b o hb hnf)).trans hb,rfl⟩,?_⟩ λb o hb hnf=>⟨o.slots,(other b (noRecord b o hb hnf)).trans hb⟩)
 exact⟨oe,vs,T,_,_,(other e (Ne.symm hTe)).trans he,hcls,hd,h1,hnT,hTe,Heap.get?_update_self _ hT (Obj.isFreed_of_fields (Obj.data_mapFields hdT _)),Obj.data_mapFields hdT _,by simp[hsz3]⟩
theorem Zjy {base:Heap}{env:Env}{l:List Env}{e L:Addr}{cls a0:Value}{X:Value->Shared->Prop} (hf:env.frame=some L) (hh:Heap.HeldW base l e cls a0 L s.heap)
  (h:∀h',Heap.HeldW base l e cls a0 L h'->s.heap.UpToSlots h'->X (.ref e) {s with heap:=h'}):cameBackBy M A env X (.ref e) s:=by
 unfold cameBackBy
 obtain⟨oe,vs,T,oT,ts,he,hcls,hd,h1,r⟩:=id hh.2.2.2
 refine Ya (wpAny_field he hd h1 ?_)
 rw[Yb (by simp)]
 rw[hf]
 exact Zhn hh h
end
section
variable {prog:Program}{w:World}{A:Around}{E:Value->Shared->Prop}{env:Env}
variable {nm q:Str}{C N:Addr}{bs bm bmB:List Value}{hdct:Bool}{sn:List Str}{sub:List Value}{ab:Bool}{col:Option Bool}{dd:Option Addr}{k0 k1 k2 k3 k5:Option Value}{B newId initId:String}
theorem Zfj {s:Shared}{e hd:Addr}{R:Result->Shared->Prop} (c:s.heap.Z0 hd) (h:R (.ok (.ret .none)) s):codeAny (model prog w) A (.builtin "proto.unchain" ⟨[.ref e,.ref hd,.ref hd,.bool false],[]⟩) R s:=by
 obtain⟨oe,vs,a,b,d⟩:=c
 have entry:entryFor table "proto.unchain"=some Builtin.«proto.unchain»:=entryFor_of_fast (by kernel_rfl)
 refine codeAny_builtin entry ?_
 unfold Builtin.«proto.unchain»
 dsimp only
 refine Ya (wpAny_field a b d ?_)
 rw[Yc (by rfl)]
 exact Ye h
theorem Zig {s:Shared}{x c:Sem Value}{hd:Addr}{Q:Flow->Shared->Prop} (hbase:bm.contains (.type "BaseException")=true) (hh:A.handled=some (.ref hd))
  (hc:∀(s:Shared) (Q:Value->Shared->Prop),Q .none s->wpAny (model prog w) A c Q E s)
  (h:wpAny (model prog w) A x (λv s₁=>∃e t,v=.ref e/\hd≠e/\s₁.heap.get? C=some (excClassObj nm q C N bs bm hdct sn sub ab col dd k0 k1 k2 k3 k5 newId)/\s₁.heap.Z0 hd /\
   s₁.heap.get? e=some {cls:=.ref C,data:=.fields #[.ref t,.none,.none,.none,.bool false,.none]}/\∀h',(∀b o,b≠e->s₁.heap.get? b=some o->h'.get? b=some o)->h'.get? e=some {cls:=.ref C,data:=.fields #[.ref t,.none,.ref hd,.none,.bool true,.none]}->E (.ref e) {s₁ with heap:=h'}) E s) :
  wpAny (model prog w) A (raiseStmt env (some x) (some c)) Q E s:=by
 have hcB:(Value.ref C::bm).contains (.type "BaseException")=true:=by rw[List.contains_cons,hbase,Bool.or_true]
 unfold raiseStmt
 refine Ya (Yw h (λv s₁ h₁=>?_) λ_ _ x=>x)
 obtain⟨e,t,rfl,ne,hC,nc,he,hE⟩:=h₁
 dsimp only
 refine Ya (YE (hc _ _ (Ya (Ye ?_))))
 obtain⟨hp,g,d,tk,os⟩:=s₁
 dsimp only at hC nc he hE⊢
 have exc:∀Q:Value->Shared->Prop,Q (.ref e) ⟨hp,g,d,tk,os⟩->wpAny (model prog w) A (excFromValue (.ref e) "exceptions must derive from BaseException") Q E ⟨hp,g,d,tk,os⟩:=λQ hq=>by
  unfold excFromValue
  repeat (first|with_reducible refine wpAny_loadPart_at he ?_|with_reducible refine wpAny_loadPart_at hC ?_|(with_reducible refine wpAny_isSubtype_exc hC ?_;rw[hcB])|wp_step)
  exact hq
 refine Ya (YE (exc _ ?_))
 try dsimp only
 rw[Yc (by rfl)]
 refine Ya (Ye ?_)
 have he1:=Heap.get?_update_self (Obj.mapFields (·.setIfInBounds 3 Value.none)) he rfl
 refine Ya (wpAny_setField (o:={cls:=.ref C,data:=.fields #[.ref t,.none,.none,.none,.bool false,.none]}) he rfl (show 3<6 by decide) ?_)
 have kp1:∀b o,b≠e->hp.get? b=some o->(hp.update e (Obj.mapFields (·.setIfInBounds 3 Value.none))).get? b=some o:=λb o nb z=>(Heap.get?_update_other _ _ (Ne.symm nb)).trans z
 dsimp only
 generalize hp.update e (Obj.mapFields (·.setIfInBounds 3 Value.none))=h1 at he1 kp1⊢
 have he2:=Heap.get?_update_self (Obj.mapFields (·.setIfInBounds 4 (Value.bool true))) he1 rfl
 refine Ya (wpAny_setField he1 rfl (show 4<6 by decide) ?_)
 have kp2:∀b o,b≠e->h1.get? b=some o->(h1.update e (Obj.mapFields (·.setIfInBounds 4 (Value.bool true)))).get? b=some o:=λb o nb z=>(Heap.get?_update_other _ _ (Ne.symm nb)).trans z
 dsimp only
 generalize h1.update e (Obj.mapFields (·.setIfInBounds 4 (Value.bool true)))=h2 at he2 kp2⊢
 have nC:C≠e:=λz=>by rw[z,he]at hC;cases hC
 have hC2:=kp2 _ _ nC (kp1 _ _ nC hC)
 have he2':h2.get? e=some {cls:=.ref C,data:=.fields #[.ref t,.none,.none,.none,.bool true,.none]}:=he2
 have ty:∀Q:Bool->Shared->Prop,Q false ⟨h2,g,d,tk,os⟩->wpAny (model prog w) A (isType (.ref e)) Q E ⟨h2,g,d,tk,os⟩:=λQ hq=>by
  repeat (first|with_reducible refine wpAny_loadPart_at he2' ?_|with_reducible refine wpAny_loadPart_at hC2 ?_|(with_reducible refine wpAny_isSubtype_exc hC2 ?_;rw[hcB])|wp_step)
  exact hq
 refine Ya (ty _ ?_)
 rw[Yb nofun]
 have ri:∀Q:Value->Shared->Prop,Q (.ref e) ⟨h2,g,d,tk,os⟩->wpAny (model prog w) A (raisedInstance (.ref e)) Q E ⟨h2,g,d,tk,os⟩:=λQ hq=>by
  unfold raisedInstance
  repeat (first|with_reducible refine wpAny_loadPart_at he2' ?_|with_reducible refine wpAny_loadPart_at hC2 ?_|(with_reducible refine wpAny_isSubtype_exc hC2 ?_;rw[hcB])|wp_step)
  exact hq
 refine Ya (ri _ ?_)
 have fl:∀Q:Unit->Shared->Prop,Q () ⟨h2,g,d,tk,os⟩->wpAny (model prog w) A (setFlight (.ref e) none) Q E ⟨h2,g,d,tk,os⟩:=λQ hq=>by
  unfold setFlight
  refine Ya (wpAny_field he2' rfl rfl ?_)
  show wpAny _ _ (if (Value.none != Value.none)=true then _ else _) _ _ _
  rw[Yb nofun]
  exact Ye hq
 refine Ya (fl _ ?_)
 unfold raiseNew
 refine Ya (wpAny_handled ?_)
 rw[hh]
 dsimp only
 rw[Yc (by simpa using ne)]
 have nc2:h2.Z0 hd:=by
  obtain⟨oe,vs,a,b,c⟩:=nc
  exact⟨oe,vs,kp2 _ _ ne (kp1 _ _ ne a),b,c⟩
 refine Ya (YE (wpAny_runValue (Zfj nc2 ?_)))
 refine Ya (wpAny_setField (a:=e) he2' rfl (show 2<6 by decide) ?_)
 refine wpAny_throw ?_
 refine hE _ (λb o nb z=>(Heap.get?_update_other _ _ (Ne.symm nb)).trans (kp2 _ _ nb (kp1 _ _ nb z))) (Heap.get?_update_self _ he2' rfl)
theorem ZdL {s:Shared} (F:ExcBaseFacts B newId initId bmB) {mN:Str->Option Value}{x:Str}{np cpos pos npos:Pos}{nj:Nat}{args:List Expr}{Q:Flow->Shared->Prop}{hd:Addr}
  (hbase:bm.contains (.type "BaseException")=true) (hh:A.handled=some (.ref hd)) (hplain:(backTo cpos (starEach args env)).any (·.1)=false) (hni:mN "__init__"=none)
  (h:wpAny (model prog w) A (eval (.Name x np) env) (λf s₁=>f=.ref C/\wpAny (model prog w) A (evalArgs (.ref C) true (backTo cpos (starEach args env)) [])
   (λa s₂=>a.kw=[]/\a.pos.length<=sizeLine/\s₂.heap.get? C=some (excClassObj nm q C N bs bm hdct sn sub ab col dd k0 k1 k2 k3 k5 newId)/\s₂.heap.Ns N mN/\OwnTail s₂.heap bmB bm/\s₂.heap.Z0 hd /\
    ∀h' e t,s₂.heap.get? e=none->(∀b o,s₂.heap.get? b=some o->h'.get? b=some o)->h'.get? e=some {cls:=.ref C,data:=.fields #[.ref t,.none,.ref hd,.none,.bool true,.none]}->E (.ref e) {s₂ with heap:=h'}) E s₁) E s) :
  wpAny (model prog w) A (exec (.Raise (some (.Call (.Name x np) args [] cpos)) (some (.Constant .none nj npos)) pos) env) Q E s:=by
 rw[arm_exec_Raise]
 simp only[evalOpt,Option.map]
 refine Ya (wpAny_standAt (Zig (C:=C) (nm:=nm) (q:=q) (N:=N) (bs:=bs) (bm:=bm) (hdct:=hdct) (sn:=sn) (sub:=sub) (ab:=ab) (col:=col) (dd:=dd) (k0:=k0) (k1:=k1) (k2:=k2) (k3:=k3) (k5:=k5) (newId:=newId) (hd:=hd) hbase hh (λs Q h=>Ya (PyProof.Rows.Constant_none (Ya (wpAny_standAt (Ye h))))) ?_))
 refine Ya (Yw (wpAny_Call_ofName (Yw h (λf s₁ h₁=>?_) λ_ _ x=>x)) (λv s₃ h₃=>Ya (wpAny_standAt (Ye h₃))) λ_ _ x=>x)
 obtain⟨rfl,h₁⟩:=h₁
 unfold callWith
 refine Ya (YE (Yw h₁ (λa s₂ h₂=>Ya (wpAny_standAt ?_)) λ_ _ x=>x))
 obtain⟨apos,akw⟩:=a
 obtain⟨hkw,hlen,hC,hn,T,nc,h₂⟩:=h₂
 obtain rfl:akw=[]:=hkw
 obtain⟨hp,g,d,tk,os⟩:=s₂
 simp only[hplain]
 refine Ya (wpAny_keeperOf_exc hC ?_)
 refine Ya (wpAny_call_exc_subT (hrest:=hlen) F T hC hn hni λh' e hm=>Ya (YE (wpAny_point (Ye ?_))))
 obtain⟨t,ht,_,_⟩:=hm.there
 have nc':h'.Z0 hd:=nc.keep λo q=>hm.keeps _ _ q
 have ne:hd≠e:=λz=>by
  obtain⟨oe,vs,a,_⟩:=nc
  rw[z,hm.new]at a;cases a
 exact⟨e,t,rfl,ne,hm.keeps _ _ hC,nc',ht,λh2 kp he=>h₂ h2 e t hm.new (λb o z=>kp b o (λy=>by rw[y,hm.new]at z;cases z) (hm.keeps b o z)) he⟩
end
end PySem
namespace Lake
open PySem PySem.Spec PyProof.Rows PySem.W
section
variable {P:Program}{w:World}{K:PySem.W.Frag}{mg:Str->Option Value}{base:Heap}{N:List Str}{qual:Str}{scope:Scope}{f:Addr}{cd:Value}{A:Around}{outer:List Env}{s:Shared}{H:Hp}{E:XK}
theorem Zho {pins:List (Addr×Obj)}{σ:St}{H1:Hp}{s1:Shared}{h':Heap}{e k:Addr}{C a0:Value} (I:Inv (Zbx (CXE P w) P w K mg base N qual scope f cd A outer s H E) pins σ H1 s1)
  (hh:Heap.HeldW (PySem.W.hideAll s1.heap (frs (envOfC qual scope s.heap.objs.size f cd::outer))) (envOfC qual scope s.heap.objs.size f cd::outer) e C a0 s.heap.objs.size h') (sm:s1.heap.UpToSlots h') (hE:E C (some k) H1):(Zbx (CXE P w) P w K mg base N qual scope f cd A outer s H E).xe (.ref e) {s1 with heap:=h'}:=by
 let env:=envOfC qual scope s.heap.objs.size f cd
 let B:=PySem.W.hideAll s1.heap (frs (env::outer))
 have loc:∀b,b∈frs (env::outer)->b=s.heap.objs.size\/b∈frs outer:=λb hb=>Ym.mp (I.ZcG b hb)
 have old:∀b o,s.heap.get? b=some o->b∉frs outer->b∉frs (env::outer):=λb o q nb hb=>by
  rcases loc b hb with z|z
  .exact absurd (Yh q) (by rw[z];exact YA _)
  .exact nb z
 have un:Un (frs outer) [] H H1 s.heap s1.heap:=I.base
 have hokB:HOk P w H1 B:=λa o q=>by
  have nf:∀b o,H1 b=some o->b∉frs (env::outer):=λb o z hb=>by
   have:=I.Zc3 b hb
   rw[this]at z;cases z
  refine(I.hok a o q).Zd7 (λb u hb z=>?_) (λ_ z=>z) (λ_ _ z=>z) λ_ _ _ z=>z
  rcases hb with hb|hb
  .rw[hb]at z⊢;exact PySem.W.hideAll_get _ z (nf a o q)
  .exact PySem.W.hideAll_get _ z (nf b _ hb)
 show wpAny _ _ (leaving env (.ref e)) _ _ _
 unfold leaving
 refine Ya (wpAny_noteFrame_againW (base:=B) rfl hh.2.2.2 ?_)
 refine wpAny_landsW hh λh2 fl sm2=>?_
 obtain⟨y1,y2,⟨_,_,y3⟩,y4⟩:=fl
 refine⟨e,C,a0,H1,B,some k,rfl,⟨I.os,I.bare,⟨y1,y2,y3,y4⟩,hokB,λb o q n nb=>?_,λb o q hb hd=>?_,λb o q n=>un.free b o q n (by simp),λb o q nb=>?_,un.tups,un.frzs,un.tbls⟩,hE,λz=>nomatch z⟩
 .exact PySem.W.hideAll_get _ (un.keep b o q n nb (by simp)) (old b o q nb)
 .obtain⟨sl,z⟩:=un.slot b o q (I.ok.frf b hb) hb (by simp)
  obtain⟨sl2,z2⟩:=sm b _ z hd
  obtain⟨sl3,z3⟩:=sm2 b _ z2 hd
  exact⟨sl3,z3⟩
 .obtain⟨o',z⟩:=un.there b o q (by simp)
  exact⟨o',PySem.W.hideAll_get _ z (old b o q nb)⟩
end
section
variable {X:Cx}
noncomputable def tTryR (K:PySem.W.Frag) (D C2:Addr) (E:XK) (tb:(St->XK)->TS):TS:=λDe σ H=>∃Ec:St->XK,tb (fun σ C n H=>n=none/\Ec σ C none H) De σ H/\∀σ1 C H1,Ec σ1 C none H1->∃C',C=.ref C'/\PySem.W.mroIn K C' (.ref D)=some true /\
 ∀e,H1 e=none->E (.ref C2) (some e) (upd H1 e (Zd9 e C'))
theorem ZkW {body:List Stmt}{x y t:Str}{np hpos pos np2 cpos rpos tp npos:Pos}{tj nj:Nat}{D C2:Addr}{E:XK}{tb:(St->XK)->TS}
  (hst:X.stack=X.env::X.outer/\X.env.frame=some X.env.locals)
  (hg:Gl X x) (hm:X.mg x=some (.ref D)) (qD:PySem.W.excIn X.K D bmV newV=true) (hg2:Gl X y) (hm2:X.mg y=some (.ref C2)) (q2:PySem.W.excIn X.K C2 bmV newV=true) (hb:∀Ec pl,PSs (X.tries Ec pl) body (tb Ec))
  (hx:∀pins σ H1 s1 h' e k C a0,Inv X pins σ H1 s1->Heap.HeldW (PySem.W.hideAll s1.heap (frs X.stack)) X.stack e C a0 X.env.locals h'->s1.heap.UpToSlots h'->E C (some k) H1->X.xe (.ref e) {s1 with heap:=h'})
  (hd:(x==("__debug__":Str))=false:=by decide) (hd2:(y==("__debug__":Str))=false:=by decide) :
  PS X (.Try body [.ExceptHandler (some (.Name x np)) none [.Raise (some (.Call (.Name y np2) [.Constant (.str t) tj tp] [] cpos)) (some (.Constant .none nj npos)) rpos] hpos] [] [] pos) (tTryR X.K D C2 E tb):=by
 intro pins s σ H De I h
 obtain⟨Ec,hb1,hx1⟩:=h
 refine wpAny_Try_except (Yw (hb (fun σ C n H=>n=none/\Ec σ C none H) pins [] s σ H De (I.tries _) hb1) (λfl s1 q=>?_) λev s1 q=>?_)
 .cases fl with
  |next=>obtain⟨σ',H',I',q⟩:=q;exact wpAny_execs_nil ⟨σ',H',I'.ZaU,q⟩
  |brk=>obtain⟨σ',H',I',q⟩:=q;exact⟨σ',H',I'.ZaU,q⟩
  |cont=>obtain⟨σ',H',I',q⟩:=q;exact⟨σ',H',I'.ZaU,q⟩
  |ret u=>obtain⟨v,σ',H',I',r,q⟩:=q;exact⟨v,σ',H',I'.ZaU,r,q⟩
 .obtain⟨σ1,H1,s0,I1,e,C,a0,H',B,nn,rfl,F,⟨hn,hE⟩,nc⟩:=q
  have nc:=nc hn
  obtain⟨C',rfl,hup,hx1⟩:=hx1 σ1 C H' hE
  have hfr:X.A.frames=some (X.env::X.outer):=by rw[I.ok.frames,hst.1]
  refine Yw (ZaD (wpAny_looks_onW (Q:=λ_ s'=>∃h4,s'={s1 with heap:=h4}/\Heap.HeldW B (X.env::X.outer) e (.ref C') a0 X.env.locals h4/\s1.heap.UpToSlots h4) hfr hst.2 (hst.1▸F.fly) λh4 held sm4=>⟨h4,rfl,held,sm4⟩) (ZdQ (E:=λ_ _=>False) hfr hst.2 (hst.1▸F.fly) nc)) (λ_ s4 q=>?_) λ_ _ z=>z.1
  obtain⟨⟨h4,rfl,held,sm4⟩,nc4⟩:=q
  refine Yw (ZaD (wpAny_landsW (Q:=λ_ s'=>∃h5,s'={s1 with heap:=h5}/\Heap.FlyingW B (X.env::X.outer) e (.ref C') a0 h5/\h4.UpToSlots h5) held λh5 fl5 sm5=>⟨h5,rfl,fl5,sm5⟩) (Zb9 (E:=λ_ _=>False) held.2.2.2 nc4)) (λ_ s5 q=>?_) λ_ _ z=>z.1
  obtain⟨⟨h5,rfl,fl5,sm5⟩,nc5⟩:=q
  have fl5':Heap.FlyingW B X.stack e (.ref C') a0 h5:=by rw[hst.1];exact fl5
  obtain⟨hHe,I5⟩:=F.land I1 fl5' (sm4.trans sm5)
  refine wpAny_handleBy_cons (codeAny_handlers_test ?_) (by intro q;cases q)
  have I5s:=I5.Za9 (A':=X.A.mark (some (.ref e))) rfl
  refine Zbu (X:=X.Za9 (X.A.mark (some (.ref e)))) I5s hg hm ?_ hd
  obtain⟨tl,Nn,nm,qn,bs,hdct,sn,sub,ab,col,dd,k0,k1,k2,k3,k5,mN,hC,_,_,T⟩:=(Zgf (x:=x) I5.kIn hm qD).obj
  obtain⟨oe,hoe,hoc⟩:=fl5.there
  refine Zcv (PySem.W.looks_mroIn I5.kIn hup) hC hoe hoc (T.hasType PySem.F.excBase_ValueError.hasBase) ?_
  refine codeAny_handlers_suite ?_
  refine Yw (ZaD (lands_againW (E:=λ_ _=>False) (Q:=λ_ s'=>∃h6,s'={s1 with heap:=h6}/\Heap.FlyingW B (X.env::X.outer) e (.ref C') a0 h6/\h5.UpToSlots h6) fl5 λh6 fl6 sm6=>⟨h6,rfl,fl6,sm6⟩) (Zb9 (E:=λ_ _=>False) fl5.2.2.2.at nc5)) (λ_ s6 q=>?_) λ_ _ z=>z.2.elim
  obtain⟨⟨h6,rfl,fl6,sm6⟩,nc6⟩:=q
  obtain⟨_,I6⟩:=F.land I1 (h5:=h6) (by rw[hst.1];exact fl6) ((sm4.trans sm5).trans sm6)
  have hE6:=hx1 e hHe
  refine wpAny_execs_cons ?_
  obtain⟨tl2,Nn2,nm2,qn2,bs2,hdct2,sn2,sub2,ab2,col2,dd2,l0,l1,l2,l3,l5,mN2,hC2,hN2,hni2,T2⟩:=(Zgf (x:=y) I6.kIn hm2 q2).obj
  refine ZdL (C:=C2) (nm:=nm2) (q:=qn2) (N:=Nn2) (bs:=bs2) (bm:=tl2) (hdct:=hdct2) (sn:=sn2) (sub:=sub2) (ab:=ab2) (col:=col2) (dd:=dd2) (k0:=l0) (k1:=l1) (k2:=l2) (k3:=l3) (k5:=l5) (hd:=e)
   PySem.F.excBase_ValueError (mN:=mN2) (T2.hasType PySem.F.excBase_ValueError.hasBase) rfl rfl hni2 (Zbu (X:=X.Za9 (X.A.mark (some (.ref e)))) (I6.Za9 rfl) hg2 hm2 ⟨rfl,?_⟩ hd2)
  show wpAny _ _ (evalArgs (.ref C2) true ((false,eval (.Constant (.str t) tj tp) X.env)::[]) []) _ _ _
  refine Calls.evalArgs_plain (Calls.spliced_cons (Calls.Constant_str (Calls.spliced_nil ⟨rfl,show 1<=sizeLine by decide,hC2,hN2,T2,nc6,λh7 e2 t2 new7 kp7 he7=>?_⟩)))
  have I6':Inv X pins σ1 (upd H' e (Zd9 e C')) {s1 with heap:=h6,toks:=s1.toks+1}:=I6.tok _
  have nfr:∀b o,upd H' e (Zd9 e C') b=some o->b∉frs X.stack:=λb o z hb=>by
   have:=I6'.Zc3 b hb
   rw[this]at z;cases z
  have hin:∀en∈X.stack,∀b,en.frame=some b->b∈frs X.stack:=λen he b hb=>List.mem_filterMap.mpr ⟨en,he,hb⟩
  have st:h6.FunFrames X.base (X.env::X.outer):=by rw[<-hst.1];exact I6'.stack
  have fr:frs X.stack=frs (X.env::X.outer):=by rw[hst.1]
  have new':(PySem.W.hideAll h6 (frs X.stack)).get? e2=none:=by
   cases q:(PySem.W.hideAll h6 (frs X.stack)).get? e2 with
   |none=>rfl
   |some o=>have:=PySem.W.of_hideAll _ q;rw[show h6.get? e2=none from new7]at this;cases this
  show wpAny _ _ (noteFrame (.ref e2) X.env) _ _ _
  refine Zgx (base:=PySem.W.hideAll h6 (frs X.stack)) (outer:=X.outer) hfr ((PySem.W.funFrames_hide st λen he b hb=>by rw[hst.1];exact List.mem_filterMap.mpr ⟨en,he,hb⟩).of_keeps λb o hb _=>⟨o,kp7 b o hb,rfl⟩) hst.2 he7 (λb o q=>kp7 b o (PySem.W.of_hideAll _ q)) new' rfl rfl rfl λh8 held8 sm8=>?_
  show cameBackBy _ _ X.env X.xe (.ref e2) _
  refine Zjy hst.2 held8 λh9 held9 sm9=>?_
  exact hx pins σ1 _ {s1 with heap:=h6,toks:=s1.toks+1} h9 e2 e (.ref C2) _ I6' (by rw[hst.1];rw[hst.1]at held9;exact held9) ((Heap.UpToSlots.of_keeps kp7).trans (sm8.trans sm9)) hE6
end
theorem heldE {P:Program}{w:World}{K:PySem.W.Frag}{mg:Str->Option Value}{base:Heap}{N:List Str}{qual:Str}{scope:Scope}{f:Addr}{cd:Value}{A:Around}{outer:List Env}{s0:Shared}{H0:Hp}{E:XK} :
  ∀pins σ H1 s1 h' e k C a0,Inv (Zbx (CXE P w) P w K mg base N qual scope f cd A outer s0 H0 E) pins σ H1 s1->Heap.HeldW (PySem.W.hideAll s1.heap (frs (Zbx (CXE P w) P w K mg base N qual scope f cd A outer s0 H0 E).stack)) (Zbx (CXE P w) P w K mg base N qual scope f cd A outer s0 H0 E).stack e C a0 (Zbx (CXE P w) P w K mg base N qual scope f cd A outer s0 H0 E).env.locals h'->s1.heap.UpToSlots h'->E C (some k) H1->(Zbx (CXE P w) P w K mg base N qual scope f cd A outer s0 H0 E).xe (.ref e) {s1 with heap:=h'} :=
 λ_ _ _ _ _ _ _ _ _ I hh sm hE=>Zho I hh sm hE
end Lake
namespace Internal
open PySem PySem.Spec PyProof.Rows Lake
open PySem.W (nsIn mg_of fnOf keepIn codeIn mg_none_of)
local macro_rules | `(tactic|right) => `(tactic| (try dsimp only [tIfS, tNot, tTest, tChain, rI0, rI, rU, tVar, tC, tB, tIf, tAndV, tOrV, tCall, tCallX, tCons, tNil, tAsg, tSeq, tRet, tNext, tOp, tUn, tAnd, tOr, tDrop, gName, gSub, tAug, tCB, tSl, tRaise, tLst, tTup, Lake.start, tYes, gTup, gCons, gNil, iniC, Option.join_some, Option.join_none, rEq, rNe, Zgi, Zgj, Zgk, Zgl, Zgm, Zgn, tBM, Bool.true_eq_false, YO, List.map_nil, List.cons_append, List.nil_append, YC, List.length_nil, List.replicate, List.append_nil, List.set_cons_zero, List.set_cons_succ, List.getElem?_cons_zero, List.getElem?_cons_succ, Option.some.injEq, V.int.injEq, V.bl.injEq, V.ref.injEq, List.cons.injEq, and_true, true_and, exists_eq_left, exists_eq_left', exists_and_left, exists_eq, decide_eq_true_eq, Bool.not_eq_true', decide_eq_false_iff_not, cxK, and_assoc, Bool.false_eq_true, ↓reduceIte, Zgg, ZdD, ZeF, iRng1, iRng2, iList, iTup, rIxL, rIxT, rSetL, rCat, rIsi, rSum, tDelT, rIntB, rInsert, rLen, rTof, rSlS, rIxS, iSeq, tBM0, rEqD, rIn, iEnumT, tMaxD, tMinD, rOr, rAll, rAny, rIxQ, tPart, tNoPart, tSl, ipI, rAppend, rRep, Zgo, ZhZ, tAugS, rMulS, rJoin, iStr, rSumT, V.str.injEq, rLenS, rRemP, rIsAsc, rIsDig, rStarts, rStrI, rIntS, rSplit, rSlS, rIxS]); (try simp only [tIfS, tNot, tTest, tChain, rI0, rI, rU, tVar, tC, tB, tIf, tAndV, tOrV, tCall, tCallX, tCons, tNil, tAsg, tSeq, tRet, tNext, tOp, tUn, tAnd, tOr, tDrop, gName, gSub, tAug, tCB, tSl, tRaise, tLst, tTup, Lake.start, tYes, gTup, gCons, gNil, iniC, Option.join_some, Option.join_none, rEq, rNe, Zgi, Zgj, Zgk, Zgl, Zgm, Zgn, tBM, Bool.true_eq_false, YO, List.map_nil, List.cons_append, List.nil_append, YC, List.length_nil, List.replicate, List.append_nil, List.set_cons_zero, List.set_cons_succ, List.getElem?_cons_zero, List.getElem?_cons_succ, Option.some.injEq, V.int.injEq, V.bl.injEq, V.ref.injEq, List.cons.injEq, and_true, true_and, exists_eq_left, exists_eq_left', exists_and_left, exists_eq, decide_eq_true_eq, Bool.not_eq_true', decide_eq_false_iff_not, cxK, and_assoc, Bool.false_eq_true, ↓reduceIte, Zgg, ZdD, ZeF, iRng1, iRng2, iList, iTup, rIxL, rIxT, rSetL, rCat, rIsi, rSum, tDelT, rIntB, rInsert, rLen, rTof, rSlS, rIxS, iSeq, tBM0, rEqD, rIn, iEnumT, tMaxD, tMinD, rOr, rAll, rAny, rIxQ, tPart, tNoPart, tSl, ipI, rAppend, rRep, Zgo, ZhZ, tAugS, rMulS, rJoin, iStr, rSumT, V.str.injEq, rLenS, rRemP, rIsAsc, rIsDig, rStarts, rStrI, rIntS, rSplit, rSlS, rIxS]))
noncomputable def top (i:Nat):Stmt:=PySem.Challenge.pw_dipkin_k80_texts_of_no_row_no_tree.main.body.getD i (.Pass ⟨0,0,0,0⟩)
noncomputable abbrev s_settle:Stmt:=top 14
noncomputable abbrev s_tree_of:Stmt:=top 15
noncomputable abbrev s_way_up:Stmt:=top 16
noncomputable abbrev s_is_tree:Stmt:=top 17
noncomputable abbrev s_need_tree:Stmt:=top 18
noncomputable abbrev s_fences_of:Stmt:=top 19
noncomputable abbrev s_drops_of:Stmt:=top 21
noncomputable abbrev s_brackets_of:Stmt:=top 22
noncomputable abbrev s_need_short:Stmt:=top 23
noncomputable abbrev s_by_drops:Stmt:=top 24
noncomputable abbrev s_by_brackets:Stmt:=top 25
noncomputable abbrev s_row_text:Stmt:=top 29
noncomputable abbrev s_tree_text:Stmt:=top 30
noncomputable abbrev s_read_number:Stmt:=top 31
noncomputable abbrev s_read_row:Stmt:=top 32
noncomputable abbrev s_read_tree:Stmt:=top 33
noncomputable abbrev s__law_pot:Stmt:=top 35
noncomputable abbrev s__law_take:Stmt:=top 36
noncomputable abbrev s__law_row:Stmt:=top 37
noncomputable abbrev s__law_drops:Stmt:=top 38
noncomputable abbrev s__law_brackets:Stmt:=top 39
noncomputable abbrev s__law_are_brackets:Stmt:=top 40
noncomputable abbrev s__law_any_sign:Stmt:=top 41
noncomputable abbrev s__law_spoilt:Stmt:=top 42
noncomputable abbrev s__law_number_read:Stmt:=top 43
noncomputable abbrev s__law_row_read:Stmt:=top 44
noncomputable abbrev s__law_row_text:Stmt:=top 45
noncomputable abbrev s__law_kinds:Stmt:=top 46
noncomputable abbrev s__law_alone:Stmt:=top 47
noncomputable abbrev s__law_asked:Stmt:=top 48
noncomputable abbrev s__law_right:Stmt:=top 49
noncomputable abbrev s_law:Stmt:=top 50
structure Txt (K:PySem.W.Frag) (mg:Str->Option Value):Prop where
 b_ValueError:mg "ValueError"=none
 b_all:mg "all"=none
 b_any:mg "any"=none
 b_enumerate:mg "enumerate"=none
 b_int:mg "int"=none
 b_isinstance:mg "isinstance"=none
 b_len:mg "len"=none
 b_max:mg "max"=none
 b_min:mg "min"=none
 b_range:mg "range"=none
 b_str:mg "str"=none
 b_sum:mg "sum"=none
 b_tuple:mg "tuple"=none
 c_DipError:mg "DipError"=some (.ref (clsAt mg "DipError"))
 x_DipError:PySem.W.excIn K (clsAt mg "DipError") bmV newV=true
 c_Unlike:mg "Unlike"=some (.ref (clsAt mg "Unlike"))
 x_Unlike:PySem.W.excIn K (clsAt mg "Unlike") bmV newV=true
 c_Empty:mg "Empty"=some (.ref (clsAt mg "Empty"))
 x_Empty:PySem.W.excIn K (clsAt mg "Empty") bmV newV=true
 c_TooMany:mg "TooMany"=some (.ref (clsAt mg "TooMany"))
 x_TooMany:PySem.W.excIn K (clsAt mg "TooMany") bmV newV=true
 c_NoTree:mg "NoTree"=some (.ref (clsAt mg "NoTree"))
 x_NoTree:PySem.W.excIn K (clsAt mg "NoTree") bmV newV=true
 c_NoTelling:mg "NoTelling"=some (.ref (clsAt mg "NoTelling"))
 x_NoTelling:PySem.W.excIn K (clsAt mg "NoTelling") bmV newV=true
 c_NoPlace:mg "NoPlace"=some (.ref (clsAt mg "NoPlace"))
 x_NoPlace:PySem.W.excIn K (clsAt mg "NoPlace") bmV newV=true
 c_NoNumber:mg "NoNumber"=some (.ref (clsAt mg "NoNumber"))
 x_NoNumber:PySem.W.excIn K (clsAt mg "NoNumber") bmV newV=true
 c_NoPast:mg "NoPast"=some (.ref (clsAt mg "NoPast"))
 x_NoPast:PySem.W.excIn K (clsAt mg "NoPast") bmV newV=true
 c_NoText:mg "NoText"=some (.ref (clsAt mg "NoText"))
 x_NoText:PySem.W.excIn K (clsAt mg "NoText") bmV newV=true
 c_NoLine:mg "NoLine"=some (.ref (clsAt mg "NoLine"))
 x_NoLine:PySem.W.excIn K (clsAt mg "NoLine") bmV newV=true
 ex_NoText:ExK K (clsAt mg "NoText")
 up_NoText:PySem.W.mroIn K (clsAt mg "NoText") (.ref (clsAt mg "DipError"))=some true
 is_NoText_DipError:PySem.W.kitOne K (.ref (clsAt mg "NoText")) (.ref (clsAt mg "DipError"))=some true
 is_NoText_Unlike:PySem.W.kitOne K (.ref (clsAt mg "NoText")) (.ref (clsAt mg "Unlike"))=some false
 is_NoText_Empty:PySem.W.kitOne K (.ref (clsAt mg "NoText")) (.ref (clsAt mg "Empty"))=some false
 is_NoText_TooMany:PySem.W.kitOne K (.ref (clsAt mg "NoText")) (.ref (clsAt mg "TooMany"))=some false
 is_NoText_NoTree:PySem.W.kitOne K (.ref (clsAt mg "NoText")) (.ref (clsAt mg "NoTree"))=some false
 is_NoText_NoTelling:PySem.W.kitOne K (.ref (clsAt mg "NoText")) (.ref (clsAt mg "NoTelling"))=some false
 is_NoText_NoPlace:PySem.W.kitOne K (.ref (clsAt mg "NoText")) (.ref (clsAt mg "NoPlace"))=some false
 is_NoText_NoNumber:PySem.W.kitOne K (.ref (clsAt mg "NoText")) (.ref (clsAt mg "NoNumber"))=some false
 is_NoText_NoPast:PySem.W.kitOne K (.ref (clsAt mg "NoText")) (.ref (clsAt mg "NoPast"))=some false
 is_NoText_NoText:PySem.W.kitOne K (.ref (clsAt mg "NoText")) (.ref (clsAt mg "NoText"))=some true
 is_NoText_NoLine:PySem.W.kitOne K (.ref (clsAt mg "NoText")) (.ref (clsAt mg "NoLine"))=some false
 is_NoText_V:PySem.W.kitOne K (.ref (clsAt mg "NoText")) (.type "ValueError")=some true
 ex_NoTelling:ExK K (clsAt mg "NoTelling")
 up_NoTelling:PySem.W.mroIn K (clsAt mg "NoTelling") (.ref (clsAt mg "DipError"))=some true
 ups_NoTelling:PySem.W.mroIn K (clsAt mg "NoTelling") (.ref (clsAt mg "NoTelling"))=some true
 is_NoTelling_DipError:PySem.W.kitOne K (.ref (clsAt mg "NoTelling")) (.ref (clsAt mg "DipError"))=some true
 is_NoTelling_Unlike:PySem.W.kitOne K (.ref (clsAt mg "NoTelling")) (.ref (clsAt mg "Unlike"))=some false
 is_NoTelling_Empty:PySem.W.kitOne K (.ref (clsAt mg "NoTelling")) (.ref (clsAt mg "Empty"))=some false
 is_NoTelling_TooMany:PySem.W.kitOne K (.ref (clsAt mg "NoTelling")) (.ref (clsAt mg "TooMany"))=some false
 is_NoTelling_NoTree:PySem.W.kitOne K (.ref (clsAt mg "NoTelling")) (.ref (clsAt mg "NoTree"))=some false
 is_NoTelling_NoTelling:PySem.W.kitOne K (.ref (clsAt mg "NoTelling")) (.ref (clsAt mg "NoTelling"))=some true
 is_NoTelling_NoPlace:PySem.W.kitOne K (.ref (clsAt mg "NoTelling")) (.ref (clsAt mg "NoPlace"))=some false
 is_NoTelling_NoNumber:PySem.W.kitOne K (.ref (clsAt mg "NoTelling")) (.ref (clsAt mg "NoNumber"))=some false
 is_NoTelling_NoPast:PySem.W.kitOne K (.ref (clsAt mg "NoTelling")) (.ref (clsAt mg "NoPast"))=some false
 is_NoTelling_NoText:PySem.W.kitOne K (.ref (clsAt mg "NoTelling")) (.ref (clsAt mg "NoText"))=some false
 is_NoTelling_NoLine:PySem.W.kitOne K (.ref (clsAt mg "NoTelling")) (.ref (clsAt mg "NoLine"))=some false
 is_NoTelling_V:PySem.W.kitOne K (.ref (clsAt mg "NoTelling")) (.type "ValueError")=some true
 m_MOST_PLACES:mg "MOST_PLACES"=some (.int 40 (tokAt mg "MOST_PLACES"))
 m_NOTHING:mg "NOTHING"=some (.str (Str.ofString "-") (tokS mg "NOTHING"))
 m_MOST_FIGURES:mg "MOST_FIGURES"=some (.int 60 (tokAt mg "MOST_FIGURES"))
noncomputable abbrev SpT:=PySem.W.Frag->(Str->Option Value)->Sp
noncomputable def spLaw (K:PySem.W.Frag):Sp:=λvs H Q E=>∃(a:Addr) (ns:List Int),vs=[.ref a]/\SqL K H a (ns.map V.int)/\ns.length<=63/\∀H',Q (.bl true) H'
noncomputable def kindsV:List Bool:=[false,false,false,false,false,false,false,false,true,false,true,true]
noncomputable def sp__law_kinds:SpT:=λK mg vs H Q E=>∃e:Addr,vs=[.ref e]/\H e=some (Zd9 e (clsAt mg "NoText"))/\∀l H',Zh H H'->H' l=some (.lst (kindsV.map V.bl))->Q (.ref l) H'
noncomputable def sp__law_alone:SpT:=λK mg vs H Q E=>∃e:Addr,vs=[.ref e,.int 8]/\H e=some (Zd9 e (clsAt mg "NoText"))/\∀H',Zh H H'->Q (.bl true) H'
noncomputable def sp__law_pot:SpT:=λK mg vs H Q E=>∃(a:Addr) (ns:List Int) (k:Int),vs=[.ref a,.int k]/\SqL K H a (ns.map V.int)/\0<=k/\k<=100/\∀p H',H p=none->Zh H H'->ZJ H' p->Q (.ref p) H'
noncomputable def sp__law_take:SpT:=λK mg vs H Q E=>∃(p:Addr) (many:Int),vs=[.ref p,.int many]/\0<many/\many<=1000000001/\ZJ H p/\∀d H',0<=d->d<many->ZJ H' p->Exc p H H'->Q (.int d) H'
noncomputable def sp__law_row:SpT:=λK mg vs H Q E=>∃(p:Addr) (most:Int),vs=[.ref p,.int most]/\0<=most/\most<=1000/\ZJ H p/\∀(r:Addr) (ns:List Int) H',H r=none->(ns.length:Int)<=most->(∀x∈ns,x.natAbs<10 ^ 60)->H' r=some (.lst (ns.map V.int))->ZJ H' p->Exc p H H'->Q (.ref r) H'
structure RowOk (ns:List Int) (i:Nat) (last:Int):Prop where
 len:ns.length=i
 all:∀x∈ns,x.natAbs<10 ^ 60
 bd:last.natAbs<=10*i
theorem RowOk.nil:RowOk [] 0 0:=⟨rfl,λx h=>absurd h (by simp),by decide⟩
theorem RowOk.push {ns:List Int}{i:Nat}{last last' y:Int} (h:RowOk ns i last) (hy:y.natAbs<10 ^ 60) (hl:last'.natAbs<=10*(i+1)):RowOk (ns++[y]) (i+1) last' :=
 ⟨by simp[h.len],λx hx=>by
  rcases Yp.mp hx with z|z
  .exact h.all x z
  .simp at z;rw[z];exact hy,hl⟩
theorem RowOk.ins {ns:List Int}{i k:Nat}{last y:Int} (h:RowOk ns i last) (hy:y.natAbs<10 ^ 60) (hk:k<=i):RowOk (ns.take k++y::ns.drop k) (i+1) last :=
 ⟨by have:=h.len;simp;omega,λx hx=>by
  rcases Yp.mp hx with z|z
  .exact h.all x (List.mem_of_mem_take z)
  .rcases Ym.mp z with rfl|z
   .exact hy
   .exact h.all x (List.mem_of_mem_drop z),by have:=h.bd;omega⟩
noncomputable def sp_settle:SpT:=λK mg vs H Q E=>∃(el sp:Addr) (es:List Int) (A B:List Nat) (i:Nat),vs=[.ref el,.ref sp,.int i,.int A.length]/\H el=some (.lst (es.map V.int))/\H sp=some (.lst (Zs (A++B)))/\el≠sp/\i<es.length/\(∀q∈A++B,q<es.length)/\(A++B).length<=1000 /\
 ∀H',(∀b o,b≠el->b≠sp->H b=some o->H' b=some o)->H' el=some (.lst ((ZbY es A B i).map V.int))->H' sp=some (.lst (Zs (A++[i])))->Q .non H'
noncomputable def sp_tree_of:SpT:=λK mg vs H Q E=>∃(r:Addr) (ns:List Int),vs=[.ref r]/\(SqL K H r (ns.map V.int)\/SqT K H r (ns.map V.int))/\ns.length<=1000/\∀(t:Addr) (es:List Int) H',ZV ns es->Zh H H'->H' t=some (.tup (es.map V.int))->Q (.ref t) H'
noncomputable def AreDrops (ds:List Int):Prop:=ds.length<=40/\∀p,p<ds.length->0<=nth ds p/\nth ds p<=p-(ds.take p).sum
noncomputable def RightD (ds:List Int) (i:Nat):Prop:=∀k,k<i->0<=nth ds k/\(nth ds k).toNat<=ZaA (ds.map Int.toNat) k
noncomputable def sp_need_short:SpT:=λK mg vs H Q E=>∃(t:Addr) (xs:List V),vs=[.ref t]/\H t=some (.tup xs)/\xs.length<=1000/\(xs.length<=40->Q .non H)/\(40<xs.length->∀H',Zh H H'->E (.ref (clsAt mg "NoTelling")) none H')
noncomputable def sp_by_drops:SpT:=λK mg vs H Q E=>∃(t:Addr) (ds:List Int),vs=[.ref t]/\H t=some (.tup (ds.map V.int))/\ds.length<=1000/\(AreDrops ds->∀(u:Addr) H',Zh H H'->H' u=some (.tup ((ZeV (ds.map Int.toNat)).map V.int))->Q (.ref u) H')/\(¬ AreDrops ds->∀H',Zh H H'->E (.ref (clsAt mg "NoTelling")) none H')
noncomputable def balB (l:List Nat):Int:=(l.count 40:Int)-(l.count 41:Int)
noncomputable def AreBra (l:List Nat):Prop:=(∀i,i<l.length->(l.getD i 0=40\/l.getD i 0=41)/\0<=balB (l.take (i+1)))/\balB l=0/\l.length<=80
noncomputable def sp__law_are_brackets:SpT:=λK mg vs H Q E=>∃l:List Nat,vs=[.str (txt l)]/\(∀c∈l,c<128)/\l.length<=1000/\∀b:Bool,(b=true↔AreBra l)->Q (.bl b) H
noncomputable def OkB (l:List Nat):Prop:=(∀c∈l,c=40\/c=41)/\AreDrops ((l.foldl ZF ([],0)).1.map λ(d:Nat)=>(d:Int))/\(l.foldl ZF ([],0)).1.sum+(l.foldl ZF ([],0)).2=(l.foldl ZF ([],0)).1.length
noncomputable def sp_by_brackets:SpT:=λK mg vs H Q E=>∃l:List Nat,vs=[.str (txt l)]/\(∀c∈l,c<128)/\l.length<=1000/\(OkB l->∀(u:Addr) H',Zh H H'->H' u=some (.tup ((ZeV (l.foldl ZF ([],0)).1).map V.int))->Q (.ref u) H')/\(¬ OkB l->∀H',Zh H H'->E (.ref (clsAt mg "NoTelling")) none H')
noncomputable def sp_way_up:SpT:=λK mg vs H Q E=>∃(t:Addr) (T:List Int) (p:Nat),vs=[.ref t,.int p]/\H t=some (.tup (T.map V.int))/\T.length<=1000/\p<T.length/\∀(w:Addr) H',H w=none->Zh H H'->H' w=some (.lst ((wayI T p).map V.int))->Q (.ref w) H'
noncomputable def sp_is_tree:SpT:=λK mg vs H Q E=>∃(t:Addr) (T:List Int),vs=[.ref t]/\H t=some (.tup (T.map V.int))/\T.length<=1000/\(ZeO T->∀H',Zh H H'->Q (.bl true) H')/\(¬ ZeO T->∀H',Zh H H'->Q (.bl false) H')
noncomputable def sp_need_tree:SpT:=λK mg vs H Q E=>∃(t:Addr) (T:List Int),vs=[.ref t]/\H t=some (.tup (T.map V.int))/\T.length<=1000/\(ZeO T->∀H',Zh H H'->Q .non H')/\(¬ ZeO T->∀H',Zh H H'->E (.ref (clsAt mg "NoTree")) none H')
noncomputable def sp_fences_of:SpT:=λK mg vs H Q E=>∃(t:Addr) (ns T:List Int),vs=[.ref t]/\H t=some (.tup (T.map V.int))/\ZV ns T/\ns.length<=1000/\∀(l:Addr) H',Zh H H'->Zal H' l ns.length (λp=>(Zbq (nth ns) p,Zay (nth ns) ns.length p))->Q (.ref l) H'
noncomputable def sp_drops_of:SpT:=λK mg vs H Q E=>∃(t:Addr) (T:List Int),vs=[.ref t]/\H t=some (.tup (T.map V.int))/\T.length<=1000/\((∃ns:List Int,T.length<=40/\ZV ns T/\∀(u:Addr) H',Zh H H'->H' u=some (.tup (Zs (ZZ (nth ns) ns.length)))->Q (.ref u) H')\/(¬ ZeO T/\∀H',Zh H H'->E (.ref (clsAt mg "NoTree")) none H'))
noncomputable def sp__law_drops:SpT:=λK mg vs H Q E=>∃(r:Addr) (ns:List Int),vs=[.ref r]/\H r=some (.lst (ns.map V.int))/\ns.length<=41/\∀(u:Addr) H',Zh H H'->H' u=some (.tup (Zs (ZZ (nth ns) ns.length)))->Q (.ref u) H'
noncomputable def sp__law_brackets:SpT:=λK mg vs H Q E=>∃(t:Addr) (ds:List Nat),vs=[.ref t]/\H t=some (.tup (Zs ds))/\ds.length<=41/\ZaV ds/\∀H',Zh H H'->Q (.str (txt (Zea ds))) H'
noncomputable def sp_brackets_of:SpT:=λK mg vs H Q E=>∃(t:Addr) (T:List Int),vs=[.ref t]/\H t=some (.tup (T.map V.int))/\T.length<=1000/\((∃ns:List Int,T.length<=40/\ZV ns T/\∀H',Zh H H'->Q (.str (txt (Zea (ZZ (nth ns) ns.length)))) H')\/(¬ ZeO T/\∀H',Zh H H'->E (.ref (clsAt mg "NoTree")) none H'))
noncomputable def Few (ns:List Int):Prop:=ns.length<=40/\∀x∈ns,x.natAbs<10 ^ 60
noncomputable def rowS (ns:List Int):Str:=if ns=[]then Str.ofString "-" else Str.join ⟨#[32]⟩ (ns.map numS)
noncomputable def figs:List Nat->List Nat
 |45::r=>r
 |w=>w
noncomputable def numOk (w:List Nat):Bool:=!(figs w).isEmpty&&decide ((figs w).length<=60)&&(figs w).all (λc=>decide (48<=c/\c<=57))&&(!((figs w).head?==some 48)||w==[48])
noncomputable def numR (w:List Nat):Option Int:=if numOk w=true then PySem.intText? (txt w)else none
theorem jl_mem {s:Nat}:∀{A:List (List Nat)}{a:List Nat},a∈A->∀c∈a,c∈jl s A
 |[],_,h,_,_=>nomatch h
 |[x],a,h,c,hc=>by rw[Y0.mp h]at hc;exact hc
 |x::y::r,a,h,c,hc=>by
  show c∈x++s::jl s (y::r)
  rcases Ym.mp h with rfl|h
  .exact YI _ hc
  .exact Yt _ (YW _ (jl_mem h c hc))
theorem jl_len {s:Nat}:∀{A:List (List Nat)}{a:List Nat},a∈A->a.length<=(jl s A).length
 |[],_,h=>nomatch h
 |[x],a,h=>by rw[Y0.mp h];exact Yd _
 |x::y::r,a,h=>by
  show a.length<=(x++s::jl s (y::r)).length
  rw[Yn,YC]
  rcases Ym.mp h with rfl|h
  .omega
  .have:=jl_len (s:=s) h;omega
theorem jl_many {s:Nat}:∀{A:List (List Nat)},A.length<=(jl s A).length+1
 |[]=>by simp
 |[x]=>by simp
 |x::y::r=>by
  show(x::y::r).length<=(x++s::jl s (y::r)).length+1
  have:=jl_many (s:=s) (A:=y::r)
  simp only[Yn,YC]at this⊢
  omega
noncomputable def wds (l:List Nat):List (List Nat):=(Txt.split (txt l) (Str.ofString " ")).map cds
theorem blank80:(Str.ofString " ")=(⟨#[32]⟩:Str):=by decide +kernel
theorem txt_cds (x:Str):txt (cds x)=x:=Zcp (by simp[txt])
theorem cds_txt (l:List Nat):cds (txt l)=l:=by simp[txt]
theorem wds_txt (l:List Nat):(wds l).map txt=Txt.split (txt l) (Str.ofString " "):=by
 unfold wds
 rw[Yy]
 conv=>rhs;rw[<-List.map_id (Txt.split (txt l) (Str.ofString " "))]
 exact List.map_congr_left λx _=>txt_cds x
theorem wds_join (l:List Nat):jl 32 (wds l)=l:=by
 have e:=congrArg cds (StrLaws.join_split (txt l) ⟨#[32]⟩)
 rw[Zdi,cds_txt]at e
 unfold wds
 rw[blank80];exact e
theorem wds_ne (l:List Nat):wds l≠[]:=by
 have p:=split_pos (txt l) ⟨#[32]⟩
 unfold wds
 rw[blank80]
 intro z
 rw[List.map_eq_nil_iff]at z
 rw[z]at p
 simp at p
theorem dg_of:∀(n:Nat) (f:List Nat),f.length=n->f≠[]->(∀c∈f,48<=c/\c<=57)->(f.head?=some 48->f=[48])->∃m,dg m=f/\m<10 ^ f.length/\(m=0->f=[48]):=by
 intro n
 induction n with
 |zero=>intro f hl hn;exact absurd (List.length_eq_zero_iff.mp hl) hn
 |succ n ih =>
  intro f hl hn hd h0
  obtain⟨g,c,rfl⟩:∃g c,f=g++[c]:=⟨f.dropLast,f.getLast hn,(List.dropLast_concat_getLast hn).symm⟩
  have hc:=hd c (by simp)
  by_cases hg:g=[]
  .subst hg
   refine⟨c-48,?_,?_,λz=>?_⟩
   .rw[Zca ⋯];simp;omega
   .simp;omega
   .simp;omega
  .obtain⟨k,e,hk,k0⟩:=ih g (by simpa using hl) hg (λx hx=>hd x (by simp[hx])) (λz=>by
    have:(g++[c]).head?=some 48:=by rw[List.head?_append];rw[z];rfl
    have:=h0 this
    have:=congrArg List.length this
    cases g with
    |nil=>exact absurd rfl hg
    |cons a r=>simp at this)
   have kp:k≠0:=λz=>by
    have e2:=k0 z
    have:(g++[c]).head?=some 48:=by rw[e2];rfl
    have:=congrArg List.length (h0 this)
    rw[e2]at this
    simp at this
   refine⟨10*k+(c-48),?_,?_,λz=>absurd z ⋯⟩
   .rw[Zey ⋯,show(10*k+(c-48)) / 10=k by omega,show(10*k+(c-48)) % 10=c-48 by omega,e,show c-48+48=c by omega]
   .rw[Yn,List.length_singleton,Nat.pow_succ];omega
theorem figs_eq (w:List Nat):figs w=if w.head?=some 45 then w.tail else w:=by
 unfold figs
 split
 .rfl
 .rename_i h
  rw[Yb]
  intro z
  cases w with
  |nil=>cases z
  |cons a r=>cases z;exact h r rfl
theorem numOk_spec {w:List Nat} (h:numOk w=true):figs w≠[]/\(figs w).length<=60/\(∀c∈figs w,48<=c/\c<=57)/\((figs w).head?=some 48->w=[48]):=by
 unfold numOk at h
 rw[Bool.and_eq_true,Bool.and_eq_true,Bool.and_eq_true]at h
 obtain⟨⟨⟨h1,h2⟩,h3⟩,h4⟩:=h
 refine⟨λz=>?_,YM h2,λc hc=>YM (List.all_eq_true.mp h3 c hc),λz=>?_⟩
 .rw[z]at h1;cases h1
 .rw[z]at h4;simpa using h4
theorem numOk_int {w:List Nat} (h:numOk w=true):∃i:Int,txt w=numS i/\i.natAbs<10 ^ 60:=by
 obtain⟨h1,h2,h3,h4⟩:=numOk_spec h
 have p60:∀m f:Nat,m<10 ^ f->f<=60->m<10 ^ 60:=λm f a b=>Ys a (Nat.pow_le_pow_right nofun b)
 have fe:=figs_eq w
 by_cases hw:w.head?=some 45
 .rw[Yc hw]at fe
  obtain⟨r,rfl⟩:∃r,w=45::r:=by
   cases w with
   |nil=>cases hw
   |cons a r=>cases hw;exact⟨r,rfl⟩
  have fe:figs (45::r)=r:=fe
  rw[fe]at h1 h2 h3 h4
  obtain⟨m,e,hm,m0⟩:=dg_of r.length r rfl h1 h3 λz=>absurd (h4 z) (by simp)
  have mp:m≠0:=λz=>by
   have e2:=m0 z
   have:=h4 (by rw[e2];rfl)
   simp at this
  refine⟨Int.negSucc (m-1),Zcp ?_,?_⟩
  .rw[ZeZ,cds_txt,show m-1+1=m by omega,e]
  .have:(Int.negSucc (m-1)).natAbs=m-1+1:=rfl
   have:=p60 _ _ hm h2
   omega
 .rw[Yb hw]at fe
  rw[fe]at h1 h2 h3 h4
  obtain⟨m,e,hm,m0⟩:=dg_of w.length w rfl h1 h3 h4
  refine⟨(m:Int),Zcp ?_,?_⟩
  .rw[ZeY,cds_txt,e]
  .have:=p60 _ _ hm h2
   simpa using this
theorem numR_ok {w:List Nat} (h:numOk w=true):∃i:Int,txt w=numS i/\i.natAbs<10 ^ 60/\PySem.intText? (txt w)=some i/\numR w=some i:=by
 obtain⟨i,e,hi⟩:=numOk_int h
 have v:=(Zdj hi).val
 rw[<-e]at v
 exact⟨i,e,hi,v,by unfold numR;rw[Yc h];exact v⟩
theorem numR_no {w:List Nat} (h:¬ numOk w=true):numR w=none:=by unfold numR;rw[Yb h]
theorem numR_some {w:List Nat}{i:Int} (h:numR w=some i):txt w=numS i/\i.natAbs<10 ^ 60:=by
 by_cases z:numOk w=true
 .obtain⟨j,e,hj,_,ej⟩:=numR_ok z
  rw[h]at ej;cases ej
  exact⟨e,hj⟩
 .rw[numR_no z]at h;cases h
noncomputable def optI:Option Int->V
 |none=>.non
 |some i=>.int i
noncomputable def rowR (l:List Nat):Option (List Int):=if l=[45]then some []else if none∈(wds l).map numR\/40<(wds l).length then none else some ((wds l).map λw=>(numR w).getD 0)
theorem rowR_some {l:List Nat}{ns:List Int} (h:rowR l=some ns):(ns.length<=40/\∀x∈ns,x.natAbs<10 ^ 60)/\rowS ns=txt l:=by
 unfold rowR at h
 split at h
 .rename_i e
  cases h
  subst e
  exact⟨⟨by simp,by simp⟩,by decide +kernel⟩
 .split at h
  .cases h
  .rename_i e1 e2
   cases h
   have hw:∀w∈wds l,numR w=some ((numR w).getD 0):=λw hw=>by
    cases z:numR w with
    |none=>exact absurd (.inl (YG.mpr ⟨w,hw,z⟩)) e2
    |some i=>rfl
   refine⟨⟨by rw[Yj];exact Nat.not_lt.mp λz=>e2 (.inr z),λx hx=>?_⟩,?_⟩
   .obtain⟨w,h1,rfl⟩:=YG.mp hx
    exact(numR_some (hw w h1)).2
   .unfold rowS
    rw[Yb (λz=>wds_ne l (List.map_eq_nil_iff.mp z))]
    apply Zcp
    rw[Zdi,cds_txt,Yy,Yy]
    have:(wds l).map ((cds ∘ numS) ∘ λw=>(numR w).getD 0)=wds l:=by
     conv=>rhs;rw[<-List.map_id (wds l)]
     refine List.map_congr_left λw h1=>?_
     show cds (numS ((numR w).getD 0))=w
     rw[<-(numR_some (hw w h1)).1,cds_txt]
    rw[this,wds_join]
theorem slice_fromN (l:List Nat) (a:Nat) (h:a<=l.length):Txt.slice (txt l) (some (a:Int)) none=txt (l.drop a):=by
 apply Zcp
 rw[slice_from_eq (x:=txt l) (i:=(a:Int)) (b:=((txt l).length:Int)) ⋯ (by rw[Zu];omega) rfl]
 simp only[txt,Str.length,YV,Yr]
 rw[show((l.length:Int)-(a:Int)).toNat=l.length-a by omega,List.take_of_length_le (by simp)]
theorem slice_one (l:List Nat):(Txt.slice (txt l) none (some 1)=Str.ofString "-")↔l.head?=some 45:=by
 rw[ZaZ]
 cases l with
 |nil=>decide +kernel
 |cons a r =>
  have e:Txt.slice (txt (a::r)) none (some 1)=txt [a]:=by
   have:=beq_iff_eq.mp (slice_closes_toL (x:=txt (a::r)) (j:=1) ⋯ (by rw[Zu];simp;omega))
   rw[this]
   simp[txt]
  rw[e]
  constructor
  .intro z
   have:=congrArg cds z
   rw[cds_txt]at this
   have this:[a]=[45]:=this
   cases this;rfl
  .intro z
   cases z;rfl
theorem remP_figs (w:List Nat):Txt.removeprefix (txt w) (Str.ofString "-")=txt (figs w):=by
 have e1:(Str.ofString "-").length=1:=by decide +kernel
 rw[StrLaws.removeprefix_eq,figs_eq]
 by_cases hw:w.head?=some 45
 .have hs:(decide (0+(Str.ofString "-").length<=(txt w).length)&&Builtin.Str.subAt (txt w) (Str.ofString "-") 0)=true:=by
   rw[ZaZ,Bool.and_eq_true,decide_eq_true_iff]
   refine(StrLaws.subAt_one (txt w) 45 0).mpr ?_
   show(cds (txt w))[0]?=some 45
   rw[cds_txt]
   cases w with
   |nil=>cases hw
   |cons a r=>exact hw
  rw[Yc hs,Yc hw,e1]
  apply Zcp
  cases w with
  |nil=>cases hw
  |cons a r=>simp[txt,Str.length]
 .have hs:(decide (0+(Str.ofString "-").length<=(txt w).length)&&Builtin.Str.subAt (txt w) (Str.ofString "-") 0)≠true:=by
   rw[ZaZ]
   intro z
   rw[Bool.and_eq_true,decide_eq_true_iff]at z
   have:=(StrLaws.subAt_one (txt w) 45 0).mp z
   have this:(cds (txt w))[0]?=some 45:=this
   rw[cds_txt]at this
   cases w with
   |nil=>cases this
   |cons a r=>exact hw this
  rw[Yb hs,Yb hw]
theorem asc_txt {f:List Nat} (h:∀c∈f,c<128):Txt.isascii (txt f)=true:=by
 unfold Txt.isascii
 rw[<-Array.all_toList,List.all_eq_true]
 intro c hc
 have:=h c (by simpa[txt]using hc)
 simpa using this
theorem dig_txt {f:List Nat} (h:∀c∈f,c<128):Txt.isdigit (txt f)=(!f.isEmpty&&f.all λc=>decide (48<=c/\c<=57)):=by
 have key:∀c<128,Unicode.isDigit c=decide (48<=c/\c<=57):=by decide +kernel
 unfold Txt.isdigit
 have e:(txt f).cps.all Unicode.isDigit=f.all λc=>decide (48<=c/\c<=57):=by
  rw[<-Array.all_toList,show(txt f).cps.toList=f from cds_txt f]
  refine Bool.eq_iff_iff.mpr ?_
  rw[List.all_eq_true,List.all_eq_true]
  exact⟨λz c hc=>by rw[<-key c (h c hc)];exact z c hc,λz c hc=>by rw[key c (h c hc)];exact z c hc⟩
 rw[e]
 congr 1
 rw[Zu]
 cases f<;>simp
theorem zero_txt (f:List Nat):Txt.startswith (txt f) (Str.ofString "0")=(f.head?==some 48):=by
 rw[Bool.eq_iff_iff]
 unfold Txt.startswith
 rw[Ze0,Bool.and_eq_true,decide_eq_true_iff]
 constructor
 .intro z
  have:=(StrLaws.subAt_one (txt f) 48 0).mp z
  have this:(cds (txt f))[0]?=some 48:=this
  rw[cds_txt]at this
  cases f with
  |nil=>cases this
  |cons a r=>simpa using this
 .intro z
  have:=(StrLaws.subAt_one (txt f) 48 0).mpr (by
   show(cds (txt f))[0]?=some 48
   rw[cds_txt]
   cases f with
   |nil=>simp at z
   |cons a r=>simpa using z)
  exact this
theorem minus_txt (l:List Nat):(txt l=Str.ofString "-")↔l=[45]:=by
 rw[ZaZ]
 exact⟨λz=>ZbD z,λz=>by rw[z];rfl⟩
theorem zero_is (l:List Nat):(txt l=Str.ofString "0")↔l=[48]:=by
 rw[Ze0]
 exact⟨λz=>ZbD z,λz=>by rw[z];rfl⟩
theorem none_txt (l:List Nat):(txt l=Str.ofString "")↔l=[]:=by
 rw[show Str.ofString ""=txt [] by decide +kernel]
 exact⟨λz=>ZbD z,λz=>by rw[z]⟩
theorem occ_dig:∀q,q<128->(Builtin.Str.occurrences (Str.ofString "0123456789") ⟨#[q]⟩ 0 (Str.ofString "0123456789").length 1).isEmpty=decide (¬ (48<=q/\q<=57)):=by decide +kernel
theorem figs_sub {w:List Nat}{c:Nat} (h:c∈figs w):c∈w:=by
 rw[figs_eq]at h
 split at h
 .exact List.mem_of_mem_tail h
 .exact h
theorem figs_len (w:List Nat):(figs w).length<=w.length:=by
 rw[figs_eq]
 split
 .rw[List.length_tail];omega
 .exact Yd _
theorem wds_asc {N:Nat}{l:List Nat} (h:(∀c∈l,c<128)/\l.length<=N) {w:List Nat} (hw:w∈wds l):(∀c∈w,c<128)/\w.length<=N:=by
 have e:=wds_join l
 refine⟨λc hc=>h.1 c (by rw[<-e];exact jl_mem hw c hc),?_⟩
 have:=jl_len (s:=32) hw
 rw[e]at this
 omega
theorem wds_many (l:List Nat):(wds l).length<=l.length+1:=by
 have:=jl_many (s:=32) (A:=wds l)
 rwa [wds_join]at this
noncomputable def Asc (N:Nat) (l:List Nat):Prop:=(∀c∈l,c<128)/\l.length<=N
noncomputable def TreeB (l:List Nat):Prop:=l=[45]\/(l≠[]/\OkB l)
noncomputable def sp_read_number:SpT:=λK mg vs H Q E=>∃w:List Nat,vs=[.str (txt w)]/\Asc 25000 w/\Q (optI (numR w)) H
noncomputable def sp_read_row:SpT:=λK mg vs H Q E=>∃l:List Nat,vs=[.str (txt l)]/\Asc 25000 l/\(∀ns,rowR l=some ns->∀(t:Addr) H',Zh H H'->H' t=some (.tup (ns.map V.int))->Q (.ref t) H')/\(rowR l=none->∀H',Zh H H'->E (.ref (clsAt mg "NoText")) none H')
noncomputable def sp_row_text:SpT:=λK mg vs H Q E=>∃(r:Addr) (ns:List Int),vs=[.ref r]/\(SqL K H r (ns.map V.int)\/SqT K H r (ns.map V.int))/\Few ns/\∀H',Zh H H'->Q (.str (rowS ns)) H'
noncomputable def sp_tree_text:SpT:=λK mg vs H Q E=>∃(t:Addr) (T:List Int),vs=[.ref t]/\H t=some (.tup (T.map V.int))/\T.length<=1000/\((∃ns:List Int,T.length<=40/\ZV ns T/\∀H',Zh H H'->Q (.str (Zex (ZZ (nth ns) ns.length))) H')\/(¬ ZeO T/\∀H',Zh H H'->E (.ref (clsAt mg "NoTree")) none H'))
noncomputable def sp_read_tree:SpT:=λK mg vs H Q E=>∃l:List Nat,vs=[.str (txt l)]/\Asc 1000 l/\(TreeB l->∀(u:Addr) (ns es:List Int) H',Zh H H'->es.length<=40->ZV ns es->Zex (ZZ (nth ns) ns.length)=txt l->H' u=some (.tup (es.map V.int))->Q (.ref u) H')/\(¬ TreeB l->∀n H',Zh H H'->E (.ref (clsAt mg "NoText")) n H')
noncomputable def sp__law_number_read:SpT:=λK mg vs H Q E=>∃w:List Nat,vs=[.str (txt w)]/\Asc 25000 w/\∀H',Zh H H'->Q (optI (numR w)) H'
noncomputable def sp__law_row_read:SpT:=λK mg vs H Q E=>∃l:List Nat,vs=[.str (txt l)]/\Asc 25000 l/\(∀ns,rowR l=some ns->∀(t:Addr) H',Zh H H'->H' t=some (.tup (ns.map V.int))->Q (.ref t) H')/\(rowR l=none->∀H',Zh H H'->Q .non H')
noncomputable def Way80 (way:Int) (l:List Nat) (D:Prop):Prop:=(way=0/\Asc 25000 l/\(D↔rowR l≠none))\/(way=1/\Asc 1000 l/\(D↔TreeB l))
noncomputable def sp__law_asked:SpT:=λK mg vs H Q E=>∃(way:Int) (l:List Nat) (D:Prop),vs=[.int way,.str (txt l)]/\Way80 way l D/\(D->∀H',Zh H H'->Q (.str (txt l)) H')/\(¬ D->∀(e:Addr) H',Zh H H'->H' e=some (Zd9 e (clsAt mg "NoText"))->Q (.ref e) H')
noncomputable def sp__law_right:SpT:=λK mg vs H Q E=>∃(way:Int) (l:List Nat) (D:Prop),vs=[.int way,.str (txt l)]/\Way80 way l D/\∀H',Zh H H'->Q (.bl true) H'
noncomputable def sp__law_any_sign:SpT:=λK mg vs H Q E=>∃(p:Addr),vs=[.ref p]/\ZJ H p/\∀(l:List Nat) H',Asc 1 l->ZJ H' p->Exc p H H'->Q (.str (txt l)) H'
noncomputable def sp__law_spoilt:SpT:=λK mg vs H Q E=>∃(p:Addr) (l o:List Nat),vs=[.ref p,.str (txt l),.str (txt o)]/\Asc 12000 l/\Asc 20 o/\o≠[]/\ZJ H p/\∀(m:List Nat) H',Asc (2*l.length+1) m->ZJ H' p->Exc p H H'->Q (.str (txt m)) H'
noncomputable def sp__law_row_text:SpT:=λK mg vs H Q E=>∃(r:Addr) (ns:List Int),vs=[.ref r]/\SqL K H r (ns.map V.int)/\ns.length<=41/\(∀x∈ns,x.natAbs<10 ^ 60)/\∀(l:List Nat) H',Asc 2600 l->Zh H H'->Q (.str (txt l)) H'
section
variable {P:Program}{w:World}{K:PySem.W.Frag}{mg:Str->Option Value}{base:Heap}
theorem sc_settle:FnScope ["elders","spine","place","keep"] ["elders","spine","place","keep"] (defScope s_settle):=by infer_instance
theorem sc_tree_of:FnScope ["row","elders","spine","place","keep"] ["row"] (defScope s_tree_of):=by infer_instance
theorem sc_way_up:FnScope ["tree","place","way","at"] ["tree","place"] (defScope s_way_up):=by infer_instance
theorem sc_is_tree:FnScope ["tree","depths"] ["tree"] (defScope s_is_tree):=by infer_instance
theorem sc_need_tree:FnScope ["tree"] ["tree"] (defScope s_need_tree):=by infer_instance
theorem sc_fences_of:FnScope ["tree","fences","place","way","ahead","behind"] ["tree"] (defScope s_fences_of):=by infer_instance
theorem sc_drops_of:FnScope ["tree","drops","ahead","behind"] ["tree"] (defScope s_drops_of):=by infer_instance
theorem sc_brackets_of:FnScope ["tree","drops","still"] ["tree"] (defScope s_brackets_of):=by infer_instance
theorem sc_need_short:FnScope ["told"] ["told"] (defScope s_need_short):=by infer_instance
theorem sc_by_drops:FnScope ["told","elders","spine","place","drop"] ["told"] (defScope s_by_drops):=by infer_instance
theorem sc_by_brackets:FnScope ["text","drops","closed","sign","tree"] ["text"] (defScope s_by_brackets):=by infer_instance
theorem sc_row_text:FnScope ["row"] ["row"] (defScope s_row_text):=by infer_instance
theorem sc_tree_text:FnScope ["tree","brackets"] ["tree"] (defScope s_tree_text):=by infer_instance
theorem sc_read_number:FnScope ["word","figures"] ["word"] (defScope s_read_number):=by infer_instance
theorem sc_read_row:FnScope ["text","numbers"] ["text"] (defScope s_read_row):=by infer_instance
theorem sc_read_tree:FnScope ["text"] ["text"] (defScope s_read_tree):=by infer_instance
theorem sc__law_pot:FnScope ["script","k","cell","great","one","turn"] ["script","k"] (defScope s__law_pot):=by infer_instance
theorem sc__law_take:FnScope ["pot","many","digit"] ["pot","many"] (defScope s__law_take):=by infer_instance
theorem sc__law_row:FnScope ["pot","most","many","way","row","last","k","far"] ["pot","most"] (defScope s__law_row):=by infer_instance
theorem sc__law_drops:FnScope ["row","found","place","still"] ["row"] (defScope s__law_drops):=by infer_instance
theorem sc__law_brackets:FnScope ["drops","text"] ["drops"] (defScope s__law_brackets):=by infer_instance
theorem sc__law_are_brackets:FnScope ["text","opened","sign"] ["text"] (defScope s__law_are_brackets):=by infer_instance
theorem sc__law_any_sign:FnScope ["pot","some"] ["pot"] (defScope s__law_any_sign):=by infer_instance
theorem sc__law_spoilt:FnScope ["pot","text","often","at","sign","made"] ["pot","text","often"] (defScope s__law_spoilt):=by infer_instance
theorem sc__law_number_read:FnScope ["word","figures"] ["word"] (defScope s__law_number_read):=by infer_instance
theorem sc__law_row_read:FnScope ["text","row"] ["text"] (defScope s__law_row_read):=by infer_instance
theorem sc__law_row_text:FnScope ["row"] ["row"] (defScope s__law_row_text):=by infer_instance
theorem sc__law_kinds:FnScope ["e","some"] ["e"] (defScope s__law_kinds):=by infer_instance
theorem sc__law_alone:FnScope ["e","at"] ["e","at"] (defScope s__law_alone):=by infer_instance
theorem sc__law_asked:FnScope ["way","text","found","e"] ["way","text"] (defScope s__law_asked):=by infer_instance
theorem sc__law_right:FnScope ["way","text","due","found"] ["way","text"] (defScope s__law_right):=by infer_instance
theorem sc_law:FnScope ["script","odd","k","pot","row","drops","way","text","turn","bent","bend"] ["script"] (defScope s_law):=by infer_instance
theorem scan_more:∀(t a:List Nat) (c:Nat),((t.foldl ZF (a,c)).1=a/\c<=(t.foldl ZF (a,c)).2)\/∃d r,c<=d/\(t.foldl ZF (a,c)).1=a++d::r
 |[],a,c=>.inl ⟨rfl,Yd _⟩
 |x::t,a,c=>by
  rw[List.foldl_cons]
  unfold ZF
  by_cases z:x=40
  .rw[Yc z]
   rcases scan_more t (a++[c]) 0 with⟨h,_⟩|⟨d,r,_,h⟩
   .exact .inr ⟨c,[],Yd _,h⟩
   .exact .inr ⟨c,d::r,Yd _,h.trans (by simp)⟩
  .rw[Yb z]
   rcases scan_more t a (c+1)with⟨h,h2⟩|⟨d,r,h2,h⟩
   .exact .inl ⟨h,Yf (Y3 c) h2⟩
   .exact .inr ⟨d,r,⋯,h⟩
theorem braL_app (a b:List Nat):ZaH (a++b)=ZaH a++ZaH b:=by simp[ZaH]
theorem scan_back:∀(t a:List Nat) (c:Nat),(∀x∈t,x=40\/x=41)->ZaH (t.foldl ZF (a,c)).1++List.replicate (t.foldl ZF (a,c)).2 41=ZaH a++List.replicate c 41++t
 |[],a,c,_=>by simp
 |x::t,a,c,h=>by
  rw[List.foldl_cons]
  rcases h x (by simp)with rfl|rfl
  .have:=scan_back t (a++[c]) 0 λy hy=>h y (by simp[hy])
   rw[show ZF (a,c) 40=(a++[c],0)from rfl,this,braL_app]
   simp[ZaH]
  .have:=scan_back t a (c+1) λy hy=>h y (by simp[hy])
   rw[show ZF (a,c) 41=(a,c+1)from rfl,this,List.replicate_succ']
   simp
theorem braL_bal:∀a:List Nat,(ZaH a).count 40=a.length/\(ZaH a).count 41=a.sum
 |[]=>by simp[ZaH]
 |d::a=>by
  obtain⟨h1,h2⟩:=braL_bal a
  have e:ZaH (d::a)=List.replicate d 41++[40]++ZaH a:=by simp[ZaH]
  rw[e]
  simp only[List.count_append,List.count_replicate,h1,h2,YC,List.sum_cons]
  constructor<;>simp<;>omega
theorem bal_bra (a:List Nat) (c:Nat):balB (ZaH a++List.replicate c 41)=(a.length:Int)-a.sum-c:=by
 obtain⟨h1,h2⟩:=braL_bal a
 unfold balB
 simp only[List.count_append,List.count_replicate,h1,h2]
 simp
 omega
theorem bal_scan {l:List Nat} (h:∀x∈l,x=40\/x=41):l=ZaH (l.foldl ZF ([],0)).1++List.replicate (l.foldl ZF ([],0)).2 41/\balB l=((l.foldl ZF ([],0)).1.length:Int)-(l.foldl ZF ([],0)).1.sum-(l.foldl ZF ([],0)).2:=by
 have e:=scan_back l [] 0 h
 have e':l=ZaH (l.foldl ZF ([],0)).1++List.replicate (l.foldl ZF ([],0)).2 41:=by rw[e];simp[ZaH]
 refine⟨e',?_⟩
 conv=>lhs;rw[e']
 exact bal_bra _ _
theorem areDrops_nat (a:List Nat):AreDrops (a.map λ(d:Nat)=>(d:Int))↔a.length<=40/\∀p,p<a.length->(a.take (p+1)).sum<=p:=by
 unfold AreDrops
 rw[Yj]
 refine and_congr_right λ_=>forall_congr' λp=>imp_congr_right λhp=>?_
 have e1:nth (a.map λ(d:Nat)=>(d:Int)) p=(a.getD p 0:Nat):=by simp[nth,Yi,hp]
 have e2:(a.take (p+1)).sum=(a.take p).sum+a.getD p 0:=by
  rw[YQ,Yg hp,List.sum_append]
  simp[Yi,hp]
 rw[e1,<-List.map_take,Z4,e2]
 omega
theorem bra_iff (l:List Nat):AreBra l↔OkB l:=by
 constructor
 .rintro⟨h1,h2,h3⟩
  have hall:∀x∈l,x=40\/x=41:=λx hx=>by
   obtain⟨i,hi,e⟩:=Y9 hx
   have:=(h1 i hi).1
   rw[show l.getD i 0=x by simp[Yi,hi,e]]at this
   exact this
  obtain⟨e,eb⟩:=bal_scan hall
  refine⟨hall,(areDrops_nat _).mpr ?_,⋯⟩
  have el:=congrArg List.length e
  rw[Yn,List.length_replicate,Za2]at el
  generalize (l.foldl ZF ([],0)).1=a at e eb el
  generalize (l.foldl ZF ([],0)).2=c at e eb el
  refine⟨⋯,λp hp=>?_⟩
  have es:(a.take (p+1)).sum=(a.take p).sum+a.getD p 0:=by
   rw[YQ,Yg hp,List.sum_append]
   simp[Yi,hp]
  have ea:a=a.take p++[a.getD p 0]++a.drop (p+1):=by
   have:[a.getD p 0]=a[p]?.toList:=by simp[Yi,hp]
   rw[this,<-YQ,Y8]
  have hpl:(a.take p).length=p:=by simp;omega
  have hb:=bal_bra (a.take p) (a.getD p 0)
  rw[hpl]at hb
  have hpre:∃r,l=(ZaH (a.take p)++List.replicate (a.getD p 0) 41)++40::r:=by
   refine⟨ZaH (a.drop (p+1))++List.replicate c 41,?_⟩
   rw[e]
   conv=>lhs;rw[ea]
   rw[braL_app,braL_app]
   simp[ZaH]
  obtain⟨r,hr⟩:=hpre
  generalize hj:ZaH (a.take p)++List.replicate (a.getD p 0) 41=m at hb hr
  cases hm:m.length with
  |zero =>
   have:m=[]:=List.eq_nil_of_length_eq_zero hm
   rw[this,show balB []=0 from rfl]at hb
   omega
  |succ j =>
   have h4:=(h1 j (by rw[hr];simp;omega)).2
   have h5:l.take (j+1)=m:=by rw[<-hm,hr,List.take_left]
   rw[h5]at h4
   omega
 .rintro⟨h1,h2,h3⟩
  obtain⟨h4,h5⟩:=(areDrops_nat _).mp h2
  obtain⟨e,eb⟩:=bal_scan h1
  have el:=congrArg List.length e
  rw[Yn,List.length_replicate,Za2]at el
  refine⟨λi hi=>⟨h1 _ (by rw[show l.getD i 0=l[i] by simp[Yi,hi]];exact YK hi),?_⟩,⋯,⋯⟩
  have hp1:∀x∈l.take (i+1),x=40\/x=41:=λx hx=>h1 x (List.mem_of_mem_take hx)
  rw[(bal_scan hp1).2]
  have hs:l.foldl ZF ([],0)=(l.drop (i+1)).foldl ZF ((l.take (i+1)).foldl ZF ([],0)):=by
   rw[<-List.foldl_append,Y8]
  have hm:=scan_more (l.drop (i+1)) ((l.take (i+1)).foldl ZF ([],0)).1 ((l.take (i+1)).foldl ZF ([],0)).2
  rw[show(((l.take (i+1)).foldl ZF ([],0)).1,((l.take (i+1)).foldl ZF ([],0)).2)=(l.take (i+1)).foldl ZF ([],0)from rfl,<-hs]at hm
  generalize l.foldl ZF ([],0)=ac at hm h3 h4 h5
  generalize (l.take (i+1)).foldl ZF ([],0)=bd at hm
  rcases hm with⟨m1,m2⟩|⟨d,r,m1,m2⟩
  .rw[<-m1];omega
  .have:=h5 bd.1.length (by rw[m2];simp)
   rw[m2,List.take_length_add_append,List.sum_append]at this
   simp at this
   omega
theorem ok_bra {l:List Nat} (h:OkB l):Zea (l.foldl ZF ([],0)).1=l:=by
 obtain⟨h1,h2,h3⟩:=h
 have e:=(bal_scan h1).1
 conv=>rhs;rw[e]
 unfold Zea
 rw[show(l.foldl ZF ([],0)).1.length-(l.foldl ZF ([],0)).1.sum=(l.foldl ZF ([],0)).2 by omega]
theorem ok__law_kinds {f:Addr}{fd:FuncData} (F:Fun K "_law_kinds" "_law_kinds" s__law_kinds f fd) (T:Txt K mg):FnOk P w K mg base (CXE P w) 1 f fd ["e"] (sp__law_kinds K mg):=by
 refine F.okX sc__law_kinds (λvs H Q E h=>?_) (λcdv A outer s H vs Q E hr h=>?_)
 .obtain⟨e,rfl,_⟩:=h;rfl
 obtain⟨e,rfl,he,k1⟩:=h
 refine⟨_,(Zc (Zl (i:=1) sc__law_kinds.nd rfl (Or.inl rfl) (ZY (Za (Zg (ZM (K:=K) rfl) rfl T.b_isinstance Zt (Za (pv 0) (Za (ZP (v:=.ref (clsAt mg "Unlike")) rfl T.c_Unlike rfl) Zb))) (Za (Zg (ZM (K:=K) rfl) rfl T.b_isinstance Zt (Za (pv 0) (Za (ZP (v:=.ref (clsAt mg "Empty")) rfl T.c_Empty rfl) Zb))) (Za (Zg (ZM (K:=K) rfl) rfl T.b_isinstance Zt (Za (pv 0) (Za (ZP (v:=.ref (clsAt mg "TooMany")) rfl T.c_TooMany rfl) Zb))) (Za (Zg (ZM (K:=K) rfl) rfl T.b_isinstance Zt (Za (pv 0) (Za (ZP (v:=.ref (clsAt mg "NoTree")) rfl T.c_NoTree rfl) Zb))) Zb))))))
   (Zc (Zl (i:=1) sc__law_kinds.nd rfl (Or.inl rfl) (Zk ZdA (pv 1) (ZY (Za (Zg (ZM (K:=K) rfl) rfl T.b_isinstance Zt (Za (pv 0) (Za (ZP (v:=.ref (clsAt mg "NoTelling")) rfl T.c_NoTelling rfl) Zb))) (Za (Zg (ZM (K:=K) rfl) rfl T.b_isinstance Zt (Za (pv 0) (Za (ZP (v:=.ref (clsAt mg "NoPlace")) rfl T.c_NoPlace rfl) Zb))) (Za (Zg (ZM (K:=K) rfl) rfl T.b_isinstance Zt (Za (pv 0) (Za (ZP (v:=.ref (clsAt mg "NoNumber")) rfl T.c_NoNumber rfl) Zb))) Zb))))))
   (Zc (Zl (i:=1) sc__law_kinds.nd rfl (Or.inl rfl) (Zk ZdA (pv 1) (ZY (Za (Zg (ZM (K:=K) rfl) rfl T.b_isinstance Zt (Za (pv 0) (Za (ZP (v:=.ref (clsAt mg "NoPast")) rfl T.c_NoPast rfl) Zb))) (Za (Zg (ZM (K:=K) rfl) rfl T.b_isinstance Zt (Za (pv 0) (Za (ZP (v:=.ref (clsAt mg "NoText")) rfl T.c_NoText rfl) Zb))) (Za (Zg (ZM (K:=K) rfl) rfl T.b_isinstance Zt (Za (pv 0) (Za (ZP (v:=.ref (clsAt mg "NoLine")) rfl T.c_NoLine rfl) Zb))) Zb))))))
   (Ze (Zr (Zk ZdA (pv 1) (ZY (Za (Zg (ZM (K:=K) rfl) rfl T.b_isinstance Zt (Za (pv 0) (Za (ZP (v:=.ref (clsAt mg "DipError")) rfl T.c_DipError rfl) Zb))) (Za (Zg (ZM (K:=K) rfl) rfl T.b_isinstance Zt (Za (pv 0) (Za (Zer (v:=.ty "ValueError") rfl T.b_ValueError Zcw rfl) Zb))) Zb))))))))),?_⟩
 right
 have Z:=T.ex_NoText
 refine⟨_,tyE he Z T.is_NoText_Unlike,_,tyE he Z T.is_NoText_Empty,_,tyE he Z T.is_NoText_TooMany,_,tyE he Z T.is_NoText_NoTree,by decide,λp1 h1=>?_⟩
 have s1:=(Zh.refl H).upd (o:=.lst [V.bl false,V.bl false,V.bl false,V.bl false]) h1
 refine⟨_,tyE (s1 _ _ he) Z T.is_NoText_NoTelling,_,tyE (s1 _ _ he) Z T.is_NoText_NoPlace,_,tyE (s1 _ _ he) Z T.is_NoText_NoNumber,by decide,λp2 h2=>⟨_,((Zh.refl _).ZH h2) _ _ Zd,_,Zd,by decide,λp3 h3=>?_⟩⟩
 have s3:=(s1.ZH h2).ZH (o:=.lst ([V.bl false,V.bl false,V.bl false,V.bl false]++[V.bl false,V.bl false,V.bl false])) h3
 refine⟨_,tyE (s3 _ _ he) Z T.is_NoText_NoPast,_,tyE (s3 _ _ he) Z T.is_NoText_NoText,_,tyE (s3 _ _ he) Z T.is_NoText_NoLine,by decide,λp4 h4=>⟨_,((Zh.refl _).ZH h4) _ _ Zd,_,Zd,by decide,λp5 h5=>?_⟩⟩
 have s5:=(s3.ZH h4).ZH (o:=.lst ([V.bl false,V.bl false,V.bl false,V.bl false]++[V.bl false,V.bl false,V.bl false]++[V.bl false,V.bl true,V.bl false])) h5
 refine⟨_,tyE (s5 _ _ he) Z T.is_NoText_DipError,_,tyE (s5 _ _ he) Z T.is_NoText_V,by decide,λp6 h6=>⟨_,((Zh.refl _).ZH h6) _ _ Zd,_,Zd,by decide,λp7 h7=>k1 p7 _ ((s5.ZH h6).ZH h7) (by rw[Zd];rfl)⟩⟩
theorem ok__law_alone {f:Addr}{fd:FuncData} (F:Fun K "_law_alone" "_law_alone" s__law_alone f fd) (ZbE:Callee P w K mg base "_law_kinds" 1 ["e"] (sp__law_kinds K mg)) (T:Txt K mg):FnOk P w K mg base (CXE P w) 2 f fd ["e","at"] (sp__law_alone K mg):=by
 refine F.okX sc__law_alone (λvs H Q E h=>?_) (λcdv A outer s H vs Q E hr h=>?_)
 .obtain⟨e,rfl,_⟩:=h;rfl
 obtain⟨e,rfl,he,k1⟩:=h
 refine⟨_,(Zc (ZN (Zq op_isN (pv 0) Zba (Zo _)) (Ze (Zr Zcu)) Zy)
   (Ze (Zr (ZQ (Zh0 (K:=K) rfl hr) (Zi ZbE (hr.mono nofun) rfl ZA (Za (pv 0) Zb)) (Zk ZdA (Z3 ["k","at"] [none,some 1] rfl rfl rfl (ZW rfl T.b_range (Za Zf Zb)) (λ_ _ _ _ _=>(Zw (i:=0) (show(["k","at"]:List Str).Nodup from by decide +kernel) rfl (Or.inl rfl))) (λ_ _ _ _ _=>Zaa) (λ_ _ _ _ _=>(ZQ Z1 (pv 0) (pv 1) (Zo _))) ZL) (ZY (Za Zcu (Za Zcu Zb)))) (Zo _))))),?_⟩
 right
 refine ZG (λz=>nomatch z) λ_=>⟨e,rfl,he,λl H1 s1 h1=>⟨by decide,by decide,?_⟩⟩
 refine comp_map (n:=10) (λj=>V.bl (decide (0+(j:Int)=8))) nofun (λj Hx s hj=>hj) (λHx s=>Yd _) ?_ ?_
 .rintro j x Hx Hy hj s ⟨rfl,rfl⟩
  right
  exact CW.next hj rfl s
 .intro l2 Hx s hl2
  refine⟨by decide,λp3 h3=>⟨l2,rfl,_,((Zh.refl _).ZH h3) _ _ Zd,_,Zd,by decide,λp4 h4=>⟨l,rfl,_,ZkN (n:=2) Zj7 _ _ kindsV kindsV (ZfJ (SqL.of ((((s.ZH hl2).ZH h3).ZH h4) _ _ h1))) (ZfJ (SqL.of (by rw[Zd];rfl))),?_⟩⟩⟩
  have:=k1 _ (((((s1.trans s).ZH hl2).ZH h3).ZH (o:=.lst ((List.range 10).map (λ(j:Nat)=>V.bl (decide (0+(j:Int)=8)))++[V.bl true,V.bl true])) h4))
  simpa using this
theorem ok__law_pot {f:Addr}{fd:FuncData} (F:Fun K "_law_pot" "_law_pot" s__law_pot f fd) (T:Txt K mg):FnOk P w K mg base (CXE P w) 1 f fd ["script","k"] (sp__law_pot K mg):=by
 refine F.okX sc__law_pot (λvs H Q E h=>?_) (λcdv A outer s H vs Q E hr h=>?_)
 .obtain⟨a,ns,k,rfl,_⟩:=h;rfl
 obtain⟨a,ns,k,rfl,hS,h0,h1,k1⟩:=h
 refine⟨_,(Zc (Zl (i:=2) sc__law_pot.nd rfl (Or.inl rfl) Zf)
   (Zc (ZN (Zq Zc7 (pv 1) (Zg (Zp (K:=K) rfl) rfl T.b_len Yl (Za (pv 0) Zb)) (Zo _)) (Ze (Zl (i:=2) sc__law_pot.nd rfl (Or.inl rfl) (Z2 Z6 (pv 0) (pv 1) (λ_ _=>rfl)))) Zy)
   (Zc (ZN (Zq op_ge (pv 2) (Zk Zb4 Zf Zf) (Zo _)) (Ze (Zr (ZY (Za (Zk Zdz (Zk Zbb (pv 2) (Zk Zb4 Zf Zf)) (Zk Zat (Zk Zat (Zk Zat (Zk Zb4 Zf Zf) (Zk Zb4 Zf Zf)) (Zk Zb4 Zf Zf)) (Zk Zb4 Zf Zf))) Zb)))) Zy)
   (Zc (Zl (i:=3) sc__law_pot.nd rfl (Or.inl rfl) Zf)
   (Zc (Zl (i:=4) sc__law_pot.nd rfl (Or.inl rfl) (Zk Z9 (Zk Z9 (Zk Zdz (pv 2) Zf) (Zk Zat Zf (pv 1))) Zf))
   (Zc (ZaE (ZaC PassesOwn.never rfl (ZW rfl T.b_range (Za Zf Zb)) (Zw (i:=5) sc__law_pot.nd rfl (Or.inl rfl)) (Zc (Zl (i:=4) sc__law_pot.nd rfl (Or.inl rfl) (Zk Zdz (Zk Z9 (Zk Z9 (Zk Zat (pv 4) Zf) (Zk Zat Zf (pv 5))) Zf) Zf))
   (Ze (Zl (i:=3) sc__law_pot.nd rfl (Or.inl rfl) (Zk Z9 (Zk Zat (pv 3) Zf) (Zk Zdz (Zk Zes (Zk Zdz (Zk Zat (pv 4) (pv 4)) Zf) Zf) Zf)))))))
   (Ze (Zr (ZY (Za (pv 3) Zb)))))))))),?_⟩
 simp only[tIfS,tNot,tTest,tChain,rI0,rI,rU,tVar,tC,tB,tIf,tAndV,tOrV,tCall,tCallX,tCons,tNil,tAsg,tSeq,tRet,tNext,tOp,tUn,tAnd,tOr,tDrop,gName,gSub,tAug,tCB,tSl,tRaise,tLst,tTup,Lake.start,tYes,gTup,gCons,gNil,iniC,Option.join_some,Option.join_none,rEq,rNe,Zgi,Zgj,Zgk,Zgl,Zgm,Zgn,tBM,Bool.true_eq_false,YO,List.map_nil,List.cons_append,List.nil_append,YC,List.length_nil,List.replicate,List.append_nil,List.set_cons_zero,List.set_cons_succ,List.getElem?_cons_zero,List.getElem?_cons_succ,Option.some.injEq,V.int.injEq,V.bl.injEq,V.ref.injEq,List.cons.injEq,and_true,true_and,exists_eq_left,exists_eq_left',exists_and_left,exists_eq,decide_eq_true_eq,Bool.not_eq_true',decide_eq_false_iff_not,cxK,and_assoc,Bool.false_eq_true,↓reduceIte,Zgg,ZdD,ZeF,iRng1,iRng2,iList,iTup,rIxL,rIxT,rSetL,rCat,rIsi,rSum,tDelT,rIntB,rInsert,rLen,rTof,rSlS,rIxS,iSeq,tBM0,rEqD,rIn,iEnumT,tMaxD,tMinD,rOr,rAll,rAny,rIxQ,tPart,tNoPart,tSl,ipI,rAppend,rRep,Zgo,ZhZ,tAugS,rMulS,rJoin,iStr,rSumT,V.str.injEq,rLenS,rRemP,rIsAsc,rIsDig,rStarts,rStrI,rIntS,rSplit,rSlS,rIxS,cp18,cp60,qm1,qm2,qm3,qm4]
 have fin:∀g:Int,0<=g->∀p,H p=none->Q (V.ref p) (upd H p (.lst [V.int g])):=λg hg p hp=>k1 p _ hp ((Zh.refl H).upd hp) ⟨_,Zd,hg⟩
 refine⟨_,.inl hS,ZG (λhk=>?_) (λhk=>?_)⟩
 case' refine_1 =>
  obtain⟨j,hj0⟩:=Y6 h0
  have hj:j<(ns.map V.int).length:= ⋯
  refine⟨_,hS,_,ZdE hj0 hj,ns[j]'(by simpa using hj),by simp,ZG (λ_=>⟨ns[j]'(by simpa using hj),by simp,by decide,fin _ (Int.emod_nonneg _ (by decide +kernel))⟩) (λ_=>⟨ns[j]'(by simpa using hj),by simp,by decide,ZeG nofun nofun,by decide,by decide,?_⟩)⟩
 case' refine_2 =>
  refine ZG (λz=>absurd z nofun) (λ_=>⟨by decide,ZeG nofun nofun,by decide,by decide,?_⟩)
 all_goals
  refine Zac (λi σ H'=>∃v2 g o v5,σ=[some (.ref a),some (.int k),v2,some (.int g),some (.int o),v5]/\0<=g/\H'=H) ⟨_,0,_,none,rfl,Int.le_refl _,rfl⟩ ?_ ?_
  .rintro i σ H' hi ⟨v2,g,o,v5,rfl,hg,rfl⟩
   right
   have b1:=Int.emod_nonneg (o*48271+7919*(0+(i:Int))+104729) (b:=2147483647) nofun
   have b2:=Int.emod_lt_of_pos (o*48271+7919*(0+(i:Int))+104729) (b:=2147483647) nofun
   refine⟨mul_r nofun nofun,ZeG nofun nofun,by decide,mul_r nofun nofun,ZeG ⋯ ⋯,by decide,⟨by decide,by decide⟩,by decide,?_⟩
   have b3:=Int.emod_nonneg ((o*48271+7919*(0+(i:Int))+104729) % 2147483647*((o*48271+7919*(0+(i:Int))+104729) % 2147483647) % 2147483629 / 128) (b:=1048576) nofun
   have b4:=Int.mul_nonneg hg (show(0:Int)<=1048576 by decide)
   omega
  .rintro σ H' ⟨v2,g,o,v5,rfl,hg,rfl⟩
   right
   exact⟨by decide,fin g hg⟩
theorem ok__law_take {f:Addr}{fd:FuncData} (F:Fun K "_law_take" "_law_take" s__law_take f fd) (T:Txt K mg):FnOk P w K mg base (CXE P w) 1 f fd ["pot","many"] (sp__law_take K mg):=by
 refine F.okX sc__law_take (λvs H Q E h=>?_) (λcdv A outer s H vs Q E hr h=>?_)
 .obtain⟨p,many,rfl,_⟩:=h;rfl
 obtain⟨p,many,rfl,h0,h1,⟨x,hp,hx⟩,k1⟩:=h
 refine⟨_,(Zc (Zl (i:=2) sc__law_take.nd rfl (Or.inl rfl) (Zk Zdz (Z2 Z6 (pv 0) Zf (λ_ _=>rfl)) (pv 1)))
   (Zc (ZhO (Zk Zes (Z2 Z6 (pv 0) Zf (λ_ _=>rfl)) (pv 1)) (ZhN (pv 0) Zf set_list (λ_=>rfl)))
   (Ze (Zr (pv 2))))),?_⟩
 right
 refine⟨_,SqL.of hp,_,rfl,_,rfl,h0,?_⟩
 refine⟨_,SqL.of hp,_,rfl,_,rfl,⟨h0,⋯⟩,_,hp,_,rfl,?_⟩
 exact k1 _ _ (Int.emod_nonneg _ ⋯) (Int.emod_lt_of_pos _ h0) ⟨_,Zd,Int.ediv_nonneg hx ⋯⟩ Exc.upd
theorem ok__law_row {f:Addr}{fd:FuncData} (F:Fun K "_law_row" "_law_row" s__law_row f fd) (Zn:Callee P w K mg base "_law_take" 1 ["pot","many"] (sp__law_take K mg)) (T:Txt K mg):FnOk P w K mg base (CXE P w) 2 f fd ["pot","most"] (sp__law_row K mg):=by
 refine F.okX sc__law_row (λvs H Q E h=>?_) (λcdv A outer s H vs Q E hr h=>?_)
 .obtain⟨p,most,rfl,_⟩:=h;rfl
 obtain⟨p,most,rfl,h0,h1,hP,k1⟩:=h
 refine⟨_,(Zc (Zl (i:=2) sc__law_row.nd rfl (Or.inl rfl) (Zi Zn (hr.mono nofun) rfl ZA (Za (pv 0) (Za (Zk Z9 (pv 1) Zf) Zb))))
   (Zc (ZN (Zq Z1 (Zi Zn (hr.mono nofun) rfl ZA (Za (pv 0) (Za Zf Zb))) Zf (Zo _)) (Ze (Zl (i:=2) sc__law_row.nd rfl (Or.inl rfl) (pv 1))) Zy)
   (Zc (Zl (i:=3) sc__law_row.nd rfl (Or.inl rfl) (Zi Zn (hr.mono nofun) rfl ZA (Za (pv 0) (Za Zf Zb))))
   (Zc (Zl (i:=4) sc__law_row.nd rfl (Or.inl rfl) (ZY Zb))
   (Zc (Zl (i:=5) sc__law_row.nd rfl (Or.inl rfl) Zf)
   (Zc (ZaE (ZaC PassesOwn.never rfl (ZW rfl T.b_range (Za (pv 2) Zb)) (Zw (i:=6) sc__law_row.nd rfl (Or.inl rfl)) (Zc (Zl (i:=7) sc__law_row.nd rfl (Or.inl rfl) (Zk Z9 (Zk Zb4 Zf Zf) (Zi Zn (hr.mono nofun) rfl ZA (Za (pv 0) (Za (Zk Z9 Zf (Zk Zat (Zk Zb4 Zf Zf) (Zz Zar rfl T.b_int Zbd (Za (ZQ Z1 (pv 3) Zf (Zo _)) Zb)))) Zb)))))
   (Ze (ZN (Zq Z1 (pv 3) Zf (Zo _)) (Ze (Z5 (Zaz PySem.F.plainAttrs_list PySem.F.slot_list_insert PySem.F.type_list_insert Zjj (pv 4) (Za (Zi Zn (hr.mono nofun) rfl ZA (Za (pv 0) (Za (Zk Z9 (pv 6) Zf) Zb))) (Za (pv 6) Zb))))) (Ze (ZN (Zq Z1 (pv 3) Zf (Zo _)) (Zc (Zl (i:=5) sc__law_row.nd rfl (Or.inl rfl) (Zk Zbb (Zk Z9 (pv 5) (Zi Zn (hr.mono nofun) rfl ZA (Za (pv 0) (Za Zf Zb)))) Zf))
   (Ze (Z5 (Zaz PySem.F.plainAttrs_list PySem.F.slot_list_append PySem.F.type_list_append Zad (pv 4) (Za (pv 5) Zb))))) (Ze (ZN (Zq Z1 (pv 3) Zf (Zo _)) (Zc (Zl (i:=5) sc__law_row.nd rfl (Or.inl rfl) (Zk Z9 (Zk Zbb (pv 5) Zf) (Zk Zat Zf (Zz Zar rfl T.b_int Zbd (Za (ZQ Z1 (Zi Zn (hr.mono nofun) rfl ZA (Za (pv 0) (Za Zf Zb))) Zf (Zo _)) Zb)))))
   (Ze (Z5 (Zaz PySem.F.plainAttrs_list PySem.F.slot_list_append PySem.F.type_list_append Zad (pv 4) (Za (pv 5) Zb))))) (Ze (ZN (Zq Z1 (pv 3) Zf (Zo _)) (Ze (Z5 (Zaz PySem.F.plainAttrs_list PySem.F.slot_list_append PySem.F.type_list_append Zad (pv 4) (Za (Z2 Z6 (ZY (Za (pv 7) (Za (ZiL Zf8 (pv 7)) (Za Zf (Za (Zi Zn (hr.mono nofun) rfl ZA (Za (pv 0) (Za Zf Zb))) Zb))))) (Zi Zn (hr.mono nofun) rfl ZA (Za (pv 0) (Za Zf Zb))) (λ_ _=>rfl)) Zb)))) (Ze (Z5 (Zaz PySem.F.plainAttrs_list PySem.F.slot_list_append PySem.F.type_list_append Zad (pv 4) (Za (Zk Zbb (Zi Zn (hr.mono nofun) rfl ZA (Za (pv 0) (Za (Z2 Zb7 (Zbc (Za Zf (Za (Zk Zat Zf (pv 2)) Zb))) (pv 3) (λ_ _=>rfl)) Zb))) (pv 3)) Zb)))))))))))))))
   (Ze (Zr (pv 4))))))))),?_⟩
 right
 refine⟨p,_,rfl,⋯,⋯,hP,λd1 H1 d10 d11 P1 e1=>⟨p,_,rfl,by decide,by decide,P1,λd2 H2 d20 d21 P2 e2=>⟨rfl,?_⟩⟩⟩
 right
 refine ZG (λhz=>⟨p,_,rfl,by decide,by decide,P2,λway H3 w0 w1 P3 e30=>⟨Yq _,λq hq=>⟨⋯,⋯,?_⟩⟩⟩) (λhz=>⟨p,_,rfl,by decide,by decide,P2,λway H3 w0 w1 P3 e30=>⟨Yq _,λq hq=>⟨⋯,⋯,?_⟩⟩⟩)
 case' refine_1=>obtain⟨many,hmany,m0,m1⟩:∃m:Int,m=most/\0<=m/\m<=most:=⟨most,rfl,h0,Int.le_refl _⟩
 case' refine_2=>obtain⟨many,hmany,m0,m1⟩:∃m:Int,m=d1/\0<=m/\m<=most:=⟨d1,rfl,d10,⋯⟩
 all_goals
  have e3:Exc p H H3:=(e1.trans e2).trans e30
  have hqp:q≠p:=P3.ne hq
  have hqH:H q=none:=e3.free hqp hq
  refine Zac (λi σ H'=>∃ns last v6 v7,σ=[some (.ref p),some (.int most),some (.int many),some (.int way),some (.ref q),some (.int last),v6,v7]/\RowOk ns i last/\H' q=some (.lst (ns.map V.int))/\ZJ H' p/\Exc p H H') ⟨[],0,none,none,by rw[hmany],RowOk.nil,Zd,P3.upd hq,e3.same ((Zh.refl H3).upd hq)⟩ ?_ ?_
  .rintro i σ H' hi ⟨ns,last,v6,v7,rfl,hRo,hq',P',e'⟩
   obtain⟨hlen,hall,hlast⟩:=id hRo
   have hi':i<1000:= ⋯
   have hb:ns.length<sizeLine:=YD (show _<=1000 by omega) nofun
   right
   have e9:(10:Int) ^ Int.toNat 9=1000000000:=by decide
   rw[e9]
   have app2:∀(y last':Int) (Hx:Hp),y.natAbs<10 ^ 60->last'.natAbs<=10*(i+1)->Hx q=some (.lst (ns.map V.int))->ZJ Hx p->Exc p H Hx->∃x_1,Hx q=some (HO.lst x_1)/\x_1.length<sizeLine/\∃ns',RowOk ns' (i+1) last'/\upd Hx q (HO.lst (x_1++[V.int y])) q=some (HO.lst (List.map V.int ns'))/\ZJ (upd Hx q (HO.lst (x_1++[V.int y]))) p/\Exc p H (upd Hx q (HO.lst (x_1++[V.int y]))) :=
    λy last' Hx hy hl' hx Px ex=>⟨_,hx,by simpa using hb,ns++[y],hRo.push hy hl',by rw[Zd];simp,Px.updN hqp,ex.updN hqH⟩
   have e59:(10:Int) ^ Int.toNat 59=100000000000000000000000000000000000000000000000000000000000:=by decide
   refine⟨cp59,cp9,ZeG nofun nofun,p,_,rfl,by split<;>omega,by split<;>omega,P',λd3 H4 d30 d31 P4 e4=>⟨_,rfl,?_⟩⟩
   have hq4:H4 q=some (.lst (ns.map V.int)):=e4 _ _ hqp hq'
   have eH4:Exc p H H4:=e'.trans e4
   refine ZG (λ_=>?_) λg2=>ZG (λ_=>?_) λg3=>ZG (λ_=>?_) λg4=>ZG (λ_=>?_) λg5=>?_
   .refine⟨Zak hq4,p,_,rfl,⋯,⋯,P4,λd5 H5 d50 d51 P5 e5=>⟨_,d5,rfl,e5 _ _ hqp hq4,d50,⋯,by simpa using hb,ns.take d5.toNat++(0+(i:Int))::ns.drop d5.toNat,hRo.ins ⋯ ⋯,?_,P5.updN hqp,(eH4.trans e5).updN hqH⟩⟩
    rw[Zd];simp
   .exact⟨p,_,rfl,by decide,by decide,P4,λd5 H5 d50 d51 P5 e5=>⟨_,rfl,Zak (e5 _ _ hqp hq4),app2 _ _ H5 ⋯ ⋯ (e5 _ _ hqp hq4) P5 (eH4.trans e5)⟩⟩
   .exact⟨p,_,rfl,by decide,by decide,P4,λd5 H5 d50 d51 P5 e5=>⟨rfl,ZeG nofun nofun,Zak (e5 _ _ hqp hq4),app2 _ _ H5 (by split<;>omega) (by split<;>omega) (e5 _ _ hqp hq4) P5 (eH4.trans e5)⟩⟩
   .refine⟨Zak hq4,p,_,rfl,by decide,by decide,P4,λd5 H5 d50 d51 P5 e5=>⟨by decide,λz hz2=>⟨p,_,rfl,by decide,by decide,P5.upd hz2,λd6 H6 d60 d61 P6 e6=>?_⟩⟩⟩
    have hq5:H5 q=some (.lst (ns.map V.int)):=e5 _ _ hqp hq4
    have hq6:H6 q=some (.lst (ns.map V.int)):=e6 _ _ hqp (((Zh.refl H5).upd hz2) _ _ hq5)
    have eH6:Exc p H H6:=((eH4.trans e5).same ((Zh.refl H5).upd hz2)).trans e6
    obtain⟨v,hv,y,rfl,hyb⟩:=ZiU (xs:=[V.int (10 ^ Int.toNat 59+d3),V.int (-(10 ^ Int.toNat 59+d3)),V.int 0,V.int d5]) (i:=d6) (λv=>∃y:Int,v=V.int y/\y.natAbs<10 ^ 60) d60 d61 (by
     intro x hx
     simp at hx
     have d3b:d3<=1000000001:=by split at d31<;>omega
     rcases hx with rfl|rfl|rfl|rfl<;>refine⟨_,rfl,?_⟩<;>(try rw[e59])<;>omega)
    exact⟨_,d6,rfl,SqL.of (e6 _ _ (P5.ne hz2) Zd),_,hv,app2 y _ H6 hyb ⋯ hq6 P6 eH6⟩
   .refine⟨Zak hq4,ZeG nofun nofun,by decide,λz hz2=>?_⟩
    obtain⟨v,hv,y,rfl,hy0,hy1⟩:=ZiU (xs:=[V.int 3,V.int (4*many)]) (i:=way) (λv=>∃y:Int,v=V.int y/\0<y/\y<=4000) w0 (show way<2 by omega) (by
     intro x hx
     simp at hx
     rcases hx with rfl|rfl
     .exact⟨_,rfl,by decide,by decide⟩
     .exact⟨_,rfl,⋯,⋯⟩)
    refine⟨_,SqT.of Zd,_,hv,p,y,rfl,hy0,⋯,P4.upd hz2,λd5 H5 d50 d51 P5 e5=>⟨_,rfl,?_⟩⟩
    have hq5:H5 q=some (.lst (ns.map V.int)):=e5 _ _ hqp (((Zh.refl H4).upd hz2) _ _ hq4)
    exact app2 _ _ H5 ⋯ ⋯ hq5 P5 ((eH4.same ((Zh.refl H4).upd hz2)).trans e5)
  .rintro σ H' ⟨ns,last,v6,v7,rfl,⟨hlen,hall,_⟩,hq',P',e'⟩
   right
   exact k1 q ns H' hqH ⋯ hall hq' P' e'
theorem ok_settle {f:Addr}{fd:FuncData} (F:Fun K "settle" "settle" s_settle f fd) (T:Txt K mg):FnOk P w K mg base (CXE P w) 1 f fd ["elders","spine","place","keep"] (sp_settle K mg):=by
 refine F.okX sc_settle (λvs H Q E h=>?_) (λcdv A outer s H vs Q E hr h=>?_)
 .obtain⟨el,sp,es,A,B,i,rfl,_⟩:=h;rfl
 obtain⟨el,sp,es,A',B,i,rfl,hel,hsp,hne,hi,hq,hlen,k1⟩:=h
 refine⟨_,(Zc (ZN (Zq Zc7 (pv 3) (Zg (Zp (K:=K) rfl) rfl T.b_len Yl (Za (pv 1) Zb)) (Zo _)) (Ze (ZhO (pv 2) (ZhN (pv 0) (Z2 Z6 (pv 1) (pv 3) (λ_ _=>rfl)) set_list (λ_=>rfl)))) Zy)
   (Zc (ZN (Zq Zb5 (pv 3) Zf (Zo _)) (Ze (ZhO (Z2 Z6 (pv 1) (Zk Zbb (pv 3) Zf) (λ_ _=>rfl)) (ZhN (pv 0) (pv 2) set_list (λ_=>rfl)))) Zy)
   (Zc (Zh2 (pv 1) (pv 3))
   (Ze (Z5 (Zaz PySem.F.plainAttrs_list PySem.F.slot_list_append PySem.F.type_list_append Zad (pv 1) (Za (pv 2) Zb))))))),?_⟩
 right
 have hb1:(Zs A').length<sizeLine:=by
  rw[ZI]
  rw[Yn]at hlen
  exact YD (show _<=1000 by omega) nofun
 have etk:List.take A'.length (Zs (A'++B))=Zs A':=by
  rw[Zbp]
  have:A'.length=(Zs A').length:=(ZI A').symm
  rw[this,List.take_left]
 have hle:A'.length<=(Zs (A'++B)).length:=by rw[ZI,Yn];omega
 have esn:Zs A'++[V.int (i:Nat)]=Zs (A'++[i]):=by rw[Zbp];rfl
 refine⟨_,.inl (SqL.of hsp),?_⟩
 rw[ZI,Yn]
 -- the end: behind the two stores
 have fin:∀(es1:List Int) (Hx:Hp),(∀b o,b≠el->b≠sp->H b=some o->Hx b=some o)->Hx el=some (.lst (es1.map V.int))->Hx sp=some (.lst (Zs (A'++B)))->es1=ZbY es A' B i ->
   ∃(xs:List V) (k:Nat),(A'.length:Int)=(k:Int)/\Hx sp=some (HO.lst xs)/\k<=xs.length/\tyV K "list" (V.ref sp) (upd Hx sp (HO.lst (List.take k xs)))/\∃x,upd Hx sp (HO.lst (List.take k xs)) sp=some (HO.lst x)/\x.length<sizeLine/\Q V.non (upd (upd Hx sp (HO.lst (List.take k xs))) sp (HO.lst (x++[V.int (i:Nat)]))):=by
  intro es1 Hx h1 h2 h3 h4
  refine⟨_,A'.length,rfl,h3,hle,Zak Zd,_,Zd,by rw[etk];exact hb1,k1 _ (λb o n1 n2 z=>by rw[Zm n2,Zm n2];exact h1 b o n1 n2 z) (by rw[Zm hne,Zm hne,h2,h4]) (by rw[Zd,etk,esn])⟩
 -- elders[place]=spine[keep-1]
 have mid:∀(es1:List Int) (Hx:Hp),(∀b o,b≠el->b≠sp->H b=some o->Hx b=some o)->Hx el=some (.lst (es1.map V.int))->es1.length=es.length->Hx sp=some (.lst (Zs (A'++B)))->∀q,A'.getLast?=some q->es1.set i (q:Int)=ZbY es A' B i ->
   ∃x,SqL K Hx sp x/\∃x_1,atI x ((A'.length:Int)-1)=some x_1/\∃x,Hx el=some (HO.lst x)/\∃x_2,ixN x.length (i:Int)=some x_2/\∃(xs:List V) (k:Nat),(A'.length:Int)=(k:Int)/\upd Hx el (HO.lst (x.set x_2 x_1)) sp=some (HO.lst xs)/\k<=xs.length/\tyV K "list" (V.ref sp) (upd (upd Hx el (HO.lst (x.set x_2 x_1))) sp (HO.lst (List.take k xs))) /\
    ∃x_3,upd (upd Hx el (HO.lst (x.set x_2 x_1))) sp (HO.lst (List.take k xs)) sp=some (HO.lst x_3)/\x_3.length<sizeLine/\Q V.non (upd (upd (upd Hx el (HO.lst (x.set x_2 x_1))) sp (HO.lst (List.take k xs))) sp (HO.lst (x_3++[V.int (i:Nat)]))):=by
  intro es1 Hx h1 h2 hl1 h3 q hq h4
  have hpos:0<A'.length:=by
   cases A' with
   |nil=>cases hq
   |cons _ _=>simp
  have hat:(A'++B)[A'.length-1]?=some q:=by
   rw[Y1 ⋯]
   rw[List.getLast?_eq_getElem?]at hq;exact hq
  have ei:((A'.length:Int)-1)=((A'.length-1:Nat):Int):= ⋯
  refine⟨_,SqL.of h3,_,by rw[ei];exact ZeN hat,_,h2,i,by rw[Yj,hl1];exact Zgs hi,?_⟩
  have em:(es1.map V.int).set i (V.int (q:Nat))=(es1.set i (q:Int)).map V.int:=by rw[List.map_set]
  rw[em]
  exact fin _ _ (λb o n1 n2 z=>by rw[Zm n1];exact h1 b o n1 n2 z) Zd (by rw[Zm hne.symm];exact h3) h4
 cases B with
 |nil =>
  rw[Yb (by simp)]
  cases hq:A'.getLast? with
  |none =>
   have:A'=[]:=List.getLast?_eq_none_iff.mp hq
   rw[Yb (by rw[this];simp)]
   exact fin es H (λb o _ _ z=>z) hel hsp (by unfold ZbY;rw[hq];rfl)
  |some q =>
   have:A'≠[]:=λz=>by rw[z]at hq;cases hq
   rw[Yc (by have:=List.length_pos_iff.mpr this;omega)]
   exact mid es H (λb o _ _ z=>z) hel rfl hsp q hq (by unfold ZbY;rw[hq];rfl)
 |cons b Br =>
  rw[Yc (by simp;omega)]
  have hat:(A'++b::Br)[A'.length]?=some b:=by rw[YY (Yd _)];simp
  have hbn:b<es.length:=hq b (by simp)
  refine⟨_,SqL.of hsp,_,ZeN hat,_,_,rfl,hel,b,by rw[Yj];exact Zgs hbn,?_⟩
  have em:(es.map V.int).set b (V.int (i:Nat))=(es.set b (i:Int)).map V.int:=by rw[List.map_set]
  rw[em]
  cases hq2:A'.getLast? with
  |none =>
   have:A'=[]:=List.getLast?_eq_none_iff.mp hq2
   rw[Yb (by rw[this];simp)]
   exact fin (es.set b i) _ (λc o n1 n2 z=>by rw[Zm n1];exact z) Zd (by rw[Zm hne.symm];exact hsp) (by unfold ZbY;rw[hq2];rfl)
  |some q =>
   have:A'≠[]:=λz=>by rw[z]at hq2;cases hq2
   rw[Yc (by have:=List.length_pos_iff.mpr this;omega)]
   exact mid (es.set b i) _ (λc o n1 n2 z=>by rw[Zm n1];exact z) Zd (by simp) (by rw[Zm hne.symm];exact hsp) q hq2 (by unfold ZbY;rw[hq2];rfl)
theorem ok_tree_of {f:Addr}{fd:FuncData} (F:Fun K "tree_of" "tree_of" s_tree_of f fd) (Zbs:Callee P w K mg base "settle" 1 ["elders","spine","place","keep"] (sp_settle K mg)) (T:Txt K mg):FnOk P w K mg base (CXE P w) 2 f fd ["row"] (sp_tree_of K mg):=by
 refine F.okX sc_tree_of (λvs H Q E h=>?_) (λcdv A outer s H vs Q E hr h=>?_)
 .obtain⟨r,ns,rfl,_⟩:=h;rfl
 obtain⟨r,ns,rfl,hS,hn,k1⟩:=h
 refine⟨_,(Zc (Zl (i:=1) sc_tree_of.nd rfl (Or.inl rfl) (Zk ZhV (ZY (Za (ZiL Zf8 Zf) Zb)) (Zg (Zp (K:=K) rfl) rfl T.b_len Yl (Za (pv 0) Zb))))
   (Zc (Zl (i:=2) sc_tree_of.nd rfl (Or.inl rfl) (ZY Zb))
   (Zc (ZaE (ZaC PassesOwn.never rfl (ZW rfl T.b_range (Za (Zg (Zp (K:=K) rfl) rfl T.b_len Yl (Za (pv 0) Zb)) Zb)) (Zw (i:=3) sc_tree_of.nd rfl (Or.inl rfl)) (Zc (Zl (i:=4) sc_tree_of.nd rfl (Or.inl rfl) (Zg (Zp (K:=K) rfl) rfl T.b_len Yl (Za (pv 2) Zb)))
   (Zc (ZaE (ZgX PassesOwn.never (PW.pt (ZcH (Zq Zb5 (pv 4) Zf (Zo _)) (Zcl (Zq Zb5 (Z2 (ix_q (K:=K) rfl) (pv 0) (Z2 Z6 (pv 2) (Zk Zbb (pv 4) Zf) (λ_ _=>rfl)) (λ_ _=>rfl)) (Z2 (ix_q (K:=K) rfl) (pv 0) (pv 3) (λ_ _=>rfl)) (Zo _))))) (Ze (ZjJ (i:=4) sc_tree_of.nd rfl (Or.inl rfl) Zf ip_sub))))
   (Ze (Z5 (Zi Zbs (hr.mono nofun) rfl ZA (Za (pv 1) (Za (pv 2) (Za (pv 3) (Za (pv 4) Zb)))))))))))
   (Ze (Zr (Zz (ZaF (K:=K) rfl) rfl T.b_tuple Zau (Za (pv 1) Zb))))))),?_⟩
 right
 have eL:(ns.map V.int).length=ns.length:=Yj ..
 refine⟨by decide,λp hp=>⟨_,((Zh.refl H).upd hp).q hS,_,Zd,⋯,by rw[eL];omega,?_,λel hel=>⟨Yq _,λsp hsp=>?_⟩⟩⟩
 .exact Yf (show _<=1000 by simp;omega) nofun
 have s0:Zh H (upd (upd (upd H p (.lst [V.int (-1)])) el (.lst (List.replicate (((ns.map V.int).length:Nat):Int).toNat [V.int (-1)]).flatten)) sp (.lst [])):=(((Zh.refl H).upd hp).ZH hel).ZH hsp
 refine⟨_,s0.q hS,⋯,by rw[eL];omega,?_⟩
 have en:(((ns.map V.int).length:Nat):Int).toNat=ns.length:=by rw[eL];omega
 have hel0:(upd (upd (upd H p (.lst [V.int (-1)])) el (.lst (List.replicate (((ns.map V.int).length:Nat):Int).toNat [V.int (-1)]).flatten)) sp (.lst [])) el=some (.lst ((List.replicate ns.length (-1:Int)).map V.int)):=by
  have:=((Zh.refl _).ZH (o:=.lst []) hsp) el _ Zd
  rw[this,en];simp
 have hsp0:(upd (upd (upd H p (.lst [V.int (-1)])) el (.lst (List.replicate (((ns.map V.int).length:Nat):Int).toNat [V.int (-1)]).flatten)) sp (.lst [])) sp=some (.lst (Zs [])):=Zd
 have nes:el≠sp:=λz=>by
  subst z
  rw[Zd]at hsp;cases hsp
 have zel:H el=none:=((Zh.refl H).upd hp).free hel
 have zsp:H sp=none:=(((Zh.refl H).upd hp).ZH hel).free hsp
 rw[en]at hel0 hsp0 s0⊢
 generalize (upd (upd (upd H p (.lst [V.int (-1)])) el (.lst (List.replicate ns.length [V.int (-1)]).flatten)) sp (.lst []))=H0 at s0 hel0 hsp0⊢
 refine Zac (λi σ Hx=>∃(es:List Int) (S:List Nat) (v3 v4:Option V),σ=[some (.ref r),some (.ref el),some (.ref sp),v3,v4]/\Zh H Hx/\Hx el=some (.lst (es.map V.int))/\Hx sp=some (.lst (Zs S))/\es.length=ns.length/\Zcx (nth ns) i S/\(∀p e,p<i->e=es.getD p 0->ZO (nth ns) i p e)/\∀p,i<=p->p<ns.length->es.getD p 0=-1)
  ⟨List.replicate ns.length (-1),[],none,none,rfl,s0,hel0,hsp0,by simp,⟨List.Pairwise.nil,λq=>by simp⟩,λp e hp=>⋯,λp _ hp=>by simp[Yi,hp]⟩ ?_ ?_
 .rintro i σ Hx hi ⟨es,S,v3,v4,rfl,sx,hxe,hxs,hesl,hS2,hE,hE2⟩
  right
  have hin:i<ns.length:= ⋯
  have hSl:S.length<=1000:=by
   rcases Zkb S i 0 hS2.1 (λq hq=>⟨Yq _,((hS2.2 q).mp hq).1⟩)with z|z
   .omega
   .rw[z];simp
  refine⟨_,.inl (SqL.of hxs),?_⟩
  rw[ZI]
  refine ZiW S.length (λj σ Hy=>∃A B,S=A++B/\B.length=j/\(∀q∈B,nth ns i<nth ns q)/\σ=[some (.ref r),some (.ref el),some (.ref sp),some (.int (0+(i:Int))),some (.int (A.length:Nat))]/\Hy=Hx) ⟨S,[],by simp,rfl,(λq hq=>absurd hq (by simp)),rfl,rfl⟩ ?_
  rintro j σ Hy hj ⟨A,B,hAB,hBl,hBg,rfl,rfl⟩
  right
  have hmem:∀q,q∈A++B->q<i:=λq hq=>((hS2.2 q).mp (by rw[hAB];exact hq)).1
  have hix:(0+(i:Int))=(i:Int):= ⋯
  rw[hix]
  by_cases hA0:A=[]
  case' pos =>
   rw[Yb (by rw[hA0];simp)]
   have hA:∀q∈A,nth ns q<=nth ns i:=λq hq=>absurd hq (by rw[hA0];simp)
  case' neg =>
   obtain⟨q,Al,rfl⟩:∃q Al,A=Al++[q]:=⟨A.getLast hA0,A.dropLast,(List.dropLast_concat_getLast hA0).symm⟩
   have hal:(Al++[q]).length=Al.length+1:=by simp
   rw[Yc (by rw[hal];omega)]
   have eiA:(((Al++[q]).length:Nat):Int)-1=(Al.length:Int):=by rw[hal];omega
   have hat:S[Al.length]?=some q:=by
    rw[hAB,YZ,YY (Yd _)];simp
   have hqi:q<i:=hmem q (by simp)
   refine⟨_,SqL.of hxs,_,by rw[eiA];exact ZeN hat,_,_,rfl,sx.q hS,_,Zbz ⋯,_,sx.q hS,_,Zbz hin,_,rfl,_,rfl,ZG (λhlt=>?_) (λhge=>?_)⟩
   .have hj2:j+1<=S.length:=by rw[hAB,Yn,hal];omega
    refine⟨_,WI.next,hj2,Al,q::B,by rw[hAB];simp,by simp[hBl],λx hx=>?_,by rw[eiA],rfl⟩
    rcases Ym.mp hx with z|z
    .rw[z];exact hlt
    .exact hBg x z
   have hA:∀x∈Al++[q],nth ns x<=nth ns i:=λx hx=>by
    by_cases z:x=q
    .rw[z];omega
    .have hxa:x∈Al:=by
      rcases Yp.mp hx with y|y
      .exact y
      .exact absurd (by simpa using y) z
     have hpw:=hS2.1
     rw[hAB]at hpw
     have hxq:x<q:=(List.pairwise_append.mp (List.pairwise_append.mp hpw).1).2.2 x hxa q (by simp)
     have:=((hS2.2 x).mp (by rw[hAB];exact YI _ hx)).2 q hxq hqi
     omega
   generalize Al++[q]=A at hA hAB hmem hA0⊢
  all_goals
   have SS:=ZcK (f:=nth ns) (i:=i) (A:=A) (B:=B) (by rw[<-hAB];exact hS2) hA hBg
   refine⟨el,sp,es,A,B,i,rfl,hxe,by rw[<-hAB];exact hxs,nes,⋯,λq hq=>by have:=hmem q hq;omega,by rw[<-hAB];exact hSl,λH' q1 q2 q3=>?_⟩
   have hbi:∀b,B.head?=some b->b≠i:=λb hb=>by
    have:=hmem b (Yt _ (List.mem_of_head? hb));omega
   refine⟨λb o z=>q1 b o (ZC z zel) (ZC z zsp) (sx b o z),ZbY es A B i,q2,A++[i],q3,by rw[ZeM];exact hesl,SS.1,λp e hp he=>?_,λp hp1 hp2=>?_⟩
   .rw[Zev _ _ _ _ _ ⋯ hbi]at he
    by_cases z:p=i
    .subst z
     rw[Yc rfl,hE2 p (Yd _) ⋯]at he
     rw[he];exact SS.2.1
    .rw[Yb z]at he
     rw[he]
     exact SS.2.2 p _ ⋯ (hE p _ ⋯ rfl)
   .rw[Zev _ _ _ _ _ ⋯ hbi,Yb ⋯,Yb (λz=>?_)]
    .exact hE2 p ⋯ hp2
    .have:=hmem p (Yt _ (List.mem_of_head? z));omega
 .rintro σ Hx ⟨es,S,v3,v4,rfl,sx,hxe,hxs,hesl,hS2,hE,hE2⟩
  right
  exact⟨_,.inl ⟨SqL.of hxe,λt ht=>k1 t es _ ⟨hesl,λp hp=>hE p _ hp rfl⟩ (sx.ZH ht) Zd⟩⟩
theorem ok_way_up {f:Addr}{fd:FuncData} (F:Fun K "way_up" "way_up" s_way_up f fd) (T:Txt K mg):FnOk P w K mg base (CXE P w) 1 f fd ["tree","place"] (sp_way_up K mg):=by
 refine F.okX sc_way_up (λvs H Q E h=>?_) (λcdv A outer s H vs Q E hr h=>?_)
 .obtain⟨t,T,p,rfl,_⟩:=h;rfl
 obtain⟨t,T',p,rfl,ht,hn,hp,k1⟩:=h
 refine⟨_,(Zc (Zl (i:=2) sc_way_up.nd rfl (Or.inl rfl) (ZY Zb))
   (Zc (Zl (i:=3) sc_way_up.nd rfl (Or.inl rfl) (Z2 Zb7 (pv 0) (pv 1) (λ_ _=>rfl)))
   (Zc (ZaE (ZgX PassesOwn.never (PW.pt (ZcH (ZeC Zg1 Zc7 Zf (pv 3) (Zg (Zp (K:=K) rfl) rfl T.b_len Yl (Za (pv 0) Zb))) (Zcl (Zq Zc7 (Zg (Zp (K:=K) rfl) rfl T.b_len Yl (Za (pv 2) Zb)) (Zg (Zp (K:=K) rfl) rfl T.b_len Yl (Za (pv 0) Zb)) (Zo _))))) (Zc (Z5 (Zaz PySem.F.plainAttrs_list PySem.F.slot_list_append PySem.F.type_list_append Zad (pv 2) (Za (pv 3) Zb)))
   (Ze (Zl (i:=3) sc_way_up.nd rfl (Or.inl rfl) (Z2 Zb7 (pv 0) (pv 3) (λ_ _=>rfl)))))))
   (Ze (Zr (pv 2)))))),?_⟩
 right
 refine⟨Yq _,λl hl=>⟨_,SqT.of (((Zh.refl H).upd hl) _ _ ht),_,Zbz hp,?_⟩⟩
 refine ZiW T'.length (λj σ Hx=>Zh H Hx/\Hx l=some (.lst (Zs (Zah T' j (nth T' p))))/\(Zah T' j (nth T' p)).length=j/\σ=[some (.ref t),some (.int p),some (.ref l),some (.int (Zag T' j (nth T' p)))]) ⟨(Zh.refl H).upd hl,Zd,rfl,rfl⟩ ?_
 rintro j σ Hx hj ⟨sx,hxl,hjl,rfl⟩
 right
 have hlen:(Zs (Zah T' j (nth T' p))).length=j:=by rw[ZI];exact hjl
 have eL:(T'.map V.int).length=T'.length:=Yj ..
 have done:(j=T'.length\/¬ (0<=Zag T' j (nth T' p)/\Zag T' j (nth T' p)<T'.length))->Q (.ref l) Hx:=λz=>by
  refine k1 l Hx hl sx ?_
  have:Zah T' T'.length (nth T' p)=Zah T' j (nth T' p):=by
   rcases z with z|z
   .rw[<-z]
   .exact ZfN T' j _ _ hj hjl z
  rw[hxl];unfold wayI;rw[this];simp[Zs]
 refine ZG (λh0=>⟨_,.inr (SqT.of (sx _ _ ht)),ZG (λh1=>⟨_,.inl (SqL.of hxl),_,.inr (SqT.of (sx _ _ ht)),ZG (λh2=>?_) λh2=>done (.inl (by rw[hlen,eL]at h2;omega))⟩) λh1=>done (.inr (by rw[eL]at h1;omega))⟩) λh0=>done (.inr ⋯)
 rw[eL]at h1;rw[hlen,eL]at h2
 obtain⟨a1,a2⟩:=ZfM T' j (nth T' p) h0 h1 hjl
 have ei:Zag T' j (nth T' p)=(((Zag T' j (nth T' p)).toNat:Nat):Int):= ⋯
 have nlt:t≠l:=ZC ht hl
 refine⟨_,WI.next,Zak hxl,_,hxl,by rw[hlen];exact YD (show _<=1000 by omega) nofun,_,SqT.of (by rw[Zm nlt];exact sx _ _ ht),_,(congrArg (atI _) ei).trans (Zbz ⋯),⋯,sx.upd hl,?_,?_,?_⟩
 .rw[Zd,a1,Zbp]
  have:Zs [(Zag T' j (nth T' p)).toNat]=[V.int (Zag T' j (nth T' p))]:=by rw[ei];simp[Zs]
  rw[this]
 .rw[a1];simp[hjl]
 .rw[a2]
theorem ok_is_tree {f:Addr}{fd:FuncData} (F:Fun K "is_tree" "is_tree" s_is_tree f fd) (ZdM:Callee P w K mg base "tree_of" 2 ["row"] (sp_tree_of K mg)) (Zbt:Callee P w K mg base "way_up" 1 ["tree","place"] (sp_way_up K mg)) (T:Txt K mg):FnOk P w K mg base (CXE P w) 3 f fd ["tree"] (sp_is_tree K mg):=by
 refine F.okX sc_is_tree (λvs H Q E h=>?_) (λcdv A outer s H vs Q E hr h=>?_)
 .obtain⟨t,T,rfl,_⟩:=h;rfl
 obtain⟨t,T',rfl,ht,hn,k1,k2⟩:=h
 refine⟨_,(Zc (ZN (PW.pt (ZfA (Zbv (ZaB (Zg (ZM (K:=K) rfl) rfl T.b_isinstance Zt (Za (pv 0) (Za (Zer (v:=.ty "tuple") rfl T.b_tuple Zau rfl) Zb))))) (Zdw (Zq Zb5 (Zg (Zp (K:=K) rfl) rfl T.b_len Yl (Za (pv 0) Zb)) (ZP (v:=.int 40) rfl T.m_MOST_PLACES ⟨_,rfl⟩) (Zo _))))) (Ze (Zr Zcu)) Zy)
   (Zc (ZeP (i:=1) ["place","tree"] [none,some 0] sc_is_tree.nd rfl (Or.inl rfl) rfl rfl rfl (ZW rfl T.b_range (Za (Zg (Zp (K:=K) rfl) rfl T.b_len Yl (Za (pv 0) Zb)) Zb)) (λ_ _ _ _ _=>(Zw (i:=0) (show(["place","tree"]:List Str).Nodup from by decide +kernel) rfl (Or.inl rfl))) (λ_ _ _ _ _=>Zaa) (λ_ _ _ _ _=>(Zg (Zp (K:=K) rfl) rfl T.b_len Yl (Za (Zi Zbt (hr.mono nofun) rfl ZA (Za (pv 1) (Za (pv 0) Zb))) Zb))) ZL)
   (Ze (Zr (ZQ (Zh0 (K:=K) rfl hr) (Zi ZdM (hr.mono nofun) rfl ZA (Za (pv 1) Zb)) (pv 0) (Zo _)))))),?_⟩
 right
 have eL:(T'.map V.int).length=T'.length:=Yj ..
 refine⟨true,.inl ⟨_,.tup ht,by with_unfolding_all rfl⟩,ZG (λz=>nomatch z) λ_=>⟨_,.inr (SqT.of ht),ZG (λz=>k2 (λg=>?_) _ (Zh.refl H)) λz=>⟨_,.inr (SqT.of ht),⋯,by rw[eL];omega,?_⟩⟩⟩
 .rw[eL]at z;have:=g.1;omega
 rw[eL]at z⊢
 have en:((T'.length:Nat):Int).toNat=T'.length:= ⋯
 rw[en]
 refine comp_map (n:=T'.length) (λq=>V.int (nth (ZcM T') q)) (YD hn nofun) (λj Hx s hj=>hj) (λHx s=>Yd _) ?_ ?_
 .rintro j x Hx Hy hj s ⟨rfl,rfl⟩
  right
  refine⟨t,T',j,by simp,s _ _ ht,hn,hj,λl H9 hl s9 h9=>⟨l,rfl,_,.inl (SqL.of h9),CW.next hj ?_ (s.trans s9)⟩⟩
  rw[Zhe hj,Yj];simp[wayI]
 .intro l' Hx s hl'
  have ed:(List.range T'.length).map (λq=>V.int (nth (ZcM T') q))=(ZcM T').map V.int:=by
   rw[<-Zdc T'];exact range_getD _ _ V.int _ rfl
  rw[ed]
  have u:=s.ZH (o:=.lst ((ZcM T').map V.int)) hl'
  refine⟨l',ZcM T',rfl,.inl (SqL.of Zd),by rw[Zdc];exact hn,λt2 es H2 hT2 s2 ht2=>⟨t2,rfl,_,Zgr (n:=2) Zgq _ _ es T' (Zbo (SqT.of ht2)) (Zbo (SqT.of ((u.trans s2) _ _ ht))),?_⟩⟩
  by_cases g:es=T'
  .rw[YF g];exact k1 ⟨⋯,_,g▸hT2⟩ _ (u.trans s2)
  .rw[YJ g];exact k2 (λgg=>g (hT2.unique ((Zjo T').mp gg.2))) _ (u.trans s2)
theorem ok_need_tree {f:Addr}{fd:FuncData} (F:Fun K "need_tree" "need_tree" s_need_tree f fd) (ZdN:Callee P w K mg base "is_tree" 3 ["tree"] (sp_is_tree K mg)) (T:Txt K mg):FnOk P w K mg base (CXE P w) 4 f fd ["tree"] (sp_need_tree K mg):=by
 refine F.okX sc_need_tree (λvs H Q E h=>?_) (λcdv A outer s H vs Q E hr h=>?_)
 .obtain⟨t,T,rfl,_⟩:=h;rfl
 obtain⟨t,T',rfl,ht,hn,k1,k2⟩:=h
 refine⟨_,(Ze (ZN (Zbv (ZaB (Zi ZdN (hr.mono nofun) rfl ZA (Za (pv 0) Zb)))) (Ze (Za0 rfl rfl T.c_NoTree T.x_NoTree (Za (ZdC (Zdb nofun (ZhX (Zg (Zp (K:=K) rfl) rfl T.b_len Yl (Za (pv 0) Zb)) (Zdb nofun ZhW)))) Zb) Zby)) Zy)),?_⟩
 right
 exact⟨t,T',rfl,ht,hn,λg H1 s1=>⟨true,rfl,ZG (λz=>nomatch z) λ_=>k1 g _ s1⟩,λg H1 s1=>⟨false,rfl,ZG (λ_=>⟨_,.inr (SqT.of (s1 _ _ ht)),⋯,by rw[Yj];omega,λy=>⟨by decide,k2 g _ s1⟩⟩) λz=>absurd rfl z⟩⟩
theorem ok_fences_of {f:Addr}{fd:FuncData} (F:Fun K "fences_of" "fences_of" s_fences_of f fd) (Zbt:Callee P w K mg base "way_up" 1 ["tree","place"] (sp_way_up K mg)) (T:Txt K mg):FnOk P w K mg base (CXE P w) 2 f fd ["tree"] (sp_fences_of K mg):=by
 refine F.okX sc_fences_of (λvs H Q E h=>?_) (λcdv A outer s H vs Q E hr h=>?_)
 .obtain⟨t,ns,T,rfl,_⟩:=h;rfl
 obtain⟨t,ns,T',rfl,ht,hT,hn,k1⟩:=h
 refine⟨_,(Zc (Zl (i:=1) sc_fences_of.nd rfl (Or.inl rfl) (ZY Zb))
   (Zc (ZaE (ZaC PassesOwn.never rfl (ZW rfl T.b_range (Za (Zg (Zp (K:=K) rfl) rfl T.b_len Yl (Za (pv 0) Zb)) Zb)) (Zw (i:=2) sc_fences_of.nd rfl (Or.inr rfl)) (Zc (Zl (i:=3) sc_fences_of.nd rfl (Or.inl rfl) (Zi Zbt (hr.mono nofun) rfl ZA (Za (pv 0) (Za (pv 2) Zb))))
   (Zc (Zl (i:=4) sc_fences_of.nd rfl (Or.inl rfl) (ZkQ (K:=K) rfl rfl rfl T.b_max (Za (Z3 ["elder","place"] [none,some 2] rfl rfl rfl (Za6 (pv 3)) (λ_ _ _ _ _=>(Zw (i:=0) (show(["elder","place"]:List Str).Nodup from by decide +kernel) rfl (Or.inl rfl))) (λ_ _ _ _ _=>Zc9 (Zq Zc7 (pv 0) (pv 1) (Zo _))) (λ_ _ _ _ _=>(pv 0)) ZL) Zb) (ZiQ (ZiL Zf8 Zf) ZjN)))
   (Zc (Zl (i:=5) sc_fences_of.nd rfl (Or.inl rfl) (ZkR (K:=K) rfl rfl rfl T.b_min (Za (Z3 ["elder","place"] [none,some 2] rfl rfl rfl (Za6 (pv 3)) (λ_ _ _ _ _=>(Zw (i:=0) (show(["elder","place"]:List Str).Nodup from by decide +kernel) rfl (Or.inl rfl))) (λ_ _ _ _ _=>Zc9 (Zq Zb5 (pv 0) (pv 1) (Zo _))) (λ_ _ _ _ _=>(pv 0)) ZL) Zb) (ZiQ (Zg (Zp (K:=K) rfl) rfl T.b_len Yl (Za (pv 0) Zb)) ZjN)))
   (Ze (Z5 (Zaz PySem.F.plainAttrs_list PySem.F.slot_list_append PySem.F.type_list_append Zad (pv 1) (Za (Zbc (Za (pv 4) (Za (pv 5) Zb))) Zb)))))))))
   (Ze (Zr (pv 1))))),?_⟩
 right
 have eT:T'.length=ns.length:=hT.1
 have eL:(T'.map V.int).length=T'.length:=Yj ..
 refine⟨Yq _,λp hp=>?_⟩
 have s0:Zh H (upd H p (.lst [])):=(Zh.refl H).upd hp
 refine⟨_,.inr (SqT.of (s0 _ _ ht)),⋯,by rw[eL];omega,?_⟩
 have en:(((T'.map V.int).length:Nat):Int).toNat=ns.length:=by rw[eL];omega
 rw[en]
 have h0:Zal (upd H p (.lst [])) p 0 (λp=>(Zbq (nth ns) p,Zay (nth ns) ns.length p)):=⟨[],Zd,rfl,λj q hq=>by simp at hq⟩
 generalize upd H p (.lst [])=H0 at s0 h0⊢
 refine Zac (λi σ Hx=>∃v2 v3 v4 v5,σ=[some (.ref t),some (.ref p),v2,v3,v4,v5]/\Zal Hx p i (λp=>(Zbq (nth ns) p,Zay (nth ns) ns.length p))/\Zh H Hx) ⟨_,_,_,_,rfl,h0,s0⟩ ?_ ?_
 .rintro i σ Hx hi ⟨v2,v3,v4,v5,rfl,hP,sx⟩
  have e0:((0:Int)+(i:Int))=(i:Int):= ⋯
  rw[e0]
  have hpi:i<ns.length:=hi
  have hw1:(wayI T' i).length<=1000:=by simp only[wayI,Yj];exact Yf (Zhf _ _ _) ⋯
  refine Zax (fun σ Hy=>∃w:Addr,σ=[some (.ref t),some (.ref p),some (.int (i:Int)),some (.ref w),v4,v5]/\Hy w=some (.lst ((wayI T' i).map V.int))/\Zal Hy p i (λp=>(Zbq (nth ns) p,Zay (nth ns) ns.length p))/\Zh H Hy) (λR hR=>?_) ?_
  .right
   exact⟨t,T',i,rfl,sx _ _ ht,⋯,⋯,λw H1 hw s1 h1=>hR _ _ ⟨w,rfl,h1,hP.same s1,sx.trans s1⟩⟩
  rintro σ Hy ⟨w,rfl,hw,hP1,sy⟩
  refine Zax (fun σ Hz=>σ=[some (.ref t),some (.ref p),some (.int (i:Int)),some (.ref w),some (.int (Zbq (nth ns) i)),v5]/\Hz w=some (.lst ((wayI T' i).map V.int))/\Zal Hz p i (λp=>(Zbq (nth ns) p,Zay (nth ns) ns.length p))/\Zh H Hz) (λR hR=>?_) ?_
  .right
   refine⟨⟨_,SqL.of hw⟩,ZfR (λo=>decide (o<(i:Int))) hw hw1 (λx Hy R hR=>?_) λl H2 s2 hl=>?_⟩
   .right
    exact hR
   have FA:=Zke hT hpi
   have g:=s2.ZH (o:=.lst (((wayI T' i).filter λo=>decide (o<(i:Int))).map V.int)) hl
   refine⟨l,rfl,_,SqL.of Zd,λe=>?_,λhne m hm hmax=>?_⟩
   .rw[<-FA.1 e]
    exact hR _ _ ⟨rfl,g _ _ hw,hP1.same g,sy.trans g⟩
   .rw[FA.2 hne m hm hmax]
    exact hR _ _ ⟨rfl,g _ _ hw,hP1.same g,sy.trans g⟩
  clear hw hP1 sy Hy
  rintro σ Hy ⟨rfl,hw,hP1,sy⟩
  refine Zax (fun σ Hz=>σ=[some (.ref t),some (.ref p),some (.int (i:Int)),some (.ref w),some (.int (Zbq (nth ns) i)),some (.int (Zay (nth ns) ns.length i))]/\Zal Hz p i (λp=>(Zbq (nth ns) p,Zay (nth ns) ns.length p))/\Zh H Hz) (λR hR=>?_) ?_
  .right
   refine⟨⟨_,SqL.of hw⟩,ZfR (λo=>decide ((i:Int)<o)) hw hw1 (λx Hy R hR=>?_) λl H2 s2 hl=>?_⟩
   .right
    exact hR
   have FB:=Zkf hT hpi
   have g:=s2.ZH (o:=.lst (((wayI T' i).filter λo=>decide ((i:Int)<o)).map V.int)) hl
   refine⟨_,.inr (SqT.of ((sy.trans g) _ _ ht)),l,rfl,_,SqL.of Zd,λe=>?_,λhne m hm hmin=>?_⟩
   .rw[eL,eT,<-FB.1 e]
    exact hR _ _ ⟨rfl,hP1.same g,sy.trans g⟩
   .rw[FB.2 hne m hm hmin]
    exact hR _ _ ⟨rfl,hP1.same g,sy.trans g⟩
  clear hw hP1 sy Hy
  rintro σ Hy ⟨rfl,hP1,sy⟩
  right
  obtain⟨qs,hq1,hq2,hq3⟩:=id hP1
  refine⟨Zak hq1,by decide,λq hq=>?_⟩
  have g:=(Zh.refl Hy).upd (o:=.tup [.int (Zbq (nth ns) i),.int (Zay (nth ns) ns.length i)]) hq
  obtain⟨xs,hx1,hx2,hx3⟩:=(hP1.same g).push (q:=q) Zd
  have zp:H p=none:=hp
  refine⟨xs,hx1,YD (show _<=1000 by omega) nofun,hx3,λb o z=>?_⟩
  rw[Zm (ZC z zp)]
  exact(sy.trans g) b o z
 .rintro σ Hx ⟨v2,v3,v4,v5,rfl,hP,sx⟩
  right
  exact k1 p Hx sx hP
theorem ok_drops_of {f:Addr}{fd:FuncData} (F:Fun K "drops_of" "drops_of" s_drops_of f fd) (Zcc:Callee P w K mg base "need_tree" 4 ["tree"] (sp_need_tree K mg)) (Zcd:Callee P w K mg base "fences_of" 2 ["tree"] (sp_fences_of K mg)) (T:Txt K mg):FnOk P w K mg base (CXE P w) 5 f fd ["tree"] (sp_drops_of K mg):=by
 refine F.okX sc_drops_of (λvs H Q E h=>?_) (λcdv A outer s H vs Q E hr h=>?_)
 .obtain⟨t,T,rfl,_⟩:=h;rfl
 obtain⟨t,T',rfl,ht,hn,k⟩:=h
 refine⟨_,(Zc (Z5 (Zi Zcc (hr.mono nofun) rfl Zcm (Za (pv 0) Zb)))
   (Zc (Zl (i:=1) sc_drops_of.nd rfl (Or.inl rfl) (Zk ZhV (ZY (Za Zf Zb)) (Zg (Zp (K:=K) rfl) rfl T.b_len Yl (Za (pv 0) Zb))))
   (Zc (ZaE (ZaC PassesOwn.never rfl (Za6 (Zi Zcd (hr.mono nofun) rfl ZA (Za (pv 0) Zb))) (ZjI (n:=2) rfl (Zc6 (Zw (i:=2) sc_drops_of.nd rfl (Or.inl rfl)) (Zc6 (Zw (i:=3) sc_drops_of.nd rfl (Or.inl rfl)) ZiJ))) (Ze (ZN (Zq Zc7 (pv 3) (Zg (Zp (K:=K) rfl) rfl T.b_len Yl (Za (pv 0) Zb)) (Zo _)) (Ze (ZkD (pv 1) (pv 3) (Zkh (K:=K) rfl) Zf ZjK set_list)) Zy))))
   (Ze (Zr (Zz (ZaF (K:=K) rfl) rfl T.b_tuple Zau (Za (pv 1) Zb))))))),?_⟩
 have eL:(T'.map V.int).length=T'.length:=Yj ..
 refine Zax (fun σ Hx=>∃ns:List Int,σ=[some (.ref t),none,none,none]/\T'.length<=40/\ZV ns T'/\(∀(u:Addr) H',Zh H H'->H' u=some (.tup (Zs (ZZ (nth ns) ns.length)))->Q (.ref u) H')/\Zh H Hx) (λR hR=>?_) ?_
 .right
  refine⟨t,T',rfl,ht,hn,λg H1 s1=>?_,λg H1 s1=>?_⟩
  .rcases k with⟨ns,h40,hT,k1⟩|⟨ng,_⟩
   .exact hR _ _ ⟨ns,rfl,h40,hT,k1,s1⟩
   .exact absurd g ng
  .rcases k with⟨ns,h40,hT,k1⟩|⟨ng,k2⟩
   .exact absurd ⟨h40,ns,hT⟩ g
   .exact k2 _ s1
 clear k
 rintro σ H1 ⟨ns,rfl,h40,hT,k1,s1⟩
 have eT:=hT.1
 refine Zax (fun σ Hx=>∃dl:Addr,σ=[some (.ref t),some (.ref dl),none,none]/\H dl=none/\Hx dl=some (.lst (((List.range ns.length).map λk=>(((List.range 0).countP (λp=>decide (Zay (nth ns) ns.length p=((k:Nat):Int))):Nat):Int)).map V.int))/\Hx t=some (.tup (T'.map V.int))/\Zh H Hx) (λR hR=>?_) ?_
 .right
  refine⟨by decide,λp hp=>⟨_,.inr (SqT.of (((Zh.refl H1).upd hp) _ _ (s1 _ _ ht))),_,Zd,⋯,by rw[eL];omega,?_,λdl hdl=>?_⟩⟩
  .exact Yf (show _<=1000 by simp;omega) nofun
  have s2:=s1.ZH (o:=.lst [V.int 0]) hp
  refine hR _ _ ⟨dl,rfl,s2.free hdl,?_,(s2.ZH hdl) _ _ ht,s2.ZH hdl⟩
  rw[Zd,eL,YV,eT,List.flatten_replicate_singleton,Yy]
  congr 2
  refine(List.eq_replicate_iff.mpr ⟨by simp,λb hb=>?_⟩).symm
  simp at hb
  exact hb.2.symm
 clear s1 H1
 rintro σ H1 ⟨dl,rfl,zd,hdl,ht1,s1⟩
 refine Zax (fun σ Hx=>∃v2 v3,σ=[some (.ref t),some (.ref dl),v2,v3]/\Hx dl=some (.lst (((List.range ns.length).map λk=>(((List.range ns.length).countP (λp=>decide (Zay (nth ns) ns.length p=((k:Nat):Int))):Nat):Int)).map V.int))/\Zh H Hx) (λR hR=>?_) ?_
 .right
  refine⟨t,ns,T',rfl,ht1,hT,⋯,λl H2 s2 hP=>⟨l,rfl,?_⟩⟩
  obtain⟨qs,h1,h2,h3⟩:=hP
  refine⟨⟨_,SqL.of h1⟩,?_⟩
  have hd2:=s2 _ _ hdl
  have nld:0<ns.length->l≠dl:=λhpos z=>by
   rw[z,hd2]at h1
   have:=congrArg (λo=>match o with|some (HO.lst (V.int _::_))=>true|_=>false) h1
   match qs,h2,this with
   |[],h2,_=>simp at h2;omega
   |q::qs,_,this =>
    obtain⟨m,hm⟩:∃m,ns.length=m+1:=⟨ns.length-1,⋯⟩
    rw[hm,List.range_succ_eq_map]at this
    simp at this
  by_cases hpos:0<ns.length
  case neg =>
   have hn0:ns.length=0:= ⋯
   refine ZeR (n:=ns.length) (λj σ Hx=>σ=[some (.ref t),some (.ref dl),none,none]/\Hx=H2) ⟨rfl,rfl⟩ (λj σ Hx hj _=>absurd hj ⋯) (fun σ Hx ⟨_,e⟩=>e▸⟨_,SqL.of h1,by rw[Yj];omega⟩) (λj x σ Hx Hx' hj=>absurd hj ⋯) ?_
   rintro σ Hx ⟨rfl,rfl⟩
   refine hR _ _ ⟨_,_,rfl,?_,s1.trans s2⟩
   rw[hd2,hn0]
  refine ZeR (n:=ns.length) (λj σ Hx=>∃v2 v3,σ=[some (.ref t),some (.ref dl),v2,v3]/\Hx dl=some (.lst (((List.range ns.length).map λk=>(((List.range j).countP (λp=>decide (Zay (nth ns) ns.length p=((k:Nat):Int))):Nat):Int)).map V.int))/\(0<ns.length->Hx l=some (.lst (qs.map V.ref)))/\(∀(j:Nat) (q:Addr),qs[j]?=some q->Hx q=some (.tup [.int (Zbq (nth ns) j),.int (Zay (nth ns) ns.length j)]))/\Hx t=some (.tup (T'.map V.int))/\Zh H Hx) ⟨_,_,rfl,hd2,λ_=>h1,λj q hq=>h3 j q hq,s2 _ _ ht1,s1.trans s2⟩ (λj σ Hx hj ⟨_,_,_,_,hx,_⟩=>⟨_,_,SqL.of (hx ⋯),Yg (by rw[Yj];omega)⟩) ?_ ?_ ?_
  .rintro σ Hx ⟨v2,v3,rfl,hxd,hxl,hxq,hxt,sx⟩
   exact⟨_,SqL.of (hxl hpos),by rw[Yj];omega⟩
  .rintro j x σ Hx Hx' hj ⟨v2,v3,rfl,hxd,hxl,hxq,hxt,sx⟩ ⟨rfl,hx⟩
   have ex:=hx _ (SqL.of (hxl ⋯))
   obtain⟨q,hq⟩:∃q,qs[j]?=some q:=⟨qs[j]'⋯,Yg ⋯⟩
   rw[YH,hq]at ex
   cases ex
   have hq1:=hxq j q hq
   obtain⟨b1,b2,b3,b4⟩:=Zgv (f:=nth ns) hj
   obtain⟨fb,hfb⟩:=Y6 (show 0<=Zay (nth ns) ns.length j by omega)
   rw[hfb]at hq1 b3 b4
   refine⟨q,_,rfl,SqT.of hq1,rfl,_,_,rfl,_,_,rfl,rfl,?_⟩
   right
   refine⟨_,.inr (SqT.of hxt),?_⟩
   rw[eL,eT]
   have stp:∀k:Nat,((List.range (j+1)).countP (λp=>decide (Zay (nth ns) ns.length p=((k:Nat):Int))))=(List.range j).countP (λp=>decide (Zay (nth ns) ns.length p=((k:Nat):Int)))+if fb=k then 1 else 0:=λk=>by
    rw[YN,List.countP_append,List.countP_singleton,hfb]
    by_cases e:fb=k
    .rw[Yc e,Yc (by simp[e])]
    .rw[Yb e,Yb (by simp;omega)]
   refine ZG (λz=>?_) λz=>?_
   .have nq:∀q xs,Hx' q=some (.tup xs)->q≠dl:=λq xs h z=>by rw[z,hxd]at h;cases h
    refine⟨_,SqL.of hxd,_,Zbz (show fb < _ by simp;omega),_,rfl,_,hxd,fb,by rw[Yj,Yj,Y7];exact Zgs ⋯,?_,λ_=>by rw[Zm (nld hpos)];exact hxl hpos,λj q hq=>by rw[Zm (nq _ _ (hxq j q hq))];exact hxq j q hq,by rw[Zm (nq _ _ hxt)];exact hxt,sx.upd zd⟩
    rw[Zd,Zbe ⋯,<-List.map_set,Zfi]
    congr 3
    refine List.map_congr_left λk hk=>?_
    rw[stp k]
    by_cases e:k=fb
    .rw[Yc e,Yc e.symm,<-e];omega
    .rw[Yb e,Yb (λy=>e y.symm)];omega
   .refine⟨?_,hxl,hxq,hxt,sx⟩
    rw[hxd]
    congr 3
    refine List.map_congr_left λk hk=>?_
    have:=YB.mp hk
    rw[stp k,Yb ⋯];rfl
  .rintro σ Hx ⟨v2,v3,rfl,hxd,hxl,hxq,hxt,sx⟩
   exact hR _ _ ⟨_,_,rfl,hxd,sx⟩
 clear s1 hdl ht1 H1
 rintro σ H1 ⟨v2,v3,rfl,hd,s1⟩
 right
 refine⟨_,.inl ⟨SqL.of hd,λu hu=>k1 u _ (s1.ZH hu) ?_⟩⟩
 rw[Zd]
 congr 2
 unfold Zs ZZ
 rw[Yy,Yy]
 refine List.map_congr_left λk hk=>?_
 show V.int _=V.int _
 rw[<-Zhk (YB.mp hk)]
theorem ok_brackets_of {f:Addr}{fd:FuncData} (F:Fun K "brackets_of" "brackets_of" s_brackets_of f fd) (ZcP:Callee P w K mg base "drops_of" 5 ["tree"] (sp_drops_of K mg)) (T:Txt K mg):FnOk P w K mg base (CXE P w) 6 f fd ["tree"] (sp_brackets_of K mg):=by
 refine F.okX sc_brackets_of (λvs H Q E h=>?_) (λcdv A outer s H vs Q E hr h=>?_)
 .obtain⟨t,T,rfl,_⟩:=h;rfl
 obtain⟨t,T',rfl,ht,hn,k⟩:=h
 refine⟨_,(Zc (Zl (i:=1) sc_brackets_of.nd rfl (Or.inl rfl) (Zi ZcP (hr.mono nofun) rfl Zcm (Za (pv 0) Zb)))
   (Zc (Zl (i:=2) sc_brackets_of.nd rfl (Or.inl rfl) (Zk Zbb (Zg (Zp (K:=K) rfl) rfl T.b_len Yl (Za (pv 1) Zb)) (Zg (ZfW (K:=K) rfl rfl) rfl T.b_sum ZhY (Za (pv 1) Zb))))
   (Ze (Zr (Zk ZK (Zaz PySem.F.plainAttrs_str PySem.F.slot_str_join PySem.F.type_str_join (Zew (K:=K) rfl) Zj (Za (Z3 ["drop"] [none] rfl rfl rfl (ZjL (pv 1)) (λ_ _ _ _ _=>(Zw (i:=0) (show(["drop"]:List Str).Nodup from by decide +kernel) rfl (Or.inl rfl))) (λ_ _ _ _ _=>Zaa) (λ_ _ _ _ _=>(Zk ZK (Zk ZaJ Zj (pv 0)) Zj)) ZL) Zb)) (Zk ZaJ Zj (pv 2))))))),?_⟩
 right
 refine⟨t,T',rfl,ht,hn,k.imp (λ⟨ns,h40,hT,k1⟩=>⟨ns,h40,hT,λu H1 s1 hu=>?_⟩) id⟩
 have eT:=hT.1
 have hD:=Zcn (nth ns) ns.length
 have ld:=ZaG (nth ns) ns.length
 generalize ZZ (nth ns) ns.length=ds at hu k1 hD ld
 have hsum:=ZaX hD
 have hu':=hu
 rw[ZdK]at hu'
 have hl:(Zs ds).length=ds.length:=ZI ds
 refine⟨u,rfl,_,.inr (SqT.of hu),u,rfl,_,SqT.of hu',rfl,u,rfl,⟨_,SqT.of hu⟩,?_⟩
 refine comp_map (n:=ds.length) (λj=>V.str (txt (List.replicate (ds.getD j 0) 41++[40]))) (YD (show _<=1000 by omega) nofun) (λj Hx s hj=>⟨_,_,SqT.of (s _ _ hu),Yg (by rw[hl];exact hj)⟩) (λHx s=>⟨_,SqT.of (s _ _ hu),Y5 hl⟩) ?_ ?_
 .rintro j x Hx Hy hj s ⟨rfl,hx⟩
  have ex:=hx _ (SqT.of (s _ _ hu))
  have ed:(Zs ds)[j]?=some (V.int (ds.getD j 0:Nat)):=by simp[Zs,Yi,hj]
  rw[ed]at ex
  cases ex
  have hd1:ds.getD j 0<=40:=by
   have:=hD j hj
   have:=ZeS ds j
   omega
  right
  refine⟨⋯,⋯,by rw[ZS,Zu];decide,?_,?_⟩
  .rw[ZS,Zbr,Z7,Zu,Zu,List.length_replicate,YV]
   exact Yf (show ds.getD j 0+1<=1000 by omega) nofun
  .refine CW.next hj ?_ s
   rw[ZS,Zbr,Z7,ZaW,YV]
 .intro l Hx sx hl1
  have el:(List.range ds.length).map (λj=>V.str (txt (List.replicate (ds.getD j 0) 41++[40])))=((ds.map λd=>List.replicate d 41++[40]).map txt).map V.str:=by
   rw[Yy,Yy]
   refine List.ext_getElem (by simp) λj j1 j2=>?_
   have:j<ds.length:=by simpa using j1
   simp[Yi,this]
  have ef:(ds.map λd=>List.replicate d 41++[40]).flatten=ZaH ds:=rfl
  have lb:=Za2 ds
  refine⟨l,rfl,_,SqL.of (by rw[Zd,el]),ZeW (by rw[ef];omega),?_,?_,by rw[ZS,Zu];decide,?_,?_⟩
  .rw[hl,Z4];omega
  .rw[hl,Z4];omega
  .rw[Zco,ef,ZS,Z7,Zu,Zu,List.length_replicate,lb,hl,Z4]
   exact Yf (show _<=1000 by omega) nofun
  .rw[Zco,ef,ZS,Z7,ZaW,hl,Z4,show(((ds.length:Nat):Int)-((ds.sum:Nat):Int)).toNat=ds.length-ds.sum by omega]
   exact k1 _ (s1.trans (sx.ZH hl1))
theorem ok__law_brackets {f:Addr}{fd:FuncData} (F:Fun K "_law_brackets" "_law_brackets" s__law_brackets f fd) (T:Txt K mg):FnOk P w K mg base (CXE P w) 1 f fd ["drops"] (sp__law_brackets K mg):=by
 refine F.okX sc__law_brackets (λvs H Q E h=>?_) (λcdv A outer s H vs Q E hr h=>?_)
 .obtain⟨t,ds,rfl,_⟩:=h;rfl
 obtain⟨u,ds,rfl,hu,hn,hD,k1⟩:=h
 refine⟨_,(Zc (Zl (i:=1) sc__law_brackets.nd rfl (Or.inl rfl) (Zaz PySem.F.plainAttrs_str PySem.F.slot_str_join PySem.F.type_str_join (Zew (K:=K) rfl) Zj (Za (Z3 ["many"] [none] rfl rfl rfl (ZjL (pv 0)) (λ_ _ _ _ _=>(Zw (i:=0) (show(["many"]:List Str).Nodup from by decide +kernel) rfl (Or.inl rfl))) (λ_ _ _ _ _=>Zaa) (λ_ _ _ _ _=>(Zk ZK (Zk ZaJ Zj (pv 0)) Zj)) ZL) Zb)))
   (Ze (Zr (Zk ZK (pv 1) (Zk ZaJ Zj (Zk Zbb (Zg (Zp (K:=K) rfl) rfl T.b_len Yl (Za (pv 0) Zb)) (Zg (ZfW (K:=K) rfl rfl) rfl T.b_sum ZhY (Za (pv 0) Zb)))))))),?_⟩
 right
 have hsum:=ZaX hD
 have hu':=hu
 rw[ZdK]at hu'
 have hl:(Zs ds).length=ds.length:=ZI ds
 refine⟨rfl,⟨_,SqT.of hu⟩,?_⟩
 refine comp_map (n:=ds.length) (λj=>V.str (txt (List.replicate (ds.getD j 0) 41++[40]))) (YD (show _<=1000 by omega) nofun) (λj Hx s hj=>⟨_,_,SqT.of (s _ _ hu),Yg (by rw[hl];exact hj)⟩) (λHx s=>⟨_,SqT.of (s _ _ hu),Y5 hl⟩) ?_ ?_
 .rintro j x Hx Hy hj s ⟨rfl,hx⟩
  have ex:=hx _ (SqT.of (s _ _ hu))
  have ed:(Zs ds)[j]?=some (V.int (ds.getD j 0:Nat)):=by simp[Zs,Yi,hj]
  rw[ed]at ex
  cases ex
  have hd1:ds.getD j 0<=40:=by
   have:=hD j hj
   have:=ZeS ds j
   omega
  right
  refine⟨⋯,⋯,by rw[ZS,Zu];decide,?_,?_⟩
  .rw[ZS,Zbr,Z7,Zu,Zu,List.length_replicate,YV]
   exact Yf (show ds.getD j 0+1<=1000 by omega) nofun
  .refine CW.next hj ?_ s
   rw[ZS,Zbr,Z7,ZaW,YV]
 .intro l Hx sx hl1
  have el:(List.range ds.length).map (λj=>V.str (txt (List.replicate (ds.getD j 0) 41++[40])))=((ds.map λd=>List.replicate d 41++[40]).map txt).map V.str:=by
   rw[Yy,Yy]
   refine List.ext_getElem (by simp) λj j1 j2=>?_
   have:j<ds.length:=by simpa using j1
   simp[Yi,this]
  have ef:(ds.map λd=>List.replicate d 41++[40]).flatten=ZaH ds:=rfl
  have lb:=Za2 ds
  have sy:=sx.ZH (o:=.lst ((List.range ds.length).map (λj=>V.str (txt (List.replicate (ds.getD j 0) 41++[40]))))) hl1
  refine⟨l,rfl,_,SqL.of (by rw[Zd,el]),ZeW (by rw[ef];omega),_,.inr (SqT.of (sy _ _ hu)),_,SqT.of (sy _ _ hu'),?_,?_,by rw[ZS,Zu];decide,?_,?_⟩
  .rw[hl,Z4];omega
  .rw[hl,Z4];omega
  .rw[Zco,ef,ZS,Z7,Zu,Zu,List.length_replicate,lb,hl,Z4]
   exact Yf (show _<=1000 by omega) nofun
  .rw[Zco,ef,ZS,Z7,ZaW,hl,Z4,show(((ds.length:Nat):Int)-((ds.sum:Nat):Int)).toNat=ds.length-ds.sum by omega]
   exact k1 _ sy
theorem hungSt_any (ds:List Nat):∀i,(∀q∈(Zx ds i).1,q<i)/\(Zx ds i).1.length=ZaA ds i/\(Zx ds i).2.length=ds.length
 |0=>⟨λq h=>absurd h (by simp[Zx]),rfl,by simp[Zx]⟩
 |i+1=>by
  obtain⟨h1,h2,h3⟩:=hungSt_any ds i
  refine⟨λq hq=>?_,?_,?_⟩
  .simp only[Zx,Yp,Y0]at hq
   rcases hq with hq|hq
   .have:=h1 q (List.mem_of_mem_take hq);omega
   .omega
  .simp only[Zx,Yn,YX,YC,List.length_nil,ZaA]
   rw[h2];omega
  .simp only[Zx]
   rw[ZeM];exact h3
theorem openN_sum (ds:List Int):∀p,p<=ds.length->RightD ds p->((ZaA (ds.map Int.toNat) p:Nat):Int)=p-(ds.take p).sum
 |0,_,_=>by simp[ZaA]
 |p+1,hp,h=>by
  have ih:=openN_sum ds p ⋯ λk hk=>h k ⋯
  have h1:=h p ⋯
  have e1:(ds.map Int.toNat).getD p 0=(nth ds p).toNat:=by simp[nth,Yi,show p<ds.length by omega]
  have e2:(ds.take (p+1)).sum=(ds.take p).sum+nth ds p:=by
   have eg:ds[p]'⋯=nth ds p:=by simp[nth,Yi,show p<ds.length by omega]
   rw[YQ,Yg (show p<ds.length by omega),List.sum_append,eg]
   simp
  simp only[ZaA]
  rw[e1,e2]
  omega
theorem areDrops_iff (ds:List Int):AreDrops ds↔ds.length<=40/\RightD ds ds.length:=by
 refine⟨λh=>⟨h.1,?_⟩,λh=>⟨h.1,λp hp=>?_⟩⟩
 .have:∀i,i<=ds.length->RightD ds i:=λi=>by
   induction i with
   |zero=>intro _ k hk;omega
   |succ i ih =>
    intro hi k hk
    by_cases e:k=i
    .subst e
     have h1:=h.2 k ⋯
     have h2:=openN_sum ds k ⋯ (ih ⋯)
     exact⟨h1.1,⋯⟩
    .exact ih ⋯ k ⋯
  exact this _ (Yd _)
 .have h1:=h.2 p hp
  have h2:=openN_sum ds p ⋯ λk hk=>h.2 k ⋯
  exact⟨h1.1,⋯⟩
theorem ok_need_short {f:Addr}{fd:FuncData} (F:Fun K "need_short" "need_short" s_need_short f fd) (T:Txt K mg):FnOk P w K mg base (CXE P w) 1 f fd ["told"] (sp_need_short K mg):=by
 refine F.okX sc_need_short (λvs H Q E h=>?_) (λcdv A outer s H vs Q E hr h=>?_)
 .obtain⟨t,xs,rfl,_⟩:=h;rfl
 obtain⟨t,xs,rfl,ht,hn,k1,k2⟩:=h
 refine⟨_,(Ze (ZN (PW.pt (ZfA (Zbv (ZaB (Zg (ZM (K:=K) rfl) rfl T.b_isinstance Zt (Za (pv 0) (Za (Zer (v:=.ty "tuple") rfl T.b_tuple Zau rfl) Zb))))) (Zdw (Zq Zb5 (Zg (Zp (K:=K) rfl) rfl T.b_len Yl (Za (pv 0) Zb)) (ZP (v:=.int 40) rfl T.m_MOST_PLACES ⟨_,rfl⟩) (Zo _))))) (Ze (Za0 rfl rfl T.c_NoTelling T.x_NoTelling (Za (ZdC (Zdb nofun (ZhX (ZP (v:=.int 40) rfl T.m_MOST_PLACES ⟨_,rfl⟩) (Zdb nofun ZhW)))) Zb) Zby)) Zy)),?_⟩
 right
 refine⟨true,.inl ⟨_,.tup ht,ZeH⟩,ZG (λz=>nomatch z) λ_=>⟨_,.inr (SqT.of ht),ZG (λz=>?_) λz=>k1 ⋯⟩⟩
 exact⟨⋯,by decide,λy=>⟨by decide,k2 ⋯ _ (Zh.refl H)⟩⟩
theorem ok_by_drops {f:Addr}{fd:FuncData} (F:Fun K "by_drops" "by_drops" s_by_drops f fd) (Zbs:Callee P w K mg base "settle" 1 ["elders","spine","place","keep"] (sp_settle K mg)) (ZbF:Callee P w K mg base "need_short" 1 ["told"] (sp_need_short K mg)) (T:Txt K mg):FnOk P w K mg base (CXE P w) 2 f fd ["told"] (sp_by_drops K mg):=by
 refine F.okX sc_by_drops (λvs H Q E h=>?_) (λcdv A outer s H vs Q E hr h=>?_)
 .obtain⟨t,xs,rfl,_⟩:=h;rfl
 obtain⟨t,ds,rfl,ht,hn,k1,k2⟩:=h
 refine⟨_,(Zc (Z5 (Zi ZbF (hr.mono nofun) rfl Zcm (Za (pv 0) Zb)))
   (Zc (Zl (i:=1) sc_by_drops.nd rfl (Or.inl rfl) (Zk ZhV (ZY (Za (ZiL Zf8 Zf) Zb)) (Zg (Zp (K:=K) rfl) rfl T.b_len Yl (Za (pv 0) Zb))))
   (Zc (Zl (i:=2) sc_by_drops.nd rfl (Or.inl rfl) (ZY Zb))
   (Zc (ZaC PassesOwn.leaving rfl (Zkd (K:=K) rfl rfl T.b_enumerate (Za (pv 0) Zb)) (ZjI (n:=2) rfl (Zc6 (Zw (i:=3) sc_by_drops.nd rfl (Or.inl rfl)) (Zc6 (Zw (i:=4) sc_by_drops.nd rfl (Or.inl rfl)) ZiJ))) (Zc (ZN (Zbv (ZeC Zg1 Zg1 Zf (pv 4) (Zg (Zp (K:=K) rfl) rfl T.b_len Yl (Za (pv 2) Zb)))) (Ze (Za0 rfl rfl T.c_NoTelling T.x_NoTelling (Za (ZdC (Zdb nofun (ZhX (pv 3) ZhW))) Zb) Zby)) Zy)
   (Ze (Z5 (Zi Zbs (hr.mono nofun) rfl ZA (Za (pv 1) (Za (pv 2) (Za (pv 3) (Za (Zk Zbb (Zg (Zp (K:=K) rfl) rfl T.b_len Yl (Za (pv 2) Zb)) (pv 4)) Zb)))))))))
   (Ze (Zr (Zz (ZaF (K:=K) rfl) rfl T.b_tuple Zau (Za (pv 1) Zb)))))))),?_⟩
 right
 have eL:(ds.map V.int).length=ds.length:=Yj ..
 refine⟨t,_,rfl,ht,by rw[eL];exact hn,λz40=>⟨by decide,λp hp=>⟨_,.inr (SqT.of (((Zh.refl H).upd hp) _ _ ht)),_,Zd,⋯,by rw[eL];omega,?_,λel hel=>⟨Yq _,λsp hsp=>?_⟩⟩⟩,λz40 H' s'=>k2 (λg=>by have:=g.1;rw[eL]at z40;omega) _ s'⟩
 .exact Yf (show _<=1000 by simp;omega) nofun
 have en:(((ds.map V.int).length:Nat):Int).toNat=ds.length:=by rw[eL];omega
 have s0:Zh H (upd (upd (upd H p (.lst [V.int (-1)])) el (.lst (List.replicate (((ds.map V.int).length:Nat):Int).toNat [V.int (-1)]).flatten)) sp (.lst [])):=(((Zh.refl H).upd hp).ZH hel).ZH hsp
 refine⟨_,SqT.of (s0 _ _ ht),?_⟩
 have hel0:(upd (upd (upd H p (.lst [V.int (-1)])) el (.lst (List.replicate (((ds.map V.int).length:Nat):Int).toNat [V.int (-1)]).flatten)) sp (.lst [])) el=some (.lst ((List.replicate ds.length (-1:Int)).map V.int)):=by
  have:=((Zh.refl _).ZH (o:=.lst []) hsp) el _ Zd
  rw[this,en];simp
 have hsp0:(upd (upd (upd H p (.lst [V.int (-1)])) el (.lst (List.replicate (((ds.map V.int).length:Nat):Int).toNat [V.int (-1)]).flatten)) sp (.lst [])) sp=some (.lst (Zs [])):=Zd
 have nes:el≠sp:=λz=>by
  subst z
  rw[Zd]at hsp;cases hsp
 have zel:H el=none:=((Zh.refl H).upd hp).free hel
 have zsp:H sp=none:=(((Zh.refl H).upd hp).ZH hel).free hsp
 rw[en]at hel0 hsp0 s0⊢
 generalize (upd (upd (upd H p (.lst [V.int (-1)])) el (.lst (List.replicate ds.length [V.int (-1)]).flatten)) sp (.lst []))=H0 at s0 hel0 hsp0⊢
 refine ZeR (n:=ds.length) (λi σ Hx=>∃(es:List Int) (S:List Nat) (v3 v4:Option V),σ=[some (.ref t),some (.ref el),some (.ref sp),v3,v4]/\Hx el=some (.lst (es.map V.int))/\Hx sp=some (.lst (Zs S))/\Zx (ds.map Int.toNat) i=(S,es)/\Zh H Hx/\RightD ds i)
  ⟨List.replicate ds.length (-1),[],none,none,rfl,hel0,hsp0,by simp[Zx],s0,λk hk=>absurd hk ⋯⟩ (λi σ Hx hi ⟨_,_,_,_,_,_,_,_,sx,_⟩=>⟨_,_,SqT.of (sx _ _ ht),Yg (by rw[eL];exact hi)⟩) (fun σ Hx ⟨_,_,_,_,_,_,_,_,sx,_⟩=>⟨_,SqT.of (sx _ _ ht),eL⟩) ?_ ?_
 .rintro i x σ Hx Hx' hi ⟨es,S,v3,v4,rfl,hxe,hxs,hst0,sx,hRt⟩ ⟨q,x,hq,rfl,rfl,hx⟩
  have ex:=hx _ (SqT.of (sx _ _ ht))
  rw[YH,Yg hi]at ex
  cases ex
  have eg:ds[i]=nth ds i:=by simp[nth,Yi,hi]
  rw[eg]
  obtain⟨hSlt,hSl,hel'⟩:=hungSt_any (ds.map Int.toNat) i
  rw[hst0]at hSlt hSl hel'
  have hok:=ZeS (ds.map Int.toNat) i
  have hSl:S.length=ZaA (ds.map Int.toNat) i:=hSl
  have hel':es.length=ds.length:=(show es.length=(ds.map Int.toNat).length from hel').trans (Yj ..)
  have hSlt:∀q∈S,q<i:=hSlt
  have edn:(ds.map Int.toNat).getD i 0=(nth ds i).toNat:=by simp[nth,Yi,hi]
  generalize hdd:nth ds i=d at edn⊢
  have g:=(Zh.refl Hx).upd (o:=.tup [.int (i:Int),.int d]) hq
  have tq:(upd Hx q (.tup [.int (i:Int),.int d])) q=some (.tup [.int (i:Int),.int d]):=Zd
  replace sx:=sx.trans g
  replace hxe:=g _ _ hxe
  replace hxs:=g _ _ hxs
  generalize upd Hx q (.tup [.int (i:Int),.int d])=Hy at sx hxe hxs tq⊢
  clear g hx hq Hx
  refine⟨q,_,rfl,SqT.of tq,rfl,_,_,rfl,_,_,rfl,rfl,?_⟩
  clear tq
  right
  have hlx:(Zs S).length=S.length:=ZI S
  have bad:¬ (0<=d/\d<=S.length)->¬ AreDrops ds:=λz g=>by
   have:=((areDrops_iff ds).mp g).2 i hi
   rw[hdd,<-hSl]at this
   exact z ⟨this.1,⋯⟩
  refine ZG (λy=>⟨_,.inl (SqL.of hxs),ZG (λz=>⟨⋯,⋯,λ_=>⟨by decide,k2 (bad λw=>z (by rw[hlx];exact w.2)) _ sx⟩⟩) λz=>⟨_,.inl (SqL.of hxs),?_⟩⟩) λy=>⟨⋯,⋯,λ_=>⟨by decide,k2 (bad λw=>y w.1) _ sx⟩⟩
  rw[hlx]at z
  have hdS:d.toNat<=S.length:= ⋯
  obtain⟨A',B,hAB,hBl⟩:=ZeT S hdS
  have hSAB:S.length=A'.length+B.length:=by rw[hAB,Yn]
  refine⟨el,sp,es,A',B,i,?_,hxe,by rw[<-hAB];exact hxs,nes,⋯,λq hq=>by have:=hSlt q (by rw[hAB];exact hq);omega,by rw[<-hAB];omega,λH' q1 q2 q3=>?_⟩
  .rw[hlx,show((S.length:Nat):Int)-d=(A'.length:Nat) by omega]
  refine⟨ZbY es A' B i,q2,A'++[i],q3,?_,λb o z=>q1 b o (ZC z zel) (ZC z zsp) (sx b o z),λk hk=>?_⟩
  .rw[ZdV (A:=A') (B:=B) (by rw[hst0];exact hAB) (by rw[hBl,edn]),hst0]
  .by_cases e:k=i
   .subst e;rw[hdd];exact⟨y,by rw[<-hSl];exact hdS⟩
   .exact hRt k ⋯
 .rintro σ Hx ⟨es,S,v3,v4,rfl,hxe,hxs,hst0,sx,hRt⟩
  right
  exact⟨_,.inl ⟨SqL.of hxe,λu hu=>k1 ((areDrops_iff ds).mpr ⟨by rw[eL]at z40;exact z40,hRt⟩) u _ (sx.ZH hu) (by rw[Zd];unfold ZeV;rw[Yj,hst0])⟩⟩
theorem occ_bra:∀q,q<128->(Builtin.Str.occurrences (Str.ofString "()") ⟨#[q]⟩ 0 (Str.ofString "()").length 1).isEmpty=decide (q≠40/\q≠41):=by decide +kernel
theorem bal_step {l:List Nat}{i q:Nat} (h:l[i]?=some q):balB (l.take (i+1))=balB (l.take i)+(if q=40 then 1 else 0)-(if q=41 then 1 else 0):=by
 unfold balB
 rw[YQ,h]
 simp only[Option.toList_some,List.count_append,List.count_singleton]
 by_cases a:q=40
 .subst a;simp;omega
 .by_cases b:q=41
  .subst b;simp;omega
  .simp[a,b]
theorem ok__law_are_brackets {f:Addr}{fd:FuncData} (F:Fun K "_law_are_brackets" "_law_are_brackets" s__law_are_brackets f fd) (T:Txt K mg):FnOk P w K mg base (CXE P w) 1 f fd ["text"] (sp__law_are_brackets K mg):=by
 refine F.okX sc__law_are_brackets (λvs H Q E h=>?_) (λcdv A outer s H vs Q E hr h=>?_)
 .obtain⟨l,rfl,_⟩:=h;rfl
 obtain⟨l,rfl,ha,hn,k1⟩:=h
 refine⟨_,(Zc (Zl (i:=1) sc__law_are_brackets.nd rfl (Or.inl rfl) Zf)
   (Zc (ZaE (ZaC PassesOwn.never rfl (Zia (pv 0)) (Zw (i:=2) sc__law_are_brackets.nd rfl (Or.inl rfl)) (Zc (Zl (i:=1) sc__law_are_brackets.nd rfl (Or.inl rfl) (Zk Zbb (Zk Z9 (pv 1) (Zz Zar rfl T.b_int Zbd (Za (ZQ Z1 (pv 2) Zj (Zo _)) Zb))) (Zz Zar rfl T.b_int Zbd (Za (ZQ Z1 (pv 2) Zj (Zo _)) Zb))))
   (Ze (ZN (PW.pt (ZfA (Zq Zc7 (pv 1) Zf (Zo _)) (Zdw (Zq Zc8 (pv 2) Zj (by with_unfolding_all rfl))))) (Ze (Zr Zcu)) Zy)))))
   (Ze (Zr (Zf6 (ZQ Z1 (pv 1) Zf (Zo _)) (Zdx (ZQ Zg1 (Zg ZaY rfl T.b_len Yl (Za (pv 0) Zb)) Zf (Zo _)))))))),?_⟩
 right
 have hsz:(txt l).cps.size=l.length:=by simp[txt]
 refine⟨?_,?_⟩
 .rw[Array.all_eq_true]
  intro i hi
  have hm:(txt l).cps[i]∈l:=by simp[txt]
  have:=ha _ hm
  exact YF this
 refine ZeR (n:=l.length) (λi σ Hx=>∃v2:Option V,σ=[some (.str (txt l)),some (.int (balB (l.take i))),v2]/\Hx=H/\∀j,j<i->(l.getD j 0=40\/l.getD j 0=41)/\0<=balB (l.take (j+1))) ⟨none,rfl,rfl,λj hj=>absurd hj ⋯⟩ (λi σ Hx hi _=>show i<(txt l).cps.size by omega) (fun σ Hx _=>show(txt l).cps.size<=l.length by omega) ?_ ?_
 .rintro i x σ Hx Hx' hi ⟨v2,rfl,rfl,hC⟩ ⟨rfl,q,hq,rfl⟩
  have hq':l[i]?=some q:=by simpa[txt]using hq
  have e1:(⟨#[q]⟩:Str)=Str.ofString "("↔q=40:=by
   rw[Zbr]
   exact⟨λz=>by simpa using ZbD (a:=[q]) z,λz=>by rw[z];rfl⟩
  have e2:(⟨#[q]⟩:Str)=Str.ofString ")"↔q=41:=by
   rw[ZS]
   exact⟨λz=>by simpa using ZbD (a:=[q]) z,λz=>by rw[z];rfl⟩
  have hlt:q<128:=ha q (List.mem_of_getElem? hq')
  have eq0:l.getD i 0=q:=by rw[Yi,hq'];rfl
  right
  have e3:(balB (l.take i)+if (⟨#[q]⟩:Str)=Str.ofString "(" then 1 else 0)-(if (⟨#[q]⟩:Str)=Str.ofString ")" then 1 else 0)=balB (l.take (i+1)):=by
   rw[bal_step hq'];simp only[e1,e2]
  rw[e3,occ_bra q hlt]
  refine ZG (λz=>?_) λz=>ZG (λy=>?_) λy=>⟨rfl,λj hj=>?_⟩
  .exact k1 _ ⟨(λy=>nomatch y),λg=>absurd (g.1 i hi).2 ⋯⟩
  .refine k1 _ ⟨(λy=>nomatch y),λg=>?_⟩
   have:=(g.1 i hi).1
   rw[eq0]at this
   have y':decide (q≠40/\q≠41)=true:=by simpa using y
   have y2:=YM y'
   omega
  .by_cases e:j=i
   .subst e
    refine⟨?_,⋯⟩
    rw[eq0]
    have y':¬ (q≠40/\q≠41):=λw=>y (by simp[w])
    omega
   .exact hC j ⋯
 .rintro σ Hx ⟨v2,rfl,rfl,hC⟩
  right
  have ets:(txt l).length=l.length:=by simp[txt,Str.length]
  rw[List.take_length,ets]
  refine ZG (λz=>⟨Yf hn nofun,k1 _ ?_⟩) λz=>k1 _ ⟨(λy=>nomatch y),λg=>absurd g.2.1 z⟩
  exact⟨λy=>⟨hC,z,by have:=YM y;omega⟩,λg=>YF (by have:=g.2.2;omega)⟩
theorem ok_by_brackets {f:Addr}{fd:FuncData} (F:Fun K "by_brackets" "by_brackets" s_by_brackets f fd) (ZcQ:Callee P w K mg base "by_drops" 2 ["told"] (sp_by_drops K mg)) (T:Txt K mg):FnOk P w K mg base (CXE P w) 3 f fd ["text"] (sp_by_brackets K mg):=by
 refine F.okX sc_by_brackets (λvs H Q E h=>?_) (λcdv A outer s H vs Q E hr h=>?_)
 .obtain⟨t,rfl,_⟩:=h;rfl
 obtain⟨l,rfl,ha,hn,k1,k2⟩:=h
 refine⟨_,(Zc (Zl (i:=1) sc_by_brackets.nd rfl (Or.inl rfl) (ZY Zb))
   (Zc (Zl (i:=2) sc_by_brackets.nd rfl (Or.inl rfl) Zf)
   (Zc (ZaC PassesOwn.leaving rfl (Zia (pv 0)) (Zw (i:=3) sc_by_brackets.nd rfl (Or.inl rfl)) (Ze (ZN (Zq Z1 (pv 3) Zj (Zo _)) (Zc (Z5 (Zaz PySem.F.plainAttrs_list PySem.F.slot_list_append PySem.F.type_list_append Zad (pv 1) (Za (pv 2) Zb)))
   (Ze (Zl (i:=2) sc_by_brackets.nd rfl (Or.inl rfl) Zf))) (Ze (ZN (Zq Z1 (pv 3) Zj (Zo _)) (Ze (ZjJ (i:=2) sc_by_brackets.nd rfl (Or.inl rfl) Zf ZjK)) (Ze (Za0 rfl rfl T.c_NoTelling T.x_NoTelling (Za Zj Zb) Zby)))))))
   (Zc (Zl (i:=4) sc_by_brackets.nd rfl (Or.inl rfl) (Zi ZcQ (hr.mono nofun) rfl Zcm (Za (Zz (ZaF (K:=K) rfl) rfl T.b_tuple Zau (Za (pv 1) Zb)) Zb)))
   (Zc (ZN (Zq Zg0 (Zk Z9 (Zg (ZjZ rfl) rfl T.b_sum ZhY (Za (pv 1) Zb)) (pv 2)) (Zg (Zp (K:=K) rfl) rfl T.b_len Yl (Za (pv 1) Zb)) (Zo _)) (Ze (Za0 rfl rfl T.c_NoTelling T.x_NoTelling (Za Zj Zb) Zby)) Zy)
   (Ze (Zr (pv 4)))))))),?_⟩
 right
 have hsz:(txt l).cps.size=l.length:=by simp[txt]
 refine⟨Yq _,λp hp=>⟨?_,?_⟩⟩
 .rw[Array.all_eq_true]
  intro i hi
  have hm:(txt l).cps[i]∈l:=by simp[txt]
  exact YF (ha _ hm)
 refine ZeR (n:=l.length) (λi σ Hx=>∃(a:List Nat) (c:Nat) (v3:Option V),σ=[some (.str (txt l)),some (.ref p),some (.int (c:Nat)),v3,none]/\(l.take i).foldl ZF ([],0)=(a,c)/\a.length<=i/\Hx p=some (.lst (Zs a))/\Zh H Hx/\∀x∈l.take i,x=40\/x=41) ⟨[],0,none,rfl,rfl,Yq _,Zd,(Zh.refl H).upd hp,λx hx=>absurd hx (by simp)⟩ (λi σ Hx hi _=>show i<(txt l).cps.size by omega) (fun σ Hx _=>show(txt l).cps.size<=l.length by omega) ?_ ?_
 .rintro i x σ Hx Hx' hi ⟨a,c,v3,rfl,hf,hal,hxp,sx,hall⟩ ⟨rfl,q,hq,rfl⟩
  have hq':l[i]?=some q:=by simpa[txt]using hq
  have hstep:=Zib ZF ([],0) hq'
  rw[hf]at hstep
  have e1:(⟨#[q]⟩:Str)=Str.ofString "("↔q=40:=by
   rw[Zbr]
   exact⟨λz=>by simpa using ZbD (a:=[q]) z,λz=>by rw[z];rfl⟩
  have e2:(⟨#[q]⟩:Str)=Str.ofString ")"↔q=41:=by
   rw[ZS]
   exact⟨λz=>by simpa using ZbD (a:=[q]) z,λz=>by rw[z];rfl⟩
  have hall2:(q=40\/q=41)->∀x∈l.take (i+1),x=40\/x=41:=λz x hx=>by
   rw[YQ,hq']at hx
   rcases Yp.mp hx with hx|hx
   .exact hall x hx
   .simp at hx;rw[hx];exact z
  right
  refine ZG (λz=>?_) λz=>ZG (λy=>?_) λy=>?_
  .obtain rfl:=e1.mp z
   refine⟨Zak hxp,_,hxp,YD (show _<=1000 by rw[ZI];omega) nofun,a++[c],0,rfl,hstep,by simp;omega,?_,sx.upd hp,hall2 (.inl rfl)⟩
   rw[Zd,Zbp];rfl
  .obtain rfl:=e2.mp y
   exact⟨a,c+1,⋯,hstep,⋯,hxp,sx,hall2 (.inr rfl)⟩
  .refine⟨by decide,k2 (λg=>?_) _ sx⟩
   rcases g.1 q (List.mem_of_getElem? hq')with w|w
   .exact z (e1.mpr w)
   .exact y (e2.mpr w)
 .rintro σ Hx ⟨a,c,v3,rfl,hf,hal,hxp,sx,hall⟩
  rw[List.take_length]at hf hall
  right
  have ea:Zs a=(a.map λ(d:Nat)=>(d:Int)).map V.int:=by simp[Zs,Function.comp_def]
  have et:(a.map λ(d:Nat)=>(d:Int)).map Int.toNat=a:=by simp[Function.comp_def]
  refine⟨_,.inl ⟨SqL.of hxp,λw hw=>⟨w,a.map λ(d:Nat)=>(d:Int),rfl,by rw[Zd,ea],by simp;omega,λgD u H2 s2 hu=>?_,λgD H2 s2=>k2 (λg=>gD (by have:=g.2.1;rw[hf]at this;exact this)) _ (sx.trans (((Zh.refl Hx).upd hw).trans s2))⟩⟩⟩
  rw[et]at hu
  have s3:=((Zh.refl Hx).upd (o:=.tup (Zs a)) hw).trans s2
  have hp2:=s3 _ _ hxp
  have hp3:=hp2
  rw[ZdK]at hp3
  refine⟨_,SqL.of hp3,_,.inl (SqL.of hp2),ZG (λz=>⟨by decide,k2 (λg=>z ?_) _ (sx.trans s3)⟩) λz=>k1 ⟨hall,by rw[hf];exact gD,?_⟩ u H2 (sx.trans s3) (by rw[hf];exact hu)⟩
  .have g3:a.sum+c=a.length:=by have:=g.2.2;rw[hf]at this;exact this
   rw[Z4,ZI];omega
  .rw[hf]
   have z':=Classical.not_not.mp z
   rw[Z4,ZI]at z'
   show a.sum+c=a.length
   omega
theorem ok__law_drops {f:Addr}{fd:FuncData} (F:Fun K "_law_drops" "_law_drops" s__law_drops f fd) (T:Txt K mg):FnOk P w K mg base (CXE P w) 1 f fd ["row"] (sp__law_drops K mg):=by
 refine F.okX sc__law_drops (λvs H Q E h=>?_) (λcdv A outer s H vs Q E hr h=>?_)
 .obtain⟨t,ds,rfl,_⟩:=h;rfl
 obtain⟨r,ns,rfl,hr1,hn,k1⟩:=h
 refine⟨_,(Zc (Zl (i:=1) sc__law_drops.nd rfl (Or.inl rfl) (ZY Zb))
   (Zc (ZaE (ZaC PassesOwn.never rfl (ZW rfl T.b_range (Za (Zg (Zp (K:=K) rfl) rfl T.b_len Yl (Za (pv 0) Zb)) Zb)) (Zw (i:=2) sc__law_drops.nd rfl (Or.inr rfl)) (Zc (ZeP (i:=3) ["other","row","place"] [none,some 0,some 2] sc__law_drops.nd rfl (Or.inl rfl) rfl rfl rfl (ZW rfl T.b_range (Za (pv 2) Zb)) (λ_ _ _ _ _=>(Zw (i:=0) (show(["other","row","place"]:List Str).Nodup from by decide +kernel) rfl (Or.inr rfl))) (λ_ _ _ _ _=>Zc9 (ZaB (Zg (Zha (K:=K) rfl rfl) rfl T.b_all Zj5 (Za (Z3 ["k","row","other"] [none,some 1,some 0] rfl rfl rfl (Zi3 rfl T.b_range (Za (pv 0) (Za (pv 2) Zb))) (λ_ _ _ _ _=>(Zw (i:=0) (show(["k","row","other"]:List Str).Nodup from by decide +kernel) rfl (Or.inl rfl))) (λ_ _ _ _ _=>Zaa) (λ_ _ _ _ _=>(ZQ Zg1 (Z2 (r:=rIxL K) Z6 (pv 1) (pv 2) (λ_ _=>rfl)) (Z2 (r:=rIxL K) Z6 (pv 1) (pv 0) (λ_ _=>rfl)) (Zo _))) ZL) Zb)))) (λ_ _ _ _ _=>(pv 0)) ZL)
   (Ze (Z5 (Zaz PySem.F.plainAttrs_list PySem.F.slot_list_append PySem.F.type_list_append Zad (pv 1) (Za (Zg (Zp (K:=K) rfl) rfl T.b_len Yl (Za (Z3 ["other","row","place"] [none,some 0,some 2] rfl rfl rfl (Za6 (pv 3)) (λ_ _ _ _ _=>(Zw (i:=0) (show(["other","row","place"]:List Str).Nodup from by decide +kernel) rfl (Or.inl rfl))) (λ_ _ _ _ _=>Zc9 (Zq Zb5 (Z2 (r:=rIxL K) Z6 (pv 1) (pv 0) (λ_ _=>rfl)) (Z2 (r:=rIxL K) Z6 (pv 1) (pv 2) (λ_ _=>rfl)) (Zo _))) (λ_ _ _ _ _=>(pv 0)) ZL) Zb)) Zb)))))))
   (Ze (Zr (Zz (ZaF (K:=K) rfl) rfl T.b_tuple Zau (Za (pv 1) Zb)))))),?_⟩
 right
 have eL:(ns.map V.int).length=ns.length:=Yj ..
 refine⟨Yq _,λp hp=>?_⟩
 have s0:Zh H (upd H p (.lst [])):=(Zh.refl H).upd hp
 refine⟨_,.inl (SqL.of (s0 _ _ hr1)),⋯,by rw[eL];omega,?_⟩
 rw[show(((ns.map V.int).length:Nat):Int).toNat=ns.length by rw[eL];omega]
 have h0:(upd H p (.lst [])) p=some (.lst (Zs ((List.range 0).map (Zab (nth ns))))):=Zd
 generalize upd H p (.lst [])=H0 at s0 h0⊢
 refine Zac (λi σ Hx=>∃v2 v3,σ=[some (.ref r),some (.ref p),v2,v3]/\Hx p=some (.lst (Zs ((List.range i).map (Zab (nth ns)))))/\Zh H Hx) ⟨_,_,rfl,h0,s0⟩ ?_ ?_
 .clear h0 s0 H0
  rintro i σ Hx hi ⟨v2,v3,rfl,hP,sx⟩
  have e0:((0:Int)+(i:Int))=(i:Int):= ⋯
  rw[e0]
  refine Zax (fun σ Hy=>∃l:Addr,σ=[some (.ref r),some (.ref p),some (.int (i:Int)),some (.ref l)]/\Hy l=some (.lst (Zs ((List.range i).filter λo=>((List.range (i-o)).map λk=>decide (nth ns o<=nth ns (o+k))).all id)))/\Hy p=some (.lst (Zs ((List.range i).map (Zab (nth ns)))))/\Zh H Hy) (λR hR=>?_) ?_
  .right
   refine⟨⋯,⋯,?_⟩
   rw[show((i:Int)).toNat=i by omega]
   refine ZdG (n:=i) (λo=>((List.range (i-o)).map λk=>decide (nth ns o<=nth ns (o+k))).all id) (λq=>V.int (q:Nat)) (YD (show _<=1000 by omega) nofun) (λj Hz s hj=>hj) (λHz s=>Yd _) ?_ ?_
   .rintro j x Hz Hw hj s ⟨rfl,rfl⟩
    have ej:((0:Int)+(j:Int))=(j:Int):= ⋯
    rw[ej]
    right
    refine⟨⋯,⋯,⋯,⋯,?_⟩
    rw[show((i:Int)-(j:Int)).toNat=i-j by omega]
    refine comp_map (n:=i-j) (λk=>V.bl (decide (nth ns j<=nth ns (j+k)))) (YD (show _<=1000 by omega) nofun) (λk Hq s hk=>hk) (λHq s=>Yd _) ?_ ?_
    .rintro k x Hq Hq' hk s' ⟨rfl,rfl⟩
     rw[show((j:Int)+(k:Int))=((j+k:Nat):Int) by omega]
     right
     have hrz:=SqL.of (K:=K) ((sx.trans (s.trans s')) _ _ hr1)
     exact⟨_,hrz,_,Zbz ⋯,_,hrz,_,Zbz ⋯,_,rfl,_,rfl,CW.next hk rfl s'⟩
    .intro l Hq s' hl
     exact⟨l,rfl,(List.range (i-j)).map λk=>decide (nth ns j<=nth ns (j+k)),SqL.of (by rw[Zd,Yy];rfl),ZG (λz=>CF.take hj z rfl (s.trans (s'.ZH hl))) λz=>CF.skip hj (Bool.eq_false_iff.mpr z) (s.trans (s'.ZH hl))⟩
   .intro l Hz s hl
    have g:=s.ZH (o:=.lst (((List.range i).filter λo=>((List.range (i-o)).map λk=>decide (nth ns o<=nth ns (o+k))).all id).map λq=>V.int (q:Nat))) hl
    exact hR _ _ ⟨l,rfl,Zd,g _ _ hP,sx.trans g⟩
  clear hP sx Hx
  rintro σ Hx ⟨l,rfl,hl,hP,sx⟩
  have hcount:=Zic (nth ns) i
  have hSm:∀o∈(List.range i).filter (λo=>((List.range (i-o)).map λk=>decide (nth ns o<=nth ns (o+k))).all id),o<i:=λo ho=>YB.mp (YR.mp ho).1
  have hSl:((List.range i).filter λo=>((List.range (i-o)).map λk=>decide (nth ns o<=nth ns (o+k))).all id).length<=i:=Yf (List.length_filter_le _ _) (by simp)
  generalize ((List.range i).filter λo=>((List.range (i-o)).map λk=>decide (nth ns o<=nth ns (o+k))).all id)=S at hcount hSm hSl hl
  have hS:∀k,k<S.length->S.getD k 0<i:=λk hk=>hSm _ (by rw[show S.getD k 0=S[k] by simp[hk]];exact YK hk)
  right
  refine⟨Zak hP,⟨_,SqL.of hl⟩,?_⟩
  refine ZdG (n:=S.length) (λk=>decide (nth ns i<nth ns (S.getD k 0))) (λk=>V.int (S.getD k 0:Nat)) (YD (show _<=1000 by omega) nofun) (λk Hz s hk=>⟨_,_,SqL.of (s _ _ hl),Yg (by rw[ZI];exact hk)⟩) (λHz s=>⟨_,SqL.of (s _ _ hl),Y5 (ZI S)⟩) ?_ ?_
  .rintro k x Hz Hw hk s ⟨rfl,hx⟩
   have ex:=hx _ (SqL.of (s _ _ hl))
   have ed:(Zs S)[k]?=some (V.int (S.getD k 0:Nat)):=by simp[Zs,Yi,hk]
   rw[ed]at ex
   cases ex
   have hSk:=hS k hk
   right
   have hrz:=SqL.of (K:=K) ((sx.trans s) _ _ hr1)
   exact⟨_,hrz,_,Zbz ⋯,_,hrz,_,Zbz hi,_,rfl,_,rfl,ZG (λz=>CF.take hk (YF z) rfl s) λz=>CF.skip hk (YJ z) s⟩
  .intro l2 Hz s hl2
   have g:=s.ZH (o:=.lst (((List.range S.length).filter λk=>decide (nth ns i<nth ns (S.getD k 0))).map λk=>V.int (S.getD k 0:Nat))) hl2
   refine⟨l2,rfl,_,.inl (SqL.of Zd),_,g _ _ hP,YD (show _<=1000 by rw[ZI];simp;omega) nofun,?_,(sx.trans g).upd hp⟩
   have ec:(((List.range S.length).filter λk=>decide (nth ns i<nth ns (S.getD k 0))).map λk=>V.int (S.getD k 0:Nat)).length=Zab (nth ns) i:=by
    rw[<-hcount,Yj,<-List.countP_eq_length_filter,<-List.countP_eq_length_filter]
    conv=>rhs;rw[show S=(List.range S.length).map λk=>S.getD k 0 from List.ext_getElem (by simp) λk k1 k2=>by simp[Yi,k1]]
    rw[List.countP_map];rfl
   rw[ec,Zd,YN,YU,Zbp];rfl
 .rintro σ Hx ⟨v2,v3,rfl,hP,sx⟩
  right
  exact⟨_,.inl ⟨SqL.of hP,λt ht=>k1 t _ (sx.ZH ht) Zd⟩⟩
theorem flat_opts (xs:List (Option Int)):(xs.map optI).all flatV=true:=by
 induction xs with
 |nil=>rfl
 |cons a r ih=>rw[YO,List.all_cons,ih];cases a<;>rfl
theorem in_opts (xs:List (Option Int)):inV .non (xs.map optI)=decide (none∈xs):=by
 induction xs with
 |nil=>rfl
 |cons a r ih =>
  cases a with
  |none =>
   rw[YF (Y4 ..)]
   show(eqV (optI none) .non||(r.map optI).any λy=>eqV y .non)=true
   rw[show eqV (optI none) .non=true from rfl,Bool.true_or]
  |some i =>
   have:inV .non ((some i::r).map optI)=inV .non (r.map optI):=by simp[inV,optI,eqV]
   rw[this,ih];simp
theorem numOk_iff {w:List Nat}:numOk w=true↔figs w≠[]/\(figs w).length<=60/\(∀c∈figs w,48<=c/\c<=57)/\((figs w).head?=some 48->w=[48]):=by
 refine⟨numOk_spec,λ⟨h1,h2,h3,h4⟩=>?_⟩
 unfold numOk
 rw[Bool.and_eq_true,Bool.and_eq_true,Bool.and_eq_true]
 refine⟨⟨⟨?_,YF h2⟩,List.all_eq_true.mpr λc hc=>YF (h3 c hc)⟩,?_⟩
 .cases e:figs w with
  |nil=>exact absurd e h1
  |cons a r=>rfl
 .by_cases z:(figs w).head?=some 48
  .rw[h4 z];rfl
  .have:((figs w).head?==some 48)=false:=by simpa using z
   rw[this];rfl
theorem num_yes {w:List Nat}{H:Hp}{Q:VK} (k1:Q (optI (numR w)) H) (h:numOk w=true):∃x,PySem.intText? (txt w)=some x/\(txt w).length<=640/\Q (.int x) H:=by
 obtain⟨i,_,_,v,e⟩:=numR_ok h
 rw[e]at k1
 refine⟨i,v,?_,k1⟩
 have:=(numOk_spec h).2.1
 have e:=figs_eq w
 rw[Zu]
 split at e
 .rw[e,List.length_tail]at this;omega
 .rw[e]at this;omega
theorem num_no {w:List Nat}{H:Hp}{Q:VK} (k1:Q (optI (numR w)) H) (h:¬ numOk w=true):Q .non H:=by
 rw[numR_no h]at k1;exact k1
theorem slice_figs (w:List Nat):Txt.slice (txt w) (some (if Txt.slice (txt w) none (some 1)=Str.ofString "-" then 1 else 0)) none=txt (figs w):=by
 rw[figs_eq]
 by_cases h:w.head?=some 45
 .rw[Yc ((slice_one w).mpr h),Yc h]
  cases w with
  |nil=>cases h
  |cons a r=>exact slice_fromN (a::r) 1 (by simp)
 .rw[Yb λz=>h ((slice_one w).mp z),Yb h]
  exact slice_fromN w 0 (Yq _)
theorem ok_read_number {f:Addr}{fd:FuncData} (F:Fun K "read_number" "read_number" s_read_number f fd) (T:Txt K mg):FnOk P w K mg base (CXE P w) 1 f fd ["word"] (sp_read_number K mg):=by
 refine F.okX sc_read_number (λvs H Q E h=>?_) (λcdv A outer s H vs Q E hr h=>?_)
 .obtain⟨w,rfl,_⟩:=h;rfl
 obtain⟨w,rfl,hw,k1⟩:=h
 refine⟨_,(Zc (Zl (i:=1) sc_read_number.nd rfl (Or.inl rfl) (Zaz PySem.F.plainAttrs_str PySem.F.slot_str_removeprefix PySem.F.type_str_removeprefix ZkU (pv 0) (Za Zj Zb)))
   (Zc (ZN (PW.pt (ZfA (Zq Zb5 (Zg ZaY rfl T.b_len Yl (Za (pv 1) Zb)) (ZP (v:=.int 60) rfl T.m_MOST_FIGURES ⟨_,rfl⟩) (Zo _)) (Zdw (Zbv (PW.pt (ZcH (ZaB (ZjR PySem.F.plainAttrs_str PySem.F.slot_str_isascii PySem.F.type_str_isascii Zkk (pv 1))) (Zcl (ZaB (ZjR PySem.F.plainAttrs_str PySem.F.slot_str_isdigit PySem.F.type_str_isdigit Zkl (pv 1)))))))))) (Ze (Zr Zba)) Zy)
   (Zc (ZN (PW.pt (ZcH (ZaB (Zaz PySem.F.plainAttrs_str PySem.F.slot_str_startswith PySem.F.type_str_startswith Zjx (pv 1) (Za Zj Zb))) (Zcl (Zq Zg0 (pv 0) Zj (Zo _))))) (Ze (Zr Zba)) Zy)
   (Ze (Zr (Zz ZfY rfl T.b_int Zbd (Za (pv 0) Zb))))))),?_⟩
 have fa:∀c∈figs w,c<128:=λc hc=>hw.1 c (figs_sub hc)
 have fl:=figs_len w
 have wl:=hw.2
 right
 simp only[remP_figs,asc_txt fa,dig_txt fa,zero_txt,zero_is,Zu]
 refine⟨rfl,Yf (show _<=30000 by omega) nofun,Yf (show _<=30000 by omega) nofun,ZG (λc=>num_no k1 λz=>by have:=(numOk_spec z).2.1;omega) λc1=>⟨rfl,?_⟩⟩
 rw[Yc trivial]
 refine⟨rfl,ZG (λc=>num_no k1 λz=>?_) λc2=>⟨rfl,?_⟩⟩
 .obtain⟨h1,h2,h3,_⟩:=numOk_spec z
  rw[Bool.and_eq_false_iff]at c
  rcases c with c|c
  .cases e:figs w with
   |nil=>exact h1 e
   |cons a r=>rw[e]at c;cases c
  .rw[List.all_eq_true.mpr λx hx=>YF (h3 x hx)]at c;cases c
 .rw[Bool.not_eq_false,Bool.and_eq_true]at c2
  have h1:figs w≠[]:=λe=>by rw[e]at c2;cases c2.1
  have h3:∀c∈figs w,48<=c/\c<=57:=λc hc=>YM (List.all_eq_true.mp c2.2 c hc)
  refine ZG (λc3=>ZG (λc4=>num_no k1 λz=>c4 ((numOk_spec z).2.2.2 (by simpa using c3))) λc4=>num_yes k1 (numOk_iff.mpr ⟨h1,⋯,h3,λ_=>Classical.not_not.mp c4⟩)) λc3=>num_yes k1 (numOk_iff.mpr ⟨h1,⋯,h3,λz=>absurd (by simpa using z) c3⟩)
theorem opt_map {ws:List (List Nat)} (h:none∉ws.map numR):(ws.map numR).map optI=(ws.map λw=>(numR w).getD 0).map V.int:=by
 rw[Yy,Yy]
 refine List.map_congr_left λw hw=>?_
 show optI (numR w)=V.int ((numR w).getD 0)
 cases e:numR w with
 |none=>exact absurd (YG.mpr ⟨w,hw,e⟩) h
 |some i=>rfl
theorem words_comp {te:TE}{H:Hp}{l:List Nat}{p:Addr}{Q:VK} (hl:Asc 25000 l) (hp:H p=some (.lst ((Txt.split (txt l) (Str.ofString " ")).map V.str)))
  (hte:∀w Hx R,Asc 25000 w->Zh H Hx->(∀Hy,Zh Hx Hy->R (optI (numR w)) Hy)->te [some (.str (txt w))] Hx R)
  (hk:∀q H',Zh H H'->H' q=some (.lst (((wds l).map numR).map optI))->Q (.ref q) H'):(∃xs,SqL K H p xs)/\ZfI (Itl K p) (gName 0) tYes te [none] Q H:=by
 rw[<-wds_txt,Yy]at hp
 have hm:=wds_many l
 have hl2:=hl.2
 refine⟨⟨_,SqL.of hp⟩,comp_map (n:=(wds l).length) (λj=>optI (numR ((wds l).getD j []))) (YD (show _<=30000 by omega) nofun) (λj Hx s hj=>⟨_,_,SqL.of (s _ _ hp),Yg (by simpa using hj)⟩) (λHx s=>⟨_,SqL.of (s _ _ hp),by simp⟩) ?_ ?_⟩
 .rintro j v Hx Hy hj s ⟨rfl,hv⟩
  have:=hv _ (SqL.of (s _ _ hp))
  rw[YH,Yg hj]at this
  cases this
  have hw:=wds_asc hl (YK hj)
  have eg:(wds l).getD j []=(wds l)[j]:=by simp[Yi,hj]
  right
  refine hte (wds l)[j] Hy _ hw s λHz sz=>CW.next hj (by rw[eg]) (s.trans sz)
 .intro q Hx sx hq
  refine hk q _ (sx.ZH hq) ?_
  rw[Zd,Yy]
  congr 2
  refine List.ext_getElem (by simp) λi h1 h2=>?_
  have hi:i<(wds l).length:=by simpa using h1
  simp[Yi,hi]
theorem ok_read_row {f:Addr}{fd:FuncData} (F:Fun K "read_row" "read_row" s_read_row f fd) (Zbf:Callee P w K mg base "read_number" 1 ["word"] (sp_read_number K mg)) (T:Txt K mg):FnOk P w K mg base (CXE P w) 2 f fd ["text"] (sp_read_row K mg):=by
 refine F.okX sc_read_row (λvs H Q E h=>?_) (λcdv A outer s H vs Q E hr h=>?_)
 .obtain⟨w,rfl,_⟩:=h;rfl
 obtain⟨l,rfl,hl,k1,k2⟩:=h
 refine⟨_,(Zc (ZN (Zq Z1 (pv 0) (ZP (v:=.str (Str.ofString "-")) rfl T.m_NOTHING ⟨_,rfl⟩) (Zo _)) (Ze (Zr (Zbc Zb))) Zy)
   (Zc (ZeP (i:=1) ["word"] [none] sc_read_row.nd rfl (Or.inl rfl) rfl rfl rfl (Za6 (Zaz PySem.F.plainAttrs_str PySem.F.slot_str_split PySem.F.type_str_split Zhm (pv 0) (Za Zj Zb))) (λ_ _ _ _ _=>(Zw (i:=0) (show(["word"]:List Str).Nodup from by decide +kernel) rfl (Or.inl rfl))) (λ_ _ _ _ _=>Zaa) (λ_ _ _ _ _=>(Zi Zbf (hr.mono nofun) rfl ZA (Za (pv 0) Zb))) ZL)
   (Zc (ZN (PW.pt (ZfA (Zq (Zkc (K:=K) rfl) Zba (pv 1) (by with_unfolding_all rfl)) (Zdw (Zq Zb5 (Zg (Zp (K:=K) rfl) rfl T.b_len Yl (Za (pv 1) Zb)) (ZP (v:=.int 40) rfl T.m_MOST_PLACES ⟨_,rfl⟩) (Zo _))))) (Ze (Za0 rfl rfl T.c_NoText T.x_NoText (Za Zj Zb) Zby)) Zy)
   (Ze (Zr (Zz (ZaF (K:=K) rfl) rfl T.b_tuple Zau (Za (pv 1) Zb))))))),?_⟩
 right
 have hl2:=hl.2
 refine ZG (λz=>⟨Yq _,λp hp=>k1 [] (by unfold rowR;rw[Yc ((minus_txt l).mp z)]) p _ ((Zh.refl H).upd hp) Zd⟩) λz=>⟨rfl,by decide +kernel,by rw[Zu];omega,λp hp=>?_⟩
 have hz:l≠[45]:=λe=>z ((minus_txt l).mpr e)
 refine words_comp hl Zd (λw Hx R hw s h=>⟨_,rfl,w,rfl,hw,h Hx (Zh.refl _)⟩) λq H1 s1 hq=>?_
 have g1:=(Zh.refl H).ZH (o:=.lst ((Txt.split (txt l) (Str.ofString " ")).map V.str)) hp
 have s2:=g1.trans s1
 refine⟨q,rfl,_,.inl (SqL.of hq),rfl,flat_opts _,ZG (λc=>⟨by decide,k2 ?_ _ s2⟩) λc=>⟨q,rfl,_,.inl (SqL.of hq),ZG (λc2=>⟨by decide,k2 ?_ _ s2⟩) λc2=>⟨q,rfl,_,.inl ⟨SqL.of hq,λt ht=>?_⟩⟩⟩⟩
 .rw[in_opts]at c
  unfold rowR
  rw[Yb hz,Yc (.inl (YM c))]
 .unfold rowR
  rw[Yb hz,Yc (.inr (by simp at c2;omega))]
 .rw[in_opts]at c
  have c3:none∉(wds l).map numR:=λe=>c (YF e)
  have hR:rowR l=some ((wds l).map λw=>(numR w).getD 0):=by
   unfold rowR
   rw[Yb hz,Yb (by simp at c2;rintro(e|e);exact c3 e;omega)]
  refine k1 _ hR t _ (s2.ZH ht) ?_
  rw[Zd,opt_map c3]
theorem log_ok {i:Int} (h:i.natAbs<10 ^ 60):i.natAbs.log2<1920:=by
 by_cases z:i.natAbs=0
 .rw[z];decide
 .exact(Nat.log2_lt z).mpr (Ys h (by decide +kernel))
theorem blank_one:(Str.ofString " ")=(⟨#[32]⟩:Str):=blank80
theorem map_nth {α:Type} (f:Int->α) (ns:List Int):(List.range ns.length).map (λj=>f (nth ns j))=ns.map f:=by
 refine List.ext_getElem (by simp) λj h1 h2=>?_
 have hj:j<ns.length:=by simpa using h1
 simp[nth,Yi,hj]
theorem rowS_join {ns:List Int} (h:ns≠[]):Txt.join (Str.ofString " ") (ns.map numS)=rowS ns:=by
 unfold rowS
 rw[Yb h,blank_one]
 exact StrLaws.glued_eq_join _ _
theorem nums_ok {ns:List Int} (h:Few ns):JoinOk (Str.ofString " ") (ns.map numS)=true :=
 joinOk_of (by decide +kernel) (by rw[Yj];have:=h.1;omega) λy hy=>by
  obtain⟨i,hi,rfl⟩:=YG.mp hy
  have:=(Zdj (h.2 i hi)).len;omega
theorem nums_comp {J:It}{H:Hp}{ns:List Int}{Q:VK} (hF:Few ns) (hgo:∀i Hx,Zh H Hx->i<ns.length->J.go i Hx) (hstop:∀Hx,Zh H Hx->J.stop ns.length Hx) (hy:∀j x Hx Hy,j<ns.length->Zh H Hx->J.yld j Hx x Hy->Hy=Hx/\x=V.int (nth ns j))
  (hk:∀l H',Zh H H'->H' l=some (.lst ((ns.map numS).map V.str))->Q (.ref l) H'):ZfI J (gName 0) tYes (tCB rStrI (tCons (tVar 0) tNil)) [none] Q H:=by
 refine comp_map (n:=ns.length) (λj=>V.str (numS (nth ns j))) (YD (show _<=1000 by have:=hF.1;omega) nofun) hgo hstop ?_ ?_
 .intro j x Hx Hy' hj s y
  obtain⟨rfl,rfl⟩:=hy j x Hx Hy' hj s y
  have hm:nth ns j∈ns:=by simp[nth,Yi,hj]
  right
  exact⟨log_ok (hF.2 _ hm),CW.next hj rfl s⟩
 .intro l Hx sx hl
  refine hk l _ (sx.ZH hl) ?_
  rw[Zd,map_nth (λi=>V.str (numS i)),Yy];rfl
theorem ok_row_text {f:Addr}{fd:FuncData} (F:Fun K "row_text" "row_text" s_row_text f fd) (T:Txt K mg):FnOk P w K mg base (CXE P w) 1 f fd ["row"] (sp_row_text K mg):=by
 refine F.okX sc_row_text (λvs H Q E h=>?_) (λcdv A outer s H vs Q E hr h=>?_)
 .obtain⟨r,ns,rfl,_⟩:=h;rfl
 obtain⟨r,ns,rfl,hS,⟨hn,hb⟩,k1⟩:=h
 refine⟨_,(Ze (Zr (ZgW (Zg2 (pv 0) (λ_=>rfl)) (Zaz PySem.F.plainAttrs_str PySem.F.slot_str_join PySem.F.type_str_join (Zew (K:=K) rfl) Zj (Za (Z3 ["number"] [none] rfl rfl rfl (pi_seq (K:=K) rfl (pv 0)) (λ_ _ _ _ _=>(Zw (i:=0) (show(["number"]:List Str).Nodup from by decide +kernel) rfl (Or.inl rfl))) (λ_ _ _ _ _=>Zaa) (λ_ _ _ _ _=>(Zz ZfX rfl T.b_str Zkj (Za (pv 0) Zb))) ZL) Zb)) (ZP (v:=.str (Str.ofString "-")) rfl T.m_NOTHING ⟨_,rfl⟩)))),?_⟩
 right
 have fin:ns≠[]->∀l H',Zh H H'->H' l=some (.lst ((ns.map numS).map V.str))->∃x_1,V.ref l=V.ref x_1/\∃x,SqL K H' x_1 (List.map V.str x)/\JoinOk (Str.ofString " ") x=true/\Q (V.str (Txt.join (Str.ofString " ") x)) H':=λz l H' s hl=>⟨l,rfl,_,SqL.of hl,nums_ok ⟨hn,hb⟩,by rw[rowS_join z];exact k1 H' s⟩
 by_cases z:ns=[]
 .subst z
  have k2:Q (V.str (Str.ofString "-")) H:=by have:=k1 H (Zh.refl H);rwa [rowS,Yc rfl]at this
  rcases hS with hS|hS
  .exact⟨false,.inl ⟨_,hS,rfl⟩,ZG (λz=>nomatch z) λ_=>k2⟩
  .exact⟨false,.inr (.inl ⟨_,hS,rfl⟩),ZG (λz=>nomatch z) λ_=>k2⟩
 .have hne:(!(ns.map V.int).isEmpty)=true:=by cases ns;exact absurd rfl z;rfl
  rcases hS with hS|hS
  .refine⟨true,.inl ⟨_,hS,hne.symm⟩,ZG (λ_=>⟨rfl,.inl ⟨⟨_,hS⟩,nums_comp ⟨hn,hb⟩ (λj Hx s hj=>⟨_,_,s.seq hS,Yg (by simpa using hj)⟩) (λHx s=>⟨_,s.seq hS,by simp⟩) ?_ (fin z)⟩⟩) λq=>absurd rfl q⟩
   rintro j v Hx Hy hj s ⟨rfl,hv⟩
   have:=hv _ (s.seq hS)
   rw[YH,Yg hj]at this
   cases this
   exact⟨rfl,by simp[nth,Yi,hj]⟩
  .refine⟨true,.inr (.inl ⟨_,hS,hne.symm⟩),ZG (λ_=>⟨rfl,.inr ⟨⟨_,hS⟩,nums_comp ⟨hn,hb⟩ (λj Hx s hj=>⟨_,_,s.seqT hS,Yg (by simpa using hj)⟩) (λHx s=>⟨_,s.seqT hS,by simp⟩) ?_ (fin z)⟩⟩) λq=>absurd rfl q⟩
   rintro j v Hx Hy hj s ⟨rfl,hv⟩
   have:=hv _ (s.seqT hS)
   rw[YH,Yg hj]at this
   cases this
   exact⟨rfl,by simp[nth,Yi,hj]⟩
theorem ok_tree_text {f:Addr}{fd:FuncData} (F:Fun K "tree_text" "tree_text" s_tree_text f fd) (Zbg:Callee P w K mg base "brackets_of" 6 ["tree"] (sp_brackets_of K mg)) (T:Txt K mg):FnOk P w K mg base (CXE P w) 7 f fd ["tree"] (sp_tree_text K mg):=by
 refine F.okX sc_tree_text (λvs H Q E h=>?_) (λcdv A outer s H vs Q E hr h=>?_)
 .obtain⟨t,T,rfl,_⟩:=h;rfl
 obtain⟨t,T',rfl,ht,hn,k⟩:=h
 refine⟨_,(Zc (Zl (i:=1) sc_tree_text.nd rfl (Or.inl rfl) (Zi Zbg (hr.mono nofun) rfl Zcm (Za (pv 0) Zb)))
   (Ze (Zr (ZgW (Zg2 (pv 1) (λ_=>rfl)) (pv 1) (ZP (v:=.str (Str.ofString "-")) rfl T.m_NOTHING ⟨_,rfl⟩))))),?_⟩
 right
 refine⟨t,T',rfl,ht,hn,k.imp (λ⟨ns,h40,hT,k1⟩=>⟨ns,h40,hT,λH1 s1=>?_⟩) id⟩
 have eT:=hT.1
 have hD:=Zcn (nth ns) ns.length
 have ld:=ZaG (nth ns) ns.length
 replace k1:=k1 H1 s1
 generalize ZZ (nth ns) ns.length=ds at k1 hD ld
 have hsum:=ZaX hD
 have lb:=Za2 ds
 have lT:(Zea ds).length=2*ds.length:=by unfold Zea;rw[Yn,lb,List.length_replicate];omega
 refine⟨_,⟨Yf (show _<=1000 by rw[Zu,lT];omega) nofun,rfl⟩,?_⟩
 rw[Zu,lT]
 by_cases hz:ds=[]
 .subst hz
  rw[Yb (by simp),Za3]
  exact k1
 .have hl:ds.length≠0:=λz=>hz (List.length_eq_zero_iff.mp z)
  rw[Yc (by simp;omega)]
  unfold Zex at k1
  rw[Yb hz]at k1
  exact k1
theorem drops_back {ds:List Int} (h:AreDrops ds):∃ns,ZV ns (ZeV (ds.map Int.toNat))/\ZZ (nth ns) ns.length=ds.map Int.toNat/\Zs (ds.map Int.toNat)=ds.map V.int/\(ZeV (ds.map Int.toNat)).length<=40:=by
 obtain⟨h1,h2⟩:=(areDrops_iff ds).mp h
 have eL:(ds.map Int.toNat).length=ds.length:=Yj ..
 have hD:ZaV (ds.map Int.toNat):=λk hk=>by
  rw[eL]at hk
  have:=(h2 k hk).2
  rw[show(ds.map Int.toNat).getD k 0=(nth ds k).toNat by simp[nth,Yi,hk]]
  exact this
 obtain⟨ns,hT,hd⟩:=Zh9 hD
 have hl:=Zjw hD
 have hn:ns.length=ds.length:=by have:=hT.1;omega
 refine⟨ns,hT,?_,?_,⋯⟩
 .refine List.ext_getElem (by rw[ZaG,eL,hn]) λk k1 k2=>?_
  have:=hd k k2
  rw[Yi,Yg k2]at this
  simp only[Option.getD_some]at this
  rw[<-this]
  simp[ZZ]
 .refine List.ext_getElem (by simp[Zs]) λk k1 k2=>?_
  have hk:k<ds.length:=by simpa using k2
  have:=(h2 k hk).1
  rw[show nth ds k=ds[k] by simp[nth,Yi,hk]]at this
  simp[Zs]
  omega
theorem tree_nil80:ZV [] []:=⟨rfl,λp hp=>absurd hp (by simp)⟩
theorem ok_read_tree {f:Addr}{fd:FuncData} (F:Fun K "read_tree" "read_tree" s_read_tree f fd) (Zbh:Callee P w K mg base "by_brackets" 3 ["text"] (sp_by_brackets K mg)) (T:Txt K mg):FnOk P w K mg base (CXE P w) 4 f fd ["text"] (sp_read_tree K mg):=by
 refine F.okX sc_read_tree (λvs H Q E h=>?_) (λcdv A outer s H vs Q E hr h=>?_)
 .obtain⟨w,rfl,_⟩:=h;rfl
 obtain⟨l,rfl,hl,k1,k2⟩:=h
 refine⟨_,(Zc (ZN (Zq Z1 (pv 0) (ZP (v:=.str (Str.ofString "-")) rfl T.m_NOTHING ⟨_,rfl⟩) (Zo _)) (Ze (Zr (Zbc Zb))) Zy)
   (Zc (ZN (Zq Z1 (pv 0) Zj (Zo _)) (Ze (Za0 rfl rfl T.c_NoText T.x_NoText (Za Zj Zb) Zby)) Zy)
   (Ze (ZkW ⟨rfl,rfl⟩ rfl T.c_NoTelling T.x_NoTelling rfl T.c_NoText T.x_NoText (λEc pl=>(Ze (Zr (Zbn Zbh (hr.mono nofun) rfl Zg7 (Za (pv 0) Zb))))) heldE)))),?_⟩
 right
 refine ZG (λz=>⟨Yq _,λp hp=>k1 (.inl ((minus_txt l).mp z)) p [] [] _ ((Zh.refl H).upd hp) (by simp) tree_nil80 (by rw[(minus_txt l).mp z];rfl) Zd⟩) λz=>?_
 have hz:l≠[45]:=λe=>z ((minus_txt l).mpr e)
 refine ZG (λc=>⟨by decide,k2 (λg=>g.elim hz λg=>g.1 ((none_txt l).mp c)) none H (Zh.refl H)⟩) λc=>?_
 have h0:l≠[]:=λe=>c ((none_txt l).mpr e)
 unfold tTryR
 refine⟨fun σ1 C _ H1=>C=.ref (clsAt mg "NoTelling")/\Zh H H1/\¬ TreeB l,?_,?_⟩
 .right
  refine⟨l,rfl,hl.1,hl.2,λg u H1 s1 hu=>?_,λg H1 s1=>⟨rfl,rfl,s1,λw=>w.elim hz λw=>g w.2⟩⟩
  obtain⟨ns,hT2,hd2,hv,h40⟩:=drops_back g.2.1
  have et:((l.foldl ZF ([],0)).1.map λ(d:Nat)=>(d:Int)).map Int.toNat=(l.foldl ZF ([],0)).1:=by simp[Function.comp_def]
  rw[et]at hT2 hd2 hv h40
  refine k1 (.inr ⟨h0,g⟩) u ns _ H1 s1 h40 hT2 ?_ hu
  rw[hd2]
  unfold Zex
  rw[Yb,ok_bra g]
  intro e
  have:=ok_bra g
  rw[e]at this
  exact h0 this.symm
 .rintro σ1 C H1 ⟨rfl,s1,nt⟩
  exact⟨_,rfl,T.ups_NoTelling,λe he=>k2 nt _ _ (s1.ZH he)⟩
theorem ok__law_number_read {f:Addr}{fd:FuncData} (F:Fun K "_law_number_read" "_law_number_read" s__law_number_read f fd) (T:Txt K mg):FnOk P w K mg base (CXE P w) 1 f fd ["word"] (sp__law_number_read K mg):=by
 refine F.okX sc__law_number_read (λvs H Q E h=>?_) (λcdv A outer s H vs Q E hr h=>?_)
 .obtain⟨w,rfl,_⟩:=h;rfl
 obtain⟨w,rfl,hw,k1⟩:=h
 refine⟨_,(Zc (Zl (i:=1) sc__law_number_read.nd rfl (Or.inl rfl) (ZaK (r:=rSlS) Zcb (pv 0) (Za8 (Zz Zar rfl T.b_int Zbd (Za (ZQ Z1 (ZaK (r:=rSlS) Zcb (pv 0) Za7 (Za8 Zf)) Zj (Zo _)) Zb))) Za7))
   (Zc (ZN (PW.pt (ZfA (Zbv (ZeC Zc7 Zc7 Zf (Zg ZaY rfl T.b_len Yl (Za (pv 1) Zb)) Zf)) (Zdw (ZaB (Zg (Zj4 (K:=K) rfl rfl) rfl T.b_any bt_any (Za (Z3 ["sign"] [none] rfl rfl rfl (Zia (pv 1)) (λ_ _ _ _ _=>(Zw (i:=0) (show(["sign"]:List Str).Nodup from by decide +kernel) rfl (Or.inl rfl))) (λ_ _ _ _ _=>Zaa) (λ_ _ _ _ _=>(ZQ Zc8 (pv 0) Zj (by with_unfolding_all rfl))) ZL) Zb)))))) (Ze (Zr Zba)) Zy)
   (Zc (ZN (PW.pt (ZcH (Zq Z1 (Z2 (r:=rIxS) ZhT (pv 1) Zf (λ_ _=>rfl)) Zj (Zo _)) (Zcl (Zq Zg0 (pv 0) Zj (Zo _))))) (Ze (Zr Zba)) Zy)
   (Ze (Zr (Zz ZfY rfl T.b_int Zbd (Za (pv 0) Zb))))))),?_⟩
 have fa:∀c∈figs w,c<128:=λc hc=>hw.1 c (figs_sub hc)
 have fl:=figs_len w
 have wl:=hw.2
 right
 simp only[slice_figs,zero_is,Zu]
 refine⟨Yf (show _<=30000 by omega) nofun,Yf (show _<=30000 by omega) nofun,Yf (show _<=30000 by omega) nofun,ZG (λc=>ZG (λc1=>num_no (k1 H (Zh.refl H)) λz=>by have:=(numOk_spec z).2.1;omega) λc1=>⟨?_,?_⟩) λc=>num_no (k1 H (Zh.refl H)) λz=>?_⟩
 .rw[<-Array.all_toList,List.all_eq_true]
  intro x hx
  rw[show(txt (figs w)).cps.toList=figs w from cds_txt _]at hx
  exact YF (fa x hx)
 .have hf:(figs w).length<61:= ⋯
  refine comp_map (n:=(figs w).length) (λj=>V.bl (decide (¬ (48<=(figs w).getD j 0/\(figs w).getD j 0<=57)))) (YD (show _<=1000 by omega) nofun) (λj Hx s hj=>by show j<(txt (figs w)).cps.size;simpa[txt]using hj) (λHx s=>by show(txt (figs w)).cps.size<=_;simp[txt]) ?_ ?_
  .rintro j x Hx Hy hj s ⟨rfl,q,hq,rfl⟩
   have hq':(figs w)[j]?=some q:=by simpa[txt]using hq
   have eg:(figs w).getD j 0=q:=by rw[Yi,hq'];rfl
   have hlt:=fa q (List.mem_of_getElem? hq')
   right
   refine CW.next hj ?_ s
   rw[occ_dig q hlt,eg]
   simp
  .intro q Hx sx hq
   have s1:=sx.ZH (o:=.lst ((List.range (figs w).length).map λj=>V.bl (decide (¬ (48<=(figs w).getD j 0/\(figs w).getD j 0<=57))))) hq
   refine⟨q,rfl,(List.range (figs w).length).map λj=>decide (¬ (48<=(figs w).getD j 0/\(figs w).getD j 0<=57)),SqL.of (by rw[Zd,Yy];rfl),?_⟩
   have hany:(((List.range (figs w).length).map λj=>decide (¬ (48<=(figs w).getD j 0/\(figs w).getD j 0<=57))).any id=true)↔¬ ∀c∈figs w,48<=c/\c<=57:=by
    rw[List.any_map,List.any_eq_true]
    constructor
    .rintro⟨j,hj,z⟩ h
     have hj:=YB.mp hj
     have z:=YM (show decide _=true from z)
     refine z (h _ ?_)
     rw[Yi,Yg hj]
     exact YK hj
    .intro h
     refine Classical.byContradiction λno=>h λc hc=>Classical.byContradiction λz=>no ?_
     obtain⟨j,hj,e⟩:=Y9 hc
     refine⟨j,YB.mpr hj,YF ?_⟩
     rw[Yi,Yg hj,Option.getD_some,e]
     exact z
   generalize upd Hx q (.lst ((List.range (figs w).length).map λj=>V.bl (decide (¬ (48<=(figs w).getD j 0/\(figs w).getD j 0<=57)))))=H1 at s1⊢
   refine ZG (λc2=>num_no (k1 H1 s1) λz=>hany.mp c2 (numOk_spec z).2.2.1) λc2=>?_
   have h3:∀c∈figs w,48<=c/\c<=57:=Classical.byContradiction λz=>c2 (hany.mpr z)
   have h1:figs w≠[]:=λe=>by rw[e]at c;simp at c
   obtain⟨a,r,e⟩:∃a r,figs w=a::r:=by
    cases e:figs w with
    |nil=>exact absurd e h1
    |cons a r=>exact⟨a,r,rfl⟩
   refine⟨Yf (show _<=30000 by omega) nofun,a,by rw[show(txt (figs w)).cps.toList=figs w from cds_txt _,e];exact Zeu (j:=0) rfl,?_⟩
   have ha:(({cps:=#[a]}:Str)=Str.ofString "0")↔a=48:=by
    rw[Ze0]
    exact⟨λz=>by have:=congrArg cds z;simpa using this,λz=>by rw[z]⟩
   refine ZG (λc3=>ZG (λc4=>num_no (k1 H1 s1) λz=>c4 ((numOk_spec z).2.2.2 (by rw[e,ha.mp c3];rfl))) λc4=>num_yes (k1 H1 s1) (numOk_iff.mpr ⟨h1,⋯,h3,λ_=>Classical.not_not.mp c4⟩)) λc3=>num_yes (k1 H1 s1) (numOk_iff.mpr ⟨h1,⋯,h3,λz=>absurd (ha.mpr (by rw[e]at z;cases z;rfl)) c3⟩)
 .have:=List.length_pos_iff.mpr (numOk_spec z).1
  omega
theorem ok__law_row_read {f:Addr}{fd:FuncData} (F:Fun K "_law_row_read" "_law_row_read" s__law_row_read f fd) (Zao:Callee P w K mg base "_law_number_read" 1 ["word"] (sp__law_number_read K mg)) (T:Txt K mg):FnOk P w K mg base (CXE P w) 2 f fd ["text"] (sp__law_row_read K mg):=by
 refine F.okX sc__law_row_read (λvs H Q E h=>?_) (λcdv A outer s H vs Q E hr h=>?_)
 .obtain⟨w,rfl,_⟩:=h;rfl
 obtain⟨l,rfl,hl,k1,k2⟩:=h
 refine⟨_,(Zc (ZN (Zq Z1 (pv 0) Zj (Zo _)) (Ze (Zr (Zbc Zb))) Zy)
   (Zc (Zl (i:=1) sc__law_row_read.nd rfl (Or.inl rfl) (Zz (ZaF (K:=K) rfl) rfl T.b_tuple Zau (Za (Z3 ["word"] [none] rfl rfl rfl (Za6 (Zaz PySem.F.plainAttrs_str PySem.F.slot_str_split PySem.F.type_str_split Zhm (pv 0) (Za Zj Zb))) (λ_ _ _ _ _=>(Zw (i:=0) (show(["word"]:List Str).Nodup from by decide +kernel) rfl (Or.inl rfl))) (λ_ _ _ _ _=>Zaa) (λ_ _ _ _ _=>(Zi Zao (hr.mono nofun) rfl ZA (Za (pv 0) Zb))) ZL) Zb)))
   (Ze (Zr (Z2 Z6 (ZY (Za (pv 1) (Za Zba Zb))) (Zz Zar rfl T.b_int Zbd (Za (pe_or (ZQ (Zkc (K:=K) rfl) Zba (pv 1) (by with_unfolding_all rfl)) (Zdx (ZQ Zb5 (Zg (Zp (K:=K) rfl) rfl T.b_len Yl (Za (pv 1) Zb)) Zf (Zo _)))) Zb)) (λ_ _=>rfl)))))),?_⟩
 right
 have hl2:=hl.2
 refine ZG (λz=>⟨Yq _,λp hp=>k1 [] (by unfold rowR;rw[Yc ((minus_txt l).mp z)]) p _ ((Zh.refl H).upd hp) Zd⟩) λz=>⟨rfl,by decide +kernel,by rw[Zu];omega,λp hp=>?_⟩
 have hz:l≠[45]:=λe=>z ((minus_txt l).mpr e)
 refine words_comp hl Zd (λw Hx R hw s h=>⟨_,rfl,w,rfl,hw,λHy sy=>h Hy sy⟩) λq H1 s1 hq=>?_
 have g1:=(Zh.refl H).ZH (o:=.lst ((Txt.split (txt l) (Str.ofString " ")).map V.str)) hp
 have s2:=g1.trans s1
 refine⟨q,rfl,_,.inl ⟨SqL.of hq,λt ht=>⟨by decide,λp2 hp2=>?_⟩⟩⟩
 have s3:=s2.ZH (o:=.tup (((wds l).map numR).map optI)) ht
 have t3:=Zd (H:=H1) (a:=t) (o:=.tup (((wds l).map numR).map optI))
 generalize upd H1 t (.tup (((wds l).map numR).map optI))=H2 at s3 t3 hp2⊢
 have s4:=s3.ZH (o:=.lst [V.ref t,V.non]) hp2
 have t4:=((Zh.refl H2).upd (o:=.lst [V.ref t,V.non]) hp2) _ _ t3
 have l4:=Zd (H:=H2) (a:=p2) (o:=.lst [V.ref t,V.non])
 generalize upd H2 p2 (.lst [V.ref t,V.non])=H3 at s4 t4 l4⊢
 refine⟨_,.inr (SqT.of t4),rfl,flat_opts _,ZG (λc=>⟨_,SqL.of l4,_,Zeu (j:=1) rfl,k2 ?_ _ s4⟩) λc=>⟨_,.inr (SqT.of t4),_,SqL.of l4,?_⟩⟩
 .rw[in_opts]at c
  unfold rowR
  rw[Yb hz,Yc (.inl (YM c))]
 .rw[in_opts]at c
  have c3:none∉(wds l).map numR:=λe=>c (YF e)
  by_cases c2:40<(wds l).length
  .rw[Yc (by simp;omega)]
   refine⟨_,Zeu (j:=1) rfl,k2 ?_ _ s4⟩
   unfold rowR
   rw[Yb hz,Yc (.inr c2)]
  .rw[Yb (by simp;omega)]
   refine⟨_,Zeu (j:=0) rfl,k1 ((wds l).map λw=>(numR w).getD 0) ?_ t _ s4 (by rw[t4,opt_map c3])⟩
   unfold rowR
   rw[Yb hz,Yb (by rintro(e|e);exact c3 e;exact c2 e)]
theorem slice_mem {x:Str}{lo hi:Option Int}{c:Nat} (h:c∈(Txt.slice x lo hi).cps.toList):c∈x.cps.toList:=by
 unfold Txt.slice at h
 split at h
 .exact h
 .simp only[List.mem_filterMap]at h
  obtain⟨i,_,hi⟩:=h
  exact(Array.mem_toList_iff ..).mpr (Array.mem_of_getElem? hi)
noncomputable def AscS (x:Str) (n:Nat):Prop:=(∀c∈x.cps.toList,c<128)/\x.length<=n
theorem AscS.slice {x:Str}{n:Nat} (h:AscS x n) (lo hi:Option Int):AscS (Txt.slice x lo hi) n:=⟨λc hc=>h.1 c (slice_mem hc),Yf (Txt.slice_le x lo hi) h.2⟩
theorem app_len (x y:Str):(x++y).length=x.length+y.length:=by
 show(x.cps++y.cps).size=_
 simp[Str.length]
theorem AscS.app {x y:Str}{n m:Nat} (h:AscS x n) (k:AscS y m):AscS (x++y) (n+m):=by
 refine⟨λc hc=>?_,?_⟩
 .have hc':c∈(x.cps++y.cps).toList:=hc
  rw[Array.toList_append,Yp]at hc'
  exact hc'.elim (h.1 c) (k.1 c)
 .rw[app_len];have:=h.2;have:=k.2;omega
theorem txt_of (x:Str):x=txt x.cps.toList:=by
 unfold txt;rw[Array.toArray_toList]
theorem nthV80 {ns:List Int}{j:Nat} (h:j<ns.length):(ns.map V.int)[j]?=some (V.int (nth ns j)):=by simp[nth,Yi,h]
theorem AscS.mono {x:Str}{n m:Nat} (h:AscS x n) (k:n<=m):AscS x m:=⟨h.1,Yf h.2 k⟩
theorem Asc.S {N:Nat}{l:List Nat} (h:Asc N l):AscS (txt l) N:=⟨by rw[show(txt l).cps.toList=l from cds_txt l];exact h.1,by rw[Zu];exact h.2⟩
theorem AscS.L {N:Nat}{x:Str} (h:AscS x N):Asc N x.cps.toList:=⟨h.1,by have:=h.2;rwa [Zez]at this⟩
theorem ok__law_row_text {f:Addr}{fd:FuncData} (F:Fun K "_law_row_text" "_law_row_text" s__law_row_text f fd) (T:Txt K mg):FnOk P w K mg base (CXE P w) 1 f fd ["row"] (sp__law_row_text K mg):=by
 refine F.okX sc__law_row_text (λvs H Q E h=>?_) (λcdv A outer s H vs Q E hr h=>?_)
 .obtain⟨r,ns,rfl,_⟩:=h;rfl
 obtain⟨r,ns,rfl,hr1,hn,hb,k1⟩:=h
 refine⟨_,(Ze (Zr (Zk ZK (Zaz PySem.F.plainAttrs_str PySem.F.slot_str_join PySem.F.type_str_join (Zew (K:=K) rfl) Zj (Za (Z3 ["number"] [none] rfl rfl rfl (Za6 (pv 0)) (λ_ _ _ _ _=>(Zw (i:=0) (show(["number"]:List Str).Nodup from by decide +kernel) rfl (Or.inl rfl))) (λ_ _ _ _ _=>Zaa) (λ_ _ _ _ _=>(Zz ZfX rfl T.b_str Zkj (Za (pv 0) Zb))) ZL) Zb)) (Zk ZaJ Zj (Zz Zar rfl T.b_int Zbd (Za (ZQ Z1 (Zg (Zp (K:=K) rfl) rfl T.b_len Yl (Za (pv 0) Zb)) Zf (Zo _)) Zb)))))),?_⟩
 right
 refine⟨rfl,⟨_,hr1⟩,comp_map (n:=ns.length) (λj=>V.str (numS (nth ns j))) (YD (show _<=1000 by omega) nofun) (λj Hx s hj=>⟨_,_,s.seq hr1,nthV80 hj⟩) (λHx s=>⟨_,s.seq hr1,by simp⟩) ?_ ?_⟩
 .rintro j x Hx Hy hj s ⟨rfl,hx⟩
  have:=hx _ (s.seq hr1)
  rw[nthV80 hj]at this
  cases this
  have hm:nth ns j∈ns:=by simp[nth,Yi,hj]
  right
  exact⟨log_ok (hb _ hm),CW.next hj rfl s⟩
 .intro q Hx sx hq
  have s1:=sx.ZH (o:=.lst ((List.range ns.length).map λj=>V.str (numS (nth ns j)))) hq
  have t1:upd Hx q (.lst ((List.range ns.length).map λj=>V.str (numS (nth ns j)))) q=some (.lst ((ns.map numS).map V.str)):=by rw[Zd,map_nth (λi=>V.str (numS i)),Yy];rfl
  generalize upd Hx q (.lst ((List.range ns.length).map λj=>V.str (numS (nth ns j))))=H1 at s1 t1⊢
  have jok:JoinOk (Str.ofString " ") (ns.map numS)=true:=joinOk_of (by decide +kernel) (by rw[Yj];omega) λy hy=>by
   obtain⟨i,hi,rfl⟩:=YG.mp hy
   have:=(Zdj (hb i hi)).len;omega
  have hA:AscS (Txt.join (Str.ofString " ") (ns.map numS)) 2590:=by
   rw[blank80,show Txt.join (⟨#[32]⟩:Str) (ns.map numS)=Str.join ⟨#[32]⟩ (ns.map numS)from StrLaws.glued_eq_join _ _]
   refine⟨λc hc=>?_,?_⟩
   .have hc:c∈cds (Str.join ⟨#[32]⟩ (ns.map numS)):=hc
    rw[Zdi]at hc
    have key:∀A:List (List Nat),(∀a∈A,∀c∈a,c<128)->∀c∈jl 32 A,c<128:=by
     intro A
     induction A with
     |nil=>intro _ c hc;cases hc
     |cons x r ih =>
      intro h c hc
      cases r with
      |nil=>exact h x (by simp) c hc
      |cons y r =>
       have hc:c∈x++32::jl 32 (y::r):=hc
       rcases Yp.mp hc with z|z
       .exact h x (by simp) c z
       .rcases Ym.mp z with rfl|z
        .decide
        .exact ih (λa ha=>h a (YW _ ha)) c z
    refine key _ (λa ha c hc=>?_) c hc
    obtain⟨y,hy,rfl⟩:=YG.mp ha
    obtain⟨i,hi,rfl⟩:=YG.mp hy
    cases i with
    |ofNat m=>rw[show cds (numS (Int.ofNat m))=dg m from ZeY m]at hc;have:=ZeX m c hc;omega
    |negSucc m =>
     rw[ZeZ]at hc
     rcases Ym.mp hc with rfl|hc
     .decide
     .have:=ZeX _ c hc;omega
   .have a:=StrLaws.join_length_le ⟨#[32]⟩ (ns.map numS)
    have b:=StrLaws.sumLen_le (B:=61) (ns.map numS) λy hy=>by
     obtain⟨i,hi,rfl⟩:=YG.mp hy
     exact(Zdj (hb i hi)).len
    have c:(⟨#[32]⟩:Str).length=1:=rfl
    rw[Yj,c]at a
    rw[Yj]at b
    omega
  have hM:∀i:Int,i=0\/i=1->AscS (Txt.mul (Str.ofString "-") i) 1:=by
   rintro i (rfl|rfl)
   .rw[Za3,Z7];exact⟨by simp[txt],by simp[txt,Str.length]⟩
   .rw[Za3,Z7];exact⟨by simp[txt],by simp[txt,Str.length]⟩
  refine⟨q,rfl,_,SqL.of t1,jok,_,.inl (s1.seq hr1),?_⟩
  have h01:∀P:Prop,∀[Decidable P],((if P then 1 else 0:Int)=0\/(if P then 1 else 0:Int)=1):=λP _=>by split<;>simp
  generalize hi:(if (((ns.map V.int).length:Nat):Int)=0 then 1 else 0:Int)=i
  have hi2:i=0\/i=1:=by rw[<-hi];exact h01 _
  have hB:=hM i hi2
  generalize Txt.mul (Str.ofString "-") i=y at hB⊢
  generalize Txt.join (Str.ofString " ") (ns.map numS)=x at hA⊢
  refine⟨⋯,⋯,by decide +kernel,Yf (show _<=3000 by have:=hA.2;have:=hB.2;omega) nofun,?_⟩
  have hC:=hA.app hB
  rw[txt_of (x++y)]
  exact k1 _ _ ⟨hC.1,by have:=hC.2;show(cds (x++y)).length<=2600;rw[<-Zez];omega⟩ s1
theorem ok__law_any_sign {f:Addr}{fd:FuncData} (F:Fun K "_law_any_sign" "_law_any_sign" s__law_any_sign f fd) (Zn:Callee P w K mg base "_law_take" 1 ["pot","many"] (sp__law_take K mg)) (T:Txt K mg):FnOk P w K mg base (CXE P w) 2 f fd ["pot"] (sp__law_any_sign K mg):=by
 refine F.okX sc__law_any_sign (λvs H Q E h=>?_) (λcdv A outer s H vs Q E hr h=>?_)
 .obtain⟨p,rfl,_⟩:=h;rfl
 obtain⟨p,rfl,P1,k1⟩:=h
 refine⟨_,(Zc (Zl (i:=1) sc__law_any_sign.nd rfl (Or.inl rfl) Zj)
   (Ze (Zr (Z2 (r:=rIxS) ZhT (pv 1) (Zi Zn (hr.mono nofun) rfl ZA (Za (pv 0) (Za (Zg ZaY rfl T.b_len Yl (Za (pv 1) Zb)) Zb))) (λ_ _=>rfl))))),?_⟩
 right
 have hC:∀c∈(Str.ofString " !\"#$&'()*+,-./0123456789:;<=>?@ABCDEFGHIJKLMNOPQRSTUVWXYZ[\\]^_`abcdefghijklmnopqrstuvwxyz{|}~\n").cps.toList,c<128:=by decide +kernel
 have hL:0<(Str.ofString " !\"#$&'()*+,-./0123456789:;<=>?@ABCDEFGHIJKLMNOPQRSTUVWXYZ[\\]^_`abcdefghijklmnopqrstuvwxyz{|}~\n").length/\(Str.ofString " !\"#$&'()*+,-./0123456789:;<=>?@ABCDEFGHIJKLMNOPQRSTUVWXYZ[\\]^_`abcdefghijklmnopqrstuvwxyz{|}~\n").length<=1000:=by decide +kernel
 generalize Str.ofString " !\"#$&'()*+,-./0123456789:;<=>?@ABCDEFGHIJKLMNOPQRSTUVWXYZ[\\]^_`abcdefghijklmnopqrstuvwxyz{|}~\n"=C at hC hL⊢
 have hLs:C.length<=sizeLine:=Yf hL.2 nofun
 refine⟨hLs,p,_,rfl,⋯,⋯,P1,λd H1 d0 d1 P2 e1=>⟨d,rfl,hLs,?_⟩⟩
 obtain⟨j,rfl⟩:=Y6 d0
 have hj:j<C.cps.toList.length:=by simpa[Str.length]using(show j<C.length by omega)
 refine⟨_,ZdE rfl hj,?_⟩
 have hc:=hC _ (YK hj)
 exact k1 [C.cps.toList[j]] _ ⟨λc h=>by rw[Y0.mp h];exact hc,by simp⟩ P2 e1
theorem ok__law_spoilt {f:Addr}{fd:FuncData} (F:Fun K "_law_spoilt" "_law_spoilt" s__law_spoilt f fd) (Zn:Callee P w K mg base "_law_take" 1 ["pot","many"] (sp__law_take K mg)) (ZaL:Callee P w K mg base "_law_any_sign" 2 ["pot"] (sp__law_any_sign K mg)) (T:Txt K mg):FnOk P w K mg base (CXE P w) 3 f fd ["pot","text","often"] (sp__law_spoilt K mg):=by
 refine F.okX sc__law_spoilt (λvs H Q E h=>?_) (λcdv A outer s H vs Q E hr h=>?_)
 .obtain⟨p,l,o,rfl,_⟩:=h;rfl
 obtain⟨p,l,o,rfl,hl,ho,hn,P1,k1⟩:=h
 refine⟨_,(Zc (Zl (i:=3) sc__law_spoilt.nd rfl (Or.inl rfl) (Zi Zn (hr.mono nofun) rfl ZA (Za (pv 0) (Za (Zk Z9 (Zg ZaY rfl T.b_len Yl (Za (pv 1) Zb)) Zf) Zb))))
   (Zc (Zl (i:=4) sc__law_spoilt.nd rfl (Or.inl rfl) (Zi ZaL (hr.mono nofun) rfl ZA (Za (pv 0) Zb)))
   (Zc (ZN (Zq Zb5 (Zi Zn (hr.mono nofun) rfl ZA (Za (pv 0) (Za Zf Zb))) Zf (Zo _)) (Ze (Zl (i:=4) sc__law_spoilt.nd rfl (Or.inl rfl) (Z2 (r:=rIxS) ZhT (pv 2) (Zi Zn (hr.mono nofun) rfl ZA (Za (pv 0) (Za (Zg ZaY rfl T.b_len Yl (Za (pv 2) Zb)) Zb))) (λ_ _=>rfl)))) Zy)
   (Zc (Zl (i:=5) sc__law_spoilt.nd rfl (Or.inl rfl) (ZY (Za (Zk ZK (Zk ZK (ZaK (r:=rSlS) Zcb (pv 1) Za7 (Za8 (pv 3))) (pv 4)) (ZaK (r:=rSlS) Zcb (pv 1) (Za8 (pv 3)) Za7)) (Za (Zk ZK (Zk ZK (ZaK (r:=rSlS) Zcb (pv 1) Za7 (Za8 (pv 3))) (pv 4)) (ZaK (r:=rSlS) Zcb (pv 1) (Za8 (Zk Z9 (pv 3) Zf)) Za7)) (Za (Zk ZK (ZaK (r:=rSlS) Zcb (pv 1) Za7 (Za8 (pv 3))) (ZaK (r:=rSlS) Zcb (pv 1) (Za8 (Zk Z9 (pv 3) Zf)) Za7)) Zb)))))
   (Ze (Zr (Z2 Z6 (pv 5) (Zi Zn (hr.mono nofun) rfl ZA (Za (pv 0) (Za Zf Zb))) (λ_ _=>rfl)))))))),?_⟩
 have hx:AscS (txt l) l.length:=⟨by rw[show(txt l).cps.toList=l from cds_txt l];exact hl.1,by rw[Zu];exact Yd _⟩
 have hz:(txt l).length<=sizeLine:=by rw[Zu];exact Yf hl.2 nofun
 have l12:=hl.2
 have hoz:(txt o).length<=sizeLine:=by rw[Zu];exact Yf ho.2 nofun
 refine Zax (fun σ Hx=>∃(a:Int),σ=[some (.ref p),some (.str (txt l)),some (.str (txt o)),some (.int a),none,none]/\ZJ Hx p/\Exc p H Hx) (λR hR=>?_) ?_
 .right
  exact⟨hz,p,_,rfl,⋯,by rw[Zu];omega,P1,λa H1 a0 a1 P2 e1=>hR _ _ ⟨a,rfl,P2,e1⟩⟩
 rintro σ H1 ⟨a,rfl,P2,e1⟩
 refine Zax (fun σ Hx=>∃(y:Str),σ=[some (.ref p),some (.str (txt l)),some (.str (txt o)),some (.int a),some (.str y),none]/\AscS y 1/\ZJ Hx p/\Exc p H Hx) (λR hR=>?_) ?_
 .right
  exact⟨p,rfl,P2,λg H2 hg P3 e2=>hR _ _ ⟨_,rfl,Asc.S hg,P3,e1.trans e2⟩⟩
 rintro σ H2 ⟨y,rfl,hy,P3,e2⟩
 refine Zax (fun σ Hx=>∃(y:Str),σ=[some (.ref p),some (.str (txt l)),some (.str (txt o)),some (.int a),some (.str y),none]/\AscS y 1/\ZJ Hx p/\Exc p H Hx) (λR hR=>?_) ?_
 .right
  refine⟨p,3,rfl,by decide,by decide,P3,λb H3 b0 b1 P4 e3=>⟨b,rfl,ZG (λ_=>⟨hoz,p,_,rfl,by rw[Zu];have:=List.length_pos_iff.mpr hn;omega,by rw[Zu];have:=ho.2;omega,P4,λc H4 c0 c1 P5 e4=>⟨c,rfl,hoz,?_⟩⟩) λ_=>hR _ _ ⟨y,rfl,hy,P4,e2.trans e3⟩⟩⟩
  obtain⟨j,rfl⟩:=Y6 c0
  have hj:j<o.length:=by rw[Zu]at c1;omega
  refine⟨o[j],by rw[show(txt o).cps.toList=o from cds_txt o];exact ZdE rfl hj,hR _ _ ⟨_,rfl,⟨λc h=>?_,Yd _⟩,P5,(e2.trans e3).trans e4⟩⟩
  have:c=o[j]:=by simpa using h
  rw[this];exact ho.1 _ (YK hj)
 clear P2 P3 e1 e2 H1 H2 y hy
 rintro σ H1 ⟨y,rfl,hy,P2,e1⟩
 refine Zax (fun σ Hx=>∃(q:Addr) (x0 x1 x2:Str),σ=[some (.ref p),some (.str (txt l)),some (.str (txt o)),some (.int a),some (.str y),some (.ref q)]/\Hx q=some (.lst [.str x0,.str x1,.str x2])/\H1 q=none/\AscS x0 (2*l.length+1)/\AscS x1 (2*l.length+1)/\AscS x2 (2*l.length+1)/\ZJ Hx p/\Exc p H Hx) (λR hR=>?_) ?_
 .right
  have sm2:∀{r q:Str}{k k':Nat},AscS r k->AscS q k'->k+k'<=30000->r.length+q.length<=sizeLine:=λh h' hk=>Yf (show _<=30000 by have:=h.2;have:=h'.2;omega) nofun
  have a1:=hx.slice none (some a)
  have a2:=hx.slice (some a) none
  have a3:=hx.slice (some (a+1)) none
  exact⟨hz,sm2 a1 hy ⋯,hz,sm2 (a1.app hy) a2 ⋯,hz,sm2 a1 hy ⋯,hz,sm2 (a1.app hy) a3 ⋯,hz,hz,sm2 a1 a3 ⋯,by decide,λq zq=>hR _ _ ⟨q,_,_,_,rfl,Zd,zq,((a1.app hy).app a2).mono ⋯,((a1.app hy).app a3).mono ⋯,(a1.app a3).mono ⋯,P2.upd zq,e1.trans ((Zh.refl H1).upd zq).ZiV⟩⟩
 rintro σ H2 ⟨q,x0,x1,x2,rfl,hq,zq,h0,h1,h2,P3,e2⟩
 right
 refine⟨p,3,rfl,by decide,by decide,P3,λb H3 b0 b1 P4 e3=>?_⟩
 have e4:=e2.trans e3
 have hq3:=e3 _ _ (P2.ne zq) hq
 have fin:∀x:Str,AscS x (2*l.length+1)->Q (.str x) H3:=λx hx=>by
  rw[txt_of x]
  exact k1 _ _ hx.L P4 e4
 obtain rfl|rfl|rfl:b=0\/b=1\/b=2:= ⋯
 .exact⟨_,0,rfl,SqL.of hq3,_,rfl,fin _ h0⟩
 .exact⟨_,1,rfl,SqL.of hq3,_,rfl,fin _ h1⟩
 .exact⟨_,2,rfl,SqL.of hq3,_,rfl,fin _ h2⟩
theorem ok__law_asked {f:Addr}{fd:FuncData} (F:Fun K "_law_asked" "_law_asked" s__law_asked f fd) (ZcR:Callee P w K mg base "row_text" 1 ["row"] (sp_row_text K mg)) (Zce:Callee P w K mg base "tree_text" 7 ["tree"] (sp_tree_text K mg)) (ZaI:Callee P w K mg base "read_row" 2 ["text"] (sp_read_row K mg)) (Zcf:Callee P w K mg base "read_tree" 4 ["text"] (sp_read_tree K mg)) (T:Txt K mg):FnOk P w K mg base (CXE P w) 8 f fd ["way","text"] (sp__law_asked K mg):=by
 refine F.okX sc__law_asked (λvs H Q E h=>?_) (λcdv A outer s H vs Q E hr h=>?_)
 .obtain⟨way,l,D,rfl,_⟩:=h;rfl
 obtain⟨way,l,D,rfl,hT,k1,k2⟩:=h
 refine⟨_,(Zc (Zl (i:=2) sc__law_asked.nd rfl (Or.inl rfl) Zba)
   (Zc (ps_try (j:=3) ⟨rfl,rfl⟩ sc__law_asked.nd rfl rfl rfl T.c_DipError T.x_DipError (λEc pl=>(Ze (ZN (Zq Z1 (pv 0) Zf (Zo _)) (Ze (Zl (i:=2) sc__law_asked.nd rfl (Or.inl rfl) (Zbn ZcR (hr.mono nofun) rfl Zg7 (Za (Zbn ZaI (hr.mono nofun) rfl Zg7 (Za (pv 1) Zb)) Zb)))) (Ze (Zl (i:=2) sc__law_asked.nd rfl (Or.inl rfl) (Zbn Zce (hr.mono nofun) rfl Zg7 (Za (Zbn Zcf (hr.mono nofun) rfl Zg7 (Za (pv 1) Zb)) Zb))))))) (λA'=>(Ze (Zl (i:=2) sc__law_asked.nd rfl (Or.inl rfl) (pv 3)))))
   (Ze (Zr (pv 2))))),?_⟩
 right
 refine⟨fun σ1 C _ H1=>σ1=[some (.int way),some (.str (txt l)),some .non,none]/\C=.ref (clsAt mg "NoText")/\Zh H H1/\¬ D,?_,?_⟩
 .rcases hT with⟨rfl,hl,hD⟩|⟨rfl,hl,hD⟩
  .right
   exact⟨l,rfl,hl,λns hn t H1 s1 ht=>⟨t,ns,rfl,.inr (SqT.of ht),(rowR_some hn).1,λH2 s2=>by rw[(rowR_some hn).2];exact k1 (hD.mpr (by rw[hn];simp)) H2 (s1.trans s2)⟩,λhn H1 s1=>⟨rfl,s1,λd=>hD.mp d hn⟩⟩
  .right
   rw[Yb nofun]
   exact⟨l,rfl,hl,λg u ns es H1 s1 h40 hT he hu=>⟨u,es,rfl,hu,⋯,.inl ⟨ns,h40,hT,λH2 s2=>by rw[he];exact k1 (hD.mpr g) _ (s1.trans s2)⟩⟩,λg n H1 s1=>⟨rfl,s1,λd=>g (hD.mp d)⟩⟩
 .rintro σ1 C H1 ⟨rfl,rfl,s1,nd⟩
  refine⟨_,rfl,T.up_NoText,λe he=>?_⟩
  right
  exact k2 nd e _ (s1.ZH he) Zd
theorem ok__law_right {f:Addr}{fd:FuncData} (F:Fun K "_law_right" "_law_right" s__law_right f fd) (ZaI:Callee P w K mg base "read_row" 2 ["text"] (sp_read_row K mg)) (Zai:Callee P w K mg base "_law_are_brackets" 1 ["text"] (sp__law_are_brackets K mg)) (Zam:Callee P w K mg base "_law_row_read" 2 ["text"] (sp__law_row_read K mg)) (ZbG:Callee P w K mg base "_law_alone" 2 ["e","at"] (sp__law_alone K mg)) (ZbH:Callee P w K mg base "_law_asked" 8 ["way","text"] (sp__law_asked K mg)) (T:Txt K mg):FnOk P w K mg base (CXE P w) 9 f fd ["way","text"] (sp__law_right K mg):=by
 refine F.okX sc__law_right (λvs H Q E h=>?_) (λcdv A outer s H vs Q E hr h=>?_)
 .obtain⟨way,l,D,rfl,_⟩:=h;rfl
 obtain⟨way,l,D,rfl,hT,k1⟩:=h
 refine⟨_,(Zc (Zl (i:=2) sc__law_right.nd rfl (Or.inl rfl) (ZQ ZkE (Zi Zam (hr.mono nofun) rfl ZA (Za (pv 1) Zb)) Zba (Zo _)))
   (Zc (ZN (Zq Z1 (pv 0) Zf (Zo _)) (Ze (Zl (i:=2) sc__law_right.nd rfl (Or.inl rfl) (pe_or (ZQ Z1 (pv 1) Zj (Zo _)) (Zdx (Zf6 (ZQ Zg0 (pv 1) Zj (Zo _)) (Zdx (Zi Zai (hr.mono nofun) rfl ZA (Za (pv 1) Zb)))))))) Zy)
   (Zc (Zl (i:=3) sc__law_right.nd rfl (Or.inl rfl) (Zi ZbH (hr.mono nofun) rfl ZA (Za (pv 0) (Za (pv 1) Zb))))
   (Zc (ZN (PW.pt (ZcH (ZaB (pv 2)) (ZcH (Zq Z1 (pv 0) Zf (Zo _)) (Zcl (Zq (op_orR Zg0 (op_neD (K:=K) rfl hr)) (Zi ZaI (hr.mono nofun) rfl Zcm (Za (pv 1) Zb)) (Zi Zam (hr.mono nofun) rfl ZA (Za (pv 1) Zb)) (Zo _)))))) (Ze (Zr Zcu)) Zy)
   (Zc (ZN (ZaB (pv 2)) (Ze (Zr (ZQ Z1 (pv 3) (pv 1) (Zo _)))) Zy)
   (Ze (Zr (Zf6 (Zg (ZM (K:=K) rfl) rfl T.b_isinstance Zt (Za (pv 3) (Za (Zer (v:=.ty "ValueError") rfl T.b_ValueError Zcw rfl) Zb))) (Zdx (Zi ZbG (hr.mono nofun) rfl ZA (Za (pv 3) (Za Zf Zb)))))))))))),?_⟩
 have hA:Asc 25000 l:=hT.elim (λh=>h.2.1) λh=>⟨h.2.1.1,Yf h.2.1.2 nofun⟩
 refine Zax (fun σ Hx=>∃b:Bool,σ=[some (.int way),some (.str (txt l)),some (.bl b),none]/\(b=true↔rowR l≠none)/\Zh H Hx) (λR hR=>?_) ?_
 .right
  exact⟨l,rfl,hA,λns hn t H1 s1 ht=>hR _ _ ⟨_,rfl,by simp[hn],s1⟩,λhn H1 s1=>hR _ _ ⟨_,rfl,by simp[hn],s1⟩⟩
 rintro σ H1 ⟨b,rfl,hb,s1⟩
 refine Zax (fun σ Hx=>∃b:Bool,σ=[some (.int way),some (.str (txt l)),some (.bl b),none]/\(b=true↔D)/\Zh H Hx) (λR hR=>?_) ?_
 .right
  rcases hT with⟨rfl,hl,hD⟩|⟨rfl,hl,hD⟩
  .rw[Yb nofun]
   exact hR _ _ ⟨b,rfl,hb.trans hD.symm,s1⟩
  .rw[Yc rfl]
   refine ZG (λc=>hR _ _ ⟨true,rfl,⟨λ_=>hD.mpr (.inl ((minus_txt l).mp c)),λ_=>rfl⟩,s1⟩) λc=>ZG (λc0=>⟨l,rfl,hl.1,hl.2,λb2 hb2=>hR _ _ ⟨b2,rfl,(hb2.trans (bra_iff l)).trans ⟨λg=>hD.mpr (.inr ⟨λe=>c0 ((none_txt l).mpr e),g⟩),λd=>(hD.mp d).elim (λe=>absurd ((minus_txt l).mpr e) c) λg=>g.2⟩,s1⟩⟩) λc0=>hR _ _ ⟨false,rfl,⟨(λz=>nomatch z),λd=>(hD.mp d).elim (λe=>absurd ((minus_txt l).mpr e) c) λg=>absurd ((none_txt l).mp (Classical.not_not.mp c0)) g.1⟩,s1⟩
 clear hb b s1 H1
 rintro σ H1 ⟨b,rfl,hb,s1⟩
 refine Zax (fun σ Hx=>∃z:V,σ=[some (.int way),some (.str (txt l)),some (.bl b),some z]/\((D/\z=.str (txt l))\/(¬ D/\∃e:Addr,z=.ref e/\Hx e=some (Zd9 e (clsAt mg "NoText"))))/\Zh H Hx) (λR hR=>?_) ?_
 .right
  exact⟨way,l,D,rfl,hT,λd H2 s2=>hR _ _ ⟨_,rfl,.inl ⟨d,rfl⟩,s1.trans s2⟩,λnd e H2 s2 he=>hR _ _ ⟨_,rfl,.inr ⟨nd,e,rfl,he⟩,s1.trans s2⟩⟩
 rintro σ H2 ⟨z,rfl,hz,s2⟩
 refine Zax (fun σ Hx=>σ=[some (.int way),some (.str (txt l)),some (.bl b),some z]/\Zh H2 Hx) (λR hR=>?_) ?_
 .right
  refine ZG (λhbt=>ZG (λhw=>?_) λ_=>hR _ _ ⟨rfl,Zh.refl _⟩) λ_=>hR _ _ ⟨rfl,Zh.refl _⟩
  have hn0:rowR l≠none:=by
   rcases hT with⟨_,_,hD⟩|⟨e,_,_⟩
   .exact hD.mp (hb.mp hbt)
   .rw[hw]at e;cases e
  refine⟨l,rfl,hA,λns hn t H3 s3 ht=>?_,λhn=>absurd hn hn0⟩
  refine⟨l,rfl,hA,λns2 hn2 t2 H4 s4 ht2=>.inr ⟨t,rfl,t2,rfl,_,Zgr (n:=2) (K:=K) Zgq _ _ _ _ (Zbo (SqT.of (s4 _ _ ht))) (Zbo (SqT.of ht2)),ZG (λz=>?_) λ_=>hR _ _ ⟨rfl,s3.trans s4⟩⟩,λhn2=>absurd hn2 hn0⟩
  rw[hn]at hn2;cases hn2
  simp at z
 rintro σ H3 ⟨rfl,s3⟩
 rcases hz with⟨d,rfl⟩|⟨nd,e,rfl,he⟩
 .obtain rfl:=hb.mpr d
  refine Zax (λ_ _=>False) (λR hR=>?_) (λ_ _ z=>z.elim)
  right
  rw[YF trivial]
  exact k1 _ (s2.trans s3)
 .obtain rfl:b=false:=Bool.eq_false_iff.mpr λz=>nd (hb.mp z)
  refine Zax (fun σ Hx=>σ=[some (.int way),some (.str (txt l)),some (.bl false),some (.ref e)]/\Hx=H3) (λR hR=>?_) ?_
  .right
   exact hR _ _ ⟨rfl,rfl⟩
  rintro σ H4 ⟨rfl,rfl⟩
  right
  refine⟨true,tyE (s3 _ _ he) T.ex_NoText T.is_NoText_V,?_⟩
  rw[Yc rfl]
  exact⟨e,rfl,s3 _ _ he,λH5 s5=>k1 _ ((s2.trans s3).trans s5)⟩
noncomputable def oddB (ss:List Str):Bool:=decide (ss.length<=20)&&ss.all λs=>(cds s).all (λc=>decide (c<128))&&decide (s.length<=100)
theorem oddB_ok {ss:List Str} (h:oddB ss=true):ss.length<=20/\∀s∈ss,AscS s 100:=by
 unfold oddB at h
 rw[Bool.and_eq_true]at h
 refine⟨YM h.1,λs hs=>?_⟩
 have:=List.all_eq_true.mp h.2 s hs
 rw[Bool.and_eq_true]at this
 exact⟨λc hc=>YM (List.all_eq_true.mp this.1 c hc),YM this.2⟩
theorem bra_len {ds:List Nat} (hD:ZaV ds):(Zea ds).length=2*ds.length:=by
 have:=ZaX hD
 unfold Zea;rw[Yn,Za2,List.length_replicate];omega
noncomputable def odd1 : List Str := ["", "-", " ", "--", "- -", "-0", "0", "00", "01", "-1", "+1", "1 ", " 1", "1  2", "1\n2"]
noncomputable def odd2:List Str:=["1,2","1.0","1_0","-- 1","1 -","()",")(","(","( )","()-","-()","(())()","[]"]
noncomputable def odd3:List Str:=["a",Txt.mul "1" 60,Txt.mul "1" 61,"-"++Txt.mul "9" 60,"-"++Txt.mul "9" 61]
theorem odd1_ok:odd1.length<=20/\∀s∈odd1,AscS s 100:=oddB_ok (by decide +kernel)
theorem odd2_ok:odd2.length<=20/\∀s∈odd2,AscS s 100:=oddB_ok (by decide +kernel)
theorem odd3_ok:odd3.length<=20/\∀s∈odd3,AscS s 100:=oddB_ok (by decide +kernel)
theorem oddC:AscS (Str.ofString "0123456789- ") 20/\(Str.ofString "0123456789- ").cps.toList≠[]/\AscS (Str.ofString "()") 20/\(Str.ofString "()").cps.toList≠[]:=⟨⟨by decide +kernel,by decide +kernel⟩,by decide +kernel,⟨by decide +kernel,by decide +kernel⟩,by decide +kernel⟩
structure QA (X:Cx) (es:List Expr) (t:TA):Prop where
 h:PA X es t
structure QE (X:Cx) (e:Expr) (t:TE):Prop where
 h:PE X e t
structure QS (X:Cx) (st:Stmt) (t:TS):Prop where
 h:PS X st t
structure QSs (X:Cx) (l:List Stmt) (t:TS):Prop where
 h:PSs X l t
theorem Zih {X:Cx}:QA X [] tNil:=⟨Zb⟩
theorem Zv {X:Cx}{e:Expr}{es:List Expr}{te:TE}{t:TA} (ha:PE X e te) (hr:QA X es t) (hs:starEach (e::es) X.env=(false,eval e X.env)::starEach es X.env:=by rfl):QA X (e::es) (tCons te t):=⟨Za ha hr.h hs⟩
theorem Zii {X:Cx}{es:List Expr}{t:TA}{pos:Pos} (h:QA X es t):QE X (.List es pos) (tLst t):=⟨ZY h.h⟩
theorem qe_op {X:Cx}{a b:Expr}{ta tb:TE}{pos:Pos}{op:Operator}{r:R2} (ho:OpR X (binaryOp op) r) (ha:PE X a ta) (hb:QE X b tb):QE X (.BinOp a op b pos) (tOp r ta tb):=⟨Zk ho ha hb.h⟩
theorem Zij {X:Cx}{i:Nat}{x:Str}{e:Expr}{te:TE}{pos pos':Pos} (hN:X.N.Nodup) (hi:X.N[i]?=some x) (hx:Loc X.env.scope x) (he:QE X e te) (hs:swapsWith e (some (.Name x pos')) pos.line X.env=pure false:=by rfl)
  (hf:X.fn x=true\/X.env.scope.names.lookup x=some .local:=by and_intros):QS X (.Assign [.Name x pos'] e pos) (tAsg te (gName i)):=⟨Zl hN hi hx he.h hs hf⟩
theorem Zkn {X:Cx}{st:Stmt}{rest:List Stmt}{t u:TS} (h1:QS X st t) (h2:PSs X rest u):QSs X (st::rest) (tSeq t u):=⟨Zc h1.h h2⟩
theorem ZfZ {X:Cx}{st:Stmt}{rest:List Stmt}{t u:TS} (h1:QS X st t) (h2:QSs X rest u):QSs X (st::rest) (tSeq t u):=⟨Zc h1.h h2.h⟩
theorem boxd {X:Cx}{l:List Stmt}{D:Ends}{σ:Lake.St}{H:Hp} (h:∃t,QSs X l t/\t D σ H):∃t,PSs X l t/\t D σ H:=h.imp λ_ k=>⟨k.1.h,k.2⟩
theorem ok_law {f:Addr}{fd:FuncData} (F:Fun K "law" "law" s_law f fd) (ZcS:Callee P w K mg base "_law_pot" 1 ["script","k"] (sp__law_pot K mg)) (Zn:Callee P w K mg base "_law_take" 1 ["pot","many"] (sp__law_take K mg)) (ZbI:Callee P w K mg base "_law_row" 2 ["pot","most"] (sp__law_row K mg)) (ZbJ:Callee P w K mg base "_law_drops" 1 ["row"] (sp__law_drops K mg)) (ZaM:Callee P w K mg base "_law_brackets" 1 ["drops"] (sp__law_brackets K mg)) (Zbi:Callee P w K mg base "_law_spoilt" 3 ["pot","text","often"] (sp__law_spoilt K mg)) (ZaN:Callee P w K mg base "_law_row_text" 1 ["row"] (sp__law_row_text K mg)) (Zaf:Callee P w K mg base "_law_right" 9 ["way","text"] (sp__law_right K mg)) (T:Txt K mg):FnOk P w K mg base (CXE P w) 10 f fd ["script"] (spLaw K):=by
 refine F.okX sc_law (λvs H Q E h=>?_) (λcdv A outer s H vs Q E hr h=>?_)
 .obtain⟨a,ns,rfl,_⟩:=h;rfl
 obtain⟨sc,ss,rfl,hsc,hss,k1⟩:=h
 refine boxd ?_
 refine⟨_,(ZfZ (Zij (i:=1) sc_law.nd rfl (Or.inl rfl) (Zii (Zv Zj (Zv Zj (Zv Zj (Zv Zj (Zv Zj (Zv Zj (Zv Zj (Zv Zj (Zv Zj (Zv Zj (Zv Zj (Zv Zj (Zv Zj (Zv Zj (Zv Zj Zih)))))))))))))))))
   (ZfZ (Zij (i:=1) sc_law.nd rfl (Or.inl rfl) (qe_op ZdA (pv 1) (Zii (Zv Zj (Zv Zj (Zv Zj (Zv Zj (Zv Zj (Zv Zj (Zv Zj (Zv Zj (Zv Zj (Zv Zj (Zv Zj (Zv Zj (Zv Zj Zih))))))))))))))))
   (Zkn (Zij (i:=1) sc_law.nd rfl (Or.inl rfl) (qe_op ZdA (pv 1) (Zii (Zv Zj (Zv (Zk ZaJ Zj Zf) (Zv (Zk ZaJ Zj Zf) (Zv (Zk ZK Zj (Zk ZaJ Zj Zf)) (Zv (Zk ZK Zj (Zk ZaJ Zj Zf)) Zih))))))))
   (Zc (ZN (Zbv (ZaB (Zg (Zha (K:=K) rfl rfl) rfl T.b_all Zj5 (Za (Z3 ["text"] [none] rfl rfl rfl (Za6 (pv 1)) (λ_ _ _ _ _=>(Zw (i:=0) (show(["text"]:List Str).Nodup from by decide +kernel) rfl (Or.inl rfl))) (λ_ _ _ _ _=>Zaa) (λ_ _ _ _ _=>(Zf6 (Zi Zaf (hr.mono nofun) rfl ZA (Za Zf (Za (pv 0) Zb))) (Zdx (Zi Zaf (hr.mono nofun) rfl ZA (Za Zf (Za (pv 0) Zb)))))) ZL) Zb)))) (Ze (Zr Zcu)) Zy)
   (Zc (ZaE (ZaC PassesOwn.never rfl (ZW rfl T.b_range (Za (Zg (Zi4 rfl) rfl T.b_max Zj0 (Za Zf (Za (Zg (Zi5 rfl) rfl T.b_min Zj1 (Za (Zg (Zp (K:=K) rfl) rfl T.b_len Yl (Za (pv 0) Zb)) (Za Zf Zb))) Zb))) Zb)) (Zw (i:=2) sc_law.nd rfl (Or.inl rfl)) (Zc (Zl (i:=3) sc_law.nd rfl (Or.inl rfl) (Zi ZcS (hr.mono nofun) rfl ZA (Za (pv 0) (Za (pv 2) Zb))))
   (Zc (Zl (i:=4) sc_law.nd rfl (Or.inl rfl) (Zi ZbI (hr.mono nofun) rfl ZA (Za (pv 3) (Za (Z2 Zb7 (Zbc (Za Zf (Za Zf Zb))) (Zk Zes (Zi Zn (hr.mono nofun) rfl ZA (Za (pv 3) (Za Zf Zb))) Zf) (λ_ _=>rfl)) Zb))))
   (Zc (Zl (i:=5) sc_law.nd rfl (Or.inl rfl) (Zi ZbJ (hr.mono nofun) rfl ZA (Za (Zi ZbI (hr.mono nofun) rfl ZA (Za (pv 3) (Za (Z2 Zb7 (Zbc (Za Zf (Za Zf Zb))) (Zk Zes (Zi Zn (hr.mono nofun) rfl ZA (Za (pv 3) (Za Zf Zb))) Zf) (λ_ _=>rfl)) Zb))) Zb)))
   (Ze (ZaE (ZaC PassesOwn.never rfl (ZW rfl T.b_range (Za Zf Zb)) (Zw (i:=6) sc_law.nd rfl (Or.inl rfl)) (Zc (Zl (i:=7) sc_law.nd rfl (Or.inl rfl) (Z2 Zb7 (Zbc (Za (Zi ZaN (hr.mono nofun) rfl ZA (Za (pv 4) Zb)) (Za (Zk ZK (Zi ZaM (hr.mono nofun) rfl ZA (Za (pv 5) Zb)) (Zk ZaJ Zj (Zz Zar rfl T.b_int Zbd (Za (ZQ (Zh0 (K:=K) rfl hr) (pv 5) (Zbc Zb) (Zo _)) Zb)))) Zb))) (pv 6) (λ_ _=>rfl)))
   (Zc (ZN (Zbv (ZaB (Zi Zaf (hr.mono nofun) rfl ZA (Za (pv 6) (Za (pv 7) Zb))))) (Ze (Zr Zcu)) Zy)
   (Ze (ZaE (ZaC PassesOwn.never rfl (ZW rfl T.b_range (Za Zf Zb)) (Zw (i:=8) sc_law.nd rfl (Or.inl rfl)) (Zc (Zl (i:=9) sc_law.nd rfl (Or.inl rfl) (pv 7))
   (Zc (ZaE (ZaC PassesOwn.never rfl (ZW rfl T.b_range (Za (Zk Z9 Zf (Zi Zn (hr.mono nofun) rfl ZA (Za (pv 3) (Za Zf Zb)))) Zb)) (Zw (i:=10) sc_law.nd rfl (Or.inl rfl)) (Ze (Zl (i:=9) sc_law.nd rfl (Or.inl rfl) (Zi Zbi (hr.mono nofun) rfl ZA (Za (pv 3) (Za (pv 9) (Za (Z2 Zb7 (Zbc (Za Zj (Za Zj Zb))) (pv 6) (λ_ _=>rfl)) Zb))))))))
   (Ze (ZN (Zbv (ZaB (Zi Zaf (hr.mono nofun) rfl ZA (Za (pv 6) (Za (pv 9) Zb))))) (Ze (Zr Zcu)) Zy)))))))))))))))))
   (Ze (Zr Zcu))))))),?_⟩
 refine Zax (fun σ Hx=>∃(q:Addr) (ss:List Str),σ=[some (.ref sc),some (.ref q),none,none,none,none,none,none,none,none,none]/\Hx q=some (.lst (ss.map V.str))/\ss.length<=20/\(∀s∈ss,AscS s 100)/\Zh H Hx) (λR hR=>?_) ?_
 .right
  exact⟨by decide,λp z=>hR _ _ ⟨p,odd1,rfl,Zd,odd1_ok.1,odd1_ok.2,(Zh.refl H).upd z⟩⟩
 rintro σ H1 ⟨q,ss1,rfl,hq,n1,a1,s1⟩
 refine Zax (fun σ Hx=>∃(q:Addr) (ss:List Str),σ=[some (.ref sc),some (.ref q),none,none,none,none,none,none,none,none,none]/\Hx q=some (.lst (ss.map V.str))/\ss.length<=40/\(∀s∈ss,AscS s 100)/\Zh H Hx) (λR hR=>?_) ?_
 .right
  exact⟨by decide,λp z=>⟨_,((Zh.refl H1).upd z) _ _ hq,_,Zd,by rw[Yj];exact Yf (show _<=40 by have:=n1;show ss1.length+13<=40;omega) nofun,λp1 z1=>hR _ _ ⟨p1,ss1++odd2,rfl,by rw[Zd,YU];rfl,by rw[Yn];have:=odd2_ok.1;omega,λs hs=>(Yp.mp hs).elim (a1 s) (odd2_ok.2 s),(s1.ZH z).ZH z1⟩⟩⟩
 clear s1 hq n1 a1 ss1 q H1
 rintro σ H1 ⟨q,ss1,rfl,hq,n1,a1,s1⟩
 refine Zax (fun σ Hx=>∃(q:Addr) (ss:List Str),σ=[some (.ref sc),some (.ref q),none,none,none,none,none,none,none,none,none]/\Hx q=some (.lst (ss.map V.str))/\ss.length<=60/\(∀s∈ss,AscS s 100)/\Zh H Hx) (λR hR=>?_) ?_
 .right
  exact⟨⋯,⋯,by decide +kernel,⋯,⋯,by decide +kernel,⋯,⋯,by decide +kernel,by decide +kernel,⋯,⋯,by decide +kernel,by decide +kernel,by decide,λp z=>⟨_,((Zh.refl H1).upd z) _ _ hq,_,Zd,by rw[Yj];exact Yf (show _<=60 by have:=n1;show ss1.length+5<=60;omega) nofun,λp1 z1=>hR _ _ ⟨p1,ss1++odd3,rfl,by rw[Zd,YU];rfl,by rw[Yn];have:=odd3_ok.1;omega,λs hs=>(Yp.mp hs).elim (a1 s) (odd3_ok.2 s),(s1.ZH z).ZH z1⟩⟩⟩
 clear s1 hq n1 a1 ss1 q H1
 rintro σ H1 ⟨q,ss1,rfl,hq,n1,a1,s1⟩
 refine Zax (fun σ Hx=>σ=[some (.ref sc),some (.ref q),none,none,none,none,none,none,none,none,none]/\Zh H Hx) (λR hR=>?_) ?_
 .right
  have gS:=λ(Hx:Hp) (s:Zh H1 Hx)=>s.seq (SqL.of (K:=K) hq)
  refine⟨⟨_,SqL.of hq⟩,comp_map (n:=ss1.length) (λ_=>V.bl true) (YD n1 nofun) (λj Hx s hj=>⟨_,_,gS Hx s,by rw[YH,Yg hj];rfl⟩) (λHx s=>⟨_,gS Hx s,by simp⟩) ?_ ?_⟩
  .rintro j x Hx Hy hj s ⟨rfl,hx⟩
   have:=hx _ (gS _ s)
   rw[YH,Yg hj]at this
   cases this
   have hA:=a1 _ (YK hj)
   obtain⟨l,hl⟩:∃l,ss1[j]=txt l:=⟨_,txt_of _⟩
   rw[hl]at hA⊢
   have hB:Asc 100 l:=by have:=hA.L;rwa [show(txt l).cps.toList=l from cds_txt l]at this
   right
   exact⟨0,l,rowR l≠none,rfl,.inl ⟨rfl,⟨hB.1,by have:=hB.2;omega⟩,Iff.rfl⟩,λH2 s2=>⟨true,rfl,ZG (λ_=>⟨1,l,TreeB l,rfl,.inr ⟨rfl,⟨hB.1,by have:=hB.2;omega⟩,Iff.rfl⟩,λH3 s3=>CW.next hj rfl ((s.trans s2).trans s3)⟩) λz=>absurd rfl z⟩⟩
  .intro l Hx sx hl
   refine⟨l,rfl,List.replicate ss1.length true,SqL.of (by rw[Zd,List.map_replicate,List.map_const',Y7]),?_⟩
   rw[Yb (by simp)]
   exact hR _ _ ⟨rfl,s1.trans (sx.ZH hl)⟩
 clear s1 hq n1 a1 ss1 H1
 rintro σ H1 ⟨rfl,s1⟩
 right
 refine⟨_,.inl (s1.seq hsc),?_,?_,Zac (λi σ H'=>∃v2 v3 v4 v5 v6 v7 v8 v9 v10,σ=[some (.ref sc),some (.ref q),v2,v3,v4,v5,v6,v7,v8,v9,v10]/\Zh H H') ⟨_,_,_,_,_,_,_,_,_,rfl,s1⟩ ?_ ?_⟩
 .split<;>(try split)<;>omega
 .split<;>(try split)<;>omega
 .rintro i σ H' hi ⟨v2,v3,v4,v5,v6,v7,v8,v9,v10,rfl,hs⟩
  have hi8:i<16:=by
   revert hi
   split
   .split<;>omega
   .omega
  refine Zax (fun σ Hx=>∃p,σ=[some (.ref sc),some (.ref q),some (.int (0+(i:Int))),some (.ref p),v4,v5,v6,v7,v8,v9,v10]/\H p=none/\ZJ Hx p/\Zh H Hx) (λR hR=>?_) ?_
  .right
   exact⟨sc,ss,_,rfl,hs.seq hsc,⋯,⋯,λp H1 hp s1 P1=>hR _ _ ⟨p,rfl,hs.free hp,P1,hs.trans s1⟩⟩
  rintro σ H2 ⟨p,rfl,zp,P1,s2⟩
  refine Zax (fun σ Hx=>∃(r:Addr) (ns:List Int),σ=[some (.ref sc),some (.ref q),some (.int (0+(i:Int))),some (.ref p),some (.ref r),v5,v6,v7,v8,v9,v10]/\ns.length<=41/\(∀x∈ns,x.natAbs<10 ^ 60)/\Hx r=some (.lst (ns.map V.int))/\r≠p/\ZJ Hx p/\Zh H Hx) (λR hR=>?_) ?_
  .right
   refine⟨by decide,λu hu=>⟨p,3,rfl,by decide,by decide,P1.upd hu,λd H3 d0 d1 P3 e3=>⟨d,rfl,⟨⋯,⋯⟩,_,SqT.of (e3 _ _ (P1.ne hu) Zd),?_⟩⟩⟩
   have fin:∀m:Int,0<=m->m<=41->sp__law_row K mg [V.ref p,.int m] H3 (λx H1=>R [some (V.ref sc),some (V.ref q),some (V.int (0+(i:Int))),some (V.ref p),some x,v5,v6,v7,v8,v9,v10] H1) E0:=λm m0 m1=>⟨p,m,rfl,⋯,⋯,P3,λr ns H4 zr hl hb hr2 P4 e4=>hR _ _ ⟨r,ns,rfl,⋯,hb,hr2,P3.ne zr,P4,(s2.ZH hu).exc zp (e3.trans e4)⟩⟩
   obtain rfl|rfl|rfl:d=0\/d=1\/d=2:= ⋯
   .exact⟨_,rfl,fin 8 ⋯ ⋯⟩
   .exact⟨_,rfl,fin 8 ⋯ ⋯⟩
   .exact⟨_,rfl,fin 41 ⋯ ⋯⟩
  clear s2 P1 H2
  rintro σ H2 ⟨r,ns,rfl,hn,hb,hr1,nrp,P1,s2⟩
  refine Zax (fun σ Hx=>∃(t:Addr) (ms:List Int),σ=[some (.ref sc),some (.ref q),some (.int (0+(i:Int))),some (.ref p),some (.ref r),some (.ref t),v6,v7,v8,v9,v10]/\ms.length<=41/\Hx t=some (.tup (Zs (ZZ (nth ms) ms.length)))/\Hx r=some (.lst (ns.map V.int))/\ZJ Hx p/\Zh H Hx) (λR hR=>?_) ?_
  .right
   refine⟨by decide,λu hu=>⟨p,4,rfl,by decide,by decide,P1.upd hu,λd H3 d0 d1 P3 e3=>⟨d,rfl,⟨⋯,⋯⟩,_,SqT.of (e3 _ _ (P1.ne hu) Zd),?_⟩⟩⟩
   have fin:∀m:Int,0<=m->m<=41->sp__law_row K mg [V.ref p,.int m] H3 (λx H1=>sp__law_drops K mg [x] H1 (λx H1=>R [some (V.ref sc),some (V.ref q),some (V.int (0+(i:Int))),some (V.ref p),some (V.ref r),some x,v6,v7,v8,v9,v10] H1) E0) E0:=λm m0 m1=>⟨p,m,rfl,⋯,⋯,P3,λr1 ms H4 zr hl hb1 hr2 P4 e4=>⟨r1,ms,rfl,hr2,⋯,λt H5 s5 ht=>hR _ _ ⟨t,ms,rfl,⋯,ht,s5 _ _ (e4 _ _ nrp (e3 _ _ nrp (((Zh.refl H2).upd hu) _ _ hr1))),P4.same s5,((s2.ZH hu).exc zp (e3.trans e4)).trans s5⟩⟩⟩
   obtain rfl|rfl|rfl|rfl:d=0\/d=1\/d=2\/d=3:= ⋯
   .exact⟨_,rfl,fin 8 ⋯ ⋯⟩
   .exact⟨_,rfl,fin 8 ⋯ ⋯⟩
   .exact⟨_,rfl,fin 8 ⋯ ⋯⟩
   .exact⟨_,rfl,fin 41 ⋯ ⋯⟩
  clear s2 P1 hr1 H2
  rintro σ H2 ⟨t,ms,rfl,hm,ht,hr1,P1,s2⟩
  right
  refine⟨by decide,by decide,Zac (λw σ Hx=>∃v6 v7 v8 v9 v10,σ=[some (.ref sc),some (.ref q),some (.int (0+(i:Int))),some (.ref p),some (.ref r),some (.ref t),v6,v7,v8,v9,v10]/\ZJ Hx p/\Exc p H2 Hx) ⟨_,_,_,_,_,rfl,P1,(Zh.refl H2).ZiV⟩ ?_ ?_⟩
  .rintro w σ Hx hw ⟨v6,v7,v8,v9,v10,rfl,P2,e2⟩
   have hr2:=e2 _ _ nrp hr1
   have ht2:=e2 _ _ (λz=>by obtain⟨_,hz,_⟩:=P1;rw[z,hz]at ht;cases ht) ht
   refine Zax (fun σ Hy=>∃(l:List Nat),σ=[some (.ref sc),some (.ref q),some (.int (0+(i:Int))),some (.ref p),some (.ref r),some (.ref t),some (.int (0+(w:Int))),some (.str (txt l)),v8,v9,v10]/\Asc (if w=0 then 2600 else 100) l/\ZJ Hy p/\Exc p H2 Hy) (λR hR=>?_) ?_
   .right
    refine⟨r,ns,rfl,SqL.of hr2,hn,hb,λl1 H3 hl1 s3=>⟨t,_,rfl,s3 _ _ ht2,by rw[ZaG];exact hm,Zcn _ _,λH4 s4=>⟨Yq _,λu hu=>?_⟩⟩⟩
    have ld:=ZaG (nth ms) ms.length
    have hD:=Zcn (nth ms) ms.length
    generalize ZZ (nth ms) ms.length=ds at ld hD ht2⊢
    have g:=(Zh.refl H4).upd (o:=.tup []) hu
    have s34:=(s3.trans s4).trans g
    have en:Zs ds=(ds.map λ(d:Nat)=>(d:Int)).map V.int:=by unfold Zs;rw[Yy];rfl
    have e0:=Zgr (n:=2) (K:=K) Zgq (V.ref t) (V.ref u) (ds.map λ(d:Nat)=>(d:Int)) [] (Zbo (SqT.of (by rw[<-en];exact s34 _ _ ht2))) (Zbo (ns:=[]) (SqT.of (Zd (H:=H4) (a:=u) (o:=.tup []))))
    generalize decide ((ds.map λ(d:Nat)=>(d:Int))=[])=b at e0
    have lT:=bra_len hD
    refine⟨b,e0,by split<;>omega,by split<;>omega,by decide +kernel,_,rfl,?_,by decide,λv hv=>?_⟩
    .rw[Za3,Z7,Zu,Zu,lT,List.length_replicate]
     refine Yf (show _<=1000 from ?_) nofun
     split<;>omega
    have g2:=s34.ZH (o:=.tup [V.str (txt l1),V.str (txt (Zea ds)++Txt.mul (Str.ofString "-") (if b=true then 1 else 0))]) hv
    have hw2:w<2:=hw
    obtain rfl|rfl:w=0\/w=1:= ⋯
    .exact⟨_,SqT.of Zd,_,rfl,hR _ _ ⟨l1,rfl,by rw[Yc rfl];exact hl1,P2.same g2,e2.same g2⟩⟩
    .refine⟨_,SqT.of Zd,_,rfl,?_⟩
     rw[Za3,Z7,ZaW]
     exact hR _ _ ⟨_,rfl,⟨λc hc=>(Yp.mp hc).elim (λh=>by have:=ZkT h;omega) λh=>by have:=List.eq_of_mem_replicate h;omega,by rw[Yn,lT,List.length_replicate];show _<=100;split<;>omega⟩,P2.same (by rw[<-ZaW,<-Z7,<-Za3];exact g2),e2.same (by rw[<-ZaW,<-Z7,<-Za3];exact g2)⟩
   clear hr2 ht2 P2 e2 Hx
   rintro σ Hx ⟨l,rfl,hl,P2,e2⟩
   have hway:∀m:List Nat,Asc (if w=0 then 25000 else 1000) m->∃D,Way80 (0+(w:Int)) m D:=by
    intro m hm
    have hw2:w<2:=hw
    obtain rfl|rfl:w=0\/w=1:= ⋯
    .exact⟨rowR m≠none,.inl ⟨rfl,by rwa [Yc rfl]at hm,Iff.rfl⟩⟩
    .exact⟨TreeB m,.inr ⟨rfl,by rwa [Yb nofun]at hm,Iff.rfl⟩⟩
   refine Zax (fun σ Hy=>σ=[some (.ref sc),some (.ref q),some (.int (0+(i:Int))),some (.ref p),some (.ref r),some (.ref t),some (.int (0+(w:Int))),some (.str (txt l)),v8,v9,v10]/\ZJ Hy p/\Exc p H2 Hy) (λR hR=>?_) ?_
   .right
    obtain⟨D,hD⟩:=hway l ⟨hl.1,Yf hl.2 (by split<;>omega)⟩
    exact⟨_,l,D,rfl,hD,λH3 s3=>⟨true,rfl,ZG (λz=>nomatch z) λ_=>hR _ _ ⟨rfl,P2.same s3,e2.same s3⟩⟩⟩
   clear P2 e2 Hx
   rintro σ Hx ⟨rfl,P2,e2⟩
   right
   refine⟨by decide,by decide,Zac (λk σ Hy=>∃v8 v9 v10,σ=[some (.ref sc),some (.ref q),some (.int (0+(i:Int))),some (.ref p),some (.ref r),some (.ref t),some (.int (0+(w:Int))),some (.str (txt l)),v8,v9,v10]/\ZJ Hy p/\Exc p H2 Hy) ⟨_,_,_,rfl,P2,e2⟩ ?_ ?_⟩
   .rintro k σ Hy hk ⟨v8,v9,v10,rfl,P3,e3⟩
    refine Zax (fun σ Hz=>∃(m:List Nat) (v10:Option V),σ=[some (.ref sc),some (.ref q),some (.int (0+(i:Int))),some (.ref p),some (.ref r),some (.ref t),some (.int (0+(w:Int))),some (.str (txt l)),some (.int (0+(k:Int))),some (.str (txt m)),v10]/\Asc (if w=0 then 2600 else 100) m/\Hz=Hy) (λR hR=>?_) ?_
    .right
     exact hR _ _ ⟨l,v10,rfl,hl,rfl⟩
    rintro σ Hz ⟨m,v10,rfl,hm,rfl⟩
    refine Zax (fun σ Hz=>∃(m:List Nat) (v10:Option V),σ=[some (.ref sc),some (.ref q),some (.int (0+(i:Int))),some (.ref p),some (.ref r),some (.ref t),some (.int (0+(w:Int))),some (.str (txt l)),some (.int (0+(k:Int))),some (.str (txt m)),v10]/\Asc (if w=0 then 22000 else 900) m/\ZJ Hz p/\Exc p H2 Hz) (λR hR=>?_) ?_
    .right
     generalize hB:(if w=0 then 2601 else 101:Nat)=B
     have hB1:B<=2601:=by rw[<-hB];split<;>omega
     refine⟨p,3,rfl,by decide,by decide,P3,λd H3 d0 d1 P4 e4=>⟨d,rfl,⋯,⋯,Zac (λb σ Hw=>∃(m:List Nat) (v10:Option V),σ=[some (.ref sc),some (.ref q),some (.int (0+(i:Int))),some (.ref p),some (.ref r),some (.ref t),some (.int (0+(w:Int))),some (.str (txt l)),some (.int (0+(k:Int))),some (.str (txt m)),v10]/\(∀c∈m,c<128)/\m.length+1<=2 ^ b*B/\ZJ Hw p/\Exc p H2 Hw) ⟨m,v10,rfl,hm.1,?_,P4,e3.trans e4⟩ ?_ ?_⟩⟩
     .have:=hm.2
      rw[Nat.pow_zero,Nat.one_mul,<-hB]
      split at this<;>split<;>omega
     .rintro b σ Hw hb2 ⟨m,v10,rfl,hm1,hm2,P5,e5⟩
      have hp4:2 ^ b<=2 ^ 2:=Nat.pow_le_pow_right ⋯ ⋯
      have hm3:2 ^ b*B<=2 ^ 2*B:=Nat.mul_le_mul_right _ hp4
      right
      refine⟨by decide,λu hu=>?_⟩
      have key:∀o:Str,AscS o 20->o.cps.toList≠[]->sp__law_spoilt K mg [V.ref p,V.str (txt m),V.str o] (upd Hw u (.tup [V.str "0123456789- ",V.str "()"])) (λx Hv=>∃m:List Nat,x=V.str (txt m)/\(∀c∈m,c<128)/\m.length+1<=2 ^ (b+1)*B/\ZJ Hv p/\Exc p H2 Hv) E0:=λo ho hn=>by
       rw[txt_of o]
       exact⟨p,m,_,rfl,⟨hm1,⋯⟩,ho.L,hn,P5.upd hu,λm2 H4 hm2' P6 e6=>⟨m2,rfl,hm2'.1,by have:=hm2'.2;rw[Nat.pow_succ,Nat.mul_right_comm];omega,P6,(e5.trans ((Zh.refl Hw).upd hu).ZiV).trans e6⟩⟩
      have hw2:w<2:=hw
      obtain rfl|rfl:w=0\/w=1:= ⋯
      .exact⟨_,SqT.of Zd,_,rfl,key _ oddC.1 oddC.2.1⟩
      .exact⟨_,SqT.of Zd,_,rfl,key _ oddC.2.2.1 oddC.2.2.2⟩
     .rintro σ Hw ⟨m,v10,rfl,hm1,hm2,P5,e5⟩
      refine hR _ _ ⟨m,v10,rfl,⟨hm1,?_⟩,P5,e5⟩
      have hp8:2 ^ (1+d).toNat<=2 ^ 3:=Nat.pow_le_pow_right ⋯ ⋯
      have hm3:2 ^ (1+d).toNat*B<=2 ^ 3*B:=Nat.mul_le_mul_right _ hp8
      split<;>rename_i hz
      .omega
      .rw[Yb hz]at hB;omega
    clear hm m P3 e3 Hz
    rintro σ Hz ⟨m,v10,rfl,hm,P4,e4⟩
    right
    obtain⟨D,hD⟩:=hway m ⟨hm.1,Yf hm.2 (by split<;>omega)⟩
    exact⟨_,m,D,rfl,hD,λH3 s3=>⟨true,rfl,ZG (λz=>nomatch z) λ_=>⟨P4.same s3,e4.same s3⟩⟩⟩
   .rintro σ Hy ⟨v8,v9,v10,rfl,P3,e3⟩
    exact⟨_,_,_,_,_,rfl,P3,e3⟩
  .rintro σ Hx ⟨v6,v7,v8,v9,v10,rfl,P2,e2⟩
   right
   exact s2.exc zp e2
 .rintro σ H' ⟨v2,v3,v4,v5,v6,v7,v8,v9,v10,rfl,hs⟩
  right
  exact k1 H'
end
inductive DefAt (K:PySem.W.Frag) (x:Str) (s:Stmt):Prop
 |mk {f:Addr}{od an:Option Addr}{sl:Array (Option Value)}{oc kV dc pm cd ct:Value} (a:nsIn K mainGlobals x=some (some (.ref f))) (l:K.lookup f=some ⟨oc,od,.func (fnOf x x (defArgs s) (defBody s) (defScope s) .none kV dc pm an cd ct),sl⟩) (c:codeIn K cd x=true) (k:keepIn K (.ref f)=true):DefAt K x s
theorem all_mk {l:PySem.W.OpenLaw}{w:World}{K:PySem.W.Frag}{h:Heap}{mg:Str->Option Value}{fa:Addr} (X:K.In h) (G:h.Ns mainGlobals mg) (hfa:mg "law"=some (.ref fa))
  (Ze1:DefAt K "settle" s_settle)
  (ZdO:DefAt K "tree_of" s_tree_of)
  (Ze2:DefAt K "way_up" s_way_up)
  (ZdP:DefAt K "is_tree" s_is_tree)
  (Zcg:DefAt K "need_tree" s_need_tree)
  (Zch:DefAt K "fences_of" s_fences_of)
  (ZcT:DefAt K "drops_of" s_drops_of)
  (Zbj:DefAt K "brackets_of" s_brackets_of)
  (ZbK:DefAt K "need_short" s_need_short)
  (ZcU:DefAt K "by_drops" s_by_drops)
  (Zbk:DefAt K "by_brackets" s_by_brackets)
  (ZcV:DefAt K "row_text" s_row_text)
  (Zci:DefAt K "tree_text" s_tree_text)
  (Zbl:DefAt K "read_number" s_read_number)
  (ZcW:DefAt K "read_row" s_read_row)
  (Zcj:DefAt K "read_tree" s_read_tree)
  (ZcX:DefAt K "_law_pot" s__law_pot)
  (Zck:DefAt K "_law_take" s__law_take)
  (ZcY:DefAt K "_law_row" s__law_row)
  (ZbL:DefAt K "_law_drops" s__law_drops)
  (ZaO:DefAt K "_law_brackets" s__law_brackets)
  (Zaj:DefAt K "_law_are_brackets" s__law_are_brackets)
  (ZaP:DefAt K "_law_any_sign" s__law_any_sign)
  (Zbm:DefAt K "_law_spoilt" s__law_spoilt)
  (Zap:DefAt K "_law_number_read" s__law_number_read)
  (ZaQ:DefAt K "_law_row_read" s__law_row_read)
  (ZaR:DefAt K "_law_row_text" s__law_row_text)
  (ZbM:DefAt K "_law_kinds" s__law_kinds)
  (ZbN:DefAt K "_law_alone" s__law_alone)
  (ZbO:DefAt K "_law_asked" s__law_asked)
  (ZbP:DefAt K "_law_right" s__law_right)
  (Zko:nsIn K mainGlobals "law"=some (some (.ref ZkX))) (Zkp:K.lookup ZkX=some ⟨Zk4,Zk5,.func (fnOf "law" "law" (defArgs s_law) (defBody s_law) (defScope s_law) .none ZkY ZkZ Zk0 Zk1 Zkq Zk2),Zk6⟩) (Zkr:codeIn K Zkq "law"=true) (Zks:keepIn K (.ref ZkX)=true)
  {C_DipError:Addr} (n_DipError:nsIn K mainGlobals "DipError"=some (some (.ref C_DipError))) (x_DipError:PySem.W.excIn K C_DipError bmV newV=true) (d_DipError:PySem.W.hasDictIn K C_DipError=true) (y_DipError:PySem.W.typeIn K (.ref C_DipError)=some (.type "type"))
  {C_Unlike:Addr} (n_Unlike:nsIn K mainGlobals "Unlike"=some (some (.ref C_Unlike))) (x_Unlike:PySem.W.excIn K C_Unlike bmV newV=true) (d_Unlike:PySem.W.hasDictIn K C_Unlike=true) (y_Unlike:PySem.W.typeIn K (.ref C_Unlike)=some (.type "type"))
  {C_Empty:Addr} (n_Empty:nsIn K mainGlobals "Empty"=some (some (.ref C_Empty))) (x_Empty:PySem.W.excIn K C_Empty bmV newV=true) (d_Empty:PySem.W.hasDictIn K C_Empty=true) (y_Empty:PySem.W.typeIn K (.ref C_Empty)=some (.type "type"))
  {C_TooMany:Addr} (n_TooMany:nsIn K mainGlobals "TooMany"=some (some (.ref C_TooMany))) (x_TooMany:PySem.W.excIn K C_TooMany bmV newV=true) (d_TooMany:PySem.W.hasDictIn K C_TooMany=true) (y_TooMany:PySem.W.typeIn K (.ref C_TooMany)=some (.type "type"))
  {C_NoTree:Addr} (n_NoTree:nsIn K mainGlobals "NoTree"=some (some (.ref C_NoTree))) (x_NoTree:PySem.W.excIn K C_NoTree bmV newV=true) (d_NoTree:PySem.W.hasDictIn K C_NoTree=true) (y_NoTree:PySem.W.typeIn K (.ref C_NoTree)=some (.type "type"))
  {C_NoTelling:Addr} (n_NoTelling:nsIn K mainGlobals "NoTelling"=some (some (.ref C_NoTelling))) (x_NoTelling:PySem.W.excIn K C_NoTelling bmV newV=true) (d_NoTelling:PySem.W.hasDictIn K C_NoTelling=true) (y_NoTelling:PySem.W.typeIn K (.ref C_NoTelling)=some (.type "type"))
  {C_NoPlace:Addr} (n_NoPlace:nsIn K mainGlobals "NoPlace"=some (some (.ref C_NoPlace))) (x_NoPlace:PySem.W.excIn K C_NoPlace bmV newV=true) (d_NoPlace:PySem.W.hasDictIn K C_NoPlace=true) (y_NoPlace:PySem.W.typeIn K (.ref C_NoPlace)=some (.type "type"))
  {C_NoNumber:Addr} (n_NoNumber:nsIn K mainGlobals "NoNumber"=some (some (.ref C_NoNumber))) (x_NoNumber:PySem.W.excIn K C_NoNumber bmV newV=true) (d_NoNumber:PySem.W.hasDictIn K C_NoNumber=true) (y_NoNumber:PySem.W.typeIn K (.ref C_NoNumber)=some (.type "type"))
  {C_NoPast:Addr} (n_NoPast:nsIn K mainGlobals "NoPast"=some (some (.ref C_NoPast))) (x_NoPast:PySem.W.excIn K C_NoPast bmV newV=true) (d_NoPast:PySem.W.hasDictIn K C_NoPast=true) (y_NoPast:PySem.W.typeIn K (.ref C_NoPast)=some (.type "type"))
  {C_NoText:Addr} (n_NoText:nsIn K mainGlobals "NoText"=some (some (.ref C_NoText))) (x_NoText:PySem.W.excIn K C_NoText bmV newV=true) (d_NoText:PySem.W.hasDictIn K C_NoText=true) (y_NoText:PySem.W.typeIn K (.ref C_NoText)=some (.type "type"))
  {C_NoLine:Addr} (n_NoLine:nsIn K mainGlobals "NoLine"=some (some (.ref C_NoLine))) (x_NoLine:PySem.W.excIn K C_NoLine bmV newV=true) (d_NoLine:PySem.W.hasDictIn K C_NoLine=true) (y_NoLine:PySem.W.typeIn K (.ref C_NoLine)=some (.type "type"))
  (z1_NoText:PySem.W.hasDictIn K C_NoText=true) (z2_NoText:PySem.W.findIn K (.ref C_NoText) "__getattribute__"=some (some (.builtin "BaseException.__getattribute__"))) (z3_NoText:PySem.W.findIn K (.ref C_NoText) "__getattr__"=some none) (z4_NoText:PySem.W.findIn K (.ref C_NoText) "__class__"=some (some (.builtin "object.__class__"))) (z5_NoText:PySem.W.specialIn K (.builtin "object.__class__") "__get__"=some (some (.builtin "getset_descriptor.__get__"))) (z6_NoText:PySem.W.takesIn K (.builtin "object.__class__")=some true) (z7_NoText:PySem.W.mroIn K C_NoText (.type "object")=some true) (z8_NoText:PySem.W.mroIn K C_NoText (.type "BaseException")=some true)
  (u_NoText:PySem.W.mroIn K C_NoText (.ref C_DipError)=some true)
  (i_NoText_DipError:PySem.W.subIn K (.ref C_NoText) (.ref C_DipError)=some true) (ne_NoText_DipError:C_NoText≠C_DipError)
  (i_NoText_Unlike:PySem.W.subIn K (.ref C_NoText) (.ref C_Unlike)=some false) (ne_NoText_Unlike:C_NoText≠C_Unlike)
  (i_NoText_Empty:PySem.W.subIn K (.ref C_NoText) (.ref C_Empty)=some false) (ne_NoText_Empty:C_NoText≠C_Empty)
  (i_NoText_TooMany:PySem.W.subIn K (.ref C_NoText) (.ref C_TooMany)=some false) (ne_NoText_TooMany:C_NoText≠C_TooMany)
  (i_NoText_NoTree:PySem.W.subIn K (.ref C_NoText) (.ref C_NoTree)=some false) (ne_NoText_NoTree:C_NoText≠C_NoTree)
  (i_NoText_NoTelling:PySem.W.subIn K (.ref C_NoText) (.ref C_NoTelling)=some false) (ne_NoText_NoTelling:C_NoText≠C_NoTelling)
  (i_NoText_NoPlace:PySem.W.subIn K (.ref C_NoText) (.ref C_NoPlace)=some false) (ne_NoText_NoPlace:C_NoText≠C_NoPlace)
  (i_NoText_NoNumber:PySem.W.subIn K (.ref C_NoText) (.ref C_NoNumber)=some false) (ne_NoText_NoNumber:C_NoText≠C_NoNumber)
  (i_NoText_NoPast:PySem.W.subIn K (.ref C_NoText) (.ref C_NoPast)=some false) (ne_NoText_NoPast:C_NoText≠C_NoPast)
  (i_NoText_NoLine:PySem.W.subIn K (.ref C_NoText) (.ref C_NoLine)=some false) (ne_NoText_NoLine:C_NoText≠C_NoLine)
  (i_NoText_V:PySem.W.subIn K (.ref C_NoText) (.type "ValueError")=some true)
  (z1_NoTelling:PySem.W.hasDictIn K C_NoTelling=true) (z2_NoTelling:PySem.W.findIn K (.ref C_NoTelling) "__getattribute__"=some (some (.builtin "BaseException.__getattribute__"))) (z3_NoTelling:PySem.W.findIn K (.ref C_NoTelling) "__getattr__"=some none) (z4_NoTelling:PySem.W.findIn K (.ref C_NoTelling) "__class__"=some (some (.builtin "object.__class__"))) (z5_NoTelling:PySem.W.specialIn K (.builtin "object.__class__") "__get__"=some (some (.builtin "getset_descriptor.__get__"))) (z6_NoTelling:PySem.W.takesIn K (.builtin "object.__class__")=some true) (z7_NoTelling:PySem.W.mroIn K C_NoTelling (.type "object")=some true) (z8_NoTelling:PySem.W.mroIn K C_NoTelling (.type "BaseException")=some true)
  (u_NoTelling:PySem.W.mroIn K C_NoTelling (.ref C_DipError)=some true)
  (us_NoTelling:PySem.W.mroIn K C_NoTelling (.ref C_NoTelling)=some true)
  (i_NoTelling_DipError:PySem.W.subIn K (.ref C_NoTelling) (.ref C_DipError)=some true) (ne_NoTelling_DipError:C_NoTelling≠C_DipError)
  (i_NoTelling_Unlike:PySem.W.subIn K (.ref C_NoTelling) (.ref C_Unlike)=some false) (ne_NoTelling_Unlike:C_NoTelling≠C_Unlike)
  (i_NoTelling_Empty:PySem.W.subIn K (.ref C_NoTelling) (.ref C_Empty)=some false) (ne_NoTelling_Empty:C_NoTelling≠C_Empty)
  (i_NoTelling_TooMany:PySem.W.subIn K (.ref C_NoTelling) (.ref C_TooMany)=some false) (ne_NoTelling_TooMany:C_NoTelling≠C_TooMany)
  (i_NoTelling_NoTree:PySem.W.subIn K (.ref C_NoTelling) (.ref C_NoTree)=some false) (ne_NoTelling_NoTree:C_NoTelling≠C_NoTree)
  (i_NoTelling_NoPlace:PySem.W.subIn K (.ref C_NoTelling) (.ref C_NoPlace)=some false) (ne_NoTelling_NoPlace:C_NoTelling≠C_NoPlace)
  (i_NoTelling_NoNumber:PySem.W.subIn K (.ref C_NoTelling) (.ref C_NoNumber)=some false) (ne_NoTelling_NoNumber:C_NoTelling≠C_NoNumber)
  (i_NoTelling_NoPast:PySem.W.subIn K (.ref C_NoTelling) (.ref C_NoPast)=some false) (ne_NoTelling_NoPast:C_NoTelling≠C_NoPast)
  (i_NoTelling_NoText:PySem.W.subIn K (.ref C_NoTelling) (.ref C_NoText)=some false) (ne_NoTelling_NoText:C_NoTelling≠C_NoText)
  (i_NoTelling_NoLine:PySem.W.subIn K (.ref C_NoTelling) (.ref C_NoLine)=some false) (ne_NoTelling_NoLine:C_NoTelling≠C_NoLine)
  (i_NoTelling_V:PySem.W.subIn K (.ref C_NoTelling) (.type "ValueError")=some true)
  (b_ValueError:nsIn K mainGlobals "ValueError"=some none)
  (b_all:nsIn K mainGlobals "all"=some none)
  (b_any:nsIn K mainGlobals "any"=some none)
  (b_enumerate:nsIn K mainGlobals "enumerate"=some none)
  (b_int:nsIn K mainGlobals "int"=some none)
  (b_isinstance:nsIn K mainGlobals "isinstance"=some none)
  (b_len:nsIn K mainGlobals "len"=some none)
  (b_max:nsIn K mainGlobals "max"=some none)
  (b_min:nsIn K mainGlobals "min"=some none)
  (b_range:nsIn K mainGlobals "range"=some none)
  (b_str:nsIn K mainGlobals "str"=some none)
  (b_sum:nsIn K mainGlobals "sum"=some none)
  (b_tuple:nsIn K mainGlobals "tuple"=some none)
  {t_MOST_PLACES:Tok} (m_MOST_PLACES:nsIn K mainGlobals "MOST_PLACES"=some (some (.int 40 t_MOST_PLACES)))
  {t_NOTHING:Tok} (m_NOTHING:nsIn K mainGlobals "NOTHING"=some (some (.str (Str.ofString "-") t_NOTHING)))
  {t_MOST_FIGURES:Tok} (m_MOST_FIGURES:nsIn K mainGlobals "MOST_FIGURES"=some (some (.int 60 t_MOST_FIGURES)))
  : ∃fd:FuncData,(∀(s:Shared) (v:Value),BindsTo s fd ⟨[v],[]⟩ [("script",v)])/\∀base:Heap,K.In base->base.Ns mainGlobals mg->FnOk l.prog w K mg base (CXE l.prog w) 10 fa fd ["script"] (spLaw K):=by
 have e:=hfa.symm.trans (mg_of X G Zko)
 cases e
 have q_DipError:clsAt mg "DipError"=C_DipError:=by unfold clsAt;rw[mg_of X G n_DipError]
 have q_Unlike:clsAt mg "Unlike"=C_Unlike:=by unfold clsAt;rw[mg_of X G n_Unlike]
 have q_Empty:clsAt mg "Empty"=C_Empty:=by unfold clsAt;rw[mg_of X G n_Empty]
 have q_TooMany:clsAt mg "TooMany"=C_TooMany:=by unfold clsAt;rw[mg_of X G n_TooMany]
 have q_NoTree:clsAt mg "NoTree"=C_NoTree:=by unfold clsAt;rw[mg_of X G n_NoTree]
 have q_NoTelling:clsAt mg "NoTelling"=C_NoTelling:=by unfold clsAt;rw[mg_of X G n_NoTelling]
 have q_NoPlace:clsAt mg "NoPlace"=C_NoPlace:=by unfold clsAt;rw[mg_of X G n_NoPlace]
 have q_NoNumber:clsAt mg "NoNumber"=C_NoNumber:=by unfold clsAt;rw[mg_of X G n_NoNumber]
 have q_NoPast:clsAt mg "NoPast"=C_NoPast:=by unfold clsAt;rw[mg_of X G n_NoPast]
 have q_NoText:clsAt mg "NoText"=C_NoText:=by unfold clsAt;rw[mg_of X G n_NoText]
 have q_NoLine:clsAt mg "NoLine"=C_NoLine:=by unfold clsAt;rw[mg_of X G n_NoLine]
 have q_MOST_PLACES:tokAt mg "MOST_PLACES"=t_MOST_PLACES:=by unfold tokAt;rw[mg_of X G m_MOST_PLACES]
 have q_NOTHING:tokS mg "NOTHING"=t_NOTHING:=by unfold tokS;rw[mg_of X G m_NOTHING]
 have q_MOST_FIGURES:tokAt mg "MOST_FIGURES"=t_MOST_FIGURES:=by unfold tokAt;rw[mg_of X G m_MOST_FIGURES]
 have T:Txt K mg:={
  b_ValueError:=mg_none_of X G b_ValueError
  b_all:=mg_none_of X G b_all
  b_any:=mg_none_of X G b_any
  b_enumerate:=mg_none_of X G b_enumerate
  b_int:=mg_none_of X G b_int
  b_isinstance:=mg_none_of X G b_isinstance
  b_len:=mg_none_of X G b_len
  b_max:=mg_none_of X G b_max
  b_min:=mg_none_of X G b_min
  b_range:=mg_none_of X G b_range
  b_str:=mg_none_of X G b_str
  b_sum:=mg_none_of X G b_sum
  b_tuple:=mg_none_of X G b_tuple
  c_DipError:=by rw[q_DipError];exact mg_of X G n_DipError
  x_DipError:=by rw[q_DipError];exact x_DipError
  c_Unlike:=by rw[q_Unlike];exact mg_of X G n_Unlike
  x_Unlike:=by rw[q_Unlike];exact x_Unlike
  c_Empty:=by rw[q_Empty];exact mg_of X G n_Empty
  x_Empty:=by rw[q_Empty];exact x_Empty
  c_TooMany:=by rw[q_TooMany];exact mg_of X G n_TooMany
  x_TooMany:=by rw[q_TooMany];exact x_TooMany
  c_NoTree:=by rw[q_NoTree];exact mg_of X G n_NoTree
  x_NoTree:=by rw[q_NoTree];exact x_NoTree
  c_NoTelling:=by rw[q_NoTelling];exact mg_of X G n_NoTelling
  x_NoTelling:=by rw[q_NoTelling];exact x_NoTelling
  c_NoPlace:=by rw[q_NoPlace];exact mg_of X G n_NoPlace
  x_NoPlace:=by rw[q_NoPlace];exact x_NoPlace
  c_NoNumber:=by rw[q_NoNumber];exact mg_of X G n_NoNumber
  x_NoNumber:=by rw[q_NoNumber];exact x_NoNumber
  c_NoPast:=by rw[q_NoPast];exact mg_of X G n_NoPast
  x_NoPast:=by rw[q_NoPast];exact x_NoPast
  c_NoText:=by rw[q_NoText];exact mg_of X G n_NoText
  x_NoText:=by rw[q_NoText];exact x_NoText
  c_NoLine:=by rw[q_NoLine];exact mg_of X G n_NoLine
  x_NoLine:=by rw[q_NoLine];exact x_NoLine
  ex_NoText:=by rw[q_NoText];exact⟨z1_NoText,z2_NoText,z3_NoText,z4_NoText,z5_NoText,z6_NoText,z7_NoText,z8_NoText⟩
  up_NoText:=by rw[q_NoText,q_DipError];exact u_NoText
  is_NoText_DipError:=by rw[q_NoText,q_DipError];exact ZR ne_NoText_DipError d_DipError y_DipError i_NoText_DipError
  is_NoText_Unlike:=by rw[q_NoText,q_Unlike];exact ZR ne_NoText_Unlike d_Unlike y_Unlike i_NoText_Unlike
  is_NoText_Empty:=by rw[q_NoText,q_Empty];exact ZR ne_NoText_Empty d_Empty y_Empty i_NoText_Empty
  is_NoText_TooMany:=by rw[q_NoText,q_TooMany];exact ZR ne_NoText_TooMany d_TooMany y_TooMany i_NoText_TooMany
  is_NoText_NoTree:=by rw[q_NoText,q_NoTree];exact ZR ne_NoText_NoTree d_NoTree y_NoTree i_NoText_NoTree
  is_NoText_NoTelling:=by rw[q_NoText,q_NoTelling];exact ZR ne_NoText_NoTelling d_NoTelling y_NoTelling i_NoText_NoTelling
  is_NoText_NoPlace:=by rw[q_NoText,q_NoPlace];exact ZR ne_NoText_NoPlace d_NoPlace y_NoPlace i_NoText_NoPlace
  is_NoText_NoNumber:=by rw[q_NoText,q_NoNumber];exact ZR ne_NoText_NoNumber d_NoNumber y_NoNumber i_NoText_NoNumber
  is_NoText_NoPast:=by rw[q_NoText,q_NoPast];exact ZR ne_NoText_NoPast d_NoPast y_NoPast i_NoText_NoPast
  is_NoText_NoText:=by rw[q_NoText];exact ZeH
  is_NoText_NoLine:=by rw[q_NoText,q_NoLine];exact ZR ne_NoText_NoLine d_NoLine y_NoLine i_NoText_NoLine
  is_NoText_V:=by rw[q_NoText];exact kit_V i_NoText_V
  ex_NoTelling:=by rw[q_NoTelling];exact⟨z1_NoTelling,z2_NoTelling,z3_NoTelling,z4_NoTelling,z5_NoTelling,z6_NoTelling,z7_NoTelling,z8_NoTelling⟩
  up_NoTelling:=by rw[q_NoTelling,q_DipError];exact u_NoTelling
  ups_NoTelling:=by rw[q_NoTelling];exact us_NoTelling
  is_NoTelling_DipError:=by rw[q_NoTelling,q_DipError];exact ZR ne_NoTelling_DipError d_DipError y_DipError i_NoTelling_DipError
  is_NoTelling_Unlike:=by rw[q_NoTelling,q_Unlike];exact ZR ne_NoTelling_Unlike d_Unlike y_Unlike i_NoTelling_Unlike
  is_NoTelling_Empty:=by rw[q_NoTelling,q_Empty];exact ZR ne_NoTelling_Empty d_Empty y_Empty i_NoTelling_Empty
  is_NoTelling_TooMany:=by rw[q_NoTelling,q_TooMany];exact ZR ne_NoTelling_TooMany d_TooMany y_TooMany i_NoTelling_TooMany
  is_NoTelling_NoTree:=by rw[q_NoTelling,q_NoTree];exact ZR ne_NoTelling_NoTree d_NoTree y_NoTree i_NoTelling_NoTree
  is_NoTelling_NoTelling:=by rw[q_NoTelling];exact ZeH
  is_NoTelling_NoPlace:=by rw[q_NoTelling,q_NoPlace];exact ZR ne_NoTelling_NoPlace d_NoPlace y_NoPlace i_NoTelling_NoPlace
  is_NoTelling_NoNumber:=by rw[q_NoTelling,q_NoNumber];exact ZR ne_NoTelling_NoNumber d_NoNumber y_NoNumber i_NoTelling_NoNumber
  is_NoTelling_NoPast:=by rw[q_NoTelling,q_NoPast];exact ZR ne_NoTelling_NoPast d_NoPast y_NoPast i_NoTelling_NoPast
  is_NoTelling_NoText:=by rw[q_NoTelling,q_NoText];exact ZR ne_NoTelling_NoText d_NoText y_NoText i_NoTelling_NoText
  is_NoTelling_NoLine:=by rw[q_NoTelling,q_NoLine];exact ZR ne_NoTelling_NoLine d_NoLine y_NoLine i_NoTelling_NoLine
  is_NoTelling_V:=by rw[q_NoTelling];exact kit_V i_NoTelling_V
  m_MOST_PLACES:=by rw[q_MOST_PLACES];exact mg_of X G m_MOST_PLACES
  m_NOTHING:=by rw[q_NOTHING];exact mg_of X G m_NOTHING
  m_MOST_FIGURES:=by rw[q_MOST_FIGURES];exact mg_of X G m_MOST_FIGURES
 }
 obtain⟨Zkt,Zku,Zkv,Zhp⟩:=Ze1
 have Zhq:=ZE (st:=s_settle) Zku Zkv Zhp
 have Zkw:=Zhq.binds (ps:=["elders","spine","place","keep"]) λ_ _ _ _ _ _ us hl=>by obtain⟨x0,u0,rfl,h0⟩:=le1 hl;obtain⟨x1,u1,rfl,h1⟩:=le1 h0;obtain⟨x2,u2,rfl,h2⟩:=le1 h1;obtain⟨x3,u3,rfl,h3⟩:=le1 h2;obtain rfl:=le0 h3;exact rfl
 obtain⟨Zjz,ZjA,ZjB,Zf0⟩:=ZdO
 have Zf1:=ZE (st:=s_tree_of) ZjA ZjB Zf0
 have ZjC:=Zf1.binds (ps:=["row"]) λ_ _ _ _ _ _ us hl=>by obtain⟨x0,u0,rfl,h0⟩:=le1 hl;obtain rfl:=le0 h0;exact rfl
 obtain⟨Zkx,Zky,Zkz,Zhr⟩:=Ze2
 have Zhs:=ZE (st:=s_way_up) Zky Zkz Zhr
 have ZkA:=Zhs.binds (ps:=["tree","place"]) λ_ _ _ _ _ _ us hl=>by rfl'
 obtain⟨ZjD,ZjE,ZjF,Zf2⟩:=ZdP
 have Zf3:=ZE (st:=s_is_tree) ZjE ZjF Zf2
 have ZjG:=Zf3.binds (ps:=["tree"]) λ_ _ _ _ _ _ us hl=>by obtain⟨x0,u0,rfl,h0⟩:=le1 hl;obtain rfl:=le0 h0;exact rfl
 obtain⟨Zht,Zhu,Zhv,ZdX⟩:=Zcg
 have ZdY:=ZE (st:=s_need_tree) Zhu Zhv ZdX
 have Zhw:=ZdY.binds (ps:=["tree"]) λ_ _ _ _ _ _ us hl=>by obtain⟨x0,u0,rfl,h0⟩:=le1 hl;obtain rfl:=le0 h0;exact rfl
 obtain⟨Zhx,Zhy,Zhz,ZdZ⟩:=Zch
 have Zd0:=ZE (st:=s_fences_of) Zhy Zhz ZdZ
 have ZhA:=Zd0.binds (ps:=["tree"]) λ_ _ _ _ _ _ us hl=>by obtain⟨x0,u0,rfl,h0⟩:=le1 hl;obtain rfl:=le0 h0;exact rfl
 obtain⟨Zik,Zil,Zim,Ze3⟩:=ZcT
 have Ze4:=ZE (st:=s_drops_of) Zil Zim Ze3
 have Zin:=Ze4.binds (ps:=["tree"]) λ_ _ _ _ _ _ us hl=>by obtain⟨x0,u0,rfl,h0⟩:=le1 hl;obtain rfl:=le0 h0;exact rfl
 obtain⟨Zfk,Zfl,Zfm,Zcy⟩:=Zbj
 have Zcz:=ZE (st:=s_brackets_of) Zfl Zfm Zcy
 have Zfn:=Zcz.binds (ps:=["tree"]) λ_ _ _ _ _ _ us hl=>by obtain⟨x0,u0,rfl,h0⟩:=le1 hl;obtain rfl:=le0 h0;exact rfl
 obtain⟨Zgy,Zgz,ZgA,Zdk⟩:=ZbK
 have Zdl:=ZE (st:=s_need_short) Zgz ZgA Zdk
 have ZgB:=Zdl.binds (ps:=["told"]) λ_ _ _ _ _ _ us hl=>by obtain⟨x0,u0,rfl,h0⟩:=le1 hl;obtain rfl:=le0 h0;exact rfl
 obtain⟨Zio,Ziq,Zir,Ze5⟩:=ZcU
 have Ze6:=ZE (st:=s_by_drops) Ziq Zir Ze5
 have Zis:=Ze6.binds (ps:=["told"]) λ_ _ _ _ _ _ us hl=>by obtain⟨x0,u0,rfl,h0⟩:=le1 hl;obtain rfl:=le0 h0;exact rfl
 obtain⟨Zfo,Zfp,Zfq,ZcA⟩:=Zbk
 have ZcB:=ZE (st:=s_by_brackets) Zfp Zfq ZcA
 have Zfr:=ZcB.binds (ps:=["text"]) λ_ _ _ _ _ _ us hl=>by obtain⟨x0,u0,rfl,h0⟩:=le1 hl;obtain rfl:=le0 h0;exact rfl
 obtain⟨Zit,Ziu,Ziv,Ze7⟩:=ZcV
 have Ze8:=ZE (st:=s_row_text) Ziu Ziv Ze7
 have Ziw:=Ze8.binds (ps:=["row"]) λ_ _ _ _ _ _ us hl=>by obtain⟨x0,u0,rfl,h0⟩:=le1 hl;obtain rfl:=le0 h0;exact rfl
 obtain⟨ZhB,ZhC,ZhD,Zd1⟩:=Zci
 have Zd2:=ZE (st:=s_tree_text) ZhC ZhD Zd1
 have ZhE:=Zd2.binds (ps:=["tree"]) λ_ _ _ _ _ _ us hl=>by obtain⟨x0,u0,rfl,h0⟩:=le1 hl;obtain rfl:=le0 h0;exact rfl
 obtain⟨Zfs,Zft,Zfu,ZcC⟩:=Zbl
 have ZcD:=ZE (st:=s_read_number) Zft Zfu ZcC
 have Zfv:=ZcD.binds (ps:=["word"]) λ_ _ _ _ _ _ us hl=>by obtain⟨x0,u0,rfl,h0⟩:=le1 hl;obtain rfl:=le0 h0;exact rfl
 obtain⟨Zix,Ziy,Ziz,Ze9⟩:=ZcW
 have Zfa:=ZE (st:=s_read_row) Ziy Ziz Ze9
 have ZiA:=Zfa.binds (ps:=["text"]) λ_ _ _ _ _ _ us hl=>by obtain⟨x0,u0,rfl,h0⟩:=le1 hl;obtain rfl:=le0 h0;exact rfl
 obtain⟨ZhF,ZhG,ZhH,Zd3⟩:=Zcj
 have Zd4:=ZE (st:=s_read_tree) ZhG ZhH Zd3
 have ZhI:=Zd4.binds (ps:=["text"]) λ_ _ _ _ _ _ us hl=>by obtain⟨x0,u0,rfl,h0⟩:=le1 hl;obtain rfl:=le0 h0;exact rfl
 obtain⟨ZiB,ZiC,ZiD,Zfb⟩:=ZcX
 have Zfc:=ZE (st:=s__law_pot) ZiC ZiD Zfb
 have ZiE:=Zfc.binds (ps:=["script","k"]) λ_ _ _ _ _ _ us hl=>by rfl'
 obtain⟨ZhJ,ZhK,ZhL,Zd5⟩:=Zck
 have Zd6:=ZE (st:=s__law_take) ZhK ZhL Zd5
 have ZhM:=Zd6.binds (ps:=["pot","many"]) λ_ _ _ _ _ _ us hl=>by rfl'
 obtain⟨ZiF,ZiG,ZiH,Zfd⟩:=ZcY
 have Zfe:=ZE (st:=s__law_row) ZiG ZiH Zfd
 have ZiI:=Zfe.binds (ps:=["pot","most"]) λ_ _ _ _ _ _ us hl=>by rfl'
 obtain⟨ZgC,ZgD,ZgE,Zdm⟩:=ZbL
 have Zdn:=ZE (st:=s__law_drops) ZgD ZgE Zdm
 have ZgF:=Zdn.binds (ps:=["row"]) λ_ _ _ _ _ _ us hl=>by obtain⟨x0,u0,rfl,h0⟩:=le1 hl;obtain rfl:=le0 h0;exact rfl
 obtain⟨Zeb,Zec,Zed,ZbQ⟩:=ZaO
 have ZbR:=ZE (st:=s__law_brackets) Zec Zed ZbQ
 have Zee:=ZbR.binds (ps:=["drops"]) λ_ _ _ _ _ _ us hl=>by obtain⟨x0,u0,rfl,h0⟩:=le1 hl;obtain rfl:=le0 h0;exact rfl
 obtain⟨Zcq,Zcr,Zcs,ZaS⟩:=Zaj
 have ZaT:=ZE (st:=s__law_are_brackets) Zcr Zcs ZaS
 have Zct:=ZaT.binds (ps:=["text"]) λ_ _ _ _ _ _ us hl=>by obtain⟨x0,u0,rfl,h0⟩:=le1 hl;obtain rfl:=le0 h0;exact rfl
 obtain⟨Zef,Zeg,Zeh,ZbS⟩:=ZaP
 have ZbT:=ZE (st:=s__law_any_sign) Zeg Zeh ZbS
 have Zei:=ZbT.binds (ps:=["pot"]) λ_ _ _ _ _ _ us hl=>by obtain⟨x0,u0,rfl,h0⟩:=le1 hl;obtain rfl:=le0 h0;exact rfl
 obtain⟨Zfw,Zfx,Zfy,ZcE⟩:=Zbm
 have ZcF:=ZE (st:=s__law_spoilt) Zfx Zfy ZcE
 have Zfz:=ZcF.binds (ps:=["pot","text","often"]) λ_ _ _ _ _ _ us hl=>by obtain⟨x0,u0,rfl,h0⟩:=le1 hl;obtain⟨x1,u1,rfl,h1⟩:=le1 h0;obtain⟨x2,u2,rfl,h2⟩:=le1 h1;obtain rfl:=le0 h2;exact rfl
 obtain⟨ZcZ,Zc0,Zc1,Za4⟩:=Zap
 have Za5:=ZE (st:=s__law_number_read) Zc0 Zc1 Za4
 have Zc2:=Za5.binds (ps:=["word"]) λ_ _ _ _ _ _ us hl=>by obtain⟨x0,u0,rfl,h0⟩:=le1 hl;obtain rfl:=le0 h0;exact rfl
 obtain⟨Zej,Zek,Zel,ZbU⟩:=ZaQ
 have ZbV:=ZE (st:=s__law_row_read) Zek Zel ZbU
 have Zem:=ZbV.binds (ps:=["text"]) λ_ _ _ _ _ _ us hl=>by obtain⟨x0,u0,rfl,h0⟩:=le1 hl;obtain rfl:=le0 h0;exact rfl
 obtain⟨Zen,Zeo,Zep,ZbW⟩:=ZaR
 have ZbX:=ZE (st:=s__law_row_text) Zeo Zep ZbW
 have Zeq:=ZbX.binds (ps:=["row"]) λ_ _ _ _ _ _ us hl=>by obtain⟨x0,u0,rfl,h0⟩:=le1 hl;obtain rfl:=le0 h0;exact rfl
 obtain⟨ZgG,ZgH,ZgI,Zdo⟩:=ZbM
 have Zdp:=ZE (st:=s__law_kinds) ZgH ZgI Zdo
 have ZgJ:=Zdp.binds (ps:=["e"]) λ_ _ _ _ _ _ us hl=>by obtain⟨x0,u0,rfl,h0⟩:=le1 hl;obtain rfl:=le0 h0;exact rfl
 obtain⟨ZgK,ZgL,ZgM,Zdq⟩:=ZbN
 have Zdr:=ZE (st:=s__law_alone) ZgL ZgM Zdq
 have ZgN:=Zdr.binds (ps:=["e","at"]) λ_ _ _ _ _ _ us hl=>by rfl'
 obtain⟨ZgO,ZgP,ZgQ,Zds⟩:=ZbO
 have Zdt:=ZE (st:=s__law_asked) ZgP ZgQ Zds
 have ZgR:=Zdt.binds (ps:=["way","text"]) λ_ _ _ _ _ _ us hl=>by rfl'
 obtain⟨ZgS,ZgT,ZgU,Zdu⟩:=ZbP
 have Zdv:=ZE (st:=s__law_right) ZgT ZgU Zdu
 have ZgV:=Zdv.binds (ps:=["way","text"]) λ_ _ _ _ _ _ us hl=>by rfl'
 have Zk3:=ZE (st:=s_law) Zkp Zkr Zks
 refine⟨fnOf "law" "law" (defArgs s_law) (defBody s_law) (defScope s_law) .none ZkY ZkZ Zk0 Zk1 Zkq Zk2,λs v=>.of_eq rfl,λbase _ _=>?_⟩
 have ZcS:Callee l.prog w K mg base "_law_pot" 1 ["script","k"] (sp__law_pot K mg):=⟨_,_,mg_of X G ZiB,Zfb,ZiE,ok__law_pot Zfc T⟩
 have Zn:Callee l.prog w K mg base "_law_take" 1 ["pot","many"] (sp__law_take K mg):=⟨_,_,mg_of X G ZhJ,Zd5,ZhM,ok__law_take Zd6 T⟩
 have ZbI:Callee l.prog w K mg base "_law_row" 2 ["pot","most"] (sp__law_row K mg):=⟨_,_,mg_of X G ZiF,Zfd,ZiI,ok__law_row Zfe Zn T⟩
 have ZbJ:Callee l.prog w K mg base "_law_drops" 1 ["row"] (sp__law_drops K mg):=⟨_,_,mg_of X G ZgC,Zdm,ZgF,ok__law_drops Zdn T⟩
 have ZaM:Callee l.prog w K mg base "_law_brackets" 1 ["drops"] (sp__law_brackets K mg):=⟨_,_,mg_of X G Zeb,ZbQ,Zee,ok__law_brackets ZbR T⟩
 have ZaL:Callee l.prog w K mg base "_law_any_sign" 2 ["pot"] (sp__law_any_sign K mg):=⟨_,_,mg_of X G Zef,ZbS,Zei,ok__law_any_sign ZbT Zn T⟩
 have Zbi:Callee l.prog w K mg base "_law_spoilt" 3 ["pot","text","often"] (sp__law_spoilt K mg):=⟨_,_,mg_of X G Zfw,ZcE,Zfz,ok__law_spoilt ZcF Zn ZaL T⟩
 have ZaN:Callee l.prog w K mg base "_law_row_text" 1 ["row"] (sp__law_row_text K mg):=⟨_,_,mg_of X G Zen,ZbW,Zeq,ok__law_row_text ZbX T⟩
 have Zbf:Callee l.prog w K mg base "read_number" 1 ["word"] (sp_read_number K mg):=⟨_,_,mg_of X G Zfs,ZcC,Zfv,ok_read_number ZcD T⟩
 have ZaI:Callee l.prog w K mg base "read_row" 2 ["text"] (sp_read_row K mg):=⟨_,_,mg_of X G Zix,Ze9,ZiA,ok_read_row Zfa Zbf T⟩
 have Zai:Callee l.prog w K mg base "_law_are_brackets" 1 ["text"] (sp__law_are_brackets K mg):=⟨_,_,mg_of X G Zcq,ZaS,Zct,ok__law_are_brackets ZaT T⟩
 have Zao:Callee l.prog w K mg base "_law_number_read" 1 ["word"] (sp__law_number_read K mg):=⟨_,_,mg_of X G ZcZ,Za4,Zc2,ok__law_number_read Za5 T⟩
 have Zam:Callee l.prog w K mg base "_law_row_read" 2 ["text"] (sp__law_row_read K mg):=⟨_,_,mg_of X G Zej,ZbU,Zem,ok__law_row_read ZbV Zao T⟩
 have ZbE:Callee l.prog w K mg base "_law_kinds" 1 ["e"] (sp__law_kinds K mg):=⟨_,_,mg_of X G ZgG,Zdo,ZgJ,ok__law_kinds Zdp T⟩
 have ZbG:Callee l.prog w K mg base "_law_alone" 2 ["e","at"] (sp__law_alone K mg):=⟨_,_,mg_of X G ZgK,Zdq,ZgN,ok__law_alone Zdr ZbE T⟩
 have ZcR:Callee l.prog w K mg base "row_text" 1 ["row"] (sp_row_text K mg):=⟨_,_,mg_of X G Zit,Ze7,Ziw,ok_row_text Ze8 T⟩
 have Zbs:Callee l.prog w K mg base "settle" 1 ["elders","spine","place","keep"] (sp_settle K mg):=⟨_,_,mg_of X G Zkt,Zhp,Zkw,ok_settle Zhq T⟩
 have ZdM:Callee l.prog w K mg base "tree_of" 2 ["row"] (sp_tree_of K mg):=⟨_,_,mg_of X G Zjz,Zf0,ZjC,ok_tree_of Zf1 Zbs T⟩
 have Zbt:Callee l.prog w K mg base "way_up" 1 ["tree","place"] (sp_way_up K mg):=⟨_,_,mg_of X G Zkx,Zhr,ZkA,ok_way_up Zhs T⟩
 have ZdN:Callee l.prog w K mg base "is_tree" 3 ["tree"] (sp_is_tree K mg):=⟨_,_,mg_of X G ZjD,Zf2,ZjG,ok_is_tree Zf3 ZdM Zbt T⟩
 have Zcc:Callee l.prog w K mg base "need_tree" 4 ["tree"] (sp_need_tree K mg):=⟨_,_,mg_of X G Zht,ZdX,Zhw,ok_need_tree ZdY ZdN T⟩
 have Zcd:Callee l.prog w K mg base "fences_of" 2 ["tree"] (sp_fences_of K mg):=⟨_,_,mg_of X G Zhx,ZdZ,ZhA,ok_fences_of Zd0 Zbt T⟩
 have ZcP:Callee l.prog w K mg base "drops_of" 5 ["tree"] (sp_drops_of K mg):=⟨_,_,mg_of X G Zik,Ze3,Zin,ok_drops_of Ze4 Zcc Zcd T⟩
 have Zbg:Callee l.prog w K mg base "brackets_of" 6 ["tree"] (sp_brackets_of K mg):=⟨_,_,mg_of X G Zfk,Zcy,Zfn,ok_brackets_of Zcz ZcP T⟩
 have Zce:Callee l.prog w K mg base "tree_text" 7 ["tree"] (sp_tree_text K mg):=⟨_,_,mg_of X G ZhB,Zd1,ZhE,ok_tree_text Zd2 Zbg T⟩
 have ZbF:Callee l.prog w K mg base "need_short" 1 ["told"] (sp_need_short K mg):=⟨_,_,mg_of X G Zgy,Zdk,ZgB,ok_need_short Zdl T⟩
 have ZcQ:Callee l.prog w K mg base "by_drops" 2 ["told"] (sp_by_drops K mg):=⟨_,_,mg_of X G Zio,Ze5,Zis,ok_by_drops Ze6 Zbs ZbF T⟩
 have Zbh:Callee l.prog w K mg base "by_brackets" 3 ["text"] (sp_by_brackets K mg):=⟨_,_,mg_of X G Zfo,ZcA,Zfr,ok_by_brackets ZcB ZcQ T⟩
 have Zcf:Callee l.prog w K mg base "read_tree" 4 ["text"] (sp_read_tree K mg):=⟨_,_,mg_of X G ZhF,Zd3,ZhI,ok_read_tree Zd4 Zbh T⟩
 have ZbH:Callee l.prog w K mg base "_law_asked" 8 ["way","text"] (sp__law_asked K mg):=⟨_,_,mg_of X G ZgO,Zds,ZgR,ok__law_asked Zdt ZcR Zce ZaI Zcf T⟩
 have Zaf:Callee l.prog w K mg base "_law_right" 9 ["way","text"] (sp__law_right K mg):=⟨_,_,mg_of X G ZgS,Zdu,ZgV,ok__law_right Zdv ZaI Zai Zam ZbG ZbH T⟩
 exact ok_law Zk3 ZcS Zn ZbI ZbJ ZaM Zbi ZaN Zaf T
theorem walk {l:PySem.W.OpenLaw}{q:Program}{loose:List Str}{XP:(Str->Option Value)->Heap->Prop}{YP:World->Heap->Prop}{d:DefRec}{K:Params->PySem.W.Frag} (hn:l.most=some 63) (hdf:d.params.defaults=[])
  (hY:∀(w:World) (h:Heap),YP w h->(K w.params).In h)
  (F:∀(w:World) (mg:Str->Option Value) (fa:Addr) (h:Heap),(K w.params).In h->h.Ns mainGlobals mg->mg d.name=some (.ref fa) ->
   ∃fd:FuncData,(∀(s:Shared) (u:Value),BindsTo s fd ⟨[u],[]⟩ [("script",u)])/\∀base:Heap,(K w.params).In base->base.Ns mainGlobals mg->FnOk l.prog w (K w.params) mg base (CXE l.prog w) 10 fa fd ["script"] (spLaw (K w.params))) :
  PySem.W.WalkO q loose XP YP l.row.toRowW d [] (λf vs=>PySem.call f vs) :=
 Lake.ZkH (n:=63) (k:=10) (x:="script") (CX:=λw=>CXE l.prog w) (sp:=λw=>spLaw (K w.params)) hn nofun hdf ⟨rfl,by decide,by decide⟩ hY F (λ_ _ a ns hl _ hS=>⟨a,ns,rfl,hS,hl,λ_=>rfl⟩) λ_ _ _ _ _ ⟨_,_,_,_,_,_,_,_,z,_⟩=>z
end Internal
def PySem.W.Fast.tw10552913145943326206:Unit:=()
def PySem.W.Fast.tw10984338714854989854:Unit:=()
def PySem.W.Fast.tw6447086803657908460:Unit:=()
def PySem.W.Fast.tw10845710928525128477:Unit:=()
def PySem.W.Fast.tw12484967410064991867:Unit:=()
def PySem.W.Fast.tw16774398127340653622:Unit:=()
def PySem.W.Fast.tw14307748827578361866:Unit:=()
def PySem.W.Fast.tw12750094554894178212:Unit:=()
def PySem.W.Fast.tw9832533052566420689:Unit:=()
def PySem.W.Fast.tw15927901090028563034:Unit:=()
def PySem.W.Fast.tw6630900658042531920:Unit:=()
def PySem.W.Fast.tw3629626000007746990:Unit:=()
def PySem.W.Fast.tw17397569375724456163:Unit:=()
def PySem.W.Fast.tw17829867293500144281:Unit:=()
def PySem.W.Fast.tw4705588068992130246:Unit:=()
def PySem.W.Fast.tw7657967071362369420:Unit:=()
def PySem.W.Fast.tw5109417368862858571:Unit:=()
def PySem.W.Fast.tw15265081542886611225:Unit:=()
def PySem.W.Fast.tw15576598651172719188:Unit:=()
def PySem.W.Fast.tw2221016603313386826:Unit:=()
def PySem.W.Fast.tw15822198836354939974:Unit:=()
def PySem.W.Fast.tw10471911748855553103:Unit:=()
def PySem.W.Fast.tw12055794788949206062:Unit:=()
def PySem.W.Fast.tw9643808106053651500:Unit:=()
def PySem.W.Fast.tw9501794669935625182:Unit:=()
def PySem.W.Fast.tw6303727675729820060:Unit:=()
def PySem.W.Fast.tw12561134315209853924:Unit:=()
def PySem.W.Fast.tw7047867147375837596:Unit:=()
def PySem.W.Fast.tw1565157615197713264:Unit:=()
def PySem.W.Fast.tw10902979559654744624:Unit:=()
def PySem.W.Fast.tw14270551862550520938:Unit:=()
def PySem.W.Fast.tw6429955838146931022:Unit:=()
def PySem.W.Fast.tw13721839061641773986:Unit:=()
def PySem.W.Fast.tw1291431408649566236:Unit:=()
def PySem.W.Fast.tw13431960290926643929:Unit:=()
def PySem.W.Fast.tw7862958718224318851:Unit:=()
def PySem.W.Fast.tw12115324056525988127:Unit:=()
def PySem.W.Fast.tw12310217127067788611:Unit:=()
def PySem.W.Fast.tw9196293191380006934:Unit:=()
def PySem.W.Fast.tw16147838427033145009:Unit:=()
def PySem.W.Fast.tw9549631849573917778:Unit:=()
def PySem.W.Fast.tw2029793445780879734:Unit:=()
def PySem.W.Fast.tw13230891409670977189:Unit:=()
def PySem.W.Fast.tw9792707841525070868:Unit:=()
def PySem.W.Fast.tw5854384940200035661:Unit:=()
def PySem.W.Fast.tw7643516188537053888:Unit:=()
def PySem.W.Fast.tw8936565138966317329:Unit:=()
def PySem.W.Fast.tw708653353160215558:Unit:=()
def PySem.W.Fast.tw1660543472227566693:Unit:=()
def PySem.W.Fast.tw3405544314019870334:Unit:=()
def PySem.W.Fast.tw17881486446368181492:Unit:=()
def PySem.W.Fast.tw15772753425742400605:Unit:=()
def PySem.W.Fast.tw11385186465218129314:Unit:=()
def PySem.W.Fast.tw5882198727384731133:Unit:=()
def PySem.W.Fast.tw10225759771726970928:Unit:=()
def PySem.W.Fast.tw15854208775976518837:Unit:=()
def PySem.W.Fast.tw10035641233046906657:Unit:=()
def PySem.W.Fast.tw33790694224347887:Unit:=()
def PySem.W.Fast.tw3264733612285806453:Unit:=()
def PySem.W.Fast.tw14115520135664732744:Unit:=()
def PySem.W.Fast.tw5849445010152430035:Unit:=()
def PySem.W.Fast.tw6132025805462450659:Unit:=()
def PySem.W.Fast.tw3795414183314068229:Unit:=()
def PySem.W.Fast.tw9372495602077267280:Unit:=()
def PySem.W.Fast.tw17779179764435689138:Unit:=()
def PySem.W.Fast.tw11603349923807633933:Unit:=()
def PySem.W.Fast.tw9700098008170582573:Unit:=()
def PySem.W.Fast.tw1082763003753998525:Unit:=()
def PySem.W.Fast.tw11854814836894296838:Unit:=()
def PySem.W.Fast.tw12820116718712416161:Unit:=()
def PySem.W.Fast.tw16651219932883922079:Unit:=()
def PySem.W.Fast.tw6245268616889706051:Unit:=()
def PySem.W.Fast.tw16347114929211052868:Unit:=()
def PySem.W.Fast.tw16591365231237753411:Unit:=()
def PySem.W.Fast.tw4661343901120244677:Unit:=()
def PySem.W.Fast.tw11518845142432714677:Unit:=()
def PySem.W.Fast.tw15741456254509022908:Unit:=()
def PySem.W.Fast.tw3042035108437580704:Unit:=()
def PySem.W.Fast.tw4548925205255107819:Unit:=()
def PySem.W.Fast.tw11582664595064133642:Unit:=()
def PySem.W.Fast.tw5403609849659039556:Unit:=()
def PySem.W.Fast.tw6192664319079984259:Unit:=()
def PySem.W.Fast.tw13560041359149298681:Unit:=()
def PySem.W.Fast.tw4700658405989884868:Unit:=()
def PySem.W.Fast.tw16046135318523683183:Unit:=()
def PySem.W.Fast.tw15319195647919466378:Unit:=()
def PySem.W.Fast.tw6455458974870491536:Unit:=()
def PySem.W.Fast.tw17807369686202335097:Unit:=()
def PySem.W.Fast.tw17602507939914248:Unit:=()
def PySem.W.Fast.tw14758846797032808300:Unit:=()
def PySem.W.Fast.tw5231321900658582781:Unit:=()
def PySem.W.Fast.tw135999278698057069:Unit:=()
def PySem.W.Fast.tw3707190159544090776:Unit:=()
def PySem.W.Fast.tw5062947532020423269:Unit:=()
def PySem.W.Fast.tw5583837222152283647:Unit:=()
def PySem.W.Fast.tw2126792664281869303:Unit:=()
def PySem.W.Fast.tw6946865756206603957:Unit:=()
def PySem.W.Fast.tw14114587949873748403:Unit:=()
def PySem.W.Fast.tw4527957309518420925:Unit:=()
def PySem.W.Fast.tw17964789632116204134:Unit:=()
def PySem.W.Fast.tw18335614731050271014:Unit:=()
def PySem.W.Fast.tw17094376301936306346:Unit:=()
open PySem PySem.W PyProof.Rows
set_option maxRecDepth 100000 in
set_option maxHeartbeats 0 in
theorem PySem.Challenge.cw_dipkin_k80_texts_of_no_row_no_tree_holds : PySem.Challenge.rw_dipkin_k80_texts_of_no_row_no_tree.Holds := by
 w_on;o_law;k_head;(case hw=>w_witness2)
 k_fill
 refine Internal.walk (l:=PySem.Challenge.rw_dipkin_k80_texts_of_no_row_no_tree) rfl rfl (λw h Y=>PySem.W.kIn_of Y) ?F
 case F =>
  intro w mg fa h KX G hmg
  refine' Internal.all_mk KX G hmg ?Ze1 ?ZdO ?Ze2 ?ZdP ?Zcg ?Zch ?ZcT ?Zbj ?ZbK ?ZcU ?Zbk ?ZcV ?Zci ?Zbl ?ZcW ?Zcj ?ZcX ?Zck ?ZcY ?ZbL ?ZaO ?Zaj ?ZaP ?Zbm ?Zap ?ZaQ ?ZaR ?ZbM ?ZbN ?ZbO ?ZbP ?Zko ?Zkp ?Zkr ?Zks ?n_DipError ?x_DipError ?d_DipError ?y_DipError ?n_Unlike ?x_Unlike ?d_Unlike ?y_Unlike ?n_Empty ?x_Empty ?d_Empty ?y_Empty ?n_TooMany ?x_TooMany ?d_TooMany ?y_TooMany ?n_NoTree ?x_NoTree ?d_NoTree ?y_NoTree ?n_NoTelling ?x_NoTelling ?d_NoTelling ?y_NoTelling ?n_NoPlace ?x_NoPlace ?d_NoPlace ?y_NoPlace ?n_NoNumber ?x_NoNumber ?d_NoNumber ?y_NoNumber ?n_NoPast ?x_NoPast ?d_NoPast ?y_NoPast ?n_NoText ?x_NoText ?d_NoText ?y_NoText ?n_NoLine ?x_NoLine ?d_NoLine ?y_NoLine ?z1_NoText ?z2_NoText ?z3_NoText ?z4_NoText ?z5_NoText ?z6_NoText ?z7_NoText ?z8_NoText ?u_NoText ?i_NoText_DipError ?ne_NoText_DipError ?i_NoText_Unlike ?ne_NoText_Unlike ?i_NoText_Empty ?ne_NoText_Empty ?i_NoText_TooMany ?ne_NoText_TooMany ?i_NoText_NoTree ?ne_NoText_NoTree ?i_NoText_NoTelling ?ne_NoText_NoTelling ?i_NoText_NoPlace ?ne_NoText_NoPlace ?i_NoText_NoNumber ?ne_NoText_NoNumber ?i_NoText_NoPast ?ne_NoText_NoPast ?i_NoText_NoLine ?ne_NoText_NoLine ?i_NoText_V ?z1_NoTelling ?z2_NoTelling ?z3_NoTelling ?z4_NoTelling ?z5_NoTelling ?z6_NoTelling ?z7_NoTelling ?z8_NoTelling ?u_NoTelling ?us_NoTelling ?i_NoTelling_DipError ?ne_NoTelling_DipError ?i_NoTelling_Unlike ?ne_NoTelling_Unlike ?i_NoTelling_Empty ?ne_NoTelling_Empty ?i_NoTelling_TooMany ?ne_NoTelling_TooMany ?i_NoTelling_NoTree ?ne_NoTelling_NoTree ?i_NoTelling_NoPlace ?ne_NoTelling_NoPlace ?i_NoTelling_NoNumber ?ne_NoTelling_NoNumber ?i_NoTelling_NoPast ?ne_NoTelling_NoPast ?i_NoTelling_NoText ?ne_NoTelling_NoText ?i_NoTelling_NoLine ?ne_NoTelling_NoLine ?i_NoTelling_V ?b_ValueError ?b_all ?b_any ?b_enumerate ?b_int ?b_isinstance ?b_len ?b_max ?b_min ?b_range ?b_str ?b_sum ?b_tuple ?m_MOST_PLACES ?m_NOTHING ?m_MOST_FIGURES
  (case Ze1|ZdO|Ze2|ZdP|Zcg|Zch|ZcT|Zbj|ZbK|ZcU|Zbk|ZcV|Zci|Zbl|ZcW|Zcj|ZcX|Zck|ZcY|ZbL|ZaO|Zaj|ZaP|Zbm|Zap|ZaQ|ZaR|ZbM|ZbN|ZbO|ZbP=>refine' Internal.DefAt.mk ?a ?b ?c ?d;(case a=>k_is);(case b=>k_is);(case c=>k_is);(case d=>k_is))
  (case Zko|Zkp|Zkr|Zks|n_DipError=>k_is)
  (case x_DipError=>k_exc)
  (case d_DipError|y_DipError|n_Unlike=>k_is)
  (case x_Unlike=>k_exc)
  (case d_Unlike|y_Unlike|n_Empty=>k_is)
  (case x_Empty=>k_exc)
  (case d_Empty|y_Empty|n_TooMany=>k_is)
  (case x_TooMany=>k_exc)
  (case d_TooMany|y_TooMany|n_NoTree=>k_is)
  (case x_NoTree=>k_exc)
  (case d_NoTree|y_NoTree|n_NoTelling=>k_is)
  (case x_NoTelling=>k_exc)
  (case d_NoTelling|y_NoTelling|n_NoPlace=>k_is)
  (case x_NoPlace=>k_exc)
  (case d_NoPlace|y_NoPlace|n_NoNumber=>k_is)
  (case x_NoNumber=>k_exc)
  (case d_NoNumber|y_NoNumber|n_NoPast=>k_is)
  (case x_NoPast=>k_exc)
  (case d_NoPast|y_NoPast|n_NoText=>k_is)
  (case x_NoText=>k_exc)
  (case d_NoText|y_NoText|n_NoLine=>k_is)
  (case x_NoLine=>k_exc)
  (case d_NoLine|y_NoLine|z1_NoText|z2_NoText|z3_NoText|z4_NoText|z5_NoText|z6_NoText|z7_NoText|z8_NoText|u_NoText|i_NoText_DipError=>k_is)
  (case ne_NoText_DipError=>decide)
  (case i_NoText_Unlike=>k_is)
  (case ne_NoText_Unlike=>decide)
  (case i_NoText_Empty=>k_is)
  (case ne_NoText_Empty=>decide)
  (case i_NoText_TooMany=>k_is)
  (case ne_NoText_TooMany=>decide)
  (case i_NoText_NoTree=>k_is)
  (case ne_NoText_NoTree=>decide)
  (case i_NoText_NoTelling=>k_is)
  (case ne_NoText_NoTelling=>decide)
  (case i_NoText_NoPlace=>k_is)
  (case ne_NoText_NoPlace=>decide)
  (case i_NoText_NoNumber=>k_is)
  (case ne_NoText_NoNumber=>decide)
  (case i_NoText_NoPast=>k_is)
  (case ne_NoText_NoPast=>decide)
  (case i_NoText_NoLine=>k_is)
  (case ne_NoText_NoLine=>decide)
  (case i_NoText_V|z1_NoTelling|z2_NoTelling|z3_NoTelling|z4_NoTelling|z5_NoTelling|z6_NoTelling|z7_NoTelling|z8_NoTelling|u_NoTelling|us_NoTelling|i_NoTelling_DipError=>k_is)
  (case ne_NoTelling_DipError=>decide)
  (case i_NoTelling_Unlike=>k_is)
  (case ne_NoTelling_Unlike=>decide)
  (case i_NoTelling_Empty=>k_is)
  (case ne_NoTelling_Empty=>decide)
  (case i_NoTelling_TooMany=>k_is)
  (case ne_NoTelling_TooMany=>decide)
  (case i_NoTelling_NoTree=>k_is)
  (case ne_NoTelling_NoTree=>decide)
  (case i_NoTelling_NoPlace=>k_is)
  (case ne_NoTelling_NoPlace=>decide)
  (case i_NoTelling_NoNumber=>k_is)
  (case ne_NoTelling_NoNumber=>decide)
  (case i_NoTelling_NoPast=>k_is)
  (case ne_NoTelling_NoPast=>decide)
  (case i_NoTelling_NoText=>k_is)
  (case ne_NoTelling_NoText=>decide)
  (case i_NoTelling_NoLine=>k_is)
  (case ne_NoTelling_NoLine=>decide)
  (case i_NoTelling_V|b_ValueError|b_all|b_any|b_enumerate|b_int|b_isinstance|b_len|b_max|b_min|b_range|b_str|b_sum|b_tuple|m_MOST_PLACES|m_NOTHING|m_MOST_FIGURES=>k_is)
